import PyProof.Rows.All
import Wide.All
import OpenK.AllK
import Wide.FinOn
import PyProof.EqAt
import PyProof.EqKinds
import PyProof.NeKinds
import PyProof.TupleCall
import PyProof.StrLawsRepr
import KE.KIsAll
import KE.KItem
import KE.KDictOf
import KE.KBytesAny
import Lean
import PySem.Challenge.RW_gapwork_k08_terms_written_and_read
set_option Elab.async false
set_option linter.all false
set_option maxRecDepth 100000
namespace L2
open PySem PySem.Spec PyProof.Rows
abbrev Key:=Sum Int Str
def keyIs:Key->Value->Bool
 |.inl k,v=>Value.isInt k v
 |.inr x,v=>Value.isStrOf x v
def keyH(w:World):Key->Int
 |.inl k=>hashInt k
 |.inr x=>hashStr w x
theorem keyIs_shape:∀{k:Key}{v:Value},keyIs k v=true->(∃i t,k=Sum.inl i/\v=Value.int i t)\/(∃x t,k=Sum.inr x/\v=Value.str x t)
 |.inl i,v,h=>by
  obtain⟨t,e⟩:=Value.isInt_shape (k:=i) (v:=v) h
  exact .inl ⟨i,t,rfl,e⟩
 |.inr x,v,h=>by
  obtain⟨t,e⟩:=Value.isStrOf_shape (x:=x) (v:=v) h
  exact .inr ⟨x,t,rfl,e⟩
theorem keyIs_int(i:Int)(t:Tok):keyIs (.inl i) (.int i t)=true:=by simp[keyIs,Value.isInt]
theorem keyIs_str(x:Str)(t:Tok):keyIs (.inr x) (.str x t)=true:=by simp[keyIs,Value.isStrOf]
theorem key_ll(a b:Int):decide ((Sum.inl a:Key)=Sum.inl b)=(a == b):=by
 by_cases e:a=b
 ·subst e;simp
 ·have h:¬(Sum.inl a:Key)=Sum.inl b:=fun q=>e (Sum.inl.inj q)
  rw[decide_eq_false h]
  exact(beq_eq_false_iff_ne.mpr e).symm
theorem key_rr(a b:Str):decide ((Sum.inr a:Key)=Sum.inr b)=decide (a=b):=by
 by_cases e:a=b
 ·subst e;simp
 ·have h:¬(Sum.inr a:Key)=Sum.inr b:=fun q=>e (Sum.inr.inj q)
  rw[decide_eq_false h,decide_eq_false e]
theorem key_lr(a:Int)(b:Str):decide ((Sum.inl a:Key)=Sum.inr b)=false:=decide_eq_false (fun q=>nomatch q)
theorem key_rl(a:Str)(b:Int):decide ((Sum.inr a:Key)=Sum.inl b)=false:=decide_eq_false (fun q=>nomatch q)
def mixKind(prog:Program)(w:World):PySem.KeyKind prog w Key where
 is:=keyIs
 hash:=keyH w
 inj:=fun v a b ha hb=>by
  rcases keyIs_shape ha with⟨i,t,rfl,rfl⟩|⟨x,t,rfl,rfl⟩
  ·rcases keyIs_shape hb with⟨j,u,rfl,e⟩|⟨y,u,rfl,e⟩
   ·injection e with e1 _;rw[e1]
   ·exact nomatch e
  ·rcases keyIs_shape hb with⟨j,u,rfl,e⟩|⟨y,u,rfl,e⟩
   ·exact nomatch e
   ·injection e with e1 _;rw[e1]
 byValue:=fun k v h=>by
  rcases keyIs_shape h with⟨i,t,rfl,rfl⟩|⟨x,t,rfl,rfl⟩<;>rfl
 pyHash:=fun hv h=>by
  rcases keyIs_shape hv with⟨i,t,rfl,rfl⟩|⟨x,t,rfl,rfl⟩
  ·exact wpAny_pyHash_int h
  ·exact wpAny_pyHash_str h
 eqBool:=fun hu hv h=>by
  rcases keyIs_shape hu with⟨i,t,rfl,rfl⟩|⟨x,t,rfl,rfl⟩
  ·rcases keyIs_shape hv with⟨j,u,rfl,rfl⟩|⟨y,u,rfl,rfl⟩
   ·rw[key_ll]at h;exact wpAny_eqBool_int h
   ·rw[key_lr]at h;exact SeqAt.EqAt.int_str i t y u _ _ _ _ h
  ·rcases keyIs_shape hv with⟨j,u,rfl,rfl⟩|⟨y,u,rfl,rfl⟩
   ·rw[key_rl]at h;exact SeqAt.EqAt.str_int x t j u _ _ _ _ h
   ·rw[key_rr]at h;exact wpAny_eqBool_str h
 «strs»:=fun k x t v h=>by
  rcases keyIs_shape h with⟨i,u,rfl,e⟩|⟨y,u,rfl,e⟩
  ·exact nomatch e
  ·injection e with e1 _
   subst e1
   cases v<;>rfl
theorem mixKind_int(prog:Program)(w:World)(i:Int)(t:Tok):(mixKind prog w).is (.inl i) (.int i t)=true:=keyIs_int i t
theorem mixKind_str(prog:Program)(w:World)(x:Str)(t:Tok):(mixKind prog w).is (.inr x) (.str x t)=true:=keyIs_str x t
inductive V where
 |non|bl (b:Bool)|int (i:Int)|str (x:Str)|byt (b:Array UInt8)|flt (b:UInt64)|ref (a:Addr)|ty (n:String)
 deriving DecidableEq
def RelV:V->Value->Prop
 |.non,u=>u=Value.none
 |.bl b,u=>u=Value.bool b
 |.int i,u=>∃t,u=Value.int i t
 |.str x,u=>∃t,u=Value.str x t
 |.byt b,u=>∃t,u=Value.bytes b t
 |.flt b,u=>∃t,u=Value.float b t
 |.ref a,u=>u=Value.ref a
 |.ty n,u=>u=Value.type n
abbrev Vals:List V->List Value->Prop:=Paired RelV
theorem Vals.length{xs:List V}{us:List Value}(r:Vals xs us):xs.length=us.length:=Paired.length r
theorem Vals.get:∀{xs:List V}{us:List Value}{i:Nat}{x:V},Vals xs us->xs[i]?=some x->∃u,us[i]?=some u/\RelV x u
 |_,_,_,_,.nil,e=>by simp at e
 |_,_,0,_,.cons r _,e=>by simp at e;subst e;exact⟨_,rfl,r⟩
 |_,_,i+1,x,.cons _ t,e=>by
  obtain⟨u,h1,h2⟩:=Vals.get (i:=i) (x:=x) t (by simpa using e)
  exact⟨u,by simpa using h1,h2⟩
theorem Vals.set{x:V}{u:Value}(r:RelV x u):∀{xs:List V}{us:List Value}(i:Nat),Vals xs us->Vals (xs.set i x) (us.set i u)
 |_,_,_,.nil=>.nil
 |_,_,0,.cons _ t=>.cons r t
 |_,_,i+1,.cons q t=>.cons q (Vals.set r i t)
theorem Vals.append:∀{xs ys:List V}{us ws:List Value},Vals xs us->Vals ys ws->Vals (xs++ys) (us++ws)
 |_,_,_,_,.nil,s=>s
 |_,_,_,_,.cons r t,s=>.cons r (Vals.append t s)
theorem Vals.take:∀{xs:List V}{us:List Value}(n:Nat),Vals xs us->Vals (xs.take n) (us.take n)
 |_,_,0,_=>.nil
 |_,_,_+1,.nil=>.nil
 |_,_,n+1,.cons r t=>.cons r (Vals.take n t)
theorem Vals.drop:∀{xs:List V}{us:List Value}(n:Nat),Vals xs us->Vals (xs.drop n) (us.drop n)
 |_,_,0,r=>r
 |_,_,_+1,.nil=>.nil
 |_,_,n+1,.cons _ t=>Vals.drop n t
theorem Vals.none_of:∀{xs:List V}{us:List Value}{i:Nat},Vals xs us->xs[i]?=none->us[i]?=none:=fun{xs us i} r e=>by
 have h1:=r.length
 have h2:xs.length<=i:=List.getElem?_eq_none_iff.mp e
 exact List.getElem?_eq_none_iff.mpr (by omega)
def RelO:Option V->Option Value->Prop
 |some v,some u=>RelV v u
 |none,none=>True
 |_,_=>False
def KV{κ:Type}:List (κ×V)->List (κ×Value)->Prop:=Paired fun(p:κ×V) (q:κ×Value)=>p.1=q.1/\RelV p.2 q.2
def kV:Key->V
 |.inl i=>.int i
 |.inr x=>.str x
inductive HO where
 /-- a list -/
 |lst (xs:List V)
 /-- a tuple (never changes) -/
 |tup (xs:List V)
 /-- a dict whose keys are ints and texts;one whose keys are tuples of ints and texts (the empty one is both) -/
 |dK (kvs:List (Key×V))|dT (kvs:List (List Key×V))
 /-- a set of ints: its members,its size -/
 |set (S:Int->Bool) (n:Nat)
 /-- an instance of the class at C,its dict at dx,its attributes -/
 |ins (C dx:Addr) (fs:List (Str×V))
 /-- the dict of the instance at x -/
 |own (x:Addr)
 /-- the dict of an exception -/
 |xd (fs:List (Str×V))
 /-- a bound method,f of x -/
 |met (f x:Addr)
 /-- a range object lo,lo+1,.. below hi -/
 |rng (lo hi:Int)
 /-- a thing that is known to the object (the script;a dict while a loop walks it): read,never written while it is so -/
 |frz (o:Obj) (u:HO)
 /-- a code object's table -/
 |tbl (ps:Array Value)
 /-- any other thing,by what is true of its one object (a def of one's own: SetO a S n:=HO.ext fun h=>..) -/
 |ext (φ:Heap->Prop)
abbrev Hp:=Addr->Option HO
def upd(H:Hp)(a:Addr)(o:HO):Hp:=fun b=>if b=a then some o else H b
theorem upd_same{H:Hp}{a:Addr}{o:HO}:upd H a o a=some o:=by unfold upd;rw[if_pos rfl]
theorem upd_ne{H:Hp}{a b:Addr}{o:HO}(h:b≠a):upd H a o b=H b:=by unfold upd;rw[if_neg h]
theorem ne_of{H:Hp}{a b:Addr}{o u:HO}(h:H a=some o)(h':H b=some u)(d:o≠u):a≠b:=by
 intro e;subst e;rw[h]at h';exact d (Option.some.inj h')
theorem ne_of_none{H:Hp}{a b:Addr}{o:HO}(h:H a=some o)(h':H b=none):a≠b:=by
 intro e;subst e;rw[h]at h';cases h'
section
variable (P:Program) (w:World)
def PlT(h:Heap)(a:Addr):Prop:=∃o,h.get? a=some o/\o.dict=none
def ObjOk(H:Hp)(h:Heap)(a:Addr):HO->Prop
 |.lst xs=>xs.length<=sizeLine/\∃(its:List Value) (n:Nat),Vals xs its/\h.get? a=some {cls:=.type "list",data:=.seq its.toArray n}
 |.tup xs=>xs.length<=sizeLine/\∃its:List Value,Vals xs its/\IsTup h a its.toArray/\PlT h a
 |.dK kvs=>kvs.length<=sizeLine/\(a == sysModules)=false/\∃vs,KV kvs vs/\h.DictOf (mixKind P w) a vs
 |.dT kvs=>kvs.length<=sizeLine/\(a == sysModules)=false/\∃xs:List (List Key×Addr×Value),
   Paired (fun(p:List Key×V) (q:List Key×Addr×Value)=>p.1=q.1/\H q.2.1=some (.tup (p.1.map kV))/\RelV p.2 q.2.2) kvs xs /\
   ∃o es ep,h.get? a=some o/\o.ExactDict/\o.data=.dict es ep/\es.toList=xs.map (entryOfKey (tupleKind (mixKind P w)))/\(xs.map (·.1)).Nodup
 |.set S n=>h.SetOf (intKind P w) a S n
 |.ins C dx fs=>H dx=some (.own a)/\fs.length<=1000/\dx≠a/\h.get? a=some (PySem.W.instObj C dx) /\
   ∃mA,h.Ns1 dx mA/\(∀f,RelO (fs.lookup f) (mA f))/\PySem.Within mA (fs.map (·.1))
 |.own _=>∃o,h.get? a=some o
 |.xd fs=>∃mA,h.Ns1 a mA/\∀f,RelO (fs.lookup f) (mA f)
 |.rng lo hi=>∃t u v,h.get? a=some {cls:=.type "range",data:=.fields #[.int lo t,.int hi u,.int 1 v]}
 |.frz o u=>h.get? a=some o/\ObjOk H h a u
 |.tbl ps=>h.get? a=some {cls:=.none,data:=.fields ps}
 |.met f x=>h.get? a=some (PySem.W.methodObj (.ref f) (.ref x))
 |.ext φ=>φ h/\(∃o,h.get? a=some o)/\∀h1 h2:Heap,φ h1->(∀o,h1.get? a=some o->h2.get? a=some o)->φ h2
def HOk(H:Hp)(h:Heap):Prop:=∀a o,H a=some o->ObjOk P w H h a o
end
section
variable {P:Program}{w:World}{H H':Hp}{h h':Heap}{a:Addr}{o:HO}
theorem ObjOk.lt(x:ObjOk P w H h a o):a<h.objs.size:=by
 cases o with
 |lst xs=>obtain⟨_,_,_,_,e⟩:=x;exact Heap.lt_size e
 |tup xs=>obtain⟨_,_,_,p,_⟩:=x;exact p.lt
 |dK kvs=>obtain⟨_,_,_,_,o,_,_,e,_⟩:=x;exact Heap.lt_size e
 |dT kvs=>obtain⟨_,_,_,_,o,_,_,e,_⟩:=x;exact Heap.lt_size e
 |set S n=>obtain⟨o,_,_,_,e,_⟩:=x;exact Heap.lt_size e
 |ins C dx fs=>obtain⟨_,_,_,e,_⟩:=x;exact Heap.lt_size e
 |own y=>obtain⟨_,e⟩:=x;exact Heap.lt_size e
 |xd fs=>obtain⟨_,⟨_,_,_,e,_⟩,_⟩:=x;exact Heap.lt_size e
 |rng lo hi=>obtain⟨_,_,_,e⟩:=x;exact Heap.lt_size e
 |frz ob u=>obtain⟨e,_⟩:=x;exact Heap.lt_size e
 |tbl ps=>exact Heap.lt_size (show h.get? a=some _ from x)
 |met f y=>exact Heap.lt_size (show h.get? a=some _ from x)
 |ext φ=>obtain⟨_,⟨_,e⟩,_⟩:=x;exact Heap.lt_size e
theorem Paired.mapP{α β:Type}{F G:α->β->Prop}:∀{l₁:List α}{l₂:List β},Paired F l₁ l₂->(∀a b,F a b->G a b)->Paired G l₁ l₂
 |_,_,.nil,_=>.nil
 |_,_,.cons r t,f=>.cons (f _ _ r) (Paired.mapP t f)
theorem ObjOk.stay(x:ObjOk P w H h a o)(k:∀b u,(b=a\/H b=some (.own a))->h.get? b=some u->h'.get? b=some u)
  (ho:∀b,H b=some (.own a)->H' b=some (.own a)) (ht:∀b xs,H b=some (.tup xs)->H' b=some (.tup xs)):ObjOk P w H' h' a o:=by
 induction o with
 |lst xs=>obtain⟨z,its,n,r,e⟩:=x;exact⟨z,its,n,r,k _ _ (.inl rfl) e⟩
 |tup xs=>obtain⟨z,its,r,⟨ob,e,c⟩,o2,e2,d2⟩:=x;exact⟨z,its,r,⟨ob,k _ _ (.inl rfl) e,c⟩,o2,k _ _ (.inl rfl) e2,d2⟩
 |dK kvs=>obtain⟨z,y,vs,r,ob,es,ep,e,c⟩:=x;exact⟨z,y,vs,r,ob,es,ep,k _ _ (.inl rfl) e,c⟩
 |dT kvs =>
  obtain⟨z,y,xs,r,ob,es,ep,e,c⟩:=x
  exact⟨z,y,xs,Paired.mapP r fun p q z=>⟨z.1,ht _ _ z.2.1,z.2.2⟩,ob,es,ep,k _ _ (.inl rfl) e,c⟩
 |set S n=>obtain⟨ob,es,ep,t,e,c⟩:=x;exact⟨ob,es,ep,t,k _ _ (.inl rfl) e,c⟩
 |ins C dx fs =>
  obtain⟨d,z,ne,e,mA,⟨od,es,ep,e2,c⟩,r⟩:=x
  exact⟨ho _ d,z,ne,k _ _ (.inl rfl) e,mA,⟨od,es,ep,k _ _ (.inr d) e2,c⟩,r⟩
 |own y=>obtain⟨ob,e⟩:=x;exact⟨ob,k _ _ (.inl rfl) e⟩
 |xd fs=>obtain⟨mA,⟨od,es,ep,e,c⟩,r⟩:=x;exact⟨mA,⟨od,es,ep,k _ _ (.inl rfl) e,c⟩,r⟩
 |rng lo hi=>obtain⟨t,u,v,e⟩:=x;exact⟨t,u,v,k _ _ (.inl rfl) e⟩
 |frz ob u ih=>obtain⟨e,q⟩:=x;exact⟨k _ _ (.inl rfl) e,ih q⟩
 |tbl ps =>
  have e:h.get? a=some {cls:=.none,data:=.fields ps}:=x
  show h'.get? a=some {cls:=.none,data:=.fields ps}
  exact k a _ (.inl rfl) e
 |met f y =>
  have e:h.get? a=some (PySem.W.methodObj (.ref f) (.ref y)):=x
  show h'.get? a=some (PySem.W.methodObj (.ref f) (.ref y))
  exact k a _ (.inl rfl) e
 |ext φ=>obtain⟨p,⟨o,e⟩,st⟩:=x;exact⟨st _ _ p fun o q=>k _ _ (.inl rfl) q,⟨o,k _ _ (.inl rfl) e⟩,st⟩
theorem HOk.lt(x:HOk P w H h)(e:H a=some o):a<h.objs.size:=(x a o e).lt
theorem HOk.fresh(x:HOk P w H h)(e:h.objs.size<=a):H a=none:=by
 cases q:H a with
 |none=>rfl
 |some u=>exact absurd (Nat.lt_of_lt_of_le (x.lt q) e) (Nat.lt_irrefl _)
theorem HOk.kept(x:HOk P w H h)(k:∀b u,h.get? b=some u->h'.get? b=some u):HOk P w H h':=fun a o e =>
 (x a o e).stay (fun b u _ q=>k b u q) (fun _ q=>q) fun _ _ q=>q
theorem HOk.laid(x:HOk P w H h)(k:∀b u,h.get? b=some u->h'.get? b=some u)(hp:h.objs.size<=a)(new:ObjOk P w (upd H a o) h' a o):HOk P w (upd H a o) h':=fun b u e=>by
 have hn:=x.fresh hp
 by_cases hb:b=a
 ·subst hb;rw[upd_same]at e;cases e;exact new
 ·rw[upd_ne hb]at e
  exact(x b u e).stay (fun c v _ q=>k c v q) (fun c q=>by rw[upd_ne (ne_of_none q hn)];exact q) fun c xs q=>by rw[upd_ne (ne_of_none q hn)];exact q
end
def Rd(H:Hp)(a:Addr)(u:HO):Prop:=H a=some u\/∃o,H a=some (.frz o u)
theorem Rd.ok{P:Program}{w:World}{H:Hp}{h:Heap}{a:Addr}{u:HO}(r:Rd H a u)(x:HOk P w H h):ObjOk P w H h a u:=by
 rcases r with r|⟨o,r⟩
 ·exact x a u r
 ·obtain⟨_,q⟩:=x a _ r
  exact q
def Mut:Option HO->Prop
 |some (.lst _)=>True
 |some (.dK _)=>True
 |some (.dT _)=>True
 |some (.set _ _)=>True
 |some (.ins _ _ _)=>True
 |some (.ext _)=>True
 |_=>False
section
variable {P:Program}{w:World}{H:Hp}{h h':Heap}{x e:Addr}{o':HO}
theorem HOk.write(ok:HOk P w H h)(mu:Mut (H x))(he:e=x\/H e=some (.own x))(k:∀b u,b≠e->h.get? b=some u->h'.get? b=some u)(heo:∃u,h'.get? e=some u)
  (new:ObjOk P w (upd H x o') h' x o'):HOk P w (upd H x o') h':=fun b u q=>by
 have nown:∀c y,H c=some (.own y)->c≠x:=fun c y r z=>by subst z;rw[r]at mu;exact mu
 have ntup:∀c xs,H c=some (.tup xs)->c≠x:=fun c xs r z=>by subst z;rw[r]at mu;exact mu
 by_cases hb:b=x
 ·subst hb;rw[upd_same]at q;cases q;exact new
 ·rw[upd_ne hb]at q
  by_cases hbe:b=e
  ·have q':H b=some (.own x):=by
    rcases he with z|z
    ·exact absurd (hbe.trans z) hb
    ·rw[hbe];exact z
   rw[q]at q';cases q'
   obtain⟨v,hv⟩:=heo
   exact⟨v,by rw[hbe];exact hv⟩
  ·refine(ok b u q).stay (fun c v hc r=>k c v ?_ r) (fun c r=>by rw[upd_ne (nown c b r)];exact r) fun c xs r=>by rw[upd_ne (ntup c xs r)];exact r
   rcases hc with rfl|hc
   ·exact hbe
   ·rintro rfl
    rcases he with z|z
    ·exact nown c b hc z
    ·rw[hc]at z;cases z;exact hb rfl
end
structure Un(fs ex:List Addr) (H H':Hp) (h h':Heap):Prop where
 keep:∀b o,h.get? b=some o->H b=none->b∉fs->b∉ex->h'.get? b=some o
 slot:∀b o,h.get? b=some o->H b=none->b∈fs->b∉ex->∃sl,h'.get? b=some {o with slots:=sl}
 free:∀b o,h.get? b=some o->H b=none->b∉ex->H' b=none
 there:∀b o,h.get? b=some o->b∉ex->∃o',h'.get? b=some o'
 tups:∀b xs,H b=some (.tup xs)->H' b=some (.tup xs)
 frzs:∀b o u,H b=some (.frz o u)->H' b=some (.frz o u)
 tbls:∀b ps,H b=some (.tbl ps)->∃more,H' b=some (.tbl (ps++more))
section
variable {fs fs' ex ex':List Addr}{H H1 H2:Hp}{h h1 h2 h':Heap}{a x e:Addr}{o:HO}
theorem Un.any(u:Un fs ex H H1 h h1){b:Addr}{ob:Obj}(q:h.get? b=some ob)(n:H b=none)(hx:b∉ex):∃sl,h1.get? b=some {ob with slots:=sl}:=by
 by_cases hb:b∈fs
 ·exact u.slot b ob q n hb hx
 ·exact⟨ob.slots,u.keep b ob q n hb hx⟩
theorem Un.trans(a:Un fs ex H H1 h h1)(b:Un fs ex H1 H2 h1 h2):Un fs ex H H2 h h2 where
 keep:=fun c ob q n hc hx=>b.keep c ob (a.keep c ob q n hc hx) (a.free c ob q n hx) hc hx
 slot:=fun c ob q n hc hx=>by
  obtain⟨sl,e1⟩:=a.slot c ob q n hc hx
  obtain⟨sl',e2⟩:=b.slot c _ e1 (a.free c ob q n hx) hc hx
  exact⟨sl',e2⟩
 free:=fun c ob q n hx=>by
  obtain⟨o',e1⟩:=a.there c ob q hx
  exact b.free c o' e1 (a.free c ob q n hx) hx
 there:=fun c ob q hx=>by
  obtain⟨o',e1⟩:=a.there c ob q hx
  exact b.there c o' e1 hx
 tups:=fun c xs q=>b.tups c xs (a.tups c xs q)
 frzs:=fun c ob xs q=>b.frzs c ob xs (a.frzs c ob xs q)
 tbls:=fun c ps q=>by
  obtain⟨m1,e1⟩:=a.tbls c ps q
  obtain⟨m2,e2⟩:=b.tbls c _ e1
  exact⟨m1++m2,by rw[e2,Array.append_assoc]⟩
theorem Un.kept(k:∀b u,h.get? b=some u->h'.get? b=some u):Un fs ex H H h h' :=
 ⟨fun b ob q _ _ _=>k b ob q,fun b ob q _ _ _=>⟨ob.slots,k b ob q⟩,fun _ _ _ n _=>n,fun b ob q _=>⟨ob,k b ob q⟩,fun _ _ q=>q,fun _ _ _ q=>q,fun _ ps q=>⟨#[],by rw[q];simp⟩⟩
theorem Un.refl:Un fs ex H H h h:=Un.kept fun _ _ q=>q
theorem Un.laid(k:∀b u,h.get? b=some u->h'.get? b=some u)(hp:h.objs.size<=a)(hn:H a=none):Un fs ex H (upd H a o) h h' where
 keep:=fun b u q _ _ _=>k b u q
 slot:=fun b u q _ _ _=>⟨u.slots,k b u q⟩
 free:=fun b u q n _=>by rw[upd_ne (Nat.ne_of_lt (Nat.lt_of_lt_of_le (Heap.lt_size q) hp))];exact n
 there:=fun b u q _=>⟨u,k b u q⟩
 tups:=fun b xs q=>by rw[upd_ne (ne_of_none q hn)];exact q
 frzs:=fun b u xs q=>by rw[upd_ne (ne_of_none q hn)];exact q
 tbls:=fun b ps q=>⟨#[],by rw[upd_ne (ne_of_none q hn),q];simp⟩
theorem Un.write(mu:Mut (H x))(he:e=x\/H e=some (.own x))(k:∀b u,b≠e->h.get? b=some u->h'.get? b=some u)(heo:∃u,h'.get? e=some u):Un fs ex H (upd H x o) h h':=by
 have hx:∀b,H b=none->b≠x:=fun b n z=>by subst z;rw[n]at mu;exact mu
 have hb:∀b,H b=none->b≠e:=fun b n z=>by
  subst z
  rcases he with r|r
  ·exact hx b n r
  ·rw[n]at r;cases r
 have hm:∀b u,H b=some u->¬Mut (some u)->b≠x:=fun b u q nm z=>by subst z;rw[q]at mu;exact nm mu
 refine⟨fun b u q n _ _=>k b u (hb b n) q,fun b u q n _ _=>⟨u.slots,k b u (hb b n) q⟩,fun b u q n _=>by rw[upd_ne (hx b n)];exact n,fun b u q _=>?_,
  fun b xs q=>by rw[upd_ne (hm b _ q fun z=>z)];exact q,fun b u xs q=>by rw[upd_ne (hm b _ q fun z=>z)];exact q,fun b ps q=>⟨#[],by rw[upd_ne (hm b _ q fun z=>z),q];simp⟩⟩
 by_cases hbe:b=e
 ·subst hbe;exact heo
 ·exact⟨u,k b u hbe q⟩
end
def trk(h:Heap)(H:Hp):List Addr:=(List.range h.objs.size).filter fun a=>(H a).isSome
def hidT(h:Heap)(H:Hp):Heap:=PySem.W.hideAll h (trk h H)
theorem hidT_size(h:Heap)(H:Hp):(hidT h H).objs.size=h.objs.size:=PySem.W.hideAll_size _ _
theorem hidT_get{h:Heap}{H:Hp}{b:Addr}{o:Obj}(e:h.get? b=some o)(n:H b=none):(hidT h H).get? b=some o :=
 PySem.W.hideAll_get _ e fun hm=>by
  have q:(H b).isSome=true:=(List.mem_filter.mp hm).2
  rw[n]at q;simp at q
theorem of_hidT{h:Heap}{H:Hp}{b:Addr}{o:Obj}(e:(hidT h H).get? b=some o):h.get? b=some o/\H b=none:=by
 have e':h.get? b=some o:=PySem.W.of_hideAll (trk h H) e
 refine⟨e',?_⟩
 cases q:H b with
 |none=>rfl
 |some x =>
  have hm:b∈trk h H:=List.mem_filter.mpr ⟨List.mem_range.mpr (Heap.lt_size e'),by simp[q]⟩
  have z:(hidT h H).get? b=none:=PySem.W.hideAll_none (trk h H) hm
  rw[z]at e;cases e
structure Mod(K:PySem.W.Frag) (mg:Str->Option Value) (base:Heap):Prop where
 kin:K.In base
 glob:base.Ns mainGlobals mg
 blt:∃mb,base.Ns builtinsNs mb/\∀x:Str,x≠"__name__"->mb x=bootBuiltins x
 nolimit:base.NoLimit
structure Cx where
 prog:Program
 w:World
 K:PySem.W.Frag
 mg:Str->Option Value
 base:Heap
 A:Around
 N:List Str
 s₀:Shared
 H₀:Hp
 env:Env
 outer:List Env
 stack:List Env
 ex:List Addr
 fn:Str->Bool
 calm:Bool
 pn:List (Addr×Obj)
 xe:Value->Shared->Prop
def frs(l:List Env):List Addr:=l.filterMap (·.frame)
abbrev Cx.fs(X:Cx):List Addr:=frs X.outer
def Vis(sc:Scope)(x:Str):Prop:=sc.names.lookup x=some .local\/sc.names.lookup x=some .cell\/sc.names.lookup x=some .free
def Loc(sc:Scope)(x:Str):Prop:=sc.names.lookup x=some .local\/sc.names.lookup x=some .cell
def Look(env:Env)(h:Heap)(m:Str->Option Value)(x:Str)(u:Value):Prop :=
 (env.kindOf x=some .local/\m x=some u)\/((env.kindOf x=some .cell\/env.kindOf x=some .free)/\∃c,env.cells.lookup x=some c/\h.IsCell c (some u))
structure Cx.Ok(X:Cx):Prop where
 mod:Mod X.K X.mg X.base
 kind:X.env.scope.kind=.function
 glob:X.env.globals=mainGlobals
 blt:X.env.builtins=builtinsNs
 above:X.s₀.heap.objs.size<=X.env.locals
 inj:∀x y c,X.env.cells.lookup x=some c->X.env.cells.lookup y=some c->x=y
 has:∀x,(X.env.kindOf x=some .cell\/X.env.kindOf x=some .free)->∃c,X.env.cells.lookup x=some c
 cab:∀x c,X.fn x=true->X.env.cells.lookup x=some c->X.s₀.heap.objs.size<=c
 hd:X.calm=true->X.A.handled=none
 frames:X.A.frames=some X.stack
 stk:X.stack=X.outer\/(X.stack=X.env::X.outer/\X.env.frame=some X.env.locals)
 exf:∀b∈X.ex,b≠X.env.locals/\∀x c,X.env.cells.lookup x=some c->c≠b
 bs:∀b o,X.base.get? b=some o->X.s₀.heap.get? b=some o/\X.H₀ b=none
 bsz:X.base.objs.size<=X.s₀.heap.objs.size
 noex:∀b o,X.base.get? b=some o->b∉X.ex
 exfs:∀b∈X.ex,b∉X.fs
 funs:X.s₀.heap.FunFrames X.base X.outer
 frf:∀b∈X.fs,X.H₀ b=none
structure Inv(X:Cx) (pins:List (Addr×Obj)) (σ:List (Option V)) (H:Hp) (s:Shared):Prop where
 ok:X.Ok
 os:s.os=X.s₀.os
 bare:AllBare s.gens
 base:Un X.fs X.ex X.H₀ H X.s₀.heap s.heap
 loc:∃m,s.heap.Ns X.env.locals m/\∀(i:Nat) (x:Str) (v:V),X.N[i]?=some x->σ[i]?=some (some v)->Vis X.env.scope x->∃u,RelV v u/\Look X.env s.heap m x u
 cell:∀x c,X.env.cells.lookup x=some c->∃v,s.heap.IsCell c v
 free:H X.env.locals=none
 freeC:∀x c,X.env.cells.lookup x=some c->H c=none
 pin:∀p∈X.pn++pins,s.heap.get? p.1=some p.2/\H p.1=none/\p.1≠X.env.locals/\p.1∉X.fs/\∀v,p.2.data≠.cell v
 hok:HOk X.prog X.w H s.heap
 len:σ.length=X.N.length
section
variable {X:Cx}{pins:List (Addr×Obj)}{σ:List (Option V)}{H H':Hp}{s:Shared}{h':Heap}
theorem Cx.Ok.nofr(ok:X.Ok){b:Addr}{o:Obj}(e:X.base.get? b=some o):b∉X.fs:=fun hb=>by
 have:=(ok.funs.mem hb).1
 rw[e]at this;cases this
theorem Inv.bs(I:Inv X pins σ H s):∀b o,X.base.get? b=some o->s.heap.get? b=some o/\H b=none:=fun b o e =>
 ⟨I.base.keep b o (I.ok.bs b o e).1 (I.ok.bs b o e).2 (I.ok.nofr e) (I.ok.noex b o e),I.base.free b o (I.ok.bs b o e).1 (I.ok.bs b o e).2 (I.ok.noex b o e)⟩
theorem Inv.bk(I:Inv X pins σ H s):∀b o,X.base.get? b=some o->s.heap.get? b=some o:=fun b o e=>(I.bs b o e).1
theorem Inv.mod(I:Inv X pins σ H s):Mod X.K X.mg X.base:=I.ok.mod
theorem Inv.kIn(I:Inv X pins σ H s):X.K.In s.heap:=I.ok.mod.kin.keeps I.bk
theorem Inv.lt(I:Inv X pins σ H s):X.env.locals<s.heap.objs.size:=let⟨_,hn,_⟩:=I.loc;hn.lt
theorem Inv.sz(I:Inv X pins σ H s):X.s₀.heap.objs.size<=s.heap.objs.size:=Nat.le_trans I.ok.above (Nat.le_of_lt I.lt)
theorem Inv.nofs(I:Inv X pins σ H s){a:Addr}(h:s.heap.objs.size<=a):a∉X.fs:=fun hb=>by
 obtain⟨_,o,ho,_⟩:=I.ok.funs.mem hb
 exact absurd (Nat.lt_of_lt_of_le (Heap.lt_size ho) (Nat.le_trans I.sz h)) (Nat.lt_irrefl _)
theorem Inv.cne(I:Inv X pins σ H s):∀x c,X.env.cells.lookup x=some c->c≠X.env.locals:=fun x c e z=>by
 obtain⟨v,o,ho,hd⟩:=I.cell x c e
 obtain⟨m,⟨o',es,ep,ho',hd',_⟩,_⟩:=I.loc
 rw[z,ho']at ho;cases ho;rw[hd']at hd;cases hd
theorem Inv.funs(I:Inv X pins σ H s):s.heap.FunFrames X.base X.outer:=by
 have all:∀(l:List Env),(∀b∈frs l,b∈X.fs)->X.s₀.heap.FunFrames X.base l->s.heap.FunFrames X.base l:=by
  intro l
  induction l with
  |nil=>intro _ _;trivial
  |cons env r ih =>
   intro hs hl
   obtain⟨hk,⟨L,o,hf,hn,ho,hd⟩,hr⟩:=hl
   have hL:L∈X.fs:=hs L (by unfold frs;rw[List.filterMap_cons,hf];exact List.mem_cons_self)
   obtain⟨sl,e⟩:=I.base.slot L o ho (I.ok.frf L hL) hL fun z=>I.ok.exfs L z hL
   exact⟨hk,⟨L,_,hf,hn,e,hd⟩,ih (fun b hb=>hs b (by unfold frs;rw[List.filterMap_cons,hf];exact List.mem_cons_of_mem _ hb)) hr⟩
 exact all X.outer (fun _ hb=>hb) I.ok.funs
theorem Inv.stack(I:Inv X pins σ H s):s.heap.FunFrames X.base X.stack:=by
 rcases I.ok.stk with e|⟨e,hf⟩
 ·rw[e];exact I.funs
 ·rw[e]
  obtain⟨m,hn,_⟩:=I.loc
  refine .cons (by rw[I.ok.kind];decide) hf hn ?_ I.funs
  exact Heap.get?_none_of_le (Nat.le_trans I.ok.bsz I.ok.above)
theorem Inv.stkSub(I:Inv X pins σ H s):∀b∈frs X.stack,b∈X.env.locals::X.fs:=fun b hb=>by
 rcases I.ok.stk with e|⟨e,hf⟩
 ·rw[e]at hb;exact List.mem_cons_of_mem _ hb
 ·rw[e]at hb
  unfold frs at hb
  rw[List.filterMap_cons,hf]at hb
  exact hb
theorem Inv.stkFree(I:Inv X pins σ H s):∀b∈frs X.stack,H b=none:=fun b hb=>by
 rcases List.mem_cons.mp (I.stkSub b hb)with e|hb
 ·rw[e];exact I.free
 ·obtain⟨_,o,ho,_⟩:=I.ok.funs.mem hb
  exact I.base.free b o ho (I.ok.frf b hb) fun z=>I.ok.exfs b z hb
theorem Inv.step{g':Array GenState}{t':Nat}{d':Drawn}{ch:List Addr}(I:Inv X pins σ H s)
  (hch:∀b∈ch,(b∈X.ex\/X.s₀.heap.objs.size<=b)/\b≠X.env.locals/\(∀x c,X.env.cells.lookup x=some c->c≠b)/\∀p∈X.pn++pins,p.1≠b)
  (keep:∀b o,b≠X.env.locals->b∉X.fs->b∉ch->s.heap.get? b=some o->H b=none->h'.get? b=some o)
  (slot:∀b o,b≠X.env.locals->b∈X.fs->b∉ch->s.heap.get? b=some o->H b=none->∃sl,h'.get? b=some {o with slots:=sl}) (free:∀b o,b∉ch->s.heap.get? b=some o->H b=none->H' b=none)
  (there:∀b o,b∉ch->s.heap.get? b=some o->∃o',h'.get? b=some o')
  (tups:∀b xs,H b=some (.tup xs)->H' b=some (.tup xs)) (frzs:∀b o u,H b=some (.frz o u)->H' b=some (.frz o u)) (tbls:∀b ps,H b=some (.tbl ps)->∃more,H' b=some (.tbl (ps++more)))
  (ns:∀m,s.heap.Ns X.env.locals m->h'.Ns X.env.locals m) (hok:HOk X.prog X.w H' h') (hg:AllBare g') :
  Inv X pins σ H' {s with heap:=h',gens:=g',drawn:=d',toks:=t'}:=by
 have neL:∀b o,X.s₀.heap.get? b=some o->b≠X.env.locals:=fun b o e=>Nat.ne_of_lt (Nat.lt_of_lt_of_le (Heap.lt_size e) I.ok.above)
 have neC:∀b o,X.s₀.heap.get? b=some o->b∉X.ex->b∉ch:=fun b o e hx hb=>by
  rcases(hch b hb).1 with z|z
  ·exact hx z
  ·exact absurd (Nat.lt_of_lt_of_le (Heap.lt_size e) z) (Nat.lt_irrefl _)
 have cellK:∀x c,X.env.cells.lookup x=some c->∀v,s.heap.IsCell c v->h'.IsCell c v:=fun x c e v ⟨o,ho,hd⟩=>by
  have nch:c∉ch:=fun z=>(hch c z).2.2.1 x c e rfl
  by_cases hc:c∈X.fs
  ·obtain⟨sl,q⟩:=slot c o (I.cne x c e) hc nch ho (I.freeC x c e)
   exact⟨_,q,hd⟩
  ·exact⟨o,keep c o (I.cne x c e) hc nch ho (I.freeC x c e),hd⟩
 refine⟨I.ok,I.os,hg,⟨fun b o e n hb hx=>?_,fun b o e n hb hx=>?_,fun b o e n hx=>?_,fun b o e hx=>?_,fun b xs e=>tups b xs (I.base.tups b xs e),fun b o xs e=>frzs b o xs (I.base.frzs b o xs e),fun b ps e=>?_⟩,?_,fun x c e=>?_,?_,fun x c e=>?_,fun p hp=>?_,hok,I.len⟩
 ·exact keep b o (neL b o e) hb (neC b o e hx) (I.base.keep b o e n hb hx) (I.base.free b o e n hx)
 ·obtain⟨sl,e1⟩:=I.base.slot b o e n hb hx
  obtain⟨sl',e2⟩:=slot b _ (neL b o e) hb (neC b o e hx) e1 (I.base.free b o e n hx)
  exact⟨sl',e2⟩
 ·obtain⟨o',e1⟩:=I.base.there b o e hx
  exact free b o' (neC b o e hx) e1 (I.base.free b o e n hx)
 ·obtain⟨o',e1⟩:=I.base.there b o e hx
  exact there b o' (neC b o e hx) e1
 ·obtain⟨m1,e1⟩:=I.base.tbls b ps e
  obtain⟨m2,e2⟩:=tbls b _ e1
  exact⟨m1++m2,by rw[e2,Array.append_assoc]⟩
 ·obtain⟨m,hn,hl⟩:=I.loc
  refine⟨m,ns m hn,fun i x v e1 e2 e3=>?_⟩
  obtain⟨u,r,l⟩:=hl i x v e1 e2 e3
  refine⟨u,r,?_⟩
  rcases l with l|⟨k,c,e,z⟩
  ·exact .inl l
  ·exact .inr ⟨k,c,e,cellK x c e _ z⟩
 ·obtain⟨v,z⟩:=I.cell x c e
  exact⟨v,cellK x c e v z⟩
 ·obtain⟨m,⟨o,_,_,ho,_⟩,_⟩:=I.loc
  exact free _ o (fun z=>(hch _ z).2.1 rfl) ho I.free
 ·obtain⟨v,o,ho,hd⟩:=I.cell x c e
  exact free c o (fun z=>(hch c z).2.2.1 x c e rfl) ho (I.freeC x c e)
 ·obtain⟨e,n,ne,nf,d⟩:=I.pin p hp
  have nch:p.1∉ch:=fun z=>(hch p.1 z).2.2.2 p hp rfl
  exact⟨keep p.1 p.2 ne nf nch e n,free p.1 p.2 nch e n,ne,nf,d⟩
theorem Inv.un{t':Nat}(I:Inv X pins σ H s)(u:Un X.fs [] H H' s.heap h')(hok:HOk X.prog X.w H' h'):Inv X pins σ H' {s with heap:=h',toks:=t'}:=by
 obtain⟨m,⟨o,es,ep,ho,r⟩,_⟩:=id I.loc
 obtain⟨sl,hL⟩:=u.any ho I.free (by simp)
 exact I.step (g':=s.gens) (d':=s.drawn) (ch:=[]) (fun _ z=>nomatch z) (fun b o _ hb _ e n=>u.keep b o e n hb (by simp)) (fun b o _ hb _ e n=>u.slot b o e n hb (by simp)) (fun b o _ e n=>u.free b o e n (by simp)) (fun b o _ e=>u.there b o e (by simp)) u.tups u.frzs u.tbls (fun m' hm=>by
  obtain⟨o',es',ep',ho',r'⟩:=hm
  rw[ho]at ho';cases ho'
  exact⟨_,es',ep',hL,r'⟩) hok I.bare
theorem Inv.call{g':Array GenState}{t':Nat}{d':Drawn}{ch:List Addr}(I:Inv X pins σ H s)(u:Un (frs X.stack) ch H H' s.heap h')(hok:HOk X.prog X.w H' h')(hg:AllBare g')
  (hch:∀b∈ch,(b∈X.ex\/X.s₀.heap.objs.size<=b)/\b≠X.env.locals/\(∀x c,X.env.cells.lookup x=some c->c≠b)/\∀p∈X.pn++pins,p.1≠b) :
  Inv X pins σ H' {s with heap:=h',gens:=g',drawn:=d',toks:=t'}:=by
 obtain⟨m,⟨o,es,ep,ho,r⟩,_⟩:=id I.loc
 obtain⟨sl,hL⟩:=u.any ho I.free fun z=>(hch _ z).2.1 rfl
 exact I.step (ch:=ch) hch (fun b o hL hb hc e n=>u.keep b o e n (fun z=>(List.mem_cons.mp (I.stkSub b z)).elim hL hb) hc) (fun b o _ _ hc e n=>u.any e n hc) (fun b o hc e n=>u.free b o e n hc) (fun b o hc e=>u.there b o e hc) u.tups u.frzs u.tbls (fun m' hm=>by
  obtain⟨o',es',ep',ho',r'⟩:=hm
  rw[ho]at ho';cases ho'
  exact⟨_,es',ep',hL,r'⟩) hok hg
theorem Inv.turned{t':Nat}{it:Addr}(I:Inv X pins σ H s)(k:∀b o,b≠it->s.heap.get? b=some o->h'.get? b=some o)(hn:H it=none)(hL:it≠X.env.locals)
  (h1:it∈X.ex\/X.s₀.heap.objs.size<=it) (h2:∀x c,X.env.cells.lookup x=some c->c≠it) (h3:∀p∈X.pn++pins,p.1≠it):Inv X pins σ H {s with heap:=h',toks:=t'}:=by
 have nit:∀b u,H b=some u->b≠it:=fun b u e z=>by rw[z,hn]at e;cases e
 refine I.step (g':=s.gens) (d':=s.drawn) (ch:=[it]) (fun b hb=>?_) (fun b o _ _ hc e _=>k b o (fun z=>hc (by simp[z])) e) (fun b o _ _ hc e _=>⟨o.slots,k b o (fun z=>hc (by simp[z])) e⟩) (fun _ _ _ _ n=>n)
  (fun b o hc e=>⟨o,k b o (fun z=>hc (by simp[z])) e⟩) (fun _ _ e=>e) (fun _ _ _ e=>e) (fun b ps e=>⟨#[],by rw[e];simp⟩) (fun m hm=>?_) (fun b u e=>?_) I.bare
 ·have e:b=it:=by simpa using hb
  subst e
  exact⟨h1,hL,h2,h3⟩
 ·obtain⟨o,es,ep,ho,r⟩:=hm
  exact⟨o,es,ep,k _ o (Ne.symm hL) ho,r⟩
 ·refine(I.hok b u e).stay (fun c v hc q=>k c v ?_ q) (fun _ q=>q) fun _ _ q=>q
  rcases hc with z|z
  ·rw[z];exact nit b u e
  ·exact nit c _ z
theorem Inv.tok(I:Inv X pins σ H s)(t:Nat):Inv X pins σ H {s with toks:=t}:=I.un (h':=s.heap) (t':=t) Un.refl I.hok
theorem Inv.kept{t':Nat}(I:Inv X pins σ H s)(k:∀b u,s.heap.get? b=some u->h'.get? b=some u):Inv X pins σ H {s with heap:=h',toks:=t'}:=I.un (Un.kept k) (I.hok.kept k)
theorem Inv.laid{a:Addr}{o:HO}{t':Nat}(I:Inv X pins σ H s)(k:∀b u,s.heap.get? b=some u->h'.get? b=some u)(hp:s.heap.objs.size<=a)(new:ObjOk X.prog X.w (upd H a o) h' a o) :
  Inv X pins σ (upd H a o) {s with heap:=h',toks:=t'}:=I.un (Un.laid k hp (I.hok.fresh hp)) (I.hok.laid k hp new)
theorem Inv.write{x e:Addr}{o:HO}{t':Nat}(I:Inv X pins σ H s)(mu:Mut (H x))(he:e=x\/H e=some (.own x))(k:∀b u,b≠e->s.heap.get? b=some u->h'.get? b=some u)(heo:∃u,h'.get? e=some u)
  (new:ObjOk X.prog X.w (upd H x o) h' x o):Inv X pins σ (upd H x o) {s with heap:=h',toks:=t'}:=I.un (Un.write mu he k heo) (I.hok.write mu he k heo new)
theorem Inv.weak{σ':List (Option V)}(I:Inv X pins σ H s)(hl:σ'.length=σ.length)(w:∀(i:Nat) v,σ'[i]?=some (some v)->σ[i]?=some (some v)):Inv X pins σ' H s :=
 ⟨I.ok,I.os,I.bare,I.base,let⟨m,hn,hl'⟩:=I.loc;⟨m,hn,fun i x v e1 e2 e3=>hl' i x v e1 (w i v e2) e3⟩,I.cell,I.free,I.freeC,I.pin,I.hok,hl.trans I.len⟩
theorem Inv.pins_of{pins':List (Addr×Obj)}(I:Inv X pins σ H s)(h:∀p∈pins',s.heap.get? p.1=some p.2/\H p.1=none/\p.1≠X.env.locals/\p.1∉X.fs/\∀v,p.2.data≠.cell v):Inv X pins' σ H s :=
 ⟨I.ok,I.os,I.bare,I.base,I.loc,I.cell,I.free,I.freeC,fun p hp=>(List.mem_append.mp hp).elim (fun z=>I.pin p (List.mem_append_left _ z)) (h p),I.hok,I.len⟩
theorem nodup_ix{N:List Str}(hN:N.Nodup){i j:Nat}{x:Str}(a:N[i]?=some x)(b:N[j]?=some x):i=j:=by
 obtain⟨h1,e1⟩:=List.getElem?_eq_some_iff.mp a
 obtain⟨h2,e2⟩:=List.getElem?_eq_some_iff.mp b
 exact(List.getElem_inj hN).mp (e1.trans e2.symm)
theorem store_ok2{M:Model}{A:Around}{E:Value->Shared->Prop}{i:Nat}{x:Str}{v:V}{u:Value}{Q:Unit->Shared->Prop}(I:Inv X pins σ H s)(hN:X.N.Nodup)(hi:X.N[i]?=some x)(hx:Loc X.env.scope x)(r:RelV v u)
  (h:∀s',Inv X pins (σ.set i (some v)) H s'->(∃a,Heap.SameBut a s.heap s'.heap/\(a=X.env.locals\/X.env.cells.lookup x=some a))->Q () s') (hf:X.fn x=true\/X.env.scope.names.lookup x=some .local:=by first|exact .inl rfl|exact .inr rfl|assumption):wpAny M A (storeName X.env x u) Q E s:=by
 obtain⟨m,hn,hl⟩:=id I.loc
 have hcls:(X.env.scope.kind == .class||(X.env.scope.kind == .module&&X.env.locals != X.env.globals))=false:=by rw[I.ok.kind];rfl
 have hiσ:i<σ.length:=by rw[I.len];exact(List.getElem?_eq_some_iff.mp hi).1
 have cne:=I.cne
 have tracked:∀{a:Addr}{h':Heap},(∃o,s.heap.get? a=some o/\H a=none)->Heap.SameBut a s.heap h'->HOk X.prog X.w H h':=fun{a h'} ha hs b ob e=>by
  obtain⟨_,_,hfree⟩:=ha
  refine(I.hok b ob e).stay (fun c w' hc q=>(hs.2 c ?_).trans q) (fun _ q=>q) fun _ _ q=>q
  rintro rfl
  rcases hc with rfl|hc
  ·rw[hfree]at e;cases e
  ·rw[hfree]at hc;cases hc
 rcases hx with hk|hk
 ·refine wpAny_storeName_local hk hn (fun h' hn' hs=>?_) hcls
  obtain⟨oL,_,_,hoL,_⟩:=id hn
  refine h _ ⟨I.ok,I.os,I.bare,⟨fun b o e n hb hx=>?_,fun b o e n hb hx=>?_,I.base.free,fun b o e hx=>?_,I.base.tups,I.base.frzs,I.base.tbls⟩,⟨_,hn',fun j y v' e1 e2 e3=>?_⟩,fun y c e=>?_,I.free,I.freeC,fun p hp=>?_,tracked ⟨oL,hoL,I.free⟩ hs,by simpa using I.len⟩ ⟨_,hs,.inl rfl⟩
  ·exact(hs.2 b (Nat.ne_of_lt (Nat.lt_of_lt_of_le (Heap.lt_size e) I.ok.above))).trans (I.base.keep b o e n hb hx)
  ·obtain⟨sl,e1⟩:=I.base.slot b o e n hb hx
   exact⟨sl,(hs.2 b (Nat.ne_of_lt (Nat.lt_of_lt_of_le (Heap.lt_size e) I.ok.above))).trans e1⟩
  ·obtain⟨o',e1⟩:=I.base.there b o e hx
   exact⟨o',(hs.2 b (Nat.ne_of_lt (Nat.lt_of_lt_of_le (Heap.lt_size e) I.ok.above))).trans e1⟩
  ·by_cases hj:j=i
   ·subst hj
    rw[hi]at e1;cases e1
    rw[List.getElem?_set_self hiσ]at e2
    cases e2
    exact⟨u,r,.inl ⟨hk,by simp⟩⟩
   ·rw[List.getElem?_set_ne (Ne.symm hj)]at e2
    obtain⟨u',r',q⟩:=hl j y v' e1 e2 e3
    refine⟨u',r',?_⟩
    rcases q with⟨k,e⟩|⟨k,c,e,z⟩
    ·refine .inl ⟨k,?_⟩
     have:y≠x:=fun e=>hj (nodup_ix hN e1 (e▸hi))
     simp[this,e]
    ·exact .inr ⟨k,c,e,z.sameBut hs (cne y c e)⟩
  ·obtain⟨w',z⟩:=I.cell y c e
   exact⟨w',z.sameBut hs (cne y c e)⟩
  ·obtain⟨e,n,ne,nf,d⟩:=I.pin p hp
   exact⟨(hs.2 p.1 ne).trans e,n,ne,nf,d⟩
 ·have hfn:X.fn x=true:=by
   rcases hf with z|z
   ·exact z
   ·rw[z]at hk;cases hk
  obtain⟨c,hc⟩:=I.ok.has x (.inl hk)
  obtain⟨w',z⟩:=I.cell x c hc
  refine wpAny_storeName_cell I.ok.kind hk hc z (fun h' hc' hs=>?_)
  obtain⟨oc,hoc,hocd⟩:=id z
  refine h {s with heap:=h'} ⟨I.ok,I.os,I.bare,⟨fun b o e n hb hx=>?_,fun b o e n hb hx=>?_,I.base.free,fun b o e hx=>?_,I.base.tups,I.base.frzs,I.base.tbls⟩,⟨m,hn.sameBut hs (Ne.symm (cne x c hc)),fun j y v' e1 e2 e3=>?_⟩,fun y c' e=>?_,I.free,I.freeC,fun p hp=>?_,tracked ⟨oc,hoc,I.freeC x c hc⟩ hs,by simpa using I.len⟩ ⟨c,hs,.inr hc⟩
  ·exact(hs.2 b (Nat.ne_of_lt (Nat.lt_of_lt_of_le (Heap.lt_size e) (I.ok.cab x c hfn hc)))).trans (I.base.keep b o e n hb hx)
  ·obtain⟨sl,e1⟩:=I.base.slot b o e n hb hx
   exact⟨sl,(hs.2 b (Nat.ne_of_lt (Nat.lt_of_lt_of_le (Heap.lt_size e) (I.ok.cab x c hfn hc)))).trans e1⟩
  ·obtain⟨o',e1⟩:=I.base.there b o e hx
   exact⟨o',(hs.2 b (Nat.ne_of_lt (Nat.lt_of_lt_of_le (Heap.lt_size e) (I.ok.cab x c hfn hc)))).trans e1⟩
  ·by_cases hj:j=i
   ·subst hj
    rw[hi]at e1;cases e1
    rw[List.getElem?_set_self hiσ]at e2
    cases e2
    exact⟨u,r,.inr ⟨.inl hk,c,hc,hc'⟩⟩
   ·rw[List.getElem?_set_ne (Ne.symm hj)]at e2
    obtain⟨u',r',q⟩:=hl j y v' e1 e2 e3
    refine⟨u',r',?_⟩
    rcases q with q|⟨k,c',e,z'⟩
    ·exact .inl q
    ·refine .inr ⟨k,c',e,z'.sameBut hs ?_⟩
     rintro rfl
     exact hj (nodup_ix hN e1 (I.ok.inj _ _ _ e hc▸hi))
  ·by_cases hcc:c'=c
   ·subst hcc;exact⟨_,hc'⟩
   ·obtain⟨w2,z2⟩:=I.cell y c' e
    exact⟨w2,z2.sameBut hs hcc⟩
  ·obtain⟨e,n,ne,nf,d⟩:=I.pin p hp
   refine⟨(hs.2 p.1 ?_).trans e,n,ne,nf,d⟩
   intro q
   rw[q,hoc]at e
   have q':oc=p.2:=Option.some.inj e
   exact d w' (by rw[←q'];exact hocd)
theorem store_ok{M:Model}{A:Around}{E:Value->Shared->Prop}{i:Nat}{x:Str}{v:V}{u:Value}{Q:Unit->Shared->Prop}(I:Inv X pins σ H s)(hN:X.N.Nodup)(hi:X.N[i]?=some x)(hx:Loc X.env.scope x)(r:RelV v u)
  (h:∀s',Inv X pins (σ.set i (some v)) H s'->Q () s') (hf:X.fn x=true\/X.env.scope.names.lookup x=some .local:=by first|exact .inl rfl|exact .inr rfl|assumption):wpAny M A (storeName X.env x u) Q E s :=
 store_ok2 I hN hi hx r (fun s' I' _=>h s' I') hf
theorem Inv.call'{s':Shared}{ch:List Addr}(I:Inv X pins σ H s)(ho:s'.os=s.os)(u:Un (frs X.stack) ch H H' s.heap s'.heap)(hok:HOk X.prog X.w H' s'.heap)(hg:AllBare s'.gens)
  (hch:∀b∈ch,(b∈X.ex\/X.s₀.heap.objs.size<=b)/\b≠X.env.locals/\(∀x c,X.env.cells.lookup x=some c->c≠b)/\∀p∈X.pn++pins,p.1≠b):Inv X pins σ H' s':=by
 obtain⟨h',g',d',t',o'⟩:=s'
 have e:o'=s.os:=ho
 subst e
 exact I.call (g':=g') (t':=t') (d':=d') u hok hg hch
end
abbrev XK:=Value->Option Addr->Hp->Prop
abbrev St:=List (Option V)
abbrev VK:=V->Hp->Prop
abbrev TE:=St->Hp->VK->Prop
abbrev TT:=St->Hp->(Bool->Hp->Prop)->Prop
abbrev TA:=St->Hp->(List V->Hp->Prop)->Prop
structure Ends where
 nx:St->Hp->Prop
 rt:VK
 bk:St->Hp->Prop:=fun _ _=>False
 ct:St->Hp->Prop:=fun _ _=>False
abbrev TS:=Ends->St->Hp->Prop
def EP(X:Cx)(pins:List (Addr×Obj))(σ:St)(Q:VK)(u:Value)(s':Shared):Prop:=∃v H',Inv X pins σ H' s'/\RelV v u/\Q v H'
def TP(X:Cx)(pins:List (Addr×Obj))(σ:St)(Q:Bool->Hp->Prop)(b:Bool)(s':Shared):Prop:=∃H',Inv X pins σ H' s'/\Q b H'
def AP(X:Cx)(pins:List (Addr×Obj))(σ:St)(Q:List V->Hp->Prop)(us:List Value)(s':Shared):Prop:=∃vs H',Inv X pins σ H' s'/\Vals vs us/\Q vs H'
def SP(X:Cx)(pins:List (Addr×Obj))(D:Ends)(f:Flow)(s':Shared):Prop :=
 match f with
 |.next=>∃σ' H',Inv X pins σ' H' s'/\D.nx σ' H'
 |.brk=>∃σ' H',Inv X pins σ' H' s'/\D.bk σ' H'
 |.cont=>∃σ' H',Inv X pins σ' H' s'/\D.ct σ' H'
 |.ret u=>∃v σ' H',Inv X pins σ' H' s'/\RelV v u/\D.rt v H'
def PE(X:Cx)(e:Expr)(t:TE):Prop :=
 ∀(pins:List (Addr×Obj)) (s:Shared) (σ:St) (H:Hp) (Q:VK),Inv X pins σ H s->t σ H Q->wpAny (model X.prog X.w) X.A (eval e X.env) (EP X pins σ Q) X.xe s
def PT(X:Cx)(e:Expr)(t:TT):Prop :=
 ∀(pins:List (Addr×Obj)) (s:Shared) (σ:St) (H:Hp) (Q:Bool->Hp->Prop),Inv X pins σ H s->t σ H Q->wpAny (model X.prog X.w) X.A (isTrue e X.env (eval e X.env)) (TP X pins σ Q) X.xe s
def PW(X:Cx)(e:Expr)(t:TT):Prop :=
 ∀(whole:Sem Value) (pins:List (Addr×Obj)) (s:Shared) (σ:St) (H:Hp) (Q:Bool->Hp->Prop),Inv X pins σ H s->t σ H Q->wpAny (model X.prog X.w) X.A (isTrue e X.env whole) (TP X pins σ Q) X.xe s
theorem PW.pt{X:Cx}{e:Expr}{t:TT}(h:PW X e t):PT X e t:=h _
def PA(X:Cx)(es:List Expr)(t:TA):Prop :=
 ∀(pos:Pos) (pins:List (Addr×Obj)) (s:Shared) (σ:St) (H:Hp) (Q:List V->Hp->Prop),Inv X pins σ H s->t σ H Q->wpAny (model X.prog X.w) X.A (spliced (backTo pos (starEach es X.env))) (AP X pins σ Q) X.xe s
def PS(X:Cx)(st:Stmt)(t:TS):Prop :=
 ∀(pins:List (Addr×Obj)) (s:Shared) (σ:St) (H:Hp) (D:Ends),Inv X pins σ H s->t D σ H->wpAny (model X.prog X.w) X.A (exec st X.env) (SP X pins D) X.xe s
def PSs(X:Cx)(st:List Stmt)(t:TS):Prop :=
 ∀(pins:List (Addr×Obj)) (s:Shared) (σ:St) (H:Hp) (D:Ends),Inv X pins σ H s->t D σ H->wpAny (model X.prog X.w) X.A (execs st X.env) (SP X pins D) X.xe s
theorem thn{α:Type}{t:Sem α}{Q Q':α->Shared->Prop}{M:Model}{A:Around}{E:Value->Shared->Prop}{s:Shared}(h:wpAny M A t Q E s)(hQ:∀a s,Q a s->Q' a s):wpAny M A t Q' E s:=wpAny_mono h hQ fun _ _ x=>x
section
variable {X:Cx}
def tVar(i:Nat):TE:=fun σ H Q=>∃v,σ[i]?=some (some v)/\Q v H
def tC(v:V):TE:=fun _ H Q=>Q v H
theorem pe_var{i:Nat}{x:Str}{pos:Pos}(hN:X.N[i]?=some x)(hv:Vis X.env.scope x)(hd:(x == ("__debug__":Str))=false:=by decide)(hcd:(x == ("__classdict__":Str))=false:=by decide):PE X (.Name x pos) (tVar i):=by
 intro pins s σ H Q I h
 obtain⟨v,e,h⟩:=h
 obtain⟨m,hn,hl⟩:=I.loc
 obtain⟨u,r,l⟩:=hl i x v hN e hv
 have fin:EP X pins σ Q u s:=⟨v,H,I,r,h⟩
 rcases l with⟨hk,hm⟩|⟨hk,c,hc,hcell⟩
 ·exact wpAny_Name (wpAny_loadName_local I.ok.kind hk hn hm fin) hd
 ·rcases hk with hk|hk
  ·exact wpAny_Name (wpAny_loadName_cell I.ok.kind hk hc hcell fin) hd
  ·exact wpAny_Name (wpAny_loadName_free I.ok.kind hk hc hcell fin hcd) hd
theorem pe_int{i j pos}:PE X (.Constant (.int i) j pos) (tC (.int i)):=fun _ _ _ H _ I h=>wpAny_Constant_int ⟨.int i,H,I.tok _,⟨_,rfl⟩,h⟩
theorem pe_bl{b j pos}:PE X (.Constant (.bool b) j pos) (tC (.bl b)):=fun _ _ _ H _ I h=>Constant_bool ⟨.bl b,H,I,rfl,h⟩
theorem pe_non{j pos}:PE X (.Constant .none j pos) (tC .non):=fun _ _ _ H _ I h=>Constant_none ⟨.non,H,I,rfl,h⟩
theorem pe_str{x j pos}:PE X (.Constant (.str x) j pos) (tC (.str x)):=fun _ _ _ H _ I h=>Calls.Constant_str ⟨.str x,H,I.tok _,⟨_,rfl⟩,h⟩
def Gl(X:Cx)(x:Str):Prop:=X.env.kindOf x=some .globalImplicit
theorem ld_glob{E:Value->Shared->Prop}{pins:List (Addr×Obj)}{s:Shared}{σ:St}{H:Hp}{x:Str}{u:Value}{pos:Pos}{Q:Value->Shared->Prop}(I:Inv X pins σ H s)(hg:Gl X x)(hm:X.mg x=some u)(h:Q u s)
  (hd:(x == ("__debug__":Str))=false:=by decide):wpAny (model X.prog X.w) X.A (eval (.Name x pos) X.env) Q E s :=
 Calls.Name_function_global I.ok.kind hg (Calls.loadGlobal_global (by rw[I.ok.glob];exact I.mod.glob.keeps I.bk) hm h) hd
theorem ld_blt{E:Value->Shared->Prop}{pins:List (Addr×Obj)}{s:Shared}{σ:St}{H:Hp}{x:Str}{u:Value}{pos:Pos}{Q:Value->Shared->Prop}(I:Inv X pins σ H s)(hg:Gl X x)(hm:X.mg x=none)(hv:bootBuiltins x=some u)(h:Q u s)
  (hn:x≠"__name__":=by decide) (hd:(x == ("__debug__":Str))=false:=by decide):wpAny (model X.prog X.w) X.A (eval (.Name x pos) X.env) Q E s:=by
 obtain⟨mb,h1,h2⟩:=I.mod.blt
 exact Calls.Name_function_global I.ok.kind hg (Calls.loadGlobal_builtin (by rw[I.ok.glob];exact I.mod.glob.keeps I.bk) hm (by rw[I.ok.blt];exact h1.keeps I.bk) ((h2 x hn).trans hv) h) hd
theorem pe_glob{x:Str}{v:V}{u:Value}{pos:Pos}(hg:Gl X x)(hm:X.mg x=some u)(r:RelV v u)(hd:(x == ("__debug__":Str))=false:=by decide):PE X (.Name x pos) (tC v) :=
 fun _ _ _ H _ I h=>ld_glob I hg hm ⟨v,H,I,r,h⟩ hd
theorem pe_bltn{x:Str}{v:V}{u:Value}{pos:Pos}(hg:Gl X x)(hm:X.mg x=none)(hv:bootBuiltins x=some u)(r:RelV v u)(hn:x≠"__name__":=by decide)(hd:(x == ("__debug__":Str))=false:=by decide):PE X (.Name x pos) (tC v) :=
 fun _ _ _ H _ I h=>ld_blt I hg hm hv ⟨v,H,I,r,h⟩ hn hd
variable {a b:Expr}{ta tb:TE}{pos:Pos}
def tB(t:TE):TT:=fun σ H Q=>t σ H fun x H1=>∃c,x=.bl c/\Q c H1
theorem pt_val{e:Expr}{t:TE}(h:PE X e t)(he:∀whole,isTrue e X.env whole=(do let v ←whole;standAt e.pos;holding [v] (truthy v)):=by intro _;rfl):PT X e (tB t):=by
 intro pins s σ H Q I hw
 refine isTrue_plain (thn (h pins s σ H _ I hw) fun v s1 ⟨x,H1,I1,r1,q1⟩=>?_) (he _)
 obtain⟨d,rfl,q⟩:=q1
 cases r1
 exact wpAny_truthy_bool ⟨H1,I1,q⟩
variable {tA tB':TT}{rest:List Expr}
def tAnd(t u:TT):TT:=fun σ H Q=>t σ H fun c H1=>if c=true then u σ H1 Q else Q false H1
def tOr(t u:TT):TT:=fun σ H Q=>t σ H fun c H1=>if c=true then Q true H1 else u σ H1 Q
def tNot(t:TT):TT:=fun σ H Q=>t σ H fun c H1=>Q (!c) H1
theorem pw_and1(ha:PT X a tA):PW X (.BoolOp .And [a] pos) tA:=by
 intro wh pins s σ H Q I h
 refine isTrue_and (thn (ha pins s σ H Q I h) fun c s1 e=>?_)
 cases c with
 |true=>exact isTrue_and_nil e
 |false=>exact e
theorem pw_or1(ha:PT X a tA):PW X (.BoolOp .Or [a] pos) tA:=by
 intro wh pins s σ H Q I h
 refine isTrue_or (thn (ha pins s σ H Q I h) fun c s1 e=>?_)
 cases c with
 |false=>exact isTrue_or_nil e
 |true=>exact e
theorem pw_and(ha:PT X a tA)(hb:PW X (.BoolOp .And (b::rest) pos) tB'):PW X (.BoolOp .And (a::b::rest) pos) (tAnd tA tB'):=by
 intro wh pins s σ H Q I h
 refine isTrue_and (thn (ha pins s σ H _ I h) fun c s1 ⟨H1,I1,q1⟩=>?_)
 cases c with
 |true=>exact hb wh pins s1 σ H1 Q I1 q1
 |false=>exact⟨H1,I1,q1⟩
theorem pw_or(ha:PT X a tA)(hb:PW X (.BoolOp .Or (b::rest) pos) tB'):PW X (.BoolOp .Or (a::b::rest) pos) (tOr tA tB'):=by
 intro wh pins s σ H Q I h
 refine isTrue_or (thn (ha pins s σ H _ I h) fun c s1 ⟨H1,I1,q1⟩=>?_)
 cases c with
 |true=>exact⟨H1,I1,q1⟩
 |false=>exact hb wh pins s1 σ H1 Q I1 q1
theorem pt_not(ha:PT X a tA):PT X (.UnaryOp .Not a pos) (tNot tA):=by
 intro pins s σ H Q I h
 exact isTrue_not (ha pins s σ H (fun c H1=>Q (!c) H1) I h)
def tAndV(ta tb:TE):TE:=fun σ H Q=>ta σ H fun x H1=>∃c,x=.bl c/\if c=true then tb σ H1 Q else Q (.bl false) H1
def tOrV(ta tb:TE):TE:=fun σ H Q=>ta σ H fun x H1=>∃c,x=.bl c/\if c=true then Q (.bl true) H1 else tb σ H1 Q
def tNotV(ta:TE):TE:=fun σ H Q=>ta σ H fun x H1=>∃c,x=.bl c/\Q (.bl (!c)) H1
theorem pe_one{op}{t:TE}(h:PE X a t):PE X (.BoolOp op [a] pos) t:=fun pins s σ H Q I hw=>BoolOp_one (h pins s σ H Q I hw)
theorem pe_and(ha:PE X a ta)(hb:PE X (.BoolOp .And (b::rest) pos) tb):PE X (.BoolOp .And (a::b::rest) pos) (tAndV ta tb):=by
 intro pins s σ H Q I h
 refine BoolOp_and (thn (ha pins s σ H _ I h) fun v s1 ⟨x,H1,I1,r1,q1⟩=>?_)
 obtain⟨c,rfl,q1⟩:=q1
 cases r1
 refine wpAny_truthy_bool ?_
 cases c with
 |true=>exact hb pins s1 σ H1 Q I1 q1
 |false=>exact⟨.bl false,H1,I1,rfl,q1⟩
theorem pe_or(ha:PE X a ta)(hb:PE X (.BoolOp .Or (b::rest) pos) tb):PE X (.BoolOp .Or (a::b::rest) pos) (tOrV ta tb):=by
 intro pins s σ H Q I h
 refine BoolOp_or (thn (ha pins s σ H _ I h) fun v s1 ⟨x,H1,I1,r1,q1⟩=>?_)
 obtain⟨c,rfl,q1⟩:=q1
 cases r1
 refine wpAny_truthy_bool ?_
 cases c with
 |false=>exact hb pins s1 σ H1 Q I1 q1
 |true=>exact⟨.bl true,H1,I1,rfl,q1⟩
theorem pe_not(ha:PE X a ta):PE X (.UnaryOp .Not a pos) (tNotV ta):=by
 intro pins s σ H Q I h
 refine UnaryOp_ (thn (ha pins s σ H _ I h) fun v s1 ⟨x,H1,I1,r1,q1⟩=>?_)
 obtain⟨c,rfl,q1⟩:=q1
 cases r1
 exact not_of (wpAny_truthy_bool ⟨.bl (!c),H1,I1,rfl,q1⟩)
def tIf(t:TT)(ta tb:TE):TE:=fun σ H Q=>t σ H fun c H1=>if c=true then ta σ H1 Q else tb σ H1 Q
theorem pe_ifExp{c:Expr}(hc:PT X c tA)(ha:PE X a ta)(hb:PE X b tb):PE X (.IfExp c a b pos) (tIf tA ta tb):=by
 intro pins s σ H Q I h
 refine wpAny_IfExp (thn (hc pins s σ H _ I h) fun d s1 ⟨H1,I1,q1⟩=>?_)
 cases d with
 |true=>exact ha pins s1 σ H1 Q I1 q1
 |false=>exact hb pins s1 σ H1 Q I1 q1
end
def SqL(K:PySem.W.Frag)(H:Hp)(a:Addr)(xs:List V):Prop :=
 Rd H a (.lst xs) \/
  ∃(o:Obj) (its:Array Value) (n:Nat),K.lookup a=some o/\o.cls=.type "list"/\o.dict=none/\o.data=.seq its n/\its.size<=sizeLine/\Vals xs its.toList
def SqT(K:PySem.W.Frag)(H:Hp)(a:Addr)(xs:List V):Prop :=
 Rd H a (.tup xs) \/
  ∃(o:Obj) (its:Array Value) (n:Nat),K.lookup a=some o/\o.cls=.type "tuple"/\o.data=.seq its n/\its.size<=sizeLine/\Vals xs its.toList/\o.dict=none
def absV:Value->Option V
 |.none=>some .non
 |.bool b=>some (.bl b)
 |.int i _=>some (.int i)
 |.str x _=>some (.str x)
 |.bytes b _=>some (.byt b)
 |.float b _=>some (.flt b)
 |.ref a=>some (.ref a)
 |.type n=>some (.ty n)
 |_=>none
theorem RelV.abs{x:V}{u:Value}(r:RelV x u):absV u=some x:=by
 cases x with
 |non=>cases r;rfl
 |bl _=>cases r;rfl
 |int _=>obtain⟨t,rfl⟩:=r;rfl
 |str _=>obtain⟨t,rfl⟩:=r;rfl
 |byt _=>obtain⟨t,rfl⟩:=r;rfl
 |flt _=>obtain⟨t,rfl⟩:=r;rfl
 |ref _=>cases r;rfl
 |ty _=>cases r;rfl
theorem RelV.inj{x y:V}{u:Value}(r:RelV x u)(q:RelV y u):x=y:=Option.some.inj (r.abs.symm.trans q.abs)
theorem Vals.inj:∀{xs ys:List V}{us:List Value},Vals xs us->Vals ys us->xs=ys
 |_,_,_,.nil,.nil=>rfl
 |_,_,_,.cons r t,.cons r' t'=>by rw[r.inj r',Vals.inj t t']
section
variable {X:Cx}{pins:List (Addr×Obj)}{σ:St}{H:Hp}{s:Shared}{a:Addr}{xs ys:List V}
theorem SqL.of{K:PySem.W.Frag}(h:H a=some (.lst xs)):SqL K H a xs:=.inl (.inl h)
theorem SqT.of{K:PySem.W.Frag}(h:H a=some (.tup xs)):SqT K H a xs:=.inl (.inl h)
theorem Inv.list(I:Inv X pins σ H s)(h:SqL X.K H a xs):∃its:List Value,Vals xs its/\PlainL s.heap a its.toArray/\xs.length<=sizeLine:=by
 rcases h with h|⟨o,its,n,hk,hc,hd,hs,hz,r⟩
 ·obtain⟨z,its,n,r,e⟩:=h.ok I.hok
  exact⟨its,r,⟨_,n,e,rfl,rfl,rfl⟩,z⟩
 ·refine⟨its.toList,r,⟨o,n,I.kIn a o hk,hc,hd,by simpa using hs⟩,?_⟩
  have e:=r.length
  simp only[Array.length_toList]at e
  omega
theorem Inv.tuple(I:Inv X pins σ H s)(h:SqT X.K H a xs):∃its:List Value,Vals xs its/\IsTup s.heap a its.toArray/\xs.length<=sizeLine:=by
 rcases h with h|⟨o,its,n,hk,hc,hs,hz,r,_⟩
 ·obtain⟨z,its,r,p,_⟩:=h.ok I.hok
  exact⟨its,r,p,z⟩
 ·refine⟨its.toList,r,⟨o,I.kIn a o hk,hc,n,by simpa using hs⟩,?_⟩
  have e:=r.length
  simp only[Array.length_toList]at e
  omega
theorem Inv.list_inj(I:Inv X pins σ H s)(h:SqL X.K H a xs)(h':SqL X.K H a ys):xs=ys:=by
 obtain⟨its,r,⟨o,n,e,_,_,d⟩,_⟩:=I.list h
 obtain⟨its',r',⟨o',n',e',_,_,d'⟩,_⟩:=I.list h'
 rw[e]at e';cases e'
 rw[d]at d'
 injection d' with d1 _
 have:its=its':=by simpa using congrArg Array.toList d1
 subst this
 exact r.inj r'
theorem Inv.tuple_inj(I:Inv X pins σ H s)(h:SqT X.K H a xs)(h':SqT X.K H a ys):xs=ys:=by
 obtain⟨its,r,⟨o,e,_,n,d⟩,_⟩:=I.tuple h
 obtain⟨its',r',⟨o',e',_,n',d'⟩,_⟩:=I.tuple h'
 rw[e]at e';cases e'
 rw[d]at d'
 injection d' with d1 _
 have:its=its':=by simpa using congrArg Array.toList d1
 subst this
 exact r.inj r'
end
abbrev Cx.wish(X:Cx)(E:Value->Shared->Prop):Cx:={X with xe:=E}
abbrev Cx.nox(X:Cx):Cx:=X.wish fun _ _=>False
theorem Cx.Ok.wish{X:Cx}(ok:X.Ok)(E:Value->Shared->Prop):(X.wish E).Ok :=
 ⟨ok.mod,ok.kind,ok.glob,ok.blt,ok.above,ok.inj,ok.has,ok.cab,ok.hd,ok.frames,ok.stk,ok.exf,ok.bs,ok.bsz,ok.noex,ok.exfs,ok.funs,ok.frf⟩
theorem Cx.Ok.unwish{X:Cx}{E:Value->Shared->Prop}(ok:(X.wish E).Ok):X.Ok :=
 ⟨ok.mod,ok.kind,ok.glob,ok.blt,ok.above,ok.inj,ok.has,ok.cab,ok.hd,ok.frames,ok.stk,ok.exf,ok.bs,ok.bsz,ok.noex,ok.exfs,ok.funs,ok.frf⟩
section
variable {X:Cx}{pins:List (Addr×Obj)}{σ:St}{H:Hp}{s:Shared}{E:Value->Shared->Prop}
theorem Inv.wish(I:Inv X pins σ H s)(E:Value->Shared->Prop):Inv (X.wish E) pins σ H s:=⟨I.ok.wish E,I.os,I.bare,I.base,I.loc,I.cell,I.free,I.freeC,I.pin,I.hok,I.len⟩
theorem Inv.unwish(I:Inv (X.wish E) pins σ H s):Inv X pins σ H s:=⟨I.ok.unwish,I.os,I.bare,I.base,I.loc,I.cell,I.free,I.freeC,I.pin,I.hok,I.len⟩
theorem SP.unwish{D:Ends}{f:Flow}{s':Shared}(h:SP (X.wish E) pins D f s'):SP X pins D f s':=by
 cases f with
 |next=>obtain⟨σ',H',I,q⟩:=h;exact⟨σ',H',I.unwish,q⟩
 |brk=>obtain⟨σ',H',I,q⟩:=h;exact⟨σ',H',I.unwish,q⟩
 |cont=>obtain⟨σ',H',I,q⟩:=h;exact⟨σ',H',I.unwish,q⟩
 |ret u=>obtain⟨v,σ',H',I,r,q⟩:=h;exact⟨v,σ',H',I.unwish,r,q⟩
theorem PSs.nox{st:List Stmt}{t:TS}(h:PSs X.nox st t):PSs X st t:=fun pins s σ H D I hw =>
 wpAny_mono (h pins s σ H D (I.wish _) hw) (fun _ _ q=>q.unwish) fun _ _ z=>False.elim z
end
section
variable {X:Cx}{st:Stmt}{rest:List Stmt}{t u:TS}{e:Expr}{te:TE}{pos:Pos}
def tNext:TS:=fun D σ H=>D.nx σ H
def tSeq(t u:TS):TS:=fun D σ H=>t {D with nx:=u D} σ H
theorem pss_nil:PSs X [] tNext:=fun _ _ σ H _ I h=>wpAny_execs_nil ⟨σ,H,I,h⟩
theorem pss_cons(h1:PS X st t)(h2:PSs X rest u):PSs X (st::rest) (tSeq t u):=by
 intro pins s σ H D I h
 refine wpAny_execs_cons (thn (h1 pins s σ H {D with nx:=u D} I h) fun f s1 q=>?_)
 cases f with
 |next =>
  obtain⟨σ',H',I',q⟩:=q
  exact h2 pins s1 σ' H' D I' q
 |ret v=>exact q
 |brk=>exact q
 |cont=>exact q
theorem pss_one(h1:PS X st t):PSs X [st] t:=by
 intro pins s σ H D I h
 refine wpAny_execs_cons (thn (h1 pins s σ H D I h) fun f s1 q=>?_)
 cases f with
 |next=>exact wpAny_execs_nil q
 |ret v=>exact q
 |brk=>exact q
 |cont=>exact q
theorem Inv.quiet{pins:List (Addr×Obj)}{σ:St}{H:Hp}{s:Shared}(I:Inv X pins σ H s):interactive X.env=false:=by simp[interactive,I.ok.kind]
def tDrop(te:TE):TS:=fun D σ H=>te σ H fun _ H1=>D.nx σ H1
theorem ps_expr(he:PE X e te)(hs:swapsWith e none pos.line X.env=pure false:=by rfl):PS X (.Expr e pos) (tDrop te):=by
 intro pins s σ H D I h
 exact wpAny_Expr_any (thn (he pins s σ H _ I h) fun v s1 ⟨x,H1,I1,r1,q1⟩=>⟨σ,H1,I1,q1⟩) I.quiet hs
def tRet(te:TE):TS:=fun D σ H=>te σ H D.rt
theorem ps_ret(he:PE X e te):PS X (.Return (some e) pos) (tRet te):=by
 intro pins s σ H D I h
 exact wpAny_Return_some (thn (he pins s σ H _ I h) fun v s1 ⟨x,H1,I1,r1,q1⟩=>⟨x,σ,H1,I1,r1,q1⟩)
def tIfS(c:TT)(t u:TS):TS:=fun D σ H=>c σ H fun b H1=>if b=true then t D σ H1 else u D σ H1
theorem ps_if{c:Expr}{a b:List Stmt}{tc:TT}(hc:PT X c tc)(ha:PSs X a t)(hb:PSs X b u):PS X (.If c a b pos) (tIfS tc t u):=by
 intro pins s σ H D I h
 refine wpAny_If (thn (hc pins s σ H _ I h) fun d s1 ⟨H1,I1,q1⟩=>?_)
 cases d with
 |true=>exact ha pins s1 σ H1 D I1 q1
 |false=>exact hb pins s1 σ H1 D I1 q1
def tNever:TS:=fun _ _ _=>False
theorem ps_never:PS X st tNever:=fun _ _ _ _ _ _ h=>h.elim
end
abbrev TG:=V->St->Hp->(St->Hp->Prop)->Prop
abbrev TGs:=List V->St->Hp->(St->Hp->Prop)->Prop
def PG(X:Cx)(target:Expr)(t:TG):Prop :=
 ∀(pins:List (Addr×Obj)) (s:Shared) (σ:St) (H:Hp) (v:V) (u:Value) (Q:St->Hp->Prop),Inv X pins σ H s->RelV v u->t v σ H Q ->
  wpAny (model X.prog X.w) X.A (assign target X.env u) (fun _ s'=>∃σ' H',Inv X pins σ' H' s'/\Q σ' H') X.xe s
def PGs(X:Cx)(ts:List Expr)(t:TGs):Prop :=
 ∀(pins:List (Addr×Obj)) (s:Shared) (σ:St) (H:Hp) (vs:List V) (us:List Value) (Q:St->Hp->Prop),Inv X pins σ H s->Vals vs us->t vs σ H Q ->
  wpAny (model X.prog X.w) X.A (assignInOrder ((assignEach ts X.env).map (·.2)) us) (fun _ s'=>∃σ' H',Inv X pins σ' H' s'/\Q σ' H') X.xe s
abbrev TSet:=V->V->V->Hp->(Hp->Prop)->Prop
def PSet(X:Cx)(t:TSet):Prop :=
 ∀(pins:List (Addr×Obj)) (s:Shared) (σ:St) (H:Hp) (o i v:V) (ov iv u:Value) (Q:Hp->Prop),Inv X pins σ H s->RelV o ov->RelV i iv->RelV v u->t o i v H Q ->
  wpAny (model X.prog X.w) X.A (setItem ov iv u) (fun _ s'=>∃H',Inv X pins σ H' s'/\Q H') X.xe s
section
variable {X:Cx}{pos:Pos}
def gName(i:Nat):TG:=fun v σ H Q=>Q (σ.set i (some v)) H
theorem pg_name{i:Nat}{x:Str}(hN:X.N.Nodup)(hi:X.N[i]?=some x)(hx:Loc X.env.scope x)(hf:X.fn x=true\/X.env.scope.names.lookup x=some .local:=by first|exact .inl rfl|exact .inr rfl|assumption):PG X (.Name x pos) (gName i):=by
 intro pins s σ H v u Q I r h
 exact wpAny_assign_Name (store_ok I hN hi hx r (fun s' I'=>⟨_,H,I',h⟩) hf)
def gNil:TGs:=fun vs σ H Q=>vs=[]/\Q σ H
def gCons(t:TG)(u:TGs):TGs:=fun vs σ H Q=>∃v r,vs=v::r/\t v σ H fun σ' H'=>u r σ' H' Q
theorem pgs_nil:PGs X [] gNil:=by
 intro pins s σ H vs us Q I r h
 obtain⟨e,h⟩:=h
 subst e
 cases r
 exact assignInOrder_nil ⟨σ,H,I,h⟩
theorem pgs_cons{e:Expr}{es:List Expr}{t:TG}{u:TGs}(h1:PG X e t)(h2:PGs X es u)
  (hs:(assignEach (e::es) X.env).map (·.2)=assign e X.env::(assignEach es X.env).map (·.2):=by rfl):PGs X (e::es) (gCons t u):=by
 intro pins s σ H vs us Q I r h
 obtain⟨v,vr,e1,h⟩:=h
 subst e1
 cases r with
 |cons r rr =>
  rw[hs]
  refine assignInOrder_cons (thn (h1 pins s σ H _ _ _ I r h) fun _ s1 ⟨σ1,H1,I1,q1⟩=>?_)
  exact h2 pins s1 σ1 H1 _ _ Q I1 rr q1
def gTup(K:PySem.W.Frag)(n:Nat)(t:TGs):TG:=fun v σ H Q=>∃a xs,v=.ref a/\SqT K H a xs/\xs.length=n/\t xs σ H Q
theorem pg_tup{es:List Expr}{k:Nat}{t:TGs}{n:Nat}(hc:X.calm=true)(h:PGs X es t)
  (hn:(assignEach es X.env).length=n:=by rfl) (hst:(assignEach es X.env).findIdx? (·.1)=none:=by rfl):PG X (.Tuple es k pos) (gTup X.K n t):=by
 intro pins s σ H v u Q I r hw
 obtain⟨a,xs,e1,hq,hl,hw⟩:=hw
 subst e1
 cases r
 obtain⟨its,rv,ht,hz⟩:=I.tuple hq
 refine assign_Tuple_tuple (I.ok.hd hc) ht (by simp[hn,←hl,rv.length]) hst fun h' hx=>?_
 have I1:Inv X pins σ H {s with heap:=h'}:=I.kept (t':=s.toks) fun b o e=>hx b o (Nat.ne_of_lt (Heap.lt_size e)) e
 exact h pins _ σ H xs _ Q I1 (by simpa using rv) hw
def gSub(to ti:TE)(t:TSet):TG:=fun v σ H Q=>to σ H fun o H1=>ti σ H1 fun i H2=>t o i v H2 fun H3=>Q σ H3
theorem pg_sub{o i:Expr}{to ti:TE}{t:TSet}(ho:PE X o to)(hi:PE X i ti)(hs:PSet X t)
  (ha:∀v,assign (.Subscript o i pos) X.env v=(do
   let ov ←holding [v] (eval o X.env)
   let iv ←holding [v,ov] (eval i X.env)
   standAt pos
   holding [v,ov,iv] (setItem ov iv v)
   release [v,ov,iv] []):=by intro _;rfl):PG X (.Subscript o i pos) (gSub to ti t):=by
 intro pins s σ H v u Q I r h
 rw[ha]
 refine wpAny_bind (wpAny_holding (thn (ho pins s σ H _ I h) fun ov s1 ⟨x,H1,I1,r1,q1⟩=>?_))
 refine wpAny_bind (wpAny_holding (thn (hi pins s1 σ H1 _ I1 q1) fun iv s2 ⟨y,H2,I2,r2,q2⟩=>?_))
 refine wpAny_bind (wpAny_standAt (wpAny_bind (wpAny_holding (thn (hs pins s2 σ H2 x y v ov iv u _ I2 r1 r2 r q2) fun _ s3 ⟨H3,I3,q3⟩=>?_))))
 exact wpAny_release ⟨σ,H3,I3,q3⟩
def tAsg(te:TE)(g:TG):TS:=fun D σ H=>te σ H fun x H1=>g x σ H1 D.nx
theorem ps_asg{tg e:Expr}{te:TE}{g:TG}(he:PE X e te)(hg:PG X tg g)(hs:swapsWithSole [tg] e pos.line X.env=pure false:=by rfl)(hw:swappedStores [tg] e X.env=pure none:=by rfl)
  (h1:(assignEach [tg] X.env).map (·.2)=[assign tg X.env]:=by rfl):PS X (.Assign [tg] e pos) (tAsg te g):=by
 intro pins s σ H D I h
 refine wpAny_Assign_stores (thn (he pins s σ H _ I h) fun v s1 ⟨x,H1,I1,r1,q1⟩=>?_) hs hw
 rw[h1]
 exact thn (hg pins s1 σ H1 x v _ I1 r1 q1) fun _ s2 q=>q
theorem ps_set{i:Nat}{x:Str}{e:Expr}{te:TE}{pos':Pos}(hN:X.N.Nodup)(hi:X.N[i]?=some x)(hx:Loc X.env.scope x)(he:PE X e te)(hs:swapsWith e (some (.Name x pos')) pos.line X.env=pure false:=by rfl)(hf:X.fn x=true\/X.env.scope.names.lookup x=some .local:=by first|exact .inl rfl|exact .inr rfl|assumption) :
  PS X (.Assign [.Name x pos'] e pos) (tAsg te (gName i)):=by
 intro pins s σ H D I h
 refine wpAny_Assign_Name (thn (he pins s σ H _ I h) fun v s1 ⟨y,H1,I1,r1,q1⟩=>?_) hs
 exact store_ok I1 hN hi hx r1 (fun s2 I2=>⟨_,H1,I2,q1⟩) hf
end
section
variable {X:Cx}{pos:Pos}
def tWhile(c:TT)(tb:TS):TS:=fun D σ H=>∃W:Nat->St->Hp->Prop,(∃m,W m σ H)/\∀m σ H,W m σ H ->
 c σ H fun b H1=>if b=true then ∃N:St->Hp->Prop,(∀σ' H',N σ' H'->∃m',m' < m/\W m' σ' H')/\tb {D with nx:=N,ct:=N,bk:=D.nx} σ H1 else D.nx σ H1
theorem ps_while{c:Expr}{body:List Stmt}{tc:TT}{tb:TS}(hp:PassesOwn (model X.prog X.w) X.A X.env X.xe)(hc:PT X c tc)(hb:PSs X body tb):PS X (.While c body [] pos) (tWhile tc tb):=by
 intro pins s σ H D I h
 obtain⟨W,⟨m0,w0⟩,turn⟩:=h
 refine wpAny_While (codeAny_whileLoop (fun n s'=>∃σ' H',Inv X pins σ' H' s'/\W n σ' H') ?_ m0 ⟨σ,H,I,w0⟩)
 rintro n s1 ⟨σ1,H1,I1,w1⟩
 refine wpAny_passesOwn hp (thn (hc pins s1 σ1 H1 _ I1 (turn n σ1 H1 w1)) fun b s2 ⟨H2,I2,q2⟩=>?_)
 cases b with
 |true =>
  obtain⟨N,hN,q2⟩:=q2
  rw[if_pos rfl]
  refine wpAny_passesOwn hp (thn (hb pins s2 σ1 H2 _ I2 q2) fun f s3 q3=>?_)
  cases f with
  |next =>
   obtain⟨σ3,H3,I3,n3⟩:=q3
   obtain⟨m',hm,w3⟩:=hN σ3 H3 n3
   exact⟨m',hm,σ3,H3,I3,w3⟩
  |cont =>
   obtain⟨σ3,H3,I3,n3⟩:=q3
   obtain⟨m',hm,w3⟩:=hN σ3 H3 n3
   exact⟨m',hm,σ3,H3,I3,w3⟩
  |brk=>exact q3
  |ret v=>exact q3
 |false =>
  rw[if_neg Bool.false_ne_true]
  exact wpAny_execs_nil ⟨σ1,H2,I2,q2⟩
end
structure It where
 go:Nat->Hp->Prop
 yld:Nat->Hp->V->Hp->Prop
 stop:Nat->Hp->Prop
def FpOk(X:Cx)(pins:List (Addr×Obj))(H:Hp)(b:Addr):Prop :=
 H b=none/\b≠X.env.locals/\b∉X.fs/\(b∈X.ex\/X.s₀.heap.objs.size<=b)/\(∀x c,X.env.cells.lookup x=some c->c≠b)/\∀p∈X.pn++pins,p.1≠b
theorem Inv.fpOk{X:Cx}{pins:List (Addr×Obj)}{σ:St}{H H':Hp}{s:Shared}{b:Addr}(I:Inv X pins σ H s)(hb:s.heap.objs.size<=b)(hn:H' b=none):FpOk X pins H' b:=by
 refine⟨hn,Nat.ne_of_gt (Nat.lt_of_lt_of_le I.lt hb),I.nofs hb,.inr (Nat.le_trans I.sz hb),fun x c e z=>?_,fun p hp z=>?_⟩
 ·obtain⟨v,q⟩:=I.cell x c e
  exact absurd (Nat.lt_of_lt_of_le q.lt (by rw[z];exact hb)) (Nat.lt_irrefl _)
 ·exact absurd (Nat.lt_of_lt_of_le (Heap.lt_size (I.pin p hp).1) (by rw[z];exact hb)) (Nat.lt_irrefl _)
structure Turn(P:Program) (w:World) (K:PySem.W.Frag) (tg:Expr) (J:It) (fp:List Addr) (it:Addr) (tn:Nat->Heap->Prop):Prop where
 mem:it∈fp
 obj:∀i h,tn i h->∀b∈fp,∃o,h.get? b=some o/\∀v,o.data≠.cell v
 keep:∀i h h',tn i h->(∀b∈fp,∀o,h.get? b=some o->h'.get? b=some o)->tn i h'
 item:∀(X:Cx),X.prog=P->X.w=w->X.K=K->X.calm=true->∀(i:Nat) (pins:List (Addr×Obj)) (s:Shared) (σ:St) (H:Hp) (E:Value->Shared->Prop),Inv X pins σ H s->(∀b∈fp,FpOk X pins H b)->tn i s.heap->J.go i H ->
  wpAny (model P w) X.A (pyNext (.ref it)) (fun r s1=>∃u,r=some u /\
   wpAny (model P w) X.A (letOwnedTupleGo tg (.ref it) u) (fun _ s2=>∃x H',Inv X pins σ H' s2/\RelV x u/\J.yld i H x H'/\tn (i+1) s2.heap/\∀b∈fp,H' b=none) E s1) E s
 done:∀(X:Cx),X.prog=P->X.w=w->X.K=K->X.calm=true->∀(i:Nat) (pins:List (Addr×Obj)) (s:Shared) (σ:St) (H:Hp) (E:Value->Shared->Prop),Inv X pins σ H s->(∀b∈fp,FpOk X pins H b)->tn i s.heap->J.stop i H ->
  wpAny (model P w) X.A (pyNext (.ref it)) (fun r s1=>r=none/\Inv X pins σ H s1) E s
 self:∀(A:Around) (i:Nat) (s:Shared) (Q:Value->Shared->Prop) (E:Value->Shared->Prop),tn i s.heap->Q (.ref it) s->wpAny (model P w) A (pyIter (.ref it)) Q E s
abbrev TI:=St->Hp->(It->Hp->Prop)->Prop
def PIE(X:Cx)(pins:List (Addr×Obj))(σ:St)(tg:Expr)(R:It->Hp->Prop)(itv:Value)(s2:Shared):Prop :=
 ∃(it:Addr) (fp:List Addr) (tn:Nat->Heap->Prop) (J:It) (H':Hp),itv=.ref it/\Inv X pins σ H' s2/\Turn X.prog X.w X.K tg J fp it tn/\tn 0 s2.heap/\(∀b∈fp,FpOk X pins H' b)/\R J H'
def PI(X:Cx)(tg iter:Expr)(wi:TI):Prop :=
 ∀(pins:List (Addr×Obj)) (s:Shared) (σ:St) (H:Hp) (R:It->Hp->Prop),Inv X pins σ H s->wi σ H R ->
  wpAny (model X.prog X.w) X.A (eval iter X.env) (fun v s1=>wpAny (model X.prog X.w) X.A (pyIter v) (PIE X pins σ tg R) X.xe s1) X.xe s
theorem go_of {M : Model} {A : Around} {E : Value → Shared → Prop} {s : Shared} {tg : Expr} {it : Addr} {u : Value} {o : Obj} {n : String} {vs : Array Value} {Q : Unit → Shared → Prop} (ho : s.heap.get? it = some o) (hc : o.cls = .type n) (hd : o.data = .fields vs)
    (hn : ["enumerate", "zip", "dict_itemiterator", "dict_reverseitemiterator", "odict_iterator", "itertools.zip_longest", "itertools.pairwise"].contains n = false) (hQ : Q () s) : wpAny M A (letOwnedTupleGo tg (.ref it) u) Q E s := by
  unfold letOwnedTupleGo
  cases tg <;> first
    | exact wpAny_pure hQ
    | (cases u <;> first
        | exact wpAny_pure hQ
        | (refine wpAny_bind (wpAny_load ho ?_)
           rw [hc, hd]
           show wpAny M A (if (["enumerate", "zip", "dict_itemiterator", "dict_reverseitemiterator", "odict_iterator", "itertools.zip_longest", "itertools.pairwise"].contains n && vs[0]? == some (rawInt _)) = true then _ else _) Q E s
           rw [if_neg (by intro h; rw [hn, Bool.false_and] at h; cases h)]
           exact wpAny_pure hQ))
def Itl(K:PySem.W.Frag)(a:Addr):It :=
 ⟨fun i H=>∃xs x,SqL K H a xs/\xs[i]?=some x,fun i H x H'=>H'=H/\∀xs,SqL K H a xs->xs[i]?=some x,fun i H=>∃xs,SqL K H a xs/\xs.length<=i⟩
def Itt(K:PySem.W.Frag)(a:Addr):It :=
 ⟨fun i H=>∃xs x,SqT K H a xs/\xs[i]?=some x,fun i H x H'=>H'=H/\∀xs,SqT K H a xs->xs[i]?=some x,fun i H=>∃xs,SqT K H a xs/\xs.length<=i⟩
def Itr(lo:Int)(n:Nat):It:=⟨fun i _=>i<n,fun i H x H'=>H'=H/\x=.int (lo+i),fun i _=>n<=i⟩
theorem turn_list{P:Program}{w:World}{K:PySem.W.Frag}{tg:Expr}(a it:Addr):Turn P w K tg (Itl K a) [it] it (fun i h=>h.IsListIter it a i) where
 mem:=by simp
 obj:=fun i h st b hb=>by
  have e:b=it:=by simpa using hb
  subst e
  obtain⟨o,e,c,d⟩:=st
  exact⟨o,e,fun v z=>by rw[d]at z;cases z⟩
 keep:=fun i h h' st k=>st.at fun o e=>k it (by simp) o e
 item:=by
  intro X hP hw hK hc i pins s σ H E I hf st hg
  subst hP hw hK
  obtain⟨xs,x,hq,hx⟩:=hg
  obtain⟨its,rv,p,hz⟩:=I.list hq
  obtain⟨u,hu,ru⟩:=rv.get hx
  obtain⟨f0,f1,f2,f3,f4,f5⟩:=hf it (by simp)
  refine wpAny_pyNext_list_item st p.isList (x:=u) (by simpa using hu) fun h' st' sb=>?_
  have I1:Inv X pins σ H {s with heap:=h'}:=I.turned (t':=s.toks) (fun b o hb e=>(sb.2 b hb).trans e) f0 f1 f3 f4 f5
  obtain⟨o,e,c,d⟩:=id st'
  exact⟨u,rfl,go_of (s:={s with heap:=h'}) e c d (by decide) ⟨x,H,I1,ru,⟨rfl,fun ys hy=>by rw[I.list_inj hy hq];exact hx⟩,st',fun b hb=>(hf b hb).1⟩⟩
 done:=by
  intro X hP hw hK hc i pins s σ H E I hf st hg
  subst hP hw hK
  obtain⟨xs,hq,hx⟩:=hg
  obtain⟨its,rv,p,hz⟩:=I.list hq
  obtain⟨f0,f1,f2,f3,f4,f5⟩:=hf it (by simp)
  have hl:=rv.length
  exact wpAny_pyNext_list_end (I.ok.hd hc) st p.isList (by simp;omega) fun h' eb=>⟨rfl,I.turned (t':=s.toks) (fun b o hb e=>eb b o hb e) f0 f1 f3 f4 f5⟩
 self:=fun _ _ _ _ _ st h=>wpAny_pyIter_listiter st h
theorem turn_tuple{P:Program}{w:World}{K:PySem.W.Frag}{tg:Expr}(a it:Addr):Turn P w K tg (Itt K a) [it] it (fun i h=>h.IsTupleIter it a i) where
 mem:=by simp
 obj:=fun i h st b hb=>by
  have e:b=it:=by simpa using hb
  subst e
  obtain⟨o,e,c,d⟩:=st
  exact⟨o,e,fun v z=>by rw[d]at z;cases z⟩
 keep:=fun i h h' st k=>st.at fun o e=>k it (by simp) o e
 item:=by
  intro X hP hw hK hc i pins s σ H E I hf st hg
  subst hP hw hK
  obtain⟨xs,x,hq,hx⟩:=hg
  obtain⟨its,rv,p,hz⟩:=I.tuple hq
  obtain⟨u,hu,ru⟩:=rv.get hx
  obtain⟨f0,f1,f2,f3,f4,f5⟩:=hf it (by simp)
  refine wpAny_pyNext_tuple_item st (show s.heap.IsTuple a its.toArray from p) (x:=u) (by simpa using hu) fun h' st' sb=>?_
  have I1:Inv X pins σ H {s with heap:=h'}:=I.turned (t':=s.toks) (fun b o hb e=>(sb.2 b hb).trans e) f0 f1 f3 f4 f5
  obtain⟨o,e,c,d⟩:=id st'
  exact⟨u,rfl,go_of (s:={s with heap:=h'}) e c d (by decide) ⟨x,H,I1,ru,⟨rfl,fun ys hy=>by rw[I.tuple_inj hy hq];exact hx⟩,st',fun b hb=>(hf b hb).1⟩⟩
 done:=by
  intro X hP hw hK hc i pins s σ H E I hf st hg
  subst hP hw hK
  obtain⟨xs,hq,hx⟩:=hg
  obtain⟨its,rv,p,hz⟩:=I.tuple hq
  obtain⟨f0,f1,f2,f3,f4,f5⟩:=hf it (by simp)
  have hl:=rv.length
  exact wpAny_pyNext_tuple_end (I.ok.hd hc) st (show s.heap.IsTuple a its.toArray from p) (by simp;omega) fun h' eb=>⟨rfl,I.turned (t':=s.toks) (fun b o hb e=>eb b o hb e) f0 f1 f3 f4 f5⟩
 self:=fun _ _ _ _ _ st h=>wpAny_pyIter_tupleiter st h
theorem turn_range{P:Program}{w:World}{K:PySem.W.Frag}{tg:Expr}(it:Addr)(lo:Int)(n:Nat):Turn P w K tg (Itr lo n) [it] it (fun i h=>IsRangeIter h it (lo+(i:Nat)*1) ((n:Int) - (i:Nat)) 1) where
 mem:=by simp
 obj:=fun i h st b hb=>by
  have e:b=it:=by simpa using hb
  subst e
  exact⟨_,st,fun v z=>by
   have z':Data.fields _=Data.cell v:=z
   cases z'⟩
 keep:=fun i h h' st k=>k it (by simp) _ st
 item:=by
  intro X hP hw hK hc i pins s σ H E I hf st hg
  subst hP hw hK
  obtain⟨f0,f1,f2,f3,f4,f5⟩:=hf it (by simp)
  have W:=Walks.range (prog:=X.prog) (w:=X.w) (I.ok.hd hc) it lo 1 n
  refine W.item i s _ _ hg st fun v h' tk hv st' kk=>?_
  obtain⟨t,rfl⟩:=hv
  have I1:Inv X pins σ H {s with heap:=h',toks:=tk}:=I.turned (fun b o hb e=>kk b o (by simpa using hb) e) f0 f1 f3 f4 f5
  refine⟨_,rfl,go_of (s:={s with heap:=h',toks:=tk}) (n:="range_iterator") st' rfl rfl (by decide) ⟨.int (lo+i),H,I1,⟨t,?_⟩,⟨rfl,rfl⟩,st',fun b hb=>(hf b hb).1⟩⟩
  rw[Int.mul_one]
 done:=by
  intro X hP hw hK hc i pins s σ H E I hf st hg
  subst hP hw hK
  obtain⟨f0,f1,f2,f3,f4,f5⟩:=hf it (by simp)
  exact wpAny_pyNext_range_end (I.ok.hd hc) st (by have:n<=i:=hg;omega) fun h' eb=>⟨rfl,I.turned (t':=s.toks) (fun b o hb e=>eb b o hb e) f0 f1 f3 f4 f5⟩
 self:=fun _ _ _ _ _ st h=>wpAny_pyIter_rangeiter st h
section
variable {X:Cx}{tg:Expr}
def iList(K:PySem.W.Frag)(tl:TE):TI:=fun σ H R=>tl σ H fun x H1=>∃a,x=.ref a/\(∃xs,SqL K H1 a xs)/\R (Itl K a) H1
def iTup(K:PySem.W.Frag)(tl:TE):TI:=fun σ H R=>tl σ H fun x H1=>∃a,x=.ref a/\(∃xs,SqT K H1 a xs)/\R (Itt K a) H1
theorem pi_list{l:Expr}{tl:TE}(hl:PE X l tl):PI X tg l (iList X.K tl):=by
 intro pins s σ H R I h
 refine thn (hl pins s σ H _ I h) fun v s1 ⟨x,H1,I1,r1,q1⟩=>?_
 obtain⟨a,e,⟨xs,hq⟩,q⟩:=q1
 subst e
 cases r1
 obtain⟨its,rv,p,hz⟩:=I1.list hq
 refine wpAny_pyIter_list p.isList ?_
 refine⟨s1.heap.objs.size,[s1.heap.objs.size],_,_,H1,rfl,I1.kept (t':=s1.toks) fun b o e=>Heap.get?_push_of_some _ e,turn_list a _,⟨_,Heap.get?_push_size _ rfl,rfl,rfl⟩,fun b hb=>?_,q⟩
 have e:b=s1.heap.objs.size:=by simpa using hb
 subst e
 exact I1.fpOk (Nat.le_refl _) (I1.hok.fresh (Nat.le_refl _))
theorem pi_tup{l:Expr}{tl:TE}(hl:PE X l tl):PI X tg l (iTup X.K tl):=by
 intro pins s σ H R I h
 refine thn (hl pins s σ H _ I h) fun v s1 ⟨x,H1,I1,r1,q1⟩=>?_
 obtain⟨a,e,⟨xs,hq⟩,q⟩:=q1
 subst e
 cases r1
 obtain⟨its,rv,p,hz⟩:=I1.tuple hq
 refine wpAny_pyIter_tuple (show s1.heap.IsTuple a its.toArray from p) ?_
 refine⟨s1.heap.objs.size,[s1.heap.objs.size],_,_,H1,rfl,I1.kept (t':=s1.toks) fun b o e=>Heap.get?_push_of_some _ e,turn_tuple a _,⟨_,Heap.get?_push_size _ rfl,rfl,rfl⟩,fun b hb=>?_,q⟩
 have e:b=s1.heap.objs.size:=by simpa using hb
 subst e
 exact I1.fpOk (Nat.le_refl _) (I1.hok.fresh (Nat.le_refl _))
theorem range_it{pins:List (Addr×Obj)}{σ:St}{H:Hp}{s:Shared}{R:It->Hp->Prop}{E:Value->Shared->Prop}{lo hi:Int}{t u v:Tok}{tk:Nat}(I:Inv X pins σ H s)(h1:-(2 ^ 62)<=lo)(h2:lo<2 ^ 62)(h3:-(2 ^ 62)<=hi)(h4:hi<2 ^ 62)
  (q:R (Itr lo (hi-lo).toNat) H):wpAny (model X.prog X.w) X.A (pyIter (.ref s.heap.objs.size)) (PIE X pins σ tg R) E {s with heap:=s.heap.push {cls:=.type "range",data:=.fields #[.int lo t,.int hi u,.int 1 v]},toks:=tk}:=by
 refine wpAny_pyIter_range (IsRange.new ..) (small_one h1 h2 h3 h4) ?_
 have I1:Inv X pins σ H {s with heap:=s.heap.push {cls:=.type "range",data:=.fields #[.int lo t,.int hi u,.int 1 v]},toks:=tk}:=I.kept fun b o e=>Heap.get?_push_of_some _ e
 refine⟨(s.heap.push {cls:=.type "range",data:=.fields #[.int lo t,.int hi u,.int 1 v]}).objs.size,[(s.heap.push {cls:=.type "range",data:=.fields #[.int lo t,.int hi u,.int 1 v]}).objs.size],_,_,H,rfl,
  I1.kept (t':=tk) fun b o e=>Heap.get?_push_of_some _ e,turn_range _ lo (hi-lo).toNat,?_,fun b hb=>?_,q⟩
 ·have e1:lo+((0:Nat):Int)*1=lo:=by simp
  have e2:(((hi-lo).toNat:Nat):Int) - ((0:Nat):Int)=Builtin.Range.rangeSize lo hi 1:=by rw[rangeSize_one];split<;>omega
  show IsRangeIter _ _ (lo+((0:Nat):Int)*1) ((((hi-lo).toNat:Nat):Int) - ((0:Nat):Int)) 1
  rw[e1,e2]
  exact Heap.get?_push_size _ rfl
 ·have e:b=(s.heap.push {cls:=.type "range",data:=.fields #[.int lo t,.int hi u,.int 1 v]}).objs.size:=by simpa using hb
  subst e
  exact I1.fpOk (Nat.le_refl _) (I1.hok.fresh (Nat.le_refl _))
def iRng1(ta:TA):TI:=fun σ H R=>ta σ H fun vs H1=>∃j:Int,vs=[.int j]/\-(2 ^ 62)<=j/\j<2 ^ 62/\R (Itr 0 j.toNat) H1
theorem pi_range1{a:Expr}{ta:TA}{p pos:Pos}(hg:Gl X "range")(hm:X.mg "range"=none)(ha:PA X [a] ta)(hs:starEach [a] X.env=[(false,eval a X.env)]:=by rfl):PI X tg (.Call (.Name "range" p) [a] [] pos) (iRng1 ta):=by
 intro pins s σ H R I h
 refine Call_ (ld_blt I hg hm boot_range (PyProof.Rows.callWith_type1 (thn (ha pos pins s σ H _ I h) fun us s1 ⟨vs,H1,I1,r1,q1⟩=>?_) hs rfl))
 obtain⟨j,e,q1,q2,q⟩:=q1
 subst e
 cases r1 with
 |cons r rr =>
  cases rr
  obtain⟨t,rfl⟩:=r
  exact call_range_1 (range_it I1 (by omega) (by omega) q1 q2 (by simpa using q))
def tFor(wi:TI)(g:TG)(tb:TS):TS:=fun D σ H=>wi σ H fun J H1=>∃W:Nat->Nat->St->Hp->Prop,(∃m,W 0 m σ H1)/\∀i m σ H,W i m σ H ->
 (J.stop i H/\D.nx σ H)\/(J.go i H/\∃N:St->Hp->Prop,(∀σ' H',N σ' H'->∃m',m' < m/\W (i+1) m' σ' H')/\∀x H',J.yld i H x H'->g x σ H' fun σ2 H2=>tb {D with nx:=N,ct:=N,bk:=D.nx} σ2 H2)
def pinsAt(fp:List Addr)(h:Heap):List (Addr×Obj):=fp.filterMap fun b=>(h.get? b).map fun o=>(b,o)
theorem mem_pinsAt{fp:List Addr}{h:Heap}{b:Addr}{o:Obj}(hb:b∈fp)(e:h.get? b=some o):(b,o)∈pinsAt fp h:=List.mem_filterMap.mpr ⟨b,hb,by rw[e];rfl⟩
theorem of_pinsAt{fp:List Addr}{h:Heap}{p:Addr×Obj}(hp:p∈pinsAt fp h):p.1∈fp/\h.get? p.1=some p.2:=by
 obtain⟨b,hb,e⟩:=List.mem_filterMap.mp hp
 cases q:h.get? b with
 |none=>rw[q]at e;cases e
 |some o =>
  rw[q]at e
  have e':(b,o)=p:=Option.some.inj e
  subst e'
  exact⟨hb,q⟩
theorem Inv.pinned{pins:List (Addr×Obj)}{σ:St}{H:Hp}{s:Shared}{fp:List Addr}(I:Inv X pins σ H s)(hf:∀b∈fp,FpOk X pins H b)(ho:∀b∈fp,∃o,s.heap.get? b=some o/\∀v,o.data≠.cell v):Inv X (pins++pinsAt fp s.heap) σ H s :=
 I.pins_of fun p hp=>(List.mem_append.mp hp).elim (fun z=>I.pin p (List.mem_append_right _ z)) fun z=>by
  obtain⟨hb,e⟩:=of_pinsAt z
  obtain⟨f0,f1,f2,_⟩:=hf p.1 hb
  obtain⟨o,e',d⟩:=ho p.1 hb
  rw[e]at e';cases e'
  exact⟨e,f0,f1,f2,d⟩
theorem Inv.unpinned{pins pl:List (Addr×Obj)}{σ:St}{H:Hp}{s:Shared}(I:Inv X (pins++pl) σ H s):Inv X pins σ H s:=I.pins_of fun p hp=>I.pin p (List.mem_append_right _ (List.mem_append_left _ hp))
theorem ps_for{iter:Expr}{body:List Stmt}{wi:TI}{g:TG}{tb:TS}{pos:Pos}(hp:PassesOwn (model X.prog X.w) X.A X.env X.xe)(hc:X.calm=true)(hi:PI X tg iter wi)(hg:PG X tg g)(hb:PSs X body tb)
  (hs:∀x,foldedSetIterable iter X.env x=pure x:=by intro _;rfl):PS X (.For tg iter body [] pos) (tFor wi g tb):=by
 intro pins s σ H D I h
 refine wpAny_For (thn (hi pins s σ H _ I h) fun v s1 h1=>thn h1 fun itv s2 h2=>?_) hs
 obtain⟨it,fp,tn,J,H2,e,I2,T,st2,f2,W,⟨m0,w0⟩,turn⟩:=h2
 subst e
 -- what stays true of the iterator's objects through the loop
 have stat:∀{H':Hp},(∀b∈fp,H' b=none)->∀b∈fp,FpOk X pins H' b:=fun hn b hb=>⟨hn b hb,(f2 b hb).2⟩
 refine codeAny_forLoop_any (fun n s'=>∃i σ' H',Inv X pins σ' H' s'/\tn i s'.heap/\(∀b∈fp,H' b=none)/\W i n σ' H') ?_ m0 ⟨0,σ,H2,I2,st2,fun b hb=>(f2 b hb).1,w0⟩
 rintro n s3 ⟨i,σ3,H3,I3,st3,fr3,w3⟩
 rcases turn i n σ3 H3 w3 with⟨stop,qn⟩|⟨go,N,hN,step⟩
 ·refine wpAny_passesOwn hp (thn (T.done X rfl rfl rfl hc i pins s3 σ3 H3 X.xe I3 (stat fr3) st3 stop) fun r s4 ⟨hr,I4⟩=>?_)
  subst hr
  exact wpAny_execs_nil ⟨σ3,H3,I4,qn⟩
 ·refine wpAny_passesOwn hp (thn (T.item X rfl rfl rfl hc i pins s3 σ3 H3 X.xe I3 (stat fr3) st3 go) fun r s4 ⟨u,hr,h4⟩=>?_)
  subst hr
  refine wpAny_passesOwn hp (thn h4 fun _ s5 ⟨x,H5,I5,r5,y5,st5,fr5⟩=>?_)
  have I5':=I5.pinned (stat fr5) (T.obj _ _ st5)
  refine wpAny_passesOwn hp (thn (hg _ s5 σ3 H5 x u _ I5' r5 (step x H5 y5)) fun _ s6 ⟨σ6,H6,I6,q6⟩=>?_)
  refine wpAny_passesOwn hp (thn (hb _ s6 σ6 H6 _ I6 q6) fun f s7 q7=>?_)
  have again:∀{σ7:St}{H7:Hp},Inv X (pins++pinsAt fp s5.heap) σ7 H7 s7->N σ7 H7->∃m,m<n/\∃i σ' H',Inv X pins σ' H' s7/\tn i s7.heap/\(∀b∈fp,H' b=none)/\W i m σ' H':=fun{σ7 H7} I7 n7=>by
   obtain⟨m',hm,w7⟩:=hN σ7 H7 n7
   refine⟨m',hm,i+1,σ7,H7,I7.unpinned,T.keep _ _ _ st5 fun b hb o e=>(I7.pin (b,o) (List.mem_append_right _ (List.mem_append_right _ (mem_pinsAt hb e)))).1,fun b hb=>?_,w7⟩
   obtain⟨o,e,d⟩:=T.obj _ _ st5 b hb
   exact(I7.pin (b,o) (List.mem_append_right _ (List.mem_append_right _ (mem_pinsAt hb e)))).2.1
  cases f with
  |next=>obtain⟨σ7,H7,I7,n7⟩:=q7;exact again I7 n7
  |cont=>obtain⟨σ7,H7,I7,n7⟩:=q7;exact again I7 n7
  |brk=>obtain⟨σ7,H7,I7,q7⟩:=q7;exact⟨σ7,H7,I7.unpinned,q7⟩
  |ret v=>obtain⟨x7,σ7,H7,I7,r7,q7⟩:=q7;exact⟨x7,σ7,H7,I7.unpinned,r7,q7⟩
end
theorem for_list{K:PySem.W.Frag}{a:Addr}{xs:List V}{g:TG}{tb:TS}{D:Ends}{σ:St}{H:Hp}(Pv:Nat->St->Hp->Prop)(h0:Pv 0 σ H)(hl:∀i σ H,i<=xs.length->Pv i σ H->SqL K H a xs)
  (hs:∀i x σ H,xs[i]?=some x->Pv i σ H->g x σ H fun σ2 H2=>tb {D with nx:=Pv (i+1),ct:=Pv (i+1),bk:=D.nx} σ2 H2) (hd:∀σ H,Pv xs.length σ H->D.nx σ H) :
  ∃W:Nat->Nat->St->Hp->Prop,(∃m,W 0 m σ H)/\∀i m σ H,W i m σ H ->
   ((Itl K a).stop i H/\D.nx σ H)\/((Itl K a).go i H/\∃N:St->Hp->Prop,(∀σ' H',N σ' H'->∃m',m' < m/\W (i+1) m' σ' H')/\∀x H',(Itl K a).yld i H x H'->g x σ H' fun σ2 H2=>tb {D with nx:=N,ct:=N,bk:=D.nx} σ2 H2):=by
 refine⟨fun i m σ H=>m=xs.length-i/\i<=xs.length/\Pv i σ H,⟨xs.length,by simp,Nat.zero_le _,h0⟩,?_⟩
 rintro i m σ H ⟨rfl,hi,p⟩
 have q:=hl i σ H hi p
 by_cases hlt:i<xs.length
 ·refine .inr ⟨⟨xs,xs[i],q,by simp[hlt]⟩,Pv (i+1),fun σ' H' p'=>⟨xs.length - (i+1),by omega,rfl,hlt,p'⟩,fun x H' y=>?_⟩
  obtain⟨e,y⟩:=y
  subst e
  exact hs i x σ _ (y xs q) p
 ·have e:i=xs.length:=by omega
  subst e
  exact .inl ⟨⟨xs,q,Nat.le_refl _⟩,hd σ H p⟩
theorem for_tup{K:PySem.W.Frag}{a:Addr}{xs:List V}{g:TG}{tb:TS}{D:Ends}{σ:St}{H:Hp}(Pv:Nat->St->Hp->Prop)(h0:Pv 0 σ H)(hl:∀i σ H,i<=xs.length->Pv i σ H->SqT K H a xs)
  (hs:∀i x σ H,xs[i]?=some x->Pv i σ H->g x σ H fun σ2 H2=>tb {D with nx:=Pv (i+1),ct:=Pv (i+1),bk:=D.nx} σ2 H2) (hd:∀σ H,Pv xs.length σ H->D.nx σ H) :
  ∃W:Nat->Nat->St->Hp->Prop,(∃m,W 0 m σ H)/\∀i m σ H,W i m σ H ->
   ((Itt K a).stop i H/\D.nx σ H)\/((Itt K a).go i H/\∃N:St->Hp->Prop,(∀σ' H',N σ' H'->∃m',m' < m/\W (i+1) m' σ' H')/\∀x H',(Itt K a).yld i H x H'->g x σ H' fun σ2 H2=>tb {D with nx:=N,ct:=N,bk:=D.nx} σ2 H2):=by
 refine⟨fun i m σ H=>m=xs.length-i/\i<=xs.length/\Pv i σ H,⟨xs.length,by simp,Nat.zero_le _,h0⟩,?_⟩
 rintro i m σ H ⟨rfl,hi,p⟩
 have q:=hl i σ H hi p
 by_cases hlt:i<xs.length
 ·refine .inr ⟨⟨xs,xs[i],q,by simp[hlt]⟩,Pv (i+1),fun σ' H' p'=>⟨xs.length - (i+1),by omega,rfl,hlt,p'⟩,fun x H' y=>?_⟩
  obtain⟨e,y⟩:=y
  subst e
  exact hs i x σ _ (y xs q) p
 ·have e:i=xs.length:=by omega
  subst e
  exact .inl ⟨⟨xs,q,Nat.le_refl _⟩,hd σ H p⟩
theorem for_range{lo:Int}{n:Nat}{g:TG}{tb:TS}{D:Ends}{σ:St}{H:Hp}(Pv:Nat->St->Hp->Prop)(h0:Pv 0 σ H)
  (hs:∀i σ H,i<n->Pv i σ H->g (.int (lo+i)) σ H fun σ2 H2=>tb {D with nx:=Pv (i+1),ct:=Pv (i+1),bk:=D.nx} σ2 H2) (hd:∀σ H,Pv n σ H->D.nx σ H) :
  ∃W:Nat->Nat->St->Hp->Prop,(∃m,W 0 m σ H)/\∀i m σ H,W i m σ H ->
   ((Itr lo n).stop i H/\D.nx σ H)\/((Itr lo n).go i H/\∃N:St->Hp->Prop,(∀σ' H',N σ' H'->∃m',m' < m/\W (i+1) m' σ' H')/\∀x H',(Itr lo n).yld i H x H'->g x σ H' fun σ2 H2=>tb {D with nx:=N,ct:=N,bk:=D.nx} σ2 H2):=by
 refine⟨fun i m σ H=>m=n-i/\i<=n/\Pv i σ H,⟨n,by simp,Nat.zero_le _,h0⟩,?_⟩
 rintro i m σ H ⟨rfl,hi,p⟩
 by_cases hlt:i<n
 ·refine .inr ⟨hlt,Pv (i+1),fun σ' H' p'=>⟨n - (i+1),by omega,rfl,hlt,p'⟩,fun x H' y=>?_⟩
  obtain⟨e,y⟩:=y
  subst e y
  exact hs i σ _ hlt p
 ·have e:i=n:=by omega
  subst e
  exact .inl ⟨Nat.le_refl _,hd σ H p⟩
abbrev R2:=V->V->Hp->VK->Prop
def OpR(X:Cx)(f:Value->Value->Sem Value)(r:R2):Prop :=
 ∀(pins:List (Addr×Obj)) (s:Shared) (σ:St) (H:Hp) (x y:V) (v u:Value) (Q:VK),Inv X pins σ H s->RelV x v->RelV y u->r x y H Q ->
  wpAny (model X.prog X.w) X.A (f v u) (EP X pins σ Q) X.xe s
def UnR(X:Cx)(f:Value->Sem Value)(r:V->Hp->VK->Prop):Prop :=
 ∀(pins:List (Addr×Obj)) (s:Shared) (σ:St) (H:Hp) (x:V) (v:Value) (Q:VK),Inv X pins σ H s->RelV x v->r x H Q ->
  wpAny (model X.prog X.w) X.A (f v) (EP X pins σ Q) X.xe s
def CallR(X:Cx)(f:Value)(r:List V->Hp->VK->Prop):Prop :=
 ∀(pins:List (Addr×Obj)) (s:Shared) (σ:St) (H:Hp) (xs:List V) (us:List Value) (Q:VK),Inv X pins σ H s->Vals xs us->r xs H Q ->
  wpAny (model X.prog X.w) X.A (call f us) (EP X pins σ Q) X.xe s
def TruR(X:Cx)(r:V->Hp->(Bool->Hp->Prop)->Prop):Prop :=
 ∀(pins:List (Addr×Obj)) (s:Shared) (σ:St) (H:Hp) (x:V) (v:Value) (Q:Bool->Hp->Prop),Inv X pins σ H s->RelV x v->r x H Q ->
  wpAny (model X.prog X.w) X.A (truthy v) (TP X pins σ Q) X.xe s
def tOp(r:R2)(ta tb:TE):TE:=fun σ H Q=>ta σ H fun x H1=>tb σ H1 fun y H2=>r x y H2 Q
def tUn(r:V->Hp->VK->Prop)(ta:TE):TE:=fun σ H Q=>ta σ H fun x H1=>r x H1 Q
def rI(C:Int->Int->Prop)(g:Int->Int->V):R2:=fun x y H Q=>∃i j,x=.int i/\y=.int j/\C i j/\Q (g i j) H
def rI0(g:Int->Int->V):R2:=fun x y H Q=>∃i j,x=.int i/\y=.int j/\Q (g i j) H
def rU(g:Int->V):V->Hp->VK->Prop:=fun x H Q=>∃i,x=.int i/\Q (g i) H
section
variable {X:Cx}{a b c:Expr}{ta tb tc:TE}{pos:Pos}
theorem binT(ha:PE X a ta)(hb:PE X b tb){pins:List (Addr×Obj)}{s:Shared}{σ:St}{H:Hp}{R:V->V->Hp->Prop}(I:Inv X pins σ H s)
  (h:ta σ H fun x H1=>tb σ H1 fun y H2=>R x y H2) {Q:Value->Shared->Prop}{f:Value->Value->Sem Value}
  (hf:∀v u s2 x y H2,Inv X pins σ H2 s2->RelV x v->RelV y u->R x y H2->wpAny (model X.prog X.w) X.A (f v u) Q X.xe s2) :
  wpAny (model X.prog X.w) X.A (eval a X.env) (fun v s₁=>wpAny (model X.prog X.w) X.A (eval b X.env) (fun u s₂=>wpAny (model X.prog X.w) X.A (f v u) Q X.xe s₂) X.xe s₁) X.xe s:=by
 refine thn (ha pins s σ H _ I h) fun v s1 ⟨x,H1,I1,r1,q1⟩=>?_
 refine thn (hb pins s1 σ H1 _ I1 q1) fun u s2 ⟨y,H2,I2,r2,q2⟩=>?_
 exact hf v u s2 x y H2 I2 r1 r2 q2
theorem pe_op{op:Operator}{r:R2}(ho:OpR X (binaryOp op) r)(ha:PE X a ta)(hb:PE X b tb):PE X (.BinOp a op b pos) (tOp r ta tb):=by
 intro pins s σ H Q I h
 exact wpAny_BinOp (binT ha hb I h fun v u s2 x y H2 I2 rx ry q=>ho pins s2 σ H2 x y v u Q I2 rx ry q)
theorem pe_un{op:UnaryOp}{r:V->Hp->VK->Prop}(ho:UnR X (unaryOp op) r)(ha:PE X a ta):PE X (.UnaryOp op a pos) (tUn r ta):=by
 intro pins s σ H Q I h
 exact UnaryOp_ (thn (ha pins s σ H _ I h) fun v s1 ⟨x,H1,I1,r1,q1⟩=>ho pins s1 σ H1 x v Q I1 r1 q1)
theorem opI{f:Value->Value->Sem Value}{C:Int->Int->Prop}{g:Int->Int->Int}
  (rule:∀(i j:Int) (t u:Tok) (s:Shared) (Q:Value->Shared->Prop) (E:Value->Shared->Prop),C i j->Q (.int (g i j) s.toks) {s with toks:=s.toks+1}->wpAny (model X.prog X.w) X.A (f (.int i t) (.int j u)) Q E s) :
  OpR X f (rI C fun i j=>.int (g i j)):=by
 intro pins s σ H x y v u Q I rx ry h
 obtain⟨i,j,rfl,rfl,hc,q⟩:=h
 obtain⟨t,rfl⟩:=rx
 obtain⟨t',rfl⟩:=ry
 exact rule i j t t' s _ _ hc ⟨.int (g i j),H,I.tok _,⟨_,rfl⟩,q⟩
theorem opI0{f:Value->Value->Sem Value}{g:Int->Int->Int}
  (rule:∀(i j:Int) (t u:Tok) (s:Shared) (Q:Value->Shared->Prop) (E:Value->Shared->Prop),Q (.int (g i j) s.toks) {s with toks:=s.toks+1}->wpAny (model X.prog X.w) X.A (f (.int i t) (.int j u)) Q E s) :
  OpR X f (rI0 fun i j=>.int (g i j)):=by
 intro pins s σ H x y v u Q I rx ry h
 obtain⟨i,j,rfl,rfl,q⟩:=h
 obtain⟨t,rfl⟩:=rx
 obtain⟨t',rfl⟩:=ry
 exact rule i j t t' s _ _ ⟨.int (g i j),H,I.tok _,⟨_,rfl⟩,q⟩
theorem opB0{f:Value->Value->Sem Value}{g:Int->Int->Bool}
  (rule:∀(i j:Int) (t u:Tok) (s:Shared) (Q:Value->Shared->Prop) (E:Value->Shared->Prop),Q (.bool (g i j)) s->wpAny (model X.prog X.w) X.A (f (.int i t) (.int j u)) Q E s) :
  OpR X f (rI0 fun i j=>.bl (g i j)):=by
 intro pins s σ H x y v u Q I rx ry h
 obtain⟨i,j,rfl,rfl,q⟩:=h
 obtain⟨t,rfl⟩:=rx
 obtain⟨t',rfl⟩:=ry
 exact rule i j t t' s _ _ ⟨.bl (g i j),H,I,rfl,q⟩
def CDiv(i j:Int):Prop:=0<j/\j<1073741824
def CPow(i j:Int):Prop:=0<=j/\j<=1000000/\i.natAbs<2 ^ 64
def CMul(i j:Int):Prop:=(-(2 ^ 64)<i/\i<2 ^ 64)\/(-(2 ^ 64)<j/\j<2 ^ 64)
theorem CMul.ok{i j:Int}(h:CMul i j):IntMulOk i j:=by
 rcases h with⟨h1,h2⟩|⟨h1,h2⟩
 ·exact .of_left (intBits_le_64 h1 h2)
 ·exact .of_right (intBits_le_64 h1 h2)
theorem op_add:OpR X (binaryOp .Add) (rI0 fun i j=>.int (i+j)):=opI0 fun _ _ _ _ _ _ _ q=>add_int q
theorem op_sub:OpR X (binaryOp .Sub) (rI0 fun i j=>.int (i-j)):=opI0 fun _ _ _ _ _ _ _ q=>sub_int q
theorem op_mul:OpR X (binaryOp .Mult) (rI CMul fun i j=>.int (i*j)):=opI fun _ _ _ _ _ _ _ hc q=>mul_int q hc.ok
theorem op_fdiv:OpR X (binaryOp .FloorDiv) (rI CDiv fun i j=>.int (i / j)):=opI fun i j _ _ _ _ _ hc q=>by
 have h1:(0:Int)<j:=hc.1
 have h2:j<1073741824:=hc.2
 exact floordiv_int (by omega) (by rw[Int.fdiv_eq_ediv_of_nonneg i (by omega)];exact q) (.inl (PyProof.noPylong_small (by omega)))
theorem op_mod:OpR X (binaryOp .Mod) (rI (fun _ j=>0<j) fun i j=>.int (i % j)):=opI fun i j _ _ _ _ _ hc q=>by
 have h1:(0:Int)<j:=hc
 exact mod_int' (by omega) (by rw[Int.fmod_eq_emod_of_nonneg i (by omega)];exact q)
theorem op_pow:OpR X (binaryOp .Pow) (rI CPow fun i j=>.int (i ^ j.toNat)):=opI fun _ _ _ _ _ _ _ hc q=>pow_int_small hc.1 hc.2.1 hc.2.2 q
theorem unI{f:Value->Sem Value}{g:Int->Int}
  (rule:∀(i:Int) (t:Tok) (s:Shared) (Q:Value->Shared->Prop) (E:Value->Shared->Prop),Q (.int (g i) s.toks) {s with toks:=s.toks+1}->wpAny (model X.prog X.w) X.A (f (.int i t)) Q E s) :
  UnR X f (rU fun i=>.int (g i)):=by
 intro pins s σ H x v Q I rx h
 obtain⟨i,rfl,q⟩:=h
 obtain⟨t,rfl⟩:=rx
 exact rule i t s _ _ ⟨.int (g i),H,I.tok _,⟨_,rfl⟩,q⟩
theorem un_neg:UnR X (unaryOp .USub) (rU fun i=>.int (-i)):=unI fun _ _ _ _ _ q=>neg_int q
end
def scal:V->V->Bool
 |.non,.non=>true|.non,.int _=>true|.int _,.non=>true|.non,.bl _=>true|.bl _,.non=>true|.non,.str _=>true|.str _,.non=>true
 |.int _,.int _=>true|.bl _,.bl _=>true|.str _,.str _=>true|.byt _,.byt _=>true
 |.int _,.str _=>true|.str _,.int _=>true|.bl _,.str _=>true|.str _,.bl _=>true
 |_,_=>false
def rEq:R2:=fun x y H Q=>scal x y=true/\Q (.bl (decide (x=y))) H
def rNe:R2:=fun x y H Q=>scal x y=true/\Q (.bl (!decide (x=y))) H
theorem dec_int{i j:Int}:decide (V.int i=V.int j)=(i == j):=by
 rw[Bool.eq_iff_iff]
 simp
theorem dec_bl{i j:Bool}:decide (V.bl i=V.bl j)=(i == j):=by
 rw[Bool.eq_iff_iff]
 simp
theorem dec_str{i j:Str}:decide (V.str i=V.str j)=(i == j):=by
 rw[Bool.eq_iff_iff]
 simp
theorem dec_byt{i j:Array UInt8}:decide (V.byt i=V.byt j)=(i.toList == j.toList):=by
 rw[Bool.eq_iff_iff]
 cases i
 cases j
 simp
section
variable {X:Cx}{a b c:Expr}{ta tb tc:TE}{pos:Pos}
theorem fin_bl{pins:List (Addr×Obj)}{σ:St}{H:Hp}{s:Shared}{Q:VK}{k k':Bool}(I:Inv X pins σ H s)(q:Q (.bl k) H)(e:k=k'):EP X pins σ Q (.bool k') s:=by
 subst e
 exact⟨.bl k,H,I,rfl,q⟩
theorem op_eq:OpR X (compareOp .Eq) rEq:=by
 intro pins s σ H x y v u Q I rx ry h
 obtain⟨hs,q⟩:=h
 cases x with
 |non =>
  cases rx
  cases y with
  |non=>cases ry;exact PySem.EqNone.eq_none_none (fin_bl I q (by simp))
  |bl j=>cases ry;exact PySem.EqNone.eq_none_bool (fin_bl I q (by simp))
  |int j=>obtain⟨t',rfl⟩:=ry;exact PySem.EqNone.eq_none_int (fin_bl I q (by simp))
  |str j=>obtain⟨t',rfl⟩:=ry;exact PySem.EqNone.eq_none_str (fin_bl I q (by simp))
  |_=>exact absurd (show false=true from hs) Bool.false_ne_true
 |bl i =>
  cases rx
  cases y with
  |non=>cases ry;exact PySem.EqNone.eq_bool_none (fin_bl I q (by simp))
  |bl j=>cases ry;exact eq_bool (fin_bl I q dec_bl)
  |str j=>obtain⟨t',rfl⟩:=ry;exact PySem.EqMixed.eq_bool_str (fin_bl I q (by simp))
  |_=>exact absurd (show false=true from hs) Bool.false_ne_true
 |int i =>
  obtain⟨t,rfl⟩:=rx
  cases y with
  |non=>cases ry;exact PySem.EqNone.eq_int_none (fin_bl I q (by simp))
  |int j=>obtain⟨t',rfl⟩:=ry;exact eq_int (fin_bl I q dec_int)
  |str j=>obtain⟨t',rfl⟩:=ry;exact PySem.EqMixed.eq_int_str (fin_bl I q (by simp))
  |_=>exact absurd (show false=true from hs) Bool.false_ne_true
 |str i =>
  obtain⟨t,rfl⟩:=rx
  cases y with
  |non=>cases ry;exact PySem.EqNone.eq_str_none (fin_bl I q (by simp))
  |bl j=>cases ry;exact PySem.EqMixed.eq_str_bool (fin_bl I q (by simp))
  |int j=>obtain⟨t',rfl⟩:=ry;exact PySem.EqMixed.eq_str_int (fin_bl I q (by simp))
  |str j=>obtain⟨t',rfl⟩:=ry;exact eq_str (fin_bl I q dec_str)
  |_=>exact absurd (show false=true from hs) Bool.false_ne_true
 |byt i =>
  obtain⟨t,rfl⟩:=rx
  cases y with
  |byt j=>obtain⟨t',rfl⟩:=ry;exact PySem.W.eq_bytes (fin_bl I q dec_byt)
  |_=>exact absurd (show false=true from hs) Bool.false_ne_true
 |_=>cases y<;>exact absurd (show false=true from hs) Bool.false_ne_true
theorem op_ne:OpR X (compareOp .NotEq) rNe:=by
 intro pins s σ H x y v u Q I rx ry h
 obtain⟨hs,q⟩:=h
 cases x with
 |non =>
  cases rx
  cases y with
  |non=>cases ry;exact PySem.EqNone.ne_none_none (fin_bl I q (by simp))
  |bl j=>cases ry;exact PySem.EqNone.ne_none_bool (fin_bl I q (by simp))
  |int j=>obtain⟨t',rfl⟩:=ry;exact PySem.EqNone.ne_none_int (fin_bl I q (by simp))
  |str j=>obtain⟨t',rfl⟩:=ry;exact PySem.EqNone.ne_none_str (fin_bl I q (by simp))
  |_=>exact absurd (show false=true from hs) Bool.false_ne_true
 |bl i =>
  cases rx
  cases y with
  |non=>cases ry;exact PySem.EqNone.ne_bool_none (fin_bl I q (by simp))
  |bl j=>cases ry;exact ne_bool (fin_bl I q (congrArg not dec_bl))
  |str j=>obtain⟨t',rfl⟩:=ry;exact PySem.EqMixed.ne_bool_str (fin_bl I q (by simp))
  |_=>exact absurd (show false=true from hs) Bool.false_ne_true
 |int i =>
  obtain⟨t,rfl⟩:=rx
  cases y with
  |non=>cases ry;exact PySem.EqNone.ne_int_none (fin_bl I q (by simp))
  |int j=>obtain⟨t',rfl⟩:=ry;exact ne_int (fin_bl I q (congrArg not dec_int))
  |str j=>obtain⟨t',rfl⟩:=ry;exact PySem.EqMixed.ne_int_str (fin_bl I q (by simp))
  |_=>exact absurd (show false=true from hs) Bool.false_ne_true
 |str i =>
  obtain⟨t,rfl⟩:=rx
  cases y with
  |non=>cases ry;exact PySem.EqNone.ne_str_none (fin_bl I q (by simp))
  |bl j=>cases ry;exact PySem.EqMixed.ne_str_bool (fin_bl I q (by simp))
  |int j=>obtain⟨t',rfl⟩:=ry;exact PySem.EqMixed.ne_str_int (fin_bl I q (by simp))
  |str j=>obtain⟨t',rfl⟩:=ry;exact ne_str (fin_bl I q (congrArg not dec_str))
  |_=>exact absurd (show false=true from hs) Bool.false_ne_true
 |byt i =>
  obtain⟨t,rfl⟩:=rx
  cases y with
  |byt j=>obtain⟨t',rfl⟩:=ry;exact PySem.W.ne_bytes (fin_bl I q (congrArg not dec_byt))
  |_=>exact absurd (show false=true from hs) Bool.false_ne_true
 |_=>cases y<;>exact absurd (show false=true from hs) Bool.false_ne_true
theorem op_lt:OpR X (compareOp .Lt) (rI0 fun i j=>.bl (decide (i<j))):=opB0 fun _ _ _ _ _ _ _ q=>lt_int q
theorem op_le:OpR X (compareOp .LtE) (rI0 fun i j=>.bl (decide (i<=j))):=opB0 fun _ _ _ _ _ _ _ q=>le_int q
theorem op_gt:OpR X (compareOp .Gt) (rI0 fun i j=>.bl (decide (j<i))):=opB0 fun _ _ _ _ _ _ _ q=>gt_int q
theorem op_ge:OpR X (compareOp .GtE) (rI0 fun i j=>.bl (decide (j<=i))):=opB0 fun _ _ _ _ _ _ _ q=>ge_int q
theorem op_in_str:OpR X (compareOp .In) (fun x y H Q=>∃i j,x=.str i/\y=.str j/\Q (.bl (!(Builtin.Str.occurrences j i 0 j.length 1).isEmpty)) H):=by
 intro pins s σ H x y v u Q I rx ry h
 obtain⟨i,j,rfl,rfl,q⟩:=h
 obtain⟨t,rfl⟩:=rx
 obtain⟨t',rfl⟩:=ry
 exact in_str (fin_bl I q rfl)
theorem op_notN:OpR X (compareOp .IsNot) (fun x y H Q=>y=.non/\Q (.bl (!decide (x=.non))) H):=by
 intro pins s σ H x y v u Q I rx ry h
 obtain⟨rfl,q⟩:=h
 cases ry
 refine isnot_none_gen (fin_bl I q ?_)
 cases x<;>first
  |(cases rx;rfl)
  |(obtain⟨t,rfl⟩:=rx;rfl)
theorem nomark(b:Expr){op:CmpOp}(h:op≠.In:=by decide)(h2:op≠.NotIn:=by decide):behindInMarks op b=false:=by
 have e1:(op == CmpOp.In)=false:=by cases op<;>first|rfl|exact absurd rfl h
 have e2:(op == CmpOp.NotIn)=false:=by cases op<;>first|rfl|exact absurd rfl h2
 cases b<;>simp[behindInMarks,e1,e2]
theorem pe_cmpR{op:CmpOp}{r:R2}(ho:OpR X (compareOp op) r)(ha:PE X a ta)(hb:PE X b tb)(hm:behindInMarks op b=false):PE X (.Compare a [op] [b] pos) (tOp r ta tb):=by
 intro pins s σ H Q I h
 exact wpAny_Compare1 (binT ha hb I h fun v u s2 x y H2 I2 rx ry q=>ho pins s2 σ H2 x y v u Q I2 rx ry q) hm
def tTest(t:TE):TT:=fun σ H Q=>t σ H fun x H'=>∃k,x=.bl k/\Q k H'
theorem pt_cmpR{op:CmpOp}{r:R2}(ho:OpR X (compareOp op) r)(ha:PE X a ta)(hb:PE X b tb)(hm:behindInMarks op b=false):PT X (.Compare a [op] [b] pos) (tTest (tOp r ta tb)):=by
 intro pins s σ H Q I h
 refine wpAny_isTrue_Compare1 (thn (ha pins s σ H _ I h) fun v s1 ⟨x,H1,I1,r1,q1⟩=>thn (hb pins s1 σ H1 _ I1 q1) fun u s2 ⟨y,H2,I2,r2,q2⟩ =>
  thn (ho pins s2 σ H2 x y v u _ I2 r1 r2 q2) fun c s3 ⟨z,H3,I3,r3,k,e,q3⟩=>?_) hm
 subst e
 cases r3
 exact wpAny_truthy_bool ⟨H3,I3,q3⟩
def tChain(r r':R2)(ta tb tc:TE):TE:=fun σ H Q=>ta σ H fun x H1=>tb σ H1 fun y H2=>r x y H2 fun z H3=>∃k,z=.bl k /\
 (if k=true then tc σ H3 fun w' H4=>r' y w' H4 Q else Q (.bl false) H3)
theorem pe_chain{op op':CmpOp}{r r':R2}(ho:OpR X (compareOp op) r)(ho':OpR X (compareOp op') r')(ha:PE X a ta)(hb:PE X b tb)(hc:PE X c tc)
  (hm:lastMarks [op,op'] [b,c]=false:=by with_unfolding_all rfl):PE X (.Compare a [op,op'] [b,c] pos) (tChain r r' ta tb tc):=by
 intro pins s σ H Q I h
 refine Compare_chain (thn (ha pins s σ H _ I h) fun v s1 ⟨x,H1,I1,r1,q1⟩=>chain_link (thn (hb pins s1 σ H1 _ I1 q1) fun u s2 ⟨y,H2,I2,r2,q2⟩ =>
  thn (ho pins s2 σ H2 x y v u _ I2 r1 r2 q2) fun d s3 ⟨z,H3,I3,r3,k,e,q3⟩=>?_)) hm
 subst e
 cases r3
 refine wpAny_truthy_bool ?_
 cases k with
 |false=>exact ite_ff ⟨.bl false,H3,I3,rfl,q3⟩
 |true=>exact ite_tt (chain_last (thn (hc pins s3 σ H3 _ I3 q3) fun w' s4 ⟨z',H4,I4,r4,q4⟩=>ho' pins s4 σ H4 y z' u w' Q I4 r2 r4 q4))
theorem pt_chain{op op':CmpOp}{r r':R2}(ho:OpR X (compareOp op) r)(ho':OpR X (compareOp op') r')(ha:PE X a ta)(hb:PE X b tb)(hc:PE X c tc)
  (hm:lastMarks [op,op'] [b,c]=false:=by with_unfolding_all rfl):PT X (.Compare a [op,op'] [b,c] pos) (tTest (tChain r r' ta tb tc)):=by
 intro pins s σ H Q I h
 refine isTrue_chain (thn (ha pins s σ H _ I h) fun v s1 ⟨x,H1,I1,r1,q1⟩=>test_link (thn (hb pins s1 σ H1 _ I1 q1) fun u s2 ⟨y,H2,I2,r2,q2⟩ =>
  thn (ho pins s2 σ H2 x y v u _ I2 r1 r2 q2) fun d s3 ⟨z,H3,I3,r3,k,e,q3⟩=>?_)) hm
 subst e
 cases r3
 refine wpAny_truthy_bool ?_
 cases k with
 |false =>
  obtain⟨k',e',q'⟩:=q3
  cases e'
  exact ite_ff ⟨H3,I3,q'⟩
 |true =>
  refine ite_tt (test_last (thn (hc pins s3 σ H3 _ I3 q3) fun w' s4 ⟨z',H4,I4,r4,q4⟩=>thn (ho' pins s4 σ H4 y z' u w' _ I4 r2 r4 q4) fun d' s5 ⟨z2,H5,I5,r5,k2,e2,q5⟩=>?_))
  subst e2
  cases r5
  exact wpAny_truthy_bool ⟨H5,I5,q5⟩
def TruV(K:PySem.W.Frag)(x:V)(H:Hp)(k:Bool):Prop :=
 match x with
 |.non=>k=false
 |.bl b=>k=b
 |.int i=>k=(i != 0)
 |.str y=>y.length<=sizeLine/\k=((y.length:Int) != 0)
 |.byt y=>y.size<=sizeLine/\k=((y.size:Int) != 0)
 |.ref p=>(∃xs,SqL K H p xs/\k=!xs.isEmpty)\/(∃xs,SqT K H p xs/\k=!xs.isEmpty)\/∃kvs,H p=some (.dK kvs)/\k=!kvs.isEmpty
 |_=>False
theorem isEmpty_kv{κ:Type}{kvs:List (κ×V)}{vs:List (κ×Value)}(r:KV kvs vs):(!vs.isEmpty)=!kvs.isEmpty:=by
 cases r<;>rfl
theorem isEmpty_of{xs:List V}{its:List Value}(r:Vals xs its):(!its.toArray.isEmpty)=!xs.isEmpty:=by
 cases r<;>simp
theorem line63:(sizeLine:Nat)<2 ^ 63:=by rw[sizeLine_eq];decide
theorem tru_ok:TruR X (fun x H Q=>∃k,TruV X.K x H k/\Q k H):=by
 intro pins s σ H x v Q I rx h
 obtain⟨k,e,q⟩:=h
 have hl:=line63
 have hs:sizeLine=16777216:=sizeLine_eq
 cases x with
 |non =>
  cases rx
  have e':k=false:=e
  subst e'
  exact truthy_none ⟨H,I,q⟩
 |bl b =>
  cases rx
  have e':k=b:=e
  subst e'
  exact wpAny_truthy_bool ⟨H,I,q⟩
 |int i =>
  obtain⟨t,rfl⟩:=rx
  have e':k=(i != 0):=e
  subst e'
  exact PySem.P.truthy_int ⟨H,I,q⟩
 |str y =>
  obtain⟨t,rfl⟩:=rx
  obtain⟨hy,e'⟩:y.length<=sizeLine/\k=((y.length:Int) != 0):=e
  subst e'
  exact PySem.P.truthy_str (by omega) ⟨H,I.tok _,q⟩
 |byt y =>
  obtain⟨t,rfl⟩:=rx
  obtain⟨hy,e'⟩:y.size<=sizeLine/\k=((y.size:Int) != 0):=e
  subst e'
  exact PySem.W.truthy_bytes (by omega) ⟨H,I.tok _,q⟩
 |ref p =>
  cases rx
  have e':(∃xs,SqL X.K H p xs/\k=!xs.isEmpty)\/(∃xs,SqT X.K H p xs/\k=!xs.isEmpty)\/∃kvs,H p=some (.dK kvs)/\k=!kvs.isEmpty:=e
  rcases e' with⟨xs,hx,e'⟩|⟨xs,hx,e'⟩|⟨kvs,hx,e'⟩
  ·subst e'
   obtain⟨its,r,pl,hz⟩:=I.list hx
   have hlen:=r.length
   exact wpAny_truthy_list pl.isList (by simp only[List.size_toArray];omega) ⟨H,I.tok _,by rw[isEmpty_of r];exact q⟩
  ·subst e'
   obtain⟨its,r,pl,hz⟩:=I.tuple hx
   have hlen:=r.length
   exact truthy_tuple pl (by simp only[List.size_toArray];omega) ⟨H,I.tok _,by rw[isEmpty_of r];exact q⟩
  ·subst e'
   obtain⟨hz,hS,vs,r,m⟩:kvs.length<=sizeLine/\(p == sysModules)=false/\∃vs,KV kvs vs/\s.heap.DictOf (mixKind X.prog X.w) p vs:=I.hok p _ hx
   have hlen:kvs.length=vs.length:=Paired.length r
   exact wpAny_truthy_dict hS m (by omega) ⟨H,I.tok _,by rw[isEmpty_kv r];exact q⟩
 |_=>exact(show False from e).elim
theorem pt_truth(ha:PE X a ta)(he:∀whole,isTrue a X.env whole=(do let v ←whole;standAt a.pos;holding [v] (truthy v))) :
  PT X a (fun σ H Q=>ta σ H fun x H'=>∃k,TruV X.K x H' k/\Q k H'):=by
 intro pins s σ H Q I h
 exact isTrue_plain (thn (ha pins s σ H _ I h) fun v s1 ⟨x,H1,I1,r1,q1⟩=>tru_ok pins s1 σ H1 x v Q I1 r1 q1) (he _)
theorem op_add_str:OpR X (binaryOp .Add) (fun x y H Q=>∃i j,x=.str i/\y=.str j/\i.length+j.length<=sizeLine/\Q (.str (i++j)) H):=by
 intro pins s σ H x y v u Q I rx ry h
 obtain⟨i,j,rfl,rfl,hz,q⟩:=h
 obtain⟨t,rfl⟩:=rx
 obtain⟨t',rfl⟩:=ry
 exact add_str (fun t' tk=>⟨.str (i++j),H,I.tok _,⟨_,rfl⟩,q⟩) hz
theorem vals1{x:V}{us:List Value}(r:Vals [x] us):∃u,us=[u]/\RelV x u:=by
 cases r with
 |cons r1 r2=>cases r2;exact⟨_,rfl,r1⟩
theorem vals2{x y:V}{us:List Value}(r:Vals [x,y] us):∃u w',us=[u,w']/\RelV x u/\RelV y w':=by
 cases r with
 |cons r1 r2 =>
  cases r2 with
  |cons r3 r4=>cases r4;exact⟨_,_,rfl,r1,r3⟩
theorem call_max2(hc:X.calm=true):CallR X (.builtin "max") (fun xs H Q=>∃i j,xs=[.int i,.int j]/\Q (.int (if j>i then j else i)) H):=by
 intro pins s σ H xs us Q I r h
 obtain⟨i,j,rfl,q⟩:=h
 obtain⟨u,w',rfl,⟨t,rfl⟩,⟨t',rfl⟩⟩:=vals2 r
 refine max_two_ints (I.ok.hd hc) fun h' tk k=>⟨_,H,I.kept k,?_,q⟩
 by_cases hj:j>i
 ·rw[if_pos hj,if_pos hj];exact⟨_,rfl⟩
 ·rw[if_neg hj,if_neg hj];exact⟨_,rfl⟩
theorem call_min2(hc:X.calm=true):CallR X (.builtin "min") (fun xs H Q=>∃i j,xs=[.int i,.int j]/\Q (.int (if j<i then j else i)) H):=by
 intro pins s σ H xs us Q I r h
 obtain⟨i,j,rfl,q⟩:=h
 obtain⟨u,w',rfl,⟨t,rfl⟩,⟨t',rfl⟩⟩:=vals2 r
 refine min_two_ints (I.ok.hd hc) fun h' tk k=>⟨_,H,I.kept k,?_,q⟩
 by_cases hj:j<i
 ·rw[if_pos hj,if_pos hj];exact⟨_,rfl⟩
 ·rw[if_neg hj,if_neg hj];exact⟨_,rfl⟩
theorem call_int1:CallR X (.type "int") (fun xs H Q=>(∃i,xs=[.int i]/\Q (.int i) H)\/∃k,xs=[.bl k]/\Q (.int (if k then 1 else 0)) H):=by
 intro pins s σ H xs us Q I r h
 rcases h with⟨i,rfl,q⟩|⟨k,rfl,q⟩
 ·obtain⟨u,rfl,t,rfl⟩:=vals1 r
  exact call_int_int ⟨.int i,H,I,⟨_,rfl⟩,q⟩
 ·obtain⟨u,rfl,r1⟩:=vals1 r
  cases r1
  exact call_int_bool ⟨.int (if k then 1 else 0),H,I.tok _,⟨_,rfl⟩,q⟩
end
section
variable {prog:Program}{w:World}{A:Around}{E:Value->Shared->Prop}{s:Shared}{K:PySem.W.Frag}{x dx C f:Addr}{mA:Str->Option Value}{name:Str}{v:Value}
end
def putF(f:Str)(v:V):List (Str×V)->List (Str×V)
 | []=>[(f,v)]
 |(g,x)::r=>if g=f then(g,v)::r else(g,x)::putF f v r
theorem RelO.some_of{v:V}{o:Option Value}(r:RelO (some v) o):∃u,o=some u/\RelV v u:=by
 cases o with
 |none=>exact(show False from r).elim
 |some u=>exact⟨u,rfl,r⟩
section
variable {P:Program}{w:World}{H H':Hp}{h h':Heap}{a C dx:Addr}{fs fs':List (Str×V)}
end
section
variable {X:Cx}{pins:List (Addr×Obj)}{σ:St}{H:Hp}{s:Shared}{a C dx:Addr}{fs:List (Str×V)}{f:Str}{v:V}{A:Around}{E:Value->Shared->Prop}
end
section
variable {X:Cx}{o e value:Expr}{f:Str}{pos pos' tpos:Pos}{ta tv:TE}
end
section
variable {X:Cx}{pins:List (Addr×Obj)}{σ:St}{H:Hp}{s:Shared}{A:Around}{E:Value->Shared->Prop}{Q:Value->Shared->Prop}{c:Value}{b:Bool}
end
structure Room(k:Nat) (A:Around):Prop where
 hd:A.handled=none
 dp:A.depth+3*k+5<recursionLimit
 un:A.units+16*k+200<cLine
 gd:A.guards=some []
theorem Room.mono{j k:Nat}{A:Around}(r:Room k A)(h:j<=k):Room j A:=⟨r.hd,by have:=r.dp;omega,by have:=r.un;omega,r.gd⟩
theorem Room.deeper{k:Nat}{A:Around}(r:Room (k+1) A)(env:Env):Room k (A.deeper env) :=
 ⟨r.hd,by have:=r.dp;show A.depth+1+3*k+5<_;omega,by have:=r.un;show A.units+3+16*k+200<_;omega,r.gd⟩
theorem Room.depth{k:Nat}{A:Around}(r:Room k A):A.depth<recursionLimit:=by have:=r.dp;omega
theorem Room.units{k:Nat}{A:Around}(r:Room k A):A.units+64<cLine:=by have:=r.un;omega
def tNil:TA:=fun _ H Q=>Q [] H
def tCons(ta:TE)(tr:TA):TA:=fun σ H Q=>ta σ H fun x H1=>tr σ H1 fun xs H2=>Q (x::xs) H2
section
variable {X:Cx}{e:Expr}{es:List Expr}{te:TE}{t:TA}{pos:Pos}
theorem pa_nil:PA X [] tNil:=fun _ _ _ _ H Q I h=>Calls.spliced_nil ⟨[],H,I,.nil,h⟩
theorem pa_cons(ha:PE X e te)(hr:PA X es t)(hs:starEach (e::es) X.env=(false,eval e X.env)::starEach es X.env:=by rfl):PA X (e::es) (tCons te t):=by
 intro pos pins s σ H Q I h
 rw[hs]
 show wpAny _ _ (spliced ((false,eval e X.env)::backTo pos (starEach es X.env))) _ _ s
 refine Calls.spliced_cons (thn (ha pins s σ H _ I h) fun u s1 ⟨x,H1,I1,r1,q1⟩=>?_)
 exact thn (hr pos pins s1 σ H1 _ I1 q1) fun us s2 ⟨xs,H2,I2,r2,q2⟩=>⟨x::xs,H2,I2,.cons r1 r2,q2⟩
def tTup(t:TA):TE:=fun σ H Q=>t σ H fun xs H1=>xs.length<=sizeLine/\∀p,H1 p=none->Q (.ref p) (upd H1 p (.tup xs))
def tLst(t:TA):TE:=fun σ H Q=>t σ H fun xs H1=>xs.length<=sizeLine/\∀p,H1 p=none->Q (.ref p) (upd H1 p (.lst xs))
theorem pe_tup{x1}(h:PA X es t):PE X (.Tuple es x1 pos) (tTup t):=by
 intro pins s σ H Q I hq
 refine wpAny_Tuple_spliced (thn (h pos pins s σ H _ I hq) fun us s1 ⟨xs,H1,I1,r,z,q⟩=>⟨by rw[←r.length];exact z,?_⟩)
 have hf:H1 s1.heap.objs.size=none:=I1.hok.fresh (Nat.le_refl _)
 refine⟨.ref s1.heap.objs.size,upd H1 s1.heap.objs.size (.tup xs),I1.laid (t':=s1.toks) (fun b u e=>Heap.get?_push_of_some _ e) (Nat.le_refl _) ?_,rfl,q _ hf⟩
 exact⟨z,us,r,⟨_,Heap.get?_push_size _ rfl,rfl,_,rfl⟩,_,Heap.get?_push_size _ rfl,rfl⟩
theorem pe_lst(h:PA X es t):PE X (.List es pos) (tLst t):=by
 intro pins s σ H Q I hq
 refine wpAny_List_spliced (thn (h pos pins s σ H _ I hq) fun us s1 ⟨xs,H1,I1,r,z,q⟩=>⟨by rw[←r.length];exact z,?_⟩)
 have hf:H1 s1.heap.objs.size=none:=I1.hok.fresh (Nat.le_refl _)
 refine⟨.ref s1.heap.objs.size,upd H1 s1.heap.objs.size (.lst xs),I1.laid (t':=s1.toks) (fun b u e=>Heap.get?_push_of_some _ e) (Nat.le_refl _) ?_,rfl,q _ hf⟩
 exact⟨z,us,0,r,Heap.get?_push_size _ rfl⟩
end
abbrev Sp:=List V->Hp->VK->XK->Prop
abbrev CXT:=List Env->Hp->Shared->XK->Value->Shared->Prop
structure Env0(P:Program) (w:World) (K:PySem.W.Frag) (mg:Str->Option Value) (base:Heap) (A:Around) (outer:List Env) (s:Shared) (H:Hp):Prop where
 frames:A.frames=some outer
 mod:Mod K mg base
 bs:∀b o,base.get? b=some o->s.heap.get? b=some o/\H b=none
 bsz:base.objs.size<=s.heap.objs.size
 funs:s.heap.FunFrames base outer
 frf:∀b∈frs outer,H b=none
 hok:HOk P w H s.heap
 bare:AllBare s.gens
def CE(outer:List Env)(P:Program)(w:World)(H:Hp)(s:Shared)(Q:VK)(u:Value)(s':Shared):Prop :=
 ∃v H',s'.os=s.os/\AllBare s'.gens/\Un (frs outer) [] H H' s.heap s'.heap/\HOk P w H' s'.heap/\RelV v u/\Q v H'
def CR(CX:CXT)(outer:List Env)(P:Program)(w:World)(H:Hp)(s:Shared)(Q:VK)(E:XK)(r:Result)(s':Shared):Prop :=
 match r with
 |.ok (.ret u)=>CE outer P w H s Q u s'
 |.ok _=>False
 |.error e=>CX outer H s E e s'
structure FnOk(P:Program) (w:World) (K:PySem.W.Frag) (mg:Str->Option Value) (base:Heap) (CX:CXT) (k:Nat) (f:Addr) (fd:FuncData) (ps:List Str) (sp:Sp):Prop where
 len:∀vs H Q E,sp vs H Q E->vs.length=ps.length
 run:∀(A:Around) (outer:List Env) (s:Shared) (H:Hp) (args:Args) (us:List Value) (vs:List V) (Q:VK) (E:XK),Room k A->Env0 P w K mg base A outer s H->BindsTo s fd args (ps.zip us)->Vals vs us->sp vs H Q E ->
  codeAny (model P w) A (.call (.ref f) args) (CR CX outer P w H s Q E) s
section
variable {X:Cx}{pins:List (Addr×Obj)}{σ:St}{H:Hp}{s s':Shared}
theorem Inv.env0(I:Inv X pins σ H s):Env0 X.prog X.w X.K X.mg X.base X.A X.stack s H :=
 ⟨I.ok.frames,I.ok.mod,I.bs,Nat.le_trans I.ok.bsz I.sz,I.stack,I.stkFree,I.hok,I.bare⟩
theorem Inv.after{Q:VK}{u:Value}(I:Inv X pins σ H s)(h:CE X.stack X.prog X.w H s Q u s'):EP X pins σ Q u s':=by
 obtain⟨v,H',os,bare,un,hok,r,q⟩:=h
 obtain⟨hh,g,d,t,os'⟩:=s'
 obtain rfl:os'=s.os:=os
 exact⟨v,H',I.call (h':=hh) (g':=g) (d':=d) (t':=t) (ch:=[]) un hok bare (fun b z=>absurd z (by simp)),r,q⟩
end
def tCall(sp:Sp)(dvs:List V)(E:XK)(t:TA):TE:=fun σ H Q=>t σ H fun vs H1=>sp (vs++dvs) H1 Q E
def Binds(K:PySem.W.Frag)(fd:FuncData)(ps:List Str)(ds:List Value):Prop :=
 ∀(s:Shared) (us:List Value),K.In s.heap->(us++ds).length=ps.length->BindsTo s fd ⟨us,[]⟩ (ps.zip (us++ds))
theorem Binds.all{K:PySem.W.Frag}{fd:FuncData}{ps:List Str}(h:∀us:List Value,us.length=ps.length->bindArgs fd ⟨us,[]⟩=pure (ps.zip us)):Binds K fd ps []:=fun s us _ hl=>by
 rw[List.append_nil]at hl⊢
 exact .of_eq (h us hl)
def Passes(CX:CXT)(X:Cx)(E:XK):Prop:=∀(pins:List (Addr×Obj)) (σ:St) (H:Hp) (s:Shared) (e:Value) (s':Shared),Inv X pins σ H s->CX X.stack H s E e s'->X.xe e s'
section
variable {X:Cx}{CX:CXT}{k:Nat}{f C:Addr}{fd:FuncData}{ps:List Str}{sp:Sp}{dvs:List V}{ds:List Value}{E:XK}{x m:Str}{p pos apos:Pos}{e o:Expr}{es:List Expr}{ta:TE}{t:TA}
theorem run_fn{pins:List (Addr×Obj)}{σ:St}{H:Hp}{s:Shared}{Q:VK}{us:List Value}{vs:List V}(F:FnOk X.prog X.w X.K X.mg X.base CX k f fd ps sp)(hr:Room k X.A)(hb:Binds X.K fd ps ds)(hd:Vals dvs ds)(hx:Passes CX X E)
  (I:Inv X pins σ H s) (r:Vals vs us) (h:sp (vs++dvs) H Q E):wpAny (model X.prog X.w) X.A (call (.ref f) us) (EP X pins σ Q) X.xe s:=by
 have r2:Vals (vs++dvs) (us++ds):=r.append hd
 have hl:(us++ds).length=ps.length:=by rw[←r2.length];exact F.len _ _ _ _ h
 refine wpAny_call (codeAny_mono (F.run X.A X.stack s H ⟨us,[]⟩ (us++ds) (vs++dvs) Q E hr I.env0 (hb s us I.kIn hl) r2 h) fun r s' hq=>?_)
 cases r with
 |error e=>exact hx pins σ H s e s' I hq
 |ok fl =>
  cases fl with
  |ret u=>exact I.after hq
  |next=>exact False.elim hq
  |brk=>exact False.elim hq
  |cont=>exact False.elim hq
theorem pe_call(F:FnOk X.prog X.w X.K X.mg X.base CX k f fd ps sp)(hr:Room k X.A)(hg:Gl X x)(hm:X.mg x=some (.ref f))(hk:PySem.W.keepIn X.K (.ref f)=true)(hb:Binds X.K fd ps ds)(hd:Vals dvs ds)(hx:Passes CX X E)
  (ha:PA X (e::es) t) (hdb:(x == ("__debug__":Str))=false:=by decide) (he:starEach (e::es) X.env=(false,eval e X.env)::starEach es X.env:=by rfl) (hpl:(backTo pos (starEach es X.env)).any (·.1)=false:=by rfl) :
  PE X (.Call (.Name x p) (e::es) [] pos) (tCall sp dvs E t):=by
 intro pins s σ H Q I h
 refine wpAny_Call_Name_kw (ld_glob I hg hm ?_ hdb)
 refine PySem.W.callWith_K (h₀:=X.base) I.ok.mod.kin hk (thn (ha pos pins s σ H _ I h) fun us s1 ⟨vs,H1,I1,r,q⟩=>⟨I1.kIn,?_⟩) he hpl
 exact run_fn F hr hb hd hx I1 r q
theorem pe_call0(F:FnOk X.prog X.w X.K X.mg X.base CX k f fd ps sp)(hr:Room k X.A)(hg:Gl X x)(hm:X.mg x=some (.ref f))(hk:PySem.W.keepIn X.K (.ref f)=true)(hb:Binds X.K fd ps ds)(hd:Vals dvs ds)(hx:Passes CX X E)
  (hdb:(x == ("__debug__":Str))=false:=by decide):PE X (.Call (.Name x p) [] [] pos) (tCall sp dvs E tNil):=by
 intro pins s σ H Q I h
 refine wpAny_Call_Name_kw (ld_glob I hg hm ?_ hdb)
 exact PySem.W.callWith_K0 I.kIn hk (run_fn (us:=[]) F hr hb hd hx I .nil h)
end
section
variable {X:Cx}{CX:CXT}{k:Nat}{f C:Addr}{fd:FuncData}{ps ks:List Str}{sp:Sp}{E:XK}{x m:Str}{p pos apos kpos:Pos}{e o:Expr}{es:List Expr}{kws:List Keyword}{te ta:TE}{t tk:TA}{nm:Option Str}
variable {g:List Value->List Value->List Value}{gV:List V->List V->List V}
end
structure FnScope(N P:List Str) (sc:Scope):Prop where
 kind:sc.kind=.function
 co:sc.isCoroutine=false
 gen:sc.isGenerator=false
 nd:N.Nodup
 pre:N.take P.length=P
 par:∀x∈P,sc.names.lookup x=some .local\/sc.names.lookup x=some .cell
 nofree:∀y∈sc.names,y.2≠.free
theorem bindL_out{kindOf:Str->Option NameKind}{x:Str}:∀{binds:List (Str×Value)}{m:Str->Option Value},(∀v,(x,v)∉binds)->bindL kindOf binds m x=m x
 | [],_,_=>rfl
 |(n,v)::r,m,h=>by
  unfold bindL
  rw[bindL_out fun w hw=>h w (List.mem_cons_of_mem _ hw)]
  split
  ·have:x≠n:=by rintro rfl;exact h v List.mem_cons_self
   simp[this]
  ·rfl
theorem bindC_out{kindOf:Str->Option NameKind}{x:Str}:∀{binds:List (Str×Value)}{m:Str->Option Value},(∀v,(x,v)∉binds)->bindC kindOf binds m x=m x
 | [],_,_=>rfl
 |(n,v)::r,m,h=>by
  unfold bindC
  rw[bindC_out fun w hw=>h w (List.mem_cons_of_mem _ hw)]
  split
  ·rfl
  ·have:x≠n:=by rintro rfl;exact h v List.mem_cons_self
   simp[this]
theorem bindL_get{kindOf:Str->Option NameKind}{x:Str}{v:Value}:∀{P:List Str}{vs:List Value}{i:Nat}{m:Str->Option Value},P.Nodup->P[i]?=some x->vs[i]?=some v->kindOf x=some .local ->
  bindL kindOf (P.zip vs) m x=some v
 | [],_,_,_,_,h,_,_=>by simp at h
 |_::_,[],_,_,_,_,h,_=>by simp at h
 |p::P,w::vs,0,m,nd,h1,h2,hk=>by
  simp at h1 h2;subst h1;subst h2
  show bindL kindOf ((p,w)::P.zip vs) m p=_
  unfold bindL
  rw[bindL_out fun v hv=>(List.nodup_cons.mp nd).1 (List.of_mem_zip hv).1,if_pos hk]
  simp
 |p::P,w::vs,i+1,m,nd,h1,h2,hk=>by
  show bindL kindOf ((p,w)::P.zip vs) m x=_
  unfold bindL
  exact bindL_get (i:=i) (List.nodup_cons.mp nd).2 (by simpa using h1) (by simpa using h2) hk
theorem bindC_get{kindOf:Str->Option NameKind}{x:Str}{v:Value}:∀{P:List Str}{vs:List Value}{i:Nat}{m:Str->Option Value},P.Nodup->P[i]?=some x->vs[i]?=some v->kindOf x≠some .local ->
  bindC kindOf (P.zip vs) m x=some v
 | [],_,_,_,_,h,_,_=>by simp at h
 |_::_,[],_,_,_,_,h,_=>by simp at h
 |p::P,w::vs,0,m,nd,h1,h2,hk=>by
  simp at h1 h2;subst h1;subst h2
  show bindC kindOf ((p,w)::P.zip vs) m p=_
  unfold bindC
  rw[bindC_out fun v hv=>(List.nodup_cons.mp nd).1 (List.of_mem_zip hv).1,if_neg hk]
  simp
 |p::P,w::vs,i+1,m,nd,h1,h2,hk=>by
  show bindC kindOf ((p,w)::P.zip vs) m x=_
  unfold bindC
  exact bindC_get (i:=i) (List.nodup_cons.mp nd).2 (by simpa using h1) (by simpa using h2) hk
def start(N:List Str)(vs:List V):St:=vs.map some++List.replicate (N.length-vs.length) none
def cxOf(CX:CXT)(P:Program)(w:World)(K:PySem.W.Frag)(mg:Str->Option Value)(base:Heap)(N:List Str)(qual:Str)(scope:Scope)(f:Addr)(cd:Value)(A:Around)(outer:List Env)(s:Shared)(H:Hp)(E:XK):Cx where
 prog:=P
 w:=w
 K:=K
 mg:=mg
 base:=base
 A:=A.deeper (envOfC qual scope s.heap.objs.size f cd)
 N:=N
 s₀:=s
 H₀:=H
 env:=envOfC qual scope s.heap.objs.size f cd
 outer:=outer
 stack:=envOfC qual scope s.heap.objs.size f cd::outer
 ex:=[]
 calm:=true
 fn:=fun _=>true
 pn:=[]
 xe:=fun e s'=>wpAny (model P w) (A.deeper (envOfC qual scope s.heap.objs.size f cd)) (leaving (envOfC qual scope s.heap.objs.size f cd) e) (fun _ s''=>CX outer H s E e s'') (fun e' s''=>CX outer H s E e' s'') s'
theorem cell_has{sc:Scope}{n:Nat}{x:Str}(h:sc.names.lookup x=some .cell):∃c,(cellsFrom n sc.names []).lookup x=some c:=by
 have q:=PySem.W.cellsFrom_some sc.names n [] (.inl h)
 exact Option.isSome_iff_exists.mp q
theorem inv_start{CX:CXT}{P:Program}{w:World}{K:PySem.W.Frag}{mg:Str->Option Value}{base:Heap}{N ps:List Str}{qual:Str}{scope:Scope}{f:Addr}{cd:Value}{A:Around}{outer:List Env}{s s1:Shared}{H:Hp}{E:XK}{us:List Value}{vs:List V}
  (S:FnScope N ps scope) (hd:A.handled=none) (e0:Env0 P w K mg base A outer s H) (hl:vs.length=ps.length) (r:Vals vs us)
  (x:InCallC s s.heap.objs.size (bindL (envOfC qual scope s.heap.objs.size f cd).kindOf (ps.zip us) fun _=>none) (cellsFrom (s.heap.objs.size+1) scope.names []) (bindC (envOfC qual scope s.heap.objs.size f cd).kindOf (ps.zip us) fun _=>none) s1) :
  Inv (cxOf CX P w K mg base N qual scope f cd A outer s H E) [] (start N vs) H s1:=by
 have hpl:ps.length<=N.length:=by have:=congrArg List.length S.pre;rw[List.length_take]at this;omega
 obtain⟨h1,tk,rfl,hk⟩:=x.done
 have noA:∀b:Addr,b∉(cxOf CX P w K mg base N qual scope f cd A outer s H E).ex:=fun b z=>absurd (show b∈([]:List Addr)from z) (by simp)
 refine⟨⟨e0.mod,S.kind,rfl,rfl,Nat.le_refl _,fun y z c h1 h2=>?_,fun y hy=>?_,fun y c _ h=>?_,fun _=>hd,Around.frames_deeper e0.frames,.inr ⟨rfl,rfl⟩,fun b z=>absurd z (noA b),e0.bs,e0.bsz,fun b _ _=>noA b,fun b z=>absurd z (noA b),e0.funs,e0.frf⟩,
  rfl,e0.bare,Un.kept hk,⟨_,x.toInCall.ns,fun i y v h1 h2 h3=>?_⟩,fun y c h=>⟨_,x.cell y c h⟩,e0.hok.fresh (Nat.le_refl _),fun y c h=>?_,fun p hp=>absurd (show p∈([]:List (Addr×Obj))from hp) (by simp),e0.hok.kept hk,?_⟩
 ·exact name_of_addr x.apart (PySem.mem_of_lookup h1) (PySem.mem_of_lookup h2)
 ·have hy:scope.names.lookup y=some .cell\/scope.names.lookup y=some .free:=hy
  rcases hy with hy|hy
  ·exact cell_has hy
  ·exact absurd rfl (S.nofree _ (PySem.mem_of_lookup hy))
 ·exact Nat.le_of_lt (x.above y c (PySem.mem_of_lookup h))
 ·have hi:i<vs.length:=by
   unfold start at h2
   by_cases hi:i<vs.length
   ·exact hi
   ·rw[List.getElem?_append_right (by simpa using hi)]at h2
    rw[List.getElem?_replicate]at h2
    split at h2<;>cases h2
  have ha:vs[i]?=some v:=by
   unfold start at h2
   rw[List.getElem?_append_left (by simpa using hi),List.getElem?_map]at h2
   cases e:vs[i]? with
   |none=>rw[e]at h2;cases h2
   |some a=>rw[e]at h2;cases h2;rfl
  obtain⟨u,hu,rv⟩:=r.get ha
  have hp:ps[i]?=some y:=by
   rw[←S.pre,List.getElem?_take_of_lt (by omega)];exact h1
  have ndP:ps.Nodup:=by rw[←S.pre];exact S.nd.sublist (List.take_sublist _ _)
  refine⟨u,rv,?_⟩
  rcases S.par y (List.mem_of_getElem? hp)with k|k
  ·exact .inl ⟨k,bindL_get ndP hp hu k⟩
  ·obtain⟨c,e⟩:=cell_has (n:=s.heap.objs.size+1) k
   refine .inr ⟨.inl k,c,e,?_⟩
   have q:=x.cell y c e
   rw[bindC_get ndP hp hu (by show scope.names.lookup y≠_;rw[k];decide)]at q
   exact q
 ·exact e0.hok.fresh (Nat.le_of_lt (x.above y c (PySem.mem_of_lookup h)))
 ·unfold start
  show _=N.length
  rw[List.length_append,List.length_map,List.length_replicate]
  omega
theorem fn_of{CX:CXT}{P:Program}{w:World}{K:PySem.W.Frag}{mg:Str->Option Value}{base:Heap}{k:Nat}{f:Addr}{name qual:Str}{params:Arguments}{body:List Stmt}{scope:Scope}{dV kV doc pm cdv ct oc:Value}{an od:Option Addr}
  {osl:Array (Option Value)}{N ps:List Str}{sp:Sp}(lk:K.lookup f=some ⟨oc,od,.func (PySem.W.fnOf name qual params body scope dV kV doc pm an cdv ct),osl⟩) (hcd:PySem.W.codeIn K cdv qual=true) (S:FnScope N ps scope)
  (len:∀vs H Q E,sp vs H Q E->vs.length=ps.length)
  (hbody:∀(A:Around) (outer:List Env) (s:Shared) (H:Hp) (vs:List V) (Q:VK) (E:XK),Room k (A.deeper (envOfC qual scope s.heap.objs.size f cdv))->sp vs H Q E ->
   ∃t,PSs (cxOf CX P w K mg base N qual scope f cdv A outer s H E) body t/\t {nx:=fun _ H'=>Q .non H',rt:=Q} (start N vs) H) :
  FnOk P w K mg base CX (k+1) f (PySem.W.fnOf name qual params body scope dV kV doc pm an cdv ct) ps sp:=by
 refine⟨len,fun A outer s H args us vs Q E hr e0 hb r hsp=>?_⟩
 have hl:=len _ _ _ _ hsp
 have KX:K.In s.heap:=e0.mod.kin.keeps fun b o e=>(e0.bs b o e).1
 have lim:s.heap.NoLimit:=e0.mod.nolimit.keeps fun b o e=>(e0.bs b o e).1
 have hkind:∀y∈ps.zip us,scope.names.lookup y.1=some .local\/(scope.names.lookup y.1=some .cell/\((cellsFrom (s.heap.objs.size+1) scope.names []).lookup y.1).isSome=true):=fun⟨n,v⟩ hy=>by
  rcases S.par n (List.of_mem_zip hy).1 with q|q
  ·exact .inl q
  ·exact .inr ⟨q,PySem.W.cellsFrom_some _ _ _ (.inl q)⟩
 refine codeAny_call_function hr.depth (KX _ _ lk) rfl S.co S.gen rfl (PySem.W.codeRec_of KX hcd) (hb _ _ _ _ ?_)
 refine wpAny_newFunctionEnv_cells S.kind hkind fun env he s1 x=>?_
 subst he
 refine⟨lim.keeps x.toInCall.keep,codeAny_func ?_⟩
 obtain⟨t,ht,hq⟩:=hbody A outer s H vs Q E (hr.deeper _) hsp
 have I:Inv (cxOf CX P w K mg base N qual scope f cdv A outer s H E) [] (start N vs) H s1:=inv_start S hr.hd e0 hl r x
 refine wpAny_mono (ht [] s1 (start N vs) H _ I hq) (fun fl s' hs=>?_) fun e s' hs=>hs
 have fin:∀{σ':St}{H':Hp}{v:V}{u:Value},Inv (cxOf CX P w K mg base N qual scope f cdv A outer s H E) [] σ' H' s'->RelV v u->Q v H'->CE outer P w H s Q u s' :=
  fun{σ' H' v u} J rv q=>⟨v,H',J.os,J.bare,J.base,J.hok,rv,q⟩
 cases fl with
 |ret u =>
  obtain⟨v,σ',H',J,rv,q⟩:=hs
  exact fin J rv q
 |next =>
  obtain⟨σ',H',J,q⟩:=hs
  exact fin (v:=V.non) (u:=Value.none) J rfl q
 |brk =>
  obtain⟨_,_,_,q⟩:=hs
  exact False.elim q
 |cont =>
  obtain⟨_,_,_,q⟩:=hs
  exact False.elim q
section
variable {X:Cx}{x:Str}{p pos:Pos}{e:Expr}{es:List Expr}{t:TA}{id T:String}{r:List V->Hp->VK->Prop}
def tCB(r:List V->Hp->VK->Prop)(t:TA):TE:=fun σ H Q=>t σ H fun vs H1=>r vs H1 Q
theorem pe_callB(hc:CallR X (.builtin id) r)(hg:Gl X x)(hm:X.mg x=none)(hv:bootBuiltins x=some (.builtin id))(ha:PA X (e::es) t)(hn:x≠"__name__":=by decide)(hdb:(x == ("__debug__":Str))=false:=by decide)
  (he:starEach (e::es) X.env=(false,eval e X.env)::starEach es X.env:=by rfl) (hpl:(backTo pos (starEach es X.env)).any (·.1)=false:=by rfl):PE X (.Call (.Name x p) (e::es) [] pos) (tCB r t):=by
 intro pins s σ H Q I h
 refine wpAny_Call_Name_kw (ld_blt I hg hm hv ?_ hn hdb)
 exact PyProof.Rows.callWith_builtin1 (thn (ha pos pins s σ H _ I h) fun us s1 ⟨vs,H1,I1,r1,q1⟩=>hc pins s1 σ H1 vs us Q I1 r1 q1) he hpl
theorem pe_callTy(hc:CallR X (.type T) r)(hg:Gl X x)(hm:X.mg x=none)(hv:bootBuiltins x=some (.type T))(ha:PA X (e::es) t)(hn:x≠"__name__":=by decide)(hdb:(x == ("__debug__":Str))=false:=by decide)
  (he:starEach (e::es) X.env=(false,eval e X.env)::starEach es X.env:=by rfl) (hpl:(backTo pos (starEach es X.env)).any (·.1)=false:=by rfl):PE X (.Call (.Name x p) (e::es) [] pos) (tCB r t):=by
 intro pins s σ H Q I h
 refine wpAny_Call_Name_kw (ld_blt I hg hm hv ?_ hn hdb)
 exact PyProof.Rows.callWith_type1 (thn (ha pos pins s σ H _ I h) fun us s1 ⟨vs,H1,I1,r1,q1⟩=>hc pins s1 σ H1 vs us Q I1 r1 q1) he hpl
end
end L2
namespace HT
open PySem PyProof.Rows
section
open PySem.SeqAt
open PySem.AutoSeq1 (wpAny_loadPart')
open PySem.MeetsSeq PySem.MeetsSeq2 PySem.MeetsSeq3
end
section
variable {prog:Program}{w:World}{A:Around}{E:Value->Shared->Prop}{s:Shared}
theorem cat_tup{t b:Addr}{vs ws:List Value}{Q:Value->Shared->Prop}(ht:IsTup s.heap t vs.toArray)(hb:IsTup s.heap b ws.toArray)(hv:vs≠[])
  (h1:ws=[]->Q (.ref t) s) (h2:ws≠[]->Q (.ref s.heap.objs.size) {s with heap:=s.heap.push {cls:=.type "tuple",data:=.seq (vs++ws).toArray}})
  (hsz:vs.length+ws.length<=sizeLine):wpAny (model prog w) A (binaryOp .Add (.ref t) (.ref b)) Q E s:=by
 obtain⟨⟨cls,dd,data,sl⟩,ho,hc,n,hd⟩:=id ht
 obtain⟨⟨cls2,dd2,data2,sl2⟩,ho2,hc2,n2,hd2⟩:=id hb
 simp only at hc hd hc2 hd2
 subst hc hd hc2 hd2
 have e:vs.toArray++ws.toArray=(vs++ws).toArray:=by simp
 by_cases hw:ws=[]
 ·exact concat_meets ⟨_,ho,rfl⟩ ⟨_,ho2,rfl⟩ noFill_tuple_add seq_tuple_add PySem.F.slot_tuple_add PySem.F.entry_tuple_add (PySem.F.args_tuple_add_2 _ _)
   (tuple_addW1 t b vs.toArray ws.toArray n n2 dd dd2 sl sl2 (by simpa using hv) (by simp[hw])) ⟨ho,ho2,h1 hw⟩
 ·refine concat_meets ⟨_,ho,rfl⟩ ⟨_,ho2,rfl⟩ noFill_tuple_add seq_tuple_add PySem.F.slot_tuple_add PySem.F.entry_tuple_add (PySem.F.args_tuple_add_2 _ _)
   (tuple_addW2 t b vs.toArray ws.toArray n n2 dd dd2 sl sl2 (by simpa using hv) (by simpa using hw) (by rw[List.size_toArray,List.size_toArray];exact hsz)) ⟨ho,ho2,?_⟩
  rw[e]
  exact h2 hw
def sIx(n d:Nat):Option Int->Nat
 |none=>d
 |some v=>if v<0 then(v+(n:Int)).toNat else min v.toNat n
theorem sIx_none(n d:Nat):sIx n d none=d:=rfl
theorem sIx_nat(n d k:Nat):sIx n d (some (k:Int))=min k n:=by
 show(if(k:Int)<0 then((k:Int)+(n:Int)).toNat else min (k:Int).toNat n)=min k n
 rw[if_neg (by omega),Int.toNat_natCast]
theorem sIx_le(n d:Nat)(hd:d<=n)(o:Option Int):sIx n d o<=n:=by
 cases o with
 |none=>exact hd
 |some v =>
  show(if v<0 then(v+(n:Int)).toNat else min v.toNat n)<=n
  by_cases hv:v<0
  ·rw[if_pos hv];omega
  ·rw[if_neg hv];exact Nat.min_le_right _ _
theorem clip_eq(v:Int)(n d:Nat):(if v<0 then max (v+(n:Int)) 0 else min v (n:Int))=((sIx n d (some v):Nat):Int):=by
 show(if v<0 then max (v+(n:Int)) 0 else min v (n:Int))=(((if v<0 then(v+(n:Int)).toNat else min v.toNat n):Nat):Int)
 by_cases hv:v<0
 ·simp only[if_pos hv];omega
 ·simp only[if_neg hv];omega
theorem adjust_gen(lo hi:Option Int)(n:Nat):Builtin.Slice.sliceAdjust lo hi 1 (n:Int)=(((sIx n 0 lo:Nat):Int),((sIx n n hi:Nat):Int)):=by
 have h1:¬((1:Int)<0):=by omega
 unfold Builtin.Slice.sliceAdjust
 simp only[h1,if_false]
 refine Prod.ext ?_ ?_
 ·cases lo with
  |none=>rfl
  |some v=>exact clip_eq v n 0
 ·cases hi with
  |none=>rfl
  |some v=>exact clip_eq v n n
theorem places_gen(i j:Nat):Builtin.Slice.slicePlaces (i:Int) (j:Int) 1=j-i:=by
 unfold Builtin.Slice.slicePlaces
 have h1:(1:Int)>0:=by omega
 simp only[h1,if_true,Int.ediv_one]
 split<;>omega
theorem slicePart_{v:Value}{o:Option Int}{Q:Option Int->Shared->Prop}(p:IsPart v o)(h:Q o s):wpAny (model prog w) A (Builtin.Slice.slicePartIndex v) Q E s:=by
 cases p with
 |none=>exact slicePart_none h
 |int i t=>exact slicePart_int h
theorem sliceApplied_gen{sl:Addr}{vl vu:Value}{lo hi:Option Int}{n:Nat}{Q:Int×Int×Nat->Shared->Prop}(hs:s.heap.IsSliceOf sl vl vu .none)(pl:IsPart vl lo)(pu:IsPart vu hi)
  (h:Q (((sIx n 0 lo:Nat):Int),1,sIx n n hi-sIx n 0 lo) s):wpAny (model prog w) A (Builtin.Slice.sliceApplied (.ref sl) (pure (n:Int))) Q E s:=by
 obtain⟨os,hos,hcs,hds⟩:=id hs
 unfold Builtin.Slice.sliceApplied Builtin.Slice.sliceFields
 refine wpAny_bind (wpAny_bind (wpAny_field hos hds (x:=vl) rfl (wpAny_bind (wpAny_field hos hds (x:=vu) rfl (wpAny_bind (wpAny_field hos hds (x:=.none) rfl (wpAny_pure ?_)))))))
 refine wpAny_bind (slicePart_none ?_)
 show wpAny _ _ (if((1:Int) == 0)=true then _ else _) _ _ s
 rw[if_neg (by decide)]
 refine wpAny_bind (slicePart_ pl (wpAny_bind (slicePart_ pu (wpAny_bind (wpAny_pure ?_)))))
 show wpAny _ _ (match Builtin.Slice.sliceAdjust lo hi 1 (n:Int)with|(lo,hi)=>pure (lo,(1:Int),Builtin.Slice.slicePlaces lo hi 1)) _ _ s
 rw[adjust_gen lo hi n]
 show wpAny _ _ (pure (((sIx n 0 lo:Nat):Int),(1:Int),Builtin.Slice.slicePlaces ((sIx n 0 lo:Nat):Int) ((sIx n n hi:Nat):Int) 1)) _ _ s
 rw[places_gen]
 exact wpAny_pure h
theorem pick_gen(xs:Array Value)(i k:Nat):((List.range k).filterMap fun(m:Nat)=>xs[((i:Int)+(m:Int)*1).toNat]?).toArray=((xs.toList.drop i).take k).toArray:=by
 have e:(fun(m:Nat)=>xs[((i:Int)+(m:Int)*1).toNat]?)=fun m=>xs[i+m]?:=by
  funext m
  have:((i:Int)+(m:Int)*1).toNat=i+m:=by omega
  rw[this]
 rw[e]
 have:=pick_run xs i k
 rw[List.filterMap_map]at this
 have e2:((fun x=>xs[x]?) ∘ fun x=>i+x)=fun m=>xs[i+m]?:=rfl
 rw[e2]at this
 rw[this]
theorem getItem_tuple_cut{t sl:Addr}{items:Array Value}{vl vu:Value}{lo hi:Option Int}{Q:Value->Shared->Prop}(ht:IsTup s.heap t items)(hs:s.heap.IsSliceOf sl vl vu .none)(pl:IsPart vl lo)(pu:IsPart vu hi)
  (hw:¬(sIx items.size 0 lo=0/\sIx items.size items.size hi=items.size))
  (h:Q (.ref s.heap.objs.size) {s with heap:=s.heap.push {cls:=.type "tuple",data:=.seq ((items.toList.drop (sIx items.size 0 lo)).take (sIx items.size items.size hi-sIx items.size 0 lo)).toArray}})
  (hsz:items.size<=sizeLine):wpAny (model prog w) A (getItem (.ref t) (.ref sl)) Q E s:=by
 have htake:sizeOk (.seq ((items.toList.drop (sIx items.size 0 lo)).take (sIx items.size items.size hi-sIx items.size 0 lo)).toArray):=by
  show((items.toList.drop (sIx items.size 0 lo)).take (sIx items.size items.size hi-sIx items.size 0 lo)).toArray.size<=sizeLine
  rw[List.size_toArray,List.length_take,List.length_drop,Array.length_toList]
  omega
 have hj:sIx items.size items.size hi<=items.size:=sIx_le _ _ (Nat.le_refl _) hi
 obtain⟨os,hos,hcs,hds⟩:=id hs
 have hTs:s.TypeIs (.ref sl) "slice":=⟨os,hos,hcs⟩
 unfold getItem
 try with_reducible refine wpAny_holding ?_
 first|refine wpAny_bind (wpAny_pure ?_)|skip
 refine wpAny_bind (wpAny_sequenceKey ht.typeIs (by decide) ?_)
 refine wpAny_bind (wpAny_callSpecial?_slot (name:=Str.ofString "__getitem__") ht.typeIs PyProof.Rows.slot_tuple_getitem
  (wpAny_call_entry PyProof.Rows.slot_tuple_getitem ht.typeIs entry_tuple_getitem ?_ (args_tuple_getitem _ _)))
 show wpAny _ _ (Builtin.Tuple.tupleItemsOf (.ref t)>>=_) _ _ s
 refine wpAny_bind (tupleItemsOf_ ht ?_)
 refine wpAny_bind (wpAny_typeOf hTs ?_)
 rw[if_pos (by decide)]
 refine wpAny_bind (sliceApplied_gen hs pl pu ?_)
 have hno:¬((((sIx items.size 0 lo:Nat):Int) == 0&&(1:Int) == 1&&(sIx items.size items.size hi-sIx items.size 0 lo) == items.size)=true):=by
  intro q
  rw[Bool.and_eq_true,Bool.and_eq_true]at q
  have q1:((sIx items.size 0 lo:Nat):Int)=0:=eq_of_beq q.1.1
  have q2:sIx items.size items.size hi-sIx items.size 0 lo=items.size:=eq_of_beq q.2
  exact hw ⟨by omega,by omega⟩
 show wpAny _ _ (if(((sIx items.size 0 lo:Nat):Int) == 0&&(1:Int) == 1&&(sIx items.size items.size hi-sIx items.size 0 lo) == items.size)=true then _ else _) _ _ s
 rw[if_neg hno,pick_gen]
 first
  |exact wpAny_bind (m:=Builtin.Tuple.tupleExact _) (wpAny_newObj_type (wpAny_pure ⟨_,rfl,wpAny_pure h⟩) htake)
  |exact wpAny_bind (m:=Builtin.Tuple.tupleExact _) (wpAny_newObj_type (wpAny_bind (wpAny_pure (wpAny_pure ⟨_,rfl,wpAny_pure h⟩))) htake)
  |exact wpAny_bind (wpAny_bind (m:=Builtin.Tuple.tupleExact _) (wpAny_newObj_type (wpAny_pure (wpAny_pure ⟨_,rfl,wpAny_pure h⟩)) htake))
  |exact wpAny_bind (wpAny_bind (m:=Builtin.Tuple.tupleExact _) (wpAny_newObj_type (wpAny_pure ⟨_,rfl,wpAny_pure h⟩) htake))
end
end HT
namespace L2
open PySem PySem.Spec PyProof.Rows
abbrev TO:=St->Hp->(Option Int->Hp->Prop)->Prop
def PO(X:Cx)(e:Option Expr)(t:TO):Prop :=
 ∀(pins:List (Addr×Obj)) (s:Shared) (σ:St) (H:Hp) (Q:Option Int->Hp->Prop),Inv X pins σ H s->t σ H Q ->
  wpAny (model X.prog X.w) X.A (evalPart e X.env) (fun u s'=>∃o H',Inv X pins σ H' s'/\IsPart u o/\Q o H') X.xe s
def tNoPart:TO:=fun _ H Q=>Q none H
def tPart(t:TE):TO:=fun σ H Q=>t σ H fun x H1=>∃i,x=.int i/\Q (some i) H1
section
variable {X:Cx}{e:Expr}{te:TE}{lo hi:Option Expr}{tl th:TO}{pos p2:Pos}
theorem po_none:PO X none tNoPart:=by
 intro pins s σ H Q I h
 rw[evalPart_none]
 exact wpAny_pure ⟨none,H,I,.none,h⟩
theorem po_some(h:PE X e te):PO X (some e) (tPart te):=by
 intro pins s σ H Q I hw
 rw[evalPart_some]
 refine thn (h pins s σ H _ I hw) fun u s1 ⟨x,H1,I1,r1,q1⟩=>?_
 obtain⟨i,rfl,q⟩:=q1
 obtain⟨t,rfl⟩:=r1
 exact⟨some i,H1,I1,.int i t,q⟩
def SlR(X:Cx)(r:V->Option Int->Option Int->Hp->VK->Prop):Prop :=
 ∀(pins:List (Addr×Obj)) (s:Shared) (σ:St) (H:Hp) (x:V) (v vl vu:Value) (lo hi:Option Int) (sl:Addr) (Q:VK),Inv X pins σ H s->RelV x v->s.heap.IsSliceOf sl vl vu .none->IsPart vl lo->IsPart vu hi->r x lo hi H Q ->
  ∃T id,typeLookup (.type T) "__getitem__"=pure (some (.builtin id))/\s.TypeIs v T/\wpAny (model X.prog X.w) X.A (getItem v (.ref sl)) (EP X pins σ Q) X.xe s
def tSl(r:V->Option Int->Option Int->Hp->VK->Prop)(te:TE)(tl th:TO):TE:=fun σ H Q=>te σ H fun x H1=>tl σ H1 fun l H2=>th σ H2 fun u H3=>r x l u H3 Q
theorem pe_slice{r:V->Option Int->Option Int->Hp->VK->Prop}(hr:SlR X r)(he:PE X e te)(hl:PO X lo tl)(hu:PO X hi th):PE X (.Subscript e (.Slice lo hi none p2) pos) (tSl r te tl th):=by
 intro pins s σ H Q I h
 refine Subscript_ (thn (he pins s σ H _ I h) fun v s1 ⟨x,H1,I1,r1,q1⟩=>?_)
 refine wpAny_Slice (thn (hl pins s1 σ H1 _ I1 q1) fun vl s2 ⟨l,H2,I2,pl,q2⟩=>thn (hu pins s2 σ H2 _ I2 q2) fun vu s3 ⟨u,H3,I3,pu,q3⟩=>?_)
 rw[evalPart_none]
 refine wpAny_pure ?_
 have I4:Inv X pins σ H3 {s3 with heap:=s3.heap.push {cls:=.type "slice",data:=.fields #[vl,vu,.none]}}:=I3.kept (t':=s3.toks) fun b ob q=>Heap.get?_push_of_some _ q
 obtain⟨T,id,hT,ht,hg⟩:=hr pins {s3 with heap:=s3.heap.push {cls:=.type "slice",data:=.fields #[vl,vu,.none]}} σ H3 x v vl vu l u s3.heap.objs.size Q I4 r1 (Heap.IsSliceOf.new ..) pl pu q3
 show wpAny (model X.prog X.w) X.A (subscriptTail e (.Slice lo hi none p2) v (.ref s3.heap.objs.size)) (EP X pins σ Q) X.xe {s3 with heap:=s3.heap.push {cls:=.type "slice",data:=.fields #[vl,vu,.none]}}
 exact tail_any (ops:=[.ref s3.heap.objs.size,v]) ht hT hg (by with_unfolding_all rfl)
def cutV(xs:List V)(lo hi:Option Int):List V:=(xs.drop (HT.sIx xs.length 0 lo)).take (HT.sIx xs.length xs.length hi-HT.sIx xs.length 0 lo)
theorem cutV_length(xs:List V)(lo hi:Option Int):(cutV xs lo hi).length<=xs.length:=by
 unfold cutV
 rw[List.length_take,List.length_drop]
 omega
def rSlT(K:PySem.W.Frag):V->Option Int->Option Int->Hp->VK->Prop:=fun x lo hi H Q=>∃a xs,x=.ref a/\SqT K H a xs /\
 ¬(HT.sIx xs.length 0 lo=0/\HT.sIx xs.length xs.length hi=xs.length)/\∀p,H p=none->Q (.ref p) (upd H p (.tup (cutV xs lo hi)))
theorem sl_tup:SlR X (rSlT X.K):=by
 intro pins s σ H x v vl vu lo hi sl Q I rx hs pl pu h
 obtain⟨a,xs,rfl,hx,hw,q⟩:=h
 cases rx
 obtain⟨its,r,ht,hz⟩:=I.tuple hx
 have hlen:its.toArray.size=xs.length:=by rw[List.size_toArray];exact r.length.symm
 refine⟨"tuple",_,PyProof.Rows.slot_tuple_getitem.lookup,ht.typeIs,?_⟩
 refine HT.getItem_tuple_cut ht hs pl pu (by rw[hlen];exact hw) ?_ (by rw[hlen];exact hz)
 rw[hlen]
 refine⟨.ref s.heap.objs.size,_,I.laid (t':=s.toks) (o:=.tup (cutV xs lo hi)) (fun b ob q=>Heap.get?_push_of_some _ q) (Nat.le_refl _) ?_,rfl,q _ (I.hok.fresh (Nat.le_refl _))⟩
 exact⟨Nat.le_trans (cutV_length xs lo hi) hz,_,(r.drop (HT.sIx xs.length 0 lo)).take (HT.sIx xs.length xs.length hi-HT.sIx xs.length 0 lo),IsTup.new _ _,_,Heap.get?_push_size _ rfl,rfl⟩
def rCatT(K:PySem.W.Frag):R2:=fun x y H Q=>∃a b xs ys,x=.ref a/\y=.ref b/\SqT K H a xs/\SqT K H b ys/\xs≠[]/\xs.length+ys.length<=sizeLine /\
 (ys=[]->Q (.ref a) H)/\(ys≠[]->∀p,H p=none->Q (.ref p) (upd H p (.tup (xs++ys))))
theorem Vals.nil_iff{xs:List V}{us:List Value}(r:Vals xs us):us=[]↔xs=[]:=by
 cases r with
 |nil=>simp
 |cons _ _=>simp
theorem op_catT:OpR X (binaryOp .Add) (rCatT X.K):=by
 intro pins s σ H x y v u Q I rx ry h
 obtain⟨a,b,xs,ys,rfl,rfl,ha,hb,hx,hz,q1,q2⟩:=h
 cases rx
 cases ry
 obtain⟨its,r1,p1,_⟩:=I.tuple ha
 obtain⟨its2,r2,p2,_⟩:=I.tuple hb
 refine HT.cat_tup p1 p2 (fun z=>hx (r1.nil_iff.mp z)) (fun z=>⟨.ref a,H,I,rfl,q1 (r2.nil_iff.mp z)⟩) (fun z=>?_) (by rw[←r1.length,←r2.length];exact hz)
 refine⟨.ref s.heap.objs.size,_,I.laid (t':=s.toks) (o:=.tup (xs++ys)) (fun b ob q=>Heap.get?_push_of_some _ q) (Nat.le_refl _) ?_,rfl,q2 (fun w=>z (r2.nil_iff.mpr w)) _ (I.hok.fresh (Nat.le_refl _))⟩
 exact⟨by rw[List.length_append];exact hz,_,r1.append r2,IsTup.new _ _,_,Heap.get?_push_size _ rfl,rfl⟩
end
def ixN(n:Nat)(i:Int):Option Nat:=if 0<=i then(if i<n then some i.toNat else none)else if -(n:Int)<=i then some (i+n).toNat else none
def atI{α:Type}(xs:List α)(i:Int):Option α:=(ixN xs.length i).bind fun j=>xs[j]?
theorem ixN_seq{n:Nat}{i:Int}{j:Nat}(h:ixN n i=some j):seqIndex? i n=some j/\j<n/\-(n:Int)<=i/\i<n:=by
 unfold ixN at h
 by_cases h0:0<=i
 ·rw[if_pos h0]at h
  by_cases h1:i<n
  ·rw[if_pos h1]at h
   have e:i.toNat=j:=Option.some.inj h
   exact⟨by rw[seqIndex_of h0 h1,e],by omega,by omega,h1⟩
  ·rw[if_neg h1]at h;cases h
 ·rw[if_neg h0]at h
  by_cases h1:-(n:Int)<=i
  ·rw[if_pos h1]at h
   have e:(i+n).toNat=j:=Option.some.inj h
   exact⟨by rw[seqIndex_neg (by omega) h1,e],by omega,h1,by omega⟩
  ·rw[if_neg h1]at h;cases h
theorem atI_get{α:Type}{xs:List α}{i:Int}{v:α}(h:atI xs i=some v):∃j,seqIndex? i xs.length=some j/\xs[j]?=some v/\j<xs.length/\-(xs.length:Int)<=i/\i<xs.length:=by
 unfold atI at h
 cases e:ixN xs.length i with
 |none=>rw[e]at h;cases h
 |some j =>
  rw[e]at h
  obtain⟨h1,h2,h3,h4⟩:=ixN_seq e
  exact⟨j,h1,h,h2,h3,h4⟩
theorem atI_nat{α:Type}{xs:List α}{j:Nat}{v:α}(h:xs[j]?=some v):atI xs (j:Int)=some v:=by
 have hj:j<xs.length:=(List.getElem?_eq_some_iff.mp h).1
 have e:ixN xs.length (j:Int)=some j:=by
  unfold ixN
  rw[if_pos (by omega),if_pos (by omega)];simp
 unfold atI;rw[e];exact h
def PlainIx(b:Expr):Prop:=∀o i,subscripted b false o i=operate [o,i] (getItem o i)
def IxR(X:Cx)(r:R2):Prop :=
 ∀(value slice:Expr) (pins:List (Addr×Obj)) (s:Shared) (σ:St) (H:Hp) (x y:V) (v u:Value) (Q:VK),Inv X pins σ H s->RelV x v->RelV y u->r x y H Q ->
  subscripted slice false v u=operate [v,u] (getItem v u)->wpAny (model X.prog X.w) X.A (subscriptTail value slice v u) (EP X pins σ Q) X.xe s
def MtR(X:Cx)(id:String)(r:V->List V->Hp->VK->Prop):Prop :=
 ∀(pins:List (Addr×Obj)) (s:Shared) (σ:St) (H:Hp) (x:V) (xs:List V) (v:Value) (us:List Value) (Q:VK),Inv X pins σ H s->RelV x v->Vals xs us->r x xs H Q ->
  wpAny (model X.prog X.w) X.A (call (.builtin id) (v::us)) (EP X pins σ Q) X.xe s
section
variable {X:Cx}{a b:Expr}{ta tb:TE}{pos:Pos}
theorem pe_ix{r:R2}(hr:IxR X r)(ha:PE X a ta)(hb:PE X b tb)(hs:PlainIx b):PE X (.Subscript a b pos) (tOp r ta tb):=by
 intro pins s σ H Q I h
 exact Subscript_ (binT ha hb I h fun v u s2 x y H2 I2 rx ry q=>hr a b pins s2 σ H2 x y v u Q I2 rx ry q (hs _ _))
def rIxL(K:PySem.W.Frag):R2:=fun x y H Q=>∃p xs i v,x=.ref p/\y=.int i/\SqL K H p xs/\atI xs i=some v/\Q v H
def rIxT(K:PySem.W.Frag):R2:=fun x y H Q=>∃p xs i v,x=.ref p/\y=.int i/\SqT K H p xs/\atI xs i=some v/\Q v H
def rIxS:R2:=fun x y H Q=>∃z i c,x=.str z/\y=.int i/\z.length<=sizeLine/\atI z.cps.toList i=some c/\Q (.str ⟨#[c]⟩) H
theorem ix_list:IxR X (rIxL X.K):=by
 intro value slice pins s σ H x y v u Q I rx ry h hs
 obtain⟨p,xs,i,z,rfl,rfl,hq,he,q⟩:=h
 cases rx
 obtain⟨t,rfl⟩:=ry
 obtain⟨its,r,pl,hz⟩:=I.list hq
 obtain⟨j,h1,h2,h3,h4,h5⟩:=atI_get he
 obtain⟨w,ew,rw'⟩:=r.get h2
 have hl:=r.length
 have hn:=line63
 have fin:EP X pins σ Q w s:=⟨z,H,I,rw',q⟩
 by_cases h0:0<=i
 ·have hj:i.toNat=j:=by
   rw[seqIndex_of h0 h5]at h1
   exact Option.some.inj h1
  exact item_listR pl.isList h0 (by omega) (by rw[hj];simpa using ew) fin hs
 ·have hj:(i+(its.toArray.size:Int)).toNat=j:=by
   rw[seqIndex_neg (by omega) h4]at h1
   rw[List.size_toArray,←hl]
   exact Option.some.inj h1
  exact subscriptTail_builtinR (x:=w) pl.isList.typeIs slot_list_getitem.lookup
   (wpAny_getItem_list_neg (Q:=fun r s'=>r=w/\EP X pins σ Q r s') pl.isList (by omega) (by rw[List.size_toArray]<;>omega) (by omega) (by rw[hj];simpa using ew) ⟨rfl,fin⟩) hs
theorem ix_tup:IxR X (rIxT X.K):=by
 intro value slice pins s σ H x y v u Q I rx ry h hs
 obtain⟨p,xs,i,z,rfl,rfl,hq,he,q⟩:=h
 cases rx
 obtain⟨t,rfl⟩:=ry
 obtain⟨its,r,pl,hz⟩:=I.tuple hq
 obtain⟨j,h1,h2,h3,h4,h5⟩:=atI_get he
 obtain⟨w,ew,rw'⟩:=r.get h2
 have hl:=r.length
 have hn:=line63
 have fin:EP X pins σ Q w s:=⟨z,H,I,rw',q⟩
 exact subscriptTail_builtinR (x:=w) pl.typeIs slot_tuple_getitem.lookup
  (getItem_tuple (j:=j) (Q:=fun r s'=>r=w/\EP X pins σ Q r s') pl (by omega) (by omega) (by rw[List.size_toArray,←hl];exact h1) (by simpa using ew) ⟨rfl,fin⟩) hs
theorem ix_str:IxR X rIxS:=by
 intro value slice pins s σ H x y v u Q I rx ry h hs
 obtain⟨z,i,c,rfl,rfl,hz,he,q⟩:=h
 obtain⟨t,rfl⟩:=rx
 obtain⟨t',rfl⟩:=ry
 obtain⟨j,h1,h2,h3,h4,h5⟩:=atI_get he
 have hl:z.cps.toList.length=z.length:=by simp[Str.length]
 rw[hl]at h1 h4 h5
 have hn:=line63
 exact tail_any (typeIs_str s z t) slot_str_getitem.lookup (getItem_str (c:=c) (by
  have e1:decide (i < -(2 ^ 63:Int))=false:=decide_eq_false (by omega)
  have e2:decide (i ≥ 2 ^ 63)=false:=decide_eq_false (by omega)
  rw[e1,e2,Bool.or_false]) (by rw[h1];simpa using h2) ⟨.str ⟨#[c]⟩,H,I.tok _,⟨_,rfl⟩,q⟩) hs
theorem mapSeq_set(its:List Value)(n j:Nat)(u:Value):Obj.mapSeq (·.setIfInBounds j u) {cls:=.type "list",data:=.seq its.toArray n}={cls:=.type "list",data:=.seq (its.set j u).toArray n}:=by
 simp[Obj.mapSeq]
theorem Inv.lst{pins:List (Addr×Obj)}{σ:St}{H:Hp}{s:Shared}{p:Addr}{xs:List V}(I:Inv X pins σ H s)(h:H p=some (.lst xs)) :
  ∃(its:List Value) (n:Nat),Vals xs its/\s.heap.get? p=some {cls:=.type "list",data:=.seq its.toArray n}/\xs.length<=sizeLine:=by
 obtain⟨z,its,n,r,e⟩:=I.hok p _ h
 exact⟨its,n,r,e,z⟩
theorem Inv.lstUpd{pins:List (Addr×Obj)}{σ:St}{H:Hp}{s:Shared}{p:Addr}{xs ys:List V}{its its':List Value}{n n':Nat}{f:Obj->Obj}(I:Inv X pins σ H s)(h:H p=some (.lst xs))
  (ho:s.heap.get? p=some {cls:=.type "list",data:=.seq its.toArray n}) (hf:f {cls:=.type "list",data:=.seq its.toArray n}={cls:=.type "list",data:=.seq its'.toArray n'}) (r:Vals ys its') (hz:ys.length<=sizeLine) (t:Nat) :
  Inv X pins σ (upd H p (.lst ys)) {s with heap:=s.heap.update p f,toks:=t}:=by
 have e:(s.heap.update p f).get? p=some {cls:=.type "list",data:=.seq its'.toArray n'}:=by
  rw[Heap.get?_update_self f ho (by rw[hf]<;>rfl),hf]
 refine I.write (x:=p) (e:=p) (by rw[h];trivial) (.inl rfl) (fun b u hb q=>(Heap.get?_update_other _ _ (Ne.symm hb)).trans q) ⟨_,e⟩ ?_
 exact⟨hz,its',n',r,e⟩
def rSetL:V->V->V->Hp->(Hp->Prop)->Prop:=fun o i v H Q=>∃p xs k j,o=.ref p/\i=.int k/\H p=some (.lst xs)/\ixN xs.length k=some j/\Q (upd H p (.lst (xs.set j v)))
theorem set_list:PSet X rSetL:=by
 intro pins s σ H o i v ov iv u Q I ro ri rv h
 obtain⟨p,xs,k,j,rfl,rfl,hp,hj,q⟩:=h
 cases ro
 obtain⟨t,rfl⟩:=ri
 obtain⟨its,n,r,ho,hz⟩:=I.lst hp
 obtain⟨h1,h2,h3,h4⟩:=ixN_seq hj
 have hl:=r.length
 have hn:=line63
 have I':Inv X pins σ (upd H p (.lst (xs.set j v))) {s with heap:=s.heap.update p (Obj.mapSeq (·.setIfInBounds j u))} :=
  I.lstUpd hp ho (mapSeq_set its n j u) (r.set rv j) (by rw[List.length_set];exact hz) s.toks
 by_cases h0:0<=k
 ·have hk:k.toNat=j:=by
   rw[seqIndex_of h0 h4]at h1
   exact Option.some.inj h1
  exact PySem.W.ki_setAt ho h0 (by omega) (by rw[List.size_toArray,←hl];exact h4) (by rw[hk];exact⟨_,I',q⟩)
 ·have hk:(k+(its.toArray.size:Int)).toNat=j:=by
   rw[seqIndex_neg (by omega) h3]at h1
   rw[List.size_toArray,←hl]
   exact Option.some.inj h1
  exact PySem.W.ki_setBack ho (by omega) (by rw[List.size_toArray,←hl];exact h3) (by omega) (by rw[hk];exact⟨_,I',q⟩)
theorem slice_bounds(lo hi:Option Int)(n:Nat):(sliceBounds lo hi none n).1=((HT.sIx n 0 lo:Nat):Int)/\(sliceBounds lo hi none n).2.1=((HT.sIx n n hi:Nat):Int)/\(sliceBounds lo hi none n).2.2=1:=by
 refine⟨?_,?_,rfl⟩
 ·cases lo with
  |none=>simp[sliceBounds,HT.sIx]
  |some i =>
   simp only[sliceBounds,HT.sIx,Option.getD_none,show(1:Int)>0 by decide,if_true]
   by_cases h:i<0
   ·simp only[h,if_true]<;>omega
   ·simp only[h,if_false]<;>omega
 ·cases hi with
  |none=>simp[sliceBounds,HT.sIx]
  |some i =>
   simp only[sliceBounds,HT.sIx,Option.getD_none,show(1:Int)>0 by decide,if_true]
   by_cases h:i<0
   ·simp only[h,if_true]<;>omega
   ·simp only[h,if_false]<;>omega
theorem slicePick_cut(its:List Value)(lo hi:Option Int):slicePick its.toArray lo hi none=((its.drop (HT.sIx its.length 0 lo)).take (HT.sIx its.length its.length hi-HT.sIx its.length 0 lo)).toArray:=by
 obtain⟨h1,h2,h3⟩:=slice_bounds lo hi its.toArray.size
 unfold slicePick
 rw[h1,h2,h3]
 simp only[sliceRange_one,pick_run,List.size_toArray]<;>rfl
def rSlL(K:PySem.W.Frag):V->Option Int->Option Int->Hp->VK->Prop:=fun x lo hi H Q=>∃a xs,x=.ref a/\SqL K H a xs/\∀p,H p=none->Q (.ref p) (upd H p (.lst (cutV xs lo hi)))
theorem sl_list:SlR X (rSlL X.K):=by
 intro pins s σ H x v vl vu lo hi sl Q I rx hs pl pu h
 obtain⟨a,xs,rfl,hx,q⟩:=h
 cases rx
 obtain⟨its,r,ht,hz⟩:=I.list hx
 have hlen:=r.length
 refine⟨"list",_,slot_list_getitem.lookup,ht.isList.typeIs,?_⟩
 refine wpAny_getItem_list_slice ht.isList hs pl pu .none (by simp) ?_ (by rw[List.size_toArray]<;>omega)
 rw[slicePick_cut,←hlen]
 refine⟨.ref s.heap.objs.size,_,I.laid (t':=s.toks) (o:=.lst (cutV xs lo hi)) (fun b ob q=>Heap.get?_push_of_some _ q) (Nat.le_refl _) ?_,rfl,q _ (I.hok.fresh (Nat.le_refl _))⟩
 exact⟨Nat.le_trans (cutV_length xs lo hi) hz,_,0,(r.drop (HT.sIx xs.length 0 lo)).take (HT.sIx xs.length xs.length hi-HT.sIx xs.length 0 lo),Heap.get?_push_size _ rfl⟩
def flatV:V->Bool
 |.non=>true
 |.bl _=>true
 |.int _=>true
 |.str _=>true
 |_=>false
def eqV:V->V->Bool
 |.non,.non=>true
 |.bl a,.bl b=>a == b
 |.bl a,.int b=>(if a then 1 else 0) == b
 |.int a,.bl b=>a == (if b then 1 else 0)
 |.int a,.int b=>a == b
 |.str a,.str b=>a == b
 |_,_=>false
theorem eqAt_V{A:Around}{s:Shared}{y x:V}{u v:Value}(ry:RelV y u)(rx:RelV x v)(fy:flatV y=true)(fx:flatV x=true):SeqAt.EqAt A s u v (eqV y x):=by
 cases y with
 |non =>
  cases ry
  cases x with
  |non=>cases rx;exact SeqAt.EqAt.same _
  |bl b=>cases rx;exact SeqAt.EqAt.none_bool b
  |int b=>obtain⟨t,rfl⟩:=rx;exact SeqAt.EqAt.none_int b t
  |str b=>obtain⟨t,rfl⟩:=rx;exact SeqAt.EqAt.none_str b t
  |_=>exact absurd (show false=true from fx) Bool.false_ne_true
 |bl a =>
  cases ry
  cases x with
  |non=>cases rx;exact SeqAt.EqAt.bool_none a
  |bl b=>cases rx;exact SeqAt.EqAt.bool_bool a b
  |int b=>obtain⟨t,rfl⟩:=rx;exact SeqAt.EqAt.bool_int a b t
  |str b=>obtain⟨t,rfl⟩:=rx;exact SeqAt.EqAt.bool_str a b t
  |_=>exact absurd (show false=true from fx) Bool.false_ne_true
 |int a =>
  obtain⟨t',rfl⟩:=ry
  cases x with
  |non=>cases rx;exact SeqAt.EqAt.int_none a t'
  |bl b=>cases rx;exact SeqAt.EqAt.int_bool a t' b
  |int b=>obtain⟨t,rfl⟩:=rx;exact SeqAt.EqAt.int_int a t' b t
  |str b=>obtain⟨t,rfl⟩:=rx;exact SeqAt.EqAt.int_str a t' b t
  |_=>exact absurd (show false=true from fx) Bool.false_ne_true
 |str a =>
  obtain⟨t',rfl⟩:=ry
  cases x with
  |non=>cases rx;exact SeqAt.EqAt.str_none a t'
  |bl b=>cases rx;exact SeqAt.EqAt.str_bool a t' b
  |int b=>obtain⟨t,rfl⟩:=rx;exact SeqAt.EqAt.str_int a t' b t
  |str b=>obtain⟨t,rfl⟩:=rx;exact SeqAt.EqAt.str_str a t' b t
  |_=>exact absurd (show false=true from fx) Bool.false_ne_true
 |_=>exact absurd (show false=true from fy) Bool.false_ne_true
def eqU(x:V)(u:Value):Bool:=match u with
 |.none=>eqV .non x
 |.bool b=>eqV (.bl b) x
 |.int i _=>eqV (.int i) x
 |.str z _=>eqV (.str z) x
 |_=>false
theorem eqU_of{x y:V}{u:Value}(r:RelV y u)(f:flatV y=true):eqU x u=eqV y x:=by
 cases y with
 |non=>cases r;rfl
 |bl b=>cases r;rfl
 |int i=>obtain⟨t,rfl⟩:=r;rfl
 |str z=>obtain⟨t,rfl⟩:=r;rfl
 |_=>exact absurd (show false=true from f) Bool.false_ne_true
theorem any_eqU{x:V}:∀{xs:List V}{us:List Value},Vals xs us->xs.all flatV=true->us.any (eqU x)=xs.any fun y=>eqV y x
 |_,_,.nil,_=>rfl
 |y::xs,u::us,.cons r t,f=>by
  rw[List.all_cons,Bool.and_eq_true]at f
  rw[List.any_cons,List.any_cons,eqU_of r f.1,any_eqU t f.2]
theorem mem_eqAt{A:Around}{s:Shared}{x:V}{v:Value}(rx:RelV x v)(fx:flatV x=true):∀{xs:List V}{us:List Value},Vals xs us->xs.all flatV=true->∀u∈us,SeqAt.EqAt A s u v (eqU x u)
 |_,_,.nil,_=>fun u hu=>by cases hu
 |y::xs,u::us,.cons r t,f=>fun u' hu=>by
  rw[List.all_cons,Bool.and_eq_true]at f
  rcases List.mem_cons.mp hu with rfl|hu
  ·rw[eqU_of r f.1];exact eqAt_V r rx f.1 fx
  ·exact mem_eqAt rx fx t f.2 u' hu
def inV(x:V)(xs:List V):Bool:=xs.any fun y=>eqV y x
def rIn(K:PySem.W.Frag)(neg:Bool):R2:=fun x y H Q=>∃p xs,y=.ref p/\(SqL K H p xs\/SqT K H p xs)/\flatV x=true/\xs.all flatV=true/\Q (.bl (if neg then !inV x xs else inV x xs)) H
theorem op_in_seq:OpR X (compareOp .In) (rIn X.K false):=by
 intro pins s σ H x y v u Q I rx ry h
 obtain⟨p,xs,rfl,hq,fx,fs,q⟩:=h
 cases ry
 rcases hq with hq|hq
 ·obtain⟨its,r,pl,hz⟩:=I.list hq
  refine SeqAt.in_listAt (eqU x) pl.isList (fun w hw=>mem_eqAt rx fx r fs w (by simpa using hw)) ⟨.bl _,H,I,rfl,?_⟩
  rw[show its.toArray.any (eqU x)=its.any (eqU x) by simp,any_eqU r fs]
  exact q
 ·obtain⟨its,r,pl,hz⟩:=I.tuple hq
  refine SeqAt.in_tupleAt (eqU x) pl (fun w hw=>mem_eqAt rx fx r fs w (by simpa using hw)) ⟨.bl _,H,I,rfl,?_⟩
  rw[show its.toArray.any (eqU x)=its.any (eqU x) by simp,any_eqU r fs]
  exact q
theorem op_notIn_seq:OpR X (compareOp .NotIn) (rIn X.K true):=by
 intro pins s σ H x y v u Q I rx ry h
 obtain⟨p,xs,rfl,hq,fx,fs,q⟩:=h
 cases ry
 rcases hq with hq|hq
 ·obtain⟨its,r,pl,hz⟩:=I.list hq
  refine SeqAt.notIn_listAt (eqU x) pl.isList (fun w hw=>mem_eqAt rx fx r fs w (by simpa using hw)) ⟨.bl _,H,I,rfl,?_⟩
  rw[show its.toArray.any (eqU x)=its.any (eqU x) by simp,any_eqU r fs]
  exact q
 ·obtain⟨its,r,pl,hz⟩:=I.tuple hq
  refine SeqAt.notIn_tupleAt (eqU x) pl (fun w hw=>mem_eqAt rx fx r fs w (by simpa using hw)) ⟨.bl _,H,I,rfl,?_⟩
  rw[show its.toArray.any (eqU x)=its.any (eqU x) by simp,any_eqU r fs]
  exact q
theorem call_len_seq:CallR X (.builtin "len") (fun xs H Q=>∃p ys,xs=[.ref p]/\(SqL X.K H p ys\/SqT X.K H p ys)/\Q (.int ys.length) H):=by
 intro pins s σ H xs us Q I r h
 obtain⟨p,ys,rfl,hq,q⟩:=h
 obtain⟨u,rfl,rx⟩:=vals1 r
 cases rx
 have hn:=line63
 rcases hq with hq|hq
 ·obtain⟨its,r',pl,hz⟩:=I.list hq
  have hlen:=r'.length
  exact Calls.call_len_list pl.isList (by simp only[List.size_toArray]<;>omega) ⟨.int ys.length,H,I.tok _,⟨s.toks+1,by rw[List.size_toArray,hlen]⟩,q⟩
 ·obtain⟨its,r',pl,hz⟩:=I.tuple hq
  have hlen:=r'.length
  exact len_tuple pl (by simp only[List.size_toArray]<;>omega) ⟨.int ys.length,H,I.tok _,⟨s.toks+1,by rw[List.size_toArray,hlen]⟩,q⟩
theorem call_len_str:CallR X (.builtin "len") (fun xs H Q=>∃z,xs=[.str z]/\z.length<=sizeLine/\Q (.int z.length) H):=by
 intro pins s σ H xs us Q I r h
 obtain⟨z,rfl,hz,q⟩:=h
 obtain⟨u,rfl,t,rfl⟩:=vals1 r
 have hn:=line63
 exact len_str (by omega) ⟨.int z.length,H,I.tok _,⟨_,rfl⟩,q⟩
theorem call_tuple_of:CallR X (.type "tuple") (fun xs H Q=>∃p ys,xs=[.ref p]/\((SqL X.K H p ys/\∀l,H l=none->Q (.ref l) (upd H l (.tup ys)))\/(SqT X.K H p ys/\Q (.ref p) H))):=by
 intro pins s σ H xs us Q I r h
 obtain⟨p,ys,rfl,h⟩:=h
 obtain⟨u,rfl,rx⟩:=vals1 r
 cases rx
 rcases h with⟨hq,q⟩|⟨hq,q⟩
 ·obtain⟨its,r',pl,hz⟩:=I.list hq
  have hlen:=r'.length
  refine call_tuple_list pl.isList (fun h' kp=>?_) (by simp only[List.size_toArray]<;>omega)
  have I1:Inv X pins σ H {s with heap:=h'}:=I.kept (t':=s.toks) kp
  have I2:Inv X pins σ (upd H h'.objs.size (.tup ys)) {s with heap:=h'.push {cls:=.type "tuple",data:=.seq its.toArray}} :=
   I1.laid (t':=s.toks) (fun b o e=>Heap.get?_push_of_some _ e) (Nat.le_refl _) (show ObjOk X.prog X.w _ _ _ (.tup ys)from⟨hz,its,r',IsTup.new _ _,_,Heap.get?_push_size _ rfl,rfl⟩)
  exact⟨.ref h'.objs.size,_,I2,rfl,q _ (I1.hok.fresh (Nat.le_refl _))⟩
 ·obtain⟨its,r',pl,hz⟩:=I.tuple hq
  exact call_tuple_same pl ⟨.ref p,H,I,rfl,q⟩
def tyV(K:PySem.W.Frag)(T:String)(x:V)(H:Hp):Prop:=match x with
 |.str _=>T="str"
 |.int _=>T="int"
 |.ref p=>(T="list"/\∃xs,SqL K H p xs)\/(T="tuple"/\∃o,K.lookup p=some o/\o.cls=.type "tuple"/\o.dict=none) \/
   (T="dict"/\((∃kvs,H p=some (.dK kvs))\/∃kvs,H p=some (.dT kvs)))\/(T="set"/\∃S n,H p=some (.set S n))
 |_=>False
theorem tyV_is{pins:List (Addr×Obj)}{σ:St}{H:Hp}{s:Shared}{T:String}{x:V}{v:Value}(I:Inv X pins σ H s)(r:RelV x v)(ty:tyV X.K T x H) :
  s.TypeIs v T/\∀a,v=.ref a->∃ob,s.heap.get? a=some ob/\ob.dict=none:=by
 cases x with
 |str z =>
  obtain⟨t,rfl⟩:=r
  cases(show T="str" from ty)
  exact⟨typeIs_str s z t,fun _ e=>nomatch e⟩
 |int i =>
  obtain⟨t,rfl⟩:=r
  cases(show T="int" from ty)
  exact⟨typeIs_int s i t,fun _ e=>nomatch e⟩
 |ref p =>
  cases r
  rcases ty with⟨rfl,xs,hq⟩|⟨rfl,o,hk,hc,hd⟩|⟨rfl,hk⟩|⟨rfl,S,n,hk⟩
  ·obtain⟨its,_,pl,_⟩:=I.list hq
   refine⟨pl.isList.typeIs,fun a e=>?_⟩
   cases e
   obtain⟨o,n,e,c,hd,_⟩:=pl
   exact⟨o,e,hd⟩
  ·refine⟨⟨o,I.kIn p o hk,hc⟩,fun a e=>?_⟩
   cases e
   exact⟨o,I.kIn _ o hk,hd⟩
  ·have z:∃o,s.heap.get? p=some o/\o.ExactDict:=by
    rcases hk with⟨kvs,hk⟩|⟨kvs,hk⟩
    ·obtain⟨_,_,_,_,o,_,_,e,ex,_⟩:=I.hok p _ hk
     exact⟨o,e,ex⟩
    ·obtain⟨_,_,_,_,o,_,_,e,ex,_⟩:=I.hok p _ hk
     exact⟨o,e,ex⟩
   obtain⟨o,e,ex⟩:=z
   refine⟨⟨o,e,ex.1⟩,fun a e2=>?_⟩
   cases e2
   exact⟨o,e,ex.2.1⟩
  ·obtain⟨o,_,_,_,e,ex,_⟩:=I.hok p _ hk
   refine⟨⟨o,e,ex.1⟩,fun a e2=>?_⟩
   cases e2
   exact⟨o,e,ex.2.1⟩
 |_=>exact False.elim ty
def tBM0(K:PySem.W.Frag)(T:String)(r:V->List V->Hp->VK->Prop)(to:TE):TE:=fun σ H Q=>to σ H fun x H1=>tyV K T x H1/\r x [] H1 Q
def tBM(K:PySem.W.Frag)(T:String)(r:V->List V->Hp->VK->Prop)(to:TE)(t:TA):TE:=fun σ H Q=>to σ H fun x H1=>tyV K T x H1/\t σ H1 fun xs H2=>r x xs H2 Q
variable {o e:Expr}{es:List Expr}{to:TE}{t:TA}{name:Str}{apos cpos:Pos}{T id:String}{r:V->List V->Hp->VK->Prop}
theorem pe_bm0(pa:PlainAttrs T)(slot:Slot T name id)(hty:typeOf (.builtin id)=pure (.type "method_descriptor"))(hm:MtR X id r)(ho:PE X o to)
  (hbase:attributeBase o name X.env (eval o X.env)=eval o X.env:=by rfl) (hline:(apos.endLine == cpos.line)=true:=by rfl):PE X (.Call (.Attribute o name apos) [] [] cpos) (tBM0 X.K T r to):=by
 intro pins s σ H Q I h
 refine wpAny_Call_method0_late hbase hline (thn (ho pins s σ H _ I h) fun v s1 ⟨x,H1,I1,r1,ty,q1⟩=>?_)
 obtain⟨h1,h2⟩:=tyV_is I1 r1 ty
 exact⟨T,id,pa,slot,hty,h1,h2,Calls.callWith_builtin rfl (PySem.evalArgs_none (hm pins s1 σ H1 x [] v [] Q I1 r1 .nil q1))⟩
theorem pe_bm(pa:PlainAttrs T)(slot:Slot T name id)(hty:typeOf (.builtin id)=pure (.type "method_descriptor"))(hm:MtR X id r)(ho:PE X o to)(ha:PA X (e::es) t)
  (hbase:attributeBase o name X.env (eval o X.env)=eval o X.env:=by rfl)
  (hfew:((backTo cpos (starEach (e::es) X.env)).all (fun x=>!x.1)&&(backToKw cpos (keywordEach [] X.env)).all (fun x=>x.1.isSome)
   && decide ((e::es).length+([]:List Keyword).length+(if([]:List Keyword).isEmpty then 0 else 1)<30))=true:=by rfl)
  (hline:(apos.endLine == cpos.line)=true:=by rfl) (hs:starEach (e::es) X.env=(false,eval e X.env)::starEach es X.env:=by rfl) (hplain:(backTo cpos (starEach es X.env)).any (·.1)=false:=by rfl) :
  PE X (.Call (.Attribute o name apos) (e::es) [] cpos) (tBM X.K T r to t):=by
 intro pins s σ H Q I h
 refine wpAny_Call_method_late hbase hfew hline rfl (thn (ho pins s σ H _ I h) fun v s1 ⟨x,H1,I1,r1,ty,q1⟩=>?_)
 obtain⟨h1,h2⟩:=tyV_is I1 r1 ty
 refine⟨T,id,pa,slot,hty,h1,h2,?_⟩
 have hA:=ha cpos pins s1 σ H1 _ I1 q1
 rw[hs]at hA⊢
 refine Calls.callWith_builtin (by show(false||(backTo cpos (starEach es X.env)).any (·.1))=false;rw[hplain]<;>rfl) (Calls.evalArgs_plain ?_)
 exact thn hA fun us s2 ⟨vs,H2,I2,r2,q2⟩=>hm pins s2 σ H2 x vs v us Q I2 r1 r2 q2
/- xs.append(e),list.index on a module's tuple .. are MtR facts of 06m -/
end
def MtM(X:Cx)(id:String)(r:V->List V->Hp->VK->Prop):Prop :=
 ∀(pins:List (Addr×Obj)) (s:Shared) (σ:St) (H:Hp) (x:V) (xs:List V) (v:Value) (us:List Value) (Q:VK),Inv X pins σ H s->RelV x v->Vals xs us->r x xs H Q ->
  wpAny (model X.prog X.w) X.A (call (.builtin id) (v::us)) (EP X pins σ Q) X.xe s
theorem Vals.one:∀{x:V}{us:List Value},Vals [x] us->∃u,us=[u]/\RelV x u
 |_,_,.cons r .nil=>⟨_,rfl,r⟩
theorem Vals.zero:∀{us:List Value},Vals [] us->us=[]
 |_,.nil=>rfl
theorem Vals.dropLast{xs:List V}{us:List Value}(h:Vals xs us):Vals xs.dropLast us.dropLast:=by
 induction h with
 |nil=>exact .nil
 |cons r t ih =>
  cases t with
  |nil=>exact .nil
  |cons q t'=>exact .cons r ih
theorem erase_last{α:Type}(l:List α):l.eraseIdx (l.length-1)=l.dropLast:=by
 induction l with
 |nil=>rfl
 |cons a r ih =>
  cases r with
  |nil=>rfl
  |cons b r =>
   have e:(a::b::r).length-1=((b::r).length-1)+1:=by
    have h1:(a::b::r).length=r.length+2:=rfl
    have h2:(b::r).length=r.length+1:=rfl
    omega
   rw[e,List.eraseIdx_cons_succ,ih]
   all_goals rfl
section
variable {X:Cx}{pins:List (Addr×Obj)}{σ:St}{H:Hp}{s:Shared}{l b:Addr}{xs ys zs:List V}
theorem Inv.lset{its its':List Value}{n:Nat}{f:Array Value->Array Value}{t':Nat}(I:Inv X pins σ H s)(hH:H l=some (.lst xs))
  (e:s.heap.get? l=some {cls:=.type "list",data:=.seq its.toArray n}) (hf:f its.toArray=its'.toArray) (hv:Vals ys its') (hz:ys.length<=sizeLine) :
  Inv X pins σ (upd H l (.lst ys)) {s with heap:=s.heap.update l (Obj.mapSeq f),toks:=t'}:=by
 have q:=PySem.IsL.update e f
 rw[hf]at q
 refine I.write (x:=l) (e:=l) (by rw[hH];exact trivial) (.inl rfl) (fun b' u hb hu=>(Heap.get?_update_other s.heap (Obj.mapSeq f) (Ne.symm hb)).trans hu) ⟨_,q⟩ ?_
 exact⟨hz,its',_,hv,q⟩
theorem Inv.lnew{its:List Value}{t':Nat}(I:Inv X pins σ H s)(hv:Vals ys its)(hz:ys.length<=sizeLine) :
  Inv X pins σ (upd H s.heap.objs.size (.lst ys)) {s with heap:=s.heap.push {cls:=.type "list",data:=.seq its.toArray},toks:=t'} :=
 I.laid (fun _ _ q=>Heap.get?_push_of_some _ q) (Nat.le_refl _) ⟨hz,its,0,hv,Heap.get?_push_size _ rfl⟩
theorem Inv.fresh(I:Inv X pins σ H s):H s.heap.objs.size=none:=I.hok.fresh (Nat.le_refl _)
theorem Inv.lstM(I:Inv X pins σ H s)(hH:H l=some (.lst xs)):xs.length<=sizeLine/\∃(its:List Value) (n:Nat),Vals xs its/\xs.length=its.length/\s.heap.get? l=some {cls:=.type "list",data:=.seq its.toArray n}:=by
 obtain⟨z,its,n,r,e⟩:=I.hok l _ hH
 exact⟨z,its,n,r,r.length,e⟩
theorem notLongL{n:Nat}(h:n<=sizeLine):Builtin.List.listTooLong n=false:=by
 unfold Builtin.List.listTooLong
 exact decide_eq_false (by omega)
end
section
variable {X:Cx}
def rAppend:V->List V->Hp->VK->Prop:=fun x vs H Q=>∃l xs y,x=.ref l/\vs=[y]/\H l=some (.lst xs)/\xs.length<sizeLine/\Q .non (upd H l (.lst (xs++[y])))
theorem mt_append:MtM X "list.append" rAppend:=by
 intro pins s σ H x vs v us Q I rx rv h
 obtain⟨l,xs,y,rfl,rfl,hH,hz,q⟩:=h
 cases rx
 obtain⟨u,rfl,ru⟩:=rv.one
 obtain⟨z,its,n,r,hl,e⟩:=I.lstM hH
 refine call_meets F.slot_list_append ⟨_,e,rfl⟩ F.entry_list_append (F.args_list_append_2 _ _) (PySem.list_append l its.toArray n u (by rw[List.size_toArray];omega)) ⟨e,?_⟩
 refine⟨.non,_,I.lset (its':=its++[u]) hH e (by simp) (r.append (.cons ru .nil)) ?_,rfl,q⟩
 rw[List.length_append,List.length_singleton]
 omega
def rExtend:V->List V->Hp->VK->Prop:=fun x vs H Q=>∃l b xs zs,x=.ref l/\vs=[.ref b]/\H l=some (.lst xs)/\H b=some (.lst zs)/\xs.length+zs.length<=sizeLine/\Q .non (upd H l (.lst (xs++zs)))
theorem mt_extend:MtM X "list.extend" rExtend:=by
 intro pins s σ H x vs v us Q I rx rv h
 obtain⟨l,b,xs,zs,rfl,rfl,hH,hB,hz,q⟩:=h
 cases rx
 obtain⟨u,rfl,ru⟩:=rv.one
 cases ru
 obtain⟨z,its,n,r,hl,e⟩:=I.lstM hH
 obtain⟨z2,its2,n2,r2,hl2,e2⟩:=I.lstM hB
 have hsz:its.toArray.size+its2.toArray.size<=sizeLine:=by rw[List.size_toArray,List.size_toArray];omega
 have hlong:¬(!its.toArray.isEmpty&&Builtin.List.listTooLong (its.toArray.size+its2.toArray.size))=true:=by
  rw[notLongL hsz,Bool.and_false]
  exact Bool.false_ne_true
 refine call_meets F.slot_list_extend ⟨_,e,rfl⟩ F.entry_list_extend (F.args_list_extend_2 _ _)
  (AutoSeq1.list_extend_list_list_0 l its.toArray n b its2.toArray n2 hlong (by rw[List.size_toArray];omega) (by omega)) ⟨e,e2,?_⟩
 refine⟨.non,_,I.lset (its':=its++its2) hH e (by simp) (r.append r2) ?_,rfl,q⟩
 rw[List.length_append]
 omega
def rPop:V->List V->Hp->VK->Prop:=fun x vs H Q=>∃l xs y,x=.ref l/\vs=[]/\H l=some (.lst xs)/\xs[xs.length-1]?=some y/\Q y (upd H l (.lst xs.dropLast))
theorem mt_pop:MtM X "list.pop" rPop:=by
 intro pins s σ H x vs v us Q I rx rv h
 obtain⟨l,xs,y,rfl,rfl,hH,hy,q⟩:=h
 cases rx
 have hus:=rv.zero
 subst hus
 obtain⟨z,its,n,r,hl,e⟩:=I.lstM hH
 obtain⟨u,hu,ru⟩:=r.get hy
 have hy':its.toArray[its.toArray.size-1]?=some u:=by
  show its.toArray[its.length-1]?=some u
  rw[←Array.getElem?_toList,←hl]
  exact hu
 refine call_meets F.slot_list_pop ⟨_,e,rfl⟩ F.entry_list_pop (F.args_list_pop_1 _) (MeetsSeq.list_pop_last l its.toArray n u hy' (by rw[List.size_toArray];omega)) ⟨e,?_⟩
 refine⟨y,_,I.lset (its':=its.dropLast) hH e ?_ r.dropLast ?_,ru,q⟩
 ·show its.toArray.eraseIdxIfInBounds (its.toArray.size-1)=its.dropLast.toArray
  rw[List.size_toArray,List.eraseIdxIfInBounds_toArray,erase_last]
 ·rw[List.length_dropLast]
  omega
def rCat:R2:=fun x y H Q=>∃l b xs zs,x=.ref l/\y=.ref b/\H l=some (.lst xs)/\H b=some (.lst zs)/\xs.length+zs.length<=sizeLine/\∀p,H p=none->Q (.ref p) (upd H p (.lst (xs++zs)))
theorem op_cat:OpR X (binaryOp .Add) rCat:=by
 intro pins s σ H x y v u Q I rx ry h
 obtain⟨l,b,xs,zs,rfl,rfl,hH,hB,hz,q⟩:=h
 cases rx
 cases ry
 obtain⟨z,its,n,r,hl,e⟩:=I.lstM hH
 obtain⟨z2,its2,n2,r2,hl2,e2⟩:=I.lstM hB
 refine PySem.P.add_list e e2 ?_ (by rw[List.size_toArray,List.size_toArray];omega)
 have ea:its.toArray++its2.toArray=(its++its2).toArray:=by simp
 rw[ea]
 exact⟨.ref _,_,I.lnew (t':=s.toks) (r.append r2) (by rw[List.length_append];omega),rfl,q _ I.fresh⟩
end
section
variable {prog:Program}{w:World}{A:Around}{E:Value->Shared->Prop}{s:Shared}
end
section
variable {X:Cx}
end
end L2
namespace Att
open PySem PySem.W PySem.Calls PyProof.Rows
theorem ints_of_wellAll{P:Params}{h:Heap}:∀(ns:List Int) (vs:List Value),WellAll P h vs (ns.map WData.int)->IntsAre vs ns:=by
 intro ns
 induction ns with
 |nil =>
  intro vs w
  rw[List.map_nil]at w
  cases w
  exact .nil
 |cons n ns ih =>
  intro vs w
  rw[List.map_cons]at w
  cases w with
  |cons a b =>
   cases a
   exact .cons _ _ (ih _ b)
theorem script_of{l:OpenLaw}{n:Nat}(hn:l.most=some n){P:Params}{h:Heap}{args:List WData}{vals:List Value}
  (hpre:l.row.toRowW.claim.pre args=true) (hwl:WellAll P h vals args) :
  ∃a vs ns,vals=[Value.ref a]/\args=[WData.list (ns.map WData.int)]/\h.get? a=some {cls:=.type "list",data:=.seq vs.toArray}/\IntsAre vs ns/\ns.length<=n:=by
 have hsh:WShape.hasAll [] args [.list .int]=true:=(pre_splitW hpre).1
 have hc:l.pre.holds [] {args:=args}=true:=(pre_splitW hpre).2
 obtain⟨d,r,rfl,h1,h2⟩:=hasAllW_cons hsh
 obtain rfl:=hasAllW_nil h2
 obtain⟨xs,rfl,h3⟩:=hasW_list h1
 obtain⟨ns,rfl⟩:=items_int h3
 have hlen:ns.length<=n:=by
  unfold OpenLaw.pre at hc
  have h4:(WTm.not (.lt (.lit (.int (n:Int))) (.len (.arg 0)))).holds [] {args:=[.list (ns.map .int)]}=true:=by
   have h4:=(holds_andW hc).1
   rw[hn]at h4
   exact h4
  have h5:=condW_of h4 (w_not (w_lt w_lit (w_len_list (w_arg rfl))))
  rw[List.length_map]at h5
  refine Nat.le_of_not_lt fun q=>?_
  have q':(n:Int)<((ns.length:Nat):Int):=by omega
  first
   |(rw[decide_eq_true q']at h5;exact absurd h5 (by decide))
   |(simp at h5;omega)
 cases hwl with
 |cons w1 w2 =>
  cases w2
  cases w1 with
  |list ho hall=>exact⟨_,_,ns,rfl,rfl,ho,ints_of_wellAll ns _ hall,hlen⟩
theorem post_true(l:OpenLaw)(args:List WData):l.row.toRowW.claim.post args (.bool true) args=true :=
 postW_of (r:=l.row.toRowW) (X:=(true == true))
  (show WShape.has [] (.bool true) .bool=true by first|rfl|decide|simp[WShape.has,WShape.arms,WShape.armsAll])
  (show(WTm.eq .res (.lit (.bool true))).value [] {args:=args,res:=some (.bool true),after:=args}=some (.bool (true == true))from w_eq_bool (w_res rfl) w_lit) rfl
theorem attach_call{l:OpenLaw}{n:Nat}{q:Program}{loose:List Str}{XP:(Str->Option Value)->Heap->Prop}{YP:World->Heap->Prop}{d:DefRec}
  (hn:l.most=some n) (hdf:d.params.defaults=[])
  (call:∀(w:World) (s₀ s₁:Shared) (mg mb:Str->Option Value) (fa:Addr) (o:Obj) (pm cd doc:Value) (a:Addr) (vs:List Value) (ns:List Int),
   Ground q loose [] XP w s₀ mg mb s₁.heap->YP w s₁.heap ->
   s₁.heap.get? fa=some o->o.data=.func (docDef d.name d.params d.body d.scope pm cd doc)->s₁.heap.CodeRec cd d.name->mg d.name=some (.ref fa) ->
   s₁.heap.get? a=some {cls:=.type "list",data:=.seq vs.toArray}->IntsAre vs ns->ns.length<=n->s₁.gens=#[] ->
   codeAny (model l.prog w) callerA (.call (.ref fa) ⟨[.ref a],[]⟩) (fun r s'=>r=.ok (.ret (.bool true))/\OldK s₁.heap s'.heap/\s'.os=s₁.os/\AllBare s'.gens) s₁) :
  WalkO q loose XP YP l.row.toRowW d [] (fun f vs=>PySem.call f vs):=by
 intro w s₀ s₁ mg mb G Y fa o pm cd doc dV kV ho hd hcd hD hmg hg args vals as hpre hlay hrd hwl hlo
 obtain rfl:dV=.none:=Dflts.none hD hdf
 obtain rfl:kV=.none:=Dflts.noKw hD
 obtain⟨a,vs,ns,rfl,rfl,hobj,hints,hlen⟩:=script_of hn hpre hwl
 refine enter_call (codeAny_mono (call w s₀ s₁ mg mb fa o pm cd doc a vs ns G Y ho (fd_plain hd) hcd hmg hobj hints hlen hg) fun r s' hq=>?_)
 obtain⟨rfl,h2,h3,h4⟩:=hq
 exact⟨.inl ⟨.bool true,.bool true,[],rfl,fun _=>rfl,.bool true,post_true l _,fun _=>⟨List.Pairwise.nil,fun _ hm=>(nomatch hm)⟩⟩,h2,h3,h4⟩
section
variable {prog:Program}{w:World}{A:Around}{E:Value->Shared->Prop}{s:Shared}{K:Frag}
end
end Att
namespace L2
open PySem PySem.Spec PyProof.Rows
theorem vals_ints:∀{vs:List Value}{ns:List Int},IntsAre vs ns->Vals (ns.map V.int) vs
 |_,_,.nil=>.nil
 |_,_,.cons n t h=>.cons ⟨t,rfl⟩ (vals_ints h)
def Only(H:Hp):Prop:=∀b,H b=none\/∃o xs,H b=some (.frz o (.lst xs))
theorem law_call{P:Program}{w:World}{K:PySem.W.Frag}{mg mb:Str->Option Value}{CX:CXT}{k:Nat}{fa a:Addr}{fd:FuncData}{x:Str}{sp:Sp}{s₁:Shared}{vs:List Value}{ns:List Int}
  (KX:K.In s₁.heap) (hns:s₁.heap.Ns mainGlobals mg) (hb:s₁.heap.Ns builtinsNs mb) (hbb:∀x:Str,x≠"__name__"->mb x=bootBuiltins x) (hlim:s₁.heap.NoLimit) (hg:s₁.gens=#[])
  (ha:s₁.heap.get? a=some {cls:=.type "list",data:=.seq vs.toArray}) (hi:IntsAre vs ns) (hl:ns.length<=sizeLine) (hr:Room k callerA)
  (F:∀base:Heap,K.In base->base.Ns mainGlobals mg->FnOk P w K mg base CX k fa fd [x] sp) (hbind:∀(s:Shared) (u:Value),BindsTo s fd ⟨[u],[]⟩ [(x,u)])
  (hsp:∀H:Hp,Only H->SqL K H a (ns.map V.int)->sp [.ref a] H (fun v _=>v=.bl true) fun _ _ _=>False)
  (hCX:∀H e s',CX [] H s₁ (fun _ _ _=>False) e s'->False) :
  codeAny (model P w) callerA (.call (.ref fa) ⟨[.ref a],[]⟩) (fun r s'=>r=.ok (.ret (.bool true))/\OldK s₁.heap s'.heap/\s'.os=s₁.os/\AllBare s'.gens) s₁:=by
 have rv:=vals_ints hi
 have lenV:=hi.length
 -- from an abstract heap in which nothing but the script may be tracked
 have core:∀H:Hp,Only H->SqL K H a (ns.map V.int)->HOk P w H s₁.heap->(∀b,H b≠none->b=a)->(H a≠none->K.lookup a=none) ->
   codeAny (model P w) callerA (.call (.ref fa) ⟨[.ref a],[]⟩) (fun r s'=>r=.ok (.ret (.bool true))/\OldK s₁.heap s'.heap/\s'.os=s₁.os/\AllBare s'.gens) s₁:=by
  intro H hO hS hok hA hK
  have base_of:∀{b:Addr}{o:Obj},s₁.heap.get? b=some o->H b=none->(hidT s₁.heap H).get? b=some o:=fun e n=>hidT_get e n
  have noA:∀{b:Addr}{o:Obj}{es:Array DictEntry}{ep:Nat},s₁.heap.get? b=some o->o.data=.dict es ep->H b=none:=fun{b o es ep} e d=>by
   cases q:H b with
   |none=>rfl
   |some u =>
    have e':b=a:=hA b (by rw[q];simp)
    subst e'
    rw[ha]at e;cases e
    have d':Data.seq vs.toArray _=Data.dict es ep:=d
    cases d'
  have nsK:∀{b:Addr}{m:Str->Option Value},s₁.heap.Ns b m->(hidT s₁.heap H).Ns b m:=fun{b m} ⟨o,es,ep,e,d,r⟩=>⟨o,es,ep,base_of e (noA e d),d,r⟩
  have hKb:K.In (hidT s₁.heap H):=fun b o e=>base_of (KX b o e) (by
   cases q:H b with
   |none=>rfl
   |some u =>
    have e':b=a:=hA b (by rw[q];simp)
    subst e'
    rw[hK (by rw[q];simp)]at e;cases e)
  have hM:Mod K mg (hidT s₁.heap H):=⟨hKb,nsK hns,⟨mb,nsK hb,hbb⟩,let⟨mc,h1,h2⟩:=hlim;⟨mc,nsK h1,h2⟩⟩
  have e0:Env0 P w K mg (hidT s₁.heap H) callerA [] s₁ H:=⟨rfl,hM,fun b o e=>of_hidT e,Nat.le_of_eq (hidT_size _ _),trivial,fun b hb=>absurd (show b∈([]:List Addr)from hb) (by simp),hok,.of_eq hg⟩
  refine codeAny_mono ((F _ hKb (nsK hns)).run callerA [] s₁ H ⟨[.ref a],[]⟩ [.ref a] [.ref a] _ _ hr e0 (hbind s₁ (.ref a)) (.cons rfl .nil) (hsp H hO hS)) fun r s' h=>?_
  cases r with
  |error e=>exact(hCX H e s' h).elim
  |ok fl =>
   cases fl with
   |next=>exact False.elim h
   |brk=>exact False.elim h
   |cont=>exact False.elim h
   |ret u =>
    obtain⟨v,H',os,bare,un,hok',r',q⟩:=h
    have q':v=.bl true:=q
    subst q'
    obtain rfl:u=Value.bool true:=r'
    refine⟨rfl,OldK.of_keep fun b o e=>?_,os,bare⟩
    cases q:H b with
    |none=>exact un.keep b o e q (by intro z;exact absurd (show b∈([]:List Addr)from z) (by simp)) (by simp)
    |some u =>
     rcases hO b with z|⟨ob,xs,z⟩
     ·rw[q]at z;cases z
     ·have z2:=un.frzs b ob _ z
      obtain⟨e1,_⟩:=hok b _ z
      obtain⟨e2,_⟩:=hok' b _ z2
      rw[e]at e1;cases e1
      exact e2
 cases hk:K.lookup a with
 |some o =>
  -- the script is one of the module's own objects
  have e:=KX a o hk
  rw[ha]at e
  cases e
  refine core (fun _=>none) (fun _=>.inl rfl) (.inr ⟨_,vs.toArray,_,hk,rfl,rfl,rfl,by rw[List.size_toArray,lenV];exact hl,by simpa using rv⟩) (fun b u z=>by have z':(none:Option HO)=some u:=z;cases z') (fun b z=>absurd rfl z) fun z=>absurd rfl z
 |none =>
  refine core (fun b=>if b=a then some (.frz {cls:=.type "list",data:=.seq vs.toArray} (.lst (ns.map V.int)))else none) (fun b=>?_) (.inl (.inr ⟨{cls:=.type "list",data:=.seq vs.toArray},if_pos rfl⟩)) (fun b u z=>?_) (fun b z=>?_) fun _=>hk
  ·by_cases hb:b=a
   ·exact .inr ⟨_,_,if_pos hb⟩
   ·exact .inl (if_neg hb)
  ·by_cases hb:b=a
   ·have z':=(if_pos hb).symm.trans z
    cases z'
    subst hb
    exact⟨ha,by rw[List.length_map];exact hl,vs,_,rv,ha⟩
   ·have z':=(if_neg hb).symm.trans z
    cases z'
  ·by_cases hb:b=a
   ·exact hb
   ·exact absurd (if_neg hb) z
theorem walk_of{l:PySem.W.OpenLaw}{n k:Nat}{q:Program}{loose:List Str}{XP:(Str->Option Value)->Heap->Prop}{YP:World->Heap->Prop}{d:DefRec}{K:Params->PySem.W.Frag}{CX:World->CXT}{sp:World->Sp}{x:Str}
  (hn:l.most=some n) (hn2:n<=sizeLine) (hdf:d.params.defaults=[]) (hr:Room k callerA)
  (hY:∀(w:World) (h:Heap),YP w h->(K w.params).In h)
  (F:∀(w:World) (mg:Str->Option Value) (fa:Addr) (h:Heap),(K w.params).In h->h.Ns mainGlobals mg->mg d.name=some (.ref fa) ->
   ∃fd:FuncData,(∀(s:Shared) (u:Value),BindsTo s fd ⟨[u],[]⟩ [(x,u)]) /\
    ∀base:Heap,(K w.params).In base->base.Ns mainGlobals mg->FnOk l.prog w (K w.params) mg base (CX w) k fa fd [x] (sp w))
  (hsp:∀(w:World) (H:Hp) (a:Addr) (ns:List Int),ns.length<=n->Only H->SqL (K w.params) H a (ns.map V.int)->sp w [.ref a] H (fun v _=>v=.bl true) fun _ _ _=>False)
  (hCX:∀(w:World) (H:Hp) (s:Shared) (e:Value) (s':Shared),CX w [] H s (fun _ _ _=>False) e s'->False) :
  PySem.W.WalkO q loose XP YP l.row.toRowW d [] (fun f vs=>PySem.call f vs):=by
 refine Att.attach_call hn hdf fun w s₀ s₁ mg mb fa o pm cd doc a vs ns G Y ho hd hcd hmg hobj hints hlen hg=>?_
 have KX:=hY w _ Y
 obtain⟨fd,hb,hF⟩:=F w mg fa _ KX G.T.g hmg
 exact law_call KX G.T.g G.T.b G.T.builtins G.T.nolimit hg hobj hints (Nat.le_trans hlen hn2) hr hF hb (fun H hO hS=>hsp w H a ns hlen hO hS) fun H e s'=>hCX w H s₁ e s'
def defArgs(s:Stmt):Arguments:=match s with
 |.FunctionDef _ a _ _ _ _ _ _ _ _=>a
 |_=>{posonlyargs:=[],args:=[],vararg:=none,kwonlyargs:=[],kw_defaults:=[],kwarg:=none,defaults:=[]}
def defBody(s:Stmt):List Stmt:=match s with
 |.FunctionDef _ _ b _ _ _ _ _ _ _=>b
 |_=>[]
def defScope(s:Stmt):Scope:=match s with
 |.FunctionDef _ _ _ _ _ _ sc _ _ _=>sc
 |_=>{kind:=.function,names:=[],isGenerator:=false,isCoroutine:=false}
abbrev CX0:CXT:=fun _ _ _ _ _ _=>False
abbrev E0:XK:=fun _ _ _=>False
theorem pass0{X:Cx}:Passes CX0 X E0:=fun _ _ _ _ _ _ _ h=>h.elim
structure Fun(K:PySem.W.Frag) (x qual:Str) (st:Stmt) (f:Addr) (fd:FuncData):Prop where
 ex:∃(oc:Value) (od:Option Addr) (kV doc pm:Value) (an:Option Addr) (cdv ct:Value) (osl:Array (Option Value)),
  fd=PySem.W.fnOf x qual (defArgs st) (defBody st) (defScope st) .none kV doc pm an cdv ct/\K.lookup f=some ⟨oc,od,.func fd,osl⟩/\PySem.W.codeIn K cdv qual=true
 kp:PySem.W.keepIn K (.ref f)=true
section
variable {P:Program}{w:World}{K:PySem.W.Frag}{mg:Str->Option Value}{base:Heap}
theorem Fun.ok{x qual:Str}{st:Stmt}{f:Addr}{fd:FuncData}{N ps:List Str}{k:Nat}{sp:Sp}(F:Fun K x qual st f fd)(S:FnScope N ps (defScope st))(len:∀vs H Q E,sp vs H Q E->vs.length=ps.length)
  (hbody:∀(cdv:Value) (A:Around) (outer:List Env) (s:Shared) (H:Hp) (vs:List V) (Q:VK) (E:XK),Room k (A.deeper (envOfC qual (defScope st) s.heap.objs.size f cdv))->sp vs H Q E ->
   ∃t,PSs (cxOf CX0 P w K mg base N qual (defScope st) f cdv A outer s H E).nox (defBody st) t/\t {nx:=fun _ H'=>Q .non H',rt:=Q} (start N vs) H):FnOk P w K mg base CX0 (k+1) f fd ps sp:=by
 obtain⟨oc,od,kV,doc,pm,an,cdv,ct,osl,rfl,lk,hcd⟩:=F.ex
 refine fn_of lk hcd S len fun A outer s H vs Q E hr hsp=>?_
 obtain⟨t,h,q⟩:=hbody cdv A outer s H vs Q E hr hsp
 exact⟨t,h.nox,q⟩
theorem Fun.binds{x qual:Str}{st:Stmt}{f:Addr}{fd:FuncData}{ps:List Str}(F:Fun K x qual st f fd)
  (h:∀(kV doc pm:Value) (an:Option Addr) (cdv ct:Value) (us:List Value),us.length=ps.length->bindArgs (PySem.W.fnOf x qual (defArgs st) (defBody st) (defScope st) .none kV doc pm an cdv ct) ⟨us,[]⟩=pure (ps.zip us)):Binds K fd ps []:=by
 obtain⟨oc,od,kV,doc,pm,an,cdv,ct,osl,rfl,lk,hcd⟩:=F.ex
 exact .all (h kV doc pm an cdv ct)
end
theorem hu_of{A:Around}{k:Nat}(hr:Room k A):A.units+1<cLine:=Nat.lt_of_le_of_lt (Nat.add_le_add_left (by decide:1<=64) _) hr.units
theorem small1000{n:Nat}(h:n<=1000):n<sizeLine:=Nat.lt_of_le_of_lt h (by decide)
section
variable {X:Cx}
theorem pv(i:Nat){x:Str}{pos:Pos}(hN:X.N[i]?=some x:=by rfl)(hv:Vis X.env.scope x:=by first|exact Or.inl rfl|exact Or.inr (Or.inl rfl)|exact Or.inr (Or.inr rfl))(hd:(x == ("__debug__":Str))=false:=by decide)
  (hcd:(x == ("__classdict__":Str))=false:=by decide):PE X (.Name x pos) (tVar i):=pe_var hN hv hd hcd
end
theorem ite2{c A B:Prop}[Decidable c](h1:c->A)(h2:¬c->B):if c then A else B:=by
 by_cases h:c
 ·rw[if_pos h]
  exact h1 h
 ·rw[if_neg h]
  exact h2 h
def Same(H H':Hp):Prop:=∀b o,H b=some o->H' b=some o
theorem Same.refl(H:Hp):Same H H:=fun _ _ h=>h
theorem Same.trans{H H1 H2:Hp}(a:Same H H1)(b:Same H1 H2):Same H H2:=fun c o h=>b c o (a c o h)
theorem Same.free{H H':Hp}(e:Same H H'){l:Addr}(h:H' l=Option.none):H l=Option.none:=by
 cases q:H l with
 |none=>rfl
 |some o =>
  rw[e l o q]at h
  cases h
theorem Same.seq{K:PySem.W.Frag}{H H':Hp}{a:Addr}{xs:List V}(e:Same H H')(h:SqL K H a xs):SqL K H' a xs:=by
 rcases h with(h|⟨o,h⟩)|h
 ·exact .inl (.inl (e _ _ h))
 ·exact .inl (.inr ⟨o,e _ _ h⟩)
 ·exact .inr h
section
variable {κ:Type} [DecidableEq κ]
def valV(kvs:List (κ×V))(k:κ):Option V:=(kvs.find? fun kv=>decide (kv.1=k)).map (·.2)
def putK(kvs:List (κ×V))(k:κ)(v:V):List (κ×V) :=
 if(kvs.any fun kv=>decide (kv.1=k))=true then kvs.map (fun kv=>if kv.1=k then(kv.1,v)else kv)else kvs++[(k,v)]
theorem valV_pos{p:κ×V}{r:List (κ×V)}{k:κ}(e:p.1=k):valV (p::r) k=some p.2:=by simp[valV,List.find?_cons,e]
theorem valV_neg{p:κ×V}{r:List (κ×V)}{k:κ}(e:¬p.1=k):valV (p::r) k=valV r k:=by simp[valV,List.find?_cons,e]
theorem valV_any(k:κ):∀kvs:List (κ×V),(kvs.any fun kv=>decide (kv.1=k))=(valV kvs k).isSome
 | []=>rfl
 |p::r=>by
  rw[List.any_cons]
  by_cases e:p.1=k
  ·simp only[valV_pos e,decide_eq_true e,Bool.true_or,Option.isSome_some]
  ·rw[valV_neg e,decide_eq_false e,Bool.false_or];exact valV_any k r
theorem length_putK(kvs:List (κ×V))(k:κ)(v:V):(putK kvs k v).length<=kvs.length+1:=by
 unfold putK
 split
 ·rw[List.length_map];omega
 ·rw[List.length_append,List.length_cons,List.length_nil];omega
theorem RelO.isSome_eq{o:Option V}{u:Option Value}(r:RelO o u):o.isSome=u.isSome:=by
 cases o with
 |none=>cases u with
  |none=>rfl
  |some _=>exact(show False from r).elim
 |some _=>cases u with
  |none=>exact(show False from r).elim
  |some _=>rfl
theorem KV.val{kvs:List (κ×V)}{vs:List (κ×Value)}(r:KV kvs vs)(k:κ):RelO (valV kvs k) (valueAt vs k):=by
 unfold KV at r
 induction r with
 |nil=>exact True.intro
 |@cons p q ps qs h t ih =>
  obtain⟨h1,h2⟩:=h
  by_cases e:p.1=k
  ·have e':q.1=k:=h1.symm.trans e
   have b:valueAt (q::qs) k=some q.2:=by simp[valueAt,List.find?_cons,e']
   rw[valV_pos e,b];exact h2
  ·have e':¬q.1=k:=fun z=>e (h1.trans z)
   have b:valueAt (q::qs) k=valueAt qs k:=by simp[valueAt,List.find?_cons,e']
   rw[valV_neg e,b];exact ih
theorem KV.any{kvs:List (κ×V)}{vs:List (κ×Value)}(r:KV kvs vs)(k:κ):(kvs.any fun kv=>decide (kv.1=k))=vs.any fun kv=>decide (kv.1=k):=by
 unfold KV at r
 induction r with
 |nil=>rfl
 |cons h t ih=>rw[List.any_cons,List.any_cons,ih,h.1]
theorem KV.repl{kvs:List (κ×V)}{vs:List (κ×Value)}(r:KV kvs vs)(k:κ){y:V}{u:Value}(ry:RelV y u) :
  KV (kvs.map fun kv=>if kv.1=k then(kv.1,y)else kv) (vs.map fun kv=>if kv.1=k then(kv.1,u)else kv):=by
 unfold KV at r⊢
 induction r with
 |nil=>exact .nil
 |@cons p q ps qs h t ih =>
  rw[List.map_cons,List.map_cons]
  refine .cons ?_ ih
  obtain⟨h1,h2⟩:=h
  by_cases e:p.1=k
  ·rw[if_pos e,if_pos (h1.symm.trans e)];exact⟨h1,ry⟩
  ·rw[if_neg e,if_neg (fun z=>e (h1.trans z))];exact⟨h1,h2⟩
theorem KV.put{kvs:List (κ×V)}{vs:List (κ×Value)}(r:KV kvs vs)(k:κ){y:V}{u:Value}(ry:RelV y u):KV (putK kvs k y) (stored vs k u):=by
 unfold putK stored
 rw[r.any k]
 by_cases e:(vs.any fun kv=>decide (kv.1=k))=true
 ·rw[if_pos e,if_pos e];exact r.repl k ry
 ·rw[if_neg e,if_neg e];exact Paired.snoc r ⟨rfl,ry⟩
theorem KV.length{kvs:List (κ×V)}{vs:List (κ×Value)}(r:KV kvs vs):kvs.length=vs.length:=Paired.length r
end
theorem kV_is{P:Program}{w:World}{k:Key}{u:Value}(r:RelV (kV k) u):(mixKind P w).is k u=true:=by
 cases k with
 |inl i=>obtain⟨t,e⟩:=(show ∃t,u=Value.int i t from r);subst e;exact mixKind_int P w i t
 |inr x=>obtain⟨t,e⟩:=(show ∃t,u=Value.str x t from r);subst e;exact mixKind_str P w x t
theorem items_are{P:Program}{w:World}:∀{ks:List Key}{us:List Value},Vals (ks.map kV) us->ItemsAre (mixKind P w) ks us
 | [],_,r=>by rw[List.map_nil]at r;cases r;exact .nil
 |k::ks,_,r=>by
  rw[List.map_cons]at r
  cases r with
  |cons h t=>exact .cons (kV_is h) (items_are t)
abbrev KT(H:Hp):List (List Key×V)->List (List Key×Addr×Value)->Prop:=Paired fun p q=>p.1=q.1/\H q.2.1=some (.tup (p.1.map kV))/\RelV p.2 q.2.2
theorem KT.val{H:Hp}{kvs:List (List Key×V)}{xs:List (List Key×Addr×Value)}(r:KT H kvs xs)(k:List Key):RelO (valV kvs k) ((atKey xs k).map (·.2)):=by
 induction r with
 |nil=>exact True.intro
 |@cons p q ps qs h t ih =>
  obtain⟨h1,_,h2⟩:=h
  by_cases e:p.1=k
  ·have e':q.1=k:=h1.symm.trans e
   have b:atKey (q::qs) k=some q.2:=by simp[atKey,List.find?_cons,e']
   rw[valV_pos e,b];exact h2
  ·have e':¬q.1=k:=fun z=>e (h1.trans z)
   have b:atKey (q::qs) k=atKey qs k:=by simp[atKey,List.find?_cons,e']
   rw[valV_neg e,b];exact ih
theorem KT.repl{H:Hp}{kvs:List (List Key×V)}{xs:List (List Key×Addr×Value)}(r:KT H kvs xs)(k:List Key){y:V}{u:Value}(ry:RelV y u) :
  KT H (kvs.map fun kv=>if kv.1=k then(kv.1,y)else kv) (xs.map (putAt k u)):=by
 induction r with
 |nil=>exact .nil
 |@cons p q ps qs h t ih =>
  rw[List.map_cons,List.map_cons]
  refine .cons ?_ ih
  obtain⟨h1,h2,h3⟩:=h
  unfold putAt
  by_cases e:p.1=k
  ·rw[if_pos e,if_pos (h1.symm.trans e)];exact⟨h1,h2,ry⟩
  ·rw[if_neg e,if_neg (fun z=>e (h1.trans z))];exact⟨h1,h2,h3⟩
theorem KT.put{H:Hp}{kvs:List (List Key×V)}{xs:List (List Key×Addr×Value)}(r:KT H kvs xs)(k:List Key){b:Addr}{y:V}{u:Value}(hb:H b=some (.tup (k.map kV)))(ry:RelV y u) :
  KT H (putK kvs k y) (storedH xs k b u):=by
 have e:(kvs.any fun kv=>decide (kv.1=k))=(atKey xs k).isSome:=by
  rw[valV_any,(r.val k).isSome_eq,Option.isSome_map]
 unfold putK storedH
 rw[e]
 by_cases q:(atKey xs k).isSome=true
 ·rw[if_pos q,if_pos q];exact r.repl k ry
 ·rw[if_neg q,if_neg q];exact Paired.snoc r ⟨rfl,hb,ry⟩
theorem KT.keeps{H H':Hp}{kvs:List (List Key×V)}{xs:List (List Key×Addr×Value)}(r:KT H kvs xs)(ht:∀b ys,H b=some (.tup ys)->H' b=some (.tup ys)):KT H' kvs xs :=
 Paired.mapP r fun _ _ z=>⟨z.1,ht _ _ z.2.1,z.2.2⟩
section
variable {P:Program}{w:World}{H:Hp}{h:Heap}{a:Addr}
theorem rd_of{u:HO}(ok:HOk P w H h)(e:Rd H a u):ObjOk P w H h a u:=e.ok ok
theorem dk_rd{kvs:List (Key×V)}(ok:HOk P w H h)(e:Rd H a (.dK kvs)):kvs.length<=sizeLine/\(a == sysModules)=false/\∃vs,KV kvs vs/\h.DictOf (mixKind P w) a vs :=
 show ObjOk P w H h a (.dK kvs)from rd_of ok e
theorem dk_of{kvs:List (Key×V)}(ok:HOk P w H h)(e:H a=some (.dK kvs)):kvs.length<=sizeLine/\(a == sysModules)=false/\∃vs,KV kvs vs/\h.DictOf (mixKind P w) a vs:=dk_rd ok (.inl e)
theorem key_of{ks:List Key}(ok:HOk P w H h)(e:H a=some (.tup (ks.map kV))):(tupleKind (mixKind P w)).is h ks a:=by
 obtain⟨_,its,r,⟨o,h1,h2,n,h3⟩,_⟩:=(show ObjOk P w H h a (.tup (ks.map kV))from ok a _ e)
 exact⟨o,its.toArray,n,h1,h2,h3,by simpa using items_are r⟩
theorem dt_rd{kvs:List (List Key×V)}(ok:HOk P w H h)(e:Rd H a (.dT kvs)):kvs.length<=sizeLine/\(a == sysModules)=false /\
  ∃xs,KT H kvs xs/\h.DictOfH (tupleKind (mixKind P w)) a xs:=by
 obtain⟨z,y,xs,r,o,es,ep,h1,h2,h3,h4,h5⟩:=(show ObjOk P w H h a (.dT kvs)from rd_of ok e)
 refine⟨z,y,xs,r,o,es,ep,h1,h2,h3,h4,fun x hx=>?_,h5⟩
 have all:∀{l:List (List Key×V)}{m:List (List Key×Addr×Value)},KT H l m->∀x∈m,(tupleKind (mixKind P w)).is h x.1 x.2.1:=by
  intro l m q
  induction q with
  |nil=>intro x hx;exact nomatch hx
  |@cons p q ps qs hq t ih =>
   intro x hx
   rcases List.mem_cons.mp hx with e|hx
   ·subst e
    exact key_of ok (by rw[←hq.1];exact hq.2.1)
   ·exact ih x hx
 exact all r x hx
theorem dt_of{kvs:List (List Key×V)}(ok:HOk P w H h)(e:H a=some (.dT kvs)):kvs.length<=sizeLine/\(a == sysModules)=false /\
  ∃xs,KT H kvs xs/\h.DictOfH (tupleKind (mixKind P w)) a xs:=dt_rd ok (.inl e)
end
def DGet(H:Hp)(a:Addr)(y:V)(r:Option V):Prop :=
 (∃kvs k,Rd H a (.dK kvs)/\y=kV k/\r=valV kvs k)\/∃kvs k b,Rd H a (.dT kvs)/\y=.ref b/\H b=some (.tup (k.map kV))/\r=valV kvs k
def DPut(H:Hp)(a:Addr)(y v:V)(H':Hp):Prop :=
 (∃kvs k,H a=some (.dK kvs)/\y=kV k/\kvs.length<sizeLine/\H'=upd H a (.dK (putK kvs k v))) \/
 ∃kvs k b,H a=some (.dT kvs)/\y=.ref b/\H b=some (.tup (k.map kV))/\kvs.length<sizeLine/\H'=upd H a (.dT (putK kvs k v))
theorem DGet.k{H:Hp}{a:Addr}{kvs:List (Key×V)}{k:Key}(e:H a=some (.dK kvs)):DGet H a (kV k) (valV kvs k):=.inl ⟨kvs,k,.inl e,rfl,rfl⟩
theorem DGet.t{H:Hp}{a b:Addr}{kvs:List (List Key×V)}{k:List Key}(e:H a=some (.dT kvs))(eb:H b=some (.tup (k.map kV))):DGet H a (.ref b) (valV kvs k):=.inr ⟨kvs,k,b,.inl e,rfl,eb,rfl⟩
theorem DPut.k{H:Hp}{a:Addr}{kvs:List (Key×V)}{k:Key}{v:V}(e:H a=some (.dK kvs))(hl:kvs.length<sizeLine):DPut H a (kV k) v (upd H a (.dK (putK kvs k v))):=.inl ⟨kvs,k,e,rfl,hl,rfl⟩
theorem DPut.t{H:Hp}{a b:Addr}{kvs:List (List Key×V)}{k:List Key}{v:V}(e:H a=some (.dT kvs))(eb:H b=some (.tup (k.map kV)))(hl:kvs.length<sizeLine) :
  DPut H a (.ref b) v (upd H a (.dT (putK kvs k v))):=.inr ⟨kvs,k,b,e,rfl,eb,hl,rfl⟩
section
variable {X:Cx}{pins:List (Addr×Obj)}{σ:St}{H:Hp}{s:Shared}{a:Addr}{y v:V}{u r:Value}{o:Option V}{A:Around}{E:Value->Shared->Prop}
theorem Inv.big(I:Inv X pins σ H s):sysModules<s.heap.objs.size:=by
 have h:mainGlobals<s.heap.objs.size:=(I.mod.glob.keeps I.bk).lt
 exact Nat.lt_trans (by decide) h
theorem d_getItem{Q:Value->Shared->Prop}(hu:A.units+1<cLine)(I:Inv X pins σ H s)(g:DGet H a y (some v))(ry:RelV y u)(h:∀w' s',Inv X pins σ H s'->RelV v w'->Q w' s') :
  wpAny (model X.prog X.w) A (getItem (.ref a) u) Q E s:=by
 rcases g with⟨kvs,k,e,ey,l⟩|⟨kvs,k,b,e,ey,eb,l⟩
 ·subst ey
  obtain⟨z,hd,vs,rel,dd⟩:=dk_rd I.hok e
  obtain⟨w',hw,rw'⟩:=RelO.some_of (v:=v) (o:=valueAt vs k) (by rw[l];exact rel.val k)
  exact wpAny_getItem_of (kV_is ry) dd.mapOf hw (h w' _ (I.tok _) rw')
 ·subst ey
  cases(show u=Value.ref b from ry)
  obtain⟨z,hd,xs,rel,dd⟩:=dt_rd I.hok e
  obtain⟨w',hw,rw'⟩:=RelO.some_of (v:=v) (o:=(atKey xs k).map (·.2)) (by rw[l];exact rel.val k)
  obtain⟨p,hp,hp2⟩:=Option.map_eq_some_iff.mp hw
  refine wpAny_getItem_heap (tupleKind_room_in1 hu) (key_of I.hok eb) dd hp ?_
  rw[hp2]
  exact h w' _ (I.tok _) rw'
theorem d_write{h':Heap}{t':Nat}{ob:HO}(I:Inv X pins σ H s)(mu:Mut (H a))(hs:Heap.SameBut a s.heap h')(he:∃q,h'.get? a=some q)(new:ObjOk X.prog X.w (upd H a ob) h' a ob) :
  Inv X pins σ (upd H a ob) {s with heap:=h',toks:=t'} :=
 I.write (x:=a) (e:=a) mu (.inl rfl) (fun b q hb z=>(hs.2 b hb).trans z) he new
theorem dk_new{P:Program}{w:World}{H':Hp}{h':Heap}{kvs:List (Key×V)}{vs:List (Key×Value)}(z:kvs.length<=sizeLine)(hd:(a == sysModules)=false)(rel:KV kvs vs)(dd:h'.DictOf (mixKind P w) a vs) :
  ObjOk P w H' h' a (.dK kvs):=⟨z,hd,vs,rel,dd⟩
theorem d_setItem{H':Hp}{Q:Unit->Shared->Prop}(hu:A.units+1<cLine)(I:Inv X pins σ H s)(g:DPut H a y v H')(ry:RelV y u)(rv:RelV v r)(h:∀s',Inv X pins σ H' s'->Q () s') :
  wpAny (model X.prog X.w) A (setItem (.ref a) u r) Q E s:=by
 rcases g with⟨kvs,k,e,ey,l,eH⟩|⟨kvs,k,b,e,ey,eb,l,eH⟩
 ·subst ey eH
  obtain⟨z,hd,vs,rel,dd⟩:=dk_of I.hok e
  have hz:vs.length<=sizeLine:=by rw[←rel.length];exact z
  have hl:(putK kvs k v).length<=sizeLine:=by have:=length_putK kvs k v;omega
  refine wpAny_setItem_pairs (hsz:=hz) (kV_is ry) dd fun h' dd' hs=>h _ ?_
  have he:∃q,h'.get? a=some q:=let⟨q,_,_,hq,_⟩:=dd';⟨q,hq⟩
  exact d_write I (by rw[e];exact True.intro) hs he (dk_new hl hd (rel.put k rv) dd')
 ·subst ey eH
  cases(show u=Value.ref b from ry)
  obtain⟨z,hd,xs,rel,dd⟩:=dt_of I.hok e
  have hz:xs.length<=sizeLine:=by rw[←Paired.length rel];exact z
  have hl:(putK kvs k v).length<=sizeLine:=by have:=length_putK kvs k v;omega
  refine wpAny_setItem_heap (hsz:=hz) (tupleKind_room_in1 hu) (key_of I.hok eb) dd fun h' dd' hs=>h _ ?_
  obtain⟨q,es,ep,hq,h2,h3,h4,_,h5⟩:=dd'
  refine d_write I (by rw[e];exact True.intro) hs ⟨q,hq⟩ ⟨hl,hd,_,(rel.put k eb rv).keeps fun c ys ec=>?_,q,es,ep,hq,h2,h3,h4,h5⟩
  rw[upd_ne (ne_of ec e (fun z=>nomatch z))]
  exact ec
end
section
variable {X:Cx}{pins:List (Addr×Obj)}{σ:St}{H:Hp}{s:Shared}{a:Addr}{kvs:List (Key×V)}{k:Key}{u:Value}{A:Around}{E:Value->Shared->Prop}
end
def NoSl(i:Expr):Prop:=∀ov iv,subscripted i false ov iv=operate [ov,iv] (getItem ov iv)
theorem subD_of{prog:Program}{w:World}{A:Around}{E:Value->Shared->Prop}{s:Shared}{env:Env}{value slice:Expr}{pos:Pos}{T id:String}{Q:Value->Shared->Prop}
  (hl:typeLookup (.type T) "__getitem__"=pure (some (.builtin id))) (hs:NoSl slice)
  (h:wpAny (model prog w) A (eval value env) (fun o s₁=>wpAny (model prog w) A (eval slice env) (fun i s₂=>s₂.TypeIs o T/\wpAny (model prog w) A (getItem o i) Q E s₂) E s₁) E s) :
  wpAny (model prog w) A (eval (.Subscript value slice pos) env) Q E s:=by
 refine Subscript_ (wpAny_mono h (fun o s₁ h₁=>wpAny_mono h₁ (fun i s₂ h₂=>?_) fun _ _ x=>x) fun _ _ x=>x)
 obtain⟨hT,h₂⟩:=h₂
 unfold subscriptTail
 refine wpAny_bind ?_
 rw[getitemInPython_of_ne hT.not_modules]
 refine wpAny_bind (wpAny_specialOf hT hl ?_)
 have fin:wpAny (model prog w) A (subscripted slice false o i) (fun r s₃=>wpAny (model prog w) A (letTemporaryGo value o r>>=fun _=>pure r) Q E s₃) E s₂:=by
  rw[hs o i]
  exact wpAny_operating (wpAny_mono h₂ (fun r s₃ h₃=>wpAny_bind (wpAny_letTemporaryGo (wpAny_pure h₃))) fun _ _ x=>x)
 first
  |exact wpAny_pure (wpAny_bind fin)
  |exact wpAny_bind (wpAny_pure (wpAny_bind fin))
  |exact wpAny_bind fin
theorem dict_typeIs{X:Cx}{pins:List (Addr×Obj)}{σ:St}{H:Hp}{s:Shared}{a:Addr}{y:V}{o:Option V}(I:Inv X pins σ H s)(g:DGet H a y o):s.TypeIs (.ref a) "dict":=by
 rcases g with⟨kvs,k,e,_,_⟩|⟨kvs,k,b,e,_,_,_⟩
 ·obtain⟨_,_,vs,_,dd⟩:=dk_rd I.hok e
  exact dd.typeIs
 ·obtain⟨_,_,xs,_,dd⟩:=dt_rd I.hok e
  exact dd.typeIs
def tDGet(td ty:TE):TE:=fun σ H Q=>td σ H fun x H1=>ty σ H1 fun y H2=>∃a v,x=.ref a/\DGet H2 a y (some v)/\Q v H2
def sDPut(td ty tv:TE):TS:=fun D σ H=>tv σ H fun v H1=>td σ H1 fun x H2=>ty σ H2 fun y H3=>∃a H4,x=.ref a/\DPut H3 a y v H4/\D.nx σ H4
section
variable {X:Cx}{o i e value:Expr}{pos pos' tpos:Pos}{td ty tv:TE}
theorem pe_dget(hu:X.A.units+1<cLine)(ho:PE X o td)(hi:PE X i ty)(hs:NoSl i):PE X (.Subscript o i pos) (tDGet td ty):=by
 intro pins s σ H Q I h
 refine subD_of PySem.F.slot_dict_getitem.lookup hs (thn (ho pins s σ H _ I h) fun u s1 ⟨x,H1,I1,rx,q1⟩=>thn (hi pins s1 σ H1 _ I1 q1) fun iv s2 ⟨y,H2,I2,ry,a,v,ex,g,q2⟩=>?_)
 subst ex
 obtain rfl:u=Value.ref a:=rx
 exact⟨dict_typeIs I2 g,d_getItem hu I2 g ry fun w' s3 I3 rw'=>⟨v,H2,I3,rw',q2⟩⟩
theorem ps_dput(hu:X.A.units+1<cLine)(ho:PE X o td)(hi:PE X i ty)(hv:PE X value tv)(hs:swapsWith value (some (.Subscript o i pos')) pos.line X.env=pure false) :
  PS X (.Assign [.Subscript o i pos'] value pos) (sDPut td ty tv):=by
 intro pins s σ H D I h
 refine wpAny_Assign_Subscript (thn (hv pins s σ H _ I h) fun r s1 ⟨v,H1,I1,rv,q1⟩=>thn (ho pins s1 σ H1 _ I1 q1) fun u s2 ⟨x,H2,I2,rx,q2⟩=>thn (hi pins s2 σ H2 _ I2 q2) fun iv s3 ⟨y,H3,I3,ry,a,H4,ex,g,q3⟩=>?_) hs
 subst ex
 obtain rfl:u=Value.ref a:=rx
 exact d_setItem hu I3 g ry rv fun s4 I4=>⟨σ,H4,I4,q3⟩
end
theorem dk_empty{P:Program}{w:World}{H:Hp}(h:Heap)(hb:sysModules<h.objs.size):ObjOk P w H (h.push {cls:=.type "dict",data:=.dict #[]}) h.objs.size (.dK []) :=
 ⟨Nat.zero_le _,beq_eq_false_iff_ne.mpr (Ne.symm (Nat.ne_of_lt hb)),[],.nil,Heap.DictOf.new h⟩
section
variable {X:Cx}{pos:Pos}
end
def tPairs:List (TE×TE)->St->Hp->(List (V×V)->Hp->Prop)->Prop
 | [],_,H,Q=>Q [] H
 |(tk,tv)::r,σ,H,Q=>tk σ H fun x H1=>tv σ H1 fun y H2=>tPairs r σ H2 fun ps H3=>Q ((x,y)::ps) H3
abbrev VV:List (V×V)->List (Value×Value)->Prop:=Paired fun p q=>RelV p.1 q.1/\RelV p.2 q.2
def PPs(X:Cx)(pos:Pos)(keys:List (Option Expr))(values:List Expr)(trs:List (TE×TE)):Prop :=
 ∀(pins:List (Addr×Obj)) (s:Shared) (σ:St) (H:Hp) (Q:List (V×V)->Hp->Prop),Inv X pins σ H s->tPairs trs σ H Q ->
  wpAny (model X.prog X.w) X.A (evalPairs (pairTrees keys values X.env pos)) (fun vs s'=>∃ps H',Inv X pins σ H' s'/\VV ps vs/\Q ps H') X.xe s
theorem pps_nil{X:Cx}{pos:Pos}:PPs X pos [] [] []:=fun pins s σ H Q I h=>pairTrees_nil_walk ⟨[],H,I,.nil,h⟩
theorem pps_cons{X:Cx}{pos:Pos}{k v:Expr}{ks:List (Option Expr)}{vs:List Expr}{tk tv:TE}{trs:List (TE×TE)}(hk:PE X k tk)(hv:PE X v tv)(hr:PPs X pos ks vs trs) :
  PPs X pos (some k::ks) (v::vs) ((tk,tv)::trs):=fun pins s σ H Q I h =>
 pairTrees_cons_walk (thn (hk pins s σ H _ I h) fun u s1 ⟨x,H1,I1,rx,q1⟩=>thn (hv pins s1 σ H1 _ I1 q1) fun w2 s2 ⟨y,H2,I2,ry,q2⟩ =>
  thn (hr pins s2 σ H2 _ I2 q2) fun ws s3 ⟨ps,H3,I3,rel,q3⟩=>⟨(x,y)::ps,H3,I3,.cons ⟨rx,ry⟩ rel,q3⟩)
def mergeK(kvs more:List (Key×V)):List (Key×V):=more.foldl (fun acc kv=>putK acc kv.1 kv.2) kvs
theorem KV.merge:∀{more:List (Key×V)}{rs:List (Key×Value)}{kvs:List (Key×V)}{vs:List (Key×Value)},KV more rs->KV kvs vs->KV (mergeK kvs more) (merged vs rs):=by
 intro more rs kvs vs r
 unfold KV at r
 induction r generalizing kvs vs with
 |nil=>intro q;exact q
 |@cons p q ps qs h t ih =>
  intro r0
  have e:KV (putK kvs p.1 p.2) (stored vs q.1 q.2):=by
   have:=r0.put p.1 h.2
   rw[←h.1];exact this
  exact ih e
theorem length_mergeK:∀(more kvs:List (Key×V)),(mergeK kvs more).length<=kvs.length+more.length
 | [],kvs=>by show kvs.length<=kvs.length+0;omega
 |p::r,kvs=>by
  have h1:=length_mergeK r (putK kvs p.1 p.2)
  have h2:=length_putK kvs p.1 p.2
  show(mergeK (putK kvs p.1 p.2) r).length<=_
  rw[List.length_cons];omega
theorem carries_of{P:Program}{w:World}:∀{kvs:List (Key×V)}{ws:List (Value×Value)},VV (kvs.map fun kv=>(kV kv.1,kv.2)) ws->∃rs,Carries (mixKind P w) ws rs/\KV kvs rs
 | [],_,r=>by rw[List.map_nil]at r;cases r;exact⟨[],True.intro,.nil⟩
 |p::kvs,_,r=>by
  rw[List.map_cons]at r
  cases r with
  |@cons a b as bs h t =>
   obtain⟨rs,c,q⟩:=carries_of (P:=P) (w:=w) t
   obtain⟨b1,b2⟩:=b
   exact⟨(p.1,b2)::rs,⟨kV_is h.1,rfl,c⟩,.cons ⟨rfl,h.2⟩ q⟩
def tDisp(trs:List (TE×TE)):TE:=fun σ H Q=>∀p,H p=none->tPairs trs σ (upd H p (.dK [])) fun ps H2=>H2 p=some (.dK [])/\∃kvs:List (Key×V),ps=kvs.map (fun kv=>(kV kv.1,kv.2))/\kvs.length<=15/\Q (.ref p) (upd H2 p (.dK (mergeK [] kvs)))
theorem pe_disp{X:Cx}{pos:Pos}{keys:List (Option Expr)}{values:List Expr}{trs:List (TE×TE)}(h:PPs X pos keys values trs)(hall:keys.all (·.isSome)=true)(hl:keys.length=values.length)(h0:keys≠[])
  (h15:keys.length<=15):PE X (.Dict keys values pos) (tDisp trs):=by
 intro pins s σ H Q I q
 have hn:=I.hok.fresh (Nat.le_refl s.heap.objs.size)
 have I1:=I.laid (a:=s.heap.objs.size) (o:=.dK []) (h':=s.heap.push {cls:=.type "dict",data:=.dict #[]}) (t':=s.toks) (fun _ _ q=>Heap.get?_push_of_some _ q) (Nat.le_refl _) (dk_empty s.heap I.big)
 refine wpAny_Dict_walk (knd:=mixKind X.prog X.w) hall hl h0 h15 (thn (h pins _ σ _ _ I1 (q _ hn)) fun ws s2 ⟨ps,H2,I2,rel,e,kvs,ep,lk,q2⟩=>?_)
 subst ep
 obtain⟨rs,c,rk⟩:=carries_of (P:=X.prog) (w:=X.w) rel
 obtain⟨z,hd,vs0,r0,dd⟩:=dk_of I2.hok e
 cases r0
 refine⟨rs,c,dd,fun h' dd' hs=>⟨.ref s.heap.objs.size,_,?_,rfl,q2⟩⟩
 have hz:(mergeK [] kvs).length<=sizeLine:=by
  have h1:=length_mergeK kvs []
  rw[List.length_nil]at h1
  rw[sizeLine_eq];omega
 have he:∃q,h'.get? s.heap.objs.size=some q:=let⟨q,_,_,hq,_⟩:=dd';⟨q,hq⟩
 exact d_write I2 (by rw[e];exact True.intro) hs he (dk_new hz hd (rk.merge .nil) dd')
section
variable {X:Cx}{pins:List (Addr×Obj)}{σ:St}{H:Hp}{s:Shared}{a:Addr}{y d:V}{u r:Value}{o:Option V}{A:Around}{E:Value->Shared->Prop}
end
section
variable {X:Cx}{o e f:Expr}{apos cpos:Pos}{td ty tx:TE}
end
section
variable {X:Cx}{pins:List (Addr×Obj)}{σ:St}{H:Hp}{s:Shared}{a:Addr}{kvs:List (Key×V)}{A:Around}{E:Value->Shared->Prop}
end
section
variable {X:Cx}{pins:List (Addr×Obj)}{σ:St}{H:Hp}{s:Shared}{a:Addr}{y:V}{u:Value}{A:Around}{E:Value->Shared->Prop}
end
end L2
set_option maxHeartbeats 4000000
namespace L2
open PySem
inductive T where
 |s (x:Str)|i (n:Int)|n|t (xs:List T)
theorem T.induct{P:T->Prop}(hs:∀x,P (.s x))(hi:∀n,P (.i n))(hn:P .n)(ht:∀xs,(∀x∈xs,P x)->P (.t xs))(a:T):P a :=
 T.rec (motive_1:=P) (motive_2:=fun xs=>∀x∈xs,P x) hs hi hn ht (fun _ h=>nomatch h) (fun _ _ h1 h2 y hy=>by
  cases hy with
  |head=>exact h1
  |tail _ h=>exact h2 y h) a
mutual
def T.dep:T->Nat
 |.t xs=>T.deps xs+1
 |_=>0
def T.deps:List T->Nat
 | []=>0
 |x::r=>max x.dep (T.deps r)
end
theorem T.deps_mem{xs:List T}{x:T}(h:x∈xs):x.dep<=T.deps xs:=by
 induction xs with
 |nil=>cases h
 |cons y r ih =>
  unfold T.deps
  cases h with
  |head=>exact Nat.le_max_left _ _
  |tail _ h=>exact Nat.le_trans (ih h) (Nat.le_max_right _ _)
theorem T.deps_le{xs:List T}{n:Nat}(h:∀x∈xs,x.dep<=n):T.deps xs<=n:=by
 induction xs with
 |nil=>exact Nat.zero_le _
 |cons y r ih =>
  unfold T.deps
  exact Nat.max_le.mpr ⟨h y (.head _),ih fun x hx=>h x (.tail _ hx)⟩
theorem T.dep_t{xs:List T}{n:Nat}(h:∀x∈xs,x.dep<=n):(T.t xs).dep<=n+1:=by
 unfold T.dep
 exact Nat.succ_le_succ (T.deps_le h)
end L2
namespace L2
open PySem
inductive Hd where
 |num (n:Int)|name (x:Str)|gap (n:Int)|op (s:Str)|row|more|first|others|long|tag (t:Str)|call (f:Str)|mat (arms:List (Str×List Str))|ife|lt (x:Str)|fold (x y:Str)
inductive Tm where
 |mk (h:Hd) (ks:List Tm)
def Tm.hd:Tm->Hd|.mk h _=>h
def Tm.ks:Tm->List Tm|.mk _ ks=>ks
theorem Tm.induct{P:Tm->Prop}(hm:∀h ks,(∀k∈ks,P k)->P (.mk h ks))(a:Tm):P a :=
 Tm.rec (motive_1:=P) (motive_2:=fun xs=>∀x∈xs,P x) hm (fun _ h=>nomatch h) (fun _ _ h1 h2 y hy=>by
  cases hy with
  |head=>exact h1
  |tail _ h=>exact h2 y h) a
def arOk:Hd->Nat->Bool
 |.num _,n=>n == 0
 |.name _,n=>n == 0
 |.gap _,n=>n == 0
 |.op _,n=>n == 2
 |.row,_=>true
 |.more,n=>n == 2
 |.first,n=>n == 1
 |.others,n=>n == 1
 |.long,n=>n == 1
 |.tag _,_=>true
 |.call _,_=>true
 |.mat arms,n=>n == arms.length+1
 |.ife,n=>n == 3
 |.lt _,n=>n == 2
 |.fold _ _,n=>n == 3
def armT(a:Str×List Str)(k:T):T:=.t [.s a.1,.t (a.2.map .s),k]
def encH:Hd->List T->T
 |.num n,_=>.t [.s "num",.i n]
 |.name x,_=>.t [.s "name",.s x]
 |.gap n,_=>.t [.s "gap",.i n]
 |.op s,ks=>.t (.s "op"::.s s::ks)
 |.row,ks=>.t [.s "row",.t ks]
 |.more,ks=>.t (.s "more"::ks)
 |.first,ks=>.t (.s "first"::ks)
 |.others,ks=>.t (.s "others"::ks)
 |.long,ks=>.t (.s "long"::ks)
 |.tag t,ks=>.t [.s "tag",.s t,.t ks]
 |.call f,ks=>.t [.s "call",.s f,.t ks]
 |.mat arms,ks=>.t [.s "match",ks.headD .n,.t (List.zipWith armT arms ks.tail)]
 |.ife,ks=>.t (.s "if"::ks)
 |.lt x,ks=>.t (.s "let"::.s x::ks)
 |.fold x y,ks=>.t [.s "fold",ks.getD 0 .n,.s x,.s y,ks.getD 1 .n,ks.getD 2 .n]
mutual
def enc:Tm->T
 |.mk h ks=>encH h (encs ks)
def encs:List Tm->List T
 | []=>[]
 |k::r=>enc k::encs r
end
theorem encs_map:∀ks:List Tm,encs ks=ks.map enc
 | []=>rfl
 |k::r=>by unfold encs;rw[encs_map r];rfl
theorem enc_mk(h:Hd)(ks:List Tm):enc (.mk h ks)=encH h (ks.map enc):=by unfold enc;rw[encs_map]
mutual
def Tm.size:Tm->Nat
 |.mk _ ks=>Tm.sizes ks+1
def Tm.sizes:List Tm->Nat
 | []=>0
 |k::r=>k.size+Tm.sizes r
end
mutual
def Tm.depth:Tm->Nat
 |.mk _ []=>0
 |.mk _ (k::r)=>Tm.depths (k::r)+1
def Tm.depths:List Tm->Nat
 | []=>0
 |k::r=>max k.depth (Tm.depths r)
end
theorem Tm.sizes_cons(k:Tm)(r:List Tm):Tm.sizes (k::r)=k.size+Tm.sizes r:=by rw[Tm.sizes]
theorem Tm.size_mk(h:Hd)(ks:List Tm):(Tm.mk h ks).size=Tm.sizes ks+1:=by rw[Tm.size]
theorem Tm.depth_cons(h:Hd)(k:Tm)(r:List Tm):(Tm.mk h (k::r)).depth=Tm.depths (k::r)+1:=by rw[Tm.depth]
theorem Tm.sizes_append:∀(a b:List Tm),Tm.sizes (a++b)=Tm.sizes a+Tm.sizes b
 | [],b=>by simp[Tm.sizes]
 |k::r,b=>by rw[List.cons_append,Tm.sizes_cons,Tm.sizes_cons,Tm.sizes_append r b];omega
theorem Tm.depths_mem{ks:List Tm}{k:Tm}(h:k∈ks):k.depth<=Tm.depths ks:=by
 induction ks with
 |nil=>cases h
 |cons y r ih =>
  unfold Tm.depths
  cases h with
  |head=>exact Nat.le_max_left _ _
  |tail _ h=>exact Nat.le_trans (ih h) (Nat.le_max_right _ _)
theorem Tm.depth_mem{h:Hd}{ks:List Tm}{k:Tm}(m:k∈ks):k.depth<(Tm.mk h ks).depth:=by
 cases ks with
 |nil=>cases m
 |cons y r=>rw[Tm.depth_cons];exact Nat.lt_succ_of_le (Tm.depths_mem m)
theorem Tm.depth_le{h:Hd}{ks:List Tm}{n:Nat}(a:∀k∈ks,k.depth<=n):(Tm.mk h ks).depth<=n+1:=by
 cases ks with
 |nil=>unfold Tm.depth;omega
 |cons y r =>
  unfold Tm.depth
  refine Nat.succ_le_succ ?_
  generalize(y::r)=l at a
  induction l with
  |nil=>exact Nat.zero_le _
  |cons z q ih=>unfold Tm.depths;exact Nat.max_le.mpr ⟨a z (.head _),ih fun k hk=>a k (.tail _ hk)⟩
theorem encH_dep(h:Hd)(ks:List T){n:Nat}(a:∀k∈ks,k.dep<=n):(encH h ks).dep<=n+4:=by
 have big:∀xs:List T,(∀x∈xs,x.dep<=n+3)->(T.t xs).dep<=n+4:=fun xs z=>T.dep_t z
 have s0:∀x:Str,(T.s x).dep<=n+3:=fun _=>by unfold T.dep;omega
 have i0:∀x:Int,(T.i x).dep<=n+3:=fun _=>by unfold T.dep;omega
 have n0:(T.n).dep<=n:=by unfold T.dep;omega
 have k0:∀x∈ks,x.dep<=n+3:=fun x hx=>Nat.le_trans (a x hx) (by omega)
 have t0:(T.t ks).dep<=n+3:=Nat.le_trans (T.dep_t a) (by omega)
 have g0:∀i,(ks.getD i .n).dep<=n+3:=fun i=>by
  rw[List.getD_eq_getElem?_getD]
  cases e:ks[i]? with
  |none=>exact Nat.le_trans n0 (by omega)
  |some x=>exact k0 x (List.mem_of_getElem? e)
 have nms:∀xs:List Str,(T.t (xs.map .s)).dep<=1:=fun xs=>T.dep_t (n:=0) fun x hx=>by
  obtain⟨y,_,rfl⟩:=List.mem_map.mp hx
  unfold T.dep;omega
 have arm:∀(as:List (Str×List Str)) (q:List T),(∀k∈q,k.dep<=n)->∀x∈List.zipWith armT as q,x.dep<=n+2:=by
  intro as q hq x hx
  obtain⟨i,hi⟩:=List.getElem?_of_mem hx
  rw[List.getElem?_zipWith]at hi
  split at hi
  ·rename_i a' b' _ h2
   cases hi
   unfold armT
   have hb:=hq b' (List.mem_of_getElem? h2)
   have e:=nms a'.2
   refine T.dep_t fun y hy=>?_
   simp only[List.mem_cons,List.not_mem_nil,or_false]at hy
   rcases hy with rfl|rfl|rfl
   ·unfold T.dep;omega
   ·omega
   ·omega
  ·cases hi
 have mem2:∀(x:T) (l:List T),x.dep<=n+3->(∀y∈l,y.dep<=n+3)->∀y∈x::l,y.dep<=n+3:=fun x l h1 h2 y hy=>by
  cases hy with
  |head=>exact h1
  |tail _ h=>exact h2 y h
 have mem0:∀y∈([]:List T),y.dep<=n+3:=fun _ h=>nomatch h
 cases h<;>unfold encH<;>refine big _ ?_
 case num=>exact mem2 _ _ (s0 _) (mem2 _ _ (i0 _) mem0)
 case name=>exact mem2 _ _ (s0 _) (mem2 _ _ (s0 _) mem0)
 case gap=>exact mem2 _ _ (s0 _) (mem2 _ _ (i0 _) mem0)
 case op=>exact mem2 _ _ (s0 _) (mem2 _ _ (s0 _) k0)
 case row=>exact mem2 _ _ (s0 _) (mem2 _ _ t0 mem0)
 case tag=>exact mem2 _ _ (s0 _) (mem2 _ _ (s0 _) (mem2 _ _ t0 mem0))
 case call=>exact mem2 _ _ (s0 _) (mem2 _ _ (s0 _) (mem2 _ _ t0 mem0))
 case mat arms =>
  refine mem2 _ _ (s0 _) (mem2 _ _ ?_ (mem2 _ _ (T.dep_t (arm arms ks.tail fun k hk=>a k (List.mem_of_mem_tail hk))) mem0))
  cases ks with
  |nil=>exact Nat.le_trans n0 (by omega)
  |cons k r=>exact k0 k (.head _)
 case lt=>exact mem2 _ _ (s0 _) (mem2 _ _ (s0 _) k0)
 case fold=>exact mem2 _ _ (s0 _) (mem2 _ _ (g0 _) (mem2 _ _ (s0 _) (mem2 _ _ (s0 _) (mem2 _ _ (g0 _) (mem2 _ _ (g0 _) mem0)))))
 all_goals exact mem2 _ _ (s0 _) k0
theorem enc_dep(a:Tm):(enc a).dep<=4*a.depth+4:=by
 induction a using Tm.induct with
 |hm h ks ih =>
  rw[enc_mk]
  cases ks with
  |nil=>exact Nat.le_trans (encH_dep h _ (n:=0) fun k hk=>nomatch hk) (by omega)
  |cons k r =>
   refine encH_dep h _ (n:=4*(Tm.mk h (k::r)).depth) fun x hx=>?_
   obtain⟨y,hy,rfl⟩:=List.mem_map.mp hx
   have z:=Tm.depth_mem (h:=h) hy
   have q:=ih y hy
   omega
end L2
namespace L2
open PySem PySem.Spec PyProof.Rows
def cellsFor(env:Env):List (Str×NameKind)->List (Str×Addr)->List (Str×Addr)
 | [],cs=>cs
 |(n,k)::r,cs=>cellsFor env r (if k == .free then(n,(env.cells.lookup n).getD 0)::cs else cs)
theorem closureFor_eq{scope:Scope}{env:Env}(h:∀x∈scope.names,x.2=.free->∃c,env.cells.lookup x.1=some c):closureFor scope env=pure (cellsFor env scope.names []):=by
 have go:∀(l:List (Str×NameKind)) (cs:List (Str×Addr)),(∀x∈l,x.2=.free->∃c,env.cells.lookup x.1=some c) ->
   (forIn l cs fun x r=>if(x.2 == NameKind.free)=true then do let a ←cellOf env x.1;pure (ForInStep.yield ((x.1,a)::r))else pure (ForInStep.yield r):Sem (List (Str×Addr)))=pure (cellsFor env l cs):=by
  intro l
  induction l with
  |nil=>intro cs _;rfl
  |cons x r ih =>
   intro cs hx
   obtain⟨n,k⟩:=x
   rw[List.forIn_cons]
   by_cases hk:k=.free
   ·subst hk
    obtain⟨c,hc⟩:=hx (n,.free) List.mem_cons_self rfl
    have e:cellOf env n=pure c:=by unfold cellOf;rw[show env.cells.lookup n=some c from hc]
    simp only[beq_self_eq_true,if_true,e,pure_bind]
    rw[ih _ fun y hy=>hx y (List.mem_cons_of_mem _ hy)]
    unfold cellsFor
    rw[show env.cells.lookup n=some c from hc]
    cases r<;>rfl
   ·have hb:(k == NameKind.free)=false:=by simpa using hk
    simp only[hb,Bool.false_eq_true,if_false,pure_bind]
    rw[ih _ fun y hy=>hx y (List.mem_cons_of_mem _ hy)]
    conv=>rhs;unfold cellsFor
    simp only[hb,Bool.false_eq_true,if_false]
 simp only[closureFor]
 have g:=go scope.names [] h
 simp only[g]
 rfl
theorem cellsFor_sub{env:Env}:∀(l:List (Str×NameKind)) (cs:List (Str×Addr)),(∀x∈l,x.2=.free->∃c,env.cells.lookup x.1=some c)->(∀y c,cs.lookup y=some c->env.cells.lookup y=some c) ->
  ∀y c,(cellsFor env l cs).lookup y=some c->env.cells.lookup y=some c
 | [],_,_,hc=>hc
 |(n,k)::r,cs,hl,hc=>by
  refine cellsFor_sub r _ (fun x hx=>hl x (List.mem_cons_of_mem _ hx)) fun y c e=>?_
  by_cases hk:(k == NameKind.free)=true
  ·rw[if_pos hk]at e
   rw[List.lookup_cons]at e
   by_cases hy:y=n
   ·subst hy
    simp only[beq_self_eq_true]at e
    obtain⟨c',hc'⟩:=hl (y,k) List.mem_cons_self (by simpa using hk)
    have hc'':env.cells.lookup y=some c':=hc'
    rw[hc'']at e⊢
    exact e
   ·have hb:(y == n)=false:=beq_eq_false_iff_ne.mpr hy
    rw[hb]at e
    exact hc y c e
  ·rw[if_neg hk]at e
   exact hc y c e
theorem cellsFor_keep{env:Env}:∀(l:List (Str×NameKind)) (cs:List (Str×Addr)) (y:Str),(∃c,cs.lookup y=some c)->∃c,(cellsFor env l cs).lookup y=some c
 | [],_,_,h=>h
 |(n,k)::r,cs,y,h=>by
  refine cellsFor_keep r _ y ?_
  by_cases hk:(k == NameKind.free)=true
  ·rw[if_pos hk,List.lookup_cons]
   cases hb:(y == n)with
   |true=>exact⟨_,rfl⟩
   |false=>exact h
  ·rw[if_neg hk];exact h
theorem cellsFor_has{env:Env}:∀(l:List (Str×NameKind)) (cs:List (Str×Addr)) (y:Str),(y,NameKind.free)∈l->∃c,(cellsFor env l cs).lookup y=some c
 | [],_,_,h=>nomatch h
 |(n,k)::r,cs,y,h=>by
  rcases List.mem_cons.mp h with e|h
  ·have e1:y=n:=congrArg Prod.fst e
   have e2:NameKind.free=k:=congrArg Prod.snd e
   subst e1
   subst e2
   refine cellsFor_keep r _ y ⟨(env.cells.lookup y).getD 0,?_⟩
   rw[if_pos (by rfl),List.lookup_cons,beq_self_eq_true]
  ·exact cellsFor_has r _ y h
theorem relabel_shape{env:Env}:∀{names:List (Str×NameKind)}{x:Str}{k':NameKind},(names.map fun(n,k)=>if(k == NameKind.free&&env.scope.kind == .function&&env.kindOf n == some .cell)then(n,NameKind.cell)else(n,k)).lookup x=some k' ->
  names.lookup x=some k'\/(k'=.cell/\names.lookup x=some .free)
 | [],_,_,h=>by simp at h
 |(n,k)::r,x,k',h=>by
  have ih:=@relabel_shape env r x k'
  change List.lookup x ((if(k == NameKind.free&&env.scope.kind == .function&&env.kindOf n == some .cell)=true then(n,NameKind.cell)else(n,k))::_)=_ at h
  cases hx:x == n with
  |true =>
   by_cases hc:(k == NameKind.free&&env.scope.kind == .function&&env.kindOf n == some .cell)=true
   ·rw[if_pos hc]at h
    simp only[List.lookup_cons,hx]at h
    cases h
    have hk:k=.free:=by simp at hc;exact hc.1.1
    subst hk
    exact .inr ⟨rfl,by simp only[List.lookup_cons,hx]⟩
   ·rw[if_neg hc]at h
    simp only[List.lookup_cons,hx]at h
    cases h
    exact .inl (by simp only[List.lookup_cons,hx])
  |false =>
   by_cases hc:(k == NameKind.free&&env.scope.kind == .function&&env.kindOf n == some .cell)=true
   ·rw[if_pos hc]at h
    simp only[List.lookup_cons,hx]at h⊢
    exact ih h
   ·rw[if_neg hc]at h
    simp only[List.lookup_cons,hx]at h⊢
    exact ih h
theorem relabel_free{env:Env}:∀{names:List (Str×NameKind)}{x:Str},names.lookup x=some .free ->
  (names.map fun(n,k)=>if(k == NameKind.free&&env.scope.kind == .function&&env.kindOf n == some .cell)then(n,NameKind.cell)else(n,k)).lookup x=some .cell \/
  (names.map fun(n,k)=>if(k == NameKind.free&&env.scope.kind == .function&&env.kindOf n == some .cell)then(n,NameKind.cell)else(n,k)).lookup x=some .free
 | [],_,h=>by simp at h
 |(n,k)::r,x,h=>by
  have ih:=@relabel_free env r x
  show List.lookup x ((if(k == NameKind.free&&env.scope.kind == .function&&env.kindOf n == some .cell)=true then(n,NameKind.cell)else(n,k))::_)=_\/List.lookup x ((if(k == NameKind.free&&env.scope.kind == .function&&env.kindOf n == some .cell)=true then(n,NameKind.cell)else(n,k))::_)=_
  cases hx:x == n with
  |true =>
   simp only[List.lookup_cons,hx]at h
   cases h
   by_cases hc:(NameKind.free == NameKind.free&&env.scope.kind == .function&&env.kindOf n == some .cell)=true
   ·rw[if_pos hc];exact .inl (by simp only[List.lookup_cons,hx])
   ·rw[if_neg hc];exact .inr (by simp only[List.lookup_cons,hx])
  |false =>
   simp only[List.lookup_cons,hx]at h
   by_cases hc:(k == NameKind.free&&env.scope.kind == .function&&env.kindOf n == some .cell)=true
   ·rw[if_pos hc];simp only[List.lookup_cons,hx];exact ih h
   ·rw[if_neg hc];simp only[List.lookup_cons,hx];exact ih h
section
variable {prog:Program}{w:World}{A:Around}{R:Result->Shared->Prop}{s:Shared}
theorem codeAny_compLoop_any{elt target iter:Expr}{ifs:List Expr}{scope:Scope}{pos:Pos}{it acc:Value}{env:Env}{E:Value->Shared->Prop}(I:Nat->Shared->Prop)
  (turn:∀n s,I n s->wpAny (model prog w) A (pyNext it) (fun r s₁=>match r with
   |none=>R (.ok .next) s₁
   |some v=>wpAny (model prog w) A (letOwnedTupleGo target it v) (fun _ s₁'=>wpAny (model prog w) A (assign target env v) (fun _ s₂ =>
     wpAny (model prog w) A (forIn ifs true fun c r=>if r=true then do let ok ←isTrue c env (eval c env);pure (ForInStep.yield ok)else pure (ForInStep.yield r)) (fun ok s₃ =>
      if ok=true then wpAny (model prog w) A (eval elt env) (fun x s₄ =>
       wpAny (model prog w) A (call (.builtin "list.append") [acc,x]) (fun _ s₅=>∃m,m<n/\I m s₅) E s₄) E s₃
      else ∃m,m<n/\I m s₃) E s₂) E s₁') E s₁) E s)
  (hE:∀e s',E e s'->notedBy (model prog w) A env (fun e s'=>R (.error e) s') e s')
  (n:Nat) (h:I n s) :
  codeAny (model prog w) A (.compLoop (.ListComp elt [⟨target,iter,ifs,0⟩] scope pos) 0 it acc env) R s:=by
 refine codeAny_loop rfl I (fun n s hI=>?_) n h
 show wpAny _ A ((compTurn (.ListComp elt [⟨target,iter,ifs,0⟩] scope pos) 0 it acc env).onRaise (fun x=>do noteFrame x env;theTreesLotGoes x)) _ _ s
 refine wpAny_noted ?_
 rw[compTurn_list]
 refine wpAny_bind (wpAny_standAt (wpAny_bind (wpAny_mono (turn n s hI) (fun r s₁ h₁=>?_) hE)))
 cases r with
 |none=>exact wpAny_pure h₁
 |some v =>
  refine wpAny_bind (wpAny_mono h₁ (fun _ s₁' h₁'=>?_) hE)
  refine wpAny_bind (wpAny_mono h₁' (fun _ s₂ h₂=>wpAny_bind (wpAny_mono h₂ (fun ok s₃ h₃=>?_) hE)) hE)
  cases ok with
  |false=>exact wpAny_pure ⟨rfl,h₃⟩
  |true =>
   exact wpAny_bind (wpAny_bind (wpAny_mono h₃ (fun x s₄ h₄=>wpAny_bind (wpAny_mono h₄ (fun _ s₅ h₅=>wpAny_pure (wpAny_pure ⟨rfl,h₅⟩)) hE)) hE))
end
def cxComp(X:Cx)(scope:Scope)(N':List Str)(fp:List Addr)(C:Addr)(s₂:Shared)(H₂:Hp):Cx where
 prog:=X.prog
 w:=X.w
 K:=X.K
 mg:=X.mg
 base:=X.base
 A:=X.A
 N:=N'
 s₀:=s₂
 H₀:=H₂
 env:=compEnvC scope (cellsFor X.env scope.names []) C X.env
 outer:=X.stack
 stack:=X.stack
 ex:=fp
 fn:=fun _=>false
 calm:=X.calm
 pn:=[]
 xe:=fun _ _=>False
def PIfs(X:Cx)(ifs:List Expr)(t:TT):Prop :=
 ∀(pins:List (Addr×Obj)) (s:Shared) (σ:St) (H:Hp) (Q:Bool->Hp->Prop),Inv X pins σ H s->t σ H Q ->
  wpAny (model X.prog X.w) X.A (forIn ifs true fun c r=>if r=true then do let ok ←isTrue c X.env (eval c X.env);pure (ForInStep.yield ok)else pure (ForInStep.yield r)) (TP X pins σ Q) X.xe s
def tNoIf:TT:=fun _ H Q=>Q true H
theorem pifs_nil{X:Cx}:PIfs X [] tNoIf:=fun pins s σ H Q I h=>by
 rw[List.forIn_nil]
 exact wpAny_pure ⟨H,I,h⟩
theorem pifs_one{X:Cx}{c:Expr}{t:TT}(hc:PT X c t):PIfs X [c] t:=fun pins s σ H Q I h=>by
 simp only[List.forIn_cons,List.forIn_nil,if_true]
 exact wpAny_bind (wpAny_bind (wpAny_mono (hc pins s σ H Q I h) (fun b s' hb=>wpAny_pure (wpAny_pure hb)) fun _ _ x=>x))
def innerSt(own:Nat)(fr:List Nat)(σ:St):St:=List.replicate own none++fr.map fun j=>(σ[j]?).join
def CompW(J:It)(g:TG)(tt:TT)(te:TE)(Q:VK)(σ0:St)(H0:Hp):Prop:=∃W:Nat->Nat->St->List V->Hp->Prop,(∃m,W 0 m σ0 [] H0)/\∀i m σ' vs H,W i m σ' vs H ->
 (J.stop i H/\vs.length<=sizeLine/\∀p,H p=none->Q (.ref p) (upd H p (.lst vs))) \/
 (J.go i H/\vs.length<sizeLine/\∃N:St->List V->Hp->Prop,(∀σ2 vs2 H2,N σ2 vs2 H2->∃m',m' < m/\W (i+1) m' σ2 vs2 H2)/\∀x H',J.yld i H x H'->g x σ' H' fun σ2 H2=>tt σ2 H2 fun ok H3 =>
  if ok=true then te σ2 H3 fun v H4=>N σ2 (vs++[v]) H4 else N σ2 vs H3)
def tComp(own:Nat)(fr:List Nat)(wi:TI)(g:TG)(tt:TT)(te:TE):TE:=fun σ H Q=>wi σ H fun J H1=>CompW J g tt te Q (innerSt own fr σ) H1
section
variable {X:Cx}{pins:List (Addr×Obj)}{σ:St}{H:Hp}{s:Shared}
theorem inner_ok{own:List Str}{fr:List Nat}(hl:σ.length=X.N.length){i:Nat}{x:Str}{v:V}(h1:(own++fr.map fun j=>X.N.getD j Str.empty)[i]?=some x)(h2:(innerSt own.length fr σ)[i]?=some (some v)) :
  ∃j∈fr,X.N[j]?=some x/\X.N.getD j Str.empty=x/\σ[j]?=some (some v):=by
 unfold innerSt at h2
 by_cases hi:i<own.length
 ·rw[List.getElem?_append_left (by simpa using hi),List.getElem?_replicate,if_pos hi]at h2
  cases h2
 ·rw[List.getElem?_append_right (by simpa using hi),List.length_replicate,List.getElem?_map]at h2
  rw[List.getElem?_append_right (by omega),List.getElem?_map]at h1
  cases e:fr[i-own.length]? with
  |none=>rw[e]at h2;cases h2
  |some j =>
   rw[e]at h1 h2
   simp only[Option.map_some,Option.some.injEq]at h1 h2
   have hj:σ[j]?=some (some v):=by
    cases q:σ[j]? with
    |none=>rw[q]at h2;cases h2
    |some o=>rw[q]at h2;exact congrArg some h2
   have hjl:j<X.N.length:=by rw[←hl];exact(List.getElem?_eq_some_iff.mp hj).1
   refine⟨j,List.mem_of_getElem? e,?_,h1,hj⟩
   rw[←h1,List.getD_eq_getElem?_getD,List.getElem?_eq_getElem hjl]
   rfl
theorem comp_enter{scope:Scope}{own:List Str}{fr:List Nat}{fp:List Addr}{C:Addr}{h₁:Heap}{tk:Nat}{m:Str->Option Value}(I:Inv X pins σ H s)
  (hkind:scope.kind=.function) (hcell:∀x∈scope.names,x.2≠.cell) (hfr:∀x∈scope.names,x.2=.free->X.env.scope.names.lookup x.1=some .cell\/X.env.scope.names.lookup x.1=some .free)
  (hin:∀j∈fr,scope.names.lookup (X.N.getD j Str.empty)=some .free) (hC:s.heap.objs.size<=C) (hf:∀b∈fp,FpOk X pins H b) (hfo:∀b∈fp,b<s.heap.objs.size)
  (old:∀b o,s.heap.get? b=some o->h₁.get? b=some o) (hn:h₁.Ns C m) :
  Inv (cxComp X scope (own++fr.map fun j=>X.N.getD j Str.empty) fp C s H) [] (innerSt own.length fr σ) H {s with heap:=h₁,toks:=tk}:=by
 have hfree:∀x∈scope.names,x.2=.free->∃c,X.env.cells.lookup x.1=some c:=fun x hx e=>I.ok.has x.1 (hfr x hx e)
 have sub:∀y c,(cellsFor X.env scope.names []).lookup y=some c->X.env.cells.lookup y=some c:=cellsFor_sub _ _ hfree (by intro y c e;simp at e)
 have hasF:∀y,scope.names.lookup y=some .free->∃c,(cellsFor X.env scope.names []).lookup y=some c:=fun y e=>cellsFor_has _ _ _ (PySem.mem_of_lookup e)
 refine⟨⟨I.ok.mod,?_,I.ok.glob,I.ok.blt,hC,fun x y c h1 h2=>I.ok.inj x y c (sub x c h1) (sub y c h2),fun x hx=>?_,(fun x c hx=>nomatch hx),I.ok.hd,I.ok.frames,.inl rfl,fun b hb=>?_,I.bs,Nat.le_trans I.ok.bsz I.sz,fun b o e hb=>?_,fun b hb z=>?_,I.stack,I.stkFree⟩,
  rfl,I.bare,Un.kept old,⟨m,hn,fun i x v h1 h2 h3=>?_⟩,fun x c e=>?_,I.hok.fresh hC,fun x c e=>I.freeC x c (sub x c e),fun p hp=>absurd (show p∈([]:List (Addr×Obj))from hp) (by simp),I.hok.kept old,?_⟩
 ·exact hkind
 ·have hx':(relabel scope X.env).names.lookup x=some .cell\/(relabel scope X.env).names.lookup x=some .free:=hx
  have hx2:scope.names.lookup x=some .free:=by
   rcases hx' with e|e
   ·rcases relabel_shape e with e|⟨_,e⟩
    ·exact absurd rfl (hcell _ (PySem.mem_of_lookup e))
    ·exact e
   ·rcases relabel_shape e with e|⟨z,_⟩
    ·exact e
    ·cases z
  exact hasF x hx2
 ·refine⟨Nat.ne_of_lt (Nat.lt_of_lt_of_le (hfo b hb) hC),fun x c e=>(hf b hb).2.2.2.2.1 x c (sub x c e)⟩
 ·rcases(hf b hb).2.2.2.1 with z|z
  ·exact I.ok.noex b o e z
  ·exact absurd (Nat.lt_of_lt_of_le (Heap.lt_size e) (Nat.le_trans I.ok.bsz z)) (Nat.lt_irrefl _)
 ·have hb':b∈fp:=hb
  have z':b∈frs X.stack:=z
  rcases List.mem_cons.mp (I.stkSub b z')with e|e
  ·exact(hf b hb').2.1 e
  ·exact(hf b hb').2.2.1 e
 ·obtain⟨j,hj,e1,e2,e3⟩:=inner_ok (own:=own) I.len h1 h2
  have hxf:scope.names.lookup x=some .free:=by rw[←e2];exact hin j hj
  have hk:=hfr _ (PySem.mem_of_lookup hxf) rfl
  obtain⟨m0,hn0,hl0⟩:=I.loc
  obtain⟨u,r,l⟩:=hl0 j x v e1 e3 (.inr hk)
  refine⟨u,r,?_⟩
  rcases l with⟨k,_⟩|⟨_,c,ec,z⟩
  ·have k':X.env.scope.names.lookup x=some .local:=k
   rcases hk with q|q<;>(rw[show X.env.scope.names.lookup x=_ from q]at k';cases k')
  ·obtain⟨c',ec'⟩:=hasF x hxf
   have:=sub x c' ec'
   rw[ec]at this
   cases this
   obtain⟨o,ho,hd⟩:=z
   exact .inr ⟨relabel_free hxf,c,ec',o,old c o ho,hd⟩
 ·obtain⟨v,o,ho,hd⟩:=I.cell x c (sub x c e)
  exact⟨v,o,old c o ho,hd⟩
 ·show(innerSt own.length fr σ).length=(own++fr.map fun j=>X.N.getD j Str.empty).length
  simp[innerSt]
theorem comp_leave{scope:Scope}{N':List Str}{fp:List Addr}{C D:Addr}{s':Shared}{H':Hp}{σ':St}{pins':List (Addr×Obj)}{vs:List V}{ys:Array Value}{h'':Heap}(I:Inv X pins σ H s)(hf:∀b∈fp,FpOk X pins H b)
  (I':Inv (cxComp X scope N' fp C s H) pins' σ' H' s') (hC:s.heap.objs.size<=C) (hD:s.heap.objs.size<=D) (hDC:D≠C) (hDn:H' D=none) (pl:s'.heap.PlainList D ys) (rv:Vals vs ys.toList) (hz:vs.length<=sizeLine) (hs:Heap.SameBut C s'.heap h'') :
  Inv X pins σ (upd H' D (.lst vs)) {s' with heap:=h''}:=by
 have un:Un (frs X.stack) fp H H' s.heap s'.heap:=I'.base
 have hCn:H' C=none:=I'.free
 have at':∀b,b≠C->h''.get? b=s'.heap.get? b:=fun b hb=>hs.2 b hb
 have neC:∀b o,s.heap.get? b=some o->b≠C:=fun b o e=>Nat.ne_of_lt (Nat.lt_of_lt_of_le (Heap.lt_size e) hC)
 have neD:∀b o,s.heap.get? b=some o->b≠D:=fun b o e=>Nat.ne_of_lt (Nat.lt_of_lt_of_le (Heap.lt_size e) hD)
 have okHD:∀b u,H b=some u->b≠D:=fun b u e=>Nat.ne_of_lt (Nat.lt_of_lt_of_le (I.hok.lt e) hD)
 have un':Un (frs X.stack) fp H (upd H' D (.lst vs)) s.heap h'':=by
  refine⟨fun b o e n h1 h2=>?_,fun b o e n h1 h2=>?_,fun b o e n h2=>?_,fun b o e h2=>?_,fun b xs e=>?_,fun b o u e=>?_,fun b ps e=>?_⟩
  ·rw[at' b (neC b o e)];exact un.keep b o e n h1 h2
  ·rw[at' b (neC b o e)];exact un.slot b o e n h1 h2
  ·rw[upd_ne (neD b o e)];exact un.free b o e n h2
  ·rw[at' b (neC b o e)];exact un.there b o e h2
  ·rw[upd_ne (okHD b _ e)];exact un.tups b xs e
  ·rw[upd_ne (okHD b _ e)];exact un.frzs b o u e
  ·rw[upd_ne (okHD b _ e)];exact un.tbls b ps e
 have hok:HOk X.prog X.w (upd H' D (.lst vs)) h'':=fun b u e=>by
  by_cases hb:b=D
  ·subst hb
   rw[upd_same]at e
   cases e
   obtain⟨n,ho⟩:=pl
   refine⟨hz,ys.toList,n,rv,?_⟩
   rw[at' b hDC]
   simpa using ho
  ·rw[upd_ne hb]at e
   refine(I'.hok b u e).stay (fun c v hc q=>?_) (fun c q=>?_) fun c xs q=>?_
   ·rw[at' c ?_];exact q
    rintro rfl
    rcases hc with z|z
    ·rw[←z,hCn]at e;cases e
    ·rw[hCn]at z;cases z
   ·rw[upd_ne (fun z=>by rw[z,hDn]at q;cases q)];exact q
   ·rw[upd_ne (fun z=>by rw[z,hDn]at q;cases q)];exact q
 exact I.call' (s':={s' with heap:=h''}) (ch:=fp) I'.os un' hok I'.bare fun b hb=>⟨(hf b hb).2.2.2.1,(hf b hb).2.1,(hf b hb).2.2.2.2.1,(hf b hb).2.2.2.2.2⟩
end
section
variable {X:Cx}
theorem pe_comp{elt iter tg:Expr}{ifs:List Expr}{scope:Scope}{pos:Pos}{wi:TI}{g:TG}{tt:TT}{te:TE}(own:List Str)(fr:List Nat)(hc:X.calm=true)
  (hkind:scope.kind=.function) (hcell:∀x∈scope.names,x.2≠.cell) (hnames:∀x∈scope.names,x.2=.local->scope.names.lookup x.1=some .local)
  (hfr:∀x∈scope.names,x.2=.free->X.env.scope.names.lookup x.1=some .cell\/X.env.scope.names.lookup x.1=some .free)
  (hin:∀j∈fr,scope.names.lookup (X.N.getD j Str.empty)=some .free)
  (hi:PI X tg iter wi) (hg:∀fp C s H,PG (cxComp X scope (own++fr.map fun j=>X.N.getD j Str.empty) fp C s H) tg g)
  (ht:∀fp C s H,PIfs (cxComp X scope (own++fr.map fun j=>X.N.getD j Str.empty) fp C s H) ifs tt)
  (he:∀fp C s H,PE (cxComp X scope (own++fr.map fun j=>X.N.getD j Str.empty) fp C s H) elt te)
  (hs:∀x,foldedSetIterable iter X.env x=pure x:=by intro _;rfl):PE X (.ListComp elt [⟨tg,iter,ifs,0⟩] scope pos) (tComp own.length fr wi g tt te):=by
 intro pins s σ H Q I h
 rw[eval_ListComp]
 have hfree:∀x∈scope.names,x.2=.free->∃c,X.env.cells.lookup x.1=some c:=fun x hx e=>I.ok.has x.1 (hfr x hx e)
 refine wpAny_comprehension_free (use:=none) rfl hs (closureFor_eq hfree) hkind hnames ?_
 refine thn (hi pins s σ H _ I h) fun v s1 h1=>thn h1 fun itv s2 h2=>?_
 obtain⟨it,fp,tn,J,H2,e,I2,T,st2,f2,W,⟨m0,w0⟩,turn⟩:=h2
 subst e
 have hfo:∀b∈fp,b<s2.heap.objs.size:=fun b hb=>by obtain⟨o,e,_⟩:=T.obj 0 _ st2 b hb;exact Heap.lt_size e
 refine wpAny_newObj_type (wpAny_newFunctionEnv hcell (by intro y hy;simp at hy) (fun h₁ hns₁ hsb₁=>?_) hkind)
 dsimp only at hns₁ hsb₁⊢
 generalize hH2:s2.heap.push {cls:=.type "list",dict:=none,data:=.seq ([]:List Value).toArray}=G2 at hns₁ hsb₁⊢
 have hC:G2.objs.size=s2.heap.objs.size+1:=by rw[←hH2,Heap.size_push]
 have hDC:s2.heap.objs.size≠G2.objs.size:=by rw[hC];exact Nat.ne_of_lt (Nat.lt_succ_self _)
 have hCle:s2.heap.objs.size<=G2.objs.size:=by rw[hC];exact Nat.le_succ _
 have old:∀b o,s2.heap.get? b=some o->h₁.get? b=some o:=fun b o e=>hsb₁.extBut b o (by rw[hC];exact Nat.ne_of_lt (Nat.lt_succ_of_lt (Heap.lt_size e))) (Heap.get?_push_of_some _ (hH2▸Heap.get?_push_of_some _ e))
 have hacc:h₁.PlainList s2.heap.objs.size #[]:=⟨_,hsb₁.extBut _ _ hDC (Heap.get?_push_of_some _ (hH2▸Heap.get?_push_size _ rfl))⟩
 have I3:Inv (cxComp X scope (own++fr.map fun j=>X.N.getD j Str.empty) fp G2.objs.size s2 H2) [] (innerSt own.length fr σ) H2 {s2 with heap:=h₁,toks:=s2.toks+([]:List (Str×Value)).length} :=
  comp_enter I2 hkind hcell hfr hin hCle f2 hfo old hns₁
 have st3:tn 0 h₁:=T.keep 0 _ _ st2 fun b _ o e=>old b o e
 have hDf:s2.heap.objs.size∉fp:=fun hm=>Nat.lt_irrefl _ (hfo _ hm)
 have hDn2:H2 s2.heap.objs.size=none:=I2.hok.fresh (Nat.le_refl _)
 have sub:∀y c,(cellsFor X.env scope.names []).lookup y=some c->X.env.cells.lookup y=some c:=cellsFor_sub _ _ hfree (by intro y c e;simp at e)
 have cellD:∀y c,(cellsFor X.env scope.names []).lookup y=some c->c≠s2.heap.objs.size:=fun y c e=>by
  obtain⟨_,o,ho,_⟩:=I2.cell y c (sub y c e)
  exact Nat.ne_of_lt (Heap.lt_size ho)
 have Dfs:s2.heap.objs.size∉frs X.stack:=fun z=>by
  rcases List.mem_cons.mp (I2.stkSub _ z)with e|e
  ·exact absurd I2.lt (by rw[←e];exact Nat.lt_irrefl _)
  ·exact I2.nofs (Nat.le_refl _) e
 -- the iterator's records,in the block's context
 have stat:∀{H':Hp}{pl:List (Addr×Obj)},(∀b∈fp,H' b=none)->(∀p∈pl,p.1=s2.heap.objs.size)->∀b∈fp,FpOk (cxComp X scope (own++fr.map fun j=>X.N.getD j Str.empty) fp G2.objs.size s2 H2) pl H' b:=fun{H' pl} hn hp b hb=>by
  refine⟨hn b hb,(I3.ok.exf b hb).1,I3.ok.exfs b hb,.inl hb,(I3.ok.exf b hb).2,fun p hpp z=>?_⟩
  have hpp':p∈pl:=by simpa[cxComp]using hpp
  exact hDf (by rw[←hp p hpp',z];exact hb)
 have pinD:∀{σ':St}{H':Hp}{s':Shared}{ys:Array Value}{n:Nat},Inv (cxComp X scope (own++fr.map fun j=>X.N.getD j Str.empty) fp G2.objs.size s2 H2) [] σ' H' s'->H' s2.heap.objs.size=none->s'.heap.get? s2.heap.objs.size=some {cls:=.type "list",data:=.seq ys n} ->
   Inv (cxComp X scope (own++fr.map fun j=>X.N.getD j Str.empty) fp G2.objs.size s2 H2) [(s2.heap.objs.size,{cls:=.type "list",data:=.seq ys n})] σ' H' s':=fun{σ' H' s' ys n} J hn e=>J.pins_of fun p hp=>by
  have e':p=(s2.heap.objs.size,{cls:=.type "list",data:=.seq ys n}):=by simpa using hp
  subst e'
  exact⟨e,hn,hDC,Dfs,fun v z=>nomatch z⟩
 have loop:codeAny (model X.prog X.w) X.A (.compLoop (.ListComp elt [⟨tg,iter,ifs,0⟩] scope pos) 0 (.ref it) (.ref s2.heap.objs.size) (compEnvC scope (cellsFor X.env scope.names []) G2.objs.size X.env))
   (compPost (model X.prog X.w) X.A X.xe none (EP X pins σ Q) (.ref s2.heap.objs.size) G2.objs.size) {s2 with heap:=h₁,toks:=s2.toks+([]:List (Str×Value)).length}:=by
  refine codeAny_compLoop_any (E:=fun _ _=>False) (fun n s'=>∃i σ' H' vs ys,Inv (cxComp X scope (own++fr.map fun j=>X.N.getD j Str.empty) fp G2.objs.size s2 H2) [] σ' H' s'/\tn i s'.heap/\(∀b∈fp,H' b=none)/\H' s2.heap.objs.size=none/\s'.heap.PlainList s2.heap.objs.size ys/\Vals vs ys.toList/\W i n σ' vs H')
   ?_ (fun _ _ z=>z.elim) m0 ⟨0,_,H2,[],#[],I3,st3,fun b hb=>(f2 b hb).1,hDn2,hacc,.nil,w0⟩
  rintro n s3 ⟨i,σ3,H3,vs,ys,J3,st3,fr3,dn3,⟨pn,pl3⟩,rv,w3⟩
  have J3':=pinD J3 dn3 pl3
  have hpins:∀p∈[(s2.heap.objs.size,({cls:=.type "list",data:=.seq ys pn}:Obj))],p.1=s2.heap.objs.size:=fun p hp=>by
   have e':p=(s2.heap.objs.size,{cls:=.type "list",data:=.seq ys pn}):=by simpa using hp
   rw[e']
  rcases turn i n σ3 vs H3 w3 with⟨stop,hz,q⟩|⟨go,hz,N,hN,step⟩
  ·refine thn (T.done (cxComp X scope (own++fr.map fun j=>X.N.getD j Str.empty) fp G2.objs.size s2 H2) rfl rfl rfl hc i _ s3 σ3 H3 (fun _ _=>False) J3' (stat fr3 hpins) st3 stop) fun r s4 ⟨hr,J4⟩=>?_
   subst hr
   obtain⟨m4,hn4,_⟩:=id J4.loc
   refine⟨m4,hn4,fun h' hs'=>?_⟩
   have e4:s4.heap.get? s2.heap.objs.size=some {cls:=.type "list",data:=.seq ys pn}:=(J4.pin (s2.heap.objs.size,{cls:=.type "list",data:=.seq ys pn}) (List.mem_append_right _ (by simp))).1
   exact⟨.ref s2.heap.objs.size,_,comp_leave I2 f2 J4 hCle (Nat.le_refl _) hDC dn3 ⟨pn,e4⟩ rv hz hs',rfl,q _ dn3⟩
  ·refine thn (T.item (cxComp X scope (own++fr.map fun j=>X.N.getD j Str.empty) fp G2.objs.size s2 H2) rfl rfl rfl hc i _ s3 σ3 H3 (fun _ _=>False) J3' (stat fr3 hpins) st3 go) fun r s4 ⟨u,hr,h4⟩=>?_
   subst hr
   refine thn h4 fun _ s5 ⟨x,H5,J5,r5,y5,st5,fr5⟩=>?_
   have J5':=J5.pinned (stat fr5 hpins) (T.obj _ _ st5)
   refine thn (hg fp _ s2 H2 _ s5 σ3 H5 x u _ J5' r5 (step x H5 y5)) fun _ s6 ⟨σ6,H6,J6,q6⟩=>?_
   refine thn (ht fp _ s2 H2 _ s6 σ6 H6 _ J6 q6) fun ok s7 ⟨H7,J7,q7⟩=>?_
   -- what stood pinned through the turn
   have after:∀{s8:Shared}{H8:Hp},Inv (cxComp X scope (own++fr.map fun j=>X.N.getD j Str.empty) fp G2.objs.size s2 H2) ([(s2.heap.objs.size,({cls:=.type "list",data:=.seq ys pn}:Obj))]++pinsAt fp s5.heap) σ6 H8 s8 ->
     tn (i+1) s8.heap/\(∀b∈fp,H8 b=none)/\H8 s2.heap.objs.size=none/\s8.heap.get? s2.heap.objs.size=some {cls:=.type "list",data:=.seq ys pn}:=fun{s8 H8} J8=>by
    refine⟨T.keep _ _ _ st5 fun b hb o e=>(J8.pin (b,o) (List.mem_append_right _ (List.mem_append_right _ (mem_pinsAt hb e)))).1,fun b hb=>?_,?_,?_⟩
    ·obtain⟨o,e,d⟩:=T.obj _ _ st5 b hb
     exact(J8.pin (b,o) (List.mem_append_right _ (List.mem_append_right _ (mem_pinsAt hb e)))).2.1
    ·exact(J8.pin (s2.heap.objs.size,{cls:=.type "list",data:=.seq ys pn}) (List.mem_append_right _ (List.mem_append_left _ (by simp)))).2.1
    ·exact(J8.pin (s2.heap.objs.size,{cls:=.type "list",data:=.seq ys pn}) (List.mem_append_right _ (List.mem_append_left _ (by simp)))).1
   cases ok with
   |false =>
    obtain⟨m',hm,w7⟩:=hN _ _ _ q7
    obtain⟨a1,a2,a3,a4⟩:=after J7
    exact⟨m',hm,i+1,σ6,H7,vs,ys,J7.pins_of (fun p hp=>absurd hp (by simp)),a1,a2,a3,⟨pn,a4⟩,rv,w7⟩
   |true =>
    refine thn (he fp _ s2 H2 _ s7 σ6 H7 _ J7 q7) fun y s8 ⟨v8,H8,J8,r8,n8⟩=>?_
    obtain⟨m',hm,w8⟩:=hN _ _ _ n8
    obtain⟨a1,a2,a3,a4⟩:=after J8
    have J9:Inv (cxComp X scope (own++fr.map fun j=>X.N.getD j Str.empty) fp G2.objs.size s2 H2) [] σ6 H8 s8:=J8.pins_of (fun p hp=>absurd hp (by simp))
    have hys:ys.size<=sizeLine:=by
     have e1:vs.length=ys.toList.length:=rv.length
     have e2:ys.toList.length=ys.size:=by simp
     omega
    refine wpAny_list_append_plain (hsz:=hys) ⟨pn,a4⟩ fun h₅ hl₅ hs₅=>?_
    refine⟨m',hm,i+1,σ6,H8,vs++[v8],ys.push y,J9.turned (t':=s8.toks) (it:=s2.heap.objs.size) (fun b o hb e=>by rw[hs₅.2 b hb];exact e) a3 hDC (.inr (Nat.le_refl _)) cellD (fun p hp=>absurd (show p∈([]:List (Addr×Obj))from hp) (by simp)),
     T.keep _ _ _ a1 fun b hb o e=>(hs₅.2 b (fun z=>hDf (z▸hb))).trans e,a2,a3,hl₅,?_,w8⟩
    have:Vals (vs++[v8]) (ys.toList++[y]):=rv.append (.cons r8 .nil)
    simpa using this
 exact codeAny_compStart_list loop (T.self X.A 0 _ _ _ st3 loop)
end
def compOk(scope sc:Scope)(N0:List Str)(fr:List Nat):Bool :=
 scope.kind == .function&&scope.names.all (fun x=>x.2 != .cell&&(x.2 != .local||scope.names.lookup x.1 == some .local)&&(x.2 != .free||sc.names.lookup x.1 == some .cell||sc.names.lookup x.1 == some .free)) &&
  fr.all (fun j=>scope.names.lookup (N0.getD j Str.empty) == some .free)
theorem pe_compC{X:Cx}{elt iter tg:Expr}{ifs:List Expr}{scope:Scope}{pos:Pos}{wi:TI}{g:TG}{tt:TT}{te:TE}(sc:Scope)(N0 own:List Str)(fr:List Nat)(hc:X.calm=true)(hsc:X.env.scope=sc)(hN:X.N=N0)
  (ok:compOk scope sc N0 fr=true) (hi:PI X tg iter wi) (hg:∀fp C s H,PG (cxComp X scope (own++fr.map fun j=>N0.getD j Str.empty) fp C s H) tg g)
  (ht:∀fp C s H,PIfs (cxComp X scope (own++fr.map fun j=>N0.getD j Str.empty) fp C s H) ifs tt)
  (he:∀fp C s H,PE (cxComp X scope (own++fr.map fun j=>N0.getD j Str.empty) fp C s H) elt te)
  (hs:∀x,foldedSetIterable iter X.env x=pure x:=by intro _;rfl):PE X (.ListComp elt [⟨tg,iter,ifs,0⟩] scope pos) (tComp own.length fr wi g tt te):=by
 subst hsc hN
 unfold compOk at ok
 simp only[Bool.and_eq_true,List.all_eq_true,bne_iff_ne,beq_iff_eq,Bool.or_eq_true]at ok
 obtain⟨⟨k1,k2⟩,k3⟩:=ok
 refine pe_comp own fr hc k1 (fun x hx=>(k2 x hx).1.1) (fun x hx e=>?_) (fun x hx e=>?_) (fun j hj=>k3 j hj) hi hg ht he hs
 ·rcases(k2 x hx).1.2 with z|z
  ·exact absurd e z
  ·exact z
 ·rcases(k2 x hx).2 with(z|z)|z
  ·exact absurd e z
  ·exact .inl z
  ·exact .inr z
section
variable {g:TG}{tt:TT}{te:TE}{Q:VK}{σ0:St}{H0:Hp}
theorem comp_by{J:It}(n:Nat)(Pv:Nat->St->List V->Hp->Prop)(h0:Pv 0 σ0 [] H0)(hlen:∀i σ vs H,i<=n->Pv i σ vs H->vs.length<=i)(hn:n<=sizeLine)(hgo:∀i σ vs H,i<n->Pv i σ vs H->J.go i H)(hst:∀σ vs H,Pv n σ vs H->J.stop n H)
  (hs:∀i σ vs H x H',i<n->Pv i σ vs H->J.yld i H x H'->g x σ H' fun σ2 H2=>tt σ2 H2 fun ok H3=>if ok=true then te σ2 H3 fun v H4=>Pv (i+1) σ2 (vs++[v]) H4 else Pv (i+1) σ2 vs H3)
  (hd:∀σ vs H,Pv n σ vs H->∀p,H p=none->Q (.ref p) (upd H p (.lst vs))):CompW J g tt te Q σ0 H0:=by
 refine⟨fun i m σ vs H=>m=n-i/\i<=n/\Pv i σ vs H,⟨n,by simp,Nat.zero_le _,h0⟩,?_⟩
 rintro i m σ vs H ⟨rfl,hi,p⟩
 have hv:=hlen i σ vs H hi p
 by_cases hlt:i<n
 ·exact .inr ⟨hgo i σ vs H hlt p,by omega,Pv (i+1),fun σ2 vs2 H2 q=>⟨n - (i+1),by omega,rfl,hlt,q⟩,fun x H' y=>hs i σ vs H x H' hlt p y⟩
 ·have e:i=n:=by omega
  subst e
  exact .inl ⟨hst σ vs H p,by omega,hd σ vs H p⟩
theorem comp_range{lo:Int}{n:Nat}(Pv:Nat->St->List V->Hp->Prop)(h0:Pv 0 σ0 [] H0)(hlen:∀i σ vs H,i<=n->Pv i σ vs H->vs.length<=i)(hn:n<=sizeLine)
  (hs:∀i σ vs H,i<n->Pv i σ vs H->g (.int (lo+i)) σ H fun σ2 H2=>tt σ2 H2 fun ok H3=>if ok=true then te σ2 H3 fun v H4=>Pv (i+1) σ2 (vs++[v]) H4 else Pv (i+1) σ2 vs H3)
  (hd:∀σ vs H,Pv n σ vs H->∀p,H p=none->Q (.ref p) (upd H p (.lst vs))):CompW (Itr lo n) g tt te Q σ0 H0 :=
 comp_by n Pv h0 hlen hn (fun _ _ _ _ h _=>h) (fun _ _ _ _=>Nat.le_refl _) (fun i σ vs H x H' hi p y=>by obtain⟨rfl,rfl⟩:=y;exact hs i σ vs _ hi p) hd
theorem comp_list{K:PySem.W.Frag}{a:Addr}{xs:List V}(Pv:Nat->St->List V->Hp->Prop)(h0:Pv 0 σ0 [] H0)(hlen:∀i σ vs H,i<=xs.length->Pv i σ vs H->vs.length<=i)(hn:xs.length<=sizeLine)(hl:∀i σ vs H,i<=xs.length->Pv i σ vs H->SqL K H a xs)
  (hs:∀i x σ vs H,xs[i]?=some x->Pv i σ vs H->g x σ H fun σ2 H2=>tt σ2 H2 fun ok H3=>if ok=true then te σ2 H3 fun v H4=>Pv (i+1) σ2 (vs++[v]) H4 else Pv (i+1) σ2 vs H3)
  (hd:∀σ vs H,Pv xs.length σ vs H->∀p,H p=none->Q (.ref p) (upd H p (.lst vs))):CompW (Itl K a) g tt te Q σ0 H0:=by
 refine comp_by xs.length Pv h0 hlen hn (fun i σ vs H hi p=>⟨xs,xs[i],hl i σ vs H (Nat.le_of_lt hi) p,by simp[hi]⟩) (fun σ vs H p=>⟨xs,hl _ σ vs H (Nat.le_refl _) p,Nat.le_refl _⟩) (fun i σ vs H x H' hi p y=>?_) hd
 obtain⟨rfl,y⟩:=y
 exact hs i x σ vs _ (y xs (hl i σ vs _ (Nat.le_of_lt hi) p)) p
end
section
variable {prog:Program}{w:World}{A:Around}{E:Value->Shared->Prop}{s:Shared}
end
structure ZTold(h:Heap) (lo:Nat) (xs ys:Array Value) (as:List Nat):Prop where
 rise:as.Pairwise (· < ·)
 low:∀a∈as,lo<=a
 pairs:∀(j:Nat) (a:Nat),as[j]?=some a->∃x y,xs[j]?=some x/\ys[j]?=some y/\IsPair h a x y
theorem ZTold.keep{h h':Heap}{lo:Nat}{xs ys:Array Value}{as:List Nat}(g:ZTold h lo xs ys as)(k:∀c o,lo<=c->h.get? c=some o->h'.get? c=some o):ZTold h' lo xs ys as :=
 ⟨g.rise,g.low,fun j a e=>by
  obtain⟨x,y,e1,e2,e3⟩:=g.pairs j a e
  exact⟨x,y,e1,e2,k a _ (g.low a (List.mem_of_getElem? e)) e3⟩⟩
section
variable {prog:Program}{w:World}{A:Around}{R:Result->Shared->Prop}{s:Shared}
end
section
variable {prog:Program}{w:World}{A:Around}{E:Value->Shared->Prop}{s:Shared}
end
section
variable {X:Cx}{pins:List (Addr×Obj)}{σ:St}{H H':Hp}{s:Shared}{h':Heap}
end
section
variable {X:Cx}{a b:Expr}{t:TA}{p1 p2 p3 p4:Pos}
end
def Its(x:Str):It:=⟨fun i _=>i<x.cps.size,fun i H v H'=>H'=H/\∃c,x.cps[i]?=some c/\v=.str ⟨#[c]⟩,fun i _=>i=x.cps.size⟩
theorem turn_str{P:Program}{w:World}{K:PySem.W.Frag}{tg:Expr}(it:Addr)(x:Str)(t:Tok)(ty:String)
  (W:∀A':Around,A'.handled=none->Walks P w A' it [it] [it] x.cps.size (SignAt x) (fun i h=>h.IsStrIter it ty x t i))
  (hty:["enumerate","zip","dict_itemiterator","dict_reverseitemiterator","odict_iterator","itertools.zip_longest","itertools.pairwise"].contains ty=false)
  (hself:∀(A:Around) (i:Nat) (s:Shared) (Q:Value->Shared->Prop) (E:Value->Shared->Prop),s.heap.IsStrIter it ty x t i->Q (.ref it) s->wpAny (model P w) A (pyIter (.ref it)) Q E s):Turn P w K tg (Its x) [it] it (fun i h=>h.IsStrIter it ty x t i) where
 mem:=by simp
 obj:=fun i h st b hb=>by
  have e:b=it:=by simpa using hb
  subst e
  obtain⟨o,e,c,d⟩:=st
  exact⟨o,e,fun v z=>by rw[d]at z;cases z⟩
 keep:=fun i h h' st k=>let⟨o,e,r⟩:=st;⟨o,k it (by simp) o e,r⟩
 item:=by
  intro X hP hw hK hc i pins s σ H E I hf st hg
  subst hP hw hK
  obtain⟨f0,f1,f2,f3,f4,f5⟩:=hf it (by simp)
  refine(W X.A (I.ok.hd hc)).item i s _ _ hg st fun v h' tk hv st' kk=>?_
  obtain⟨c,u,hcu,rfl⟩:=hv
  have I1:Inv X pins σ H {s with heap:=h',toks:=tk}:=I.turned (fun b o hb e=>kk b o (by simpa using hb) e) f0 f1 f3 f4 f5
  obtain⟨o,e,cl,d⟩:=id st'
  exact⟨_,rfl,go_of (s:={s with heap:=h',toks:=tk}) (n:=ty) e cl d hty ⟨.str ⟨#[c]⟩,H,I1,⟨u,rfl⟩,⟨rfl,c,hcu,rfl⟩,st',fun b hb=>(hf b hb).1⟩⟩
 done:=by
  intro X hP hw hK hc i pins s σ H E I hf st hg
  subst hP hw hK
  obtain⟨f0,f1,f2,f3,f4,f5⟩:=hf it (by simp)
  have hi:i=x.cps.size:=hg
  subst hi
  exact(W X.A (I.ok.hd hc)).done s _ _ st fun h' tk kk=>⟨rfl,I.turned (fun b o hb e=>kk b o (by simpa using hb) e) f0 f1 f3 f4 f5⟩
 self:=fun A i s Q E st h=>hself A i s Q E st h
section
variable {X:Cx}{tg:Expr}
def iStr(te:TE):TI:=fun σ H R=>te σ H fun v H1=>∃x,v=.str x/\R (Its x) H1
theorem pi_str{e:Expr}{te:TE}(he:PE X e te):PI X tg e (iStr te):=by
 intro pins s σ H R I h
 refine thn (he pins s σ H _ I h) fun v s1 ⟨y,H1,I1,r1,x,e1,q⟩=>?_
 subst e1
 obtain⟨t,rfl⟩:=r1
 have fin:∀b∈[s1.heap.objs.size],FpOk X pins H1 b:=fun b hb=>by
  have e:b=s1.heap.objs.size:=by simpa using hb
  subst e
  exact I1.fpOk (Nat.le_refl _) (I1.hok.fresh (Nat.le_refl _))
 cases ha:x.cps.all (· < 128)
 ·exact wpAny_pyIter_wide ha ⟨s1.heap.objs.size,[s1.heap.objs.size],_,_,H1,rfl,I1.kept (t':=s1.toks) fun b o e=>Heap.get?_push_of_some _ e,
   turn_str _ x t "str_iterator" (fun A' hA=>Walks.strWide hA _ x t) (by decide) (fun A i s Q E st h=>wpAny_pyIter_striter_wide st h),⟨_,Heap.get?_push_size _ rfl,rfl,rfl⟩,fin,q⟩
 ·exact wpAny_pyIter_ascii ha ⟨s1.heap.objs.size,[s1.heap.objs.size],_,_,H1,rfl,I1.kept (t':=s1.toks) fun b o e=>Heap.get?_push_of_some _ e,
   turn_str _ x t "str_ascii_iterator" (fun A' hA=>Walks.strAscii hA _ x t) (by decide) (fun A i s Q E st h=>wpAny_pyIter_striter_ascii st h),⟨_,Heap.get?_push_size _ rfl,rfl,rfl⟩,fin,q⟩
end
section
variable {X:Cx}
theorem strs_of:∀{ys:List Str}{us:List Value},Vals (ys.map V.str) us->StrsAre us ys
 | [],_,.nil=>.nil
 |_::_,_,.cons ⟨t,e⟩ r=>by subst e;exact .cons _ t (strs_of r)
def rJoin(K:PySem.W.Frag):V->List V->Hp->VK->Prop:=fun x vs H Q=>∃z p ys,x=.str z/\vs=[.ref p]/\SqL K H p (ys.map V.str)/\(ys.map (·.length)).sum+ys.length*z.length<=16777216/\Q (.str (Txt.join z ys)) H
theorem mt_join:MtR X "str.join" (rJoin X.K):=by
 intro pins s σ H x xs v us Q I rx rs h
 obtain⟨z,p,ys,rfl,rfl,hq,hb,q⟩:=h
 obtain⟨t,rfl⟩:=rx
 obtain⟨u,rfl,ru⟩:=vals1 rs
 cases ru
 obtain⟨its,rv,pl,hz⟩:=I.list hq
 exact join_list pl.isList (by simpa using strs_of rv) hb fun t' k=>⟨.str _,H,I.tok _,⟨_,rfl⟩,q⟩
theorem bools_of:∀{bs:List Bool}{us:List Value},Vals (bs.map V.bl) us->LSm.BoolsAre us bs
 | [],_,.nil=>.nil
 |_::_,_,.cons e r=>by cases e;exact .cons _ (bools_of r)
theorem call_all(hc:X.calm=true):CallR X (.builtin "all") (fun xs H Q=>∃(p:Addr) (bs:List Bool),xs=[.ref p]/\SqL X.K H p (bs.map V.bl)/\Q (.bl (bs.all id)) H):=by
 intro pins s σ H xs us Q I r h
 obtain⟨p,bs,rfl,hq,q⟩:=h
 obtain⟨u,rfl,ru⟩:=vals1 r
 cases ru
 obtain⟨its,rv,pl,hz⟩:=I.list hq
 have hb:=bools_of rv
 have hl:=pl.isList
 have hlt:p<s.heap.objs.size:=by obtain⟨_,e,_⟩:=hl;exact Heap.lt_size e
 refine call_all_walk (wpAny_pyIter_list hl ?_)
 refine⟨s.heap.objs.size,[s.heap.objs.size,p],[s.heap.objs.size],its.toArray.size,_,_,fun i=>(bs[i]?).getD true,rfl,Walks.list (A:=X.A.in1) (I.ok.hd hc) _ p (Nat.ne_of_lt hlt) its.toArray,
  ⟨⟨_,Heap.get?_push_size _ rfl,rfl,rfl⟩,hl.push _⟩,fun i v s' Q' E' hP hQ=>?_,fun h' tk hk=>?_⟩
 ·obtain⟨b,e,rfl⟩:=hb.get i v (by simpa using hP)
  simp only[e,Option.getD_some]at hQ
  exact wpAny_truthy_bool hQ
 ·have e:((List.range its.toArray.size).all fun i=>(bs[i]?).getD true)=bs.all id:=by
   rw[List.size_toArray,hb.length];exact LSm.range_all bs
  rw[e]
  exact⟨.bl _,H,I.kept (LSm.kept_iter hk),rfl,q⟩
def isB:V->String->Option Bool
 |.bl _,"bool"=>some true
 |.bl _,"int"=>some true
 |.int _,"int"=>some true
 |.int _,"bool"=>some false
 |_,_=>none
theorem call_isB:CallR X (.builtin "isinstance") (fun xs H Q=>∃x T r,xs=[x,.ty T]/\isB x T=some r/\Q (.bl r) H):=by
 intro pins s σ H xs us Q I r h
 obtain⟨x,T,b,rfl,e,q⟩:=h
 obtain⟨u,w',rfl,r1,r2⟩:=vals2 r
 obtain rfl:w'=Value.type T:=r2
 unfold isB at e
 split at e
 ·cases e;obtain rfl:u=Value.bool _:=r1;exact IsiPair.bool_bool ⟨.bl _,H,I,rfl,q⟩
 ·cases e;obtain rfl:u=Value.bool _:=r1;exact IsiPair.bool_int ⟨.bl _,H,I,rfl,q⟩
 ·cases e;obtain⟨t,rfl⟩:=r1;exact IsiPair.int_int ⟨.bl _,H,I,rfl,q⟩
 ·cases e;obtain⟨t,rfl⟩:=r1;exact IsiPair.int_bool ⟨.bl _,H,I.tok _,rfl,q⟩
 ·cases e
def rSlS:V->Option Int->Option Int->Hp->VK->Prop:=fun x lo hi H Q=>∃z,x=.str z/\z.length<=sizeLine/\Q (.str (Txt.slice z lo hi)) H
theorem part_of{v:Value}{o:Option Int}(h:IsPart v o):∃p:Option (Int×Tok),v=partValue p/\p.map (·.1)=o:=by
 cases h with
 |none=>exact⟨none,rfl,rfl⟩
 |int i t=>exact⟨some (i,t),rfl,rfl⟩
theorem sl_str:SlR X rSlS:=by
 intro pins s σ H x v vl vu lo hi sl Q I rx hs pl pu h
 obtain⟨z,rfl,hz,q⟩:=h
 obtain⟨t,rfl⟩:=rx
 obtain⟨p1,rfl,e1⟩:=part_of pl
 obtain⟨p2,rfl,e2⟩:=part_of pu
 refine⟨"str",_,PySem.F.slot_str_getitem.lookup,typeIs_str s z t,?_⟩
 refine wpAny_getItem_str_slice (l:=p1) (u:=p2) (st:=none) hs rfl ?_
 subst e1 e2
 cases p1<;>cases p2<;>exact post_val_or_str ⟨Nat.le_trans (Txt.slice_le z _ _) hz,fun t' k=>⟨.str _,H,I.tok _,⟨_,rfl⟩,q⟩⟩
end
def pickV(xs:List V)(lo hi st:Option Int):List V:=(sliceRange (sliceBounds lo hi st xs.length).1 (sliceBounds lo hi st xs.length).2.1 (sliceBounds lo hi st xs.length).2.2).filterMap (xs[·]?)
theorem vals_pick{xs:List V}{us:List Value}(r:Vals xs us):∀ix:List Nat,Vals (ix.filterMap (xs[·]?)) (ix.filterMap (us[·]?))
 | []=>.nil
 |i::ix=>by
  rw[List.filterMap_cons,List.filterMap_cons]
  cases e:xs[i]? with
  |none=>rw[r.none_of e];exact vals_pick r ix
  |some x =>
   obtain⟨u,e2,rx⟩:=r.get e
   rw[e2]
   exact .cons rx (vals_pick r ix)
section
variable {X:Cx}{e st:Expr}{lo hi:Option Expr}{te:TE}{tl th tk:TO}{p2 pos:Pos}
def tSl3(K:PySem.W.Frag)(te:TE)(tl th tk:TO):TE:=fun σ H Q=>te σ H fun x H1=>tl σ H1 fun l H2=>th σ H2 fun u H3=>tk σ H3 fun k H4=>∃a xs,x=.ref a/\SqL K H4 a xs/\k≠some 0/\(pickV xs l u k).length<=sizeLine /\
 ∀p,H4 p=none->Q (.ref p) (upd H4 p (.lst (pickV xs l u k)))
theorem pe_slice3(he:PE X e te)(hl:PO X lo tl)(hu:PO X hi th)(hk:PO X (some st) tk):PE X (.Subscript e (.Slice lo hi (some st) p2) pos) (tSl3 X.K te tl th tk):=by
 intro pins s σ H Q I h
 refine Subscript_ (thn (he pins s σ H _ I h) fun v s1 ⟨x,H1,I1,r1,q1⟩=>?_)
 refine wpAny_Slice (thn (hl pins s1 σ H1 _ I1 q1) fun vl s2 ⟨l,H2,I2,pl,q2⟩=>thn (hu pins s2 σ H2 _ I2 q2) fun vu s3 ⟨u,H3,I3,pu,q3⟩=>thn (hk pins s3 σ H3 _ I3 q3) fun vk s4 ⟨k,H4,I4,pk,q4⟩=>?_)
 obtain⟨a,xs,rfl,hx,k0,hz2,q⟩:=q4
 cases r1
 have I5:Inv X pins σ H4 {s4 with heap:=s4.heap.push {cls:=.type "slice",data:=.fields #[vl,vu,vk]}}:=I4.kept (t':=s4.toks) fun b ob q=>Heap.get?_push_of_some _ q
 obtain⟨its,r,ht,hz⟩:=I5.list hx
 have hlen:=r.length
 refine tail_any (T:="list") (ops:=[.ref a,.ref s4.heap.objs.size]) ht.isList.typeIs slot_list_getitem.lookup ?_ (by with_unfolding_all rfl)
 refine wpAny_getItem_list_slice ht.isList (Heap.IsSliceOf.new ..) pl pu pk k0 ?_ (by rw[List.size_toArray]<;>omega)
 have ep:slicePick its.toArray l u k=((sliceRange (sliceBounds l u k xs.length).1 (sliceBounds l u k xs.length).2.1 (sliceBounds l u k xs.length).2.2).filterMap (its[·]?)).toArray:=by
  unfold slicePick
  rw[List.size_toArray,←hlen]
  simp
 rw[ep]
 refine⟨.ref _,_,I5.laid (t':=s4.toks) (o:=.lst (pickV xs l u k)) (fun b ob q=>Heap.get?_push_of_some _ q) (Nat.le_refl _) ?_,rfl,q _ (I5.hok.fresh (Nat.le_refl _))⟩
 exact⟨hz2,_,0,vals_pick r _,Heap.get?_push_size _ rfl⟩
end
theorem pick_of{xs:List V}{lo hi st:Option Int}{ix:List Nat}(h:sliceRange (sliceBounds lo hi st xs.length).1 (sliceBounds lo hi st xs.length).2.1 (sliceBounds lo hi st xs.length).2.2=ix):pickV xs lo hi st=ix.filterMap (xs[·]?):=by
 unfold pickV
 rw[h]
def strE:Expr->Option Str
 |.Constant (.str x) _ _=>some x
 |_=>none
def strsOf:List Expr->Option (List Str)
 | []=>some []
 |e::r=>(strE e).bind fun x=>(strsOf r).map (x::·)
def tStrs(xs:List Str):TA:=fun _ H Q=>Q (xs.map V.str) H
theorem strE_eq{e:Expr}{x:Str}(h:strE e=some x):∃j p,e=.Constant (.str x) j p:=by
 unfold strE at h
 split at h
 ·cases h;exact⟨_,_,rfl⟩
 ·cases h
theorem pa_strs{X:Cx}{es:List Expr}:∀{xs:List Str},strsOf es=some xs->PA X es (tStrs xs):=by
 induction es with
 |nil=>intro xs h;cases h;exact pa_nil
 |cons e r ih =>
  intro xs h
  unfold strsOf at h
  cases h1:strE e with
  |none=>rw[h1]at h;cases h
  |some x =>
   cases h2:strsOf r with
   |none=>rw[h1,h2]at h;cases h
   |some ys =>
    rw[h1,h2]at h
    cases h
    obtain⟨j,p,rfl⟩:=strE_eq h1
    exact pa_cons pe_str (ih h2) rfl
end L2
namespace L2
open PySem PySem.Spec PyProof.Rows PySem.SeqAt
section
variable {X:Cx}
end
mutual
def Rp(K:PySem.W.Frag)(H:Hp):T->V->Prop
 |.s x,v=>v=.str x
 |.i n,v=>v=.int n
 |.n,v=>v=.non
 |.t xs,v=>∃a vs,v=.ref a/\SqT K H a vs/\Rps K H xs vs
def Rps(K:PySem.W.Frag)(H:Hp):List T->List V->Prop
 | [],vs=>vs=[]
 |x::r,vs=>∃v q,vs=v::q/\Rp K H x v/\Rps K H r q
end
def Kt(H H':Hp):Prop:=∀a xs,Rd H a (.tup xs)->Rd H' a (.tup xs)
theorem Kt.refl{H:Hp}:Kt H H:=fun _ _ h=>h
theorem Kt.trans{H H1 H2:Hp}(a:Kt H H1)(b:Kt H1 H2):Kt H H2:=fun c xs h=>b c xs (a c xs h)
theorem Kt.same{H H':Hp}(s:Same H H'):Kt H H':=fun a xs h=>h.elim (fun e=>.inl (s _ _ e)) fun⟨o,e⟩=>.inr ⟨o,s _ _ e⟩
theorem Kt.new{H:Hp}{p:Addr}(h:H p=none)(o:HO):Kt H (upd H p o):=fun a xs r=>r.elim (fun e=>.inl (by rw[upd_ne (ne_of_none e h)];exact e)) fun⟨u,e⟩=>.inr ⟨u,by rw[upd_ne (ne_of_none e h)];exact e⟩
theorem Kt.upd{H:Hp}{l:Addr}{u:HO}(h:H l=some u)(h1:∀xs,u≠.tup xs)(h2:∀o xs,u≠.frz o (.tup xs))(o:HO):Kt H (upd H l o):=fun a xs r=>by
 rcases r with e|⟨p,e⟩
 ·exact .inl (by rw[upd_ne (ne_of e h fun z=>h1 _ z.symm)];exact e)
 ·exact .inr ⟨p,by rw[upd_ne (ne_of e h fun z=>h2 _ _ z.symm)];exact e⟩
theorem Kt.lst{H:Hp}{l:Addr}{xs:List V}(h:H l=some (.lst xs))(o:HO):Kt H (L2.upd H l o):=Kt.upd h (fun _ z=>nomatch z) (fun _ _ z=>nomatch z) o
section
variable {K:PySem.W.Frag}{H H':Hp}
theorem SqT.kt(k:Kt H H'){a:Addr}{xs:List V}(h:SqT K H a xs):SqT K H' a xs:=h.elim (fun e=>.inl (k _ _ e)) .inr
theorem Rps.all(f:∀{x v},Rp K H x v->Rp K H' x v):∀{xs:List T}{vs:List V},Rps K H xs vs->Rps K H' xs vs
 | [],vs,h=>by unfold Rps at h⊢;exact h
 |x::r,vs,h=>by
  unfold Rps at h⊢
  obtain⟨v,q,e,h1,h2⟩:=h
  exact⟨v,q,e,f h1,Rps.all f h2⟩
theorem Rps.nil:Rps K H [] []:=by unfold Rps;rfl
theorem Rps.cons{x:T}{v:V}{r:List T}{q:List V}(h:Rp K H x v)(t:Rps K H r q):Rps K H (x::r) (v::q):=by unfold Rps;exact⟨v,q,rfl,h,t⟩
theorem Rps.inv{x:T}{r:List T}{vs:List V}(h:Rps K H (x::r) vs):∃v q,vs=v::q/\Rp K H x v/\Rps K H r q:=by unfold Rps at h;exact h
theorem Rps.inv0{vs:List V}(h:Rps K H [] vs):vs=[]:=by unfold Rps at h;exact h
theorem Rp.s{x:Str}:Rp K H (.s x) (.str x):=by unfold Rp;rfl
theorem Rp.i{n:Int}:Rp K H (.i n) (.int n):=by unfold Rp;rfl
theorem Rp.non:Rp K H .n .non:=by unfold Rp;rfl
theorem Rp.t{xs:List T}{vs:List V}{a:Addr}(h:SqT K H a vs)(r:Rps K H xs vs):Rp K H (.t xs) (.ref a):=by unfold Rp;exact⟨a,vs,rfl,h,r⟩
theorem Rp.inv_s{x:Str}{v:V}(h:Rp K H (.s x) v):v=.str x:=by unfold Rp at h;exact h
theorem Rp.inv_i{n:Int}{v:V}(h:Rp K H (.i n) v):v=.int n:=by unfold Rp at h;exact h
theorem Rp.inv_t{xs:List T}{v:V}(h:Rp K H (.t xs) v):∃a vs,v=.ref a/\SqT K H a vs/\Rps K H xs vs:=by unfold Rp at h;exact h
theorem Rp.kt(k:Kt H H'){x:T}:∀{v:V},Rp K H x v->Rp K H' x v:=by
 induction x using T.induct with
 |hs x=>intro v h;rw[h.inv_s];exact .s
 |hi x=>intro v h;rw[h.inv_i];exact .i
 |hn=>intro v h;unfold Rp at h;rw[h];exact .non
 |ht xs ih =>
  intro v h
  obtain⟨a,vs,rfl,hs,hr⟩:=h.inv_t
  refine .t (hs.kt k) ?_
  clear hs h
  induction xs generalizing vs with
  |nil=>rw[hr.inv0];exact .nil
  |cons x r ih2 =>
   obtain⟨v,q,rfl,h1,h2⟩:=hr.inv
   exact .cons (ih x (.head _) h1) (ih2 (fun y hy=>ih y (.tail _ hy)) _ h2)
theorem Rps.kt(k:Kt H H'){xs:List T}{vs:List V}(h:Rps K H xs vs):Rps K H' xs vs:=Rps.all (fun h=>h.kt k) h
theorem Rps.length:∀{xs:List T}{vs:List V},Rps K H xs vs->vs.length=xs.length
 | [],vs,h=>by rw[h.inv0];rfl
 |x::r,vs,h=>by
  obtain⟨v,q,rfl,_,h2⟩:=h.inv
  rw[List.length_cons,List.length_cons,Rps.length h2]
theorem Rps.get:∀{xs:List T}{vs:List V}{i:Nat}{x:T},Rps K H xs vs->xs[i]?=some x->∃v,vs[i]?=some v/\Rp K H x v
 | [],vs,i,x,h,e=>by simp at e
 |x::r,vs,0,y,h,e=>by
  obtain⟨v,q,rfl,h1,_⟩:=h.inv
  simp at e;subst e
  exact⟨v,rfl,h1⟩
 |x::r,vs,i+1,y,h,e=>by
  obtain⟨v,q,rfl,_,h2⟩:=h.inv
  obtain⟨w,h3,h4⟩:=Rps.get (i:=i) h2 (by simpa using e)
  exact⟨w,by simpa using h3,h4⟩
theorem Rps.get':∀{xs:List T}{vs:List V}{i:Nat}{v:V},Rps K H xs vs->vs[i]?=some v->∃x,xs[i]?=some x/\Rp K H x v:=fun{xs vs i v} h e=>by
 have l:=h.length
 have hi:i<xs.length:=by
  rcases Nat.lt_or_ge i vs.length with z|z
  ·omega
  ·rw[List.getElem?_eq_none_iff.mpr z]at e;cases e
 obtain⟨w,h1,h2⟩:=h.get (List.getElem?_eq_getElem hi)
 rw[e]at h1;cases h1
 exact⟨_,List.getElem?_eq_getElem hi,h2⟩
theorem Rps.append:∀{xs ys:List T}{vs ws:List V},Rps K H xs vs->Rps K H ys ws->Rps K H (xs++ys) (vs++ws)
 | [],ys,vs,ws,h,g=>by rw[h.inv0];exact g
 |x::r,ys,vs,ws,h,g=>by
  obtain⟨v,q,rfl,h1,h2⟩:=h.inv
  exact .cons h1 (Rps.append h2 g)
theorem Rps.one{x:T}{v:V}(h:Rp K H x v):Rps K H [x] [v]:=.cons h .nil
theorem Rps.snoc{xs:List T}{vs:List V}{x:T}{v:V}(h:Rps K H xs vs)(g:Rp K H x v):Rps K H (xs++[x]) (vs++[v]):=h.append (.one g)
theorem Rps.split:∀{xs ys:List T}{vs:List V},Rps K H (xs++ys) vs->∃ws us,vs=ws++us/\Rps K H xs ws/\Rps K H ys us
 | [],ys,vs,h=>⟨[],vs,rfl,.nil,h⟩
 |x::r,ys,vs,h=>by
  obtain⟨v,q,rfl,h1,h2⟩:=Rps.inv h
  obtain⟨ws,us,rfl,h3,h4⟩:=Rps.split h2
  exact⟨v::ws,us,rfl,.cons h1 h3,h4⟩
end
section
variable {X:Cx}{pins:List (Addr×Obj)}{σ:St}{H:Hp}{s:Shared}
end
end L2
namespace L2
open PySem PySem.Spec PyProof.Rows
theorem ifT{b:Bool}{A B:Prop}(e:b=true)(h:A):if b=true then A else B:=by rw[if_pos e];exact h
theorem ifF{b:Bool}{A B:Prop}(e:b=false)(h:B):if b=true then A else B:=by rw[if_neg (by rw[e];exact Bool.false_ne_true)];exact h
section
variable {X:Cx}
theorem pg_tupK{pos:Pos}{es:List Expr}{k:Nat}{t:TGs}{n:Nat}(K:PySem.W.Frag)(hK:X.K=K)(hc:X.calm=true)(h:PGs X es t)(hn:(assignEach es X.env).length=n:=by rfl)(hst:(assignEach es X.env).findIdx? (·.1)=none:=by rfl):PG X (.Tuple es k pos) (gTup K n t):=by
 subst hK
 exact pg_tup hc h hn hst
theorem ix_listK(K:PySem.W.Frag)(hK:X.K=K):IxR X (rIxL K):=by subst hK;exact ix_list
theorem op_in_seqK(K:PySem.W.Frag)(hK:X.K=K):OpR X (compareOp .In) (rIn K false):=by subst hK;exact op_in_seq
theorem call_len_seqK(K:PySem.W.Frag)(hK:X.K=K):CallR X (.builtin "len") (fun xs H Q=>∃p ys,xs=[.ref p]/\(SqL K H p ys\/SqT K H p ys)/\Q (.int ys.length) H):=by subst hK;exact call_len_seq
def KDs(w:World):List DictEntry->List (Str×V)->Prop
 | [],kvs=>kvs=[]
 |e::r,kvs=>∃x v q,kvs=(x,v)::q/\(∃t,e.key=.str x t)/\e.hash=hashStr w x/\RelV v e.val/\KDs w r q
def KD(K:PySem.W.Frag)(w:World)(d:Addr)(kvs:List (Str×V)):Prop :=
 ∃(es:Array DictEntry) (n:Nat),K.lookup d=some {cls:=.type "dict",dict:=none,data:=.dict es n,slots:=#[]}/\KDs w es.toList kvs/\(kvs.map (·.1)).Nodup/\(d == sysModules)=false
theorem KDs.keys{w:World}{P:Program}:∀{es:List DictEntry}{kvs:List (Str×V)},KDs w es kvs->∃vs:List (Str×Value),Pairs (PySem.strKind P w) es vs/\(∀e∈es,∃k,(PySem.strKind P w).is k e.key=true/\e.hash=(PySem.strKind P w).hash k)/\vs.map (·.1)=kvs.map (·.1) /\
  ∀k,RelO (kvs.lookup k) (valueAt vs k)
 | [],kvs,h=>by
  obtain rfl:kvs=[]:=h
  exact⟨[],.nil,(fun _ h=>nomatch h),rfl,fun _=>trivial⟩
 |e::r,kvs,h=>by
  obtain⟨x,v,q,rfl,⟨t,hk⟩,hh,rv,hr⟩:=h
  obtain⟨vs,h1,h2,h3,h4⟩:=KDs.keys (P:=P) hr
  have ek:(PySem.strKind P w).is x e.key=true:=by rw[hk];exact(by simp[PySem.strKind,Value.isStrOf]:(PySem.strKind P w).is x (.str x t)=true)
  refine⟨(x,e.val)::vs,.cons ek rfl h1,fun e' he=>?_,by rw[List.map_cons,List.map_cons,h3],fun k=>?_⟩
  ·cases he with
   |head=>exact⟨x,ek,hh⟩
   |tail _ he=>exact h2 e' he
  ·rw[List.lookup_cons]
   by_cases c:k=x
   ·subst c
    rw[beq_self_eq_true]
    simp only[valueAt,List.find?_cons,decide_true,Option.map_some]
    exact rv
   ·rw[beq_false_of_ne c]
    have z:=h4 k
    have e1:valueAt ((x,e.val)::vs) k=valueAt vs k:=by
     simp only[valueAt,List.find?_cons]
     rw[decide_eq_false (fun q=>c q.symm)]
    rw[e1]
    exact z
theorem KD.dict{K:PySem.W.Frag}{P:Program}{w:World}{d:Addr}{kvs:List (Str×V)}(D:KD K w d kvs){h:Heap}(X:K.In h):∃vs,h.DictOf (PySem.strKind P w) d vs/\(d == sysModules)=false/\∀k,RelO (kvs.lookup k) (valueAt vs k):=by
 obtain⟨es,n,e,hs,nd,hd⟩:=D
 obtain⟨vs,h1,h2,h3,h4⟩:=KDs.keys (P:=P) hs
 exact⟨vs,⟨_,es,n,X _ _ e,⟨rfl,rfl,rfl⟩,rfl,fun e' he=>h2 e' (by simpa using he),h1,by rw[h3];exact nd⟩,hd,h4⟩
theorem strK_is{P:Program}{w:World}{x:Str}{t:Tok}:(PySem.strKind P w).is x (.str x t)=true:=by simp[PySem.strKind,Value.isStrOf]
def rKIn(K:PySem.W.Frag)(w:World):R2:=fun x y H Q=>∃k d kvs,x=.str k/\y=.ref d/\KD K w d kvs/\Q (.bl (kvs.lookup k).isSome) H
theorem RelO.isSome'{a:Option V}{b:Option Value}(r:RelO a b):b.isSome=a.isSome:=by
 cases a<;>cases b<;>first|rfl|exact r.elim
theorem op_inKD:OpR X (compareOp .In) (rKIn X.K X.w):=by
 intro pins s σ H x y v u Q I rx ry h
 obtain⟨k,d,kvs,rfl,rfl,D,q⟩:=h
 obtain⟨t,rfl⟩:=rx
 obtain rfl:u=Value.ref d:=ry
 obtain⟨vs,dd,hd,rel⟩:=D.dict (P:=X.prog) I.kIn
 refine wpAny_in_of strK_is hd dd.mapOf ?_
 rw[(rel k).isSome']
 exact⟨.bl _,H,I.tok _,rfl,q⟩
def tKGet(K:PySem.W.Frag)(w:World)(td ty:TE):TE:=fun σ H Q=>td σ H fun x H1=>ty σ H1 fun y H2=>∃d kvs k v,x=.ref d/\y=.str k/\KD K w d kvs/\kvs.lookup k=some v/\Q v H2
theorem pe_kget{o i:Expr}{pos:Pos}{td ty:TE}(ho:PE X o td)(hi:PE X i ty)(hs:NoSl i):PE X (.Subscript o i pos) (tKGet X.K X.w td ty):=by
 intro pins s σ H Q I h
 refine subD_of PySem.F.slot_dict_getitem.lookup hs (thn (ho pins s σ H _ I h) fun u s1 ⟨x,H1,I1,rx,q1⟩=>thn (hi pins s1 σ H1 _ I1 q1) fun iv s2 ⟨y,H2,I2,ry,d,kvs,k,v,ex,ey,D,lk,q2⟩=>?_)
 subst ex ey
 obtain rfl:u=Value.ref d:=rx
 obtain⟨t,rfl⟩:=ry
 obtain⟨vs,dd,hd,rel⟩:=D.dict (P:=X.prog) I2.kIn
 obtain⟨w',hw,rw'⟩:=RelO.some_of (v:=v) (o:=valueAt vs k) (by rw[←lk];exact rel k)
 exact⟨dd.typeIs,wpAny_getItem_of strK_is dd.mapOf hw ⟨v,H2,I2.tok _,rw',q2⟩⟩
end
section
variable {g:TG}{tt:TT}{te:TE}{Q:VK}{σ0:St}{H0:Hp}
theorem comp_tup{K:PySem.W.Frag}{a:Addr}{xs:List V}(Pv:Nat->St->List V->Hp->Prop)(h0:Pv 0 σ0 [] H0)(hlen:∀i σ vs H,i<=xs.length->Pv i σ vs H->vs.length<=i)(hn:xs.length<=sizeLine)(hl:∀i σ vs H,i<=xs.length->Pv i σ vs H->SqT K H a xs)
  (hs:∀i x σ vs H,xs[i]?=some x->Pv i σ vs H->g x σ H fun σ2 H2=>tt σ2 H2 fun ok H3=>if ok=true then te σ2 H3 fun v H4=>Pv (i+1) σ2 (vs++[v]) H4 else Pv (i+1) σ2 vs H3)
  (hd:∀σ vs H,Pv xs.length σ vs H->∀p,H p=none->Q (.ref p) (upd H p (.lst vs))):CompW (Itt K a) g tt te Q σ0 H0:=by
 refine comp_by xs.length Pv h0 hlen hn (fun i σ vs H hi p=>⟨xs,xs[i],hl i σ vs H (Nat.le_of_lt hi) p,by simp[hi]⟩) (fun σ vs H p=>⟨xs,hl _ σ vs H (Nat.le_refl _) p,Nat.le_refl _⟩) (fun i σ vs H x H' hi p y=>?_) hd
 obtain⟨rfl,y⟩:=y
 exact hs i x σ vs _ (y xs (hl i σ vs _ (Nat.le_of_lt hi) p)) p
end
section
variable {X:Cx}{pins:List (Addr×Obj)}{σ:St}{H:Hp}{s:Shared}
end
theorem atS{z:Str}{r:Int}(h0:0<=r)(h:r<(z.length:Int)):∃c,atI z.cps.toList r=some c/\c∈z.cps.toList:=by
 have e:z.cps.toList.length=z.length:=by simp[Str.length]
 have hk:r.toNat<z.cps.toList.length:=by rw[e];omega
 have ek:r=((r.toNat:Nat):Int):=by omega
 have q:atI z.cps.toList ((r.toNat:Nat):Int)=some z.cps.toList[r.toNat]:=atI_nat (List.getElem?_eq_getElem hk)
 rw[←ek]at q
 exact⟨_,q,List.getElem_mem hk⟩
theorem join_cs(cs:List Nat):Txt.join "" (cs.map fun c=>(⟨#[c]⟩:Str))=⟨cs.toArray⟩:=by
 show Builtin.Str.glued (Str.ofString "") _=_
 rw[StrLaws.glued_eq_join]
 exact PyProof.Rows.join_ones cs
theorem sum_ones(l:List Nat):((l.map fun c=>(⟨#[c]⟩:Str)).map (·.length)).sum=l.length:=by
 induction l with
 |nil=>rfl
 |cons c r ih=>rw[List.map_cons,List.map_cons,List.sum_cons,ih,List.length_cons];show 1+_=_;omega
end L2
namespace L2
open PySem
def FeedAt(H:Hp)(f:Addr):Prop:=∃p q:Int,H f=some (.lst [.int p,.int q])
def Ext(f:Addr)(H H':Hp):Prop:=(∀b o,b≠f->H b=some o->H' b=some o)/\FeedAt H' f
theorem Ext.refl{f:Addr}{H:Hp}(h:FeedAt H f):Ext f H H:=⟨fun _ _ _ e=>e,h⟩
theorem Ext.trans{f:Addr}{H H1 H2:Hp}(a:Ext f H H1)(b:Ext f H1 H2):Ext f H H2:=⟨fun c o n e=>b.1 c o n (a.1 c o n e),b.2⟩
theorem Ext.same{f:Addr}{H H1 H2:Hp}(a:Ext f H H1)(s:Same H1 H2):Ext f H H2:=⟨fun c o n e=>s c o (a.1 c o n e),let⟨p,q,e⟩:=a.2;⟨p,q,s f _ e⟩⟩
theorem same_new{H:Hp}{p:Addr}(h:H p=none)(o:HO):Same H (upd H p o):=fun b u q=>by rw[upd_ne (ne_of_none q h)];exact q
theorem FeedAt.same{f:Addr}{H H':Hp}(h:FeedAt H f)(s:Same H H'):FeedAt H' f:=let⟨p,q,e⟩:=h;⟨p,q,s f _ e⟩
theorem Ext.tup{f:Addr}{H H':Hp}(e:Ext f H H')(hf:FeedAt H f){a:Addr}{xs:List V}(h:H a=some (.tup xs)):H' a=some (.tup xs):=by
 refine e.1 a _ ?_ h
 obtain⟨p,q,hf⟩:=hf
 exact ne_of h hf (by intro z;cases z)
def spTake:Sp:=fun vs H Q _=>∃(f:Addr) (m:Int),vs=[.ref f,.int m]/\0<m/\m<1073741824/\FeedAt H f/\∀(r:Int) (H':Hp),0<=r->r<m->Ext f H H'->Q (.int r) H'
def spFeed(K:PySem.W.Frag):Sp:=fun vs H Q _=>∃(a:Addr) (ns:List Int) (k:Int),vs=[.ref a,.int k]/\SqL K H a (ns.map V.int)/\ns.length<=63/\0<=k/\k<=100 /\
 ∀(r:Addr) (H':Hp),Same H H'->H r=none->FeedAt H' r->Q (.ref r) H'
theorem small{n:Nat}(h:n<=1000):n<=sizeLine:=Nat.le_of_lt (small1000 h)
theorem atI_int{ns:List Int}{k:Int}(h0:0<=k)(h:k<(ns.length:Int)):∃v:Int,atI (ns.map V.int) k=some (.int v):=by
 have hk:k.toNat<ns.length:=by omega
 have ek:k=((k.toNat:Nat):Int):=by omega
 have q:atI (ns.map V.int) ((k.toNat:Nat):Int)=some (.int ns[k.toNat]):=atI_nat (by rw[List.getElem?_map,List.getElem?_eq_getElem hk]<;>rfl)
 rw[←ek]at q
 exact⟨_,q⟩
theorem atI_of{α:Type}{xs:List α}{k:Int}(h0:0<=k)(h:k<(xs.length:Int)):∃v:α,atI xs k=some v/\v∈xs:=by
 have hk:k.toNat<xs.length:=by omega
 have ek:k=((k.toNat:Nat):Int):=by omega
 have q:atI xs ((k.toNat:Nat):Int)=some xs[k.toNat]:=atI_nat (List.getElem?_eq_getElem hk)
 rw[←ek]at q
 exact⟨_,q,List.getElem_mem hk⟩
theorem Ext.kt{f:Addr}{H H':Hp}(e:Ext f H H')(hf:FeedAt H f):Kt H H':=fun a xs r=>by
 obtain⟨p,q,hf⟩:=hf
 rcases r with h|⟨o,h⟩
 ·exact .inl (e.1 a _ (ne_of h hf (by intro z;cases z)) h)
 ·exact .inr ⟨o,e.1 a _ (ne_of h hf (by intro z;cases z)) h⟩
theorem Ext.lst{f:Addr}{H H':Hp}(e:Ext f H H'){l:Addr}{xs:List V}(n:l≠f)(h:H l=some (.lst xs)):H' l=some (.lst xs):=e.1 l _ n h
theorem Ext.new{f:Addr}{H H':Hp}(e:Ext f H H'){p:Addr}(h:H' p=none)(o:HO):Ext f H (L2.upd H' p o):=e.same (same_new h o)
structure Has(P:Program) (w:World) (K:PySem.W.Frag) (mg:Str->Option Value) (base:Heap) (x:Str) (k:Nat) (ps:List Str) (sp:Sp) (f:Addr) (fd:FuncData):Prop where
 ok:FnOk P w K mg base CX0 k f fd ps sp
 at':mg x=some (.ref f)
 kp:PySem.W.keepIn K (.ref f)=true
 bd:Binds K fd ps []
theorem fn_none{P:Program}{w:World}{K:PySem.W.Frag}{mg:Str->Option Value}{base:Heap}{k:Nat}{f:Addr}{fd:FuncData}{ps:List Str}{sp:Sp}(h:∀vs H Q E,¬sp vs H Q E):FnOk P w K mg base CX0 k f fd ps sp :=
 ⟨fun vs H Q E z=>(h vs H Q E z).elim,fun _ _ _ _ _ _ _ _ _ _ _ _ _ z=>(h _ _ _ _ z).elim⟩
end L2
namespace L2
open PySem PySem.Spec PyProof.Rows
theorem SqT.same{K:PySem.W.Frag}{H H':Hp}(e:Same H H'){a:Addr}{xs:List V}(h:SqT K H a xs):SqT K H' a xs:=h.kt (Kt.same e)
theorem Rp.same{K:PySem.W.Frag}{H H':Hp}(e:Same H H'){x:T}{v:V}(h:Rp K H x v):Rp K H' x v:=h.kt (Kt.same e)
theorem Rps.same{K:PySem.W.Frag}{H H':Hp}(e:Same H H'){x:List T}{v:List V}(h:Rps K H x v):Rps K H' x v:=h.kt (Kt.same e)
theorem Rp.new{K:PySem.W.Frag}{H:Hp}{p:Addr}(hp:H p=none){xs:List T}{vs:List V}(h:Rps K H xs vs):Rp K (upd H p (.tup vs)) (.t xs) (.ref p):=.t (.of upd_same) (h.same (same_new hp _))
section
variable {K:PySem.W.Frag}{Q:VK}{H0:Hp}
end
theorem filterMap_somes{α β:Type}(f:α->Option β)(g:α->β):∀(l:List α),(∀a∈l,f a=some (g a))->l.filterMap f=l.map g
 | [],_=>rfl
 |a::r,h=>by rw[List.filterMap_cons,h a (.head _),List.map_cons,filterMap_somes f g r fun b hb=>h b (.tail _ hb)]
theorem range_rev{α:Type}(xs:List α):((List.range xs.length).map fun k=>xs.length-1-k).filterMap (xs[·]?)=xs.reverse:=by
 cases xs with
 |nil=>rfl
 |cons x r =>
  rw[List.filterMap_map,filterMap_somes _ (fun k=>(x::r).reverse.getD k x)]
  ·apply List.ext_getElem
   ·simp
   ·intro i h1 h2
    simp only[List.getElem_map,List.getElem_range]
    simp at h1
    simp only[List.getD_eq_getElem?_getD]
    rw[List.getElem?_eq_getElem h2]
    rfl
  ·intro k hk
   have hk':=List.mem_range.mp hk
   show(x::r)[(x::r).length-1-k]?=_
   have h2:k<(x::r).reverse.length:=by simpa using hk'
   simp only[List.getD_eq_getElem?_getD]
   rw[List.getElem?_eq_getElem h2,List.getElem_reverse,List.getElem?_eq_getElem (by omega)]
   rfl
theorem rev_range(n:Nat):sliceRange (sliceBounds none none (some (-1)) n).1 (sliceBounds none none (some (-1)) n).2.1 (sliceBounds none none (some (-1)) n).2.2=(List.range n).map fun k=>n-1-k:=by
 show sliceRange ((n:Int) - 1) (-1) (-1)=_
 unfold sliceRange
 have c:(if(-1:Int)>0 then(if(n:Int) - 1 < -1 then(-1 - ((n:Int) - 1)+-1-1) / -1 else 0)else(if(n:Int) - 1 > -1 then((n:Int) - 1 - -1 - -1-1) / (- -1)else 0))=(n:Int):=by
  rw[if_neg (by decide)]
  split
  ·rw[show(- -1:Int)=1 from rfl,Int.ediv_one];omega
  ·omega
 simp only[c,Int.toNat_natCast]
 refine List.map_congr_left fun k hk=>?_
 have:=List.mem_range.mp hk
 omega
theorem pick_rev(xs:List V):pickV xs none none (some (-1))=xs.reverse:=by
 rw[pick_of (rev_range xs.length)]
 exact range_rev xs
section
variable {K:PySem.W.Frag}{Q:VK}{H0:Hp}
end
def visB(sc:Scope)(y:Str):Bool:=(sc.names.lookup y == some .local||sc.names.lookup y == some .cell||sc.names.lookup y == some .free)&&!(y == ("__debug__":Str))&&!(y == ("__classdict__":Str))
abbrev Nm(N:List Str)(sc:Scope):Prop:=N.all (visB sc)=true
def locB(sc:Scope)(y:Str):Bool:=sc.names.lookup y == some .local||sc.names.lookup y == some .cell
abbrev Lm(N:List Str)(sc:Scope):Prop:=N.all (locB sc)=true
theorem Nm.get{N:List Str}{sc:Scope}(h:Nm N sc){i:Nat}{x:Str}(e:N[i]?=some x):Vis sc x/\(x == ("__debug__":Str))=false/\(x == ("__classdict__":Str))=false:=by
 have z:=List.all_eq_true.mp h x (List.mem_of_getElem? e)
 unfold visB at z
 simp only[Bool.and_eq_true,Bool.or_eq_true,Bool.not_eq_true']at z
 obtain⟨⟨z1,z2⟩,z3⟩:=z
 refine⟨?_,z2,z3⟩
 rcases z1 with(z1|z1)|z1
 ·exact Or.inl (eq_of_beq z1)
 ·exact Or.inr (Or.inl (eq_of_beq z1))
 ·exact Or.inr (Or.inr (eq_of_beq z1))
theorem Lm.get{N:List Str}{sc:Scope}(h:Lm N sc){i:Nat}{x:Str}(e:N[i]?=some x):Loc sc x:=by
 have z:=List.all_eq_true.mp h x (List.mem_of_getElem? e)
 unfold locB at z
 simp only[Bool.or_eq_true]at z
 rcases z with z|z
 ·exact Or.inl (eq_of_beq z)
 ·exact Or.inr (eq_of_beq z)
section
variable {X:Cx}
theorem va{x:Str}{pos:Pos}(h:Nm X.N X.env.scope)(i:Nat)(hN:X.N[i]?=some x:=by rfl):PE X (.Name x pos) (tVar i):=pe_var hN (h.get hN).1 (h.get hN).2.1 (h.get hN).2.2
theorem sa{x:Str}{e:Expr}{te:TE}{pos pos':Pos}(hN:X.N.Nodup)(h:Lm X.N X.env.scope)(i:Nat)(he:PE X e te)(hi:X.N[i]?=some x:=by rfl)(hs:swapsWith e (some (.Name x pos')) pos.line X.env=pure false:=by kernel_rfl)
  (hf:X.fn x=true\/X.env.scope.names.lookup x=some .local:=by exact .inl rfl):PS X (.Assign [.Name x pos'] e pos) (tAsg te (gName i)):=ps_set hN hi (h.get hi) he hs hf
theorem ga{x:Str}{pos:Pos}(hN:X.N.Nodup)(h:Lm X.N X.env.scope)(i:Nat)(hi:X.N[i]?=some x:=by rfl)(hf:X.fn x=true\/X.env.scope.names.lookup x=some .local:=by first|exact .inl rfl|exact .inr (by kernel_rfl)):PG X (.Name x pos) (gName i):=pg_name hN hi (h.get hi) hf
end
section
variable {X:Cx}
theorem ps_comp{y:Str}{posn posa:Pos}{gg:TG}{elt iter tg:Expr}{ifs:List Expr}{scope:Scope}{pos:Pos}{wi:TI}{g:TG}{tt:TT}{te:TE}(own:List Str)(fr:List Nat)(hc:X.calm=true)
  (hkind:scope.kind=.function) (hcell:∀x∈scope.names,x.2≠.cell) (hnames:∀x∈scope.names,x.2=.local->scope.names.lookup x.1=some .local)
  (hfr:∀x∈scope.names,x.2=.free->X.env.scope.names.lookup x.1=some .cell\/X.env.scope.names.lookup x.1=some .free)
  (hin:∀j∈fr,scope.names.lookup (X.N.getD j Str.empty)=some .free)
  (hi:PI X tg iter wi) (hg:∀fp C s H,PG (cxComp X scope (own++fr.map fun j=>X.N.getD j Str.empty) fp C s H) tg g)
  (ht:∀fp C s H,PIfs (cxComp X scope (own++fr.map fun j=>X.N.getD j Str.empty) fp C s H) ifs tt)
  (he:∀fp C s H,PE (cxComp X scope (own++fr.map fun j=>X.N.getD j Str.empty) fp C s H) elt te)
  (hgg:PG X (.Name y posn) gg) (hsw:swapsWith (.ListComp elt [⟨tg,iter,ifs,0⟩] scope pos) (some (.Name y posn)) posa.line X.env=pure true)
  (hs:∀x,foldedSetIterable iter X.env x=pure x:=by intro _;rfl):PS X (.Assign [.Name y posn] (.ListComp elt [⟨tg,iter,ifs,0⟩] scope pos) posa) (tAsg (tComp own.length fr wi g tt te) gg):=by
 intro pins s σ H D0 I h
 rw[exec_Assign_Name_used _ _ _ _ hsw,arm_evalThenUse_ListComp]
 refine wpAny_bind (wpAny_standAt (wpAny_bind (wpAny_bind ?_)))
 have hfree:∀x∈scope.names,x.2=.free->∃c,X.env.cells.lookup x.1=some c:=fun x hx e=>I.ok.has x.1 (hfr x hx e)
 refine thn (wpAny_comprehension_free (use:=some (assign (.Name y posn) X.env)) (Q:=fun _ s'=>SP X pins D0 .next s') rfl hs (closureFor_eq hfree) hkind hnames ?_) fun _ _ q=>wpAny_pure (wpAny_pure q)
 refine thn (hi pins s σ H _ I h) fun v s1 h1=>thn h1 fun itv s2 h2=>?_
 obtain⟨it,fp,tn,J,H2,e,I2,T,st2,f2,W,⟨m0,w0⟩,turn⟩:=h2
 subst e
 have hfo:∀b∈fp,b<s2.heap.objs.size:=fun b hb=>by obtain⟨o,e,_⟩:=T.obj 0 _ st2 b hb;exact Heap.lt_size e
 refine wpAny_newObj_type (wpAny_newFunctionEnv hcell (by intro y hy;simp at hy) (fun h₁ hns₁ hsb₁=>?_) hkind)
 dsimp only at hns₁ hsb₁⊢
 generalize hH2:s2.heap.push {cls:=.type "list",dict:=none,data:=.seq ([]:List Value).toArray}=G2 at hns₁ hsb₁⊢
 have hC:G2.objs.size=s2.heap.objs.size+1:=by rw[←hH2,Heap.size_push]
 have hDC:s2.heap.objs.size≠G2.objs.size:=by rw[hC];exact Nat.ne_of_lt (Nat.lt_succ_self _)
 have hCle:s2.heap.objs.size<=G2.objs.size:=by rw[hC];exact Nat.le_succ _
 have old:∀b o,s2.heap.get? b=some o->h₁.get? b=some o:=fun b o e=>hsb₁.extBut b o (by rw[hC];exact Nat.ne_of_lt (Nat.lt_succ_of_lt (Heap.lt_size e))) (Heap.get?_push_of_some _ (hH2▸Heap.get?_push_of_some _ e))
 have hacc:h₁.PlainList s2.heap.objs.size #[]:=⟨_,hsb₁.extBut _ _ hDC (Heap.get?_push_of_some _ (hH2▸Heap.get?_push_size _ rfl))⟩
 have I3:Inv (cxComp X scope (own++fr.map fun j=>X.N.getD j Str.empty) fp G2.objs.size s2 H2) [] (innerSt own.length fr σ) H2 {s2 with heap:=h₁,toks:=s2.toks+([]:List (Str×Value)).length} :=
  comp_enter I2 hkind hcell hfr hin hCle f2 hfo old hns₁
 have st3:tn 0 h₁:=T.keep 0 _ _ st2 fun b _ o e=>old b o e
 have hDf:s2.heap.objs.size∉fp:=fun hm=>Nat.lt_irrefl _ (hfo _ hm)
 have hDn2:H2 s2.heap.objs.size=none:=I2.hok.fresh (Nat.le_refl _)
 have sub:∀y c,(cellsFor X.env scope.names []).lookup y=some c->X.env.cells.lookup y=some c:=cellsFor_sub _ _ hfree (by intro y c e;simp at e)
 have cellD:∀y c,(cellsFor X.env scope.names []).lookup y=some c->c≠s2.heap.objs.size:=fun y c e=>by
  obtain⟨_,o,ho,_⟩:=I2.cell y c (sub y c e)
  exact Nat.ne_of_lt (Heap.lt_size ho)
 have Dfs:s2.heap.objs.size∉frs X.stack:=fun z=>by
  rcases List.mem_cons.mp (I2.stkSub _ z)with e|e
  ·exact absurd I2.lt (by rw[←e];exact Nat.lt_irrefl _)
  ·exact I2.nofs (Nat.le_refl _) e
 -- the iterator's records,in the block's context
 have stat:∀{H':Hp}{pl:List (Addr×Obj)},(∀b∈fp,H' b=none)->(∀p∈pl,p.1=s2.heap.objs.size)->∀b∈fp,FpOk (cxComp X scope (own++fr.map fun j=>X.N.getD j Str.empty) fp G2.objs.size s2 H2) pl H' b:=fun{H' pl} hn hp b hb=>by
  refine⟨hn b hb,(I3.ok.exf b hb).1,I3.ok.exfs b hb,.inl hb,(I3.ok.exf b hb).2,fun p hpp z=>?_⟩
  have hpp':p∈pl:=by simpa[cxComp]using hpp
  exact hDf (by rw[←hp p hpp',z];exact hb)
 have pinD:∀{σ':St}{H':Hp}{s':Shared}{ys:Array Value}{n:Nat},Inv (cxComp X scope (own++fr.map fun j=>X.N.getD j Str.empty) fp G2.objs.size s2 H2) [] σ' H' s'->H' s2.heap.objs.size=none->s'.heap.get? s2.heap.objs.size=some {cls:=.type "list",data:=.seq ys n} ->
   Inv (cxComp X scope (own++fr.map fun j=>X.N.getD j Str.empty) fp G2.objs.size s2 H2) [(s2.heap.objs.size,{cls:=.type "list",data:=.seq ys n})] σ' H' s':=fun{σ' H' s' ys n} J hn e=>J.pins_of fun p hp=>by
  have e':p=(s2.heap.objs.size,{cls:=.type "list",data:=.seq ys n}):=by simpa using hp
  subst e'
  exact⟨e,hn,hDC,Dfs,fun v z=>nomatch z⟩
 have loop:codeAny (model X.prog X.w) X.A (.compLoop (.ListComp elt [⟨tg,iter,ifs,0⟩] scope pos) 0 (.ref it) (.ref s2.heap.objs.size) (compEnvC scope (cellsFor X.env scope.names []) G2.objs.size X.env))
   (compPost (model X.prog X.w) X.A X.xe (some (assign (.Name y posn) X.env)) (fun _ s'=>SP X pins D0 .next s') (.ref s2.heap.objs.size) G2.objs.size) {s2 with heap:=h₁,toks:=s2.toks+([]:List (Str×Value)).length}:=by
  refine codeAny_compLoop_any (E:=fun _ _=>False) (fun n s'=>∃i σ' H' vs ys,Inv (cxComp X scope (own++fr.map fun j=>X.N.getD j Str.empty) fp G2.objs.size s2 H2) [] σ' H' s'/\tn i s'.heap/\(∀b∈fp,H' b=none)/\H' s2.heap.objs.size=none/\s'.heap.PlainList s2.heap.objs.size ys/\Vals vs ys.toList/\W i n σ' vs H')
   ?_ (fun _ _ z=>z.elim) m0 ⟨0,_,H2,[],#[],I3,st3,fun b hb=>(f2 b hb).1,hDn2,hacc,.nil,w0⟩
  rintro n s3 ⟨i,σ3,H3,vs,ys,J3,st3,fr3,dn3,⟨pn,pl3⟩,rv,w3⟩
  have J3':=pinD J3 dn3 pl3
  have hpins:∀p∈[(s2.heap.objs.size,({cls:=.type "list",data:=.seq ys pn}:Obj))],p.1=s2.heap.objs.size:=fun p hp=>by
   have e':p=(s2.heap.objs.size,{cls:=.type "list",data:=.seq ys pn}):=by simpa using hp
   rw[e']
  rcases turn i n σ3 vs H3 w3 with⟨stop,hz,q⟩|⟨go,hz,N,hN,step⟩
  ·refine thn (T.done (cxComp X scope (own++fr.map fun j=>X.N.getD j Str.empty) fp G2.objs.size s2 H2) rfl rfl rfl hc i _ s3 σ3 H3 (fun _ _=>False) J3' (stat fr3 hpins) st3 stop) fun r s4 ⟨hr,J4⟩=>?_
   subst hr
   obtain⟨m4,hn4,_⟩:=id J4.loc
   have e4:s4.heap.get? s2.heap.objs.size=some {cls:=.type "list",data:=.seq ys pn}:=(J4.pin (s2.heap.objs.size,{cls:=.type "list",data:=.seq ys pn}) (List.mem_append_right _ (by simp))).1
   obtain⟨oC,es,ep,eC,dC,kC,fC⟩:=hn4
   have I4:Inv X pins σ (upd H3 s2.heap.objs.size (.lst vs)) s4:=comp_leave (h'':=s4.heap) I2 f2 J4 hCle (Nat.le_refl _) hDC dn3 ⟨pn,e4⟩ rv hz ⟨rfl,fun _ _=>rfl⟩
   have cL:G2.objs.size≠X.env.locals:=fun z=>absurd I2.lt (by rw[←z];exact Nat.not_lt.mpr hCle)
   have I5:Inv X (pins++[(G2.objs.size,oC)]) σ (upd H3 s2.heap.objs.size (.lst vs)) s4:=I4.pins_of fun p hp=>by
    rcases List.mem_append.mp hp with z|z
    ·exact I4.pin p (List.mem_append_right _ z)
    ·have z:p=(G2.objs.size,oC):=by simpa using z
     subst z
     exact⟨eC,by rw[upd_ne hDC.symm];exact J4.free,cL,I2.nofs hCle,fun v zv=>by rw[dC]at zv;cases zv⟩
   show wpAny _ _ (assign (.Name y posn) X.env (.ref s2.heap.objs.size)) _ _ _
   refine thn (hgg _ s4 σ _ (.ref s2.heap.objs.size) _ _ I5 rfl (q _ dn3)) fun _ s5 ⟨σ5,H5,I6,q6⟩=>?_
   have pC:=I6.pin (G2.objs.size,oC) (List.mem_append_right _ (List.mem_append_right _ (by simp)))
   refine⟨m4,⟨oC,es,ep,pC.1,dC,kC,fC⟩,fun h' hs'=>?_⟩
   have I7:Inv X pins σ5 H5 s5:=I6.pins_of fun p hp=>I6.pin p (List.mem_append_right _ (List.mem_append_left _ hp))
   refine⟨σ5,H5,I7.turned (t':=s5.toks) (it:=G2.objs.size) (fun b o hb e=>(hs'.2 b hb).trans e) pC.2.1 cL (.inr (Nat.le_trans I2.sz hCle)) (fun x c e z=>?_) (fun p hp z=>?_),q6⟩
   ·obtain⟨_,o,ho,_⟩:=I2.cell x c e
    exact absurd (Heap.lt_size ho) (by rw[z];exact Nat.not_lt.mpr hCle)
   ·exact absurd (Heap.lt_size (I2.pin p hp).1) (by rw[z];exact Nat.not_lt.mpr hCle)
  ·refine thn (T.item (cxComp X scope (own++fr.map fun j=>X.N.getD j Str.empty) fp G2.objs.size s2 H2) rfl rfl rfl hc i _ s3 σ3 H3 (fun _ _=>False) J3' (stat fr3 hpins) st3 go) fun r s4 ⟨u,hr,h4⟩=>?_
   subst hr
   refine thn h4 fun _ s5 ⟨x,H5,J5,r5,y5,st5,fr5⟩=>?_
   have J5':=J5.pinned (stat fr5 hpins) (T.obj _ _ st5)
   refine thn (hg fp _ s2 H2 _ s5 σ3 H5 x u _ J5' r5 (step x H5 y5)) fun _ s6 ⟨σ6,H6,J6,q6⟩=>?_
   refine thn (ht fp _ s2 H2 _ s6 σ6 H6 _ J6 q6) fun ok s7 ⟨H7,J7,q7⟩=>?_
   -- what stood pinned through the turn
   have after:∀{s8:Shared}{H8:Hp},Inv (cxComp X scope (own++fr.map fun j=>X.N.getD j Str.empty) fp G2.objs.size s2 H2) ([(s2.heap.objs.size,({cls:=.type "list",data:=.seq ys pn}:Obj))]++pinsAt fp s5.heap) σ6 H8 s8 ->
     tn (i+1) s8.heap/\(∀b∈fp,H8 b=none)/\H8 s2.heap.objs.size=none/\s8.heap.get? s2.heap.objs.size=some {cls:=.type "list",data:=.seq ys pn}:=fun{s8 H8} J8=>by
    refine⟨T.keep _ _ _ st5 fun b hb o e=>(J8.pin (b,o) (List.mem_append_right _ (List.mem_append_right _ (mem_pinsAt hb e)))).1,fun b hb=>?_,?_,?_⟩
    ·obtain⟨o,e,d⟩:=T.obj _ _ st5 b hb
     exact(J8.pin (b,o) (List.mem_append_right _ (List.mem_append_right _ (mem_pinsAt hb e)))).2.1
    ·exact(J8.pin (s2.heap.objs.size,{cls:=.type "list",data:=.seq ys pn}) (List.mem_append_right _ (List.mem_append_left _ (by simp)))).2.1
    ·exact(J8.pin (s2.heap.objs.size,{cls:=.type "list",data:=.seq ys pn}) (List.mem_append_right _ (List.mem_append_left _ (by simp)))).1
   cases ok with
   |false =>
    obtain⟨m',hm,w7⟩:=hN _ _ _ q7
    obtain⟨a1,a2,a3,a4⟩:=after J7
    exact⟨m',hm,i+1,σ6,H7,vs,ys,J7.pins_of (fun p hp=>absurd hp (by simp)),a1,a2,a3,⟨pn,a4⟩,rv,w7⟩
   |true =>
    refine thn (he fp _ s2 H2 _ s7 σ6 H7 _ J7 q7) fun y s8 ⟨v8,H8,J8,r8,n8⟩=>?_
    obtain⟨m',hm,w8⟩:=hN _ _ _ n8
    obtain⟨a1,a2,a3,a4⟩:=after J8
    have J9:Inv (cxComp X scope (own++fr.map fun j=>X.N.getD j Str.empty) fp G2.objs.size s2 H2) [] σ6 H8 s8:=J8.pins_of (fun p hp=>absurd hp (by simp))
    have hys:ys.size<=sizeLine:=by
     have e1:vs.length=ys.toList.length:=rv.length
     have e2:ys.toList.length=ys.size:=by simp
     omega
    refine wpAny_list_append_plain (hsz:=hys) ⟨pn,a4⟩ fun h₅ hl₅ hs₅=>?_
    refine⟨m',hm,i+1,σ6,H8,vs++[v8],ys.push y,J9.turned (t':=s8.toks) (it:=s2.heap.objs.size) (fun b o hb e=>by rw[hs₅.2 b hb];exact e) a3 hDC (.inr (Nat.le_refl _)) cellD (fun p hp=>absurd (show p∈([]:List (Addr×Obj))from hp) (by simp)),
     T.keep _ _ _ a1 fun b hb o e=>(hs₅.2 b (fun z=>hDf (z▸hb))).trans e,a2,a3,hl₅,?_,w8⟩
    have:Vals (vs++[v8]) (ys.toList++[y]):=rv.append (.cons r8 .nil)
    simpa using this
 exact codeAny_compStart_list loop (T.self X.A 0 _ _ _ st3 loop)
end
theorem ps_compC{X:Cx}{y:Str}{posn posa:Pos}{gg:TG}{elt iter tg:Expr}{ifs:List Expr}{scope:Scope}{pos:Pos}{wi:TI}{g:TG}{tt:TT}{te:TE}(sc:Scope)(N0 own:List Str)(fr:List Nat)(hc:X.calm=true)(hsc:X.env.scope=sc)(hN:X.N=N0)
  (ok:compOk scope sc N0 fr=true) (hi:PI X tg iter wi) (hg:∀fp C s H,PG (cxComp X scope (own++fr.map fun j=>N0.getD j Str.empty) fp C s H) tg g)
  (ht:∀fp C s H,PIfs (cxComp X scope (own++fr.map fun j=>N0.getD j Str.empty) fp C s H) ifs tt)
  (he:∀fp C s H,PE (cxComp X scope (own++fr.map fun j=>N0.getD j Str.empty) fp C s H) elt te)
  (hgg:PG X (.Name y posn) gg) (hsw:swapsWith (.ListComp elt [⟨tg,iter,ifs,0⟩] scope pos) (some (.Name y posn)) posa.line X.env=pure true:=by kernel_rfl)
  (hs:∀x,foldedSetIterable iter X.env x=pure x:=by intro _;rfl):PS X (.Assign [.Name y posn] (.ListComp elt [⟨tg,iter,ifs,0⟩] scope pos) posa) (tAsg (tComp own.length fr wi g tt te) gg):=by
 subst hsc hN
 unfold compOk at ok
 simp only[Bool.and_eq_true,List.all_eq_true,bne_iff_ne,beq_iff_eq,Bool.or_eq_true]at ok
 obtain⟨⟨k1,k2⟩,k3⟩:=ok
 refine ps_comp own fr hc k1 (fun x hx=>(k2 x hx).1.1) (fun x hx e=>?_) (fun x hx e=>?_) (fun j hj=>k3 j hj) hi hg ht he hgg hsw hs
 ·rcases(k2 x hx).1.2 with z|z
  ·exact absurd e z
  ·exact z
 ·rcases(k2 x hx).2 with(z|z)|z
  ·exact absurd e z
  ·exact .inl z
  ·exact .inr z
end L2
namespace G08
open PySem L2
def top(i:Nat):Stmt:=PySem.Challenge.pw_gapwork_k08_terms_written_and_read.main.body.getD i (.Pass ⟨0,0,0,0⟩)
abbrev s_bracketed:Stmt:=top 6
abbrev s_written:Stmt:=top 7
abbrev s_sort_of:Stmt:=top 8
abbrev s_well_parted:Stmt:=top 9
abbrev s_split_words:Stmt:=top 10
abbrev s_scanned:Stmt:=top 11
abbrev s_scanned_one:Stmt:=top 12
abbrev s_is_name:Stmt:=top 17
abbrev s_is_figures:Stmt:=top 18
abbrev s_name_of:Stmt:=top 22
abbrev s_number_behind:Stmt:=top 23
abbrev s_term_of:Stmt:=top 24
abbrev s_terms_of:Stmt:=top 25
abbrev s_arm_of:Stmt:=top 26
abbrev s_shaped:Stmt:=top 27
abbrev s_closed_term:Stmt:=top 28
abbrev s_close_term:Stmt:=top 29
abbrev s_read_term:Stmt:=top 30
abbrev s_spell_match:Stmt:=top 32
abbrev s_spell_term:Stmt:=top 33
abbrev s_term_text:Stmt:=top 34
abbrev s_L_feed:Stmt:=top 36
abbrev s_L_take:Stmt:=top 37
abbrev s_L_number:Stmt:=top 38
abbrev s_L_kept:Stmt:=top 39
abbrev s_L_word:Stmt:=top 40
abbrev s_L_any_leaf:Stmt:=top 41
abbrev s_L_any_inner:Stmt:=top 42
abbrev s_L_any_arms:Stmt:=top 43
abbrev s_L_any_term:Stmt:=top 44
abbrev s_L_texts:Stmt:=top 45
abbrev s_L_term_text:Stmt:=top 46
abbrev s_L_alike:Stmt:=top 47
abbrev s_L_greater:Stmt:=top 48
abbrev s_law:Stmt:=top 49
section
variable {P:Program}{w:World}{K:PySem.W.Frag}{mg:Str->Option Value}{base:Heap}
theorem scTake:FnScope ["_law_feed_here","_law_many","_law_digit","_law_one"] ["_law_feed_here","_law_many"] (defScope s_L_take):=⟨rfl,rfl,rfl,by decide +kernel,rfl,by decide +kernel,by decide +kernel⟩
theorem ok_take{f:Addr}{fd:FuncData}(F:Fun K "_law_take" "_law_take" s_L_take f fd):FnOk P w K mg base CX0 1 f fd ["_law_feed_here","_law_many"] spTake:=by
 refine F.ok scTake (fun vs H Q E h=>?_) (fun cdv A outer s H vs Q E hr h=>?_)
 ·obtain⟨a,m,rfl,_⟩:=h
  rfl
 obtain⟨a,m,rfl,m0,m1,⟨p,q,hf⟩,k⟩:=h
 refine⟨_,pss_cons (ps_if (pt_cmpR op_gt (pe_ix ix_list (pv 0) pe_int (fun _ _=>rfl)) pe_int (nomark _))
   (pss_cons (ps_set (i:=2) scTake.nd rfl (Or.inl rfl) (pe_op op_mod (pe_ix ix_list (pv 0) pe_int (fun _ _=>rfl)) (pv 1)))
   (pss_cons (ps_asg (pe_op op_fdiv (pe_ix ix_list (pv 0) pe_int (fun _ _=>rfl)) (pv 1)) (pg_sub (pv 0) pe_int set_list))
   (pss_one (ps_ret (pv 2))))) pss_nil)
  (pss_cons (ps_set (i:=3) scTake.nd rfl (Or.inl rfl) (pe_op op_mod (pe_op op_mul (pe_ix ix_list (pv 0) pe_int (fun _ _=>rfl)) pe_int) pe_int))
  (pss_cons (ps_asg (pe_op op_add (pe_op op_mod (pe_op op_add (pe_op op_mul (pv 3) pe_int) pe_int) pe_int) pe_int) (pg_sub (pv 0) pe_int set_list))
  (pss_one (ps_ret (pe_op op_mod (pe_op op_fdiv (pe_op op_add (pe_op op_mul (pv 3) pe_int) (pe_ix ix_list (pv 0) pe_int (fun _ _=>rfl))) pe_int) (pv 1)))))),?_⟩
 have ext:∀p' q':Int,Ext a H (upd H a (.lst [.int p',.int q'])):=fun p' q'=>⟨fun b o n e=>by rw[upd_ne n];exact e,p',q',upd_same⟩
 refine⟨_,rfl,a,_,0,_,rfl,rfl,SqL.of hf,rfl,_,_,rfl,rfl,_,rfl,?_⟩
 refine ite2 (fun _=>?_) (fun _=>?_)
 ·refine⟨_,rfl,a,_,0,_,rfl,rfl,SqL.of hf,rfl,_,rfl,_,_,rfl,rfl,m0,?_⟩
  refine⟨_,rfl,a,_,0,_,rfl,rfl,SqL.of hf,rfl,_,rfl,_,_,rfl,rfl,⟨m0,m1⟩,?_⟩
  refine⟨_,rfl,a,_,0,0,rfl,rfl,hf,rfl,?_⟩
  refine⟨_,rfl,?_⟩
  exact k _ _ (Int.emod_nonneg _ (by omega)) (Int.emod_lt_of_pos _ m0) (ext _ _)
 ·refine⟨_,rfl,a,_,1,_,rfl,rfl,SqL.of hf,rfl,_,_,rfl,rfl,.inr ⟨by decide,by decide⟩,_,_,rfl,rfl,(by show(0:Int)<2147483647;decide),?_⟩
  refine⟨_,rfl,_,_,rfl,rfl,.inr ⟨by decide,by decide⟩,_,_,rfl,rfl,_,_,rfl,rfl,(by show(0:Int)<2147483399;decide),_,_,rfl,rfl,?_⟩
  refine⟨_,rfl,a,_,1,1,rfl,rfl,hf,rfl,?_⟩
  refine⟨_,rfl,_,_,rfl,rfl,.inr ⟨by decide,by decide⟩,_,rfl,a,_,1,_,rfl,rfl,SqL.of upd_same,rfl,_,_,rfl,rfl,_,_,rfl,rfl,⟨by decide,by decide⟩,_,rfl,_,_,rfl,rfl,m0,?_⟩
  exact k _ _ (Int.emod_nonneg _ (by omega)) (Int.emod_lt_of_pos _ m0) (ext _ _)
end
section
variable {P:Program}{w:World}{K:PySem.W.Frag}{mg:Str->Option Value}{base:Heap}
theorem scFeed:FnScope ["_law_script","_law_k","_law_cell","_law_own"] ["_law_script","_law_k"] (defScope s_L_feed):=⟨rfl,rfl,rfl,by decide +kernel,rfl,by decide +kernel,by decide +kernel⟩
theorem ok_feed{f:Addr}{fd:FuncData}(F:Fun K "_law_feed" "_law_feed" s_L_feed f fd)(ml:mg "len"=none):FnOk P w K mg base CX0 1 f fd ["_law_script","_law_k"] (spFeed K):=by
 refine F.ok scFeed (fun vs H Q E h=>?_) (fun cdv A outer s H vs Q E hr h=>?_)
 ·obtain⟨a,ns,m,rfl,_⟩:=h
  rfl
 obtain⟨a,ns,k,rfl,hS,hn,k0,k1,kk⟩:=h
 refine⟨_,pss_cons (ps_set (i:=2) scFeed.nd rfl (Or.inl rfl) (pe_op op_add (pe_op op_mul pe_int (pv 1)) pe_int))
  (pss_cons (ps_if (pt_cmpR op_lt (pv 1) (pe_callB call_len_seq (by rfl) ml PySem.boot_len (pa_cons (pv 0) pa_nil)) (nomark _))
   (pss_one (ps_set (i:=2) scFeed.nd rfl (Or.inl rfl) (pe_ix ix_list (pv 0) (pv 1) (fun _ _=>rfl))))
   (pss_one (ps_if (pt_cmpR op_gt (pe_callB call_len_seq (by rfl) ml PySem.boot_len (pa_cons (pv 0) pa_nil)) pe_int (nomark _))
    (pss_one (ps_set (i:=2) scFeed.nd rfl (Or.inl rfl) (pe_op op_add (pe_op op_mul (pe_op op_mod (pe_ix ix_list (pv 0) (pe_op op_mod (pv 1) (pe_callB call_len_seq (by rfl) ml PySem.boot_len (pa_cons (pv 0) pa_nil))) (fun _ _=>rfl)) pe_int) pe_int) (pe_op op_mul pe_int (pv 1)))))
    pss_nil)))
  (pss_cons (ps_set (i:=3) scFeed.nd rfl (Or.inl rfl) pe_int)
  (pss_cons (ps_if (pt_cmpR op_ge (pv 2) (pe_op op_pow pe_int pe_int) (nomark _)) (pss_one (ps_set (i:=3) scFeed.nd rfl (Or.inl rfl) (pv 2))) pss_nil)
  (pss_one (ps_ret (pe_lst (pa_cons (pv 3) (pa_cons (pe_op op_add (pe_op op_mod (pe_op op_add (pe_op op_mul (pe_op op_mod (pv 2) pe_int) pe_int) (pe_op op_mul pe_int (pv 1))) pe_int) pe_int) pa_nil)))))))),?_⟩
 have hl:(ns.map V.int).length=ns.length:=List.length_map _
 refine⟨_,rfl,_,_,rfl,rfl,.inl ⟨by decide,by decide⟩,_,_,rfl,rfl,?_⟩
 refine⟨_,rfl,_,rfl,a,_,rfl,.inl hS,_,_,rfl,rfl,_,rfl,?_⟩
 refine ite2 (fun c=>?_) (fun c=>?_)
 ·have c':k<((ns.map V.int).length:Int):=of_decide_eq_true c
  rw[hl]at c'
  obtain⟨v,hv⟩:=atI_int (ns:=ns) k0 c'
  refine⟨_,rfl,_,rfl,a,_,_,_,rfl,rfl,hS,hv,?_⟩
  refine⟨_,rfl,_,_,rfl,rfl,⟨by decide,by decide,by decide⟩,_,_,rfl,rfl,_,rfl,ite2 (fun _=>?_) (fun _=>?_)⟩
  ·refine⟨_,rfl,_,rfl,_,rfl,_,_,rfl,rfl,(by show(0:Int)<2147483629;decide),_,_,rfl,rfl,.inr ⟨by decide,by decide⟩,_,rfl,_,_,rfl,rfl,.inl ⟨by decide,by decide⟩,_,_,rfl,rfl,_,_,rfl,rfl,(by show(0:Int)<2147483629;decide),_,_,rfl,rfl,(by show 2<=sizeLine;decide),fun l hl=>?_⟩
   exact kk l _ (same_new hl _) hl ⟨_,_,upd_same⟩
  ·refine⟨_,rfl,_,rfl,_,_,rfl,rfl,(by show(0:Int)<2147483629;decide),_,_,rfl,rfl,.inr ⟨by decide,by decide⟩,_,rfl,_,_,rfl,rfl,.inl ⟨by decide,by decide⟩,_,_,rfl,rfl,_,_,rfl,rfl,(by show(0:Int)<2147483629;decide),_,_,rfl,rfl,(by show 2<=sizeLine;decide),fun l hl=>?_⟩
   exact kk l _ (same_new hl _) hl ⟨_,_,upd_same⟩
 ·refine⟨_,rfl,a,_,rfl,.inl hS,_,_,rfl,rfl,_,rfl,?_⟩
  refine ite2 (fun d=>?_) (fun d=>?_)
  ·have d':(0:Int)<((ns.map V.int).length:Int):=of_decide_eq_true d
   have d2:(0:Int)<(ns.length:Int):=by rw[hl]at d';exact d'
   obtain⟨v,hv⟩:=atI_int (ns:=ns) (k:=k % (((ns.map V.int).length:Nat):Int)) (Int.emod_nonneg _ (by omega)) (by rw[hl];exact Int.emod_lt_of_pos _ d2)
   refine⟨_,rfl,_,rfl,_,rfl,a,_,rfl,.inl hS,_,_,rfl,rfl,d',a,_,_,_,rfl,rfl,hS,hv,_,_,rfl,rfl,(by show(0:Int)<2147483629;decide),_,_,rfl,rfl,.inr ⟨by decide,by decide⟩,_,rfl,_,_,rfl,rfl,.inl ⟨by decide,by decide⟩,_,_,rfl,rfl,?_⟩
   refine⟨_,rfl,_,_,rfl,rfl,⟨by decide,by decide,by decide⟩,_,_,rfl,rfl,_,rfl,ite2 (fun _=>?_) (fun _=>?_)⟩
   ·refine⟨_,rfl,_,rfl,_,rfl,_,_,rfl,rfl,(by show(0:Int)<2147483629;decide),_,_,rfl,rfl,.inr ⟨by decide,by decide⟩,_,rfl,_,_,rfl,rfl,.inl ⟨by decide,by decide⟩,_,_,rfl,rfl,_,_,rfl,rfl,(by show(0:Int)<2147483629;decide),_,_,rfl,rfl,(by show 2<=sizeLine;decide),fun l hl=>?_⟩
    exact kk l _ (same_new hl _) hl ⟨_,_,upd_same⟩
   ·refine⟨_,rfl,_,rfl,_,_,rfl,rfl,(by show(0:Int)<2147483629;decide),_,_,rfl,rfl,.inr ⟨by decide,by decide⟩,_,rfl,_,_,rfl,rfl,.inl ⟨by decide,by decide⟩,_,_,rfl,rfl,_,_,rfl,rfl,(by show(0:Int)<2147483629;decide),_,_,rfl,rfl,(by show 2<=sizeLine;decide),fun l hl=>?_⟩
    exact kk l _ (same_new hl _) hl ⟨_,_,upd_same⟩
  ·refine⟨_,rfl,_,_,rfl,rfl,⟨by decide,by decide,by decide⟩,_,_,rfl,rfl,_,rfl,ite2 (fun _=>?_) (fun _=>?_)⟩
   ·refine⟨_,rfl,_,rfl,_,rfl,_,_,rfl,rfl,(by show(0:Int)<2147483629;decide),_,_,rfl,rfl,.inr ⟨by decide,by decide⟩,_,rfl,_,_,rfl,rfl,.inl ⟨by decide,by decide⟩,_,_,rfl,rfl,_,_,rfl,rfl,(by show(0:Int)<2147483629;decide),_,_,rfl,rfl,(by show 2<=sizeLine;decide),fun l hl=>?_⟩
    exact kk l _ (same_new hl _) hl ⟨_,_,upd_same⟩
   ·refine⟨_,rfl,_,rfl,_,_,rfl,rfl,(by show(0:Int)<2147483629;decide),_,_,rfl,rfl,.inr ⟨by decide,by decide⟩,_,rfl,_,_,rfl,rfl,.inl ⟨by decide,by decide⟩,_,_,rfl,rfl,_,_,rfl,rfl,(by show(0:Int)<2147483629;decide),_,_,rfl,rfl,(by show 2<=sizeLine;decide),fun l hl=>?_⟩
    exact kk l _ (same_new hl _) hl ⟨_,_,upd_same⟩
end
end G08
namespace L2
open PySem PySem.Spec PyProof.Rows
theorem empty_app{z:Str}:Str.empty++z=z:=by
 cases z with|mk c=>show(⟨#[]++c⟩:Str)=⟨c⟩;rw[Array.empty_append]
def fmtV(v:V)(Q:Str->Prop):Prop:=(∃x,v=.str x/\x.length<=65535/\Q x)\/∃i:Int,v=.int i/\i.natAbs<1000000/\Q (Str.ofString (toString i))
section
variable {X:Cx}{e:Expr}{te:TE}{z z':Str}{k k':Nat}{p1 p2 p3 p4:Pos}
theorem fv_ok{pins:List (Addr×Obj)}{σ:St}{H:Hp}{s:Shared}{R:Str->Hp->Prop}(he:PE X e te)(I:Inv X pins σ H s)(h:te σ H fun v H1=>fmtV v fun y=>R y H1){Q:Value->Shared->Prop}
  (hq:∀s' H' y t,Inv X pins σ H' s'->R y H'->y.length<=sizeLine->Q (.str y t) s'):wpAny (model X.prog X.w) X.A (eval (.FormattedValue e (-1) none p1) X.env) Q X.xe s:=by
 refine wpAny_FormattedValue_plain (thn (he pins s σ H _ I h) fun u s1 ⟨v,H1,I1,r1,q1⟩=>?_)
 rcases q1 with⟨x,rfl,hx,q⟩|⟨i,rfl,hi,q⟩
 ·obtain⟨t,rfl⟩:=r1
  have hx':x.length<=sizeLine:=by rw[sizeLine_eq];omega
  exact wpAny_formatField_str (hq _ _ _ _ I1 q hx') (hq _ _ _ _ (I1.tok _) q hx') hx'
 ·obtain⟨t,rfl⟩:=r1
  have hl:i.natAbs.log2<1920:=by
   have:i.natAbs.log2<=i.natAbs:=Nat.log2_le_self _
   by_cases h0:i.natAbs=0
   ·rw[h0];decide
   ·exact(Nat.log2_lt h0).mpr (Nat.lt_of_lt_of_le hi (Nat.le_trans (by decide:1000000<=2 ^ 20) (Nat.pow_le_pow_right (by decide) (by decide))))
  exact wpAny_formatField_int hl (hq _ _ _ _ (I1.tok _) q (int_text_fits hl))
def tFA(z:Str)(te:TE):TE:=fun σ H Q=>te σ H fun v H1=>fmtV v fun y=>z.length+y.length<=100000/\Q (.str (z++y)) H1
theorem pe_fA(he:PE X e te)(hz:z.length<=1000:=by decide):PE X (.JoinedStr [.Constant (.str z) k p1,.FormattedValue e (-1) none p2] p3) (tFA z te):=by
 intro pins s σ H Q I h
 have hz1:(Str.empty++z).length<=sizeLine:=by rw[empty_app,sizeLine_eq];omega
 refine wpAny_JoinedStr (v₁:=.Constant (.str z) k p1) (v₂:=.FormattedValue e (-1) none p2) (rest:=[]) ?_
 refine Calls.Constant_str ⟨_,_,rfl,hz1,?_⟩
 refine fv_ok (R:=fun y H1=>z.length+y.length<=100000/\Q (.str (z++y)) H1) he (I.tok _) h fun s' H' y t I' ⟨hl,q⟩ hy=>?_
 have e1:Str.empty++z++y=z++y:=by rw[empty_app]
 have hl2:(Str.empty++z++y).length<=sizeLine:=by rw[e1,strLen_append,sizeLine_eq];omega
 exact⟨_,_,rfl,hl2,hl2,.str (z++y),H',I'.tok _,⟨_,by rw[e1]⟩,q⟩
def tFB(z z':Str)(te:TE):TE:=fun σ H Q=>te σ H fun v H1=>fmtV v fun y=>z.length+y.length+z'.length<=100000/\Q (.str (z++y++z')) H1
theorem pe_fB(he:PE X e te)(hz:z.length<=1000:=by decide):PE X (.JoinedStr [.Constant (.str z) k p1,.FormattedValue e (-1) none p2,.Constant (.str z') k' p3] p4) (tFB z z' te):=by
 intro pins s σ H Q I h
 have hz1:(Str.empty++z).length<=sizeLine:=by rw[empty_app,sizeLine_eq];omega
 refine wpAny_JoinedStr (v₁:=.Constant (.str z) k p1) (v₂:=.FormattedValue e (-1) none p2) (rest:=[.Constant (.str z') k' p3]) ?_
 refine Calls.Constant_str ⟨_,_,rfl,hz1,?_⟩
 refine fv_ok (R:=fun y H1=>z.length+y.length+z'.length<=100000/\Q (.str (z++y++z')) H1) he (I.tok _) h fun s' H' y t I' ⟨hl,q⟩ hy=>?_
 have e1:Str.empty++z++y=z++y:=by rw[empty_app]
 have hl2:(Str.empty++z++y).length<=sizeLine:=by rw[e1,strLen_append,sizeLine_eq];omega
 have hl3:(Str.empty++z++y++z').length<=sizeLine:=by rw[e1,strLen_append,strLen_append,sizeLine_eq];omega
 exact⟨_,_,rfl,hl2,Calls.Constant_str ⟨_,_,rfl,hl3,hl3,.str (z++y++z'),H',(I'.tok _),⟨_,by rw[e1]⟩,q⟩⟩
theorem mt_startswith:MtR X "str.startswith" (fun x vs H Q=>∃z y,x=.str z/\vs=[.str y]/\Q (.bl (Txt.startswith z y)) H):=by
 intro pins s σ H x xs v us Q I rx rs h
 obtain⟨z,y,rfl,rfl,q⟩:=h
 obtain⟨t,rfl⟩:=rx
 obtain⟨u,rfl,t',rfl⟩:=vals1 rs
 exact call_gives F.slot_str_startswith (typeIs_str _ _ _) F.entry_str_startswith (F.args_str_startswith_2 _ _) (gives_str_startswith z y t t') ⟨.bl _,H,I,rfl,q⟩
theorem vals_strs:∀(l:List (Str×Tok)),Vals ((l.map (·.1)).map V.str) (strValues l)
 | []=>.nil
 |(x,t)::r=>.cons ⟨t,rfl⟩ (vals_strs r)
theorem mt_split:MtR X "str.split" (fun x vs H Q=>∃z y,x=.str z/\vs=[.str y]/\(y.length == 0)=false/\z.length<=100000/\∀p,H p=none->Q (.ref p) (upd H p (.lst ((Txt.split z y).map V.str)))):=by
 intro pins s σ H x xs v us Q I rx rs h
 obtain⟨z,y,rfl,rfl,hy,hz,q⟩:=h
 obtain⟨t,rfl⟩:=rx
 obtain⟨u,rfl,t',rfl⟩:=vals1 rs
 have hn:(Builtin.Str.partsBetween z (Builtin.Str.occurrences z y 0 z.length (z.length+1)) y.length).length<=sizeLine:=by
  have e1:=StrLaws.occ_length_le z y 0 z.length (z.length+1)
  rw[length_partsBetween,sizeLine_eq]
  omega
 have fin:∀(l:List (Str×Tok)) (k:Nat),l.map (·.1)=Txt.split z y->l.length<=sizeLine->EP X pins σ Q (.ref s.heap.objs.size) {s with toks:=k,heap:=s.heap.push {cls:=.type "list",data:=.seq (strValues l).toArray}}:=fun l k el hl=>by
  refine⟨.ref s.heap.objs.size,upd H s.heap.objs.size (.lst ((Txt.split z y).map V.str)),I.laid (t':=k) (fun b o e=>Heap.get?_push_of_some _ e) (Nat.le_refl _) ?_,rfl,q _ (I.hok.fresh (Nat.le_refl _))⟩
  refine⟨by rw[List.length_map,←el,List.length_map];exact hl,strValues l,0,?_,Heap.get?_push_size _ rfl⟩
  rw[←el]
  exact vals_strs l
 cases h1:(decide (z.length<y.length)||decide (Builtin.Str.strKind z<Builtin.Str.strKind y))
 ·cases hf:(Builtin.Str.occurrences z y 0 z.length (z.length+1)).isEmpty
  ·refine call_meets F.slot_str_split (typeIs_str _ _ _) F.entry_str_split (F.args_str_split_2 _ _) (meets_str_split_sep z y t t' h1 hy hf (by rw[sizeLine_eq];omega) hn) ?_
   show wants _ _ _ {s with toks:=_,heap:=s.heap.push {cls:=.type "list",data:=.seq (strsFrom s.toks (Builtin.Str.partsBetween z (Builtin.Str.occurrences z y 0 z.length (z.length+1)) y.length)).toArray}}
   rw[strsFrom_eq]
   have e:(numbered s.toks (Builtin.Str.partsBetween z (Builtin.Str.occurrences z y 0 z.length (z.length+1)) y.length)).map (·.1)=Txt.split z y:=((numbered_texts s.toks (Builtin.Str.partsBetween z (Builtin.Str.occurrences z y 0 z.length (z.length+1)) y.length)).trans ((if_neg (ne_true_of_eq_false h1)).trans (if_neg (ne_true_of_eq_false hf))).symm)
   refine fin (numbered s.toks _) _ e ?_
   have e2:=congrArg List.length (numbered_texts s.toks (Builtin.Str.partsBetween z (Builtin.Str.occurrences z y 0 z.length (z.length+1)) y.length))
   rw[List.length_map]at e2
   rw[e2]
   exact hn
  ·exact call_meets F.slot_str_split (typeIs_str _ _ _) F.entry_str_split (F.args_str_split_2 _ _) (meets_str_split_not_found z y t t' h1 hy hf)
    (fin [(z,t)] s.toks ((if_neg (ne_true_of_eq_false h1)).trans (if_pos hf)).symm (by show 1<=sizeLine;decide))
 ·exact call_meets F.slot_str_split (typeIs_str _ _ _) F.entry_str_split (F.args_str_split_2 _ _) (meets_str_split_cannot_occur z y t t' h1)
   (fin [(z,t)] s.toks (if_pos h1).symm (by show 1<=sizeLine;decide))
theorem call_intS:CallR X (.type "int") (fun xs H Q=>∃n:Int,xs=[.str (Str.ofString (toString n))]/\0<=n/\n<1000000/\Q (.int n) H):=by
 intro pins s σ H xs us Q I r h
 obtain⟨n,rfl,h0,h1,q⟩:=h
 obtain⟨u,rfl,t,rfl⟩:=vals1 r
 exact PySem.W.KIN.call_num h0 (by omega) ⟨.int n,H,I.tok _,⟨_,rfl⟩,q⟩
theorem call_strV:CallR X (.type "str") (fun xs H Q=>(∃x,xs=[.str x]/\Q (.str x) H)\/∃i:Int,xs=[.int i]/\i.natAbs<1000000/\Q (.str (Str.ofString (toString i))) H):=by
 intro pins s σ H xs us Q I r h
 rcases h with⟨x,rfl,q⟩|⟨i,rfl,hi,q⟩
 ·obtain⟨u,rfl,t,rfl⟩:=vals1 r
  exact PySem.P.str_of_str ⟨.str x,H,I,⟨_,rfl⟩,q⟩
 ·obtain⟨u,rfl,t,rfl⟩:=vals1 r
  have hl:i.natAbs.log2<1920:=by
   by_cases h0:i.natAbs=0
   ·rw[h0];decide
   ·exact(Nat.log2_lt h0).mpr (Nat.lt_of_lt_of_le hi (Nat.le_trans (by decide:1000000<=2 ^ 20) (Nat.pow_le_pow_right (by decide) (by decide))))
  exact PySem.P.str_of_int hl ⟨.str _,H,I.tok _,⟨_,rfl⟩,q⟩
end
section
variable {X:Cx}{pins:List (Addr×Obj)}{σ:St}{H:Hp}{s:Shared}
theorem store_exact{M:Model}{A:Around}{E:Value->Shared->Prop}{i:Nat}{x:Str}{v:V}{u:Value}{Q:Unit->Shared->Prop}(I:Inv X pins σ H s)(hN:X.N.Nodup)(hi:X.N[i]?=some x)(hk:X.env.scope.names.lookup x=some .local)(r:RelV v u)
  (h:∀h' m,Inv X pins (σ.set i (some v)) H {s with heap:=h',toks:=s.toks+1}->h'.Ns X.env.locals m->m x=some u->Heap.SameBut X.env.locals s.heap h'->Q () {s with heap:=h',toks:=s.toks+1}):wpAny M A (storeName X.env x u) Q E s:=by
 obtain⟨m,hn,hl⟩:=id I.loc
 obtain⟨oL,_,_,hoL,_⟩:=id hn
 have hiσ:i<σ.length:=by rw[I.len];exact(List.getElem?_eq_some_iff.mp hi).1
 refine wpAny_storeName_local hk hn (fun h' hn' hs=>h h' _ ?_ hn' (by simp) hs) (by rw[I.ok.kind];rfl)
 have old:∀b o,X.s₀.heap.get? b=some o->h'.get? b=s.heap.get? b:=fun b o e=>hs.2 b (Nat.ne_of_lt (Nat.lt_of_lt_of_le (Heap.lt_size e) I.ok.above))
 exact{
  ok:=I.ok
  os:=I.os
  bare:=I.bare
  base:={
   keep:=fun b o e n hb hx=>(old b o e).trans (I.base.keep b o e n hb hx)
   slot:=fun b o e n hb hx=>let⟨sl,q⟩:=I.base.slot b o e n hb hx;⟨sl,(old b o e).trans q⟩
   free:=I.base.free
   there:=fun b o e hx=>let⟨o',q⟩:=I.base.there b o e hx;⟨o',(old b o e).trans q⟩
   tups:=I.base.tups
   frzs:=I.base.frzs
   tbls:=I.base.tbls}
  loc:=⟨_,hn',fun j y v' e1 e2 e3=>by
   by_cases hj:j=i
   ·subst hj
    rw[hi]at e1
    cases e1
    rw[List.getElem?_set_self hiσ]at e2
    cases e2
    exact⟨u,r,.inl ⟨hk,by simp⟩⟩
   ·rw[List.getElem?_set_ne (Ne.symm hj)]at e2
    obtain⟨u',r',q⟩:=hl j y v' e1 e2 e3
    refine⟨u',r',?_⟩
    rcases q with⟨k,e⟩|⟨k,c,e,z⟩
    ·have ne:y≠x:=fun e=>hj (nodup_ix hN e1 (e▸hi))
     exact .inl ⟨k,by simp[ne,e]⟩
    ·exact .inr ⟨k,c,e,z.sameBut hs (I.cne y c e)⟩⟩
  cell:=fun y c e=>let⟨w',z⟩:=I.cell y c e;⟨w',z.sameBut hs (I.cne y c e)⟩
  free:=I.free
  freeC:=I.freeC
  pin:=fun p hp=>let⟨e,n,ne,nf,d⟩:=I.pin p hp;⟨(hs.2 p.1 ne).trans e,n,ne,nf,d⟩
  hok:=fun b ob e=>by
   refine(I.hok b ob e).stay (fun c w' hc q=>(hs.2 c ?_).trans q) (fun _ q=>q) fun _ _ q=>q
   rintro rfl
   rcases hc with rfl|hc
   ·rw[I.free]at e;cases e
   ·rw[I.free]at hc;cases hc
  len:=by simpa using I.len}
def Jo(X:Cx)(sg:Str)(jo:Expr)(g:Nat->Str):Prop:=∀(s:Shared) (m:Str->Option Value) (c:Nat) (t:Tok) (Q E:Value->Shared->Prop),X.env.scope.kind=.function->s.heap.Ns X.env.locals m->m sg=some (.str ⟨#[c]⟩ t) ->
 (∀(v k:Nat),s.toks<=v->v<k->Q (.str (g c) v) {s with toks:=k})->wpAny (model X.prog X.w) X.A (eval jo X.env) Q E s
theorem jo_behind{sg z:Str}{p1 p2 p3 p4:Pos}{k:Nat}(hk:X.env.scope.names.lookup sg=some .local)(hz:z.length<=1000)(hd:(sg == ("__debug__":Str))=false:=by decide) :
  Jo X sg (.JoinedStr [.FormattedValue (.Name sg p1) (-1) none p2,.Constant (.str z) k p3] p4) (fun c=>Str.empty++⟨#[c]⟩++z):=by
 intro s m c t Q E hf hn hm h
 have hs1:(Str.empty++(⟨#[c]⟩:Str)).length<=sizeLine:=by rw[strLen_append];show 0+1<=sizeLine;decide
 have hs2:(Str.empty++(⟨#[c]⟩:Str)++z).length<=sizeLine:=by
  rw[strLen_append,strLen_append]
  show 0+1+z.length<=sizeLine
  have:(1001:Nat)<=sizeLine:=by decide
  omega
 refine wpAny_JoinedStr (v₁:=.FormattedValue (.Name sg p1) (-1) none p2) (v₂:=.Constant (.str z) k p3) (rest:=[]) ?_
 refine wpAny_FormattedValue_plain (wpAny_Name (wpAny_loadName_local hf hk hn hm ?_) hd)
 refine wpAny_formatField_str ?_ ?_ (by show 1<=sizeLine;decide)
 ·exact⟨_,_,rfl,hs1,Calls.Constant_str ⟨_,_,rfl,hs2,hs2,h _ _ (Nat.le_succ _) (Nat.lt_succ_self _)⟩⟩
 ·exact⟨_,_,rfl,hs1,Calls.Constant_str ⟨_,_,rfl,hs2,hs2,h _ _ (Nat.le_trans (Nat.le_succ _) (Nat.le_succ _)) (Nat.lt_succ_self _)⟩⟩
theorem jo_ahead{sg z:Str}{p1 p2 p3 p4:Pos}{k:Nat}(hk:X.env.scope.names.lookup sg=some .local)(hz:z.length<=1000)(hd:(sg == ("__debug__":Str))=false:=by decide) :
  Jo X sg (.JoinedStr [.Constant (.str z) k p3,.FormattedValue (.Name sg p1) (-1) none p2] p4) (fun c=>Str.empty++z++⟨#[c]⟩):=by
 intro s m c t Q E hf hn hm h
 have hs1:(Str.empty++z).length<=sizeLine:=by
  rw[strLen_append]
  show 0+z.length<=sizeLine
  have:(1000:Nat)<=sizeLine:=by decide
  omega
 have hs2:(Str.empty++z++(⟨#[c]⟩:Str)).length<=sizeLine:=by
  rw[strLen_append,strLen_append]
  show 0+z.length+1<=sizeLine
  have:(1001:Nat)<=sizeLine:=by decide
  omega
 refine wpAny_JoinedStr (v₁:=.Constant (.str z) k p3) (v₂:=.FormattedValue (.Name sg p1) (-1) none p2) (rest:=[]) ?_
 refine Calls.Constant_str ⟨_,_,rfl,hs1,?_⟩
 refine wpAny_FormattedValue_plain (wpAny_Name (wpAny_loadName_local hf hk hn hm ?_) hd)
 refine wpAny_formatField_str ?_ ?_ (by show 1<=sizeLine;decide)
 ·exact⟨_,_,rfl,hs2,hs2,h _ _ (Nat.le_succ _) (Nat.lt_succ_self _)⟩
 ·exact⟨_,_,rfl,hs2,hs2,h _ _ (Nat.le_trans (Nat.le_succ _) (Nat.le_succ _)) (Nat.lt_succ_self _)⟩
end
def repl(g:Nat->Str)(x:Str)(cs:List Nat):Str:=cs.foldl (fun x c=>Txt.replace x ⟨#[c]⟩ (g c)) x
def tRepl(i j:Nat)(g:Nat->Str)(cs:Str):TS:=fun D σ H=>∃x,σ[i]?=some (some (.str x))/\(∀k,(repl g x (cs.cps.toList.take k)).length<=65535)/\D.nx ((σ.set i (some (.str (repl g x cs.cps.toList)))).set j none) H
section
variable {X:Cx}
theorem ps_repl{i j:Nat}{sg tx cs:Str}{jo:Expr}{g:Nat->Str}{k:Nat}{p0 p1 p2 p3 p4 p5 p6 p7 p8:Pos}(hc:X.calm=true)(hN:X.N.Nodup)(hi:X.N[i]?=some tx)(hj:X.N[j]?=some sg)
  (ht:X.env.scope.names.lookup tx=some .local) (hg:X.env.scope.names.lookup sg=some .local) (hjo:Jo X sg jo g) (hgl:∀c,(g c).length<=100) (hgn:∀c,((⟨#[c]⟩:Str) == g c)=false) (hij:i≠j) (hascii:cs.cps.all (· < 128)=true)
  (hd:(tx == ("__debug__":Str))=false:=by decide) (hd2:(sg == ("__debug__":Str))=false:=by decide)
  (hbase:attributeBase (.Name tx p3) "replace" X.env (eval (.Name tx p3) X.env)=eval (.Name tx p3) X.env:=by rfl)
  (hfew:((backTo p6 (starEach [.Name sg p5,jo] X.env)).all (fun x=>!x.1)&&(backToKw p6 (keywordEach [] X.env)).all (fun x=>x.1.isSome)
   && decide (([.Name sg p5,jo]:List Expr).length+([]:List Keyword).length+(if([]:List Keyword).isEmpty then 0 else 1)<30))=true:=by rfl)
  (hline:(p4.endLine == p6.line)=true:=by rfl)
  (hs1:starEach [.Name sg p5,jo] X.env=[(false,eval (.Name sg p5) X.env),(false,eval jo X.env)]:=by rfl)
  (hbt:backTo p6 [(false,eval (.Name sg p5) X.env),(false,eval jo X.env)]=[(false,eval (.Name sg p5) X.env),(false,eval jo X.env)]:=by rfl)
  (hsw:swapsWith (.Call (.Attribute (.Name tx p3) "replace" p4) [.Name sg p5,jo] [] p6) (some (.Name tx p2)) p7.line X.env=pure false:=by rfl)
  (hfs:∀x,foldedSetIterable (.Constant (.str cs) k p1) X.env x=pure x:=by intro _;rfl) :
  PS X (.For (.Name sg p0) (.Constant (.str cs) k p1) [.Assign [.Name tx p2] (.Call (.Attribute (.Name tx p3) "replace" p4) [.Name sg p5,jo] [] p6) p7] [] p8) (tRepl i j g cs):=by
 intro pins s σ H D I h
 obtain⟨x,hx,hlen,hq⟩:=h
 have hiσ:i<σ.length:=by rw[I.len];exact(List.getElem?_eq_some_iff.mp hi).1
 have hjσ:j<σ.length:=by rw[I.len];exact(List.getElem?_eq_some_iff.mp hj).1
 refine wpAny_For (Calls.Constant_str (wpAny_pyIter_ascii hascii ?_)) hfs
 have hb:s.heap.objs.size<=s.heap.objs.size:=Nat.le_refl _
 have hn0:H s.heap.objs.size=none:=I.hok.fresh hb
 have fpk:FpOk X pins H s.heap.objs.size:=I.fpOk hb hn0
 obtain⟨f0,f1,f2,f3,f4,f5⟩:=fpk
 refine codeAny_forLoop_any (fun n s'=>∃a,n=cs.cps.size-a/\a<=cs.cps.size/\1<=s'.toks/\s'.heap.IsStrIter s.heap.objs.size "str_ascii_iterator" cs s.toks a /\
  Inv X pins ((σ.set i (some (.str (repl g x (cs.cps.toList.take a))))).set j none) H s') ?_ cs.cps.size ⟨0,rfl,Nat.zero_le _,Nat.le_add_left 1 s.toks,⟨_,Heap.get?_push_size _ rfl,rfl,rfl⟩,?_⟩
 ·rintro n s3 ⟨a,rfl,ha,ht3,st3,I3⟩
  by_cases hlt:a<cs.cps.size
  ·-- a sign
   have hgc:cs.cps[a]?=some cs.cps[a]:=Array.getElem?_eq_getElem hlt
   refine wpAny_pyNext_ascii_item st3 hgc fun h' st4 sb=>?_
   have I4:Inv X pins ((σ.set i (some (.str (repl g x (cs.cps.toList.take a))))).set j none) H {s3 with heap:=h',toks:=s3.toks+1} :=
    I3.turned (fun b o hb e=>(sb.2 b hb).trans e) f0 f1 f3 f4 f5
   obtain⟨o4,e4,c4,d4⟩:=id st4
   refine go_of (s:={s3 with heap:=h',toks:=s3.toks+1}) (n:="str_ascii_iterator") e4 c4 d4 (by decide) ?_
   refine wpAny_assign_Name (store_exact I4 hN hj hg (v:=.str ⟨#[cs.cps[a]]⟩) ⟨_,rfl⟩ fun h5 m5 I5 n5 m5e sb5=>?_)
   have st5:h5.IsStrIter s.heap.objs.size "str_ascii_iterator" cs s.toks (a+1):=⟨o4,(sb5.2 _ f1).trans e4,c4,d4⟩
   rw[List.set_set]at I5
   refine wpAny_execs_cons (wpAny_Assign_Name ?_ hsw)
   -- the text
   obtain⟨m6,n6,l6⟩:=I5.loc
   obtain⟨u6,⟨t6,rfl⟩,k6⟩:=l6 i tx (.str (repl g x (cs.cps.toList.take a))) hi (by rw[List.getElem?_set_ne (Ne.symm hij),List.getElem?_set_self hiσ]) (.inl ht)
   have k6':m6 tx=some (.str (repl g x (cs.cps.toList.take a)) t6):=by
    rcases k6 with⟨_,e⟩|⟨z,_⟩
    ·exact e
    ·have z':X.env.scope.names.lookup tx=some .cell\/X.env.scope.names.lookup tx=some .free:=z
     rw[ht]at z'
     rcases z' with z'|z'<;>cases z'
   refine wpAny_Call_method_late hbase hfew hline rfl (wpAny_Name (wpAny_loadName_local I5.ok.kind ht n6 k6' ?_) hd)
   refine⟨"str","str.replace",F.plainAttrs_str,F.slot_str_replace,F.type_str_replace,typeIs_str _ _ _,fun a e=>(by cases e),?_⟩
   rw[hs1,hbt]
   refine Calls.callWith_builtin rfl (Calls.evalArgs_plain ?_)
   refine Calls.spliced_cons (wpAny_Name (wpAny_loadName_local I5.ok.kind hg n5 m5e ?_) hd2)
   refine Calls.spliced_cons (hjo _ m5 _ _ _ _ I5.ok.kind n5 m5e fun v kk hv1 hv2=>?_)
   refine Calls.spliced_nil ?_
   have hv1':s3.toks+1+1<=v:=hv1
   have hl:=hlen a
   have hgb:=hgl cs.cps[a]
   refine SC.replace (u:=s3.toks) (v:=v) (by show(s3.toks:Nat)≠0;omega) (by show(v:Nat)≠0;omega) (by show(s3.toks:Nat)≠v;omega) (hgn _) ?_ fun t' k'=>?_
   ·have h1:((repl g x (cs.cps.toList.take a)).length+1)*(g cs.cps[a]).length<=65536*100:=Nat.mul_le_mul (by omega) hgb
    omega
   -- the text is stored
   have tk:cs.cps.toList.take (a+1)=cs.cps.toList.take a++[cs.cps[a]]:=by
    have hla:a<cs.cps.toList.length:=by simpa using hlt
    rw[List.take_succ,List.getElem?_eq_getElem hla]
    simp
   have rp:repl g x (cs.cps.toList.take (a+1))=Txt.replace (repl g x (cs.cps.toList.take a)) ⟨#[cs.cps[a]]⟩ (g cs.cps[a]):=by
    rw[tk]
    unfold repl
    rw[List.foldl_append]
    rfl
   refine store_exact (I5.tok k') hN hi ht (v:=.str (repl g x (cs.cps.toList.take (a+1)))) ⟨t',by rw[rp]⟩ fun h8 m8 I8 n8 m8e sb8=>?_
   refine wpAny_execs_nil ⟨cs.cps.size - (a+1),by omega,a+1,rfl,hlt,Nat.le_add_left 1 _,⟨o4,(sb8.2 _ f1).trans ((sb5.2 _ f1).trans e4),c4,d4⟩,I8.weak ?_ ?_⟩
   ·simp
   ·intro q v hv
    by_cases hqj:q=j
    ·subst hqj
     rw[List.getElem?_set_self (by simpa using hjσ)]at hv
     cases hv
    ·rw[List.getElem?_set_ne (Ne.symm hqj)]at hv
     by_cases hqi:q=i
     ·subst hqi
      rw[List.getElem?_set_self (by simpa using hiσ)]at hv⊢
      exact hv
     ·rw[List.getElem?_set_ne (Ne.symm hqi)]at hv⊢
      rw[List.getElem?_set_ne (Ne.symm hqj),List.getElem?_set_ne (Ne.symm hqi)]
      exact hv
  ·have ea:a=cs.cps.size:=by omega
   subst ea
   refine wpAny_pyNext_ascii_end (I.ok.hd hc) st3 (by simp) fun h' he=>?_
   have I4:Inv X pins ((σ.set i (some (.str (repl g x (cs.cps.toList.take cs.cps.size))))).set j none) H {s3 with heap:=h'} :=
    I3.turned (t':=s3.toks) (fun b o hb e=>he b o hb e) f0 f1 f3 f4 f5
   refine wpAny_execs_nil ⟨_,H,I4,?_⟩
   have e:cs.cps.toList.take cs.cps.size=cs.cps.toList:=by rw[List.take_of_length_le];simp
   rw[e]
   exact hq
 ·have I1:Inv X pins σ H {s with heap:=s.heap.push {cls:=.type "str_ascii_iterator",data:=.fields #[.str cs s.toks,.int 0 0]},toks:=s.toks+1}:=I.kept (t':=s.toks+1) fun b o e=>Heap.get?_push_of_some _ e
  refine I1.weak (by simp) fun q v hv=>?_
  by_cases hqj:q=j
  ·subst hqj
   rw[List.getElem?_set_self (by simpa using hjσ)]at hv
   cases hv
  ·rw[List.getElem?_set_ne (Ne.symm hqj)]at hv
   by_cases hqi:q=i
   ·subst hqi
    rw[List.getElem?_set_self (by simpa using hiσ)]at hv
    rw[hx]
    exact hv
   ·rw[List.getElem?_set_ne (Ne.symm hqi)]at hv
    exact hv
end
def subst1(c:Nat)(z:List Nat)(a:Nat):List Nat:=if a=c then z else [a]
theorem flat_free{c:Nat}{z:List Nat}:∀{l:List Nat},c∉l->l.flatMap (subst1 c z)=l
 | [],_=>rfl
 |a::r,h=>by
  have e:subst1 c z a=[a]:=by unfold subst1;rw[if_neg];intro e;exact h (by rw[e];exact List.mem_cons_self)
  rw[List.flatMap_cons,e,flat_free fun m=>h (List.mem_cons_of_mem _ m)]
  rfl
theorem flat_join{c:Nat}{z:Str}:∀{ps:List Str},(∀p∈ps,c∉p.cps.toList)->(Str.join ⟨#[c]⟩ ps).cps.toList.flatMap (subst1 c z.cps.toList)=(Str.join z ps).cps.toList
 | [],_=>rfl
 | [p],h=>flat_free (h p (List.mem_singleton.mpr rfl))
 |p::q::r,h=>by
  have ih:=flat_join (z:=z) (ps:=q::r) fun a ha=>h a (List.mem_cons_of_mem _ ha)
  show(p++⟨#[c]⟩++Str.join ⟨#[c]⟩ (q::r)).cps.toList.flatMap _=(p++z++Str.join z (q::r)).cps.toList
  simp only[Str.cps_append,Array.toList_append,List.flatMap_append]
  rw[ih,flat_free (h p List.mem_cons_self)]
  simp[subst1]
theorem rep_flat(x z:Str)(c:Nat):(Txt.replace x ⟨#[c]⟩ z).cps.toList=x.cps.toList.flatMap (subst1 c z.cps.toList):=by
 rw[StrLaws.replace_one,←flat_join (StrLaws.split_free x c),StrLaws.join_split]
def sp(c:Nat):List Nat->List (List Nat)
 | []=>[[]]
 |a::l=>if a=c then []::sp c l else match sp c l with
  |p::r=>(a::p)::r
  | []=>[[a]]
theorem sp_app{c:Nat}:∀{p l:List Nat},c∉p->sp c (p++c::l)=p::sp c l
 | [],l,_=>by show(if c=c then _ else _)=_;rw[if_pos rfl]
 |a::p,l,h=>by
  have ne:a≠c:=fun e=>h (by rw[e];exact List.mem_cons_self)
  have ih:=sp_app (p:=p) (l:=l) fun m=>h (List.mem_cons_of_mem _ m)
  show(if a=c then _ else match sp c (p++c::l)with|p::r=>(a::p)::r|[]=>[[a]])=_
  rw[if_neg ne,ih]
theorem sp_free{c:Nat}:∀{p:List Nat},c∉p->sp c p=[p]
 | [],_=>rfl
 |a::p,h=>by
  have ne:a≠c:=fun e=>h (by rw[e];exact List.mem_cons_self)
  show(if a=c then _ else match sp c p with|p::r=>(a::p)::r|[]=>[[a]])=_
  rw[if_neg ne,sp_free fun m=>h (List.mem_cons_of_mem _ m)]
theorem sp_join{c:Nat}:∀{ps:List Str},ps≠[]->(∀p∈ps,c∉p.cps.toList)->sp c (Str.join ⟨#[c]⟩ ps).cps.toList=ps.map fun p=>p.cps.toList
 | [],h,_=>absurd rfl h
 | [p],_,h=>sp_free (h p (List.mem_singleton.mpr rfl))
 |p::q::r,_,h=>by
  have ih:=sp_join (ps:=q::r) (by simp) fun a ha=>h a (List.mem_cons_of_mem _ ha)
  show sp c (p++⟨#[c]⟩++Str.join ⟨#[c]⟩ (q::r)).cps.toList=_
  simp only[Str.cps_append,Array.toList_append,List.append_assoc]
  show sp c (p.cps.toList++c::(Str.join ⟨#[c]⟩ (q::r)).cps.toList)=_
  rw[sp_app (h p List.mem_cons_self),ih]
  rfl
theorem split_sp(x:Str)(c:Nat):(Txt.split x ⟨#[c]⟩).map (fun p=>p.cps.toList)=sp c x.cps.toList:=by
 have h:=sp_join (c:=c) (ps:=Txt.split x ⟨#[c]⟩) (fun e=>by have:=split_pos x ⟨#[c]⟩;rw[e]at this;cases this) (StrLaws.split_free x c)
 rw[StrLaws.join_split]at h
 exact h.symm
def ofL(l:List Nat):Str:=⟨l.toArray⟩
theorem ofL_toList(x:Str):ofL x.cps.toList=x:=by cases x with|mk c=>rfl
theorem toList_ofL(l:List Nat):(ofL l).cps.toList=l:=by unfold ofL;simp
theorem ofL_len(l:List Nat):(ofL l).length=l.length:=by unfold ofL;show l.toArray.size=_;simp
theorem str_ofL{x:Str}{l:List Nat}(h:x.cps.toList=l):x=ofL l:=by rw[←h,ofL_toList]
theorem split_ofL(l:List Nat)(c:Nat):Txt.split (ofL l) ⟨#[c]⟩=(sp c l).map ofL:=by
 have h:=split_sp (ofL l) c
 rw[toList_ofL]at h
 rw[←h,List.map_map]
 conv=>lhs;rw[←List.map_id (Txt.split (ofL l) ⟨#[c]⟩)]
 exact List.map_congr_left fun p _=>(ofL_toList p).symm
theorem rep_ofL(l:List Nat)(z:Str)(c:Nat):Txt.replace (ofL l) ⟨#[c]⟩ z=ofL (l.flatMap (subst1 c z.cps.toList)):=by
 have h:=rep_flat (ofL l) z c
 rw[toList_ofL]at h
 exact str_ofL h
def wd(l:List Nat):List (List Nat):=(sp 32 l).filter fun p=>!p.isEmpty
theorem wd_nil:wd []=[]:=rfl
theorem wd_one{w:List Nat}(h:32∉w)(h0:w≠[]):wd w=[w]:=by
 unfold wd
 rw[sp_free h]
 cases w with
 |nil=>exact absurd rfl h0
 |cons a r=>rfl
theorem wd_word{w l:List Nat}(h:32∉w)(h0:w≠[]):wd (w++32::l)=w::wd l:=by
 unfold wd
 rw[sp_app h]
 cases w with
 |nil=>exact absurd rfl h0
 |cons a r=>rfl
theorem wd_blank{l:List Nat}:wd (32::l)=wd l:=by
 unfold wd
 rw[show(32::l)=[]++32::l from rfl,sp_app (by simp)]
 rfl
theorem app_ofL(a b:List Nat):ofL a++ofL b=ofL (a++b):=str_ofL (by rw[Str.cps_append,Array.toList_append,toList_ofL,toList_ofL])
inductive Bw where
 |a (w:List Nat)
 |g (o:Nat) (ws:List Bw)
theorem Bw.induct{P:Bw->Prop}(ha:∀w,P (.a w))(hg:∀o ws,(∀x∈ws,P x)->P (.g o ws))(b:Bw):P b :=
 Bw.rec (motive_1:=P) (motive_2:=fun xs=>∀x∈xs,P x) ha (fun o ws h=>hg o ws h) (fun _ h=>nomatch h) (fun _ _ h1 h2 y hy=>by
  cases hy with
  |head=>exact h1
  |tail _ h=>exact h2 y h) b
def clo(o:Nat):Nat:=if o=40 then 41 else 93
mutual
def Bw.toks:Bw->List (List Nat)
 |.a w=>[w]
 |.g o ws=>[o]::(Bw.tokss ws++[[clo o]])
def Bw.tokss:List Bw->List (List Nat)
 | []=>[]
 |x::r=>x.toks++Bw.tokss r
end
mutual
def Bw.txt:Bw->List Nat
 |.a w=>w
 |.g o ws=>o::(Bw.txts ws++[clo o])
def Bw.txts:List Bw->List Nat
 | []=>[]
 |x::r=>x.txt++Bw.txtr r
def Bw.txtr:List Bw->List Nat
 | []=>[]
 |x::r=>32::(x.txt++Bw.txtr r)
end
def wsg(c:Nat):Prop:=c≠32/\c≠40/\c≠41/\c≠91/\c≠93
mutual
def Bw.ok:Bw->Prop
 |.a w=>w≠[]/\∀c∈w,wsg c
 |.g o ws=>(o=40\/o=91)/\Bw.oks ws
def Bw.oks:List Bw->Prop
 | []=>True
 |x::r=>x.ok/\Bw.oks r
end
def Rp1(l:List Nat):List Nat:=(l.flatMap (subst1 40 [40,32])).flatMap (subst1 91 [91,32])
def Rp2(l:List Nat):List Nat:=(l.flatMap (subst1 41 [32,41])).flatMap (subst1 93 [32,93])
def Rb(l:List Nat):List Nat:=Rp2 (Rp1 l)
theorem Rb_app(a b:List Nat):Rb (a++b)=Rb a++Rb b:=by unfold Rb Rp1 Rp2;simp only[List.flatMap_append]
theorem Rb_free{l:List Nat}(h:∀a∈l,wsg a):Rb l=l:=by
 unfold Rb Rp1 Rp2
 rw[flat_free (fun m=>(h _ m).2.1 rfl),flat_free (fun m=>(h _ m).2.2.2.1 rfl),flat_free (fun m=>(h _ m).2.2.1 rfl),flat_free (fun m=>(h _ m).2.2.2.2 rfl)]
theorem Rb_o{o:Nat}(h:o=40\/o=91):Rb [o]=[o,32]:=by rcases h with rfl|rfl<;>rfl
theorem Rb_c{o:Nat}(h:o=40\/o=91):Rb [clo o]=[32,clo o]:=by rcases h with rfl|rfl<;>rfl
theorem Rb_32:Rb [32]=[32]:=rfl
def Tl(t:List Nat):Prop:=t=[]\/∃r,t=32::r
theorem wd_Rb(b:Bw):b.ok->∀tl,Tl tl->wd (Rb b.txt++tl)=b.toks++wd tl:=by
 refine Bw.induct (P:=fun b=>b.ok->∀tl,Tl tl->wd (Rb b.txt++tl)=b.toks++wd tl) (fun w h tl ht=>?_) (fun o ws ih h tl ht=>?_) b
 ·unfold Bw.ok at h
  unfold Bw.txt Bw.toks
  have n32:32∉w:=fun m=>(h.2 _ m).1 rfl
  rw[Rb_free h.2]
  rcases ht with rfl|⟨t,rfl⟩
  ·rw[List.append_nil,wd_one n32 h.1]
   rfl
  ·rw[wd_word n32 h.1,wd_blank]
   rfl
 ·unfold Bw.ok at h
  obtain⟨ho,hw⟩:=h
  have hr:∀ws:List Bw,(∀x∈ws,x.ok->∀tl,Tl tl->wd (Rb x.txt++tl)=x.toks++wd tl)->Bw.oks ws->∀t,wd (Rb (Bw.txtr ws)++32::t)=Bw.tokss ws++wd t:=by
   intro ws
   induction ws with
   |nil=>intro _ _ t;unfold Bw.txtr Bw.tokss;exact wd_blank
   |cons x r ihr =>
    intro hx hw t
    unfold Bw.oks at hw
    unfold Bw.txtr Bw.tokss
    rw[show 32::(x.txt++Bw.txtr r)=[32]++(x.txt++Bw.txtr r)from rfl,Rb_app,Rb_app,Rb_32]
    show wd (32::((Rb x.txt++Rb (Bw.txtr r))++32::t))=_
    rw[wd_blank,List.append_assoc]
    have ht':Tl (Rb (Bw.txtr r)++32::t):=by
     cases r with
     |nil=>exact .inr ⟨t,rfl⟩
     |cons y q =>
      refine .inr ?_
      unfold Bw.txtr
      rw[show 32::(y.txt++Bw.txtr q)=[32]++(y.txt++Bw.txtr q)from rfl,Rb_app,Rb_32]
      exact⟨_,rfl⟩
    rw[hx x (.head _) hw.1 _ ht',ihr (fun z hz=>hx z (.tail _ hz)) hw.2 t,List.append_assoc]
  have hs:wd (Rb (Bw.txts ws)++32::(clo o::tl))=Bw.tokss ws++wd (clo o::tl):=by
   cases ws with
   |nil=>unfold Bw.txts Bw.tokss;exact wd_blank
   |cons x r =>
    unfold Bw.oks at hw
    have z:=hr (x::r) (fun y hy hk=>ih y hy hk) (by unfold Bw.oks;exact hw) (clo o::tl)
    unfold Bw.txtr at z
    rw[show 32::(x.txt++Bw.txtr r)=[32]++(x.txt++Bw.txtr r)from rfl,Rb_app,Rb_32]at z
    rw[show([32]++Rb (x.txt++Bw.txtr r))++32::clo o::tl=32::(Rb (x.txt++Bw.txtr r)++32::clo o::tl)from rfl,wd_blank]at z
    unfold Bw.txts
    exact z
  unfold Bw.txt Bw.toks
  rw[show o::(Bw.txts ws++[clo o])=[o]++(Bw.txts ws++[clo o])from rfl,Rb_app,Rb_app,Rb_o ho,Rb_c ho]
  have e1:[o,32]++(Rb (Bw.txts ws)++[32,clo o])++tl=[o]++32::(Rb (Bw.txts ws)++32::clo o::tl):=by simp
  have no:32∉[o]:=by rcases ho with rfl|rfl<;>decide
  have nc:32∉[clo o]:=by rcases ho with rfl|rfl<;>decide
  have e2:wd (clo o::tl)=[clo o]::wd tl:=by
   rcases ht with rfl|⟨t,rfl⟩
   ·exact wd_one nc (by simp)
   ·rw[wd_blank]
    exact wd_word nc (by simp)
  rw[e1,wd_word no (by simp),hs,e2]
  simp
theorem words_Bw{b:Bw}(h:b.ok):wd (Rb b.txt)=b.toks:=by
 have:=wd_Rb b h [] (.inl rfl)
 rw[List.append_nil,wd_nil,List.append_nil]at this
 exact this
abbrev BSt:=List (Nat×List Bw)
def stp:BSt->List Nat->Option BSt
 |(o,xs)::st,w =>
  if w=[40]\/w=[91]then some ((w.headD 0,[])::(o,xs)::st)
  else if w=[41]\/w=[93]then(match st with
   |(o',ys)::st'=>if w=[clo o]then some ((o',ys++[.g o xs])::st')else none
   | []=>none)
  else some ((o,xs++[.a w])::st)
 | [],_=>none
theorem stp_open{o:Nat}{xs:List Bw}{st:BSt}{w:List Nat}(h:w=[40]\/w=[91]):stp ((o,xs)::st) w=some ((w.headD 0,[])::(o,xs)::st):=by
 show(if w=[40]\/w=[91]then _ else _)=_
 rw[if_pos h]
theorem stp_atom{o:Nat}{xs:List Bw}{st:BSt}{w:List Nat}(h:¬(w=[40]\/w=[91]))(h2:¬(w=[41]\/w=[93])):stp ((o,xs)::st) w=some ((o,xs++[.a w])::st):=by
 show(if w=[40]\/w=[91]then _ else if w=[41]\/w=[93]then _ else _)=_
 rw[if_neg h,if_neg h2]
theorem stp_close{c o:Nat}{ws xs:List Bw}{st:BSt}(hc:c=40\/c=91):stp ((c,ws)::(o,xs)::st) [clo c]=some ((o,xs++[.g c ws])::st):=by
 rw[stp,if_neg (by rcases hc with rfl|rfl<;>decide),if_pos (by rcases hc with rfl|rfl<;>decide)]
 exact if_pos rfl
def brun:BSt->List (List Nat)->Option BSt
 |st,[]=>some st
 |st,w::r=>(stp st w).bind fun st'=>brun st' r
theorem brun_app:∀(l r:List (List Nat)) (st:BSt),brun st (l++r)=(brun st l).bind fun st'=>brun st' r
 | [],r,st=>rfl
 |w::l,r,st=>by
  show(stp st w).bind (fun st'=>brun st' (l++r))=((stp st w).bind fun st'=>brun st' l).bind _
  cases stp st w with
  |none=>rfl
  |some st'=>exact brun_app l r st'
theorem brun_w(b:Bw):b.ok->∀(o:Nat) (xs:List Bw) (st:BSt),brun ((o,xs)::st) b.toks=some ((o,xs++[b])::st):=by
 refine Bw.induct (P:=fun b=>b.ok->∀(o:Nat) (xs:List Bw) (st:BSt),brun ((o,xs)::st) b.toks=some ((o,xs++[b])::st)) (fun w h o xs st=>?_) (fun c ws ih h o xs st=>?_) b
 ·unfold Bw.ok at h
  have n:∀k,(k=40\/k=41\/k=91\/k=93)->w≠[k]:=fun k hk e=>by
   have:=h.2 k (by rw[e];exact .head _)
   unfold wsg at this
   omega
  unfold Bw.toks
  show(stp ((o,xs)::st) w).bind _=_
  rw[stp_atom (by rintro(e|e);exact n 40 (by simp) e;exact n 91 (by simp) e) (by rintro(e|e);exact n 41 (by simp) e;exact n 93 (by simp) e)]
  rfl
 ·unfold Bw.ok at h
  obtain⟨hc,hw⟩:=h
  have all:∀(l:List Bw),(∀x∈l,x.ok->∀(o:Nat) (xs:List Bw) (st:BSt),brun ((o,xs)::st) x.toks=some ((o,xs++[x])::st))->Bw.oks l->∀(o:Nat) (ys:List Bw) (st:BSt),brun ((o,ys)::st) (Bw.tokss l)=some ((o,ys++l)::st):=by
   intro l
   induction l with
   |nil=>intro _ _ o ys st;unfold Bw.tokss;rw[List.append_nil];rfl
   |cons x r ihr =>
    intro hx hk o ys st
    unfold Bw.oks at hk
    unfold Bw.tokss
    rw[brun_app,hx x (.head _) hk.1,Option.bind_some,ihr (fun z hz=>hx z (.tail _ hz)) hk.2,List.append_assoc]
    rfl
  unfold Bw.toks
  show(stp ((o,xs)::st) [c]).bind _=_
  have e1:stp ((o,xs)::st) [c]=some ((c,[])::(o,xs)::st):=stp_open (by rcases hc with rfl|rfl<;>simp)
  rw[e1,Option.bind_some,brun_app,all ws (fun x hx hk=>ih x hx hk) hw,Option.bind_some,List.nil_append]
  show(stp ((c,ws)::(o,xs)::st) [clo c]).bind _=_
  have e2:stp ((c,ws)::(o,xs)::st) [clo c]=some ((o,xs++[.g c ws])::st):=stp_close hc
  rw[e2]
  rfl
end L2
namespace L2
open PySem PySem.Spec PyProof.Rows
def srtB(c:Nat):Str:=if c=32 then "blank" else if c=40\/c=91 then "start" else if c=41\/c=93 then "end" else "word"
def folVB(a:Str):List V:=if a="blank" then [.str "start",.str "word"]else if a="start" then [.str "start",.str "word",.str "end"]else if a="word" then [.str "word",.str "blank",.str "end"]else [.str "end",.str "blank"]
def folB(a b:Str):Bool:=inV (.str b) (folVB a)
def AdB(l:List Nat):Prop:=(List.zipWith (fun a b=>folB (srtB a) (srtB b)) l (l.drop 1)).all id=true
theorem srtB_w{a:Nat}(h:wsg a):srtB a="word":=by
 unfold srtB
 unfold wsg at h
 rw[if_neg h.1,if_neg (by omega),if_neg (by omega)]
theorem srtB_o{o:Nat}(h:o=40\/o=91):srtB o="start":=by rcases h with rfl|rfl<;>decide +kernel
theorem srtB_c{o:Nat}(h:o=40\/o=91):srtB (clo o)="end":=by rcases h with rfl|rfl<;>decide +kernel
theorem adB_cons{a b:Nat}{l:List Nat}(h1:folB (srtB a) (srtB b)=true)(h2:AdB (b::l)):AdB (a::b::l):=by
 unfold AdB at h2⊢
 show(List.zipWith _ (a::b::l) (b::l)).all id=true
 rw[List.zipWith_cons_cons,List.all_cons,Bool.and_eq_true]
 exact⟨h1,h2⟩
def Eb(l:List Nat):Prop:=∃h tl,l=h::tl/\(srtB h="end"\/srtB h="blank")
def Sb(l:List Nat):Prop:=∃h tl,l=h::tl/\(srtB h="start"\/srtB h="word")
theorem adB_word:∀(l:List Nat),(∀a∈l,wsg a)->∀(m:List Nat),Eb m->AdB m->AdB (l++m)
 | [],_,_,_,ad=>ad
 | [a],hl,m,⟨h,tl,e,hf⟩,ad=>by
  subst e
  exact adB_cons (by rw[srtB_w (hl a (.head _))];rcases hf with e|e<;>rw[e]<;>decide +kernel) ad
 |a::b::l,hl,m,hm,ad=>adB_cons (by rw[srtB_w (hl a (.head _)),srtB_w (hl b (.tail _ (.head _)))];decide +kernel) (adB_word (b::l) (fun x hx=>hl x (.tail _ hx)) m hm ad)
theorem Bw.sb{b:Bw}(h:b.ok)(m:List Nat):Sb (b.txt++m):=by
 cases b with
 |a w =>
  unfold Bw.ok at h
  unfold Bw.txt
  cases w with
  |nil=>exact absurd rfl h.1
  |cons c r=>exact⟨c,r++m,rfl,.inr (srtB_w (h.2 c (.head _)))⟩
 |g o ws =>
  unfold Bw.ok at h
  unfold Bw.txt
  exact⟨o,_,rfl,.inl (srtB_o h.1)⟩
theorem adB_in{a:Nat}{l:List Nat}(ha:srtB a="start"\/srtB a="blank")(h:Sb l)(ad:AdB l):AdB (a::l):=by
 obtain⟨c,tl,rfl,hc⟩:=h
 refine adB_cons ?_ ad
 rcases ha with e|e<;>rcases hc with e2|e2<;>rw[e,e2]<;>decide +kernel
theorem adB_Bw(b:Bw):b.ok->∀m,Eb m->AdB m->AdB (b.txt++m):=by
 refine Bw.induct (P:=fun b=>b.ok->∀m,Eb m->AdB m->AdB (b.txt++m)) (fun w h m hm ad=>?_) (fun o ws ih h m hm ad=>?_) b
 ·unfold Bw.ok at h
  unfold Bw.txt
  exact adB_word w h.2 m hm ad
 ·unfold Bw.ok at h
  obtain⟨ho,hw⟩:=h
  have hcl:AdB (clo o::m):=by
   obtain⟨c,tl,rfl,hc⟩:=hm
   refine adB_cons ?_ ad
   rw[srtB_c ho]
   rcases hc with e|e<;>rw[e]<;>decide +kernel
  have all:∀(l:List Bw),(∀x∈l,x.ok->∀m,Eb m->AdB m->AdB (x.txt++m))->Bw.oks l->∀m,Eb m->AdB m->Eb (Bw.txtr l++m)/\AdB (Bw.txtr l++m):=by
   intro l
   induction l with
   |nil=>intro _ _ m hm ad;unfold Bw.txtr;exact⟨hm,ad⟩
   |cons x r ihr =>
    intro hx hk m hm ad
    unfold Bw.oks at hk
    obtain⟨e1,a1⟩:=ihr (fun z hz=>hx z (.tail _ hz)) hk.2 m hm ad
    unfold Bw.txtr
    show Eb (32::((x.txt++Bw.txtr r)++m))/\AdB (32::((x.txt++Bw.txtr r)++m))
    rw[List.append_assoc]
    exact⟨⟨32,_,rfl,.inr (by decide +kernel)⟩,adB_in (.inr (by decide +kernel)) (x.sb hk.1 _) (hx x (.head _) hk.1 _ e1 a1)⟩
  have ec:Eb (clo o::m):=⟨_,_,rfl,.inl (srtB_c ho)⟩
  unfold Bw.txt
  show AdB (o::((Bw.txts ws++[clo o])++m))
  rw[List.append_assoc]
  show AdB (o::(Bw.txts ws++(clo o::m)))
  cases ws with
  |nil =>
   unfold Bw.txts
   refine adB_cons ?_ hcl
   rw[srtB_o ho,srtB_c ho]
   decide +kernel
  |cons x r =>
   unfold Bw.oks at hw
   unfold Bw.txts
   rw[List.append_assoc]
   obtain⟨e1,a1⟩:=all r (fun y hy=>ih y (.tail _ hy)) hw.2 _ ec hcl
   exact adB_in (.inl (srtB_o ho)) (x.sb hw.1 _) (ih x (.head _) hw.1 _ e1 a1)
theorem adB_all{b:Bw}(h:b.ok):AdB (32::(b.txt++[32])) :=
 adB_in (.inr (by decide +kernel)) (b.sb h _) (adB_Bw b h [32] ⟨32,[],rfl,.inr (by decide +kernel)⟩ rfl)
theorem fmB_le{c:Nat}{z:List Nat}(hz:z.length<=2):∀l:List Nat,(l.flatMap (subst1 c z)).length<=2*l.length
 | []=>Nat.le_refl _
 |a::l=>by
  have:=fmB_le (c:=c) hz l
  have h1:(subst1 c z a).length<=2:=by
   unfold subst1
   split
   ·exact hz
   ·show 1<=2;decide
  rw[List.flatMap_cons,List.length_append,List.length_cons]
  omega
theorem Rp1_le(l:List Nat):(Rp1 l).length<=4*l.length:=by
 have h1:=fmB_le (c:=40) (z:=[40,32]) (by decide) l
 have h2:=fmB_le (c:=91) (z:=[91,32]) (by decide) (l.flatMap (subst1 40 [40,32]))
 unfold Rp1
 omega
theorem Rp2_le(l:List Nat):(Rp2 l).length<=4*l.length:=by
 have h1:=fmB_le (c:=41) (z:=[32,41]) (by decide) l
 have h2:=fmB_le (c:=93) (z:=[32,93]) (by decide) (l.flatMap (subst1 41 [32,41]))
 unfold Rp2
 omega
section
variable {X:Cx}
theorem op_in_sign:OpR X (compareOp .In) (fun x y H Q=>∃c j,x=.str ⟨#[c]⟩/\y=.str j/\Q (.bl (decide (c∈j.cps.toList))) H):=by
 intro pins s σ H x y v u Q I rx ry h
 obtain⟨c,j,rfl,rfl,q⟩:=h
 refine op_in_str pins s σ H (.str ⟨#[c]⟩) (.str j) v u Q I rx ry ⟨_,_,rfl,rfl,?_⟩
 rw[StrLaws.found_one]
 exact q
theorem pt_truthK{a:Expr}{ta:TE}(K:PySem.W.Frag)(hK:X.K=K)(ha:PE X a ta)(he:∀whole,isTrue a X.env whole=(do let v ←whole;standAt a.pos;holding [v] (truthy v))) :
  PT X a (fun σ H Q=>ta σ H fun x H'=>∃k,TruV K x H' k/\Q k H'):=by
 subst hK
 exact pt_truth ha he
theorem pe_kgetK{o i:Expr}{pos:Pos}{td ty:TE}(K:PySem.W.Frag)(w:World)(hK:X.K=K)(hw:X.w=w)(ho:PE X o td)(hi:PE X i ty)(hs:NoSl i):PE X (.Subscript o i pos) (tKGet K w td ty):=by
 subst hK hw
 exact pe_kget ho hi hs
end
theorem comp_mapS{t:Str}{f:Nat->V}{g:TG}{te:TE}{Q:VK}{σ0:St}{H0:Hp}(hg:∀(v:V) (σ:St) (H:Hp) K,g v σ H K=K (σ.set 0 (some v)) H)
  (ht:∀c∈t.cps.toList,∀(H:Hp) (K:VK),Same H0 H->K (f c) H->te [some (.str ⟨#[c]⟩)] H K) (hl:σ0.length=1) (hn:t.cps.size<=sizeLine)
  (hd:∀p,H0 p=none->Q (.ref p) (upd H0 p (.lst (t.cps.toList.map f)))):CompW (Its t) g tNoIf te Q σ0 H0:=by
 refine comp_by t.cps.size (fun i σ vs H1=>σ.length=1/\H1=H0/\vs=(t.cps.toList.take i).map f) ⟨hl,rfl,rfl⟩ (fun i σ vs H1 hi ⟨_,_,e⟩=>by rw[e,List.length_map,List.length_take];omega) hn (fun _ _ _ _ h _=>h) (fun _ _ _ _=>rfl) ?_ ?_
 ·rintro i σ vs H1 x H' hi ⟨hσ,rfl,rfl⟩ ⟨rfl,c,hc,rfl⟩
  obtain⟨o,rfl⟩:∃o,σ=[o]:=by
   match σ,hσ with
   | [o],_=>exact⟨o,rfl⟩
  have hc':t.cps.toList[i]?=some c:=by simpa using hc
  rw[hg]
  refine ht c (List.mem_of_getElem? hc') _ _ (Same.refl _) ?_
  refine⟨rfl,rfl,?_⟩
  rw[List.take_add_one,hc',List.map_append]
  rfl
 ·rintro σ vs H1 ⟨_,rfl,rfl⟩ p hp
  have e:t.cps.toList.take t.cps.size=t.cps.toList:=List.take_of_length_le (by simp)
  rw[e]
  exact hd p hp
end L2
namespace L2
open PySem
theorem putF_lt'{f:Str}{v:V}{n:Nat}(k:Nat):∀{fs:List (Str×V)},fs.length+(k+1)<n->(putF f v fs).length+k<n
 | [],h=>by show 1+k<n;simp at h;omega
 |(g,x)::r,h=>by
  unfold putF
  split
  ·rw[List.length_cons]at h⊢;omega
  ·rw[List.length_cons]at h⊢
   have:=putF_lt' (f:=f) (v:=v) (n:=n) (k+1) (fs:=r) (by omega)
   omega
theorem putF_lt0{f:Str}{v:V}{n:Nat}{fs:List (Str×V)}(h:fs.length+1<n):(putF f v fs).length<n:=putF_lt' 0 h
theorem cx_K{X0:CXT}{P:Program}{w:World}{K:PySem.W.Frag}{mg:Str->Option Value}{base:Heap}{N:List Str}{nm:Str}{sc:Scope}{f:Addr}{cdv:Value}{A:Around}{outer:List PySem.Env}{s:Shared}{H:Hp}{E:XK}:(cxOf X0 P w K mg base N nm sc f cdv A outer s H E).nox.K=K:=rfl
def Cut(b:TS)(D:Ends)(N:St->Hp->Prop):Prop:=∀σ H,b D σ H->N σ H
theorem seq_cut{a b:TS}{D:Ends}{σ:St}{H:Hp}(h:∀N:St->Hp->Prop,Cut b D N->a {D with nx:=N} σ H):tSeq a b D σ H:=h (b D) (fun _ _ x=>x)
theorem next_of{D:Ends}{σ:St}{H:Hp}(h:D.nx σ H):tNext D σ H:=h
theorem asgc_of{D:Ends}{σ:St}{H:Hp}{v:V}{i:Nat}(h:D.nx (σ.set i (some v)) H):tAsg (tC v) (gName i) D σ H:=h
theorem seq_cut2{t0 t1 t2:TS}{D:Ends}{σ:St}{H:Hp}(h:∀N1 N2:St->Hp->Prop,Cut t1 {D with nx:=N2} N1->Cut t2 D N2->t0 {D with nx:=N1} σ H):tSeq t0 (tSeq t1 t2) D σ H:=h (tSeq t1 t2 D) (t2 D) (fun _ _ x=>x) (fun _ _ x=>x)
theorem seq_cut3{t0 t1 t2 t3:TS}{D:Ends}{σ:St}{H:Hp}(h:∀N1 N2 N3:St->Hp->Prop,Cut t1 {D with nx:=N2} N1->Cut t2 {D with nx:=N3} N2->Cut t3 D N3->t0 {D with nx:=N1} σ H):tSeq t0 (tSeq t1 (tSeq t2 t3)) D σ H:=h (tSeq t1 (tSeq t2 t3) D) (tSeq t2 t3 D) (t3 D) (fun _ _ x=>x) (fun _ _ x=>x) (fun _ _ x=>x)
theorem seq_cut4{t0 t1 t2 t3 t4:TS}{D:Ends}{σ:St}{H:Hp}(h:∀N1 N2 N3 N4:St->Hp->Prop,Cut t1 {D with nx:=N2} N1->Cut t2 {D with nx:=N3} N2->Cut t3 {D with nx:=N4} N3->Cut t4 D N4->t0 {D with nx:=N1} σ H):tSeq t0 (tSeq t1 (tSeq t2 (tSeq t3 t4))) D σ H:=h (tSeq t1 (tSeq t2 (tSeq t3 t4)) D) (tSeq t2 (tSeq t3 t4) D) (tSeq t3 t4 D) (t4 D) (fun _ _ x=>x) (fun _ _ x=>x) (fun _ _ x=>x) (fun _ _ x=>x)
theorem seq_cut5{t0 t1 t2 t3 t4 t5:TS}{D:Ends}{σ:St}{H:Hp}(h:∀N1 N2 N3 N4 N5:St->Hp->Prop,Cut t1 {D with nx:=N2} N1->Cut t2 {D with nx:=N3} N2->Cut t3 {D with nx:=N4} N3->Cut t4 {D with nx:=N5} N4->Cut t5 D N5->t0 {D with nx:=N1} σ H):tSeq t0 (tSeq t1 (tSeq t2 (tSeq t3 (tSeq t4 t5)))) D σ H:=h (tSeq t1 (tSeq t2 (tSeq t3 (tSeq t4 t5))) D) (tSeq t2 (tSeq t3 (tSeq t4 t5)) D) (tSeq t3 (tSeq t4 t5) D) (tSeq t4 t5 D) (t5 D) (fun _ _ x=>x) (fun _ _ x=>x) (fun _ _ x=>x) (fun _ _ x=>x) (fun _ _ x=>x)
theorem seq_cut6{t0 t1 t2 t3 t4 t5 t6:TS}{D:Ends}{σ:St}{H:Hp}(h:∀N1 N2 N3 N4 N5 N6:St->Hp->Prop,Cut t1 {D with nx:=N2} N1->Cut t2 {D with nx:=N3} N2->Cut t3 {D with nx:=N4} N3->Cut t4 {D with nx:=N5} N4->Cut t5 {D with nx:=N6} N5->Cut t6 D N6->t0 {D with nx:=N1} σ H):tSeq t0 (tSeq t1 (tSeq t2 (tSeq t3 (tSeq t4 (tSeq t5 t6))))) D σ H:=h (tSeq t1 (tSeq t2 (tSeq t3 (tSeq t4 (tSeq t5 t6)))) D) (tSeq t2 (tSeq t3 (tSeq t4 (tSeq t5 t6))) D) (tSeq t3 (tSeq t4 (tSeq t5 t6)) D) (tSeq t4 (tSeq t5 t6) D) (tSeq t5 t6 D) (t6 D) (fun _ _ x=>x) (fun _ _ x=>x) (fun _ _ x=>x) (fun _ _ x=>x) (fun _ _ x=>x) (fun _ _ x=>x)
theorem seq_cut8{t0 t1 t2 t3 t4 t5 t6 t7 t8:TS}{D:Ends}{σ:St}{H:Hp}(h:∀N1 N2 N3 N4 N5 N6 N7 N8:St->Hp->Prop,Cut t1 {D with nx:=N2} N1->Cut t2 {D with nx:=N3} N2->Cut t3 {D with nx:=N4} N3->Cut t4 {D with nx:=N5} N4->Cut t5 {D with nx:=N6} N5->Cut t6 {D with nx:=N7} N6->Cut t7 {D with nx:=N8} N7->Cut t8 D N8->t0 {D with nx:=N1} σ H):tSeq t0 (tSeq t1 (tSeq t2 (tSeq t3 (tSeq t4 (tSeq t5 (tSeq t6 (tSeq t7 t8))))))) D σ H:=h (tSeq t1 (tSeq t2 (tSeq t3 (tSeq t4 (tSeq t5 (tSeq t6 (tSeq t7 t8)))))) D) (tSeq t2 (tSeq t3 (tSeq t4 (tSeq t5 (tSeq t6 (tSeq t7 t8))))) D) (tSeq t3 (tSeq t4 (tSeq t5 (tSeq t6 (tSeq t7 t8)))) D) (tSeq t4 (tSeq t5 (tSeq t6 (tSeq t7 t8))) D) (tSeq t5 (tSeq t6 (tSeq t7 t8)) D) (tSeq t6 (tSeq t7 t8) D) (tSeq t7 t8 D) (t8 D) (fun _ _ x=>x) (fun _ _ x=>x) (fun _ _ x=>x) (fun _ _ x=>x) (fun _ _ x=>x) (fun _ _ x=>x) (fun _ _ x=>x) (fun _ _ x=>x)
theorem dpn{d:Nat}:T.deps []<=d:=by rw[T.deps];exact Nat.zero_le _
theorem dpc{x:T}{xs:List T}{d:Nat}(h:x.dep<=d)(r:T.deps xs<=d):T.deps (x::xs)<=d:=by rw[T.deps];exact Nat.max_le.mpr ⟨h,r⟩
theorem dpt{xs:List T}{d:Nat}(h:T.deps xs<=d):T.dep (.t xs)<=d+1:=by rw[T.dep];exact Nat.succ_le_succ h
theorem dps{x:Str}{d:Nat}:T.dep (.s x)<=d:=by simp[T.dep]
theorem dpi{x:Int}{d:Nat}:T.dep (.i x)<=d:=by simp[T.dep]
end L2
open L2 in
local macro_rules | `(tactic| fail "Z") => `(tactic| first | exact SqL.of (by first | assumption | exact upd_same) | exact SqT.of (by first | assumption | exact upd_same) | omega | (dsimp only [List.length_cons, List.length_nil]; decide) | decide | exact Nat.zero_le _ | (refine putF_lt0 ?_; (repeat with_reducible refine putF_lt' _ ?_); decide))
open L2 in
local macro_rules | `(tactic| fail "S") => `(tactic| first
  | ((with_reducible change @Eq _ _ _); (first | exact rfl | assumption | exact upd_same | (rw [upd_ne (by assumption)]; first | exact upd_same | assumption | (rw [upd_ne (by assumption)]; first | exact upd_same | assumption)) | omega))
  | ((with_reducible first | change @LT.lt _ _ _ _ | change @LE.le _ _ _ _); (first | omega | with_reducible assumption | fail "Z"))
  | assumption
  | ((with_reducible refine And.intro ?_ ?_) <;> fail "S")
  | ((with_reducible refine Or.inl ?_); fail "S")
  | ((with_reducible refine Or.inr ?_); fail "S")
  | ((with_reducible apply Exists.intro); fail "S")
  | ((with_reducible first | change tyV _ _ _ _ | change TruV _ _ _ _ | change CDiv _ _ | change CMul _ _ | change CPow _ _); first | ((first | refine (?_ : @Eq _ _ _) | refine (?_ : And _ _) | refine (?_ : Or _ _) | refine (?_ : Exists _)); fail "S") | exact True.intro)
  | fail "Z")
open L2 in
local macro_rules | `(tactic| fail "T") => `(tactic| first
  | ((with_reducible first | refine seq_cut8 ?_ | refine seq_cut6 ?_ | refine seq_cut5 ?_ | refine seq_cut4 ?_ | refine seq_cut3 ?_ | refine seq_cut2 ?_ | refine seq_cut ?_); intros)
  | (refine (?_ : Exists _); first
     | with_reducible first | apply @Exists.intro Hp | apply @Exists.intro Sp
     | ((fail_if_success (with_reducible apply @Exists.intro (_ → _))); apply Exists.intro))
  | (refine And.intro ?_ ?_; fail "S")
  | ((try with_reducible first | refine next_of ?_ | refine asgc_of ?_); refine (by with_reducible assumption : Cut _ _ _) _ _ ?_))
local macro_rules | `(tactic| fail "R") => `(tactic| first | (fail "T"; fail "R") | refine And.intro ?_ ?_ | refine (?_ : @ite _ _ _ _ _) | skip)
local macro_rules | `(tactic| fail "F") => `(tactic| first | ((with_reducible apply Exists.intro); fail "F") | ((with_reducible refine And.intro ?_ ?_); fail "S"))
local macro_rules | `(tactic| fail "O") => `(tactic| first | (fail "T"; fail "O") | refine And.intro ?_ ?_ | ((first | (refine Or.inl ?_; fail "F") | (refine Or.inr ?_; fail "F")); fail "O") | refine (?_ : @ite _ _ _ _ _) | skip)
open L2 in
local macro_rules | `(tactic| fail "D") => `(tactic| repeat' first | exact dpn | exact dps | exact dpi | assumption | exact Nat.le_trans (by assumption) (by decide) | refine dpt ?_ | refine dpc ?_ ?_)
namespace L2
open PySem
def isStar:Expr->Bool
 |.Starred _ _=>true
 |_=>false
theorem star_all{e:Expr}{es:List Expr}{env:PySem.Env}(h:isStar e=false):starEach (e::es) env=(false,eval e env)::starEach es env:=by
 cases e<;>first|rfl|cases h
theorem pa_c{X:Cx}{e:Expr}{es:List Expr}{te:TE}{t:TA}(ha:PE X e te)(hr:PA X es t)(hs:isStar e=false:=by rfl):PA X (e::es) (tCons te t):=pa_cons ha hr (star_all hs)
end L2
namespace L2
open PySem PySem.Spec PyProof.Rows
section
variable {prog:Program}{w:World}{A:Around}{E:Value->Shared->Prop}{s:Shared}
end
section
variable {prog:Program}{w:World}{A:Around}{R:Result->Shared->Prop}{s:Shared}
end
section
variable {prog:Program}{w:World}{A:Around}{E:Value->Shared->Prop}{s:Shared}
end
section
variable {prog:Program}{w:World}{A:Around}{E:Value->Shared->Prop}{s:Shared}
end
section
variable {X:Cx}{a b:Expr}{t:TA}{p1 p2 p3 p4:Pos}
end
def Isq(b:Bool)(h:Heap)(l:Addr)(xs:Array Value):Prop:=match b with|false=>h.IsList l xs|true=>h.IsTuple l xs
def Itq(b:Bool)(h:Heap)(i l:Addr)(k:Nat):Prop:=match b with|false=>h.IsListIter i l k|true=>h.IsTupleIter i l k
theorem Isq.at{b:Bool}{h h':Heap}{l:Addr}{xs:Array Value}(x:Isq b h l xs)(k:∀o,h.get? l=some o->h'.get? l=some o):Isq b h' l xs:=by
 cases b with
 |false=>exact Heap.IsList.at (show h.IsList l xs from x) k
 |true=>obtain⟨o,e,r⟩:=(show h.IsTuple l xs from x);exact⟨o,k o e,r⟩
theorem Itq.at{b:Bool}{h h':Heap}{i l:Addr}{n:Nat}(x:Itq b h i l n)(k:∀o,h.get? i=some o->h'.get? i=some o):Itq b h' i l n:=by
 cases b with
 |false=>exact Heap.IsListIter.at (show h.IsListIter i l n from x) k
 |true=>obtain⟨o,e,r⟩:=(show h.IsTupleIter i l n from x);exact⟨o,k o e,r⟩
theorem Isq.extBut{b:Bool}{h h':Heap}{l c:Addr}{xs:Array Value}(x:Isq b h l xs)(hs:Heap.ExtBut c h h')(hc:l≠c):Isq b h' l xs:=x.at fun o e=>hs l o hc e
theorem Itq.extBut{b:Bool}{h h':Heap}{i l c:Addr}{n:Nat}(x:Itq b h i l n)(hs:Heap.ExtBut c h h')(hc:i≠c):Itq b h' i l n:=x.at fun o e=>hs i o hc e
theorem Isq.got{b:Bool}{h:Heap}{l:Addr}{xs:Array Value}(x:Isq b h l xs):∃o,h.get? l=some o:=by
 cases b with
 |false=>obtain⟨o,e,_⟩:=(show h.IsList l xs from x);exact⟨o,e⟩
 |true=>obtain⟨o,e,_⟩:=(show h.IsTuple l xs from x);exact⟨o,e⟩
theorem Itq.got{b:Bool}{h:Heap}{i l:Addr}{n:Nat}(x:Itq b h i l n):∃o,h.get? i=some o:=by
 cases b with
 |false=>obtain⟨o,e,_⟩:=(show h.IsListIter i l n from x);exact⟨o,e⟩
 |true=>obtain⟨o,e,_⟩:=(show h.IsTupleIter i l n from x);exact⟨o,e⟩
section
variable {prog:Program}{w:World}{A:Around}{E:Value->Shared->Prop}{s:Shared}
theorem tup_next_item{it t:Addr}{i:Nat}{items:Array Value}{x:Value}{Q:Value->Shared->Prop}(hit:s.heap.IsTupleIter it t i)(ht:s.heap.IsTuple t items)(hx:items[i]?=some x)
  (hQ:∀h',h'.IsTupleIter it t (i+1)->Heap.SameBut it s.heap h'->Q x {s with heap:=h'}):wpAny (model prog w) A (Builtin.SmallTypes.nextOf (.ref it)) Q E s:=by
 obtain⟨o,ho,hc,hd⟩:=id hit
 obtain⟨ol,hol,_,nl,hdl⟩:=ht
 have hT:=hit.typeIs
 unfold Builtin.SmallTypes.nextOf
 refine wpAny_bind (wpAny_callSpecial?_slot (name:=Str.ofString "__next__") hT PySem.F.slot_tuple_iterator_next (wpAny_call_entry PySem.F.slot_tuple_iterator_next hT PySem.F.entry_tuple_iterator_next ?_ (PySem.F.args_tuple_iterator_next_1 _)))
 show wpAny _ _ (field (.ref it) 0>>=_) _ _ s
 refine wpAny_bind (wpAny_field ho hd (x:=.ref t) rfl ?_)
 show wpAny _ _ (if(Value.ref t == Value.none)=true then _ else _) _ _ s
 rw[if_neg (show ¬((Value.ref t == Value.none)=true)from Bool.false_ne_true)]
 show wpAny _ _ (field (.ref it) 1>>=_) _ _ s
 refine wpAny_bind (wpAny_field ho hd (x:=.int i 0) rfl ?_)
 show wpAny _ _ (seqItems? (.ref t)>>=_) _ _ s
 refine wpAny_bind (wpAny_seqItems hol hdl ?_)
 simp only[Int.toNat_natCast,hx]
 refine wpAny_bind (wpAny_setField ho hd (by simp) (wpAny_pure ⟨x,rfl,wpAny_pure (hQ _ ⟨_,Heap.get?_update_self _ ho (Obj.isFreed_of_fields (Obj.data_mapFields hd _)),(Obj.cls_mapFields ..).trans hc,?_⟩ (Heap.SameBut.update ..))⟩))
 rw[Obj.data_mapFields hd];simp[rawInt]
theorem tup_next_end{it t:Addr}{i:Nat}{items:Array Value}{Q:Value->Shared->Prop}(hh:A.handled=none)(hit:s.heap.IsTupleIter it t i)(ht:s.heap.IsTuple t items)(hx:items[i]?=none)
  (hE:∀h' e,Heap.ExtBut it s.heap h'->(∃o,h'.get? e=some o/\o.cls=.type "StopIteration")->E (.ref e) {s with heap:=h'}):wpAny (model prog w) A (Builtin.SmallTypes.nextOf (.ref it)) Q E s:=by
 obtain⟨o,ho,hc,hd⟩:=id hit
 obtain⟨ol,hol,_,nl,hdl⟩:=ht
 have hT:=hit.typeIs
 unfold Builtin.SmallTypes.nextOf
 refine wpAny_bind (wpAny_callSpecial?_slot (name:=Str.ofString "__next__") hT PySem.F.slot_tuple_iterator_next (wpAny_call_entry PySem.F.slot_tuple_iterator_next hT PySem.F.entry_tuple_iterator_next ?_ (PySem.F.args_tuple_iterator_next_1 _)))
 show wpAny _ _ (field (.ref it) 0>>=_) _ _ s
 refine wpAny_bind (wpAny_field ho hd (x:=.ref t) rfl ?_)
 show wpAny _ _ (if(Value.ref t == Value.none)=true then _ else _) _ _ s
 rw[if_neg (show ¬((Value.ref t == Value.none)=true)from Bool.false_ne_true)]
 show wpAny _ _ (field (.ref it) 1>>=_) _ _ s
 refine wpAny_bind (wpAny_field ho hd (x:=.int i 0) rfl ?_)
 show wpAny _ _ (seqItems? (.ref t)>>=_) _ _ s
 refine wpAny_bind (wpAny_seqItems hol hdl ?_)
 simp only[Int.toNat_natCast,hx]
 refine wpAny_bind (wpAny_rule (wpAny_bind (wpAny_setField ho hd (by simp) ?_)))
 show wpAny _ _ (newExc (.type "StopIteration") []>>=_) _ _ _
 refine wpAny_bind ?_
 simp only[newExc,newTuple]
 refine wpAny_bind (wpAny_newObj_type ?_ (by size_fits))
 refine wpAny_bind (m:=firstArgMember _ _) (wpAny_of_eq (a:=Value.none) (by first|rfl|(simp only[firstArgMember];rfl)) ?_)
 refine wpAny_newObj_type ?_ (by size_fits)
 simp only[raiseNew]
 refine wpAny_bind (wpAny_handled ?_)
 first|rw[show A.in1.handled=none from hh]|rw[hh]
 refine wpAny_bind (wpAny_pure (wpAny_throw ?_))
 exact hE _ _ (((Heap.SameBut.update ..).extBut.push _).push _) ⟨_,Heap.get?_push_size _ rfl,rfl⟩
theorem nxq_item{b:Bool}{it l:Addr}{i:Nat}{items:Array Value}{x:Value}{Q:Value->Shared->Prop}(hit:Itq b s.heap it l i)(hl:Isq b s.heap l items)(hx:items[i]?=some x)
  (hQ:∀h',Itq b h' it l (i+1)->Heap.SameBut it s.heap h'->Q x {s with heap:=h'}):wpAny (model prog w) A (Builtin.SmallTypes.nextOf (.ref it)) Q E s:=by
 cases b with
 |false=>exact wpAny_nextOf_list_item hit hl hx hQ
 |true=>exact tup_next_item hit hl hx hQ
theorem nxq_end{b:Bool}{it l:Addr}{i:Nat}{items:Array Value}{Q:Value->Shared->Prop}(hh:A.handled=none)(hit:Itq b s.heap it l i)(hl:Isq b s.heap l items)(hx:items[i]?=none)
  (hE:∀h' e,Heap.ExtBut it s.heap h'->(∃o,h'.get? e=some o/\o.cls=.type "StopIteration")->E (.ref e) {s with heap:=h'}):wpAny (model prog w) A (Builtin.SmallTypes.nextOf (.ref it)) Q E s:=by
 cases b with
 |false=>exact wpAny_nextOf_list_end hh hit hl hx hE
 |true=>exact tup_next_end hh hit hl hx hE
abbrev itObj(b:Bool)(l:Addr):Obj:={cls:=.type (cond b "tuple_iterator" "list_iterator"),data:=.fields #[.ref l,.int 0 0]}
theorem iterQ{b:Bool}{l:Addr}{items:Array Value}{Q:Value->Shared->Prop}(hl:Isq b s.heap l items)(hQ:Q (.ref s.heap.objs.size) {s with heap:=s.heap.push (itObj b l)}):wpAny (model prog w) A (pyIter (.ref l)) Q E s:=by
 cases b with
 |false=>exact wpAny_pyIter_list hl hQ
 |true=>exact wpAny_pyIter_tuple hl hQ
end
abbrev zq1(b1:Bool)(h:Heap)(l1:Addr):Heap:=h.push (itObj b1 l1)
abbrev zq2(b1 b2:Bool)(h:Heap)(l1 l2:Addr):Heap:=(zq1 b1 h l1).push (itObj b2 l2)
abbrev zq3(b1 b2:Bool)(h:Heap)(l1 l2:Addr):Heap:=(zq2 b1 b2 h l1 l2).push {cls:=.type "tuple",data:=.seq #[.ref h.objs.size,.ref (zq1 b1 h l1).objs.size]}
abbrev zq4(b1 b2:Bool)(h:Heap)(l1 l2:Addr):Heap:=(zq3 b1 b2 h l1 l2).push {cls:=.type "tuple",data:=.seq #[.none,.none]}
abbrev zq5(b1 b2:Bool)(h:Heap)(l1 l2:Addr):Heap:=(zq4 b1 b2 h l1 l2).push {cls:=.type "zip",data:=.fields #[.none,.bool false,.bool false,.ref (zq2 b1 b2 h l1 l2).objs.size,.ref (zq3 b1 b2 h l1 l2).objs.size]}
theorem zq_new(b1 b2:Bool)(l1 l2:Addr)(xs ys:Array Value) :
  Meets (Builtin.«zip.__new__» ⟨[.type "zip",.ref l1,.ref l2],[]⟩) (fun _ R s=>Isq b1 s.heap l1 xs/\Isq b2 s.heap l2 ys/\R (.ok (.ret (.ref (zq4 b1 b2 s.heap l1 l2).objs.size))) {s with heap:=zq5 b1 b2 s.heap l1 l2}) :=
 .of_wp fun prog w A R s h=>by
  obtain⟨hp,g,d,tk,os⟩:=s
  obtain⟨hl1,hl2,h⟩:=h
  have hsub:=sub_zip
  have hL1:Isq b1 (Shared.heap ⟨hp,g,d,tk,os⟩) l1 xs:=hl1
  have hL2:Isq b2 (Shared.heap ⟨hp.push (itObj b1 l1),g,d,tk,os⟩) l2 ys:=hl2.at fun o e=>Heap.get?_push_of_some _ e
  wp_walk using iterQ hL1,iterQ hL2
  exact⟨_,rfl,h⟩
section
variable {prog:Program}{w:World}{A:Around}{E:Value->Shared->Prop}{s:Shared}{b1 b2:Bool}
theorem it_of{b:Bool}{h:Heap}{i l:Addr}(e:h.get? i=some (itObj b l)):Itq b h i l 0:=by
 cases b with
 |false=>exact⟨_,e,rfl,rfl⟩
 |true=>exact⟨_,e,rfl,rfl⟩
theorem zq_call{l1 l2:Addr}{xs ys:Array Value}{Q:Value->Shared->Prop}(hl1:Isq b1 s.heap l1 xs)(hl2:Isq b2 s.heap l2 ys)
  (h:∀h',IsZip h' (s.heap.objs.size+4) (s.heap.objs.size+2) (s.heap.objs.size+3) .none->IsPair h' (s.heap.objs.size+2) (.ref s.heap.objs.size) (.ref (s.heap.objs.size+1)) ->
   IsPair h' (s.heap.objs.size+3) .none .none->Itq b1 h' s.heap.objs.size l1 0->Itq b2 h' (s.heap.objs.size+1) l2 0->h'.objs.size=s.heap.objs.size+5 ->
   (∀c o,s.heap.get? c=some o->h'.get? c=some o)->Q (.ref (s.heap.objs.size+4)) {s with heap:=h'}) :
  wpAny (model prog w) A (call (.type "zip") [.ref l1,.ref l2]) Q E s:=by
 refine callType_new PySem.F.called_zip (by decide) (PySem.F.typeCall_zip_2 _ _) (PySem.F.newCall_zip_2 _ _) (fun obj=>PySem.F.args_object_init_3 obj _ _) PySem.F.entry_zip_new (zq_new b1 b2 l1 l2 xs ys) ⟨hl1,hl2,?_⟩
 have z1:(zq1 b1 s.heap l1).objs.size=s.heap.objs.size+1:=Heap.size_push ..
 have z2:(zq2 b1 b2 s.heap l1 l2).objs.size=s.heap.objs.size+2:=by rw[Heap.size_push,z1]
 have z3:(zq3 b1 b2 s.heap l1 l2).objs.size=s.heap.objs.size+3:=by rw[Heap.size_push,z2]
 have z4:(zq4 b1 b2 s.heap l1 l2).objs.size=s.heap.objs.size+4:=by rw[Heap.size_push,z3]
 have z5:(zq5 b1 b2 s.heap l1 l2).objs.size=s.heap.objs.size+5:=by rw[Heap.size_push,z4]
 have up:∀{h:Heap}{c:Addr}{o:Obj}(x:Obj),h.get? c=some o->(h.push x).get? c=some o:=fun x e=>Heap.get?_push_of_some _ e
 have g5:(zq5 b1 b2 s.heap l1 l2).get? (zq4 b1 b2 s.heap l1 l2).objs.size=some _:=Heap.get?_push_size _ rfl
 have g4:(zq5 b1 b2 s.heap l1 l2).get? (zq3 b1 b2 s.heap l1 l2).objs.size=some _:=up _ (Heap.get?_push_size _ rfl)
 have g3:(zq5 b1 b2 s.heap l1 l2).get? (zq2 b1 b2 s.heap l1 l2).objs.size=some _:=up _ (up _ (Heap.get?_push_size _ rfl))
 have g2:(zq5 b1 b2 s.heap l1 l2).get? (zq1 b1 s.heap l1).objs.size=some (itObj b2 l2):=up _ (up _ (up _ (Heap.get?_push_size _ rfl)))
 have g1:(zq5 b1 b2 s.heap l1 l2).get? s.heap.objs.size=some (itObj b1 l1):=up _ (up _ (up _ (up _ (Heap.get?_push_size _ rfl))))
 show _/\_
 rw[z2,z3,z4]at g5
 rw[z1,z2]at g3
 rw[z3]at g4
 rw[z1]at g2
 rw[z4]
 exact⟨⟨_,g5,rfl⟩,h _ g5 g3 g4 (it_of g1) (it_of g2) z5 fun c o x=>up _ (up _ (up _ (up _ (up _ x))))⟩
theorem zq_item{z TI TO i1 i2 l1 l2:Addr}{k1 k2:Nat}{xs ys:Array Value}{x y a b:Value}{Q:Option Value->Shared->Prop}(D:ZipApart z TI TO i1 i2 l1 l2)(hz:IsZip s.heap z TI TO .none)(hTI:IsPair s.heap TI (.ref i1) (.ref i2))(hTO:IsPair s.heap TO a b)
  (h1:Itq b1 s.heap i1 l1 k1) (h2:Itq b2 s.heap i2 l2 k2) (hl1:Isq b1 s.heap l1 xs) (hl2:Isq b2 s.heap l2 ys) (hx:xs[k1]?=some x) (hy:ys[k2]?=some y)
  (hQ:∀h',IsZip h' z TI TO (rawInt s.heap.objs.size)->IsPair h' TO x y->Itq b1 h' i1 l1 (k1+1)->Itq b2 h' i2 l2 (k2+1)->IsPair h' s.heap.objs.size x y->h'.objs.size=s.heap.objs.size+1 ->
   (∀c o,c≠z->c≠TO->c≠i1->c≠i2->s.heap.get? c=some o->h'.get? c=some o)->Q (some (.ref s.heap.objs.size)) {s with heap:=h'}) :
  wpAny (model prog w) A (pyNext (.ref z)) Q E s:=by
 have hTy:s.TypeIs (.ref z) "zip":=⟨_,hz,rfl⟩
 unfold pyNext
 refine wpAny_bind (wpAny_attempt (wpAny_callSpecial?_slot (name:=Str.ofString "__next__") hTy PySem.F.slot_zip_next (wpAny_call_entry PySem.F.slot_zip_next hTy PySem.F.entry_zip_next ?_ (PySem.F.args_zip_next_1 _))))
 show wpAny _ _ (field (.ref z) 2>>=_) _ _ _
 refine wpAny_bind (wpAny_field hz rfl (x:=.bool false) rfl ?_)
 show wpAny _ _ (field (.ref z) 3>>=_) _ _ _
 refine wpAny_bind (wpAny_field hz rfl (x:=.ref TI) rfl (wpAny_bind (wpAny_seqItems hTI rfl ?_)))
 show wpAny _ _ (Builtin.SmallTypes.ownedTupleIsFree (.ref z)>>=_) _ _ _
 refine wpAny_bind ?_
 unfold Builtin.SmallTypes.ownedTupleIsFree
 refine wpAny_bind (wpAny_field hz rfl (x:=.none) rfl (wpAny_pure ?_))
 simp only[if_true]
 refine wpAny_bind (wpAny_rule (wpAny_bind (wpAny_field hz rfl (x:=.ref TO) rfl ?_)))
 refine wpAny_bind (wpAny_setField_rec hz (by simp) fun h₁ hz₁ hs₁=>?_)
 replace hz₁:IsZip h₁ z TI TO .ellipsis:=hz₁
 refine wpAny_bind ?_
 simp only[List.zipIdx_cons,List.zipIdx_nil,List.forIn_cons,List.forIn_nil]
 refine wpAny_bind (wpAny_bind (wpAny_onRaise ?_))
 show wpAny _ _ (Builtin.SmallTypes.nextOf (.ref i1)>>=_) _ _ _
 refine wpAny_bind (nxq_item (h1.extBut hs₁.extBut D.i1z) (hl1.extBut hs₁.extBut D.l1z) hx fun h₂ h1₂ hs₂=>wpAny_pure ?_)
 have hTO₂:IsPair h₂ TO a b:=hs₂.extBut _ _ D.TOi1 (hs₁.extBut _ _ D.TOz hTO)
 refine wpAny_bind (wpAny_seqItems hTO₂ rfl (wpAny_bind (wpAny_updateSeq_pair hTO₂ fun h₃ hTO₃ hs₃=>?_)))
 replace hTO₃:IsPair h₃ TO x b:=hTO₃
 refine wpAny_bind (wpAny_letGo (wpAny_pure ?_))
 refine wpAny_bind (wpAny_bind (wpAny_onRaise ?_))
 show wpAny _ _ (Builtin.SmallTypes.nextOf (.ref i2)>>=_) _ _ _
 refine wpAny_bind (nxq_item (((h2.extBut hs₁.extBut D.i2z).extBut hs₂.extBut D.i12.symm).extBut hs₃.extBut D.TOi2.symm) (((hl2.extBut hs₁.extBut D.l2z).extBut hs₂.extBut D.l2i1).extBut hs₃.extBut D.l2TO) hy fun h₄ h2₄ hs₄=>wpAny_pure ?_)
 have hTO₄:IsPair h₄ TO x b:=hs₄.extBut _ _ D.TOi2 hTO₃
 refine wpAny_bind (wpAny_seqItems hTO₄ rfl (wpAny_bind (wpAny_updateSeq_pair hTO₄ fun h₅ hTO₅ hs₅=>?_)))
 replace hTO₅:IsPair h₅ TO x y:=hTO₅
 refine wpAny_bind (wpAny_letGo (wpAny_pure (wpAny_pure (wpAny_bind (wpAny_seqItems hTO₅ rfl (wpAny_bind (wpAny_newTuple ?_)))))))
 have hsz:h₅.objs.size=s.heap.objs.size:=by rw[hs₅.1,hs₄.1,hs₃.1,hs₂.1,hs₁.1]
 have hz₅:IsZip h₅ z TI TO .ellipsis:=hs₅.extBut _ _ D.TOz.symm (hs₄.extBut _ _ D.i2z.symm (hs₃.extBut _ _ D.TOz.symm (hs₂.extBut _ _ D.i1z.symm hz₁)))
 have hk₅:∀c o,c≠z->c≠TO->c≠i1->c≠i2->s.heap.get? c=some o->h₅.get? c=some o:=fun c o c1 c2 c3 c4 e=>hs₅.extBut _ _ c2 (hs₄.extBut _ _ c4 (hs₃.extBut _ _ c2 (hs₂.extBut _ _ c3 (hs₁.extBut _ _ c1 e))))
 have h1₅:Itq b1 h₅ i1 l1 (k1+1):=((h1₂.extBut hs₃.extBut D.TOi1.symm).extBut hs₄.extBut D.i12).extBut hs₅.extBut D.TOi1.symm
 have h2₅:Itq b2 h₅ i2 l2 (k2+1):=h2₄.extBut hs₅.extBut D.TOi2.symm
 have hzlt:z<h₅.objs.size:=Heap.lt_size hz₅
 show wpAny _ _ (Builtin.SmallTypes.ownedTupleHandOut (.ref z) (.ref h₅.objs.size)>>=_) _ _ _
 refine wpAny_bind ?_
 unfold Builtin.SmallTypes.ownedTupleHandOut
 have hz₆:IsZip (h₅.push {cls:=.type "tuple",data:=.seq #[x,y]}) z TI TO .ellipsis:=Heap.get?_push_of_some _ hz₅
 refine wpAny_bind (wpAny_setField_rec hz₆ (by simp) fun h₇ hz₇ hs₇=>?_)
 replace hz₇:IsZip h₇ z TI TO (rawInt h₅.objs.size):=hz₇
 refine wpAny_setField_rec hz₇ (by simp) fun h₈ hz₈ hs₈=>?_
 replace hz₈:IsZip h₈ z TI TO (rawInt h₅.objs.size):=hz₈
 have up:∀c o,c≠z->h₅.get? c=some o->h₈.get? c=some o:=fun c o c1 e=>hs₈.extBut _ _ c1 (hs₇.extBut _ _ c1 (Heap.get?_push_of_some _ e))
 have hT₈:IsPair h₈ h₅.objs.size x y:=hs₈.extBut _ _ (Nat.ne_of_gt hzlt) (hs₇.extBut _ _ (Nat.ne_of_gt hzlt) (Heap.get?_push_size _ rfl))
 have hz8:h₈.objs.size=h₅.objs.size+1:=by rw[hs₈.1,hs₇.1,Heap.size_push]
 rw[hsz]at hz₈ hT₈ hz8
 refine wpAny_pure ⟨_,rfl,wpAny_pure ?_⟩
 show Q (some (.ref h₅.objs.size)) _
 rw[hsz]
 exact hQ h₈ hz₈ (up _ _ D.TOz hTO₅) (h1₅.at fun o e=>up _ o D.i1z e) (h2₅.at fun o e=>up _ o D.i2z e) hT₈ hz8 fun c o c1 c2 c3 c4 e=>up c o c1 (hk₅ c o c1 c2 c3 c4 e)
theorem zq_end{z TI TO i1 i2 l1 l2:Addr}{k1 k2:Nat}{xs ys:Array Value}{a b:Value}{Q:Option Value->Shared->Prop}(hh:A.handled=none)(D:ZipApart z TI TO i1 i2 l1 l2)(hz:IsZip s.heap z TI TO .none)(hTI:IsPair s.heap TI (.ref i1) (.ref i2))(hTO:IsPair s.heap TO a b)
  (h1:Itq b1 s.heap i1 l1 k1) (h2:Itq b2 s.heap i2 l2 k2) (hl1:Isq b1 s.heap l1 xs) (hl2:Isq b2 s.heap l2 ys) (hend:xs[k1]?=none\/ys[k2]?=none)
  (hQ:∀h',(∀c o,c≠z->c≠TO->c≠i1->c≠i2->s.heap.get? c=some o->h'.get? c=some o)->Q none {s with heap:=h'}):wpAny (model prog w) A (pyNext (.ref z)) Q E s:=by
 have hTy:s.TypeIs (.ref z) "zip":=⟨_,hz,rfl⟩
 have stop:∀(h':Heap) (e:Addr),(∀c o,c≠z->c≠TO->c≠i1->c≠i2->s.heap.get? c=some o->h'.get? c=some o)->(∃o,h'.get? e=some o/\o.cls=.type "StopIteration") ->
   wpAny (model prog w) A (do if(←isInstance (.ref e) (.type "StopIteration"))then pure none else throw (.ref e)) Q E {s with heap:=h'}:=fun h' e hk ⟨o,ho,hc⟩ =>
  wpAny_bind (wpAny_isInstance (T:="StopIteration") (b:=true) ⟨o,ho,hc⟩ isSubtype_stop (wpAny_pure (hQ _ hk)))
 unfold pyNext
 refine wpAny_bind (wpAny_attempt (wpAny_callSpecial?_slot (name:=Str.ofString "__next__") hTy PySem.F.slot_zip_next (wpAny_call_entry PySem.F.slot_zip_next hTy PySem.F.entry_zip_next ?_ (PySem.F.args_zip_next_1 _))))
 show wpAny _ _ (field (.ref z) 2>>=_) _ _ _
 refine wpAny_bind (wpAny_field hz rfl (x:=.bool false) rfl ?_)
 show wpAny _ _ (field (.ref z) 3>>=_) _ _ _
 refine wpAny_bind (wpAny_field hz rfl (x:=.ref TI) rfl (wpAny_bind (wpAny_seqItems hTI rfl ?_)))
 show wpAny _ _ (Builtin.SmallTypes.ownedTupleIsFree (.ref z)>>=_) _ _ _
 refine wpAny_bind ?_
 unfold Builtin.SmallTypes.ownedTupleIsFree
 refine wpAny_bind (wpAny_field hz rfl (x:=.none) rfl (wpAny_pure ?_))
 simp only[if_true]
 refine wpAny_bind (wpAny_rule (wpAny_bind (wpAny_field hz rfl (x:=.ref TO) rfl ?_)))
 refine wpAny_bind (wpAny_setField_rec hz (by simp) fun h₁ hz₁ hs₁=>?_)
 replace hz₁:IsZip h₁ z TI TO .ellipsis:=hz₁
 refine wpAny_bind ?_
 simp only[List.zipIdx_cons,List.zipIdx_nil,List.forIn_cons,List.forIn_nil]
 refine wpAny_bind (wpAny_bind (wpAny_onRaise ?_))
 show wpAny _ _ (Builtin.SmallTypes.nextOf (.ref i1)>>=_) _ _ _
 cases hx:xs[k1]? with
 |none =>
  refine wpAny_bind (nxq_end hh (h1.extBut hs₁.extBut D.i1z) (hl1.extBut hs₁.extBut D.l1z) hx fun h₂ e hs₂ he=>?_)
  obtain⟨oe,hoe,hce⟩:=he
  have hz₂:IsZip h₂ z TI TO .ellipsis:=hs₂ _ _ D.i1z.symm hz₁
  have hez:e≠z:=fun x=>by subst x;rw[hz₂]at hoe;cases hoe;simp at hce
  exact wpAny_setField_rec hz₂ (by simp) fun h₃ _ hs₃=>stop h₃ e (fun c o c1 _ c3 _ x=>hs₃.extBut _ _ c1 (hs₂ _ _ c3 (hs₁.extBut _ _ c1 x))) ⟨oe,hs₃.extBut _ _ hez hoe,hce⟩
 |some x =>
  have hy:ys[k2]?=none:=by
   rcases hend with h|h
   ·rw[hx]at h;cases h
   ·exact h
  refine wpAny_bind (nxq_item (h1.extBut hs₁.extBut D.i1z) (hl1.extBut hs₁.extBut D.l1z) hx fun h₂ h1₂ hs₂=>wpAny_pure ?_)
  have hTO₂:IsPair h₂ TO a b:=hs₂.extBut _ _ D.TOi1 (hs₁.extBut _ _ D.TOz hTO)
  refine wpAny_bind (wpAny_seqItems hTO₂ rfl (wpAny_bind (wpAny_updateSeq_pair hTO₂ fun h₃ hTO₃ hs₃=>?_)))
  refine wpAny_bind (wpAny_letGo (wpAny_pure ?_))
  refine wpAny_bind (wpAny_bind (wpAny_onRaise ?_))
  show wpAny _ _ (Builtin.SmallTypes.nextOf (.ref i2)>>=_) _ _ _
  refine wpAny_bind (nxq_end hh (((h2.extBut hs₁.extBut D.i2z).extBut hs₂.extBut D.i12.symm).extBut hs₃.extBut D.TOi2.symm) (((hl2.extBut hs₁.extBut D.l2z).extBut hs₂.extBut D.l2i1).extBut hs₃.extBut D.l2TO) hy fun h₄ e hs₄ he=>?_)
  obtain⟨oe,hoe,hce⟩:=he
  have hz₄:IsZip h₄ z TI TO .ellipsis:=hs₄ _ _ D.i2z.symm (hs₃.extBut _ _ D.TOz.symm (hs₂.extBut _ _ D.i1z.symm hz₁))
  have hez:e≠z:=fun x=>by subst x;rw[hz₄]at hoe;cases hoe;simp at hce
  exact wpAny_setField_rec hz₄ (by simp) fun h₅ _ hs₅=>stop h₅ e (fun c o c1 c2 c3 c4 x=>hs₅.extBut _ _ c1 (hs₄ _ _ c4 (hs₃.extBut _ _ c2 (hs₂.extBut _ _ c3 (hs₁.extBut _ _ c1 x))))) ⟨oe,hs₅.extBut _ _ hez hoe,hce⟩
end
section
variable {prog:Program}{w:World}{A:Around}{E:Value->Shared->Prop}{s:Shared}{b1 b2:Bool}
end
section
variable {prog:Program}{w:World}{A:Around}{R:Result->Shared->Prop}{s:Shared}{b1 b2:Bool}
end
section
variable {prog:Program}{w:World}{A:Around}{E:Value->Shared->Prop}{s:Shared}{b1 b2:Bool}
end
def SqB(K:PySem.W.Frag)(b:Bool)(H:Hp)(p:Addr)(xs:List V):Prop:=match b with|false=>SqL K H p xs|true=>SqT K H p xs
section
variable {X:Cx}{a b:Expr}{t:TA}{p1 p2 p3 p4:Pos}
theorem isq_of{c:Bool}{pins:List (Addr×Obj)}{σ:St}{H:Hp}{s:Shared}{p:Addr}{xs:List V}(I:Inv X pins σ H s)(h:SqB X.K c H p xs):∃its:List Value,Vals xs its/\Isq c s.heap p its.toArray/\xs.length<=sizeLine:=by
 cases c with
 |false =>
  obtain⟨its,rv,pl,hz⟩:=I.list h
  exact⟨its,rv,pl.isList,hz⟩
 |true =>
  obtain⟨its,rv,pl,hz⟩:=I.tuple h
  exact⟨its,rv,(show Heap.IsTuple _ _ _ by obtain⟨o,e,r⟩:=pl;exact⟨o,e,r⟩),hz⟩
end
section
variable {X:Cx}{pins:List (Addr×Obj)}{σ:St}{H:Hp}{s:Shared}{h':Heap}
theorem Inv.turnedL{t':Nat}{fp:List Addr}(I:Inv X pins σ H s)(hf:∀b∈fp,FpOk X pins H b)(k:∀b o,b∉fp->s.heap.get? b=some o->h'.get? b=some o):Inv X pins σ H {s with heap:=h',toks:=t'}:=by
 have nit:∀b u,H b=some u->b∉fp:=fun b u e z=>by rw[(hf b z).1]at e;cases e
 have hL:X.env.locals∉fp:=fun z=>(hf _ z).2.1 rfl
 refine I.step (g':=s.gens) (d':=s.drawn) (ch:=fp) (fun b hb=>?_) (fun b o _ _ hc e _=>k b o hc e) (fun b o _ _ hc e _=>⟨o.slots,k b o hc e⟩) (fun _ _ _ _ n=>n)
  (fun b o hc e=>⟨o,k b o hc e⟩) (fun _ _ e=>e) (fun _ _ _ e=>e) (fun b ps e=>⟨#[],by rw[e];simp⟩) (fun m hm=>?_) (fun b u e=>?_) I.bare
 ·obtain⟨_,f1,_,f3,f4,f5⟩:=hf b hb
  exact⟨f3,f1,f4,f5⟩
 ·obtain⟨o,es,ep,ho,r⟩:=hm
  exact⟨o,es,ep,k _ o hL ho,r⟩
 ·refine(I.hok b u e).stay (fun c v hc q=>k c v ?_ q) (fun _ q=>q) fun _ _ q=>q
  rcases hc with z|z
  ·rw[z];exact nit b u e
  ·exact nit c _ z
theorem Inv.turnedN{t':Nat}{fp:List Addr}{a:Addr}{o:HO}(I:Inv X pins σ H s)(hf:∀b∈fp,FpOk X pins H b)(k:∀b o,b∉fp->s.heap.get? b=some o->h'.get? b=some o)(ha:s.heap.objs.size<=a)(new:ObjOk X.prog X.w (upd H a o) h' a o) :
  Inv X pins σ (upd H a o) {s with heap:=h',toks:=t'}:=by
 have nit:∀b u,H b=some u->b∉fp:=fun b u e z=>by rw[(hf b z).1]at e;cases e
 have hL:X.env.locals∉fp:=fun z=>(hf _ z).2.1 rfl
 have hn:H a=none:=I.hok.fresh ha
 have up:∀b u,H b=some u->upd H a o b=some u:=fun b u e=>by rw[upd_ne (ne_of_none e hn)];exact e
 refine I.step (g':=s.gens) (d':=s.drawn) (ch:=fp) (fun b hb=>?_) (fun b o _ _ hc e _=>k b o hc e) (fun b o _ _ hc e _=>⟨o.slots,k b o hc e⟩) (fun b ob _ e n=>?_)
  (fun b o hc e=>⟨o,k b o hc e⟩) (fun b _ e=>up b _ e) (fun b _ _ e=>up b _ e) (fun b ps e=>⟨#[],by rw[up b _ e];simp⟩) (fun m hm=>?_) (fun b u e=>?_) I.bare
 ·obtain⟨_,f1,_,f3,f4,f5⟩:=hf b hb
  exact⟨f3,f1,f4,f5⟩
 ·rw[upd_ne (Nat.ne_of_lt (Nat.lt_of_lt_of_le (Heap.lt_size e) ha))];exact n
 ·obtain⟨o,es,ep,ho,r⟩:=hm
  exact⟨o,es,ep,k _ o hL ho,r⟩
 ·by_cases hb:b=a
  ·subst hb;rw[upd_same]at e;cases e;exact new
  ·rw[upd_ne hb]at e
   refine(I.hok b u e).stay (fun c v hc q=>k c v ?_ q) (fun c q=>up c _ q) fun c _ q=>up c _ q
   rcases hc with z|z
   ·rw[z];exact nit b u e
   ·exact nit c _ z
end
def Itz (K : PySem.W.Frag) (b1 : Bool) (l1 : Addr) (b2 : Bool) (l2 : Addr) : It :=
  ⟨fun i H => ∃ xs ys x y, SqB K b1 H l1 xs ∧ SqB K b2 H l2 ys ∧ xs[i]? = some x ∧ ys[i]? = some y,
   fun i H v H' => ∃ p x y, H p = none ∧ v = .ref p ∧ H' = upd H p (.tup [x, y]) ∧ (∀ xs, SqB K b1 H l1 xs → xs[i]? = some x) ∧ ∀ ys, SqB K b2 H l2 ys → ys[i]? = some y,
   fun i H => ∃ xs ys, SqB K b1 H l1 xs ∧ SqB K b2 H l2 ys ∧ (xs.length ≤ i ∨ ys.length ≤ i)⟩
theorem SqB.inj{X:Cx}{pins:List (Addr×Obj)}{σ:St}{H:Hp}{s:Shared}{b:Bool}{a:Addr}{xs ys:List V}(I:Inv X pins σ H s)(h:SqB X.K b H a xs)(h2:SqB X.K b H a ys):xs=ys:=by
 cases b with
 |false=>exact I.list_inj h h2
 |true=>exact I.tuple_inj h h2
theorem turn_zip{P:Program}{w:World}{K:PySem.W.Frag}{elts:List Expr}{x1:Nat}{pos:Pos}{b1 b2:Bool}(z TI TO i1 i2 l1 l2:Addr)(D:ZipApart z TI TO i1 i2 l1 l2):Turn P w K (.Tuple elts x1 pos) (Itz K b1 l1 b2 l2) [z,TI,TO,i1,i2] z
  (fun i h=>IsZip h z TI TO .none/\IsPair h TI (.ref i1) (.ref i2)/\(∃a b,IsPair h TO a b)/\Itq b1 h i1 l1 i/\Itq b2 h i2 l2 i) where
 mem:=by simp
 obj:=fun i h st b hb=>by
  obtain⟨hz,hTI,⟨a,c,hTO⟩,h1,h2⟩:=st
  have itc:∀{b:Bool}{i l:Addr}{k:Nat},Itq b h i l k->∃o,h.get? i=some o/\∀v,o.data≠.cell v:=fun{b i l k} q=>by
   cases b with
   |false=>obtain⟨o,e,_,d⟩:=(show h.IsListIter i l k from q);exact⟨o,e,fun v z=>by rw[d]at z;cases z⟩
   |true=>obtain⟨o,e,_,d⟩:=(show h.IsTupleIter i l k from q);exact⟨o,e,fun v z=>by rw[d]at z;cases z⟩
  simp only[List.mem_cons,List.not_mem_nil,or_false]at hb
  rcases hb with rfl|rfl|rfl|rfl|rfl
  ·exact⟨_,hz,fun v z=>by cases z⟩
  ·exact⟨_,hTI,fun v z=>by cases z⟩
  ·exact⟨_,hTO,fun v z=>by cases z⟩
  ·exact itc h1
  ·exact itc h2
 keep:=fun i h h' st k=>by
  obtain⟨hz,hTI,⟨a,c,hTO⟩,h1,h2⟩:=st
  exact⟨k z (by simp) _ hz,k TI (by simp) _ hTI,⟨a,c,k TO (by simp) _ hTO⟩,h1.at fun o e=>k i1 (by simp) o e,h2.at fun o e=>k i2 (by simp) o e⟩
 item:=by
  intro X hP hw hK hc i pins s σ H E I hf st hg
  subst hP hw hK
  obtain⟨xs,ys,x,y,hq1,hq2,hx,hy⟩:=hg
  obtain⟨hz,hTI,⟨a,c,hTO⟩,h1,h2⟩:=st
  obtain⟨its,rv,p1,_⟩:=isq_of I hq1
  obtain⟨jts,rw',p2,_⟩:=isq_of I hq2
  obtain⟨u,hu,ru⟩:=rv.get hx
  obtain⟨v,hv,rv2⟩:=rw'.get hy
  refine zq_item D hz hTI hTO h1 h2 p1 p2 (x:=u) (y:=v) (by simpa using hu) (by simpa using hv) fun h' a1 a2 a3 a4 a5 a6 hk=>?_
  refine⟨.ref s.heap.objs.size,rfl,wpAny_letOwnedTupleGo_zip (s:={s with heap:=h'}) a1 fun h2' hz' hs'=>?_⟩
  have np:∀b∈[z,TI,TO,i1,i2],b≠s.heap.objs.size:=fun b hb e=>by
   obtain⟨o,e2⟩:∃o,s.heap.get? b=some o:=by
    simp only[List.mem_cons,List.not_mem_nil,or_false]at hb
    rcases hb with rfl|rfl|rfl|rfl|rfl
    ·exact⟨_,hz⟩
    ·exact⟨_,hTI⟩
    ·exact⟨_,hTO⟩
    ·exact h1.got
    ·exact h2.got
   have:=Heap.lt_size e2
   rw[e]at this
   exact Nat.lt_irrefl _ this
  have kk:∀b o,b∉[z,TI,TO,i1,i2]->s.heap.get? b=some o->h2'.get? b=some o:=fun b o hb e=>by
   simp only[List.mem_cons,List.not_mem_nil,or_false,not_or]at hb
   obtain⟨n1,n2,n3,n4,n5⟩:=hb
   exact hs'.extBut _ _ n1 (hk b o n1 n3 n4 n5 e)
  have a5':IsPair h2' s.heap.objs.size u v:=hs'.extBut _ _ (np z (by simp)).symm a5
  refine⟨.ref s.heap.objs.size,upd H s.heap.objs.size (.tup [x,y]),I.turnedN (t':=s.toks) hf kk (Nat.le_refl _) ⟨(by show 2<=sizeLine;decide),_,.cons ru (.cons rv2 .nil),⟨_,a5',rfl,_,rfl⟩,_,a5',rfl⟩,rfl,
   ⟨_,x,y,I.hok.fresh (Nat.le_refl _),rfl,rfl,fun zs hz2=>by rw[SqB.inj I hz2 hq1];exact hx,fun zs hz2=>by rw[SqB.inj I hz2 hq2];exact hy⟩,?_,fun b hb=>?_⟩
  ·exact⟨hz',hs'.extBut _ _ D.TIz (hk TI _ D.TIz D.TITO D.TIi1 D.TIi2 hTI),⟨u,v,hs'.extBut _ _ D.TOz a2⟩,a3.extBut hs'.extBut D.i1z,a4.extBut hs'.extBut D.i2z⟩
  ·rw[upd_ne (np b hb)];exact(hf b hb).1
 done:=by
  intro X hP hw hK hc i pins s σ H E I hf st hg
  subst hP hw hK
  obtain⟨xs,ys,hq1,hq2,hl⟩:=hg
  obtain⟨hz,hTI,⟨a,c,hTO⟩,h1,h2⟩:=st
  obtain⟨its,rv,p1,_⟩:=isq_of I hq1
  obtain⟨jts,rw',p2,_⟩:=isq_of I hq2
  have e1:=rv.length
  have e2:=rw'.length
  refine zq_end (I.ok.hd hc) D hz hTI hTO h1 h2 p1 p2 ?_ fun h' hk=>⟨rfl,I.turnedL (t':=s.toks) hf fun b o hb e=>?_⟩
  ·rcases hl with hl|hl
   ·left;simp;omega
   ·right;simp;omega
  ·simp only[List.mem_cons,List.not_mem_nil,or_false,not_or]at hb
   exact hk b o hb.1 hb.2.2.1 hb.2.2.2.1 hb.2.2.2.2 e
 self:=fun _ _ _ _ _ st h=>wpAny_pyIter_zip st.1 h
def iZip(K:PySem.W.Frag)(t:TA):TI:=fun σ H R=>t σ H fun vs H2=>∃b1 b2 p q xs ys,vs=[.ref p,.ref q]/\SqB K b1 H2 p xs/\SqB K b2 H2 q ys/\R (Itz K b1 p b2 q) H2
theorem pi_zip{X:Cx}{a b:Expr}{t:TA}{p1 p2 pos:Pos}{elts:List Expr}{x1:Nat}(K:PySem.W.Frag)(hK:X.K=K)(hg:Gl X "zip")(hm:X.mg "zip"=none)(ha:PA X [a,b] t)
  (he:starEach [a,b] X.env=(false,eval a X.env)::starEach [b] X.env:=by rfl) (hpl:(backTo p2 (starEach [b] X.env)).any (·.1)=false:=by rfl):PI X (.Tuple elts x1 pos) (.Call (.Name "zip" p1) [a,b] [] p2) (iZip K t):=by
 subst hK
 intro pins s σ H R I h
 refine wpAny_Call_Name_kw (ld_blt I hg hm boot_zip ?_ (by decide) (by decide))
 refine PyProof.Rows.callWith_type1 ?_ he hpl
 refine thn (ha p2 pins s σ H _ I h) fun us s1 ⟨vs,H1,I1,r1,q1⟩=>?_
 obtain⟨c1,c2,p,q,xs,ys,rfl,hx,hy,hq⟩:=q1
 obtain⟨u,w',rfl,r1,r2⟩:=vals2 r1
 cases r1
 cases r2
 obtain⟨its,rv,pl,_⟩:=isq_of I1 hx
 obtain⟨jts,rw',pm,_⟩:=isq_of I1 hy
 have lt1:@LT.lt Nat _ p s1.heap.objs.size:=by obtain⟨_,e⟩:=pl.got;exact Heap.lt_size e
 have lt2:@LT.lt Nat _ q s1.heap.objs.size:=by obtain⟨_,e⟩:=pm.got;exact Heap.lt_size e
 refine zq_call pl pm fun g hz hTI hTO h1 h2 hsz hk=>?_
 have D:ZipApart (s1.heap.objs.size+4) (s1.heap.objs.size+2) (s1.heap.objs.size+3) s1.heap.objs.size (s1.heap.objs.size+1) p q:=by
  refine⟨?_,?_,?_,?_,?_,?_,?_,?_,?_,?_,?_,?_,?_,?_,?_,?_,?_,?_⟩<;>(show @Ne Nat _ _;omega)
 refine wpAny_pyIter_zip (s:={s1 with heap:=g}) hz ?_
 refine⟨s1.heap.objs.size+4,[s1.heap.objs.size+4,s1.heap.objs.size+2,s1.heap.objs.size+3,s1.heap.objs.size,s1.heap.objs.size+1],_,_,H1,rfl,I1.kept (t':=s1.toks) hk,turn_zip _ _ _ _ _ p q D,⟨hz,hTI,⟨_,_,hTO⟩,h1,h2⟩,fun b hb=>?_,hq⟩
 have hb':s1.heap.objs.size<=b:=by
  simp only[List.mem_cons,List.not_mem_nil,or_false]at hb
  rcases hb with rfl|rfl|rfl|rfl|rfl
  ·exact Nat.le_add_right _ 4
  ·exact Nat.le_add_right _ 2
  ·exact Nat.le_add_right _ 3
  ·exact Nat.le_refl _
  ·exact Nat.le_add_right _ 1
 exact I1.fpOk hb' (I1.hok.fresh hb')
section
variable {g:TG}{tt:TT}{te:TE}{Q:VK}{σ0:St}{H0:Hp}
theorem comp_zip{K:PySem.W.Frag}{b1 b2:Bool}{a b:Addr}{xs ys:List V}(Pv:Nat->St->List V->Hp->Prop)(h0:Pv 0 σ0 [] H0)(hlen:∀i σ vs H,i<=min xs.length ys.length->Pv i σ vs H->vs.length<=i)(hn:min xs.length ys.length<=sizeLine)
  (hl1:∀i σ vs H,i<=min xs.length ys.length->Pv i σ vs H->SqB K b1 H a xs) (hl2:∀i σ vs H,i<=min xs.length ys.length->Pv i σ vs H->SqB K b2 H b ys)
  (hs:∀i x y σ vs H p,xs[i]?=some x->ys[i]?=some y->Pv i σ vs H->H p=none->g (.ref p) σ (upd H p (.tup [x,y])) fun σ2 H2=>tt σ2 H2 fun ok H3=>if ok=true then te σ2 H3 fun v H4=>Pv (i+1) σ2 (vs++[v]) H4 else Pv (i+1) σ2 vs H3)
  (hd:∀σ vs H,Pv (min xs.length ys.length) σ vs H->∀p,H p=none->Q (.ref p) (upd H p (.lst vs))):CompW (Itz K b1 a b2 b) g tt te Q σ0 H0:=by
 refine comp_by (min xs.length ys.length) Pv h0 hlen hn (fun i σ vs H hi p=>?_) (fun σ vs H p=>⟨xs,ys,hl1 _ σ vs H (Nat.le_refl _) p,hl2 _ σ vs H (Nat.le_refl _) p,by omega⟩) (fun i σ vs H x H' hi p y=>?_) hd
 ·have k1:i<xs.length:=by omega
  have k2:i<ys.length:=by omega
  exact⟨xs,ys,xs[i],ys[i],hl1 i σ vs H (Nat.le_of_lt hi) p,hl2 i σ vs H (Nat.le_of_lt hi) p,by simp[k1],by simp[k2]⟩
 ·obtain⟨pp,x',y',hp,rfl,rfl,e1,e2⟩:=y
  exact hs i x' y' σ vs H pp (e1 xs (hl1 i σ vs H (Nat.le_of_lt hi) p)) (e2 ys (hl2 i σ vs H (Nat.le_of_lt hi) p)) p hp
end
end L2
namespace L2
open PySem
theorem Same.updF{H H1:Hp}{l:Addr}(s:Same H H1)(h:H l=none)(o:HO):Same H (upd H1 l o):=fun b o' e=>by rw[upd_ne (ne_of_none e h)];exact s b o' e
structure MSt(K:PySem.W.Frag) (Ps:St->Prop) (H2:Hp) (us:List V) (ys:List T) (σ:St) (H5:Hp):Prop where
 p:Ps σ
 s:Same H2 H5
 r:Rps K H5 ys us
section
variable {K:PySem.W.Frag}{σ0:St}{H0:Hp}{g:TG}{tt:TT}{te:TE}{Q:VK}
theorem fm1_le{α β:Type}{φ:α->List β}(h1:∀p,(φ p).length<=1):∀ps:List α,(ps.flatMap φ).length<=ps.length
 | []=>Nat.zero_le _
 |x::r=>by
  rw[List.flatMap_cons,List.length_append,List.length_cons]
  have:=h1 x
  have:=fm1_le h1 r
  omega
theorem fm_one{α β:Type}(f:α->β):∀l:List α,(l.flatMap fun p=>[f p])=l.map f
 | []=>rfl
 |x::r=>by rw[List.flatMap_cons,fm_one f r];rfl
theorem comp_mapT{α:Type}{e:α->T}{φ:α->List T}{ps:List α}{vs:List V}{a:Addr}(Ps:St->Prop)(hS:SqT K H0 a vs)(hr:Rps K H0 (ps.map e) vs)(hl:ps.length<=900)(h1:∀p,(φ p).length<=1)(h0:Ps σ0)
  (hs:∀p∈ps,∀x σ H2 (N:List V->St->Hp->Prop),Same H0 H2->Ps σ->Rp K H2 (e p) x->(∀us σ2 H5,MSt K Ps H2 us (φ p) σ2 H5->N us σ2 H5)->g x σ H2 fun σ2 H3=>tt σ2 H3 fun ok H4=>if ok=true then te σ2 H4 fun v H5=>N [v] σ2 H5 else N [] σ2 H4)
  (k:∀l H' ws,Same H0 H'->H0 l=none->H' l=some (.lst ws)->Rps K H' (ps.flatMap φ) ws->Q (.ref l) H'):CompW (Itt K a) g tt te Q σ0 H0:=by
 have l:=hr.length
 rw[List.length_map]at l
 refine comp_tup (xs:=vs) (fun i σ us H2=>Ps σ/\Same H0 H2/\Rps K H2 ((ps.take i).flatMap φ) us) ⟨h0,Same.refl _,.nil⟩ ?_ (small (by omega)) ?_ ?_ ?_
 ·rintro i σ us H2 hi ⟨_,_,r⟩
  rw[r.length]
  exact Nat.le_trans (fm1_le h1 _) (by rw[List.length_take];exact Nat.min_le_left _ _)
 ·rintro i σ us H2 hi ⟨_,s,_⟩
  exact hS.same s
 ·rintro i x σ us H2 hx ⟨p,s,r⟩
  obtain⟨y,hy,ry⟩:=hr.get' hx
  rw[List.getElem?_map]at hy
  obtain⟨q,hq,rfl⟩:=Option.map_eq_some_iff.mp hy
  have hil:i<ps.length:=(List.getElem?_eq_some_iff.mp hq).1
  have ep:ps[i]=q:=(List.getElem?_eq_some_iff.mp hq).2
  have z:=hs q (List.mem_of_getElem? hq) x σ H2 (fun ws σ2 H5=>Ps σ2/\Same H0 H5/\Rps K H5 ((ps.take (i+1)).flatMap φ) (us++ws)) s p (ry.same s) fun ws σ2 H5 m=>by
   refine⟨m.p,s.trans m.s,?_⟩
   rw[List.take_succ_eq_append_getElem hil,ep,List.flatMap_append]
   exact(r.same m.s).append (by rw[List.flatMap_cons,List.flatMap_nil,List.append_nil];exact m.r)
  simp only[List.append_nil]at z
  exact z
 ·rintro σ us H2 ⟨_,s,r⟩ p hp
  rw[l,List.take_length]at r
  exact k p _ us (s.trans (same_new hp _)) (s.free hp) upd_same (r.same (same_new hp _))
theorem comp_mapL{α:Type}{e:α->T}{φ:α->List T}{ps:List α}{vs:List V}{a:Addr}(Ps:St->Prop)(hS:H0 a=some (.lst vs))(hr:Rps K H0 (ps.map e) vs)(hl:ps.length<=900)(h1:∀p,(φ p).length<=1)(h0:Ps σ0)
  (hs:∀p∈ps,∀x σ H2 (N:List V->St->Hp->Prop),Same H0 H2->Ps σ->Rp K H2 (e p) x->(∀us σ2 H5,MSt K Ps H2 us (φ p) σ2 H5->N us σ2 H5)->g x σ H2 fun σ2 H3=>tt σ2 H3 fun ok H4=>if ok=true then te σ2 H4 fun v H5=>N [v] σ2 H5 else N [] σ2 H4)
  (k:∀l H' ws,Same H0 H'->H0 l=none->H' l=some (.lst ws)->Rps K H' (ps.flatMap φ) ws->Q (.ref l) H'):CompW (Itl K a) g tt te Q σ0 H0:=by
 have l:=hr.length
 rw[List.length_map]at l
 refine comp_list (xs:=vs) (fun i σ us H2=>Ps σ/\Same H0 H2/\Rps K H2 ((ps.take i).flatMap φ) us) ⟨h0,Same.refl _,.nil⟩ ?_ (small (by omega)) ?_ ?_ ?_
 ·rintro i σ us H2 hi ⟨_,_,r⟩
  rw[r.length]
  exact Nat.le_trans (fm1_le h1 _) (by rw[List.length_take];exact Nat.min_le_left _ _)
 ·rintro i σ us H2 hi ⟨_,s,_⟩
  exact SqL.of (s _ _ hS)
 ·rintro i x σ us H2 hx ⟨p,s,r⟩
  obtain⟨y,hy,ry⟩:=hr.get' hx
  rw[List.getElem?_map]at hy
  obtain⟨q,hq,rfl⟩:=Option.map_eq_some_iff.mp hy
  have hil:i<ps.length:=(List.getElem?_eq_some_iff.mp hq).1
  have ep:ps[i]=q:=(List.getElem?_eq_some_iff.mp hq).2
  have z:=hs q (List.mem_of_getElem? hq) x σ H2 (fun ws σ2 H5=>Ps σ2/\Same H0 H5/\Rps K H5 ((ps.take (i+1)).flatMap φ) (us++ws)) s p (ry.same s) fun ws σ2 H5 m=>by
   refine⟨m.p,s.trans m.s,?_⟩
   rw[List.take_succ_eq_append_getElem hil,ep,List.flatMap_append]
   exact(r.same m.s).append (by rw[List.flatMap_cons,List.flatMap_nil,List.append_nil];exact m.r)
  simp only[List.append_nil]at z
  exact z
 ·rintro σ us H2 ⟨_,s,r⟩ p hp
  rw[l,List.take_length]at r
  exact k p _ us (s.trans (same_new hp _)) (s.free hp) upd_same (r.same (same_new hp _))
theorem Rps.strs_inv{H:Hp}:∀{ns:List Str}{vs:List V},Rps K H (ns.map .s) vs->vs=ns.map V.str
 | [],_,h=>h.inv0
 |n::r,_,h=>by
  obtain⟨v,us,rfl,g,h⟩:=Rps.inv (K:=K) (x:=.s n) h
  rw[g.inv_s,strs_inv h]
  rfl
end
structure Frm(M:List Addr) (f:Addr) (H H':Hp):Prop where
 oth:∀b o,b∉M->b≠f->H b=some o->H' b=some o
 kt:Kt H H'
 ff:FeedAt H' f
section
variable {M:List Addr}{f:Addr}{H H1 H2:Hp}
theorem Frm.refl(hf:FeedAt H f):Frm M f H H:=⟨fun _ _ _ _ e=>e,Kt.refl,hf⟩
theorem Frm.ext(a:Frm M f H H1)(e:Ext f H1 H2):Frm M f H H2:=⟨fun b o n1 n2 h=>e.1 b o n2 (a.oth b o n1 n2 h),a.kt.trans (e.kt a.ff),e.2⟩
theorem Frm.same(a:Frm M f H H1)(e:Same H1 H2):Frm M f H H2:=⟨fun b o n1 n2 h=>e b o (a.oth b o n1 n2 h),a.kt.trans (Kt.same e),let⟨p,q,h⟩:=a.ff;⟨p,q,e _ _ h⟩⟩
theorem Frm.trans(a:Frm M f H H1)(b:Frm M f H1 H2):Frm M f H H2:=⟨fun c o n1 n2 h=>b.oth c o n1 n2 (a.oth c o n1 n2 h),a.kt.trans b.kt,b.ff⟩
theorem Frm.upd{l:Addr}{us:List V}{o:HO}(a:Frm M f H H1)(hm:l∈M)(n:l≠f)(h:H1 l=some (.lst us)):Frm M f H (upd H1 l o):=⟨fun b o' n1 n2 e=>by have z:b≠l:=(fun z=>n1 (by rw[z];exact hm));rw[upd_ne z];exact a.oth b o' n1 n2 e,a.kt.trans (Kt.lst h o),let⟨p,q,e⟩:=a.ff;⟨p,q,by rw[upd_ne n.symm];exact e⟩⟩
theorem Frm.updD{l:Addr}{us:List (Key×V)}{o:HO}(a:Frm M f H H1)(hm:l∈M)(n:l≠f)(h:H1 l=some (.dK us)):Frm M f H (L2.upd H1 l o):=⟨fun b o' n1 n2 e=>by have z:b≠l:=(fun z=>n1 (by rw[z];exact hm));rw[upd_ne z];exact a.oth b o' n1 n2 e,a.kt.trans (Kt.upd h (fun _ z=>nomatch z) (fun _ _ z=>nomatch z) o),let⟨p,q,e⟩:=a.ff;⟨p,q,by rw[upd_ne n.symm];exact e⟩⟩
theorem Frm.updN{l:Addr}{us:List V}{o:HO}(a:Frm M f H H1)(hn:H l=none)(n:l≠f)(h:H1 l=some (.lst us)):Frm M f H (L2.upd H1 l o):=⟨fun b o' n1 n2 e=>by rw[upd_ne (ne_of_none e hn)];exact a.oth b o' n1 n2 e,a.kt.trans (Kt.lst h o),let⟨p,q,e⟩:=a.ff;⟨p,q,by rw[upd_ne n.symm];exact e⟩⟩
theorem Frm.more{l:Addr}(a:Frm M f H H1):Frm (l::M) f H H1:=⟨fun b o n1 n2 h=>a.oth b o (fun z=>n1 (.tail _ z)) n2 h,a.kt,a.ff⟩
theorem Frm.ex(a:Frm [] f H H1):Ext f H H1:=⟨fun b o n h=>a.oth b o (fun z=>nomatch z) n h,a.ff⟩
theorem Frm.get1{l:Addr}(a:Frm [l] f H H1){b:Addr}{o:HO}(n1:b≠l)(n:b≠f)(h:H b=some o):H1 b=some o:=a.oth b o (fun z=>n1 (List.mem_singleton.mp z)) n h
theorem Frm.free(a:Frm M f H H1){p:Addr}(hp:H1 p=none)(hm:p∉M):H p=none:=by
 cases e:H p with
 |none=>rfl
 |some o =>
  by_cases c:p=f
  ·subst c;obtain⟨x,y,z⟩:=a.ff;rw[z]at hp;cases hp
  ·rw[a.oth p o hm c e]at hp;cases hp
theorem lst_ne_fd{l:Addr}(hf:FeedAt H f)(h:H l=none):l≠f:=fun z=>by
 obtain⟨p,q,e⟩:=hf
 rw[←z,h]at e
 cases e
end
theorem cut_takeL(xs:List V)(n:Nat):cutV xs none (some (n:Int))=xs.take n:=by
 unfold cutV
 rw[HT.sIx_nat,HT.sIx_none,List.drop_zero,Nat.sub_zero]
 rcases Nat.le_total n xs.length with h|h
 ·rw[Nat.min_eq_left h]
 ·rw[Nat.min_eq_right h,List.take_of_length_le (Nat.le_refl _),List.take_of_length_le h]
theorem cut_fromL(xs:List V)(j:Nat):cutV xs (some (j:Int)) none=xs.drop j:=by
 unfold cutV
 rw[HT.sIx_nat,HT.sIx_none]
 rcases Nat.le_total j xs.length with h|h
 ·rw[Nat.min_eq_left h,List.take_of_length_le (by rw[List.length_drop];omega)]
 ·rw[Nat.min_eq_right h,List.drop_of_length_le h,List.drop_of_length_le (Nat.le_refl _)];simp
section
variable {K:PySem.W.Frag}{σ0:St}{H0:Hp}{g:TG}{tt:TT}{te:TE}{Q:VK}
theorem comp_mapLz{α:Type}{e:α->T}{φ:α->List T}{ps:List α}{vs:List V}{a:Addr}(Ps:St->Prop)(hS:H0 a=some (.lst vs))(hr:Rps K H0 (ps.map e) vs)(hl:ps.length<=sizeLine)(h1:∀p,(φ p).length<=1)(h0:Ps σ0)
  (hs:∀p∈ps,∀x σ H2 (N:List V->St->Hp->Prop),Same H0 H2->Ps σ->Rp K H2 (e p) x->(∀us σ2 H5,MSt K Ps H2 us (φ p) σ2 H5->N us σ2 H5)->g x σ H2 fun σ2 H3=>tt σ2 H3 fun ok H4=>if ok=true then te σ2 H4 fun v H5=>N [v] σ2 H5 else N [] σ2 H4)
  (k:∀l H' ws,Same H0 H'->H0 l=none->H' l=some (.lst ws)->Rps K H' (ps.flatMap φ) ws->Q (.ref l) H'):CompW (Itl K a) g tt te Q σ0 H0:=by
 have l:=hr.length
 rw[List.length_map]at l
 refine comp_list (xs:=vs) (fun i σ us H2=>Ps σ/\Same H0 H2/\Rps K H2 ((ps.take i).flatMap φ) us) ⟨h0,Same.refl _,.nil⟩ ?_ (by omega) ?_ ?_ ?_
 ·rintro i σ us H2 hi ⟨_,_,r⟩
  rw[r.length]
  exact Nat.le_trans (fm1_le h1 _) (by rw[List.length_take];exact Nat.min_le_left _ _)
 ·rintro i σ us H2 hi ⟨_,s,_⟩
  exact SqL.of (s _ _ hS)
 ·rintro i x σ us H2 hx ⟨p,s,r⟩
  obtain⟨y,hy,ry⟩:=hr.get' hx
  rw[List.getElem?_map]at hy
  obtain⟨q,hq,rfl⟩:=Option.map_eq_some_iff.mp hy
  have hil:i<ps.length:=(List.getElem?_eq_some_iff.mp hq).1
  have ep:ps[i]=q:=(List.getElem?_eq_some_iff.mp hq).2
  have z:=hs q (List.mem_of_getElem? hq) x σ H2 (fun ws σ2 H5=>Ps σ2/\Same H0 H5/\Rps K H5 ((ps.take (i+1)).flatMap φ) (us++ws)) s p (ry.same s) fun ws σ2 H5 m=>by
   refine⟨m.p,s.trans m.s,?_⟩
   rw[List.take_succ_eq_append_getElem hil,ep,List.flatMap_append]
   exact(r.same m.s).append (by rw[List.flatMap_cons,List.flatMap_nil,List.append_nil];exact m.r)
  simp only[List.append_nil]at z
  exact z
 ·rintro σ us H2 ⟨_,s,r⟩ p hp
  rw[l,List.take_length]at r
  exact k p _ us (s.trans (same_new hp _)) (s.free hp) upd_same (r.same (same_new hp _))
theorem big{n:Nat}(h:n<=1000000):n<=sizeLine:=by rw[sizeLine_eq];omega
end
end L2
namespace G08
open PySem L2
def spSort:Sp:=fun vs H Q _=>∃c:Nat,vs=[.str ⟨#[c]⟩]/\Q (.str (srtB c)) H
def spWell:Sp:=fun vs H Q _=>∃b:Bw,vs=[.str (ofL b.txt)]/\b.ok/\b.txt.length<=3000/\∀H',Same H H'->Q (.bl true) H'
theorem sgn_eq{c k:Nat}:(V.str ⟨#[c]⟩=V.str ⟨#[k]⟩)↔c=k:=⟨fun h=>by injection h with h;injection h with h;simpa using h,fun h=>by rw[h]⟩
theorem in_open{c:Nat}:c∈("([":Str).cps.toList↔(c=40\/c=91):=by
 rw[show("([":Str).cps.toList=[40,91] by decide +kernel]
 simp
theorem in_close{c:Nat}:c∈(")]":Str).cps.toList↔(c=41\/c=93):=by
 rw[show(")]":Str).cps.toList=[41,93] by decide +kernel]
 simp
section
variable {P:Program}{w:World}{K:PySem.W.Frag}{mg:Str->Option Value}{base:Heap}{gS:Addr}{sfd:FuncData}
theorem nm_sort_of:Nm ["sign"] (defScope s_sort_of):=by decide +kernel
theorem sc_sort_of:FnScope ["sign"] ["sign"] (defScope s_sort_of):=⟨rfl,rfl,rfl,by decide +kernel,rfl,by decide +kernel,by decide +kernel⟩
theorem ok_sort{f:Addr}{fd:FuncData}(F:Fun K "sort_of" "sort_of" s_sort_of f fd):FnOk P w K mg base CX0 1 f fd ["sign"] spSort:=by
 refine F.ok sc_sort_of (fun vs H Q E h=>?_) (fun cdv A outer s H vs Q E hr h=>?_)
 ·obtain⟨_,rfl,_⟩:=h
  rfl
 obtain⟨c,rfl,k⟩:=h
 refine⟨_,(@pss_cons _ _ _ _ _ (@ps_if _ _ _ _ _ _ _ _ (pt_cmpR op_eq (va nm_sort_of 0) pe_str (nomark _)) (pss_one (ps_ret pe_str)) pss_nil) (@pss_cons _ _ _ _ _ (@ps_if _ _ _ _ _ _ _ _ (pt_cmpR op_in_sign (va nm_sort_of 0) pe_str (by with_unfolding_all rfl)) (pss_one (ps_ret pe_str)) pss_nil) (@pss_cons _ _ _ _ _ (@ps_if _ _ _ _ _ _ _ _ (pt_cmpR op_in_sign (va nm_sort_of 0) pe_str (by with_unfolding_all rfl)) (pss_one (ps_ret pe_str)) pss_nil) (pss_one (ps_ret pe_str))))),?_⟩
 try dsimp only[cx_K]
 try dsimp only[cx_K]
 unfold srtB at k
 fail "R"
 refine ite2 (fun c1=>?_) (fun c1=>?_)
 ·have e:c=32:=sgn_eq.mp (of_decide_eq_true c1)
  rw[if_pos e]at k
  fail "R"
  exact k
 have ne:¬c=32:=fun e=>c1 (decide_eq_true (sgn_eq.mpr e))
 rw[if_neg ne]at k
 fail "R"
 refine ite2 (fun c2=>?_) (fun c2=>?_)
 ·rw[if_pos (in_open.mp (of_decide_eq_true c2))]at k
  fail "R"
  exact k
 rw[if_neg (fun e=>c2 (decide_eq_true (in_open.mpr e)))]at k
 fail "R"
 refine ite2 (fun c3=>?_) (fun c3=>?_)
 ·rw[if_pos (in_close.mp (of_decide_eq_true c3))]at k
  fail "R"
  exact k
 rw[if_neg (fun e=>c3 (decide_eq_true (in_close.mpr e)))]at k
 fail "R"
 exact k
theorem nm_well_parted:Nm ["text","sorts"] (defScope s_well_parted):=by decide +kernel
theorem lm_well_parted:Lm ["text","sorts"] (defScope s_well_parted):=by decide +kernel
theorem sc_well_parted:FnScope ["text","sorts"] ["text"] (defScope s_well_parted):=⟨rfl,rfl,rfl,by decide +kernel,rfl,by decide +kernel,by decide +kernel⟩
theorem ok_well{f aF aB aS aW aE:Addr}{fd:FuncData}(F:Fun K "well_parted" "well_parted" s_well_parted f fd)(SO:Has P w K mg base "sort_of" 1 ["sign"] spSort gS sfd)(z_all:mg "all"=none)(z_zip:mg "zip"=none)(mF:mg "FOLLOWERS"=some (.ref aF))
  (dF:KD K w aF [("blank",.ref aB),("start",.ref aS),("word",.ref aW),("end",.ref aE)]) (hB:∀H,SqT K H aB (folVB "blank")) (hS:∀H,SqT K H aS (folVB "start")) (hW:∀H,SqT K H aW (folVB "word")) (hE:∀H,SqT K H aE (folVB "end")):FnOk P w K mg base CX0 2 f fd ["text"] spWell:=by
 refine F.ok sc_well_parted (fun vs H Q E h=>?_) (fun cdv A outer s H vs Q E hr h=>?_)
 ·obtain⟨_,rfl,_⟩:=h
  rfl
 obtain⟨bb,rfl,hb,hlen,k⟩:=h
 refine⟨_,(@pss_cons _ _ _ _ _ (@ps_compC _ _ _ _ _ _ _ _ _ _ _ _ _ _ _ (defScope s_well_parted) ["text","sorts"] ["sign"] [] rfl rfl rfl (by decide +kernel) (pi_str (pe_fB (va nm_well_parted 0))) (fun _ _ _ _=>(pg_name (i:=0) (show(["sign"]:List Str).Nodup by decide +kernel) rfl (Or.inl (by kernel_rfl)) (by first|exact .inl rfl|exact .inr (by kernel_rfl)))) (fun _ _ _ _=>pifs_nil) (fun _ _ _ _=>(@pe_call _ _ _ _ _ _ _ _ _ _ _ _ _ _ _ _ SO.ok (hr.mono (by omega)) (by show _=_;kernel_rfl) SO.at' SO.kp SO.bd .nil pass0 (pa_c (va (show Nm ["sign"] _ by show _=_;kernel_rfl) 0) pa_nil) (by decide) (by rfl) (by rfl))) (ga sc_well_parted.nd lm_well_parted 1) (by kernel_rfl) (by intro _;rfl)) (@pss_one _ _ _ (@ps_ret _ _ _ _ (@pe_callB _ _ _ _ _ _ _ _ _ (call_all rfl) (by show _=_;kernel_rfl) z_all PyProof.Rows.boot_all (@pa_c _ _ _ _ _ (@pe_compC _ _ _ _ _ _ _ _ _ _ _ (defScope s_well_parted) ["text","sorts"] ["left","right"] [] rfl rfl rfl (by decide +kernel) (pi_zip K rfl (by show _=_;kernel_rfl) z_zip (@pa_c _ _ _ _ _ (va nm_well_parted 1) (@pa_c _ _ _ _ _ (pe_slice sl_list (va nm_well_parted 1) (po_some pe_int) po_none) pa_nil (by rfl)) (by rfl))) (fun _ _ _ _=>(@pg_tupK _ _ _ _ _ (2) K rfl rfl (@pgs_cons _ _ _ _ _ (pg_name (i:=0) (show(["left","right"]:List Str).Nodup by decide +kernel) rfl (Or.inl (by kernel_rfl)) (by first|exact .inl rfl|exact .inr (by kernel_rfl))) (pgs_cons (pg_name (i:=1) (show(["left","right"]:List Str).Nodup by decide +kernel) rfl (Or.inl (by kernel_rfl)) (by first|exact .inl rfl|exact .inr (by kernel_rfl))) pgs_nil) (by rfl)) (by rfl) (by rfl))) (fun _ _ _ _=>pifs_nil) (fun _ _ _ _=>(pe_cmpR (op_in_seqK K rfl) (va (show Nm ["left","right"] _ by show _=_;kernel_rfl) 1) (pe_kgetK K w rfl rfl (pe_glob (v:=.ref aF) (by show _=_;kernel_rfl) mF rfl) (va (show Nm ["left","right"] _ by show _=_;kernel_rfl) 0) (fun _ _=>rfl)) (by with_unfolding_all rfl))) (by intro _;rfl)) pa_nil (by rfl)) (by decide) (by decide) (by rfl) (by rfl))))),?_⟩
 try dsimp only[cx_K]
 try dsimp only[cx_K]
 have hl9:(ofL bb.txt).length<=3000:=by rw[ofL_len];omega
 refine seq_cut ?_
 intro N1 c1
 fail "R"
 refine .inl ⟨_,rfl,by omega,(by show 1+(ofL bb.txt).length+1<=100000;omega),_,rfl,?_⟩
 have et:(" ":Str)++ofL bb.txt++(" ":Str)=ofL (32::(bb.txt++[32])):=by
  show ofL [32]++ofL (bb.txt)++ofL [32]=_
  rw[app_ofL,app_ofL]
  rfl
 rw[et]
 refine comp_mapS (f:=fun a=>.str (srtB a)) (fun _ _ _ _=>rfl) (fun a ha H1 K1 s1 q=>?_) rfl (by show(ofL _).length<=sizeLine;rw[ofL_len];exact big (by simp;omega)) (fun p hp=>?_)
 ·fail "R"
  exact q
 rw[toList_ofL]
 generalize hL:32::(bb.txt++[32])=L
 have hLl:L.length<=4000:=by rw[←hL];simp;omega
 have s1:=same_new hp (.lst (L.map fun a=>V.str (srtB a)))
 have h1:upd H p (.lst (L.map fun a=>V.str (srtB a))) p=some (.lst (L.map fun a=>V.str (srtB a))):=upd_same
 generalize upd H p (.lst (L.map fun a=>V.str (srtB a)))=H1 at s1 h1⊢
 have hbs:(List.zipWith (fun a b=>folB (srtB a) (srtB b)) L (L.drop 1)).all id=true:=by rw[←hL];exact adB_all hb
 have e1:cutV (L.map fun a=>V.str (srtB a)) (some 1) none=(L.drop 1).map fun a=>V.str (srtB a):=by rw[show(some (1:Int))=some ((1:Nat):Int)from rfl,cut_fromL,List.map_drop]
 fail "R"
 intro p2 hp2
 rw[e1]
 have s2:=same_new hp2 (.lst ((L.drop 1).map fun a=>V.str (srtB a)))
 have h2:upd H1 p2 (.lst ((L.drop 1).map fun a=>V.str (srtB a))) p2=some (.lst ((L.drop 1).map fun a=>V.str (srtB a))):=upd_same
 have h2p:=s2 _ _ h1
 generalize upd H1 p2 (.lst ((L.drop 1).map fun a=>V.str (srtB a)))=H2 at s2 h2 h2p⊢
 have hb1:SqB K false H2 p (L.map fun a=>V.str (srtB a)):=SqL.of h2p
 have hb2:SqB K false H2 p2 ((L.drop 1).map fun a=>V.str (srtB a)):=SqL.of h2
 have s02:=s1.trans s2
 have hm:min (L.map fun a=>V.str (srtB a)).length ((L.drop 1).map fun a=>V.str (srtB a)).length=(List.zipWith (fun a b=>folB (srtB a) (srtB b)) L (L.drop 1)).length:=by
  rw[List.length_map,List.length_map,List.length_zipWith]
 have hml:(List.zipWith (fun a b=>folB (srtB a) (srtB b)) L (L.drop 1)).length<=4000:=by rw[List.length_zipWith];omega
 fail "R"
 refine comp_zip (K:=K) (xs:=L.map fun a=>V.str (srtB a)) (ys:=(L.drop 1).map fun a=>V.str (srtB a)) (fun i σ us H5=>(∃x y,σ=[x,y])/\Same H2 H5/\us=((List.zipWith (fun a b=>folB (srtB a) (srtB b)) L (L.drop 1)).take i).map V.bl) ⟨⟨_,_,rfl⟩,Same.refl _,rfl⟩ ?_ (big (by rw[hm];omega)) ?_ ?_ ?_ ?_
 ·rintro i σ us H5 hi ⟨_,_,rfl⟩
  rw[List.length_map,List.length_take]
  exact Nat.min_le_left _ _
 ·rintro i σ us H5 hi ⟨_,s5,_⟩
  exact SqL.of (s5 _ _ h2p)
 ·rintro i σ us H5 hi ⟨_,s5,_⟩
  exact SqL.of (s5 _ _ h2)
 ·rintro i x y σ us H5 p6 hx hy ⟨⟨_,_,rfl⟩,s5,rfl⟩ hp6
  rw[List.getElem?_map]at hx hy
  obtain⟨a6,ha6,rfl⟩:=Option.map_eq_some_iff.mp hx
  obtain⟨b6,hb6,rfl⟩:=Option.map_eq_some_iff.mp hy
  have s6:=same_new hp6 (.tup [.str (srtB a6),.str (srtB b6)])
  have h6:upd H5 p6 (.tup [.str (srtB a6),.str (srtB b6)]) p6=some (.tup [.str (srtB a6),.str (srtB b6)]):=upd_same
  generalize upd H5 p6 (.tup [.str (srtB a6),.str (srtB b6)])=H6 at s6 h6⊢
  have hz:(List.zipWith (fun a b=>folB (srtB a) (srtB b)) L (L.drop 1))[i]?=some (folB (srtB a6) (srtB b6)):=by rw[List.getElem?_zipWith,ha6,hb6]
  have hfin:((List.zipWith (fun a b=>folB (srtB a) (srtB b)) L (L.drop 1)).take (i+1)).map V.bl=((List.zipWith (fun a b=>folB (srtB a) (srtB b)) L (L.drop 1)).take i).map V.bl++[V.bl (folB (srtB a6) (srtB b6))]:=by
   rw[List.take_add_one,hz,List.map_append]
   rfl
  obtain⟨af,xf,hlk,hsq,hxf⟩:∃af xf,([("blank",V.ref aB),("start",.ref aS),("word",.ref aW),("end",.ref aE)]:List (Str×V)).lookup (srtB a6)=some (.ref af)/\SqT K H6 af xf/\xf=folVB (srtB a6):=by
   unfold srtB
   split
   ·exact⟨aB,_,rfl,hB _,rfl⟩
   ·split
    ·exact⟨aS,_,rfl,hS _,rfl⟩
    ·split
     ·exact⟨aE,_,rfl,hE _,rfl⟩
     ·exact⟨aW,_,rfl,hW _,rfl⟩
  subst hxf
  have hfl:(folVB (srtB a6)).all flatV=true:=by
   unfold srtB
   split
   ·decide +kernel
   ·split
    ·decide +kernel
    ·split<;>decide +kernel
  fail "R"
  ·exact s5.trans s6
  ·exact hfin.symm
 ·rintro σ us H5 ⟨_,s5,rfl⟩ p6 hp6
  rw[hm,List.take_length]
  fail "R"
  rw[hbs]
  exact k _ ((s02.trans s5).trans (same_new hp6 _))
end
abbrev opn1:Nat->Str:=fun c=>Str.empty++⟨#[c]⟩++" "
abbrev cls1:Nat->Str:=fun c=>Str.empty++" "++⟨#[c]⟩
theorem opn1_len(c:Nat):(opn1 c).length<=100:=by show 2<=100;decide
theorem cls1_len(c:Nat):(cls1 c).length<=100:=by show 2<=100;decide
theorem opn1_ne(c:Nat):((⟨#[c]⟩:Str) == opn1 c)=false:=by
 apply beq_eq_false_iff_ne.mpr
 intro e
 have e2:(1:Nat)=2:=congrArg Str.length e
 cases e2
theorem cls1_ne(c:Nat):((⟨#[c]⟩:Str) == cls1 c)=false:=by
 apply beq_eq_false_iff_ne.mpr
 intro e
 have e2:(1:Nat)=2:=congrArg Str.length e
 cases e2
def wV(l:List (List Nat)):List V:=l.map fun w=>V.str (ofL w)
def spSplit:Sp:=fun vs H Q _=>∃b:Bw,vs=[.str (ofL b.txt)]/\b.ok/\b.txt.length<=3000/\∀(p:Addr) (H':Hp),Same H H'->H p=none->H' p=some (.lst (wV b.toks))->Q (.ref p) H'
theorem wd_flat(l:List (List Nat)):(l.flatMap fun p=>if p.isEmpty then []else [T.s (ofL p)])=(l.filter fun p=>!p.isEmpty).map fun p=>T.s (ofL p):=by
 induction l with
 |nil=>rfl
 |cons p r ih =>
  rw[List.flatMap_cons,ih]
  cases p with
  |nil=>rfl
  |cons a q=>rfl
theorem op1_l(c:Nat):(opn1 c).cps.toList=[c,32]:=rfl
theorem cl1_l(c:Nat):(cls1 c).cps.toList=[32,c]:=rfl
theorem repl1(l:List Nat):repl opn1 (ofL l) [40,91]=ofL (Rp1 l):=by
 unfold repl
 show Txt.replace (Txt.replace (ofL l) ⟨#[40]⟩ (opn1 40)) ⟨#[91]⟩ (opn1 91)=_
 rw[rep_ofL,rep_ofL,op1_l,op1_l]
 rfl
theorem repl2(l:List Nat):repl cls1 (ofL l) [41,93]=ofL (Rp2 l):=by
 unfold repl
 show Txt.replace (Txt.replace (ofL l) ⟨#[41]⟩ (cls1 41)) ⟨#[93]⟩ (cls1 93)=_
 rw[rep_ofL,rep_ofL,cl1_l,cl1_l]
 rfl
theorem repl1_len{l:List Nat}(h:l.length<=4000)(k:Nat):(repl opn1 (ofL l) (([40,91]:List Nat).take k)).length<=65535:=by
 match k with
 |0=>show(ofL l).length<=_;rw[ofL_len];omega
 |1 =>
  show(Txt.replace (ofL l) ⟨#[40]⟩ (opn1 40)).length<=_
  have:=fmB_le (c:=40) (z:=[40,32]) (by decide) l
  rw[rep_ofL,ofL_len,op1_l]
  omega
 |k+2 =>
  have e:([40,91]:List Nat).take (k+2)=[40,91]:=List.take_of_length_le (by show 2<=k+2;omega)
  have:=Rp1_le l
  rw[e,repl1,ofL_len]
  omega
theorem repl2_len{l:List Nat}(h:l.length<=16000)(k:Nat):(repl cls1 (ofL l) (([41,93]:List Nat).take k)).length<=65535:=by
 match k with
 |0=>show(ofL l).length<=_;rw[ofL_len];omega
 |1 =>
  show(Txt.replace (ofL l) ⟨#[41]⟩ (cls1 41)).length<=_
  have:=fmB_le (c:=41) (z:=[32,41]) (by decide) l
  rw[rep_ofL,ofL_len,cl1_l]
  omega
 |k+2 =>
  have e:([41,93]:List Nat).take (k+2)=[41,93]:=List.take_of_length_le (by show 2<=k+2;omega)
  have:=Rp2_le l
  rw[e,repl2,ofL_len]
  omega
theorem rps_strs{K:PySem.W.Frag}{H:Hp}:∀l:List (List Nat),Rps K H (l.map fun q=>T.s (ofL q)) (l.map (V.str ∘ ofL))
 | []=>.nil
 |_::r=>.cons .s (rps_strs r)
section
variable {P:Program}{w:World}{K:PySem.W.Frag}{mg:Str->Option Value}{base:Heap}{gS:Addr}{sfd:FuncData}
theorem nm_split_words:Nm ["text","sign"] (defScope s_split_words):=by decide +kernel
theorem sc_split_words:FnScope ["text","sign"] ["text"] (defScope s_split_words):=⟨rfl,rfl,rfl,by decide +kernel,rfl,by decide +kernel,by decide +kernel⟩
theorem ok_split{f:Addr}{fd:FuncData}(F:Fun K "split_words" "split_words" s_split_words f fd):FnOk P w K mg base CX0 1 f fd ["text"] spSplit:=by
 refine F.ok sc_split_words (fun vs H Q E h=>?_) (fun cdv A outer s H vs Q E hr h=>?_)
 ·obtain⟨_,rfl,_⟩:=h
  rfl
 obtain⟨bb,rfl,hb,hlen,k⟩:=h
 refine⟨_,(@pss_cons _ _ _ _ _ (ps_repl (i:=0) (j:=1) (g:=opn1) rfl sc_split_words.nd rfl rfl rfl rfl (jo_behind rfl (by decide)) opn1_len opn1_ne (by decide) (by decide +kernel)) (@pss_cons _ _ _ _ _ (ps_repl (i:=0) (j:=1) (g:=cls1) rfl sc_split_words.nd rfl rfl rfl rfl (jo_ahead rfl (by decide)) cls1_len cls1_ne (by decide) (by decide +kernel)) (@pss_one _ _ _ (@ps_ret _ _ _ _ (@pe_compC _ _ _ _ _ _ _ _ _ _ _ (defScope s_split_words) ["text","sign"] ["word"] [] rfl rfl rfl (by decide +kernel) (pi_list (by exact pe_bm PySem.F.plainAttrs_str PySem.F.slot_str_split PySem.F.type_str_split mt_split (va nm_split_words 0) (pa_c pe_str pa_nil) (hbase:=by kernel_rfl) (hfew:=by kernel_rfl) (hline:=by kernel_rfl) (hs:=by kernel_rfl) (hplain:=by kernel_rfl))) (fun _ _ _ _=>(pg_name (i:=0) (show(["word"]:List Str).Nodup by decide +kernel) rfl (Or.inl (by kernel_rfl)) (by first|exact .inl rfl|exact .inr (by kernel_rfl)))) (fun _ _ _ _=>(pifs_one (pt_truthK K rfl (va (show Nm ["word"] _ by show _=_;kernel_rfl) 0) (fun _=>rfl)))) (fun _ _ _ _=>(va (show Nm ["word"] _ by show _=_;kernel_rfl) 0)) (by intro _;rfl)))))),?_⟩
 try dsimp only[cx_K]
 try dsimp only[cx_K]
 have hR1:=Rp1_le bb.txt
 have hR2:=Rp2_le (Rp1 bb.txt)
 refine seq_cut2 ?_
 intro N1 N2 c1 c2
 have e1:("([":Str).cps.toList=[40,91]:=by decide +kernel
 have e2:(")]":Str).cps.toList=[41,93]:=by decide +kernel
 refine⟨ofL bb.txt,rfl,fun j=>by rw[e1];exact repl1_len (by omega) j,?_⟩
 rw[e1,repl1]
 refine c1 _ _ ?_
 refine⟨_,rfl,fun j=>by rw[e2];exact repl2_len (by omega) j,?_⟩
 rw[e2,repl2]
 refine c2 _ _ ?_
 have ew:=words_Bw hb
 rw[show Rp2 (Rp1 bb.txt)=Rb bb.txt from rfl]
 have hF:(Rb bb.txt).length<=48000:=by show(Rp2 (Rp1 bb.txt)).length<=_;omega
 have hsl:(ofL (Rb bb.txt)).length<=100000:=by rw[ofL_len];omega
 have esp:=split_ofL (Rb bb.txt) 32
 have espl:(sp 32 (Rb bb.txt)).length<=sizeLine:=by
  refine big ?_
  have:=PyProof.Rows.split_le (ofL (Rb bb.txt)) ⟨#[32]⟩
  rw[esp,List.length_map,ofL_len]at this
  omega
 fail "R"
 intro p hp
 rw[show(" ":Str)=⟨#[32]⟩from rfl,esp,List.map_map]
 have s1:=same_new hp (.lst ((sp 32 (Rb bb.txt)).map (V.str ∘ ofL)))
 have h1:upd H p (.lst ((sp 32 (Rb bb.txt)).map (V.str ∘ ofL))) p=some (.lst ((sp 32 (Rb bb.txt)).map (V.str ∘ ofL))):=upd_same
 generalize upd H p (.lst ((sp 32 (Rb bb.txt)).map (V.str ∘ ofL)))=H1 at s1 h1⊢
 fail "R"
 refine comp_mapLz (K:=K) (e:=fun q=>T.s (ofL q)) (φ:=fun q=>if q.isEmpty then []else [T.s (ofL q)]) (ps:=sp 32 (Rb bb.txt)) (fun σ=>∃x,σ=[x]) h1 (rps_strs _) espl ?_ ⟨_,rfl⟩ ?_ ?_
 ·intro q
  cases q<;>simp
 ·rintro q hq x σ H2 N s2 ⟨y,rfl⟩ rx kN
  obtain rfl:=rx.inv_s
  have hql:(ofL q).length<=sizeLine:=by
   have hm:ofL q∈Txt.split (ofL (Rb bb.txt)) ⟨#[32]⟩:=by rw[esp];exact List.mem_map_of_mem hq
   have:=PyProof.Rows.part_short hm
   rw[ofL_len (Rb bb.txt)]at this
   exact big (by omega)
  refine⟨_,rfl,_,⟨hql,rfl⟩,?_⟩
  cases q with
  |nil=>exact kN [] _ _ ⟨⟨_,rfl⟩,Same.refl _,.nil⟩
  |cons a r=>exact⟨_,rfl,kN _ _ _ ⟨⟨_,rfl⟩,Same.refl _,.one .s⟩⟩
 ·intro l H' us s3 hl h3 r3
  rw[wd_flat]at r3
  have e3:us=wV (bb.toks):=by
   have z:Rps K H' ((((sp 32 (Rb bb.txt)).filter fun p=>!p.isEmpty).map ofL).map T.s) us:=by rw[List.map_map];exact r3
   rw[z.strs_inv,List.map_map]
   show((sp 32 (Rb bb.txt)).filter fun p=>!p.isEmpty).map _=_
   rw[show((sp 32 (Rb bb.txt)).filter fun p=>!p.isEmpty)=bb.toks from ew]
   rfl
  rw[e3]at h3
  exact k l H' (s1.trans s3) (s1.free hl) h3
end
end G08
namespace L2
open PySem PySem.Spec PyProof.Rows
theorem toks_le(b:Bw):b.ok->b.toks.length<=b.txt.length:=by
 refine Bw.induct (P:=fun b=>b.ok->b.toks.length<=b.txt.length) (fun w h=>?_) (fun o ws ih h=>?_) b
 ·unfold Bw.ok at h
  unfold Bw.toks Bw.txt
  cases w with
  |nil=>exact absurd rfl h.1
  |cons c r=>show 1<=r.length+1;omega
 ·unfold Bw.ok at h
  have all:∀(l:List Bw),(∀x∈l,x.ok->x.toks.length<=x.txt.length)->Bw.oks l->(Bw.tokss l).length<=(Bw.txtr l).length:=by
   intro l
   induction l with
   |nil=>intro _ _;exact Nat.le_refl _
   |cons x r ihr =>
    intro hx hk
    unfold Bw.oks at hk
    unfold Bw.tokss Bw.txtr
    have:=hx x (.head _) hk.1
    have:=ihr (fun z hz=>hx z (.tail _ hz)) hk.2
    rw[List.length_append,List.length_cons,List.length_append]
    omega
  unfold Bw.toks Bw.txt
  show(Bw.tokss ws++[[clo o]]).length+1<=(Bw.txts ws++[clo o]).length+1
  rw[List.length_append,List.length_append]
  have:(Bw.tokss ws).length<=(Bw.txts ws).length:=by
   cases ws with
   |nil=>exact Nat.le_refl _
   |cons x r =>
    unfold Bw.tokss Bw.txts
    have hk:=h.2
    unfold Bw.oks at hk
    have:=ih x (.head _) hk.1
    have:=all r (fun z hz=>ih z (.tail _ hz)) hk.2
    rw[List.length_append,List.length_append]
    omega
  show(Bw.tokss ws).length+1+1<=(Bw.txts ws).length+1+1
  omega
def Vls(Vl:Bw->T->Prop):List Bw->List T->Prop
 | [],ts=>ts=[]
 |b::r,ts=>∃t q,ts=t::q/\Vl b t/\Vls Vl r q
theorem Vls.snoc{Vl:Bw->T->Prop}{b:Bw}{t:T}(h:Vl b t):∀{xs:List Bw}{ts:List T},Vls Vl xs ts->Vls Vl (xs++[b]) (ts++[t])
 | [],ts,e=>by
  have e:ts=[]:=e
  subst e
  exact⟨t,[],rfl,h,rfl⟩
 |x::r,ts,⟨u,q,e,h1,h2⟩=>by
  subst e
  exact⟨u,q++[t],rfl,h1,h2.snoc h⟩
theorem Vls.len{Vl:Bw->T->Prop}:∀{xs:List Bw}{ts:List T},Vls Vl xs ts->ts.length=xs.length
 | [],ts,e=>by
  have e:ts=[]:=e
  subst e
  rfl
 |x::r,ts,⟨u,q,e,h1,h2⟩=>by
  subst e
  rw[List.length_cons,h2.len,List.length_cons]
section
variable {Gd:Bw->Prop}
def AllG(Gd:Bw->Prop)(st:BSt):Prop:=∀f∈st,∀x∈f.2,Gd x
theorem stp_inv {st st' : BSt} {w : List Nat} (h : stp st w = some st') : ∃ o xs s, st = (o, xs) :: s ∧
    (((w = [40] ∨ w = [91]) ∧ st' = (w.headD 0, []) :: st) ∨
     (¬ (w = [40] ∨ w = [91]) ∧ (w = [41] ∨ w = [93]) ∧ ∃ o' ys s', s = (o', ys) :: s' ∧ w = [clo o] ∧ st' = (o', ys ++ [.g o xs]) :: s') ∨
     (¬ (w = [40] ∨ w = [91]) ∧ ¬ (w = [41] ∨ w = [93]) ∧ st' = (o, xs ++ [.a w]) :: s)) := by
  cases st with
  | nil => cases h
  | cons f s =>
    obtain ⟨o, xs⟩ := f
    refine ⟨o, xs, s, rfl, ?_⟩
    by_cases h1 : w = [40] ∨ w = [91]
    · rw [stp_open h1] at h
      exact .inl ⟨h1, (Option.some.inj h).symm⟩
    · by_cases h2 : w = [41] ∨ w = [93]
      · refine .inr (.inl ⟨h1, h2, ?_⟩)
        cases s with
        | nil =>
          have h' : (if w = [40] ∨ w = [91] then some ((w.headD 0, []) :: (o, xs) :: []) else if w = [41] ∨ w = [93] then none else some ((o, xs ++ [.a w]) :: [])) = some st' := h
          rw [if_neg h1, if_pos h2] at h'
          cases h'
        | cons f2 s' =>
          obtain ⟨o', ys⟩ := f2
          have h' : (if w = [40] ∨ w = [91] then some ((w.headD 0, []) :: (o, xs) :: (o', ys) :: s') else if w = [41] ∨ w = [93] then (if w = [clo o] then some ((o', ys ++ [Bw.g o xs]) :: s') else none) else some ((o, xs ++ [.a w]) :: (o', ys) :: s')) = some st' := h
          rw [if_neg h1, if_pos h2] at h'
          by_cases h3 : w = [clo o]
          · rw [if_pos h3] at h'
            exact ⟨o', ys, s', rfl, h3, (Option.some.inj h').symm⟩
          · rw [if_neg h3] at h'
            cases h'
      · rw [stp_atom h1 h2] at h
        exact .inr (.inr ⟨h1, h2, (Option.some.inj h).symm⟩)
theorem stp_back(hG:∀o ws,Gd (.g o ws)->∀x∈ws,Gd x){st st':BSt}{w:List Nat}(h:stp st w=some st')(g:AllG Gd st'):AllG Gd st:=by
 obtain⟨o,xs,s,rfl,c⟩:=stp_inv h
 rcases c with⟨_,rfl⟩|⟨_,_,o',ys,s',rfl,_,rfl⟩|⟨_,_,rfl⟩
 ·exact fun f hf=>g f (.tail _ hf)
 ·intro f hf x hx
  rcases List.mem_cons.mp hf with rfl|hf
  ·exact hG o xs (g _ (.head _) _ (List.mem_append_right _ (.head _))) x hx
  rcases List.mem_cons.mp hf with rfl|hf
  ·exact g _ (.head _) x (List.mem_append_left _ hx)
  ·exact g f (.tail _ hf) x hx
 ·intro f hf x hx
  rcases List.mem_cons.mp hf with rfl|hf
  ·exact g _ (.head _) x (List.mem_append_left _ hx)
  ·exact g f (.tail _ hf) x hx
theorem brun_back(hG:∀o ws,Gd (.g o ws)->∀x∈ws,Gd x):∀{r:List (List Nat)}{st fin:BSt},brun st r=some fin->AllG Gd fin->AllG Gd st
 | [],st,fin,h,g=>by cases h;exact g
 |w::r,st,fin,h,g=>by
  have h:(stp st w).bind (fun st'=>brun st' r)=some fin:=h
  cases e:stp st w with
  |none=>rw[e]at h;cases h
  |some st' =>
   rw[e]at h
   exact stp_back hG e (brun_back hG h g)
end
section
variable {K:PySem.W.Frag}{Vl:Bw->T->Prop}
def FrsAt(K:PySem.W.Frag)(Vl:Bw->T->Prop)(H:Hp):BSt->List Addr->Prop
 | [],hs=>hs=[]
 |f::st,hs=>∃h r vs ts,hs=h::r/\H h=some (.lst vs)/\Rps K H ts vs/\Vls Vl f.2 ts/\vs.length<=100000/\FrsAt K Vl H st r
theorem FrsAt.keep{H H':Hp}(k:Kt H H'):∀{st:BSt}{hs:List Addr},FrsAt K Vl H st hs->(∀h∈hs,∀vs,H h=some (.lst vs)->H' h=some (.lst vs))->FrsAt K Vl H' st hs
 | [],_,h,_=>h
 |_::_,_,⟨h,r,vs,ts,e,h1,h2,h3,h4,h5⟩,hk=>by
  subst e
  exact⟨h,r,vs,ts,rfl,hk h (.head _) vs h1,h2.kt k,h3,h4,h5.keep k fun x hx=>hk x (.tail _ hx)⟩
theorem FrsAt.some{H:Hp}:∀{st:BSt}{hs:List Addr},FrsAt K Vl H st hs->∀h∈hs,∃vs,H h=some (.lst vs)
 | [],_,e,x,hx=>by
  have e:_=[]:=e
  subst e
  cases hx
 |_::_,_,⟨h,r,vs,ts,e,h1,_,_,_,h5⟩,x,hx=>by
  subst e
  cases hx with
  |head=>exact⟨vs,h1⟩
  |tail _ hx=>exact h5.some x hx
theorem FrsAt.len{H:Hp}:∀{st:BSt}{hs:List Addr},FrsAt K Vl H st hs->hs.length=st.length
 | [],_,e=>by
  have e:_=[]:=e
  subst e
  rfl
 |_::_,_,⟨h,r,vs,ts,e,_,_,_,_,h5⟩=>by
  subst e
  rw[List.length_cons,h5.len,List.length_cons]
def opsV(st:BSt):List V:=(st.dropLast.map fun f=>V.str ⟨#[f.1]⟩).reverse
structure StAt(K:PySem.W.Frag) (Vl:Bw->T->Prop) (B:Hp) (o hl:Addr) (hs:List Addr) (st:BSt) (H:Hp):Prop where
 same:Same B H
 new:∀x∈o::hl::hs,B x=none
 nd:(o::hl::hs).Nodup
 op:H o=some (.lst (opsV st))
 hd:H hl=some (.lst (hs.reverse.map V.ref))
 fr:FrsAt K Vl H st hs
 ok:∀f∈st.dropLast,f.1=40\/f.1=91
variable {B H H':Hp}{o hl:Addr}{hs:List Addr}{st:BSt}
theorem nd3(nd:(o::hl::hs).Nodup):o≠hl/\(∀x∈hs,o≠x)/\(∀x∈hs,hl≠x)/\hs.Nodup:=by
 obtain⟨h1,h2⟩:=List.nodup_cons.mp nd
 obtain⟨h3,h4⟩:=List.nodup_cons.mp h2
 exact⟨fun e=>h1 (by rw[e];exact .head _),fun x hx e=>h1 (by rw[e];exact .tail _ hx),fun x hx e=>h3 (by rw[e];exact hx),h4⟩
theorem StAt.up(p:StAt K Vl B o hl hs st H)(s:Same H H'):StAt K Vl B o hl hs st H' :=
 ⟨p.same.trans s,p.new,p.nd,s _ _ p.op,s _ _ p.hd,p.fr.keep (Kt.same s) fun h _ vs e=>s _ _ e,p.ok⟩
theorem StAt.opn(p:StAt K Vl B o hl hs st H)(hst:st≠[]){c:Nat}(hc:c=40\/c=91){q:Addr}(hq:H q=none) :
  StAt K Vl B o hl (q::hs) ((c,[])::st) (upd (upd (upd H o (.lst (opsV st++[.str ⟨#[c]⟩]))) q (.lst [])) hl (.lst (hs.reverse.map V.ref++[.ref q]))):=by
 obtain⟨n1,n2,n3,n4⟩:=nd3 p.nd
 have qo:q≠o:=fun e=>by rw[e,p.op]at hq;cases hq
 have ql:q≠hl:=fun e=>by rw[e,p.hd]at hq;cases hq
 have qs:∀x∈hs,q≠x:=fun x hx e=>by
  obtain⟨vs,hv⟩:=p.fr.some x hx
  rw[e,hv]at hq
  cases hq
 have q0:B q=none:=by
  cases e:B q with
  |none=>rfl
  |some u=>rw[p.same _ _ e]at hq;cases hq
 have hqo:upd H o (.lst (opsV st++[.str ⟨#[c]⟩])) q=none:=by rw[upd_ne qo];exact hq
 have k1:Kt H (upd H o (.lst (opsV st++[.str ⟨#[c]⟩]))):=Kt.lst p.op _
 have k2:Kt _ (upd (upd H o (.lst (opsV st++[.str ⟨#[c]⟩]))) q (.lst [])):=Kt.new hqo _
 have hl2:upd (upd H o (.lst (opsV st++[.str ⟨#[c]⟩]))) q (.lst []) hl=some (.lst (hs.reverse.map V.ref)):=by rw[upd_ne (Ne.symm ql),upd_ne (Ne.symm n1)];exact p.hd
 have k3:Kt _ (upd (upd (upd H o (.lst (opsV st++[.str ⟨#[c]⟩]))) q (.lst [])) hl (.lst (hs.reverse.map V.ref++[.ref q]))):=Kt.lst hl2 _
 have ed:((c,[])::st).dropLast=(c,[])::st.dropLast:=by cases st with|nil=>exact absurd rfl hst|cons=>rfl
 refine⟨((p.same.updF (p.new o (.head _)) _).updF q0 _).updF (p.new hl (.tail _ (.head _))) _,?_,?_,?_,?_,?_,?_⟩
 ·intro x hx
  rcases List.mem_cons.mp hx with rfl|hx
  ·exact p.new _ (.head _)
  rcases List.mem_cons.mp hx with rfl|hx
  ·exact p.new _ (.tail _ (.head _))
  rcases List.mem_cons.mp hx with rfl|hx
  ·exact q0
  ·exact p.new _ (.tail _ (.tail _ hx))
 ·refine List.nodup_cons.mpr ⟨fun h=>?_,List.nodup_cons.mpr ⟨fun h=>?_,List.nodup_cons.mpr ⟨fun h=>qs _ h rfl,n4⟩⟩⟩
  ·rcases List.mem_cons.mp h with h|h
   ·exact n1 h
   rcases List.mem_cons.mp h with h|h
   ·exact qo h.symm
   ·exact n2 _ h rfl
  ·rcases List.mem_cons.mp h with h|h
   ·exact ql h.symm
   ·exact n3 _ h rfl
 ·rw[upd_ne n1,upd_ne (Ne.symm qo),upd_same]
  unfold opsV
  rw[ed,List.map_cons,List.reverse_cons]
 ·rw[upd_same,List.reverse_cons,List.map_append]
  rfl
 ·refine⟨q,hs,[],[],rfl,by rw[upd_ne ql,upd_same],.nil,rfl,Nat.zero_le _,p.fr.keep ((k1.trans k2).trans k3) fun x hx vs e=>?_⟩
  rw[upd_ne (Ne.symm (n3 x hx)),upd_ne (Ne.symm (qs x hx)),upd_ne (Ne.symm (n2 x hx))]
  exact e
 ·rw[ed]
  intro f hf
  rcases List.mem_cons.mp hf with rfl|hf
  ·exact hc
  ·exact p.ok f hf
theorem StAt.app{c:Nat}{xs:List Bw}{h:Addr}(p:StAt K Vl B o hl (h::hs) ((c,xs)::st) H){b:Bw}{t:T}{v:V}{vs:List V}(hv:H h=some (.lst vs))(r:Rp K H t v)(l:Vl b t)(hn:vs.length<100000) :
  StAt K Vl B o hl (h::hs) ((c,xs++[b])::st) (upd H h (.lst (vs++[v]))):=by
 obtain⟨n1,n2,n3,n4⟩:=nd3 p.nd
 obtain⟨h',r',vs',ts,e,h1,h2,h3,h4,h5⟩:=p.fr
 cases e
 rw[hv]at h1
 cases h1
 have k1:Kt H (upd H h (.lst (vs++[v]))):=Kt.lst hv _
 have ed:∀x:List Bw,opsV ((c,x)::st)=opsV ((c,xs)::st):=fun x=>by unfold opsV;cases st<;>rfl
 refine⟨p.same.updF (p.new h (.tail _ (.tail _ (.head _)))) _,p.new,p.nd,?_,by rw[upd_ne (n3 h (.head _))];exact p.hd,?_,?_⟩
 ·rw[upd_ne (n2 h (.head _)),ed]
  exact p.op
 ·refine⟨h,hs,vs++[v],ts++[t],rfl,upd_same,(h2.append (.one r)).kt k1,h3.snoc l,by rw[List.length_append];exact hn,h5.keep k1 fun x hx ws e=>?_⟩
  rw[upd_ne (fun z=>(List.nodup_cons.mp n4).1 (by rw[←z];exact hx))]
  exact e
 ·intro f hf
  cases st with
  |nil=>cases hf
  |cons f2 st2 =>
   rcases List.mem_cons.mp hf with rfl|hf
   ·exact p.ok (c,xs) (.head _)
   ·exact p.ok f (.tail _ hf)
theorem StAt.pop{c:Nat}{xs:List Bw}{h:Addr}(p:StAt K Vl B o hl (h::hs) ((c,xs)::st) H)(hst:st≠[]) :
  StAt K Vl B o hl hs st (upd (upd H hl (.lst (hs.reverse.map V.ref))) o (.lst (opsV st))):=by
 obtain⟨n1,n2,n3,n4⟩:=nd3 p.nd
 obtain⟨h',r',vs',ts,e,h1,h2,h3,h4,h5⟩:=p.fr
 cases e
 have k1:Kt H (upd H hl (.lst (hs.reverse.map V.ref))):=Kt.lst p.hd _
 have ho:upd H hl (.lst (hs.reverse.map V.ref)) o=some (.lst (opsV ((c,xs)::st))):=by rw[upd_ne n1];exact p.op
 have k2:Kt _ (upd (upd H hl (.lst (hs.reverse.map V.ref))) o (.lst (opsV st))):=Kt.lst ho _
 have ed:((c,xs)::st).dropLast=(c,xs)::st.dropLast:=by cases st with|nil=>exact absurd rfl hst|cons=>rfl
 refine⟨(p.same.updF (p.new hl (.tail _ (.head _))) _).updF (p.new o (.head _)) _,?_,?_,upd_same,by rw[upd_ne (Ne.symm n1),upd_same],?_,?_⟩
 ·intro x hx
  rcases List.mem_cons.mp hx with rfl|hx
  ·exact p.new _ (.head _)
  rcases List.mem_cons.mp hx with rfl|hx
  ·exact p.new _ (.tail _ (.head _))
  ·exact p.new _ (.tail _ (.tail _ (.tail _ hx)))
 ·refine List.nodup_cons.mpr ⟨fun z=>?_,List.nodup_cons.mpr ⟨fun z=>n3 _ (.tail _ z) rfl,(List.nodup_cons.mp n4).2⟩⟩
  rcases List.mem_cons.mp z with z|z
  ·exact n1 z
  ·exact n2 _ (.tail _ z) rfl
 ·refine h5.keep (k1.trans k2) fun x hx ws e=>?_
  rw[upd_ne (Ne.symm (n2 x (.tail _ hx))),upd_ne (Ne.symm (n3 x (.tail _ hx)))]
  exact e
 ·intro f hf
  exact p.ok f (by rw[ed];exact .tail _ hf)
end
section
variable {prog:Program}{w:World}{A:Around}{E:Value->Shared->Prop}{s:Shared}
end
section
variable {X:Cx}{pins:List (Addr×Obj)}{σ:St}{H:Hp}{s:Shared}
end
section
variable {prog:Program}{w:World}{A:Around}{R:Result->Shared->Prop}{s:Shared}
end
section
variable {X:Cx}{pins:List (Addr×Obj)}{σ:St}{H:Hp}{s:Shared}
end
section
variable {X:Cx}
end
section
variable {g:TG}{tt:TT}{tk tv:TE}{Q:VK}{σ0:St}{H0:Hp}
end
end L2
namespace L2
open PySem
section
variable {K:PySem.W.Frag}{H:Hp}{v:V}
theorem Rp.t1{x:T}(h:Rp K H (.t [x]) v):∃a u,v=.ref a/\SqT K H a [u]/\Rp K H x u:=by
 obtain⟨a,vs,rfl,sq,r⟩:=h.inv_t
 obtain⟨u,q,rfl,g,r2⟩:=r.inv
 obtain rfl:=r2.inv0
 exact⟨a,u,rfl,sq,g⟩
theorem Rp.t2{x y:T}(h:Rp K H (.t [x,y]) v):∃a u1 u2,v=.ref a/\SqT K H a [u1,u2]/\Rp K H x u1/\Rp K H y u2:=by
 obtain⟨a,vs,rfl,sq,r⟩:=h.inv_t
 obtain⟨u,q,rfl,g,r2⟩:=r.inv
 obtain⟨u2,q2,rfl,g2,r3⟩:=r2.inv
 obtain rfl:=r3.inv0
 exact⟨a,u,u2,rfl,sq,g,g2⟩
theorem Rp.t3{x y z:T}(h:Rp K H (.t [x,y,z]) v):∃a u1 u2 u3,v=.ref a/\SqT K H a [u1,u2,u3]/\Rp K H x u1/\Rp K H y u2/\Rp K H z u3:=by
 obtain⟨a,vs,rfl,sq,r⟩:=h.inv_t
 obtain⟨u,q,rfl,g,r2⟩:=r.inv
 obtain⟨u2,q2,rfl,g2,r3⟩:=r2.inv
 obtain⟨u3,q3,rfl,g3,r4⟩:=r3.inv
 obtain rfl:=r4.inv0
 exact⟨a,u,u2,u3,rfl,sq,g,g2,g3⟩
theorem Rp.t4{x y z x4:T}(h:Rp K H (.t [x,y,z,x4]) v):∃a u1 u2 u3 u4,v=.ref a/\SqT K H a [u1,u2,u3,u4]/\Rp K H x u1/\Rp K H y u2/\Rp K H z u3/\Rp K H x4 u4:=by
 obtain⟨a,vs,rfl,sq,r⟩:=h.inv_t
 obtain⟨u,q,rfl,g,r2⟩:=r.inv
 obtain⟨u2,q2,rfl,g2,r3⟩:=r2.inv
 obtain⟨u3,q3,rfl,g3,r4⟩:=r3.inv
 obtain⟨u4,q4,rfl,g4,r5⟩:=r4.inv
 obtain rfl:=r5.inv0
 exact⟨a,u,u2,u3,u4,rfl,sq,g,g2,g3,g4⟩
end
end L2
namespace L2
open PySem PySem.Spec PyProof.Rows
section
variable {X:Cx}
def tCallV(T:Addr->Sp->Prop)(tf:TE)(t:TA):TE:=fun σ H Q=>tf σ H fun x H0=>∃f sp,x=.ref f/\T f sp/\t σ H0 fun vs H1=>sp vs H1 Q E0
theorem pe_callV{T:Addr->Sp->Prop}{x:Str}{p pos:Pos}{e:Expr}{es:List Expr}{tf:TE}{t:TA}
  (hT:∀f sp,T f sp->∃k fd ps,FnOk X.prog X.w X.K X.mg X.base CX0 k f fd ps sp/\Room k X.A/\PySem.W.keepIn X.K (.ref f)=true/\Binds X.K fd ps [])
  (hf:PE X (.Name x p) tf) (ha:PA X (e::es) t) (he:starEach (e::es) X.env=(false,eval e X.env)::starEach es X.env:=by rfl) (hpl:(backTo pos (starEach es X.env)).any (·.1)=false:=by rfl) :
  PE X (.Call (.Name x p) (e::es) [] pos) (tCallV T tf t):=by
 intro pins s σ H Q I h
 refine wpAny_Call_Name_kw (thn (hf pins s σ H _ I h) fun u s0 ⟨v,H0,I0,rx,f,sp,ev,hTf,q⟩=>?_)
 subst ev
 obtain rfl:u=Value.ref f:=rx
 obtain⟨k,fd,ps,F,hr,hk,hb⟩:=hT f sp hTf
 refine PySem.W.callWith_K (h₀:=X.base) I0.ok.mod.kin hk (thn (ha pos pins s0 σ H0 _ I0 q) fun us s1 ⟨vs,H1,I1,r,q⟩=>⟨I1.kIn,?_⟩) he hpl
 exact run_fn (E:=E0) (dvs:=[]) F hr hb .nil pass0 I1 r (by simpa using q)
theorem lst_iter:typeLookup (.type "list") (Str.ofString "__iter__")=pure (some (.builtin "list.__iter__")):=by rw[typeLookup_type,builtinLookup_eq_fast];kernel_rfl
section
variable {prog:Program}{w:World}{A:Around}{E:Value->Shared->Prop}{s:Shared}
theorem draw_list{l I:Addr}{items:Array Value}{Q:List Value->Shared->Prop}(hh:A.handled=none)(hI:l≠I) :
  ∀(n i:Nat) (s:Shared),i+n<=items.size->s.heap.IsListIter I l i->s.heap.IsList l items->(∀h' tk,(∀b o,b≠I->s.heap.get? b=some o->h'.get? b=some o)->h'.IsListIter I l (i+n)->Q ((items.toList.drop i).take n) {s with heap:=h',toks:=tk}) ->
   wpAny (model prog w) A (draw (.ref I) n) Q E s:=by
 intro n
 induction n generalizing Q with
 |zero =>
  intro i s hi h1 h2 hQ
  show wpAny _ _ (pure []) _ _ _
  exact wpAny_pure (by simpa using hQ s.heap s.toks (fun _ _ _ e=>e) h1)
 |succ n ih =>
  intro i s hi h1 h2 hQ
  unfold draw
  refine wpAny_bind ((Walks.list (A:=A) hh I l hI items).item i s _ _ (by omega) ⟨h1,h2⟩ fun v h' tk hv hst hk=>?_)
  refine wpAny_bind (wpAny_holding (ih (i+1) {s with heap:=h',toks:=tk} (by omega) hst.1 hst.2 fun h2 tk2 hk2 hst2=>wpAny_pure ?_))
  have e:v::(items.toList.drop (i+1)).take n=(items.toList.drop i).take (n+1):=by
   have hv':items.toList[i]?=some v:=by simpa using hv
   have hil:i<items.toList.length:=by simp;omega
   rw[List.drop_eq_getElem_cons hil,List.take_succ_cons]
   have e2:items.toList[i]=v:=(List.getElem?_eq_some_iff.mp hv').2
   rw[e2]
  rw[e]
  exact hQ h2 tk2 (fun b o hb q=>hk2 b o hb (hk b o (by simpa using hb) q)) (by rw[show i+(n+1)=i+1+n by omega];exact hst2)
theorem unpack_list{l:Addr}{items:Array Value}{Q:List Value->Shared->Prop}(hh:A.handled=none)(hl:s.heap.IsList l items)
  (hQ:∀h' tk,(∀b o,s.heap.get? b=some o->h'.get? b=some o)->Q items.toList {s with heap:=h',toks:=tk}):wpAny (model prog w) A (unpackItems (.ref l) items.size none) Q E s:=by
 have hlt:l<s.heap.objs.size:=by obtain⟨_,e,_⟩:=hl;exact Heap.lt_size e
 have hT:s.TypeIs (.ref l) "list":=by obtain⟨o,e,c,_⟩:=hl;exact⟨o,e,c⟩
 unfold unpackItems notIterableAtAll
 refine wpAny_bind (wpAny_bind (wpAny_specialOf hT lst_iter ?_))
 rw[if_pos (show(some (Value.builtin "list.__iter__")).isSome=true from rfl)]
 refine wpAny_pure ?_
 dsimp only
 rw[if_neg Bool.false_ne_true]
 refine wpAny_bind (wpAny_holding (wpAny_pyIter_list hl ?_))
 have hne:l≠s.heap.objs.size:=Nat.ne_of_lt hlt
 have h1:(s.heap.push {cls:=.type "list_iterator",data:=.fields #[.ref l,.int 0 0]}).IsListIter s.heap.objs.size l 0:=⟨_,Heap.get?_push_size _ rfl,rfl,rfl⟩
 have h2:=hl.push {cls:=.type "list_iterator",data:=.fields #[.ref l,.int 0 0]}
 refine wpAny_bind (wpAny_holding (draw_list (items:=items) hh hne items.size 0 {s with heap:=s.heap.push {cls:=.type "list_iterator",data:=.fields #[.ref l,.int 0 0]}} (by omega) h1 h2 fun g tk hk hst=>?_))
 rw[List.drop_zero,List.take_of_length_le (by simp)]
 have hlg:g.IsList l items:=h2.at fun o e=>hk _ o hne e
 dsimp only
 rw[if_neg (by simp)]
 refine wpAny_bind (wpAny_holding ((Walks.list (A:=A) hh s.heap.objs.size l hne items).done {s with heap:=g,toks:=tk} _ _ ⟨by simpa using hst,hlg⟩ fun h' tk' hk'=>?_))
 rw[if_neg (by simp)]
 exact wpAny_pure (hQ h' tk' fun b o e=>hk' b o (by simp;exact Nat.ne_of_lt (Heap.lt_size e)) (hk b o (Nat.ne_of_lt (Heap.lt_size e)) (Heap.get?_push_of_some _ e)))
theorem assign_Tuple_list{env:Env}{elts:List Expr}{x1:Nat}{pos:Pos}{l:Addr}{items:Array Value}{Q:Unit->Shared->Prop}(hh:A.handled=none)(hl:s.heap.IsList l items)(hn:(assignEach elts env).length=items.size)(hst:(assignEach elts env).findIdx? (·.1)=none)
  (hQ:∀h' tk,(∀b o,s.heap.get? b=some o->h'.get? b=some o)->wpAny (model prog w) A (assignInOrder ((assignEach elts env).map (·.2)) items.toList) Q E {s with heap:=h',toks:=tk}) :
  wpAny (model prog w) A (assign (.Tuple elts x1 pos) env (.ref l)) Q E s:=by
 rw[arm_assign_Tuple]
 refine wpAny_bind (wpAny_standAt ?_)
 unfold unpack
 rw[hn,hst]
 exact wpAny_bind (wpAny_holding (unpack_list hh hl hQ))
end
def gLst(K:PySem.W.Frag)(n:Nat)(t:TGs):TG:=fun v σ H Q=>∃a xs,v=.ref a/\SqL K H a xs/\xs.length=n/\t xs σ H Q
theorem pg_lstK{pos:Pos}{es:List Expr}{k:Nat}{t:TGs}{n:Nat}(K:PySem.W.Frag)(hK:X.K=K)(hc:X.calm=true)(h:PGs X es t)
  (hn:(assignEach es X.env).length=n:=by rfl) (hst:(assignEach es X.env).findIdx? (·.1)=none:=by rfl):PG X (.Tuple es k pos) (gLst K n t):=by
 subst hK
 intro pins s σ H v u Q I r hw
 obtain⟨a,xs,e1,hq,hl,hw⟩:=hw
 subst e1
 cases r
 obtain⟨its,rv,ht,hz⟩:=I.list hq
 refine assign_Tuple_list (I.ok.hd hc) ht.isList (by simp[hn,←hl,rv.length]) hst fun h' tk hx=>?_
 have I1:Inv X pins σ H {s with heap:=h',toks:=tk}:=I.kept (t':=tk) hx
 exact h pins _ σ H xs _ Q I1 (by simpa using rv) hw
end
end L2
namespace G08
open PySem L2
theorem cx_w{X0:CXT}{P:Program}{w:World}{K:PySem.W.Frag}{mg:Str->Option Value}{base:Heap}{N:List Str}{nm:Str}{sc:Scope}{f:Addr}{cdv:Value}{A:Around}{outer:List PySem.Env}{s:Shared}{H:Hp}{E:XK}:(cxOf X0 P w K mg base N nm sc f cdv A outer s H E).w=w:=rfl
theorem at_last{α:Type}{l:List α}{x:α}{n:Nat}(hl:l.length=n+1)(h:l[n]?=some x):atI l (-1)=some x:=by
 unfold atI ixN
 rw[if_neg (by decide),if_pos (by omega)]
 show l[((-1:Int)+(l.length:Int)).toNat]?=some x
 rw[show((-1:Int)+(l.length:Int)).toNat=n by omega]
 exact h
abbrev cofV:List (Str×V):=[("(",.str ")"),("[",.str "]")]
def spClose(K:PySem.W.Frag)(Gd:Bw->Prop)(Vl:Bw->T->Prop):Sp:=fun vs H Q _=>∃(c:Nat) (ws:List Bw) (p:Addr) (us:List V) (ts:List T),vs=[.str ⟨#[c]⟩,.ref p]/\Gd (.g c ws)/\H p=some (.lst us)/\Rps K H ts us/\Vls Vl ws ts /\
 ∀(v:V) (H':Hp) (t:T),Same H H'->Rp K H' t v->Vl (.g c ws) t->Q v H'
def spScan(K:PySem.W.Frag)(Gd:Bw->Prop)(Vl:Bw->T->Prop)(gK:Addr):Sp:=fun vs H Q _=>∃b:Bw,vs=[.str (ofL b.txt),.ref gK]/\b.ok/\Gd b/\b.txt.length<=3000/\∀(p:Addr) (v:V) (H':Hp) (t:T),Same H H'->H' p=some (.lst [v])->Rp K H' t v->Vl b t->Q (.ref p) H'
def spScan1(K:PySem.W.Frag)(Gd:Bw->Prop)(Vl:Bw->T->Prop)(gK:Addr):Sp:=fun vs H Q _=>∃b:Bw,vs=[.str (ofL b.txt),.ref gK]/\b.ok/\Gd b/\b.txt.length<=3000/\∀(v:V) (H':Hp) (t:T),Same H H'->Rp K H' t v->Vl b t->Q v H'
theorem ofL_one{w:List Nat}{k:Nat}(h:w≠[k]):ofL w≠⟨#[k]⟩:=fun e=>h (by rw[←toList_ofL w,e])
theorem cof_none{w:List Nat}(h:¬(w=[40]\/w=[91])):cofV.lookup (ofL w)=none:=by
 have h1:(ofL w == ("(":Str))=false:=beq_eq_false_iff_ne.mpr (ofL_one fun e=>h (.inl e))
 have h2:(ofL w == ("[":Str))=false:=beq_eq_false_iff_ne.mpr (ofL_one fun e=>h (.inr e))
 rw[List.lookup_cons,h1,List.lookup_cons,h2]
 rfl
theorem end_none{w:List Nat}(h:¬(w=[41]\/w=[93])):inV (.str (ofL w)) [.str ")",.str "]"]=false:=by
 have h1:((")":Str) == ofL w)=false:=beq_eq_false_iff_ne.mpr (Ne.symm (ofL_one fun e=>h (.inl e)))
 have h2:(("]":Str) == ofL w)=false:=beq_eq_false_iff_ne.mpr (Ne.symm (ofL_one fun e=>h (.inr e)))
 show((")":Str) == ofL w||((("]":Str) == ofL w)||false))=false
 rw[h1,h2]
 rfl
structure ScI(K:PySem.W.Frag) (Vl:Bw->T->Prop) (b:Bw) (B:Hp) (o hl:Addr) (i:Nat) (H:Hp):Prop where
 x:∃hs st,brun st (b.toks.drop i)=some [(0,[b])]/\StAt K Vl B o hl hs st H/\st.length<=i+1/\∀f∈st,f.2.length<=i
section
variable {P:Program}{w:World}{K:PySem.W.Frag}{mg:Str->Option Value}{base:Heap}{gW gS gK gC:Addr}{wfd sfd kfd cfd:FuncData}{Gd:Bw->Prop}{Vl:Bw->T->Prop}
theorem nm_scanned:Nm ["text","close","openers","held","word","inner"] (defScope s_scanned):=by decide +kernel
theorem lm_scanned:Lm ["text","close","openers","held","word","inner"] (defScope s_scanned):=by decide +kernel
theorem sc_scanned:FnScope ["text","close","openers","held","word","inner"] ["text","close"] (defScope s_scanned):=⟨rfl,rfl,rfl,by decide +kernel,rfl,by decide +kernel,by decide +kernel⟩
theorem ok_scan{f aC:Addr}{fd:FuncData}{jc:Nat}(hjc:2<=jc)(hG:∀o ws,Gd (.g o ws)->∀x∈ws,Gd x)(hA:∀w,Vl (.a w) (.s (ofL w)))(F:Fun K "scanned" "scanned" s_scanned f fd)(WE:Has P w K mg base "well_parted" 2 ["text"] spWell gW wfd)(SP:Has P w K mg base "split_words" 1 ["text"] spSplit gS sfd)(KL:Has P w K mg base "close_term" jc ["opener","items"] (spClose K Gd Vl) gK kfd)
  (mC:mg "CLOSE_OF"=some (.ref aC)) (dC:KD K w aC [("(",.str ")"),("[",.str "]")]):FnOk P w K mg base CX0 (jc+1) f fd ["text","close"] (spScan K Gd Vl gK):=by
 refine F.ok sc_scanned (fun vs H Q E h=>?_) (fun cdv A outer s H vs Q E hr h=>?_)
 ·obtain⟨_,rfl,_⟩:=h
  rfl
 obtain⟨bb,rfl,hb,hg,hlen,k⟩:=h
 refine⟨_,(@pss_cons _ _ _ _ _ (@ps_if _ _ _ _ _ _ _ _ (@pt_not _ _ _ _ (@pt_val _ _ _ (@pe_call _ _ _ _ _ _ _ _ _ _ _ _ _ _ _ _ WE.ok (hr.mono (by omega)) (by show _=_;kernel_rfl) WE.at' WE.kp WE.bd .nil pass0 (pa_c (va nm_scanned 0) pa_nil) (by decide) (by rfl) (by rfl)) (by intro _;rfl))) (pss_one ps_never) pss_nil) (@pss_cons _ _ _ _ _ (sa sc_scanned.nd lm_scanned 2 (pe_lst pa_nil)) (@pss_cons _ _ _ _ _ (@sa _ _ _ _ _ _ sc_scanned.nd lm_scanned 3 (@pe_lst _ _ _ _ (pa_c (pe_lst pa_nil) pa_nil)) (by rfl) (by kernel_rfl) (by exact .inl rfl)) (@pss_cons _ _ _ _ _ (@ps_for _ _ _ _ _ _ _ _ PassesOwn.never rfl (@pi_list _ _ _ _ (@pe_call _ _ _ _ _ _ _ _ _ _ _ _ _ _ _ _ SP.ok (hr.mono (by omega)) (by show _=_;kernel_rfl) SP.at' SP.kp SP.bd .nil pass0 (pa_c (va nm_scanned 0) pa_nil) (by decide) (by rfl) (by rfl))) (ga sc_scanned.nd lm_scanned 4) (@pss_one _ _ _ (@ps_if _ _ _ _ _ _ _ _ (pt_cmpR op_inKD (va nm_scanned 4) (pe_glob (v:=.ref aC) (by show _=_;kernel_rfl) mC rfl) (by with_unfolding_all rfl)) (@pss_cons _ _ _ _ _ (@ps_expr _ _ _ _ (@pe_bm _ _ _ _ _ _ _ _ _ _ _ _ PySem.F.plainAttrs_list PySem.F.slot_list_append PySem.F.type_list_append mt_append (va nm_scanned 2) (pa_c (va nm_scanned 4) pa_nil) (by rfl) (by rfl) (by rfl) (by rfl) (by rfl)) (by rfl)) (@pss_one _ _ _ (@ps_expr _ _ _ _ (@pe_bm _ _ _ _ _ _ _ _ _ _ _ _ PySem.F.plainAttrs_list PySem.F.slot_list_append PySem.F.type_list_append mt_append (va nm_scanned 3) (pa_c (pe_lst pa_nil) pa_nil) (by rfl) (by rfl) (by rfl) (by rfl) (by rfl)) (by rfl)))) (@pss_one _ _ _ (@ps_if _ _ _ _ _ _ _ _ (@pt_cmpR _ _ _ _ _ _ _ _ op_in_seq (va nm_scanned 4) (@pe_tup _ _ _ _ _ (pa_c pe_str (pa_c pe_str pa_nil))) (by with_unfolding_all rfl)) (@pss_cons _ _ _ _ _ (@ps_if _ _ _ _ _ _ _ _ (PW.pt (@pw_or _ _ _ _ _ _ _ (@pt_not _ _ _ _ (pt_truth (va nm_scanned 2) (fun _=>rfl))) (@pw_or1 _ _ _ _ (@pt_cmpR _ _ _ _ _ _ _ _ op_ne (@pe_kget _ _ _ _ _ _ (pe_glob (v:=.ref aC) (by show _=_;kernel_rfl) mC rfl) (pe_ix ix_list (va nm_scanned 2) (pe_un un_neg pe_int) (fun _ _=>rfl)) (fun _ _=>rfl)) (va nm_scanned 4) (nomark _))))) (pss_one ps_never) pss_nil) (@pss_cons _ _ _ _ _ (@sa _ _ _ _ _ _ sc_scanned.nd lm_scanned 5 (pe_bm0 PySem.F.plainAttrs_list PySem.F.slot_list_pop PySem.F.type_list_pop mt_pop (va nm_scanned 3)) (by rfl) (by kernel_rfl) (by exact .inl rfl)) (@pss_one _ _ _ (@ps_expr _ _ _ _ (@pe_bm _ _ _ _ _ _ _ _ _ _ _ _ PySem.F.plainAttrs_list PySem.F.slot_list_append PySem.F.type_list_append mt_append (pe_ix ix_list (va nm_scanned 3) (pe_un un_neg pe_int) (fun _ _=>rfl)) (@pa_c _ _ _ _ _ (@pe_callV _ (fun f sp=>f=gK/\sp=spClose K Gd Vl) _ _ _ _ _ _ _ (fun f sp h=>by obtain⟨rfl,rfl⟩:=h;exact⟨jc,_,_,KL.ok,hr.mono (by omega),KL.kp,KL.bd⟩) (va nm_scanned 1) (@pa_c _ _ _ _ _ (pe_bm0 PySem.F.plainAttrs_list PySem.F.slot_list_pop PySem.F.type_list_pop mt_pop (va nm_scanned 2)) (pa_c (va nm_scanned 5) pa_nil) (by rfl)) (by rfl) (by rfl)) pa_nil (by rfl)) (by rfl) (by rfl) (by rfl) (by rfl) (by rfl)) (by rfl))))) (@pss_one _ _ _ (@ps_expr _ _ _ _ (@pe_bm _ _ _ _ _ _ _ _ _ _ _ _ PySem.F.plainAttrs_list PySem.F.slot_list_append PySem.F.type_list_append mt_append (pe_ix ix_list (va nm_scanned 3) (pe_un un_neg pe_int) (fun _ _=>rfl)) (pa_c (va nm_scanned 4) pa_nil) (by rfl) (by rfl) (by rfl) (by rfl) (by rfl)) (by rfl))))))) (by intro _;rfl)) (@pss_cons _ _ _ _ _ (@ps_if _ _ _ _ _ _ _ _ (pt_truth (va nm_scanned 2) (fun _=>rfl)) (pss_one ps_never) pss_nil) (@pss_one _ _ _ (@ps_ret _ _ _ _ (pe_ix ix_list (va nm_scanned 3) pe_int (fun _ _=>rfl))))))))),?_⟩
 try dsimp only[cx_K]
 try dsimp only[cx_K,cx_w]
 refine seq_cut5 ?_
 intro N1 N2 N3 N4 N5 c1 c2 c3 c4 c5
 fail "R"
 intro H1 s1
 fail "R"
 intro o ho
 have s2:=same_new ho (.lst [])
 have h2o:upd H1 o (.lst []) o=some (.lst []):=upd_same
 generalize upd H1 o (.lst [])=H2 at s2 h2o⊢
 fail "R"
 intro h0 hh0
 have s3:=same_new hh0 (.lst [])
 have h3h:upd H2 h0 (.lst []) h0=some (.lst []):=upd_same
 have h3o:=s3 _ _ h2o
 generalize upd H2 h0 (.lst [])=H3 at s3 h3h h3o⊢
 fail "R"
 intro hl hhl
 have s4:=same_new hhl (.lst [.ref h0])
 have h4l:upd H3 hl (.lst [.ref h0]) hl=some (.lst [.ref h0]):=upd_same
 have h4h:=s4 _ _ h3h
 have h4o:=s4 _ _ h3o
 generalize upd H3 hl (.lst [.ref h0])=H4 at s4 h4l h4h h4o⊢
 fail "R"
 intro p H5 s5 hp h5
 have hp1:H1 p=none:=((s2.trans s3).trans s4).free hp
 have sB:Same H1 (upd H1 p (.lst (wV bb.toks))):=same_new hp1 _
 have hBp:upd H1 p (.lst (wV bb.toks)) p=some (.lst (wV bb.toks)):=upd_same
 have hB5:Same (upd H1 p (.lst (wV bb.toks))) H5:=fun b u e=>by
  by_cases hb:b=p
  ·subst hb
   rw[upd_same]at e
   cases e
   exact h5
  ·rw[upd_ne hb]at e
   exact s5 _ _ (s4 _ _ (s3 _ _ (s2 _ _ e)))
 have hBn:∀x u,H4 x=some u->H1 x=none->upd H1 p (.lst (wV bb.toks)) x=none:=fun x u e1 e2=>by
  have hx:x≠p:=fun z=>by rw[z,hp]at e1;cases e1
  rw[upd_ne hx]
  exact e2
 generalize upd H1 p (.lst (wV bb.toks))=B at sB hBp hB5 hBn
 have p1:StAt K Vl B o hl [h0] [(0,[])] H5:={
  same:=hB5
  new:=fun x hx=>by
   rcases List.mem_cons.mp hx with rfl|hx
   ·exact hBn _ _ h4o ho
   rcases List.mem_cons.mp hx with rfl|hx
   ·exact hBn _ _ h4l ((s2.trans s3).free hhl)
   ·rw[List.mem_singleton.mp hx];exact hBn _ _ h4h (s2.free hh0)
  nd:=by
   have n1:o≠hl:=fun e=>by rw[←e,h3o]at hhl;cases hhl
   have n2:o≠h0:=fun e=>by rw[←e,h2o]at hh0;cases hh0
   have n3:hl≠h0:=fun e=>by rw[e,h3h]at hhl;cases hhl
   simp[n1,n2,n3]
  op:=s5 _ _ h4o
  hd:=s5 _ _ h4l
  fr:=⟨h0,[],[],[],rfl,s5 _ _ h4h,.nil,rfl,Nat.zero_le _,rfl⟩
  ok:=fun f hf=>nomatch hf}
 have i0:ScI K Vl bb B o hl 0 H5:=⟨[h0],[(0,[])],by rw[List.drop_zero,brun_w bb hb];rfl,p1,Nat.le_refl _,fun f hf=>by rw[List.mem_singleton.mp hf];exact Nat.le_refl _⟩
 have htl:bb.toks.length<=60000:=Nat.le_trans (toks_le bb hb) (by omega)
 fail "R"
 refine for_list (K:=K) (xs:=wV bb.toks) (fun i σ H6=>(∃y z,σ=[some (.str (ofL bb.txt)),some (.ref gK),some (.ref o),some (.ref hl),y,z])/\ScI K Vl bb B o hl i H6) ⟨⟨_,_,rfl⟩,i0⟩ ?_ ?_ ?_
 ·rintro i σ H6 hi ⟨_,⟨_,_,_,p6,_⟩⟩
  exact SqL.of (p6.same _ _ hBp)
 ·rintro i x σ H6 hx ⟨⟨_,_,rfl⟩,⟨hs,st,hrun,p6,hlst,hne⟩⟩
  unfold wV at hx
  rw[List.getElem?_map]at hx
  obtain⟨w6,hw6,rfl⟩:=Option.map_eq_some_iff.mp hx
  have hil:=(List.getElem?_eq_some_iff.mp hw6).1
  have hdr:bb.toks.drop i=w6::bb.toks.drop (i+1):=by rw[List.drop_eq_getElem_cons hil,(List.getElem?_eq_some_iff.mp hw6).2]
  rw[hdr]at hrun
  have hrun2:(stp st w6).bind (fun st'=>brun st' (bb.toks.drop (i+1)))=some [(0,[bb])]:=hrun
  cases est:stp st w6 with
  |none=>rw[est]at hrun2;cases hrun2
  |some st' =>
  rw[est,Option.bind_some]at hrun2
  have hgd:=brun_back hG hrun2 (fun f hf x hx=>by rw[List.mem_singleton.mp hf]at hx;rw[List.mem_singleton.mp hx];exact hg)
  obtain⟨o6,xs6,s6',rfl,hcase⟩:=stp_inv est
  obtain⟨h6,hs6,vs6,ts6,rfl,f1,f2,f3,f4,f5⟩:=p6.fr
  obtain⟨n1,n2,n3,n4⟩:=nd3 p6.nd
  have lhs:=f5.len
  rcases hcase with⟨hw,rfl⟩|⟨hw,hw2,o7,ys7,s7',rfl,rfl,rfl⟩|⟨hw,hw2,rfl⟩
  ·obtain⟨c,hc,rfl⟩:∃c,(c=40\/c=91)/\w6=[c]:=by
    rcases hw with rfl|rfl
    ·exact⟨40,.inl rfl,rfl⟩
    ·exact⟨91,.inr rfl,rfl⟩
   have hlk:(cofV.lookup (ofL [c])).isSome=true:=by rcases hc with rfl|rfl<;>decide +kernel
   have h6o:=p6.op
   have h6h:=p6.hd
   have lo:(opsV ((o6,xs6)::s6')).length<sizeLine:=by
    have:(opsV ((o6,xs6)::s6')).length<=60001:=by unfold opsV;rw[List.length_reverse,List.length_map,List.length_dropLast];omega
    rw[sizeLine_eq]
    omega
   have lh:((h6::hs6).reverse.map V.ref).length<sizeLine:=by
    rw[List.length_map,List.length_reverse,List.length_cons,lhs,sizeLine_eq]
    have:=hlst
    rw[List.length_cons]at this
    omega
   have h7h:upd H6 o (.lst (opsV ((o6,xs6)::s6')++[.str (ofL [c])])) hl=some (.lst ((h6::hs6).reverse.map V.ref)):=by rw[upd_ne (Ne.symm n1)];exact h6h
   fail "R"
   refine ite2 (fun _=>?_) (fun z=>absurd hlk z)
   fail "R"
   intro q hq
   have qo:q≠o:=fun e=>by rw[e,upd_same]at hq;cases hq
   have hq6:H6 q=none:=by rw[upd_ne qo]at hq;exact hq
   have h8h:=same_new hq (.lst []) _ _ h7h
   fail "R"
   exact⟨q::h6::hs6,_,hrun2,p6.opn (by simp) hc hq6,by rw[List.length_cons];omega,fun f hf=>(List.mem_cons.mp hf).elim (fun e=>by rw[e];exact Nat.zero_le _) fun h=>Nat.le_succ_of_le (hne f h)⟩
  ·have hc:=p6.ok (o6,xs6) (.head _)
   have hc:o6=40\/o6=91:=hc
   have hlk:¬(cofV.lookup (ofL [clo o6])).isSome=true:=by rw[cof_none hw];simp
   have hin:inV (.str (ofL [clo o6])) [.str ")",.str "]"]=true:=by rcases hc with rfl|rfl<;>decide +kernel
   have hlk2:cofV.lookup (⟨#[o6]⟩:Str)=some (.str (ofL [clo o6])):=by rcases hc with rfl|rfl<;>decide +kernel
   fail "R"
   refine ite2 (fun z=>absurd z hlk) (fun _=>?_)
   fail "R"
   intro t ht
   have s7:=same_new ht (.tup [.str ")",.str "]"])
   have h7:upd H6 t (.tup [.str ")",.str "]"]) t=some (.tup [.str ")",.str "]"]):=upd_same
   have p7:=p6.up s7
   generalize upd H6 t (.tup [.str ")",.str "]"])=H7 at s7 h7 p7⊢
   fail "R"
   refine ite2 (fun _=>?_) (fun z=>absurd hin z)
   have h7o:=p7.op
   have h7h:=p7.hd
   have eO:opsV ((o6,xs6)::(o7,ys7)::s7')=opsV ((o7,ys7)::s7')++[.str ⟨#[o6]⟩]:=by
    unfold opsV
    rw[List.dropLast_cons_of_ne_nil (by simp),List.map_cons,List.reverse_cons]
   have eH:(h6::hs6).reverse.map V.ref=hs6.reverse.map V.ref++[.ref h6]:=by rw[List.reverse_cons,List.map_append];rfl
   rw[eO]at h7o
   rw[eH]at h7h
   obtain⟨h8,hs8,vs8,ts8,rfl,g1,g2,g3,g4,g5⟩:=f5
   have eH8:(h8::hs8).reverse.map V.ref=hs8.reverse.map V.ref++[.ref h8]:=by rw[List.reverse_cons,List.map_append];rfl
   have hla:atI (opsV ((o7,ys7)::s7')++[V.str ⟨#[o6]⟩]) (-1)=some (V.str ⟨#[o6]⟩):=at_last (n:=(opsV ((o7,ys7)::s7')).length) (by simp) (by simp)
   have hnem:(opsV ((o7,ys7)::s7')++[V.str ⟨#[o6]⟩]).isEmpty=false:=by simp
   have eD:(hs8.reverse.map V.ref++[V.ref h8])=(h8::hs8).reverse.map V.ref:=eH8.symm
   have eDl:((h8::hs8).reverse.map V.ref++[V.ref h6]).dropLast=hs8.reverse.map V.ref++[V.ref h8]:=by rw[List.dropLast_concat,eH8]
   have eOl:(opsV ((o7,ys7)::s7')++[V.str ⟨#[o6]⟩]).dropLast=opsV ((o7,ys7)::s7'):=List.dropLast_concat
   have q1:((h8::hs8).reverse.map V.ref++[V.ref h6])[((h8::hs8).reverse.map V.ref++[V.ref h6]).length-1]?=some (.ref h6):=by simp
   have q2:(opsV ((o7,ys7)::s7')++[V.str ⟨#[o6]⟩])[(opsV ((o7,ys7)::s7')++[V.str ⟨#[o6]⟩]).length-1]?=some (.str ⟨#[o6]⟩):=by simp
   have q3:atI ((h8::hs8).reverse.map V.ref++[V.ref h6]).dropLast (-1)=some (.ref h8):=by rw[eDl];exact at_last (n:=(hs8.reverse.map V.ref).length) (by simp) (by simp)
   have m6:h6∈h6::h8::hs8:=.head _
   have m8:h8∈h6::h8::hs8:=.tail _ (.head _)
   have q4:upd H7 hl (.lst ((h8::hs8).reverse.map V.ref++[V.ref h6]).dropLast) o=some (.lst (opsV ((o7,ys7)::s7')++[V.str ⟨#[o6]⟩])):=by rw[upd_ne n1];exact h7o
   have q5:upd H7 hl (.lst ((h8::hs8).reverse.map V.ref++[V.ref h6]).dropLast) h8=some (.lst vs8):=by rw[upd_ne (Ne.symm (n3 _ m8))];exact s7 _ _ g1
   have pp:=p7.pop (by simp)
   have k1:Kt H7 (upd H7 hl (.lst ((h8::hs8).reverse.map V.ref))):=Kt.lst h7h _
   have k2:Kt _ (upd (upd H7 hl (.lst ((h8::hs8).reverse.map V.ref))) o (.lst (opsV ((o7,ys7)::s7')))):=Kt.lst (by rw[upd_ne n1];exact h7o) _
   have r6:=((f2.kt (Kt.same s7)).kt k1).kt k2
   have u6:upd (upd H7 hl (.lst ((h8::hs8).reverse.map V.ref))) o (.lst (opsV ((o7,ys7)::s7'))) h6=some (.lst vs6):=by rw[upd_ne (Ne.symm (n2 _ m6)),upd_ne (Ne.symm (n3 _ m6))];exact s7 _ _ f1
   have u8:upd (upd H7 hl (.lst ((h8::hs8).reverse.map V.ref))) o (.lst (opsV ((o7,ys7)::s7'))) h8=some (.lst vs8):=by rw[upd_ne (Ne.symm (n2 _ m8)),upd_ne (Ne.symm (n3 _ m8))];exact s7 _ _ g1
   have gg:Gd (.g o6 xs6):=hgd _ (.head _) _ (List.mem_append_right _ (.head _))
   have eDl':((h8::hs8).reverse.map V.ref++[V.ref h6]).dropLast=(h8::hs8).reverse.map V.ref:=by rw[eDl,eH8]
   fail "R"
   refine ifF (by simp) ?_
   fail "R"
   refine ifF (by simp) ?_
   fail "R"
   ·rw[eDl',eOl]
    exact u6
   refine⟨by rw[eDl',eOl];exact r6,f3,fun v H8 t8 s8 rt vt=>?_⟩
   rw[eDl',eOl]at s8
   have hv8:=s8 _ _ u8
   have l8:vs8.length<=i:=by rw[g2.length,g3.len];exact hne (o7,ys7) (.tail _ (.head _))
   have l8s:vs8.length<sizeLine:=by rw[sizeLine_eq];omega
   have p8:=pp.up s8
   fail "R"
   refine⟨h8::hs8,_,hrun2,p8.app hv8 rt vt (by omega),?_,fun f hf=>?_⟩
   ·have:=hlst
    simp only[List.length_cons]at this⊢
    omega
   ·rcases List.mem_cons.mp hf with rfl|hf
    ·have:=hne (o7,ys7) (.tail _ (.head _))
     show(ys7++[Bw.g o6 xs6]).length<=i+1
     rw[List.length_append]
     exact Nat.succ_le_succ this
    ·exact Nat.le_succ_of_le (hne f (.tail _ (.tail _ hf)))
  ·have hlk:¬(cofV.lookup (ofL w6)).isSome=true:=by rw[cof_none hw];simp
   have hin:=end_none hw2
   have h6h:=p6.hd
   have eH:(h6::hs6).reverse.map V.ref=hs6.reverse.map V.ref++[.ref h6]:=by rw[List.reverse_cons,List.map_append];rfl
   have hla:atI ((h6::hs6).reverse.map V.ref) (-1)=some (.ref h6):=by rw[eH];exact at_last (n:=(hs6.reverse.map V.ref).length) (by simp) (by simp)
   have l6:vs6.length<=i:=by rw[f2.length,f3.len];exact hne (o6,xs6) (.head _)
   have l6s:vs6.length<sizeLine:=by rw[sizeLine_eq];omega
   fail "R"
   refine ite2 (fun z=>absurd z hlk) (fun _=>?_)
   fail "R"
   intro t ht
   have s7:=same_new ht (.tup [.str ")",.str "]"])
   have h7:upd H6 t (.tup [.str ")",.str "]"]) t=some (.tup [.str ")",.str "]"]):=upd_same
   have p7:=p6.up s7
   have h7h:=s7 _ _ h6h
   have h7c:=s7 _ _ f1
   generalize upd H6 t (.tup [.str ")",.str "]"])=H7 at s7 h7 p7 h7h h7c⊢
   fail "R"
   refine ite2 (fun z=>absurd (show inV (.str (ofL w6)) [.str ")",.str "]"]=true from z) (by rw[hin];simp)) (fun _=>?_)
   fail "R"
   refine⟨h6::hs6,_,hrun2,p7.app h7c .s (hA w6) (by omega),?_,fun f hf=>?_⟩
   ·have:=hlst
    simp only[List.length_cons]at this⊢
    omega
   ·rcases List.mem_cons.mp hf with rfl|hf
    ·have:=hne (o6,xs6) (.head _)
     show(xs6++[Bw.a w6]).length<=i+1
     rw[List.length_append]
     exact Nat.succ_le_succ this
    ·exact Nat.le_succ_of_le (hne f (.tail _ hf))
 ·rintro σ H6 ⟨⟨_,_,rfl⟩,⟨hs,st,hrun,p6,hlst,hne⟩⟩
  rw[show(wV bb.toks).length=bb.toks.length by unfold wV;rw[List.length_map],List.drop_length]at hrun
  have est:st=[(0,[bb])]:=Option.some.inj hrun
  subst est
  obtain⟨h6,hs6,vs6,ts6,rfl,f1,f2,f3,f4,f5⟩:=p6.fr
  obtain⟨t6,q6,rfl,v6,e6⟩:=f3
  have e6:q6=[]:=e6
  subst e6
  obtain rfl:hs6=[]:=f5
  obtain⟨v7,us7,rfl,r7,r8⟩:=f2.inv
  obtain rfl:=r8.inv0
  have h6o:H6 o=some (.lst []):=p6.op
  have h6h:H6 hl=some (.lst [.ref h6]):=p6.hd
  fail "R"
  exact k _ _ _ t6 ((s1.trans sB).trans p6.same) f1 r7 v6
theorem nm_scanned_one:Nm ["text","close","found"] (defScope s_scanned_one):=by decide +kernel
theorem lm_scanned_one:Lm ["text","close","found"] (defScope s_scanned_one):=by decide +kernel
theorem sc_scanned_one:FnScope ["text","close","found"] ["text","close"] (defScope s_scanned_one):=⟨rfl,rfl,rfl,by decide +kernel,rfl,by decide +kernel,by decide +kernel⟩
theorem ok_scan1{f:Addr}{fd:FuncData}{jc:Nat}(F:Fun K "scanned_one" "scanned_one" s_scanned_one f fd)(SC:Has P w K mg base "scanned" jc ["text","close"] (spScan K Gd Vl gK) gC cfd)(z_len:mg "len"=none):FnOk P w K mg base CX0 (jc+1) f fd ["text","close"] (spScan1 K Gd Vl gK):=by
 refine F.ok sc_scanned_one (fun vs H Q E h=>?_) (fun cdv A outer s H vs Q E hr h=>?_)
 ·obtain⟨_,rfl,_⟩:=h
  rfl
 obtain⟨b,rfl,hb,hg,hlen,k⟩:=h
 refine⟨_,(@pss_cons _ _ _ _ _ (@sa _ _ _ _ _ _ sc_scanned_one.nd lm_scanned_one 2 (@pe_call _ _ _ _ _ _ _ _ _ _ _ _ _ _ _ _ SC.ok (hr.mono (by omega)) (by show _=_;kernel_rfl) SC.at' SC.kp SC.bd .nil pass0 (@pa_c _ _ _ _ _ (va nm_scanned_one 0) (pa_c (va nm_scanned_one 1) pa_nil) (by rfl)) (by decide) (by rfl) (by rfl)) (by rfl) (by kernel_rfl) (by exact .inl rfl)) (@pss_cons _ _ _ _ _ (@ps_if _ _ _ _ _ _ _ _ (@pt_cmpR _ _ _ _ _ _ _ _ op_ne (@pe_callB _ _ _ _ _ _ _ _ _ call_len_seq (by show _=_;kernel_rfl) z_len PySem.boot_len (pa_c (va nm_scanned_one 2) pa_nil) (by decide) (by decide) (by rfl) (by rfl)) pe_int (nomark _)) (pss_one ps_never) pss_nil) (@pss_one _ _ _ (@ps_ret _ _ _ _ (pe_ix ix_list (va nm_scanned_one 2) pe_int (fun _ _=>rfl)))))),?_⟩
 try dsimp only[cx_K]
 try dsimp only[cx_K,cx_w]
 fail "R"
 intro p v H1 t s1 h1 r1 v1
 fail "R"
 exact k _ _ t s1 r1 v1
end
abbrev letS:Str:="abcdefghijklmnopqrstuvwxyz"
abbrev figS:Str:="0123456789"
def keptS:List Str:=["num","row","kind","def","more","first","others","long","match","if","let","fold","call","gap","in","world","fault","left"]
abbrev keptV:List V:=keptS.map V.str
def digs(n:Int):List Nat:=(Str.ofString (toString n)).cps.toList
def low(c:Nat):Prop:=97<=c/\c<=122
def nmOk(x:Str):Prop:=1<=x.length/\x.length<=6/\(∀c∈x.cps.toList,low c)/\x∉keptS
def dig(c:Nat):Bool:=decide (c∈figS.cps.toList)
def figB(l:List Nat)(m:Int):Bool:=if 1<=l.length/\(l.length:Int)<=m then(if(l.map dig).all id=true then(decide (l.length=1)||decide (l[0]?≠some 48))else false)else false
theorem digs_small:∀m:Nat,m<100->(1<=((Nat.toDigits 10 m).map Char.toNat).length/\((Nat.toDigits 10 m).map Char.toNat).length<=2/\(∀c∈(Nat.toDigits 10 m).map Char.toNat,48<=c/\c<=57)/\(((Nat.toDigits 10 m).map Char.toNat).length=1\/((Nat.toDigits 10 m).map Char.toNat)[0]?≠some 48)):=by
 decide +kernel
theorem digs_ok{n:Int}(h:0<=n/\n<100):1<=(digs n).length/\(digs n).length<=2/\(∀c∈digs n,48<=c/\c<=57)/\((digs n).length=1\/(digs n)[0]?≠some 48):=by
 obtain⟨m,rfl⟩:=Int.eq_ofNat_of_zero_le h.1
 unfold digs
 rw[PySem.W.KIN.signs_num]
 exact digs_small m (by omega)
theorem fig_in:∀c:Nat,48<=c/\c<=57->c∈figS.cps.toList:=by
 intro c h
 rw[show figS.cps.toList=(List.range 10).map (·+48) by decide +kernel]
 exact List.mem_map.mpr ⟨c-48,List.mem_range.mpr (by omega),by omega⟩
theorem fig_out:∀c:Nat,c∈figS.cps.toList->48<=c/\c<=57:=by
 intro c h
 rw[show figS.cps.toList=(List.range 10).map (·+48) by decide +kernel]at h
 obtain⟨i,hi,rfl⟩:=List.mem_map.mp h
 have:=List.mem_range.mp hi
 omega
theorem low_in:∀c:Nat,low c->c∈letS.cps.toList:=by
 intro c h
 rw[show letS.cps.toList=(List.range 26).map (·+97) by decide +kernel]
 unfold low at h
 exact List.mem_map.mpr ⟨c-97,List.mem_range.mpr (by omega),by omega⟩
theorem not_kept{x:Str}(h:x∉keptS):inV (.str x) keptV=false:=by
 unfold inV
 rw[List.any_eq_false]
 intro y hy e
 obtain⟨z,hz,rfl⟩:=List.mem_map.mp hy
 have:z=x:=eq_of_beq (show(z == x)=true from e)
 exact h (this▸hz)
theorem kept_flat:keptV.all flatV=true:=by decide +kernel
theorem all_true{f:Nat->Bool}:∀{l:List Nat},(∀a∈l,f a=true)->(l.map f).all id=true
 | [],_=>rfl
 |a::r,h=>by
  rw[List.map_cons,List.all_cons,all_true fun b hb=>h b (.tail _ hb),Bool.and_true]
  exact h a (.head _)
theorem figB_digs{n:Int}(h:0<=n/\n<100):figB (digs n) 2=true:=by
 obtain⟨d1,d2,d3,d4⟩:=digs_ok h
 unfold figB
 rw[if_pos ⟨d1,by omega⟩,if_pos (all_true (f:=dig) fun a ha=>decide_eq_true (fig_in a (d3 a ha)))]
 rcases d4 with e|e
 ·rw[decide_eq_true e];rfl
 ·rw[decide_eq_true e,Bool.or_true]
theorem figB_first{a:Nat}{l:List Nat}{m:Int}(h:¬(48<=a/\a<=57)):figB (a::l) m=false:=by
 unfold figB
 have:((a::l).map dig).all id=false:=by
  rw[List.map_cons,List.all_cons]
  have:dig a=false:=decide_eq_false fun z=>h (fig_out a z)
  rw[this]
  rfl
 rw[this]
 split<;>rfl
end G08
namespace L2
open PySem PySem.Spec PyProof.Rows
theorem starts_one(l:List Nat)(k:Nat):Txt.startswith (ofL l) ⟨#[k]⟩=decide (l[0]?=some k):=by
 have h:=StrLaws.subAt_one (ofL l) k 0
 rw[toList_ofL]at h
 unfold Txt.startswith
 by_cases e:l[0]?=some k
 ·have:=h.mpr e
  rw[decide_eq_true e,decide_eq_true this.1,this.2]
  rfl
 ·rw[decide_eq_false e]
  cases h1:decide (0+(⟨#[k]⟩:Str).length<=(ofL l).length)with
  |false=>rfl
  |true =>
   cases h2:Builtin.Str.subAt (ofL l) ⟨#[k]⟩ 0 with
   |false=>rfl
   |true=>exact absurd (h.mp ⟨of_decide_eq_true h1,h2⟩) e
theorem slice_tail{a:Nat}{l:List Nat}:Txt.slice (ofL (a::l)) (some 1) none=ofL l:=by
 show StrLaws.sliceText (ofL (a::l)) (some 1) none=_
 rw[StrLaws.sliceText_from ⟨by decide,by rw[toList_ofL];show(1:Int)<=((l.length+1:Nat):Int);omega⟩,toList_ofL]
 show ofL (((a::l).drop 1).take _)=ofL l
 rw[List.drop_one,List.tail_cons,List.take_of_length_le]
 show l.length<=(((l.length+1:Nat):Int) - 1).toNat
 omega
theorem slice_init{l:List Nat}(h:l≠[]):Txt.slice (ofL l) none (some (-1))=ofL l.dropLast:=by
 have hl:1<=l.length:=by cases l with|nil=>exact absurd rfl h|cons=>exact Nat.le_add_left 1 _
 show StrLaws.sliceText (ofL l) none (some (-1))=_
 rw[StrLaws.sliceText_to_neg (by decide) (by rw[ofL_len];omega),toList_ofL,ofL_len]
 show ofL ((l.drop 0).take ((-1:Int)+(l.length:Int) - 0).toNat)=_
 rw[List.drop_zero,List.dropLast_eq_take,show((-1:Int)+(l.length:Int) - 0).toNat=l.length-1 by omega]
section
variable {X:Cx}
theorem call_isSl(K:PySem.W.Frag)(hK:X.K=K):CallR X (.builtin "isinstance") (fun xs H Q=>∃x,xs=[x,.ty "str"]/\((∃p ys,x=.ref p/\SqL K H p ys/\Q (.bl false) H)\/∃z,x=.str z/\Q (.bl true) H)):=by
 subst hK
 intro pins s σ H xs us Q I r h
 obtain⟨x,rfl,h⟩:=h
 obtain⟨u,w',rfl,r1,r2⟩:=vals2 r
 obtain rfl:w'=Value.type "str":=r2
 rcases h with⟨p,ys,rfl,hq,q⟩|⟨z,rfl,q⟩
 ·obtain rfl:u=Value.ref p:=r1
  obtain⟨its,rv,pl,hz⟩:=I.list hq
  obtain⟨o,ho,hc,hd⟩:=pl.isList
  exact IsiPair.list_str ho hc ⟨.bl false,H,I.tok _,rfl,q⟩
 ·obtain⟨t,rfl⟩:=r1
  exact IsiPair.str_str ⟨.bl true,H,I.tok _,rfl,q⟩
end
end L2
namespace G08
open PySem L2
def spIsName:Sp:=fun vs H Q _=>∃x:Str,vs=[.str x]/\nmOk x/\∀H',Same H H'->Q (.bl true) H'
def spIsFig:Sp:=fun vs H Q _=>∃(x:Str) (m:Int),vs=[.str x,.int m]/\x.length<=3000/\∀H',Same H H'->Q (.bl (figB x.cps.toList m)) H'
def spNameOf:Sp:=fun vs H Q _=>∃x:Str,vs=[.str x]/\nmOk x/\∀H',Same H H'->Q (.str x) H'
def spNumB:Sp:=fun vs H Q _=>∃(n:Int) (a:Nat),vs=[.str (ofL (a::digs n))]/\(0<=n/\n<100)/\∀H',Same H H'->Q (.int n) H'
section
variable {P:Program}{w:World}{K:PySem.W.Frag}{mg:Str->Option Value}{base:Heap}{aK gI gF gN gB gC gK gS gR gO:Addr}{tkL tkF:Tok}{ifd ffd nfd bfd cfd kfd sfd rfd ofd:FuncData}
theorem nm_is_name:Nm ["text"] (defScope s_is_name):=by decide +kernel
theorem sc_is_name:FnScope ["text"] ["text"] (defScope s_is_name):=⟨rfl,rfl,rfl,by decide +kernel,rfl,by decide +kernel,by decide +kernel⟩
theorem ok_isname{f:Addr}{fd:FuncData}(F:Fun K "is_name" "is_name" s_is_name f fd)(z_len:mg "len"=none)(z_all:mg "all"=none)(mK:mg "KEPT"=some (.ref aK))(hK:∀H,SqT K H aK keptV)(mL:mg "SMALL_LETTERS"=some (.str letS tkL)):FnOk P w K mg base CX0 1 f fd ["text"] spIsName:=by
 refine F.ok sc_is_name (fun vs H Q E h=>?_) (fun cdv A outer s H vs Q E hr h=>?_)
 ·obtain⟨_,rfl,_⟩:=h
  rfl
 obtain⟨x,rfl,⟨x1,x2,x3,x4⟩,k⟩:=h
 refine⟨_,(@pss_one _ _ _ (@ps_ret _ _ _ _ (@pe_and _ _ _ _ _ _ _ (@pe_chain _ _ _ _ _ _ _ _ _ _ _ _ op_le op_le pe_int (@pe_callB _ _ _ _ _ _ _ _ _ call_len_str (by show _=_;kernel_rfl) z_len PySem.boot_len (pa_c (va nm_is_name 0) pa_nil) (by decide) (by decide) (by rfl) (by rfl)) pe_int (by with_unfolding_all rfl)) (@pe_and _ _ _ _ _ _ _ (pe_cmpR op_notIn_seq (va nm_is_name 0) (pe_glob (v:=.ref aK) (by show _=_;kernel_rfl) mK rfl) (by with_unfolding_all rfl)) (@pe_one _ _ _ _ _ (@pe_callB _ _ _ _ _ _ _ _ _ (call_all rfl) (by show _=_;kernel_rfl) z_all PyProof.Rows.boot_all (@pa_c _ _ _ _ _ (@pe_compC _ _ _ _ _ _ _ _ _ _ _ (defScope s_is_name) ["text"] ["sign"] [] rfl rfl rfl (by decide +kernel) (pi_str (va nm_is_name 0)) (fun _ _ _ _=>(pg_name (i:=0) (show(["sign"]:List Str).Nodup by decide +kernel) rfl (Or.inl (by kernel_rfl)) (by first|exact .inl rfl|exact .inr (by kernel_rfl)))) (fun _ _ _ _=>pifs_nil) (fun _ _ _ _=>(pe_cmpR op_in_sign (va (show Nm ["sign"] _ by show _=_;kernel_rfl) 0) (pe_glob (v:=.str letS) (by show _=_;kernel_rfl) mL ⟨_,rfl⟩) (by with_unfolding_all rfl))) (by intro _;rfl)) pa_nil (by rfl)) (by decide) (by decide) (by rfl) (by rfl))))))),?_⟩
 try dsimp only[cx_K]
 try dsimp only[cx_K]
 have hz:x.length<=sizeLine:=small (by omega)
 have b1:decide ((1:Int)<=(x.length:Int))=true:=decide_eq_true (by omega)
 have b2:decide ((x.length:Int)<=6)=true:=decide_eq_true (by omega)
 have b3:=not_kept x4
 have b4:=hK H
 have b5:=kept_flat
 fail "R"
 refine ifT b1 ?_
 fail "R"
 refine ifT b2 ?_
 fail "R"
 refine ifT (by rw[b3];rfl) ?_
 fail "R"
 refine comp_mapS (f:=fun c=>.bl (decide (c∈letS.cps.toList))) (fun _ _ _ _=>rfl) (fun a ha H1 K1 s1 q=>?_) rfl hz (fun p hp=>?_)
 ·fail "R"
  exact q
 have e:(x.cps.toList.map fun c=>V.bl (decide (c∈letS.cps.toList)))=(x.cps.toList.map fun c=>decide (c∈letS.cps.toList)).map V.bl:=by rw[List.map_map];rfl
 rw[e]
 fail "R"
 rw[all_true fun a ha=>decide_eq_true (low_in a (x3 a ha))]
 exact k _ (same_new hp _)
theorem nm_is_figures:Nm ["text","most"] (defScope s_is_figures):=by decide +kernel
theorem sc_is_figures:FnScope ["text","most"] ["text","most"] (defScope s_is_figures):=⟨rfl,rfl,rfl,by decide +kernel,rfl,by decide +kernel,by decide +kernel⟩
theorem ok_isfig{f:Addr}{fd:FuncData}(F:Fun K "is_figures" "is_figures" s_is_figures f fd)(z_len:mg "len"=none)(z_all:mg "all"=none)(mFi:mg "FIGURES"=some (.str figS tkF)):FnOk P w K mg base CX0 1 f fd ["text","most"] spIsFig:=by
 refine F.ok sc_is_figures (fun vs H Q E h=>?_) (fun cdv A outer s H vs Q E hr h=>?_)
 ·obtain⟨_,_,rfl,_⟩:=h
  rfl
 obtain⟨x,m,rfl,hll,k⟩:=h
 obtain⟨l,rfl⟩:∃l,x=ofL l:=⟨x.cps.toList,(ofL_toList x).symm⟩
 rw[toList_ofL]at k
 refine⟨_,(@pss_cons _ _ _ _ _ (@ps_if _ _ _ _ _ _ _ _ (PW.pt (@pw_or _ _ _ _ _ _ _ (@pt_not _ _ _ _ (@pt_chain _ _ _ _ _ _ _ _ _ _ _ _ op_le op_le pe_int (@pe_callB _ _ _ _ _ _ _ _ _ call_len_str (by show _=_;kernel_rfl) z_len PySem.boot_len (pa_c (va nm_is_figures 0) pa_nil) (by decide) (by decide) (by rfl) (by rfl)) (va nm_is_figures 1) (by with_unfolding_all rfl))) (@pw_or1 _ _ _ _ (@pt_not _ _ _ _ (@pt_val _ _ _ (@pe_callB _ _ _ _ _ _ _ _ _ (call_all rfl) (by show _=_;kernel_rfl) z_all PyProof.Rows.boot_all (@pa_c _ _ _ _ _ (@pe_compC _ _ _ _ _ _ _ _ _ _ _ (defScope s_is_figures) ["text","most"] ["sign"] [] rfl rfl rfl (by decide +kernel) (pi_str (va nm_is_figures 0)) (fun _ _ _ _=>(pg_name (i:=0) (show(["sign"]:List Str).Nodup by decide +kernel) rfl (Or.inl (by kernel_rfl)) (by first|exact .inl rfl|exact .inr (by kernel_rfl)))) (fun _ _ _ _=>pifs_nil) (fun _ _ _ _=>(pe_cmpR op_in_sign (va (show Nm ["sign"] _ by show _=_;kernel_rfl) 0) (pe_glob (v:=.str figS) (by show _=_;kernel_rfl) mFi ⟨_,rfl⟩) (by with_unfolding_all rfl))) (by intro _;rfl)) pa_nil (by rfl)) (by decide) (by decide) (by rfl) (by rfl)) (by intro _;rfl)))))) (pss_one (ps_ret pe_bl)) pss_nil) (@pss_one _ _ _ (@ps_ret _ _ _ _ (@pe_or _ _ _ _ _ _ _ (@pe_cmpR _ _ _ _ _ _ _ _ op_eq (@pe_callB _ _ _ _ _ _ _ _ _ call_len_str (by show _=_;kernel_rfl) z_len PySem.boot_len (pa_c (va nm_is_figures 0) pa_nil) (by decide) (by decide) (by rfl) (by rfl)) pe_int (nomark _)) (@pe_one _ _ _ _ _ (@pe_cmpR _ _ _ _ _ _ _ _ op_ne (pe_ix ix_str (va nm_is_figures 0) pe_int (fun _ _=>rfl)) pe_str (nomark _))))))),?_⟩
 try dsimp only[cx_K]
 try dsimp only[cx_K]
 have hl:=ofL_len l
 have hz:(ofL l).length<=sizeLine:=big (by omega)
 unfold figB at k
 refine seq_cut ?_
 intro N1 c1
 fail "R"
 refine ite2 (fun b1=>?_) (fun b1=>?_)
 ·have b1':(1:Int)<=((ofL l).length:Int):=of_decide_eq_true b1
  fail "R"
  refine ite2 (fun b2=>?_) (fun b2=>?_)
  ·have b2':¬((ofL l).length:Int)<=m:=fun z=>by rw[decide_eq_true z]at b2;cases b2
   rw[if_neg (by omega)]at k
   fail "R"
   exact k _ (Same.refl _)
  have b2':((ofL l).length:Int)<=m:=by
   by_cases z:((ofL l).length:Int)<=m
   ·exact z
   ·rw[decide_eq_false z]at b2;exact absurd rfl b2
  rw[if_pos (by omega)]at k
  fail "R"
  refine comp_mapS (f:=fun c=>.bl (dig c)) (fun _ _ _ _=>rfl) (fun a ha H1 K1 s1 q=>?_) rfl hz (fun p hp=>?_)
  ·fail "R"
   exact q
  rw[toList_ofL]
  have e:(l.map fun c=>V.bl (dig c))=(l.map dig).map V.bl:=by rw[List.map_map];rfl
  rw[e]
  have s1:=same_new hp (.lst ((l.map dig).map V.bl))
  have h1:upd H p (.lst ((l.map dig).map V.bl)) p=some (.lst ((l.map dig).map V.bl)):=upd_same
  generalize upd H p (.lst ((l.map dig).map V.bl))=H1 at s1 h1⊢
  fail "R"
  refine ite2 (fun b3=>?_) (fun b3=>?_)
  ·have b3':¬(l.map dig).all id=true:=fun z=>by rw[z]at b3;cases b3
   rw[if_neg b3']at k
   fail "R"
   exact k _ s1
  have b3':(l.map dig).all id=true:=by
   cases z:(l.map dig).all id with
   |true=>rfl
   |false=>rw[z]at b3;exact absurd rfl b3
  rw[if_pos b3']at k
  fail "R"
  refine ite2 (fun cn=>?_) (fun cn=>?_)
  ·have e1:l.length=1:=by
    have z:=of_decide_eq_true cn
    injection z with z
    omega
   rw[decide_eq_true e1]at k
   exact k _ s1
  have e1:¬l.length=1:=fun z=>cn (decide_eq_true (by rw[hl,z];rfl))
  rw[decide_eq_false e1]at k
  obtain⟨a,r,ea⟩:∃a r,l=a::r:=by
   cases e:l with
   |nil=>rw[e]at hl b1';have:(ofL ([]:List Nat)).length=0:=hl;omega
   |cons a r=>exact⟨a,r,rfl⟩
  have hat:atI (ofL l).cps.toList 0=some a:=by rw[toList_ofL,ea];unfold atI ixN;simp
  have hq2:(!decide (V.str ⟨#[a]⟩=V.str "0"))=(false||decide (l[0]?≠some 48)):=by
   rw[ea,Bool.false_or]
   by_cases z:a=48
   ·subst z
    rfl
   ·have hne:¬(V.str ⟨#[a]⟩=V.str "0"):=fun e=>z (sgn_eq (k:=48).mp e)
    rw[decide_eq_false hne,decide_eq_true (by simpa using z)]
    rfl
  fail "R"
  rw[hq2]
  exact k _ s1
 ·have b1':¬(1:Int)<=((ofL l).length:Int):=fun z=>b1 (decide_eq_true z)
  rw[if_neg (by omega)]at k
  fail "R"
  exact k _ (Same.refl _)
theorem nm_name_of:Nm ["item"] (defScope s_name_of):=by decide +kernel
theorem sc_name_of:FnScope ["item"] ["item"] (defScope s_name_of):=⟨rfl,rfl,rfl,by decide +kernel,rfl,by decide +kernel,by decide +kernel⟩
theorem ok_nameof{f:Addr}{fd:FuncData}(F:Fun K "name_of" "name_of" s_name_of f fd)(IN:Has P w K mg base "is_name" 1 ["text"] spIsName gI ifd)(z_isinstance:mg "isinstance"=none)(z_str:mg "str"=none):FnOk P w K mg base CX0 2 f fd ["item"] spNameOf:=by
 refine F.ok sc_name_of (fun vs H Q E h=>?_) (fun cdv A outer s H vs Q E hr h=>?_)
 ·obtain⟨_,rfl,_⟩:=h
  rfl
 obtain⟨x,rfl,hx,k⟩:=h
 refine⟨_,(@pss_cons _ _ _ _ _ (@ps_if _ _ _ _ _ _ _ _ (PW.pt (@pw_or _ _ _ _ _ _ _ (@pt_not _ _ _ _ (@pt_val _ _ _ (@pe_callB _ _ _ _ _ _ _ _ _ (call_isSl K rfl) (by show _=_;kernel_rfl) z_isinstance PyProof.Rows.boot_isinstance (@pa_c _ _ _ _ _ (va nm_name_of 0) (pa_c (pe_bltn (v:=.ty "str") (by show _=_;kernel_rfl) z_str (by decide +kernel) rfl) pa_nil) (by rfl)) (by decide) (by decide) (by rfl) (by rfl)) (by intro _;rfl))) (@pw_or1 _ _ _ _ (@pt_not _ _ _ _ (@pt_val _ _ _ (@pe_call _ _ _ _ _ _ _ _ _ _ _ _ _ _ _ _ IN.ok (hr.mono (by omega)) (by show _=_;kernel_rfl) IN.at' IN.kp IN.bd .nil pass0 (pa_c (va nm_name_of 0) pa_nil) (by decide) (by rfl) (by rfl)) (by intro _;rfl)))))) (pss_one ps_never) pss_nil) (@pss_one _ _ _ (ps_ret (va nm_name_of 0)))),?_⟩
 try dsimp only[cx_K]
 try dsimp only[cx_K]
 refine seq_cut ?_
 intro N1 c1
 fail "R"
 refine .inr ⟨_,rfl,?_⟩
 fail "R"
 intro H1 s1
 fail "R"
 exact k _ s1
theorem nm_number_behind:Nm ["word"] (defScope s_number_behind):=by decide +kernel
theorem sc_number_behind:FnScope ["word"] ["word"] (defScope s_number_behind):=⟨rfl,rfl,rfl,by decide +kernel,rfl,by decide +kernel,by decide +kernel⟩
theorem ok_numb{f:Addr}{fd:FuncData}(F:Fun K "number_behind" "number_behind" s_number_behind f fd)(IFG:Has P w K mg base "is_figures" 1 ["text","most"] spIsFig gF ffd)(z_int:mg "int"=none):FnOk P w K mg base CX0 2 f fd ["word"] spNumB:=by
 refine F.ok sc_number_behind (fun vs H Q E h=>?_) (fun cdv A outer s H vs Q E hr h=>?_)
 ·obtain⟨_,_,rfl,_⟩:=h
  rfl
 obtain⟨n,a,rfl,hn,k⟩:=h
 refine⟨_,(@pss_cons _ _ _ _ _ (@ps_if _ _ _ _ _ _ _ _ (@pt_not _ _ _ _ (@pt_val _ _ _ (@pe_call _ _ _ _ _ _ _ _ _ _ _ _ _ _ _ _ IFG.ok (hr.mono (by omega)) (by show _=_;kernel_rfl) IFG.at' IFG.kp IFG.bd .nil pass0 (@pa_c _ _ _ _ _ (pe_slice sl_str (va nm_number_behind 0) (po_some pe_int) po_none) (pa_c pe_int pa_nil) (by rfl)) (by decide) (by rfl) (by rfl)) (by intro _;rfl))) (pss_one ps_never) pss_nil) (@pss_one _ _ _ (@ps_ret _ _ _ _ (@pe_callTy _ _ _ _ _ _ _ _ _ call_intS (by show _=_;kernel_rfl) z_int PyProof.Rows.boot_int (@pa_c _ _ _ _ _ (pe_slice sl_str (va nm_number_behind 0) (po_some pe_int) po_none) pa_nil (by rfl)) (by decide) (by decide) (by rfl) (by rfl))))),?_⟩
 try dsimp only[cx_K]
 try dsimp only[cx_K]
 have hz:(ofL (a::digs n)).length<=sizeLine:=small (by have:=digs_ok hn;rw[ofL_len,List.length_cons];omega)
 have es:=slice_tail (a:=a) (l:=digs n)
 have e2:ofL (digs n)=Str.ofString (toString n):=ofL_toList _
 refine seq_cut ?_
 intro N1 c1
 fail "R"
 ·rw[es,ofL_len]
  have:=digs_ok hn
  omega
 have fb:=figB_digs hn
 rw[es,toList_ofL,fb]
 intro H1 s1
 fail "R"
 ·(rw[es,e2]<;>rfl)
 fail "R"
 exact k _ s1
end
def atm(s:Str):Bw:=.a s.cps.toList
def armB(a:Str×List Str)(k:Bw):Bw:=.g 40 (atm a.1::(a.2.map atm++[k]))
def bwH:Hd->List Bw->Bw
 |.num n,_=>.a (digs n)
 |.name x,_=>atm x
 |.gap n,_=>.a (63::digs n)
 |.op s,ks=>.g 40 (atm s::ks)
 |.row,ks=>.g 40 (atm "row"::ks)
 |.more,ks=>.g 40 (atm "more"::ks)
 |.first,ks=>.g 40 (atm "first"::ks)
 |.others,ks=>.g 40 (atm "others"::ks)
 |.long,ks=>.g 40 (atm "long"::ks)
 |.tag t,ks=>.g 40 (.a (t.cps.toList++[58])::ks)
 |.call f,ks=>.g 40 (atm "call"::atm f::ks)
 |.mat arms,ks=>.g 40 (atm "match"::ks.headD (.a [])::List.zipWith armB arms ks.tail)
 |.ife,ks=>.g 40 (atm "if"::ks)
 |.lt x,ks=>.g 40 (atm "let"::atm x::ks)
 |.fold x y,ks=>.g 40 [atm "fold",ks.getD 0 (.a []),atm x,atm y,ks.getD 1 (.a []),ks.getD 2 (.a [])]
mutual
def bw:Tm->Bw
 |.mk h ks=>bwH h (bws ks)
def bws:List Tm->List Bw
 | []=>[]
 |k::r=>bw k::bws r
end
theorem bws_map:∀ks:List Tm,bws ks=ks.map bw
 | []=>rfl
 |k::r=>by unfold bws;rw[bws_map r];rfl
theorem bw_mk(h:Hd)(ks:List Tm):bw (.mk h ks)=bwH h (ks.map bw):=by unfold bw;rw[bws_map]
def leafH:Hd->Bool
 |.num _=>true
 |.name _=>true
 |.gap _=>true
 |_=>false
def opsS:List Str:=["+","-","*",":","<","="]
def hdOk:Hd->Prop
 |.num n=>0<=n/\n<1000000
 |.name x=>nmOk x
 |.gap n=>0<=n/\n<100
 |.op s=>s∈opsS
 |.tag t=>nmOk t
 |.call f=>nmOk f
 |.mat arms=>∀a∈arms,nmOk a.1/\∀x∈a.2,nmOk x
 |.lt x=>nmOk x
 |.fold x y=>nmOk x/\nmOk y
 |_=>True
inductive TmOk:Tm->Prop
 |mk {h:Hd}{ks:List Tm}:arOk h ks.length=true->hdOk h->(∀k∈ks,TmOk k)->TmOk (.mk h ks)
def tv(tm:Tm):T:=match bw tm with
 |.a w=>.s (ofL w)
 |.g _ _=>.t [.s "term",enc tm]
inductive Gd:Bw->Prop
 |a (w:List Nat):Gd (.a w)
 |t {tm:Tm}:TmOk tm->Gd (bw tm)
 |r {a:Str×List Str}{k:Tm}:nmOk a.1->(∀x∈a.2,nmOk x)->TmOk k->Gd (armB a (bw k))
theorem bw_leaf{tm:Tm}(h:leafH tm.hd=true):∃w,bw tm=.a w:=by
 obtain⟨hd,ks⟩:=tm
 rw[bw_mk]
 cases hd<;>first|exact⟨_,rfl⟩|cases h
theorem bw_group{tm:Tm}(h:leafH tm.hd=false):∃ws,bw tm=.g 40 ws:=by
 obtain⟨hd,ks⟩:=tm
 rw[bw_mk]
 cases hd<;>first|exact⟨_,rfl⟩|cases h
theorem zip_mem{a:Str×List Str}:∀{arms:List (Str×List Str)}{ks:List Bw}{x:Bw},x∈List.zipWith armB arms ks->∃a k,a∈arms/\k∈ks/\x=armB a k
 | [],_,_,h=>by simp at h
 |_::_,[],_,h=>by simp at h
 |a::r,k::q,x,h=>by
  rw[List.zipWith_cons_cons]at h
  cases h with
  |head=>exact⟨a,k,.head _,.head _,rfl⟩
  |tail _ h =>
   obtain⟨a',k',h1,h2,e⟩:=zip_mem (a:=a) h
   exact⟨a',k',.tail _ h1,.tail _ h2,e⟩
theorem kids_gd{ks:List Tm}(h:∀k∈ks,TmOk k):∀x∈ks.map bw,Gd x:=fun x hx=>by
 obtain⟨k,hk,rfl⟩:=List.mem_map.mp hx
 exact .t (h k hk)
theorem getD_gd{l:List Bw}(h:∀x∈l,Gd x)(i:Nat):Gd (l.getD i (.a [])):=by
 rw[List.getD_eq_getElem?_getD]
 cases e:l[i]? with
 |none=>exact .a _
 |some x=>exact h x (List.mem_of_getElem? e)
theorem headD_gd{l:List Bw}(h:∀x∈l,Gd x):Gd (l.headD (.a [])):=by
 cases l with
 |nil=>exact .a _
 |cons x r=>exact h x (.head _)
theorem Gd.her:∀o ws,Gd (.g o ws)->∀x∈ws,Gd x:=by
 intro o ws h x hx
 generalize eb:Bw.g o ws=b at h
 cases h with
 |a w=>cases eb
 |r h1 h2 h3 =>
  unfold armB at eb
  injection eb with e1 e2
  subst e2
  rcases List.mem_cons.mp hx with rfl|hx
  ·exact .a _
  rcases List.mem_append.mp hx with hx|hx
  ·obtain⟨s,_,rfl⟩:=List.mem_map.mp hx
   exact .a _
  ·rw[List.mem_singleton.mp hx]
   exact .t h3
 |@t tm ht =>
  cases ht with
  |@mk hd ks ar ho hk =>
   have kg:=kids_gd hk
   rw[bw_mk]at eb
   cases hd<;>(unfold bwH at eb;first|(cases eb;done)|skip)
   case op s=>injection eb with _ e2;subst e2;exact(List.mem_cons.mp hx).elim (fun e=>by rw[e];exact .a _) (kg x)
   case row=>injection eb with _ e2;subst e2;exact(List.mem_cons.mp hx).elim (fun e=>by rw[e];exact .a _) (kg x)
   case more=>injection eb with _ e2;subst e2;exact(List.mem_cons.mp hx).elim (fun e=>by rw[e];exact .a _) (kg x)
   case first=>injection eb with _ e2;subst e2;exact(List.mem_cons.mp hx).elim (fun e=>by rw[e];exact .a _) (kg x)
   case others=>injection eb with _ e2;subst e2;exact(List.mem_cons.mp hx).elim (fun e=>by rw[e];exact .a _) (kg x)
   case long=>injection eb with _ e2;subst e2;exact(List.mem_cons.mp hx).elim (fun e=>by rw[e];exact .a _) (kg x)
   case tag t=>injection eb with _ e2;subst e2;exact(List.mem_cons.mp hx).elim (fun e=>by rw[e];exact .a _) (kg x)
   case ife=>injection eb with _ e2;subst e2;exact(List.mem_cons.mp hx).elim (fun e=>by rw[e];exact .a _) (kg x)
   case call f =>
    injection eb with _ e2;subst e2
    exact(List.mem_cons.mp hx).elim (fun e=>by rw[e];exact .a _) fun hx=>(List.mem_cons.mp hx).elim (fun e=>by rw[e];exact .a _) (kg x)
   case lt y =>
    injection eb with _ e2;subst e2
    exact(List.mem_cons.mp hx).elim (fun e=>by rw[e];exact .a _) fun hx=>(List.mem_cons.mp hx).elim (fun e=>by rw[e];exact .a _) (kg x)
   case fold y z =>
    injection eb with _ e2;subst e2
    simp only[List.mem_cons,List.not_mem_nil,or_false]at hx
    rcases hx with rfl|rfl|rfl|rfl|rfl|rfl
    ·exact .a _
    ·exact getD_gd kg 0
    ·exact .a _
    ·exact .a _
    ·exact getD_gd kg 1
    ·exact getD_gd kg 2
   case mat arms =>
    injection eb with _ e2;subst e2
    rcases List.mem_cons.mp hx with rfl|hx
    ·exact .a _
    rcases List.mem_cons.mp hx with rfl|hx
    ·exact headD_gd kg
    obtain⟨a,k,h1,h2,rfl⟩:=zip_mem (a:=("",[])) hx
    obtain⟨tk,htk,rfl⟩:=List.mem_map.mp (List.mem_of_mem_tail h2)
    exact .r (ho a h1).1 (ho a h1).2 (hk tk htk)
end G08
namespace G08
open PySem L2
theorem dchar:∀d:Nat,d<10->(Nat.digitChar d).toNat=48+d:=by decide
theorem dgt(m:Nat):∃a r,(Nat.toDigits 10 m).map Char.toNat=a::r/\(48<=a/\a<=57)/\(∀c∈r,48<=c/\c<=57)/\(m≠0->a≠48)/\(m<10->r=[])/\∀k,1<=k->m<10 ^ k->r.length+1<=k:=by
 induction m using Nat.strongRecOn with
 |_ m ih =>
  by_cases h:m<10
  ·rw[Nat.toDigits_of_lt_base h]
   have e:=dchar m h
   refine⟨_,[],rfl,?_,(fun c hc=>nomatch hc),fun hm=>?_,fun _=>rfl,fun k hk _=>hk⟩
   ·rw[e];omega
   ·rw[e];omega
  ·obtain⟨a,r,e,h1,h2,h3,_,h4⟩:=ih (m / 10) (by omega)
   have hm:m % 10<10:=Nat.mod_lt m (by decide)
   have t:Nat.toDigits 10 (m / 10)++Nat.toDigits 10 (m % 10)=Nat.toDigits 10 (10*(m / 10)+m % 10):=Nat.toDigits_append_toDigits (by decide) (by omega) hm
   rw[Nat.div_add_mod]at t
   have ed:=dchar (m % 10) hm
   refine⟨a,r++[48+m % 10],?_,h1,fun c hc=>?_,fun _=>h3 (by omega),fun z=>absurd z h,fun k hk hlt=>?_⟩
   ·rw[←t,List.map_append,e,Nat.toDigits_of_lt_base hm]
    show a::r++[(Nat.digitChar (m % 10)).toNat]=_
    rw[ed]
    rfl
   ·rcases List.mem_append.mp hc with hc|hc
    ·exact h2 c hc
    ·rw[List.mem_singleton.mp hc];omega
   ·rw[List.length_append]
    cases k with
    |zero=>omega
    |succ k =>
     cases k with
     |zero=>have:m<10 ^ 1:=hlt;omega
     |succ k =>
      have:m / 10<10 ^ (k+1):=by
       rw[Nat.pow_succ]at hlt
       exact Nat.div_lt_of_lt_mul (by rw[Nat.mul_comm];exact hlt)
      have:=h4 (k+1) (by omega) this
      show r.length+1+1<=_
      omega
theorem digs_big{n:Int}(h:0<=n/\n<1000000):∃a r,digs n=a::r/\(48<=a/\a<=57)/\(∀c∈r,48<=c/\c<=57)/\(r=[]\/a≠48)/\r.length<=5:=by
 obtain⟨m,rfl⟩:=Int.eq_ofNat_of_zero_le h.1
 obtain⟨a,r,e,h1,h2,h3,h4,h5⟩:=dgt m
 unfold digs
 rw[PySem.W.KIN.signs_num]
 refine⟨a,r,e,h1,h2,?_,?_⟩
 ·by_cases z:m<10
  ·exact .inl (h4 z)
  ·exact .inr (h3 (by omega))
 ·have:=h5 6 (by decide) (by have:=h.2;omega)
  omega
theorem figB_num{n:Int}(h:0<=n/\n<1000000):figB (digs n) 6=true:=by
 obtain⟨a,r,e,h1,h2,h3,h4⟩:=digs_big h
 rw[e]
 unfold figB
 have ha:∀c∈a::r,dig c=true:=fun c hc=>decide_eq_true (fig_in c (by
  rcases List.mem_cons.mp hc with rfl|hc
  ·exact h1
  ·exact h2 c hc))
 rw[if_pos (by rw[List.length_cons];omega),if_pos (all_true ha)]
 rcases h3 with rfl|h3
 ·rfl
 ·have:decide ((a::r)[0]?≠some 48)=true:=decide_eq_true (by simpa using h3)
  rw[this,Bool.or_true]
theorem nm_wsg{x:Str}(h:nmOk x):∀c∈x.cps.toList,wsg c:=fun c hc=>by
 have:=h.2.2.1 c hc
 unfold low at this
 unfold wsg
 omega
theorem nm_ne{x:Str}(h:nmOk x):x.cps.toList≠[]:=fun e=>by
 have h1:=h.1
 have:x.length=0:=by
  show x.cps.size=0
  rw[←Array.length_toList,e]
  rfl
 omega
theorem atm_ok{x:Str}(h:nmOk x):(atm x).ok:=by
 unfold atm Bw.ok
 exact⟨nm_ne h,nm_wsg h⟩
theorem oks_all:∀{ws:List Bw},(∀x∈ws,x.ok)->Bw.oks ws
 | [],_=>by unfold Bw.oks;trivial
 |x::r,h=>by
  unfold Bw.oks
  exact⟨h x (.head _),oks_all fun y hy=>h y (.tail _ hy)⟩
theorem g_ok{ws:List Bw}(h:∀x∈ws,x.ok):(Bw.g 40 ws).ok:=by
 unfold Bw.ok
 exact⟨.inl rfl,oks_all h⟩
theorem arm_ok{a:Str×List Str}{k:Bw}(h1:nmOk a.1)(h2:∀x∈a.2,nmOk x)(hk:k.ok):(armB a k).ok:=by
 refine g_ok fun x hx=>?_
 rcases List.mem_cons.mp hx with rfl|hx
 ·exact atm_ok h1
 rcases List.mem_append.mp hx with hx|hx
 ·obtain⟨s,hs,rfl⟩:=List.mem_map.mp hx
  exact atm_ok (h2 s hs)
 ·rw[List.mem_singleton.mp hx];exact hk
theorem kw_ok:∀s∈(["row","more","first","others","long","call","match","if","let","fold","+","-","*",":","<","="]:List Str),s.cps.toList≠[]/\∀c∈s.cps.toList,c≠32/\c≠40/\c≠41/\c≠91/\c≠93:=by decide +kernel
theorem kw{s:Str}(h:s∈(["row","more","first","others","long","call","match","if","let","fold","+","-","*",":","<","="]:List Str)):(atm s).ok:=by
 unfold atm Bw.ok
 exact kw_ok s h
theorem bw_ok{tm:Tm}(h:TmOk tm):(bw tm).ok:=by
 induction h with
 |@mk hd ks ar ho hk ih =>
  have kk:∀x∈ks.map bw,x.ok:=fun x hx=>by
   obtain⟨k,h1,rfl⟩:=List.mem_map.mp hx
   exact ih k h1
  have two:∀{s:Str}{l:List Bw},(atm s).ok->(∀x∈l,x.ok)->(Bw.g 40 (atm s::l)).ok:=fun h1 h2=>g_ok fun x hx=>(List.mem_cons.mp hx).elim (fun e=>by rw[e];exact h1) (h2 x)
  have dg:∀{n:Int},0<=n/\n<1000000->∀c∈digs n,wsg c:=fun{n} hn c hc=>by
   obtain⟨a,r,e,h1,h2,_,_⟩:=digs_big hn
   rw[e]at hc
   have:48<=c/\c<=57:=(List.mem_cons.mp hc).elim (fun z=>by rw[z];exact h1) (h2 c)
   unfold wsg
   omega
  have gt:∀i,i<ks.length->((ks.map bw).getD i (.a [])).ok:=fun i hi=>by
   rw[List.getD_eq_getElem?_getD,List.getElem?_map,List.getElem?_eq_getElem hi]
   exact ih _ (List.getElem_mem hi)
  rw[bw_mk]
  cases hd with
  |num n =>
   show(Bw.a (digs n)).ok
   unfold Bw.ok
   obtain⟨a,r,e,_⟩:=digs_big (show 0<=n/\n<1000000 from ho)
   exact⟨by rw[e];simp,dg ho⟩
  |name x=>exact atm_ok ho
  |gap n =>
   show(Bw.a (63::digs n)).ok
   unfold Bw.ok
   have hn:0<=n/\n<1000000:=⟨ho.1,by have:=ho.2;omega⟩
   exact⟨by simp,fun c hc=>(List.mem_cons.mp hc).elim (fun z=>by rw[z];unfold wsg;omega) (dg hn c)⟩
  |op s=>exact two (kw (by have:s∈opsS:=ho;unfold opsS at this;simp only[List.mem_cons,List.not_mem_nil,or_false]at this⊢;rcases this with h|h|h|h|h|h<;>simp[h])) kk
  |row=>exact two (kw (by simp)) kk
  |more=>exact two (kw (by simp)) kk
  |first=>exact two (kw (by simp)) kk
  |others=>exact two (kw (by simp)) kk
  |long=>exact two (kw (by simp)) kk
  |tag t =>
   refine g_ok fun x hx=>(List.mem_cons.mp hx).elim (fun e=>?_) (kk x)
   rw[e]
   unfold Bw.ok
   exact⟨by simp,fun c hc=>(List.mem_append.mp hc).elim (nm_wsg ho c) fun z=>by rw[List.mem_singleton.mp z];unfold wsg;omega⟩
  |call f=>exact two (kw (by simp)) fun x hx=>(List.mem_cons.mp hx).elim (fun e=>by rw[e];exact atm_ok ho) (kk x)
  |mat arms =>
   have ar':(ks.length == arms.length+1)=true:=ar
   have arl:ks.length=arms.length+1:=eq_of_beq ar'
   refine two (kw (by simp)) fun x hx=>?_
   rcases List.mem_cons.mp hx with rfl|hx
   ·cases ks with
    |nil=>cases arl
    |cons k r=>exact ih k (.head _)
   ·obtain⟨a,k,h1,h2,rfl⟩:=zip_mem (a:=("",[])) hx
    exact arm_ok (ho a h1).1 (ho a h1).2 (kk k (List.mem_of_mem_tail h2))
  |ife=>exact two (kw (by simp)) kk
  |lt x=>exact two (kw (by simp)) fun y hy=>(List.mem_cons.mp hy).elim (fun e=>by rw[e];exact atm_ok ho) (kk y)
  |fold x y =>
   have ar':(ks.length == 3)=true:=ar
   have arl:ks.length=3:=eq_of_beq ar'
   refine two (kw (by simp)) fun z hz=>?_
   simp only[List.mem_cons,List.not_mem_nil,or_false]at hz
   rcases hz with rfl|rfl|rfl|rfl|rfl
   ·exact gt 0 (by omega)
   ·exact atm_ok ho.1
   ·exact atm_ok ho.2
   ·exact gt 1 (by omega)
   ·exact gt 2 (by omega)
end G08
namespace L2
open PySem PySem.Spec PyProof.Rows
section
variable {X:Cx}
theorem call_isSt(K:PySem.W.Frag)(hK:X.K=K):CallR X (.builtin "isinstance") (fun xs H Q=>∃x,xs=[x,.ty "str"]/\((∃p ys,x=.ref p/\SqT K H p ys/\Q (.bl false) H)\/(∃z,x=.str z/\Q (.bl true) H)\/∃z,x=.int z/\Q (.bl false) H)):=by
 subst hK
 intro pins s σ H xs us Q I r h
 obtain⟨x,rfl,h⟩:=h
 obtain⟨u,w',rfl,r1,r2⟩:=vals2 r
 obtain rfl:w'=Value.type "str":=r2
 rcases h with⟨p,ys,rfl,hq,q⟩|⟨z,rfl,q⟩|⟨z,rfl,q⟩
 ·obtain rfl:u=Value.ref p:=r1
  obtain⟨its,rv,pl,hz⟩:=I.tuple hq
  obtain⟨o,ho,hc,n,hd⟩:=pl
  exact IsiPair.tuple_str ho hc ⟨.bl false,H,I.tok _,rfl,q⟩
 ·obtain⟨t,rfl⟩:=r1
  exact IsiPair.str_str ⟨.bl true,H,I.tok _,rfl,q⟩
 ·obtain⟨t,rfl⟩:=r1
  exact IsiPair.int_str ⟨.bl false,H,I.tok _,rfl,q⟩
end
end L2
namespace G08
open PySem L2
theorem tv_g{tm:Tm}(h:leafH tm.hd=false):tv tm=.t [.s "term",enc tm]:=by
 obtain⟨ws,e⟩:=bw_group h
 unfold tv
 rw[e]
def spTermOf(K:PySem.W.Frag):Sp:=fun vs H Q _=>∃(v:V) (tm:Tm),vs=[v]/\Rp K H (tv tm) v/\TmOk tm/\∀v' H',Same H H'->Rp K H' (enc tm) v'->Q v' H'
def spTermsOf(K:PySem.W.Frag):Sp:=fun vs H Q _=>∃(p:Addr) (us:List V) (ks:List Tm),vs=[.ref p]/\H p=some (.lst us)/\Rps K H (ks.map tv) us/\(∀k∈ks,TmOk k)/\ks.length<=900/\∀v' H',Same H H'->Rp K H' (.t (ks.map enc)) v'->Q v' H'
def spArmOf(K:PySem.W.Frag):Sp:=fun vs H Q _=>∃(v:V) (t:T),vs=[v]/\Rp K H (.t [.s "arm",t]) v/\∀v',Rp K H t v'->Q v' H
section
variable {P:Program}{w:World}{K:PySem.W.Frag}{mg:Str->Option Value}{base:Heap}{gF gB gN gT:Addr}{ffd bfd nfd tfd:FuncData}
theorem nm_term_of:Nm ["item","sort","closed"] (defScope s_term_of):=by decide +kernel
theorem lm_term_of:Lm ["item","sort","closed"] (defScope s_term_of):=by decide +kernel
theorem sc_term_of:FnScope ["item","sort","closed"] ["item"] (defScope s_term_of):=⟨rfl,rfl,rfl,by decide +kernel,rfl,by decide +kernel,by decide +kernel⟩
theorem ok_termof{f:Addr}{fd:FuncData}(F:Fun K "term_of" "term_of" s_term_of f fd)(IFG:Has P w K mg base "is_figures" 1 ["text","most"] spIsFig gF ffd)(NB:Has P w K mg base "number_behind" 2 ["word"] spNumB gB bfd)(NO:Has P w K mg base "name_of" 2 ["item"] spNameOf gN nfd)(z_isinstance:mg "isinstance"=none)(z_str:mg "str"=none)(z_int:mg "int"=none):FnOk P w K mg base CX0 3 f fd ["item"] (spTermOf K):=by
 refine F.ok sc_term_of (fun vs H Q E h=>?_) (fun cdv A outer s H vs Q E hr h=>?_)
 ·obtain⟨_,_,rfl,_⟩:=h
  rfl
 obtain⟨v,tm,rfl,r,ht,k⟩:=h
 refine⟨_,(@pss_cons _ _ _ _ _ (@ps_if _ _ _ _ _ _ _ _ (@pt_not _ _ _ _ (@pt_val _ _ _ (@pe_callB _ _ _ _ _ _ _ _ _ (call_isSt K rfl) (by show _=_;kernel_rfl) z_isinstance PyProof.Rows.boot_isinstance (@pa_c _ _ _ _ _ (va nm_term_of 0) (pa_c (pe_bltn (v:=.ty "str") (by show _=_;kernel_rfl) z_str (by decide +kernel) rfl) pa_nil) (by rfl)) (by decide) (by decide) (by rfl) (by rfl)) (by intro _;rfl))) (@pss_cons _ _ _ _ _ (@ps_asg _ _ _ _ _ _ (va nm_term_of 0) (@pg_tupK _ _ _ _ _ (2) K rfl rfl (@pgs_cons _ _ _ _ _ (ga sc_term_of.nd lm_term_of 1) (pgs_cons (ga sc_term_of.nd lm_term_of 2) pgs_nil) (by rfl)) (by rfl) (by rfl)) (by rfl) (by rfl) (by rfl)) (@pss_cons _ _ _ _ _ (@ps_if _ _ _ _ _ _ _ _ (pt_cmpR op_ne (va nm_term_of 1) pe_str (nomark _)) (pss_one ps_never) pss_nil) (@pss_one _ _ _ (ps_ret (va nm_term_of 2))))) pss_nil) (@pss_cons _ _ _ _ _ (@ps_if _ _ _ _ _ _ _ _ (@pt_val _ _ _ (@pe_call _ _ _ _ _ _ _ _ _ _ _ _ _ _ _ _ IFG.ok (hr.mono (by omega)) (by show _=_;kernel_rfl) IFG.at' IFG.kp IFG.bd .nil pass0 (pa_c (va nm_term_of 0) (pa_c pe_int pa_nil)) (by decide) (by rfl) (by rfl)) (by intro _;rfl)) (@pss_one _ _ _ (@ps_ret _ _ _ _ (@pe_tup _ _ _ _ _ (@pa_c _ _ _ _ _ pe_str (@pa_c _ _ _ _ _ (@pe_callTy _ _ _ _ _ _ _ _ _ call_intS (by show _=_;kernel_rfl) z_int PyProof.Rows.boot_int (pa_c (va nm_term_of 0) pa_nil) (by decide) (by decide) (by rfl) (by rfl)) pa_nil (by rfl)) (by rfl))))) pss_nil) (@pss_cons _ _ _ _ _ (@ps_if _ _ _ _ _ _ _ _ (@pt_val _ _ _ (pe_bm PySem.F.plainAttrs_str PySem.F.slot_str_startswith PySem.F.type_str_startswith mt_startswith (va nm_term_of 0) (pa_c pe_str pa_nil) (hbase:=by kernel_rfl) (hfew:=by kernel_rfl) (hline:=by kernel_rfl) (hs:=by kernel_rfl) (hplain:=by kernel_rfl)) (by intro _;rfl)) (@pss_one _ _ _ (@ps_ret _ _ _ _ (@pe_tup _ _ _ _ _ (@pa_c _ _ _ _ _ pe_str (@pa_c _ _ _ _ _ (@pe_call _ _ _ _ _ _ _ _ _ _ _ _ _ _ _ _ NB.ok (hr.mono (by omega)) (by show _=_;kernel_rfl) NB.at' NB.kp NB.bd .nil pass0 (pa_c (va nm_term_of 0) pa_nil) (by decide) (by rfl) (by rfl)) pa_nil (by rfl)) (by rfl))))) pss_nil) (@pss_one _ _ _ (@ps_ret _ _ _ _ (@pe_tup _ _ _ _ _ (@pa_c _ _ _ _ _ pe_str (@pa_c _ _ _ _ _ (@pe_call _ _ _ _ _ _ _ _ _ _ _ _ _ _ _ _ NO.ok (hr.mono (by omega)) (by show _=_;kernel_rfl) NO.at' NO.kp NO.bd .nil pass0 (pa_c (va nm_term_of 0) pa_nil) (by decide) (by rfl) (by rfl)) pa_nil (by rfl)) (by rfl)))))))),?_⟩
 try dsimp only[cx_K]
 try dsimp only[cx_K]
 refine seq_cut3 ?_
 intro N1 N2 N3 c1 c2 c3
 cases hleaf:leafH tm.hd with
 |false =>
  rw[tv_g hleaf]at r
  obtain⟨a,v1,v2,rfl,sq,g1,g2⟩:=r.t2
  obtain rfl:=g1.inv_s
  fail "R"
  refine .inl ⟨_,_,rfl,sq,?_⟩
  fail "R"
  exact k _ _ (Same.refl _) g2
 |true =>
  cases ht with
  |@mk hd ks ar ho hk =>
   cases hd with
   |num n =>
    obtain rfl:=(show Rp K H (.s (ofL (digs n))) v from r).inv_s
    have ho':0<=n/\n<1000000:=ho
    have fb:=figB_num ho'
    have e2:ofL (digs n)=Str.ofString (toString n):=ofL_toList _
    obtain⟨da,dr,ed,_,_,_,dl⟩:=digs_big ho'
    have l3:(ofL (digs n)).length<=3000:=by rw[ofL_len,ed,List.length_cons];omega
    fail "R"
    refine .inr (.inl ⟨_,rfl,?_⟩)
    fail "R"
    rw[toList_ofL,fb]
    intro H1 s1
    fail "R"
    intro p hp
    exact k _ _ (s1.trans (same_new hp _)) (Rp.new (K:=K) hp (.cons .s (.one .i)))
   |gap n =>
    obtain rfl:=(show Rp K H (.s (ofL (63::digs n))) v from r).inv_s
    have ho':0<=n/\n<100:=ho
    have fb:figB (63::digs n) 6=false:=figB_first (by omega)
    have l3:(ofL (63::digs n)).length<=3000:=by have:=digs_ok ho';rw[ofL_len,List.length_cons];omega
    have n2:Txt.startswith (ofL (63::digs n)) "?"=true:=by
     show Txt.startswith _ ⟨#[63]⟩=true
     rw[starts_one]
     rfl
    fail "R"
    refine .inr (.inl ⟨_,rfl,?_⟩)
    fail "R"
    rw[toList_ofL,fb]
    intro H1 s1
    fail "R"
    refine ifT n2 ?_
    fail "R"
    intro H2 s2
    fail "R"
    intro p hp
    exact k _ _ ((s1.trans s2).trans (same_new hp _)) (Rp.new (K:=K) hp (.cons .s (.one .i)))
   |name x =>
    have hx:nmOk x:=ho
    have ex:ofL x.cps.toList=x:=ofL_toList x
    obtain rfl:=(show Rp K H (.s (ofL x.cps.toList)) v from r).inv_s
    rw[ex]
    obtain⟨c0,r0,e0⟩:∃c0 r0,x.cps.toList=c0::r0:=by
     cases e:x.cps.toList with
     |nil=>exact absurd e (nm_ne hx)
     |cons c r=>exact⟨c,r,rfl⟩
    have lw:=hx.2.2.1 c0 (by rw[e0];exact .head _)
    have lw':97<=c0/\c0<=122:=lw
    have fb:figB x.cps.toList 6=false:=by rw[e0];exact figB_first (by omega)
    have l3:x.length<=3000:=by have:=hx.2.1;omega
    have n2:Txt.startswith x "?"=false:=by
     show Txt.startswith x ⟨#[63]⟩=false
     rw[←ex,starts_one,e0]
     exact decide_eq_false (by simp;omega)
    fail "R"
    refine .inr (.inl ⟨_,rfl,?_⟩)
    fail "R"
    rw[fb]
    intro H1 s1
    fail "R"
    refine ifF n2 ?_
    fail "R"
    intro H2 s2
    fail "R"
    intro p hp
    exact k _ _ ((s1.trans s2).trans (same_new hp _)) (Rp.new (K:=K) hp (.cons .s (.one .s)))
   |_=>cases hleaf
theorem nm_terms_of:Nm ["items"] (defScope s_terms_of):=by decide +kernel
theorem sc_terms_of:FnScope ["items"] ["items"] (defScope s_terms_of):=⟨rfl,rfl,rfl,by decide +kernel,rfl,by decide +kernel,by decide +kernel⟩
theorem ok_termsof{f:Addr}{fd:FuncData}(F:Fun K "terms_of" "terms_of" s_terms_of f fd)(TO:Has P w K mg base "term_of" 3 ["item"] (spTermOf K) gT tfd)(z_tuple:mg "tuple"=none):FnOk P w K mg base CX0 4 f fd ["items"] (spTermsOf K):=by
 refine F.ok sc_terms_of (fun vs H Q E h=>?_) (fun cdv A outer s H vs Q E hr h=>?_)
 ·obtain⟨_,_,_,rfl,_⟩:=h
  rfl
 obtain⟨p,us,ks,rfl,hp,r,ht,hn,k⟩:=h
 refine⟨_,(@pss_one _ _ _ (@ps_ret _ _ _ _ (@pe_callTy _ _ _ _ _ _ _ _ _ call_tuple_of (by show _=_;kernel_rfl) z_tuple PyProof.Rows.boot_tuple (@pa_c _ _ _ _ _ (@pe_compC _ _ _ _ _ _ _ _ _ _ _ (defScope s_terms_of) ["items"] ["item"] [] rfl rfl rfl (by decide +kernel) (pi_list (va nm_terms_of 0)) (fun _ _ _ _=>(pg_name (i:=0) (show(["item"]:List Str).Nodup by decide +kernel) rfl (Or.inl (by kernel_rfl)) (by first|exact .inl rfl|exact .inr (by kernel_rfl)))) (fun _ _ _ _=>pifs_nil) (fun _ _ _ _=>(@pe_call _ _ _ _ _ _ _ _ _ _ _ _ _ _ _ _ TO.ok (hr.mono (by omega)) (by show _=_;kernel_rfl) TO.at' TO.kp TO.bd .nil pass0 (pa_c (va (show Nm ["item"] _ by show _=_;kernel_rfl) 0) pa_nil) (by decide) (by rfl) (by rfl))) (by intro _;rfl)) pa_nil (by rfl)) (by decide) (by decide) (by rfl) (by rfl)))),?_⟩
 try dsimp only[cx_K]
 try dsimp only[cx_K]
 have hsl:SqL K H p us:=SqL.of hp
 fail "R"
 refine comp_mapL (K:=K) (e:=tv) (φ:=fun t=>[enc t]) (ps:=ks) (fun σ=>∃x,σ=[x]) hp r hn (fun _=>Nat.le_refl _) ⟨_,rfl⟩ ?_ ?_
 ·rintro q hq x σ H2 N s2 ⟨y,rfl⟩ rx kN
  have tq:=ht q hq
  fail "R"
  intro v' H3 s3 r3
  exact kN _ _ _ ⟨⟨_,rfl⟩,s3,.one r3⟩
 ·intro l H' us' s3 hl h3 r3
  rw[fm_one]at r3
  have lus:=r3.length
  have lus2:us'.length<=sizeLine:=small (by rw[lus,List.length_map];omega)
  fail "R"
  refine .inl ⟨SqL.of h3,fun p4 hp4=>?_⟩
  exact k _ _ (s3.trans (same_new hp4 _)) (Rp.new (K:=K) hp4 r3)
theorem nm_arm_of:Nm ["item"] (defScope s_arm_of):=by decide +kernel
theorem sc_arm_of:FnScope ["item"] ["item"] (defScope s_arm_of):=⟨rfl,rfl,rfl,by decide +kernel,rfl,by decide +kernel,by decide +kernel⟩
theorem ok_armof{f:Addr}{fd:FuncData}(F:Fun K "arm_of" "arm_of" s_arm_of f fd)(z_isinstance:mg "isinstance"=none)(z_str:mg "str"=none):FnOk P w K mg base CX0 1 f fd ["item"] (spArmOf K):=by
 refine F.ok sc_arm_of (fun vs H Q E h=>?_) (fun cdv A outer s H vs Q E hr h=>?_)
 ·obtain⟨_,_,rfl,_⟩:=h
  rfl
 obtain⟨v,t,rfl,r,k⟩:=h
 refine⟨_,(@pss_cons _ _ _ _ _ (@ps_if _ _ _ _ _ _ _ _ (PW.pt (@pw_or _ _ _ _ _ _ _ (@pt_val _ _ _ (@pe_callB _ _ _ _ _ _ _ _ _ (call_isSt K rfl) (by show _=_;kernel_rfl) z_isinstance PyProof.Rows.boot_isinstance (@pa_c _ _ _ _ _ (va nm_arm_of 0) (pa_c (pe_bltn (v:=.ty "str") (by show _=_;kernel_rfl) z_str (by decide +kernel) rfl) pa_nil) (by rfl)) (by decide) (by decide) (by rfl) (by rfl)) (by intro _;rfl)) (@pw_or1 _ _ _ _ (@pt_cmpR _ _ _ _ _ _ _ _ op_ne (pe_ix ix_tup (va nm_arm_of 0) pe_int (fun _ _=>rfl)) pe_str (nomark _))))) (pss_one ps_never) pss_nil) (@pss_one _ _ _ (@ps_ret _ _ _ _ (pe_ix ix_tup (va nm_arm_of 0) pe_int (fun _ _=>rfl))))),?_⟩
 try dsimp only[cx_K]
 try dsimp only[cx_K]
 obtain⟨a,v1,v2,rfl,sq,g1,g2⟩:=r.t2
 obtain rfl:=g1.inv_s
 refine seq_cut ?_
 intro N1 c1
 fail "R"
 refine .inl ⟨_,_,rfl,sq,?_⟩
 fail "R"
 exact k _ g2
end
abbrev Sx:=Tm ⊕ Str
def shpV:Sx->V
 |.inl _=>.str "term"
 |.inr _=>.str "name"
def itT:Sx->T
 |.inl t=>tv t
 |.inr x=>.s x
def resT:Sx->T
 |.inl t=>enc t
 |.inr x=>.s x
def sxOk:Sx->Prop
 |.inl t=>TmOk t
 |.inr x=>nmOk x
def spShaped(K:PySem.W.Frag):Sp:=fun vs H Q _=>∃(ps pi:Addr) (us:List V) (xs:List Sx),vs=[.ref ps,.ref pi]/\SqT K H ps (xs.map shpV)/\H pi=some (.lst us)/\Rps K H (xs.map itT) us/\(∀x∈xs,sxOk x)/\xs.length<=10/\∀v' H',Same H H'->Rp K H' (.t (xs.map resT)) v'->Q v' H'
structure ShI(K:PySem.W.Frag) (H:Hp) (ts:List T) (us:List V) (H5:Hp):Prop where
 s:Same H H5
 r:Rps K H5 ts us
section
variable {P:Program}{w:World}{K:PySem.W.Frag}{mg:Str->Option Value}{base:Heap}{gT gN:Addr}{tfd nfd:FuncData}
theorem nm_shaped:Nm ["shape","items"] (defScope s_shaped):=by decide +kernel
theorem sc_shaped:FnScope ["shape","items"] ["shape","items"] (defScope s_shaped):=⟨rfl,rfl,rfl,by decide +kernel,rfl,by decide +kernel,by decide +kernel⟩
theorem ok_shaped{f:Addr}{fd:FuncData}(F:Fun K "shaped" "shaped" s_shaped f fd)(TO:Has P w K mg base "term_of" 3 ["item"] (spTermOf K) gT tfd)(NO:Has P w K mg base "name_of" 2 ["item"] spNameOf gN nfd)(z_tuple:mg "tuple"=none)(z_len:mg "len"=none)(z_zip:mg "zip"=none):FnOk P w K mg base CX0 4 f fd ["shape","items"] (spShaped K):=by
 refine F.ok sc_shaped (fun vs H Q E h=>?_) (fun cdv A outer s H vs Q E hr h=>?_)
 ·obtain⟨_,_,_,_,rfl,_⟩:=h
  rfl
 obtain⟨ps,pi,us,xs,rfl,hS,hI,r,ho,hn,k⟩:=h
 refine⟨_,(@pss_cons _ _ _ _ _ (@ps_if _ _ _ _ _ _ _ _ (@pt_cmpR _ _ _ _ _ _ _ _ op_ne (@pe_callB _ _ _ _ _ _ _ _ _ call_len_seq (by show _=_;kernel_rfl) z_len PySem.boot_len (pa_c (va nm_shaped 1) pa_nil) (by decide) (by decide) (by rfl) (by rfl)) (@pe_callB _ _ _ _ _ _ _ _ _ call_len_seq (by show _=_;kernel_rfl) z_len PySem.boot_len (pa_c (va nm_shaped 0) pa_nil) (by decide) (by decide) (by rfl) (by rfl)) (nomark _)) (pss_one ps_never) pss_nil) (@pss_one _ _ _ (@ps_ret _ _ _ _ (@pe_callTy _ _ _ _ _ _ _ _ _ call_tuple_of (by show _=_;kernel_rfl) z_tuple PyProof.Rows.boot_tuple (@pa_c _ _ _ _ _ (@pe_compC _ _ _ _ _ _ _ _ _ _ _ (defScope s_shaped) ["shape","items"] ["sort","item"] [] rfl rfl rfl (by decide +kernel) (pi_zip K rfl (by show _=_;kernel_rfl) z_zip (@pa_c _ _ _ _ _ (va nm_shaped 0) (pa_c (va nm_shaped 1) pa_nil) (by rfl))) (fun _ _ _ _=>(@pg_tupK _ _ _ _ _ (2) K rfl rfl (@pgs_cons _ _ _ _ _ (pg_name (i:=0) (show(["sort","item"]:List Str).Nodup by decide +kernel) rfl (Or.inl (by kernel_rfl)) (by first|exact .inl rfl|exact .inr (by kernel_rfl))) (pgs_cons (pg_name (i:=1) (show(["sort","item"]:List Str).Nodup by decide +kernel) rfl (Or.inl (by kernel_rfl)) (by first|exact .inl rfl|exact .inr (by kernel_rfl))) pgs_nil) (by rfl)) (by rfl) (by rfl))) (fun _ _ _ _=>pifs_nil) (fun _ _ _ _=>(@pe_ifExp _ _ _ _ _ _ _ _ (pt_cmpR op_eq (va (show Nm ["sort","item"] _ by show _=_;kernel_rfl) 0) pe_str (nomark _)) (@pe_call _ _ _ _ _ _ _ _ _ _ _ _ _ _ _ _ TO.ok (hr.mono (by omega)) (by show _=_;kernel_rfl) TO.at' TO.kp TO.bd .nil pass0 (pa_c (va (show Nm ["sort","item"] _ by show _=_;kernel_rfl) 1) pa_nil) (by decide) (by rfl) (by rfl)) (@pe_call _ _ _ _ _ _ _ _ _ _ _ _ _ _ _ _ NO.ok (hr.mono (by omega)) (by show _=_;kernel_rfl) NO.at' NO.kp NO.bd .nil pass0 (pa_c (va (show Nm ["sort","item"] _ by show _=_;kernel_rfl) 1) pa_nil) (by decide) (by rfl) (by rfl)))) (by intro _;rfl)) pa_nil (by rfl)) (by decide) (by decide) (by rfl) (by rfl))))),?_⟩
 try dsimp only[cx_K]
 try dsimp only[cx_K]
 have lus:=r.length
 rw[List.length_map]at lus
 have e1:((us.length:Nat):Int)=(((xs.map shpV).length:Nat):Int):=by rw[lus,List.length_map]
 have hb1:SqB K true H ps (xs.map shpV):=hS
 have hb2:SqB K false H pi us:=SqL.of hI
 have h1:SqL K H pi us\/SqT K H pi us:=.inl (SqL.of hI)
 have h2:SqL K H ps (xs.map shpV)\/SqT K H ps (xs.map shpV):=.inr hS
 refine seq_cut ?_
 intro N1 c1
 fail "R"
 refine ifF (by rw[e1,decide_eq_true rfl];rfl) ?_
 fail "R"
 refine comp_zip (K:=K) (xs:=xs.map shpV) (ys:=us) (fun i σ ws H5=>(∃x y,σ=[x,y])/\ShI K H ((xs.take i).map resT) ws H5) ⟨⟨_,_,rfl⟩,⟨Same.refl _,.nil⟩⟩ ?_ (small (by rw[List.length_map,lus];omega)) ?_ ?_ ?_ ?_
 ·rintro i σ ws H5 hi ⟨_,⟨_,r5⟩⟩
  rw[r5.length,List.length_map,List.length_take]
  exact Nat.min_le_left _ _
 ·rintro i σ ws H5 hi ⟨_,⟨s5,_⟩⟩
  exact hS.same s5
 ·rintro i σ ws H5 hi ⟨_,⟨s5,_⟩⟩
  exact SqL.of (s5 _ _ hI)
 ·rintro i x y σ ws H5 p6 hx hy ⟨⟨_,_,rfl⟩,⟨s5,r5⟩⟩ hp6
  rw[List.getElem?_map]at hx
  obtain⟨z,hz,rfl⟩:=Option.map_eq_some_iff.mp hx
  obtain⟨t6,ht6,ry⟩:=r.get' hy
  rw[List.getElem?_map,hz]at ht6
  obtain rfl:itT z=t6:=Option.some.inj ht6
  have hil:=(List.getElem?_eq_some_iff.mp hz).1
  have etk:xs.take (i+1)=xs.take i++[z]:=by rw[List.take_succ_eq_append_getElem hil,(List.getElem?_eq_some_iff.mp hz).2]
  have s6:=same_new hp6 (.tup [shpV z,y])
  have h6:upd H5 p6 (.tup [shpV z,y]) p6=some (.tup [shpV z,y]):=upd_same
  have ry6:=ry.same (s5.trans s6)
  have r6:=r5.same s6
  generalize upd H5 p6 (.tup [shpV z,y])=H6 at s6 h6 ry6 r6⊢
  have s06:=s5.trans s6
  have oz:=ho z (List.mem_of_getElem? hz)
  rw[etk,List.map_append]
  cases z with
  |inl t =>
   have ot:TmOk t:=oz
   fail "R"
   intro v' H7 s7 r7
   fail "R"
   exact⟨s06.trans s7,(r6.same s7).append (.one r7)⟩
  |inr x =>
   have ox:nmOk x:=oz
   obtain rfl:=(show Rp K H6 (.s x) y from ry6).inv_s
   fail "R"
   intro H7 s7
   fail "R"
   exact⟨s06.trans s7,(r6.same s7).append (.one .s)⟩
 ·rintro σ ws H5 ⟨_,⟨s5,r5⟩⟩ p6 hp6
  rw[List.length_map,lus,Nat.min_self,List.take_length]at r5
  have s6:=same_new hp6 (.lst ws)
  have h6:upd H5 p6 (.lst ws) p6=some (.lst ws):=upd_same
  have r6:=r5.same s6
  generalize upd H5 p6 (.lst ws)=H6 at s6 h6 r6⊢
  fail "R"
  refine .inl ⟨SqL.of h6,fun p7 hp7=>?_⟩
  exact k _ _ ((s5.trans s6).trans (same_new hp7 _)) (Rp.new (K:=K) hp7 r6)
end
def numT(x:Str):Int:=(PySem.intText? x).getD 0
def termT:T->T
 |.t [_,x]=>x
 |.s x=>if figB x.cps.toList 6=true then .t [.s "num",.i (numT x)]else if x.cps.toList[0]?=some 63 then .t [.s "gap",.i (numT (ofL x.cps.toList.tail))]else .t [.s "name",.s x]
 |t=>t
theorem termT_s(x:Str):termT (.s x)=if figB x.cps.toList 6=true then .t [.s "num",.i (numT x)]else if x.cps.toList[0]?=some 63 then .t [.s "gap",.i (numT (ofL x.cps.toList.tail))]else .t [.s "name",.s x]:=rfl
def armX:T->T
 |.t [_,x]=>x
 |t=>t
def plainS:List Str:=["more","first","others","long","if"]
def closeT:List T->T
 |.s hd::r =>
  if hd∈opsS then .t [.s "term",.t (.s "op"::.s hd::r.map termT)]
  else if hd∈plainS then .t [.s "term",.t (.s hd::r.map termT)]
  else if hd="let" then .t [.s "term",.t (.s "let"::r.headD .n::r.tail.map termT)]
  else if hd="fold" then .t [.s "term",.t [.s "fold",termT (r.getD 0 .n),r.getD 1 .n,r.getD 2 .n,termT (r.getD 3 .n),termT (r.getD 4 .n)]]
  else if hd="row" then .t [.s "term",.t [.s "row",.t (r.map termT)]]
  else if hd="call" then .t [.s "term",.t [.s "call",r.headD .n,.t (r.tail.map termT)]]
  else if hd="match" then .t [.s "term",.t [.s "match",termT (r.headD .n),.t (r.tail.map armX)]]
  else if hd.cps.toList.getLast?=some 58 then .t [.s "term",.t [.s "tag",.s (ofL hd.cps.toList.dropLast),.t (r.map termT)]]
  else .t [.s "arm",.t [.s hd,.t r.dropLast,termT (r.getLast?.getD .n)]]
 |_=>.n
mutual
def val:Bw->T
 |.a w=>.s (ofL w)
 |.g _ ws=>closeT (vals ws)
def vals:List Bw->List T
 | []=>[]
 |x::r=>val x::vals r
end
theorem vals_map:∀ws:List Bw,vals ws=ws.map val
 | []=>rfl
 |x::r=>by unfold vals;rw[vals_map r];rfl
theorem val_g(o:Nat)(ws:List Bw):val (.g o ws)=closeT (ws.map val):=by unfold val;rw[vals_map]
theorem val_atm(x:Str):val (atm x)=.s x:=by unfold atm val;rw[ofL_toList]
theorem term_tv{tm:Tm}(h:TmOk tm):termT (tv tm)=enc tm:=by
 cases hl:leafH tm.hd with
 |false=>rw[tv_g hl];rfl
 |true =>
  cases h with
  |@mk hd ks ar ho hk =>
   cases hd with
   |num n =>
    have ho':0<=n/\n<1000000:=ho
    show termT (.s (ofL (digs n)))=.t [.s "num",.i n]
    rw[termT_s,toList_ofL,if_pos (figB_num ho')]
    have:numT (ofL (digs n))=n:=by
     unfold numT
     rw[show ofL (digs n)=Str.ofString (toString n)from ofL_toList _,PySem.W.KIN.num_reads ho'.1 (by omega)]
     rfl
    rw[this]
   |name x =>
    have hx:nmOk x:=ho
    show termT (.s (ofL x.cps.toList))=.t [.s "name",.s x]
    rw[ofL_toList]
    obtain⟨c0,r0,e0⟩:∃c0 r0,x.cps.toList=c0::r0:=by
     cases e:x.cps.toList with
     |nil=>exact absurd e (nm_ne hx)
     |cons c r=>exact⟨c,r,rfl⟩
    have lw:97<=c0/\c0<=122:=hx.2.2.1 c0 (by rw[e0];exact .head _)
    rw[termT_s,e0,if_neg (by rw[figB_first (by omega)];simp),if_neg (by simp;omega)]
   |gap n =>
    have ho':0<=n/\n<100:=ho
    show termT (.s (ofL (63::digs n)))=.t [.s "gap",.i n]
    rw[termT_s,toList_ofL,if_neg (by rw[figB_first (by omega)];simp),if_pos (show(63::digs n)[0]?=some 63 from rfl)]
    have:numT (ofL (63::digs n).tail)=n:=by
     unfold numT
     rw[show ofL (63::digs n).tail=Str.ofString (toString n)from ofL_toList _,PySem.W.KIN.num_reads ho'.1 (by omega)]
     rfl
    rw[this]
   |_=>cases hl
theorem nm_not{x:Str}(h:nmOk x){s:Str}(hs:s∈keptS):x≠s:=fun e=>h.2.2.2 (e▸hs)
theorem nm_ops{x:Str}(h:nmOk x):x∉opsS:=fun hx=>by
 have all:∀s∈opsS,∃c∈s.cps.toList,¬(97<=c/\c<=122):=by decide +kernel
 obtain⟨c,hc,hn⟩:=all x hx
 exact hn (h.2.2.1 c hc)
theorem nm_last{x:Str}(h:nmOk x):x.cps.toList.getLast?≠some 58:=fun e=>by
 have:=h.2.2.1 58 (List.mem_of_getLast? e)
 unfold low at this
 omega
theorem closeT_s(hd:Str)(r:List T):closeT (.s hd::r)=(if hd∈opsS then .t [.s "term",.t (.s "op"::.s hd::r.map termT)]
  else if hd∈plainS then .t [.s "term",.t (.s hd::r.map termT)]
  else if hd="let" then .t [.s "term",.t (.s "let"::r.headD .n::r.tail.map termT)]
  else if hd="fold" then .t [.s "term",.t [.s "fold",termT (r.getD 0 .n),r.getD 1 .n,r.getD 2 .n,termT (r.getD 3 .n),termT (r.getD 4 .n)]]
  else if hd="row" then .t [.s "term",.t [.s "row",.t (r.map termT)]]
  else if hd="call" then .t [.s "term",.t [.s "call",r.headD .n,.t (r.tail.map termT)]]
  else if hd="match" then .t [.s "term",.t [.s "match",termT (r.headD .n),.t (r.tail.map armX)]]
  else if hd.cps.toList.getLast?=some 58 then .t [.s "term",.t [.s "tag",.s (ofL hd.cps.toList.dropLast),.t (r.map termT)]]
  else .t [.s "arm",.t [.s hd,.t r.dropLast,termT (r.getLast?.getD .n)]]):=rfl
theorem close_op{hd:Str}{r:List T}(h:hd∈opsS):closeT (.s hd::r)=.t [.s "term",.t (.s "op"::.s hd::r.map termT)]:=by
 rw[closeT_s,if_pos h]
theorem close_plain{hd:Str}{r:List T}(h0:hd∉opsS)(h:hd∈plainS):closeT (.s hd::r)=.t [.s "term",.t (.s hd::r.map termT)]:=by
 rw[closeT_s,if_neg h0,if_pos h]
theorem close_let{r:List T}:closeT (.s "let"::r)=.t [.s "term",.t (.s "let"::r.headD .n::r.tail.map termT)]:=by
 rw[closeT_s,if_neg (by decide +kernel),if_neg (by decide +kernel),if_pos rfl]
theorem close_fold{r:List T}:closeT (.s "fold"::r)=.t [.s "term",.t [.s "fold",termT (r.getD 0 .n),r.getD 1 .n,r.getD 2 .n,termT (r.getD 3 .n),termT (r.getD 4 .n)]]:=by
 rw[closeT_s,if_neg (by decide +kernel),if_neg (by decide +kernel),if_neg (by decide +kernel),if_pos rfl]
theorem close_row{r:List T}:closeT (.s "row"::r)=.t [.s "term",.t [.s "row",.t (r.map termT)]]:=by
 rw[closeT_s,if_neg (by decide +kernel),if_neg (by decide +kernel),if_neg (by decide +kernel),if_neg (by decide +kernel),if_pos rfl]
theorem close_call{r:List T}:closeT (.s "call"::r)=.t [.s "term",.t [.s "call",r.headD .n,.t (r.tail.map termT)]]:=by
 rw[closeT_s,if_neg (by decide +kernel),if_neg (by decide +kernel),if_neg (by decide +kernel),if_neg (by decide +kernel),if_neg (by decide +kernel),if_pos rfl]
theorem close_match{r:List T}:closeT (.s "match"::r)=.t [.s "term",.t [.s "match",termT (r.headD .n),.t (r.tail.map armX)]]:=by
 rw[closeT_s,if_neg (by decide +kernel),if_neg (by decide +kernel),if_neg (by decide +kernel),if_neg (by decide +kernel),if_neg (by decide +kernel),if_neg (by decide +kernel),if_pos rfl]
theorem close_else{hd:Str}{r:List T}(h1:hd∉opsS)(h2:hd∉plainS)(h3:hd≠"let")(h4:hd≠"fold")(h5:hd≠"row")(h6:hd≠"call")(h7:hd≠"match"):closeT (.s hd::r) =
  if hd.cps.toList.getLast?=some 58 then .t [.s "term",.t [.s "tag",.s (ofL hd.cps.toList.dropLast),.t (r.map termT)]]else .t [.s "arm",.t [.s hd,.t r.dropLast,termT (r.getLast?.getD .n)]]:=by
 rw[closeT_s,if_neg h1,if_neg h2,if_neg h3,if_neg h4,if_neg h5,if_neg h6,if_neg h7]
theorem nm_plain{x:Str}(h:nmOk x):x∉plainS:=fun hx=>by
 have all:∀s∈plainS,s∈keptS:=by decide +kernel
 exact h.2.2.2 (all x hx)
theorem val_arm{a:Str×List Str}{k:Tm}(h1:nmOk a.1)(hk:TmOk k)(ih:val (bw k)=tv k):val (armB a (bw k))=.t [.s "arm",armT a (enc k)]:=by
 unfold armB
 rw[val_g,List.map_cons,val_atm,close_else (nm_ops h1) (nm_plain h1) (nm_not h1 (by decide +kernel)) (nm_not h1 (by decide +kernel)) (nm_not h1 (by decide +kernel)) (nm_not h1 (by decide +kernel)) (nm_not h1 (by decide +kernel)),if_neg (nm_last h1)]
 have e:(a.2.map atm++[bw k]).map val=a.2.map T.s++[tv k]:=by
  rw[List.map_append,List.map_map]
  show a.2.map (val ∘ atm)++[val (bw k)]=_
  rw[ih]
  congr 1
 rw[e,List.dropLast_concat,List.getLast?_concat,Option.getD_some,term_tv hk]
 rfl
theorem kids_val{ks:List Tm}(ih:∀k∈ks,val (bw k)=tv k):(ks.map bw).map val=ks.map tv:=by
 rw[List.map_map]
 exact List.map_congr_left fun k hk=>ih k hk
theorem kids_term{ks:List Tm}(h:∀k∈ks,TmOk k):(ks.map tv).map termT=ks.map enc:=by
 rw[List.map_map]
 exact List.map_congr_left fun k hk=>term_tv (h k hk)
theorem arms_val:∀{arms:List (Str×List Str)}{ks:List Tm},(∀a∈arms,nmOk a.1)->(∀k∈ks,TmOk k/\val (bw k)=tv k)->((List.zipWith armB arms (ks.map bw)).map val).map armX=List.zipWith armT arms (ks.map enc)
 | [],_,_,_=>by simp
 |_::_,[],_,_=>by simp
 |a::r,k::q,h1,h2=>by
  have ih:=arms_val (arms:=r) (ks:=q) (fun b hb=>h1 b (.tail _ hb)) fun b hb=>h2 b (.tail _ hb)
  obtain⟨ok,ev⟩:=h2 k (.head _)
  rw[List.map_cons,List.zipWith_cons_cons,List.map_cons,List.map_cons,ih,val_arm (h1 a (.head _)) ok ev,List.map_cons,List.zipWith_cons_cons]
  rfl
theorem val_bw{tm:Tm}(h:TmOk tm):val (bw tm)=tv tm:=by
 induction h with
 |@mk hd ks ar ho hk ih =>
  have kv:=kids_val ih
  have kt:=kids_term hk
  cases hl:leafH hd with
  |true =>
   obtain⟨w,e⟩:=bw_leaf (tm:=.mk hd ks) hl
   unfold tv
   rw[e]
   rfl
  |false =>
   rw[tv_g (tm:=.mk hd ks) hl,bw_mk,enc_mk]
   cases hd with
   |num n=>cases hl
   |name x=>cases hl
   |gap n=>cases hl
   |op s=>show val (.g 40 (atm s::ks.map bw))=_;rw[val_g,List.map_cons,val_atm,kv,close_op ho,kt];rfl
   |row=>show val (.g 40 (atm "row"::ks.map bw))=_;rw[val_g,List.map_cons,val_atm,kv,close_row,kt];rfl
   |more=>show val (.g 40 (atm "more"::ks.map bw))=_;rw[val_g,List.map_cons,val_atm,kv,close_plain (by decide +kernel) (by decide +kernel),kt];rfl
   |first=>show val (.g 40 (atm "first"::ks.map bw))=_;rw[val_g,List.map_cons,val_atm,kv,close_plain (by decide +kernel) (by decide +kernel),kt];rfl
   |others=>show val (.g 40 (atm "others"::ks.map bw))=_;rw[val_g,List.map_cons,val_atm,kv,close_plain (by decide +kernel) (by decide +kernel),kt];rfl
   |long=>show val (.g 40 (atm "long"::ks.map bw))=_;rw[val_g,List.map_cons,val_atm,kv,close_plain (by decide +kernel) (by decide +kernel),kt];rfl
   |ife=>show val (.g 40 (atm "if"::ks.map bw))=_;rw[val_g,List.map_cons,val_atm,kv,close_plain (by decide +kernel) (by decide +kernel),kt];rfl
   |call f=>show val (.g 40 (atm "call"::atm f::ks.map bw))=_;rw[val_g,List.map_cons,List.map_cons,val_atm,val_atm,kv,close_call];show T.t [.s "term",.t [.s "call",.s f,.t ((ks.map tv).map termT)]]=_;rw[kt];rfl
   |lt x=>show val (.g 40 (atm "let"::atm x::ks.map bw))=_;rw[val_g,List.map_cons,List.map_cons,val_atm,val_atm,kv,close_let];show T.t [.s "term",.t (.s "let"::.s x::(ks.map tv).map termT)]=_;rw[kt];rfl
   |tag t =>
    have ht:nmOk t:=ho
    show val (.g 40 (.a (t.cps.toList++[58])::ks.map bw))=_
    have e1:val (.a (t.cps.toList++[58]))=.s (ofL (t.cps.toList++[58])):=rfl
    have l58:(ofL (t.cps.toList++[58])).cps.toList.getLast?=some 58:=by rw[toList_ofL];simp
    have n58:∀s:Str,s.cps.toList.getLast?≠some 58->ofL (t.cps.toList++[58])≠s:=fun s hs e=>hs (e▸l58)
    have two:2<=(ofL (t.cps.toList++[58])).length:=by
     rw[ofL_len,List.length_append]
     have:=ht.1
     have e:t.cps.toList.length=t.length:=by show _=t.cps.size;simp
     rw[e]
     show 2<=t.length+1
     omega
    have o1:ofL (t.cps.toList++[58])∉opsS:=fun hx=>by
     have all:∀s∈opsS,s.length=1:=by decide +kernel
     have:=all _ hx
     omega
    have o2:ofL (t.cps.toList++[58])∉plainS:=fun hx=>by
     have all:∀s∈plainS,s.cps.toList.getLast?≠some 58:=by decide +kernel
     exact all _ hx l58
    rw[val_g,List.map_cons,e1,kv,close_else o1 o2 (n58 _ (by decide +kernel)) (n58 _ (by decide +kernel)) (n58 _ (by decide +kernel)) (n58 _ (by decide +kernel)) (n58 _ (by decide +kernel)),if_pos l58,kt,toList_ofL,List.dropLast_concat,ofL_toList]
    rfl
   |mat arms =>
    have arl:ks.length=arms.length+1:=eq_of_beq (show(ks.length == arms.length+1)=true from ar)
    cases ks with
    |nil=>cases arl
    |cons k r =>
     show val (.g 40 (atm "match"::bw k::List.zipWith armB arms (r.map bw)))=_
     rw[val_g,List.map_cons,List.map_cons,val_atm,ih k (.head _),close_match]
     show T.t [.s "term",.t [.s "match",termT (tv k),.t (((List.zipWith armB arms (r.map bw)).map val).map armX)]]=_
     rw[term_tv (hk k (.head _)),arms_val (fun a ha=>(ho a ha).1) fun q hq=>⟨hk q (.tail _ hq),ih q (.tail _ hq)⟩]
     rfl
   |fold x y =>
    have arl:ks.length=3:=eq_of_beq (show(ks.length == 3)=true from ar)
    match ks,arl,ih,hk with
    | [k1,k2,k3],_,ih,hk =>
     show val (.g 40 [atm "fold",bw k1,atm x,atm y,bw k2,bw k3])=_
     rw[val_g]
     show closeT [val (atm "fold"),val (bw k1),val (atm x),val (atm y),val (bw k2),val (bw k3)]=_
     rw[val_atm,val_atm,val_atm,ih k1 (by simp),ih k2 (by simp),ih k3 (by simp),close_fold]
     show T.t [.s "term",.t [.s "fold",termT (tv k1),.s x,.s y,termT (tv k2),termT (tv k3)]]=_
     rw[term_tv (hk k1 (by simp)),term_tv (hk k2 (by simp)),term_tv (hk k3 (by simp))]
     rfl
end G08
namespace L2
open PySem PySem.Spec PyProof.Rows
theorem mt_endswith{X:Cx}:MtR X "str.endswith" (fun x vs H Q=>∃z y,x=.str z/\vs=[.str y]/\Q (.bl (Txt.endswith z y)) H):=by
 intro pins s σ H x xs v us Q I rx rs h
 obtain⟨z,y,rfl,rfl,q⟩:=h
 obtain⟨t,rfl⟩:=rx
 obtain⟨u,rfl,t',rfl⟩:=vals1 rs
 exact call_gives F.slot_str_endswith (typeIs_str _ _ _) F.entry_str_endswith (F.args_str_endswith_2 _ _) (gives_str_endswith z y t t') ⟨.bl _,H,I,rfl,q⟩
theorem ends_one(l:List Nat)(k:Nat):Txt.endswith (ofL l) ⟨#[k]⟩=decide (l.getLast?=some k):=by
 have h:=StrLaws.subAt_one (ofL l) k ((ofL l).length-1)
 rw[toList_ofL]at h
 have e0:l.getLast?=l[(ofL l).length-1]?:=by rw[List.getLast?_eq_getElem?,ofL_len]
 show(decide (0+1<=(ofL l).length)&&Builtin.Str.subAt (ofL l) ⟨#[k]⟩ ((ofL l).length-1))=_
 by_cases e:l[(ofL l).length-1]?=some k
 ·have h1:=h.mpr e
  have hl:0+1<=(ofL l).length:=by
   have:=h1.1
   have z:(ofL l).length-1+1<=(ofL l).length:=this
   omega
  rw[e0,decide_eq_true e,decide_eq_true hl,h1.2]
  rfl
 ·rw[e0,decide_eq_false e]
  by_cases hl:0+1<=(ofL l).length
  ·cases h2:Builtin.Str.subAt (ofL l) ⟨#[k]⟩ ((ofL l).length-1)with
   |false=>rw[Bool.and_false]
   |true=>exact absurd (h.mp ⟨by show(ofL l).length-1+1<=_;omega,h2⟩) e
  ·rw[decide_eq_false hl]
   rfl
end L2
namespace G08
open PySem L2
theorem at0{α:Type}(v:α)(q:List α):atI (v::q) 0=some v:=atI_nat (j:=0) rfl
theorem cut_tl(v:V)(q:List V):cutV (v::q) (some 1) none=q:=cut_fromL (v::q) 1
theorem hd_eq{s hd:Str}(h:atm s=.a hd.cps.toList):hd=s:=by
 injection h with e
 rw[←ofL_toList hd,←e,ofL_toList]
abbrev opsV8:List V:=opsS.map V.str
theorem ops_in{x:Str}(h:x∈opsS):inV (.str x) opsV8=true:=by
 unfold inV
 rw[List.any_eq_true]
 exact⟨.str x,List.mem_map_of_mem h,show(x == x)=true from beq_self_eq_true x⟩
theorem ops_out{x:Str}(h:x∉opsS):inV (.str x) opsV8=false:=by
 unfold inV
 rw[List.any_eq_false]
 intro y hy e
 obtain⟨z,hz,rfl⟩:=List.mem_map.mp hy
 have:z=x:=eq_of_beq (show(z == x)=true from e)
 exact h (this▸hz)
theorem ops_flat:opsV8.all flatV=true:=by decide +kernel
def shpD(s1 s2 s3 s4 s5 s6 s7:Addr):List (Str×V):=[("more",.ref s1),("first",.ref s2),("others",.ref s3),("long",.ref s4),("if",.ref s5),("let",.ref s6),("fold",.ref s7)]
def shpS:List Str:=["more","first","others","long","if","let","fold"]
theorem shp_none{x:Str}(s1 s2 s3 s4 s5 s6 s7:Addr)(h:x∉shpS):(shpD s1 s2 s3 s4 s5 s6 s7).lookup x=none:=by
 have n:∀s∈shpS,(x == s)=false:=fun s hs=>beq_eq_false_iff_ne.mpr fun e=>h (e▸hs)
 unfold shpD
 simp only[List.lookup_cons,n _ (show("more":Str)∈shpS by decide +kernel),n _ (show("first":Str)∈shpS by decide +kernel),n _ (show("others":Str)∈shpS by decide +kernel),n _ (show("long":Str)∈shpS by decide +kernel),n _ (show("if":Str)∈shpS by decide +kernel),n _ (show("let":Str)∈shpS by decide +kernel),n _ (show("fold":Str)∈shpS by decide +kernel)]
 rfl
theorem shp_kept:∀s∈shpS,s∈keptS:=by decide +kernel
theorem shp_ops:∀s∈shpS,s∉opsS:=by decide +kernel
theorem nm_shp{x:Str}(h:nmOk x):x∉shpS:=fun hx=>h.2.2.2 (shp_kept x hx)
theorem op_inv{h:Hd}{ks:List Tm}{hd:Str}{ws:List Bw}{s:Str}{l:List Bw}(e:bwH h (ks.map bw)=.g 40 (atm s::l))(eb:bw (.mk h ks)=.g 40 (.a hd.cps.toList::ws)):hd=s/\ws=l:=by
 rw[bw_mk,e]at eb
 injection eb with _ e2
 injection e2 with e3 e4
 exact⟨hd_eq e3,e4.symm⟩
theorem tag_inv{ks:List Tm}{hd:Str}{ws:List Bw}{t:Str}(eb:bw (.mk (.tag t) ks)=.g 40 (.a hd.cps.toList::ws)):hd=ofL (t.cps.toList++[58])/\ws=ks.map bw:=by
 rw[bw_mk]at eb
 injection eb with _ e2
 injection e2 with e3 e4
 injection e3 with e5
 exact⟨by rw[e5,ofL_toList],e4.symm⟩
theorem tag_facts{t:Str}(ht:nmOk t):ofL (t.cps.toList++[58])∉opsS/\ofL (t.cps.toList++[58])∉shpS/\ofL (t.cps.toList++[58])∉keptS/\Txt.endswith (ofL (t.cps.toList++[58])) ":"=true:=by
 have l58:(ofL (t.cps.toList++[58])).cps.toList.getLast?=some 58:=by rw[toList_ofL];simp
 have two:2<=(ofL (t.cps.toList++[58])).length:=by
  rw[ofL_len,List.length_append]
  have:=ht.1
  have e:t.cps.toList.length=t.length:=by show _=t.cps.size;simp
  rw[e]
  show 2<=t.length+1
  omega
 have k:ofL (t.cps.toList++[58])∉keptS:=fun hx=>by
  have all:∀s∈keptS,s.cps.toList.getLast?≠some 58:=by decide +kernel
  exact all _ hx l58
 refine⟨fun hx=>?_,fun hx=>k (shp_kept _ hx),k,?_⟩
 ·have all:∀s∈opsS,s.length=1:=by decide +kernel
  have:=all _ hx
  omega
 ·show Txt.endswith _ ⟨#[58]⟩=true
  rw[ends_one]
  exact decide_eq_true (by simp)
theorem name_ends{x:Str}(h:nmOk x):Txt.endswith x ":"=false:=by
 rw[←ofL_toList x]
 show Txt.endswith _ ⟨#[58]⟩=false
 rw[ends_one]
 exact decide_eq_false (nm_last h)
theorem sNe{x s:Str}(h:x≠s):decide (V.str x=V.str s)=false:=decide_eq_false fun e=>h (by injection e)
end G08
namespace G08
theorem ex1{α:Type}{l:List α}(h:l.length=1):∃a,l=[a]:=by
 cases l with
 |nil=>cases h
 |cons a r=>exact⟨a,by rw[List.length_eq_zero_iff.mp (Nat.succ.inj h)]⟩
theorem ex2{α:Type}{l:List α}(h:l.length=2):∃a b,l=[a,b]:=by
 cases l with
 |nil=>cases h
 |cons a r =>
  obtain⟨b,rfl⟩:=ex1 (Nat.succ.inj h)
  exact⟨a,b,rfl⟩
theorem ex3{α:Type}{l:List α}(h:l.length=3):∃a b c,l=[a,b,c]:=by
 cases l with
 |nil=>cases h
 |cons a r =>
  obtain⟨b,c,rfl⟩:=ex2 (Nat.succ.inj h)
  exact⟨a,b,c,rfl⟩
end G08
namespace G08
open PySem L2
def armV(p:(Str×List Str)×Tm):T:=.t [.s "arm",armT p.1 (enc p.2)]
theorem arms_vals:∀{arms:List (Str×List Str)}{ks:List Tm},(∀a∈arms,nmOk a.1)->(∀k∈ks,TmOk k)->(List.zipWith armB arms (ks.map bw)).map val=(arms.zip ks).map armV
 | [],_,_,_=>by simp
 |_::_,[],_,_=>by simp
 |a::r,k::q,h1,h2=>by
  have ih:=arms_vals (arms:=r) (ks:=q) (fun b hb=>h1 b (.tail _ hb)) fun b hb=>h2 b (.tail _ hb)
  have ok:=h2 k (.head _)
  rw[List.map_cons,List.zipWith_cons_cons,List.map_cons,ih,val_arm (h1 a (.head _)) ok (val_bw ok)]
  rfl
theorem arms_encs:∀(arms:List (Str×List Str)) (ks:List Tm),(arms.zip ks).map (fun p=>armT p.1 (enc p.2))=List.zipWith armT arms (ks.map enc)
 | [],_=>by simp
 |_::_,[]=>by simp
 |a::r,k::q=>by
  rw[List.zip_cons_cons,List.map_cons,arms_encs r q,List.map_cons,List.zipWith_cons_cons]
theorem cut_not(xs:List V)(j:Nat)(hj:1<=j)(hx:1<=xs.length):¬(HT.sIx xs.length 0 (some (j:Int))=0/\HT.sIx xs.length xs.length none=xs.length):=fun z=>by
 have:=z.1
 rw[HT.sIx_nat]at this
 omega
theorem ops_of:∀c∈("+-*:<=":Str).cps.toList,(⟨#[c]⟩:Str)∈opsS:=by decide +kernel
theorem cut_not2(a b:V)(us:List V):¬(HT.sIx (a::b::us).length 0 (some ((2:Nat):Int))=0/\HT.sIx (a::b::us).length (a::b::us).length none=(a::b::us).length):=cut_not _ 2 (by decide) (by simp)
mutual
def sml:Bw->Prop
 |.a _=>True
 |.g _ ws=>ws.length<=900/\smls ws
def smls:List Bw->Prop
 | []=>True
 |x::r=>sml x/\smls r
end
theorem smls_all:∀{ws:List Bw},smls ws->∀x∈ws,sml x
 | [],_,_,h=>nomatch h
 |y::r,h,x,hx=>by
  unfold smls at h
  cases hx with
  |head=>exact h.1
  |tail _ hx=>exact smls_all h.2 x hx
theorem smls_of:∀{ws:List Bw},(∀x∈ws,sml x)->smls ws
 | [],_=>by unfold smls;trivial
 |y::r,h=>by unfold smls;exact⟨h y (.head _),smls_of fun x hx=>h x (.tail _ hx)⟩
theorem sml_g{o:Nat}{ws:List Bw}(h1:ws.length<=900)(h:∀x∈ws,sml x):sml (.g o ws):=by unfold sml;exact⟨h1,smls_of h⟩
theorem sml_a(w:List Nat):sml (.a w):=by unfold sml;trivial
def Gd2(b:Bw):Prop:=Gd b/\sml b
theorem Gd2.her:∀o ws,Gd2 (.g o ws)->∀x∈ws,Gd2 x:=fun o ws h x hx=>⟨Gd.her o ws h.1 x hx,by
 have:=h.2
 unfold sml at this
 exact smls_all this.2 x hx⟩
def wdH:Hd->Prop
 |.mat arms=>∀a∈arms,a.2.length<=800
 |_=>True
inductive Wd:Tm->Prop
 |mk {h:Hd}{ks:List Tm}:ks.length<=800->wdH h->(∀k∈ks,Wd k)->Wd (.mk h ks)
theorem arm_sml{a:Str×List Str}{k:Bw}(h:a.2.length<=800)(hk:sml k):sml (armB a k):=by
 refine sml_g ?_ fun x hx=>?_
 ·simp only[List.length_cons,List.length_append,List.length_map,List.length_nil];omega
 ·rcases List.mem_cons.mp hx with rfl|hx
  ·exact sml_a _
  rcases List.mem_append.mp hx with hx|hx
  ·obtain⟨s,_,rfl⟩:=List.mem_map.mp hx
   exact sml_a _
  ·rw[List.mem_singleton.mp hx];exact hk
theorem bw_sml{tm:Tm}(h:Wd tm):sml (bw tm):=by
 induction h with
 |@mk hd ks hl hw hk ih =>
  have kk:∀x∈ks.map bw,sml x:=fun x hx=>by
   obtain⟨k,h1,rfl⟩:=List.mem_map.mp hx
   exact ih k h1
  have ll:(ks.map bw).length<=800:=by rw[List.length_map];exact hl
  have one:∀(x:Bw),sml x->sml (.g 40 (x::ks.map bw)):=fun x hx=>sml_g (by rw[List.length_cons];omega) fun y hy=>(List.mem_cons.mp hy).elim (fun e=>e▸hx) (kk y)
  have two:∀(x y:Bw),sml x->sml y->sml (.g 40 (x::y::ks.map bw)):=fun x y hx hy=>sml_g (by rw[List.length_cons,List.length_cons];omega) fun z hz=>(List.mem_cons.mp hz).elim (fun e=>e▸hx) fun hz=>(List.mem_cons.mp hz).elim (fun e=>e▸hy) (kk z)
  have gt:∀i,sml ((ks.map bw).getD i (.a [])):=fun i=>by
   rw[List.getD_eq_getElem?_getD]
   cases e:(ks.map bw)[i]? with
   |none=>exact sml_a _
   |some x=>exact kk x (List.mem_of_getElem? e)
  rw[bw_mk]
  cases hd with
  |num n=>exact sml_a _
  |name x=>exact sml_a _
  |gap n=>exact sml_a _
  |op s=>exact one _ (sml_a _)
  |row=>exact one _ (sml_a _)
  |more=>exact one _ (sml_a _)
  |first=>exact one _ (sml_a _)
  |others=>exact one _ (sml_a _)
  |long=>exact one _ (sml_a _)
  |tag t=>exact one _ (sml_a _)
  |ife=>exact one _ (sml_a _)
  |call f=>exact two _ _ (sml_a _) (sml_a _)
  |lt x=>exact two _ _ (sml_a _) (sml_a _)
  |fold x y =>
   refine sml_g (Nat.le_of_ble_eq_true rfl) fun z hz=>?_
   simp only[List.mem_cons,List.not_mem_nil,or_false]at hz
   rcases hz with rfl|rfl|rfl|rfl|rfl|rfl
   ·exact sml_a _
   ·exact gt 0
   ·exact sml_a _
   ·exact sml_a _
   ·exact gt 1
   ·exact gt 2
  |mat arms =>
   refine sml_g ?_ fun z hz=>?_
   ·have l1:(List.zipWith armB arms (ks.map bw).tail).length<=(ks.map bw).tail.length:=by rw[List.length_zipWith];exact Nat.min_le_right _ _
    rw[List.length_tail]at l1
    rw[List.length_cons,List.length_cons]
    omega
   ·rcases List.mem_cons.mp hz with rfl|hz
    ·exact sml_a _
    rcases List.mem_cons.mp hz with rfl|hz
    ·cases e:ks.map bw with
     |nil=>exact sml_a _
     |cons x r=>exact kk x (by rw[e];exact .head _)
    ·obtain⟨a,k,h1,h2,rfl⟩:=zip_mem (a:=("",[])) hz
     exact arm_sml (hw a h1) (kk k (List.mem_of_mem_tail h2))
theorem gd_inv {c : Nat} {ws : List Bw} (h : Gd (.g c ws)) : c = 40 ∧
    ((∃ (hd : Str) (h : Hd) (ks : List Tm) (ws' : List Bw), TmOk (.mk h ks) ∧ leafH h = false ∧ bw (.mk h ks) = .g 40 (.a hd.cps.toList :: ws') ∧ ws = .a hd.cps.toList :: ws') ∨
     (∃ (a : Str × List Str) (k : Tm), nmOk a.1 ∧ (∀ x ∈ a.2, nmOk x) ∧ TmOk k ∧ Bw.g c ws = armB a (bw k) ∧ ws = atm a.1 :: (a.2.map atm ++ [bw k]))) := by
  generalize eb : Bw.g c ws = b at h
  cases h with
  | a w => cases eb
  | @r a k h1 h2 h3 =>
    have eb' := eb
    unfold armB at eb
    injection eb with e1 e2
    exact ⟨e1, .inr ⟨a, k, h1, h2, h3, rfl, e2⟩⟩
  | @t tm ht =>
    obtain ⟨h, ks⟩ := tm
    cases hl : leafH h with
    | true =>
      obtain ⟨w, e⟩ := bw_leaf (tm := .mk h ks) hl
      rw [e] at eb
      cases eb
    | false =>
      have key : ∃ (s : List Nat) (ws' : List Bw), bwH h (ks.map bw) = .g 40 (.a s :: ws') := by
        cases h <;> first | exact ⟨_, _, rfl⟩ | cases hl
      obtain ⟨s, ws', e⟩ := key
      have e' := e
      rw [← bw_mk] at e
      rw [e] at eb
      injection eb with e1 e2
      refine ⟨e1, .inl ⟨ofL s, h, ks, ws', ht, hl, ?_, ?_⟩⟩
      · rw [toList_ofL]; exact e
      · rw [toList_ofL]; exact e2
theorem vls_map:∀{ws:List Bw}{ts:List T},Vls (fun b t=>t=val b) ws ts->ts=ws.map val
 | [],ts,h=>by
  have:ts=[]:=h
  rw[this];rfl
 |x::r,ts,h=>by
  obtain⟨t,q,rfl,e,h2⟩:=h
  rw[List.map_cons,vls_map h2,e]
theorem cut_in(v:V)(us:List V)(u:V):cutV (v::(us++[u])) (some 1) (some (-1))=us:=by
 have h:(-1+(((us.length:Nat):Int)+1+1)).toNat=us.length+1:=by omega
 unfold cutV HT.sIx
 simp
 rw[h]
 simp
theorem Rps.snoc_inv{K:PySem.W.Frag}{H:Hp}:∀{ts:List T}{t:T}{us:List V},Rps K H (ts++[t]) us->∃vs v,us=vs++[v]/\Rps K H ts vs/\Rp K H t v
 | [],t,us,h=>by
  obtain⟨v,r,rfl,g1,g2⟩:=h.inv
  obtain rfl:=g2.inv0
  exact⟨[],v,rfl,.nil,g1⟩
 |x::q,t,us,h=>by
  obtain⟨v,r,rfl,g1,g2⟩:=L2.Rps.inv h
  obtain⟨vs,u,rfl,h1,h2⟩:=Rps.snoc_inv g2
  exact⟨v::vs,u,rfl,.cons g1 h1,h2⟩
end G08
namespace G08
open PySem L2
def sepX:List Sx->List Sx
 | []=>[]
 |x::r=>x::r.flatMap fun y=>[.inr " ",y]
def brk(xs:List Sx):List Sx:=.inr "("::(sepX xs++[.inr ")"])
def armP(a:Str×List Str)(k:Tm):List Sx:=.inr " "::brk (.inr a.1::(a.2.map .inr++[.inl k]))
def kd(ks:List Tm):List Sx:=ks.map .inl
def pcsH:Hd->List Tm->List Sx
 |.num n,_=>[.inr (ofL (digs n))]
 |.name x,_=>[.inr x]
 |.gap n,_=>[.inr (ofL (63::digs n))]
 |.op s,ks=>brk (.inr s::kd ks)
 |.row,ks=>brk (.inr "row"::kd ks)
 |.more,ks=>brk (.inr "more"::kd ks)
 |.first,ks=>brk (.inr "first"::kd ks)
 |.others,ks=>brk (.inr "others"::kd ks)
 |.long,ks=>brk (.inr "long"::kd ks)
 |.tag t,ks=>brk (.inr (ofL (t.cps.toList++[58]))::kd ks)
 |.call f,ks=>brk (.inr "call"::.inr f::kd ks)
 |.mat arms,ks=>.inr "(match "::.inl (ks.headD (.mk .row []))::((arms.zip ks.tail).flatMap (fun z=>armP z.1 z.2)++[.inr ")"])
 |.ife,ks=>brk (.inr "if"::kd ks)
 |.lt x,ks=>brk (.inr "let"::.inr x::kd ks)
 |.fold x y,ks=>brk [.inr "fold",.inl (ks.getD 0 (.mk .row [])),.inr x,.inr y,.inl (ks.getD 1 (.mk .row [])),.inl (ks.getD 2 (.mk .row []))]
def pcs:Tm->List Sx
 |.mk h ks=>pcsH h ks
def sxL:Sx->List Nat
 |.inl t=>(bw t).txt
 |.inr x=>x.cps.toList
def sxB:Sx->Bw
 |.inl t=>bw t
 |.inr x=>atm x
theorem sxB_txt(x:Sx):(sxB x).txt=sxL x:=by
 cases x with
 |inl t=>rfl
 |inr x=>unfold sxB atm Bw.txt;rfl
theorem txtr_map:∀r:List Sx,Bw.txtr (r.map sxB)=(r.flatMap fun y=>([.inr " ",y]:List Sx)).flatMap sxL
 | []=>rfl
 |x::r=>by
  rw[List.map_cons,List.flatMap_cons,List.flatMap_append]
  unfold Bw.txtr
  rw[txtr_map r,sxB_txt,List.flatMap_cons,List.flatMap_cons]
  show _=([32]++(sxL x++[]))++_
  simp
theorem txts_map:∀xs:List Sx,Bw.txts (xs.map sxB)=(sepX xs).flatMap sxL
 | []=>rfl
 |x::r=>by
  rw[List.map_cons]
  unfold Bw.txts
  rw[txtr_map r,sxB_txt]
  rfl
theorem brk_txt(xs:List Sx):(Bw.g 40 (xs.map sxB)).txt=(brk xs).flatMap sxL:=by
 unfold Bw.txt
 rw[txts_map]
 show _=[40]++(sepX xs++([.inr ")"]:List Sx)).flatMap sxL
 rw[List.flatMap_append]
 rfl
theorem kd_map(ks:List Tm):(kd ks).map sxB=ks.map bw:=by unfold kd;rw[List.map_map];rfl
theorem armP_txt(a:Str×List Str)(k:Tm):32::(armB a (bw k)).txt=(armP a k).flatMap sxL:=by
 have:=brk_txt (.inr a.1::(a.2.map .inr++[.inl k]))
 unfold armP
 rw[List.flatMap_cons,←this]
 show 32::_=32::_
 congr 3
 unfold armB
 rw[List.map_cons,List.map_append,List.map_map]
 rfl
theorem arms_txt:∀(arms:List (Str×List Str)) (ks:List Tm),Bw.txtr (List.zipWith armB arms (ks.map bw))=((arms.zip ks).flatMap (fun z=>armP z.1 z.2)).flatMap sxL
 | [],_=>by simp[Bw.txtr]
 |_::_,[]=>by simp[Bw.txtr]
 |a::r,k::q=>by
  rw[List.map_cons,List.zipWith_cons_cons,List.zip_cons_cons,List.flatMap_cons,List.flatMap_append,←arms_txt r q,←armP_txt]
  conv=>lhs;unfold Bw.txtr
  rfl
theorem pcs_txt{tm:Tm}(h:TmOk tm):(pcs tm).flatMap sxL=(bw tm).txt:=by
 cases h with
 |@mk hd ks ar ho hk =>
  rw[bw_mk]
  show(pcsH hd ks).flatMap sxL=_
  have one:∀s:Str,(brk (.inr s::kd ks)).flatMap sxL=(Bw.g 40 (atm s::ks.map bw)).txt:=fun s=>by rw[←brk_txt,List.map_cons,kd_map];rfl
  have two:∀s x:Str,(brk (.inr s::.inr x::kd ks)).flatMap sxL=(Bw.g 40 (atm s::atm x::ks.map bw)).txt:=fun s x=>by rw[←brk_txt,List.map_cons,List.map_cons,kd_map];rfl
  cases hd with
  |num n=>show sxL (.inr (ofL (digs n)))++[]=(Bw.a (digs n)).txt;rw[List.append_nil];unfold Bw.txt;exact toList_ofL _
  |name x=>show sxL (.inr x)++[]=(Bw.a x.cps.toList).txt;rw[List.append_nil];unfold Bw.txt;rfl
  |gap n=>show sxL (.inr (ofL (63::digs n)))++[]=(Bw.a (63::digs n)).txt;rw[List.append_nil];unfold Bw.txt;exact toList_ofL _
  |op s=>exact one s
  |row=>exact one "row"
  |more=>exact one "more"
  |first=>exact one "first"
  |others=>exact one "others"
  |long=>exact one "long"
  |ife=>exact one "if"
  |call f=>exact two "call" f
  |lt x=>exact two "let" x
  |tag t =>
   have e:=one (ofL (t.cps.toList++[58]))
   unfold atm at e
   rw[toList_ofL]at e
   exact e
  |fold x y =>
   have arl:ks.length=3:=eq_of_beq (show(ks.length == 3)=true from ar)
   obtain⟨k1,k2,k3,rfl⟩:=ex3 arl
   exact(brk_txt [.inr "fold",.inl k1,.inr x,.inr y,.inl k2,.inl k3]).symm
  |mat arms =>
   have arl:ks.length=arms.length+1:=eq_of_beq (show(ks.length == arms.length+1)=true from ar)
   cases ks with
   |nil=>cases arl
   |cons k r =>
    show(.inr "(match "::.inl k::((arms.zip r).flatMap (fun z=>armP z.1 z.2)++[.inr ")"]):List Sx).flatMap sxL=(Bw.g 40 (atm "match"::bw k::List.zipWith armB arms (r.map bw))).txt
    unfold Bw.txt
    conv=>rhs;unfold Bw.txts
    conv=>rhs;unfold Bw.txtr
    rw[List.flatMap_cons,List.flatMap_cons,List.flatMap_append,←arms_txt,show(atm "match").txt=("match":Str).cps.toList by unfold atm Bw.txt;rfl]
    show("(match ":Str).cps.toList++((bw k).txt++(Bw.txtr (List.zipWith armB arms (r.map bw))++[41]))=_
    rw[show("(match ":Str).cps.toList=40::(("match":Str).cps.toList++[32]) by decide +kernel]
    simp[clo]
def pcOk:Sx->Prop
 |.inl t=>TmOk t/\Wd t
 |.inr x=>x.cps.toList≠[]
theorem sepX_ok{xs:List Sx}(h:∀x∈xs,pcOk x):∀x∈sepX xs,pcOk x:=by
 cases xs with
 |nil=>exact fun _ h=>nomatch h
 |cons y r =>
  intro x hx
  rcases List.mem_cons.mp hx with rfl|hx
  ·exact h _ (.head _)
  ·obtain⟨z,hz,hx⟩:=List.mem_flatMap.mp hx
   rcases List.mem_cons.mp hx with rfl|hx
   ·show(" ":Str).cps.toList≠[]
    decide +kernel
   ·rw[List.mem_singleton.mp hx];exact h z (.tail _ hz)
theorem brk_ok{xs:List Sx}(h:∀x∈xs,pcOk x):∀x∈brk xs,pcOk x:=fun x hx=>by
 rcases List.mem_cons.mp hx with rfl|hx
 ·show("(":Str).cps.toList≠[]
  decide +kernel
 rcases List.mem_append.mp hx with hx|hx
 ·exact sepX_ok h x hx
 ·rw[List.mem_singleton.mp hx]
  show(")":Str).cps.toList≠[]
  decide +kernel
theorem wd_kids{h:Hd}{ks:List Tm}(w:Wd (.mk h ks)):∀k∈ks,Wd k:=by
 cases w with
 |mk _ _ hk=>exact hk
theorem wd_len{h:Hd}{ks:List Tm}(w:Wd (.mk h ks)):ks.length<=800:=by
 cases w with
 |mk hl _ _=>exact hl
theorem wd_hd{h:Hd}{ks:List Tm}(w:Wd (.mk h ks)):wdH h:=by
 cases w with
 |mk _ hw _=>exact hw
theorem kw_ne:∀s∈(["row","more","first","others","long","call","match","if","let","fold","+","-","*",":","<","=","(match ",")"," "]:List Str),s.cps.toList≠[]:=by decide +kernel
theorem pcs_ok{tm:Tm}(h:TmOk tm)(w:Wd tm):∀x∈pcs tm,pcOk x:=by
 cases h with
 |@mk hd ks ar ho hk =>
  have wk:=wd_kids w
  have kk:∀k∈ks,pcOk (.inl k):=fun k h1=>⟨hk k h1,wk k h1⟩
  have kds:∀x∈kd ks,pcOk x:=fun x hx=>by
   obtain⟨k,h1,rfl⟩:=List.mem_map.mp hx
   exact kk k h1
  have gt:∀i,i<ks.length->pcOk (.inl (ks.getD i (.mk .row []))):=fun i hi=>by
   rw[List.getD_eq_getElem?_getD,List.getElem?_eq_getElem hi]
   exact kk _ (List.getElem_mem hi)
  have st:∀{s:Str},s.cps.toList≠[]->pcOk (.inr s):=fun h=>h
  have one:∀s:Str,s.cps.toList≠[]->∀x∈brk (.inr s::kd ks),pcOk x:=fun s hs=>brk_ok fun x hx=>(List.mem_cons.mp hx).elim (fun e=>e▸st hs) (kds x)
  have two:∀s y:Str,s.cps.toList≠[]->y.cps.toList≠[]->∀x∈brk (.inr s::.inr y::kd ks),pcOk x:=fun s y hs hy=>brk_ok fun x hx=>(List.mem_cons.mp hx).elim (fun e=>e▸st hs) fun hx=>(List.mem_cons.mp hx).elim (fun e=>e▸st hy) (kds x)
  show ∀x∈pcsH hd ks,pcOk x
  cases hd with
  |num n =>
   intro x hx
   rw[List.mem_singleton.mp hx]
   show(ofL (digs n)).cps.toList≠[]
   obtain⟨a,r,e,_⟩:=digs_big (show 0<=n/\n<1000000 from ho)
   rw[toList_ofL,e];simp
  |name y =>
   intro x hx
   rw[List.mem_singleton.mp hx]
   exact nm_ne (show nmOk y from ho)
  |gap n =>
   intro x hx
   rw[List.mem_singleton.mp hx]
   show(ofL (63::digs n)).cps.toList≠[]
   rw[toList_ofL];simp
  |op s=>exact one s (kw_ne s (by have:s∈opsS:=ho;unfold opsS at this;simp only[List.mem_cons,List.not_mem_nil,or_false]at this⊢;rcases this with h|h|h|h|h|h<;>simp[h]))
  |row=>exact one _ (kw_ne _ (by simp))
  |more=>exact one _ (kw_ne _ (by simp))
  |first=>exact one _ (kw_ne _ (by simp))
  |others=>exact one _ (kw_ne _ (by simp))
  |long=>exact one _ (kw_ne _ (by simp))
  |ife=>exact one _ (kw_ne _ (by simp))
  |tag t=>exact one _ (by rw[toList_ofL];simp)
  |call f=>exact two _ _ (kw_ne _ (by simp)) (nm_ne (show nmOk f from ho))
  |lt x=>exact two _ _ (kw_ne _ (by simp)) (nm_ne (show nmOk x from ho))
  |fold x y =>
   have arl:ks.length=3:=eq_of_beq (show(ks.length == 3)=true from ar)
   refine brk_ok fun z hz=>?_
   simp only[List.mem_cons,List.not_mem_nil,or_false]at hz
   rcases hz with rfl|rfl|rfl|rfl|rfl|rfl
   ·exact kw_ne "fold" (by simp)
   ·exact gt 0 (by omega)
   ·exact nm_ne (show nmOk x from ho.1)
   ·exact nm_ne (show nmOk y from ho.2)
   ·exact gt 1 (by omega)
   ·exact gt 2 (by omega)
  |mat arms =>
   have arl:ks.length=arms.length+1:=eq_of_beq (show(ks.length == arms.length+1)=true from ar)
   cases ks with
   |nil=>cases arl
   |cons k r =>
    intro x hx
    rcases List.mem_cons.mp hx with rfl|hx
    ·exact kw_ne "(match " (by simp)
    rcases List.mem_cons.mp hx with rfl|hx
    ·exact kk k (.head _)
    rcases List.mem_append.mp hx with hx|hx
    ·obtain⟨⟨a,q⟩,hz,hx⟩:=List.mem_flatMap.mp hx
     have z1:a∈arms:=(List.of_mem_zip hz).1
     have z2:q∈r:=(List.of_mem_zip hz).2
     obtain⟨n1,n2⟩:=(show ∀a∈arms,nmOk a.1/\∀x∈a.2,nmOk x from ho) a z1
     rcases List.mem_cons.mp hx with rfl|hx
     ·exact kw_ne " " (by simp)
     ·refine brk_ok (fun y hy=>?_) x hx
      rcases List.mem_cons.mp hy with rfl|hy
      ·exact nm_ne n1
      rcases List.mem_append.mp hy with hy|hy
      ·obtain⟨u,hu,rfl⟩:=List.mem_map.mp hy
       exact nm_ne (n2 u hu)
      ·rw[List.mem_singleton.mp hy];exact kk q (.tail _ z2)
    ·rw[List.mem_singleton.mp hx];exact kw_ne ")" (by simp)
theorem pcs_first(tm:Tm):∃s r,pcs tm=Sum.inr s::r:=by
 obtain⟨h,ks⟩:=tm
 cases h<;>exact⟨_,_,rfl⟩
def mu:Sx->Nat
 |.inl t=>2*(bw t).txt.length
 |.inr x=>x.cps.toList.length
def mus:List Sx->Nat
 | []=>0
 |x::r=>mu x+mus r
theorem mus_app:∀a b:List Sx,mus (a++b)=mus a+mus b
 | [],b=>by rw[List.nil_append];show _=0+_;omega
 |x::r,b=>by
  show mu x+mus (r++b)=mu x+mus r+mus b
  rw[mus_app r b];omega
theorem mu_le(x:Sx):mu x<=2*(sxL x).length:=by
 cases x with
 |inl t=>exact Nat.le_refl _
 |inr x=>show x.cps.toList.length<=2*x.cps.toList.length;omega
theorem mus_le:∀xs:List Sx,mus xs<=2*(xs.flatMap sxL).length
 | []=>Nat.zero_le _
 |x::r=>by
  rw[List.flatMap_cons,List.length_append]
  show mu x+mus r<=_
  have:=mu_le x
  have:=mus_le r
  omega
theorem mus_pcs{tm:Tm}(h:TmOk tm)(w:Wd tm):mus (pcs tm)<mu (.inl tm):=by
 have e:=pcs_txt h
 obtain⟨s,r,ep⟩:=pcs_first tm
 have ok:=pcs_ok h w (.inr s) (by rw[ep];exact .head _)
 have hl:0<s.cps.toList.length:=List.length_pos_iff.mpr ok
 have:=mus_le r
 show _<2*(bw tm).txt.length
 rw[←e,ep,List.flatMap_cons,List.length_append]
 show s.cps.toList.length+mus r<2*(s.cps.toList.length+_)
 omega
theorem txt_ne{tm:Tm}(h:TmOk tm):0<(bw tm).txt.length:=by
 obtain⟨s,r,ep⟩:=pcs_first tm
 have e:=pcs_txt h
 have:s.cps.toList≠[]:=by
  cases h with
  |@mk hd ks ar ho hk =>
   have g1:("(":Str).cps.toList≠[]:=by decide +kernel
   have g2:("(match ":Str).cps.toList≠[]:=by decide +kernel
   have key:∀s' r',pcsH hd ks=.inr s'::r'->s'.cps.toList≠[]->s.cps.toList≠[]:=fun s' r' e h=>by
    have ep':pcsH hd ks=.inr s::r:=ep
    rw[e]at ep'
    injection ep' with e1 _
    injection e1 with e1
    rw[←e1];exact h
   cases hd with
   |num n =>
    obtain⟨a,r,e,_⟩:=digs_big (show 0<=n/\n<1000000 from ho)
    exact key _ _ rfl (by rw[toList_ofL,e];simp)
   |name x=>exact key _ _ rfl (nm_ne (show nmOk x from ho))
   |gap n=>exact key _ _ rfl (by rw[toList_ofL];simp)
   |mat arms=>exact key _ _ rfl g2
   |_=>exact key _ _ rfl g1
 have hl:0<s.cps.toList.length:=List.length_pos_iff.mpr this
 rw[←e,ep,List.flatMap_cons,List.length_append]
 show 0<s.cps.toList.length+_
 omega
theorem mu_pos{x:Sx}(h:pcOk x):1<=mu x:=by
 cases x with
 |inl t=>have:=txt_ne h.1;show 1<=2*_;omega
 |inr x=>exact List.length_pos_iff.mpr h
theorem len_mus:∀{xs:List Sx},(∀x∈xs,pcOk x)->xs.length<=mus xs
 | [],_=>Nat.zero_le _
 |x::r,h=>by
  have:=mu_pos (h x (.head _))
  have:=len_mus (xs:=r) fun y hy=>h y (.tail _ hy)
  show r.length+1<=mu x+mus r
  omega
def nwH:Hd->Prop
 |.mat arms=>∀a∈arms,a.2.length<=2
 |_=>True
inductive Nw:Tm->Prop
 |mk {h:Hd}{ks:List Tm}:ks.length<=5->nwH h->(∀k∈ks,Nw k)->Nw (.mk h ks)
theorem Nw.wd{tm:Tm}(h:Nw tm):Wd tm:=by
 induction h with
 |@mk h ks hl hh hk ih =>
  refine .mk (by omega) ?_ ih
  cases h with
  |mat arms=>exact fun a ha=>Nat.le_trans (hh a ha) (by decide)
  |_=>exact True.intro
theorem Nw.len{h:Hd}{ks:List Tm}(w:Nw (.mk h ks)):ks.length<=5:=by
 cases w with
 |mk hl _ _=>exact hl
theorem Nw.hd{h:Hd}{ks:List Tm}(w:Nw (.mk h ks)):nwH h:=by
 cases w with
 |mk _ hw _=>exact hw
theorem Nw.kids{h:Hd}{ks:List Tm}(w:Nw (.mk h ks)):∀k∈ks,Nw k:=by
 cases w with
 |mk _ _ hk=>exact hk
def tl1:List Bw->Nat
 | []=>0
 |x::r=>x.txt.length+1+tl1 r
theorem txtr_len:∀ws:List Bw,(Bw.txtr ws).length=tl1 ws
 | []=>by unfold Bw.txtr;rfl
 |x::r=>by
  unfold Bw.txtr
  rw[List.length_cons,List.length_append,txtr_len r]
  show _=x.txt.length+1+tl1 r
  omega
theorem txts_len:∀ws:List Bw,(Bw.txts ws).length<=tl1 ws
 | []=>by unfold Bw.txts;exact Nat.le_refl _
 |x::r=>by
  unfold Bw.txts
  rw[List.length_append,txtr_len r]
  show _<=x.txt.length+1+tl1 r
  omega
theorem g_len(ws:List Bw):(Bw.g 40 ws).txt.length<=2+tl1 ws:=by
 unfold Bw.txt
 rw[List.length_cons,List.length_append]
 have:=txts_len ws
 show _+1+1<=_
 omega
theorem tl1_app:∀a b:List Bw,tl1 (a++b)=tl1 a+tl1 b
 | [],b=>by rw[List.nil_append];show _=0+_;omega
 |x::r,b=>by
  show x.txt.length+1+tl1 (r++b)=x.txt.length+1+tl1 r+tl1 b
  rw[tl1_app r b];omega
theorem atm_len(x:Str):(atm x).txt.length=x.length:=by
 unfold atm Bw.txt
 show _=x.cps.size
 simp
theorem tl1_names:∀xs:List Str,(∀x∈xs,nmOk x)->tl1 (xs.map atm)<=7*xs.length
 | [],_=>Nat.le_refl _
 |x::r,h=>by
  have h1:=(h x (.head _)).2.1
  have h2:=tl1_names r fun y hy=>h y (.tail _ hy)
  show(atm x).txt.length+1+tl1 (r.map atm)<=7*(r.length+1)
  rw[atm_len]
  omega
theorem tl1_kids:∀ks:List Tm,(∀k∈ks,(bw k).txt.length+25<=45*k.size)->tl1 (ks.map bw)+24*ks.length<=45*Tm.sizes ks
 | [],_=>by rw[Tm.sizes];exact Nat.le_refl _
 |k::r,h=>by
  have h1:=h k (.head _)
  have h2:=tl1_kids r fun y hy=>h y (.tail _ hy)
  rw[Tm.sizes_cons]
  show(bw k).txt.length+1+tl1 (r.map bw)+24*(r.length+1)<=_
  omega
theorem arm_len{a:Str×List Str}{k:Bw}(h1:nmOk a.1)(h2:∀x∈a.2,nmOk x)(h3:a.2.length<=2):(armB a k).txt.length<=24+k.txt.length:=by
 have:=g_len (atm a.1::(a.2.map atm++[k]))
 have e:tl1 (atm a.1::(a.2.map atm++[k]))=(atm a.1).txt.length+1+(tl1 (a.2.map atm)+(k.txt.length+1+0)):=by
  show(atm a.1).txt.length+1+tl1 (a.2.map atm++[k])=_
  rw[tl1_app]
  rfl
 rw[e,atm_len]at this
 have n1:=h1.2.1
 have n2:=tl1_names a.2 h2
 unfold armB
 omega
theorem tl1_arms:∀(arms:List (Str×List Str)) (ks:List Tm),(∀a∈arms,(nmOk a.1/\∀x∈a.2,nmOk x)/\a.2.length<=2)->(∀k∈ks,(bw k).txt.length+25<=45*k.size)->tl1 (List.zipWith armB arms (ks.map bw))<=45*Tm.sizes ks
 | [],ks,_,_=>by simp[tl1]
 |_::_,[],_,_=>by simp[tl1]
 |a::r,k::q,h1,h2=>by
  obtain⟨⟨n1,n2⟩,n3⟩:=h1 a (.head _)
  have l1:=arm_len (k:=bw k) n1 n2 n3
  have l2:=h2 k (.head _)
  have l3:=tl1_arms r q (fun b hb=>h1 b (.tail _ hb)) fun b hb=>h2 b (.tail _ hb)
  rw[List.map_cons,List.zipWith_cons_cons,Tm.sizes_cons]
  show(armB a (bw k)).txt.length+1+tl1 (List.zipWith armB r (q.map bw))<=_
  omega
theorem kw_len:∀s∈(["row","more","first","others","long","call","match","if","let","fold","+","-","*",":","<","="]:List Str),s.length<=6:=by decide +kernel
theorem digs_len{n:Int}(h:0<=n/\n<1000000):(digs n).length<=6:=by
 obtain⟨a,r,e,_,_,_,l⟩:=digs_big h
 rw[e,List.length_cons];omega
theorem txt_len{tm:Tm}(h:TmOk tm)(w:Nw tm):(bw tm).txt.length+25<=45*tm.size:=by
 induction h with
 |@mk hd ks ar ho hk ih =>
  have wl:=w.len
  have wh:=w.hd
  have kk:∀k∈ks,(bw k).txt.length+25<=45*k.size:=fun k h1=>ih k h1 (w.kids k h1)
  have tk:=tl1_kids ks kk
  rw[bw_mk,Tm.size_mk]
  have one:∀x:Bw,x.txt.length<=7->(Bw.g 40 (x::ks.map bw)).txt.length+25<=45*(Tm.sizes ks+1):=fun x hx=>by
   have:=g_len (x::ks.map bw)
   have e:tl1 (x::ks.map bw)=x.txt.length+1+tl1 (ks.map bw):=rfl
   omega
  have two:∀x y:Bw,x.txt.length<=6->y.txt.length<=6->(Bw.g 40 (x::y::ks.map bw)).txt.length+25<=45*(Tm.sizes ks+1):=fun x y hx hy=>by
   have:=g_len (x::y::ks.map bw)
   have e:tl1 (x::y::ks.map bw)=x.txt.length+1+(y.txt.length+1+tl1 (ks.map bw)):=rfl
   omega
  have kl:∀s∈(["row","more","first","others","long","call","match","if","let","fold","+","-","*",":","<","="]:List Str),(atm s).txt.length<=6:=fun s hs=>by rw[atm_len];exact kw_len s hs
  have nl:∀{x:Str},nmOk x->(atm x).txt.length<=6:=fun h=>by rw[atm_len];exact h.2.1
  cases hd with
  |num n =>
   show(Bw.a (digs n)).txt.length+25<=_
   unfold Bw.txt
   have:=digs_len (show 0<=n/\n<1000000 from ho)
   omega
  |name x =>
   show(atm x).txt.length+25<=_
   have:=nl (show nmOk x from ho)
   omega
  |gap n =>
   show(Bw.a (63::digs n)).txt.length+25<=_
   unfold Bw.txt
   have:=(digs_ok (show 0<=n/\n<100 from ho)).2.1
   rw[List.length_cons]
   omega
  |op s=>exact one _ (Nat.le_trans (kl s (by have:s∈opsS:=ho;unfold opsS at this;simp only[List.mem_cons,List.not_mem_nil,or_false]at this⊢;rcases this with h|h|h|h|h|h<;>simp[h])) (by decide))
  |row=>exact one _ (Nat.le_trans (kl _ (by simp)) (by decide))
  |more=>exact one _ (Nat.le_trans (kl _ (by simp)) (by decide))
  |first=>exact one _ (Nat.le_trans (kl _ (by simp)) (by decide))
  |others=>exact one _ (Nat.le_trans (kl _ (by simp)) (by decide))
  |long=>exact one _ (Nat.le_trans (kl _ (by simp)) (by decide))
  |ife=>exact one _ (Nat.le_trans (kl _ (by simp)) (by decide))
  |call f=>exact two _ _ (kl _ (by simp)) (nl ho)
  |lt x=>exact two _ _ (kl _ (by simp)) (nl ho)
  |tag t =>
   refine one _ ?_
   unfold Bw.txt
   have:=(show nmOk t from ho).2.1
   have e:t.cps.toList.length=t.length:=by show _=t.cps.size;simp
   rw[List.length_append,e]
   show _+1<=7
   omega
  |fold x y =>
   have arl:ks.length=3:=eq_of_beq (show(ks.length == 3)=true from ar)
   obtain⟨k1,k2,k3,rfl⟩:=ex3 arl
   show(Bw.g 40 [atm "fold",bw k1,atm x,atm y,bw k2,bw k3]).txt.length+25<=_
   have:=g_len [atm "fold",bw k1,atm x,atm y,bw k2,bw k3]
   have e:tl1 [atm "fold",bw k1,atm x,atm y,bw k2,bw k3]=(atm "fold").txt.length+1+((bw k1).txt.length+1+((atm x).txt.length+1+((atm y).txt.length+1+((bw k2).txt.length+1+((bw k3).txt.length+1+0))))):=rfl
   have l1:=kl "fold" (by simp)
   have l2:=nl (show nmOk x from ho.1)
   have l3:=nl (show nmOk y from ho.2)
   have q1:=kk k1 (by simp)
   have q2:=kk k2 (by simp)
   have q3:=kk k3 (by simp)
   have es:Tm.sizes [k1,k2,k3]=k1.size+(k2.size+(k3.size+0)):=by rw[Tm.sizes_cons,Tm.sizes_cons,Tm.sizes_cons];rfl
   omega
  |mat arms =>
   have arl:ks.length=arms.length+1:=eq_of_beq (show(ks.length == arms.length+1)=true from ar)
   cases ks with
   |nil=>cases arl
   |cons k r =>
    show(Bw.g 40 (atm "match"::bw k::List.zipWith armB arms (r.map bw))).txt.length+25<=_
    have:=g_len (atm "match"::bw k::List.zipWith armB arms (r.map bw))
    have e:tl1 (atm "match"::bw k::List.zipWith armB arms (r.map bw))=(atm "match").txt.length+1+((bw k).txt.length+1+tl1 (List.zipWith armB arms (r.map bw))):=rfl
    have l1:=kl "match" (by simp)
    have l2:=kk k (.head _)
    have l3:=tl1_arms arms r (fun a ha=>⟨(show ∀a∈arms,nmOk a.1/\∀x∈a.2,nmOk x from ho) a ha,wh a ha⟩) fun b hb=>kk b (.tail _ hb)
    rw[Tm.sizes_cons]
    omega
end G08
namespace L2
open PySem PySem.Spec PyProof.Rows
section
variable {X:Cx}
theorem call_isTt(K:PySem.W.Frag)(hK:X.K=K):CallR X (.builtin "isinstance") (fun xs H Q=>∃x,xs=[x,.ty "tuple"]/\((∃p ys,x=.ref p/\SqT K H p ys/\Q (.bl true) H)\/(∃z,x=.str z/\Q (.bl false) H)\/∃z,x=.int z/\Q (.bl false) H)):=by
 subst hK
 intro pins s σ H xs us Q I r h
 obtain⟨x,rfl,h⟩:=h
 obtain⟨u,w',rfl,r1,r2⟩:=vals2 r
 obtain rfl:w'=Value.type "tuple":=r2
 rcases h with⟨p,ys,rfl,hq,q⟩|⟨z,rfl,q⟩|⟨z,rfl,q⟩
 ·obtain rfl:u=Value.ref p:=r1
  obtain⟨its,rv,pl,hz⟩:=I.tuple hq
  obtain⟨o,ho,hc,n,hd⟩:=pl
  exact IsiPair.tuple_tuple ho hc ⟨.bl true,H,I,rfl,q⟩
 ·obtain⟨t,rfl⟩:=r1
  exact IsiPair.str_tuple ⟨.bl false,H,I.tok _,rfl,q⟩
 ·obtain⟨t,rfl⟩:=r1
  exact IsiPair.int_tuple ⟨.bl false,H,I.tok _,rfl,q⟩
end
end L2
namespace G08
open PySem L2
inductive Tw:T->Prop
 |s (x:Str):Tw (.s x)
 |i (n:Int):Tw (.i n)
 |t {xs:List T}:xs.length<=900->(∀x∈xs,Tw x)->Tw (.t xs)
def spAlike(K:PySem.W.Frag)(n:Nat):Sp:=fun vs H Q _=>∃(v u:V) (t:T),vs=[v,u]/\Rp K H t v/\Rp K H t u/\Tw t/\t.dep<n/\∀H',Same H H'->Q (.bl true) H'
section
variable {P:Program}{w:World}{K:PySem.W.Frag}{mg:Str->Option Value}{base:Heap}{gA:Addr}{afd:FuncData}
theorem nm_L_alike:Nm ["_law_found","_law_due"] (defScope s_L_alike):=by decide +kernel
theorem sc_L_alike:FnScope ["_law_found","_law_due"] ["_law_found","_law_due"] (defScope s_L_alike):=⟨rfl,rfl,rfl,by decide +kernel,rfl,by decide +kernel,by decide +kernel⟩
theorem ok_alike{f:Addr}{fd:FuncData}{n j:Nat}(hj:1<=j)(F:Fun K "_law_alike" "_law_alike" s_L_alike f fd)(LA:Has P w K mg base "_law_alike" j ["_law_found","_law_due"] (spAlike K n) gA afd)(z_tuple:mg "tuple"=none)(z_str:mg "str"=none)(z_int:mg "int"=none)(z_bool:mg "bool"=none)(z_isinstance:mg "isinstance"=none)(z_len:mg "len"=none)(z_all:mg "all"=none)(z_zip:mg "zip"=none) :
  FnOk P w K mg base CX0 (j+1) f fd ["_law_found","_law_due"] (spAlike K (n+1)):=by
 refine F.ok sc_L_alike (fun vs H Q E h=>?_) (fun cdv A outer s H vs Q E hr h=>?_)
 ·obtain⟨_,_,_,rfl,_⟩:=h
  rfl
 obtain⟨v,u,t,rfl,rv,ru,tw,hd,k⟩:=h
 refine⟨_,(@pss_cons _ _ _ _ _ (@ps_if _ _ _ _ _ _ _ _ (@pt_val _ _ _ (@pe_callB _ _ _ _ _ _ _ _ _ (call_isTt K rfl) (by show _=_;kernel_rfl) z_isinstance PyProof.Rows.boot_isinstance (@pa_c _ _ _ _ _ (va nm_L_alike 1) (pa_c (pe_bltn (v:=.ty "tuple") (by show _=_;kernel_rfl) z_tuple (by decide +kernel) rfl) pa_nil) (by rfl)) (by decide) (by decide) (by rfl) (by rfl)) (by intro _;rfl)) (@pss_cons _ _ _ _ _ (@ps_if _ _ _ _ _ _ _ _ (PW.pt (@pw_or _ _ _ _ _ _ _ (@pt_not _ _ _ _ (@pt_val _ _ _ (@pe_callB _ _ _ _ _ _ _ _ _ (call_isTt K rfl) (by show _=_;kernel_rfl) z_isinstance PyProof.Rows.boot_isinstance (@pa_c _ _ _ _ _ (va nm_L_alike 0) (pa_c (pe_bltn (v:=.ty "tuple") (by show _=_;kernel_rfl) z_tuple (by decide +kernel) rfl) pa_nil) (by rfl)) (by decide) (by decide) (by rfl) (by rfl)) (by intro _;rfl))) (@pw_or1 _ _ _ _ (@pt_cmpR _ _ _ _ _ _ _ _ op_ne (@pe_callB _ _ _ _ _ _ _ _ _ call_len_seq (by show _=_;kernel_rfl) z_len PySem.boot_len (pa_c (va nm_L_alike 0) pa_nil) (by decide) (by decide) (by rfl) (by rfl)) (@pe_callB _ _ _ _ _ _ _ _ _ call_len_seq (by show _=_;kernel_rfl) z_len PySem.boot_len (pa_c (va nm_L_alike 1) pa_nil) (by decide) (by decide) (by rfl) (by rfl)) (nomark _))))) (pss_one (ps_ret pe_bl)) pss_nil) (@pss_one _ _ _ (@ps_ret _ _ _ _ (@pe_callB _ _ _ _ _ _ _ _ _ (call_all rfl) (by show _=_;kernel_rfl) z_all PyProof.Rows.boot_all (@pa_c _ _ _ _ _ (@pe_compC _ _ _ _ _ _ _ _ _ _ _ (defScope s_L_alike) ["_law_found","_law_due"] ["_law_one","_law_other"] [] rfl rfl rfl (by decide +kernel) (pi_zip K rfl (by show _=_;kernel_rfl) z_zip (@pa_c _ _ _ _ _ (va nm_L_alike 0) (pa_c (va nm_L_alike 1) pa_nil) (by rfl))) (fun _ _ _ _=>(@pg_tupK _ _ _ _ _ (2) K rfl rfl (@pgs_cons _ _ _ _ _ (pg_name (i:=0) (show(["_law_one","_law_other"]:List Str).Nodup by decide +kernel) rfl (Or.inl (by kernel_rfl)) (by first|exact .inl rfl|exact .inr (by kernel_rfl))) (pgs_cons (pg_name (i:=1) (show(["_law_one","_law_other"]:List Str).Nodup by decide +kernel) rfl (Or.inl (by kernel_rfl)) (by first|exact .inl rfl|exact .inr (by kernel_rfl))) pgs_nil) (by rfl)) (by rfl) (by rfl))) (fun _ _ _ _=>pifs_nil) (fun _ _ _ _=>(@pe_call _ _ _ _ _ _ _ _ _ _ _ _ _ _ _ _ LA.ok (hr.mono (by omega)) (by show _=_;kernel_rfl) LA.at' LA.kp LA.bd .nil pass0 (@pa_c _ _ _ _ _ (va (show Nm ["_law_one","_law_other"] _ by show _=_;kernel_rfl) 0) (pa_c (va (show Nm ["_law_one","_law_other"] _ by show _=_;kernel_rfl) 1) pa_nil) (by rfl)) (by decide) (by rfl) (by rfl))) (by intro _;rfl)) pa_nil (by rfl)) (by decide) (by decide) (by rfl) (by rfl))))) pss_nil) (@pss_cons _ _ _ _ _ (@ps_if _ _ _ _ _ _ _ _ (@pt_val _ _ _ (@pe_callB _ _ _ _ _ _ _ _ _ (call_isSt K rfl) (by show _=_;kernel_rfl) z_isinstance PyProof.Rows.boot_isinstance (@pa_c _ _ _ _ _ (va nm_L_alike 1) (pa_c (pe_bltn (v:=.ty "str") (by show _=_;kernel_rfl) z_str (by decide +kernel) rfl) pa_nil) (by rfl)) (by decide) (by decide) (by rfl) (by rfl)) (by intro _;rfl)) (@pss_one _ _ _ (@ps_ret _ _ _ _ (@pe_and _ _ _ _ _ _ _ (@pe_callB _ _ _ _ _ _ _ _ _ (call_isSt K rfl) (by show _=_;kernel_rfl) z_isinstance PyProof.Rows.boot_isinstance (@pa_c _ _ _ _ _ (va nm_L_alike 0) (pa_c (pe_bltn (v:=.ty "str") (by show _=_;kernel_rfl) z_str (by decide +kernel) rfl) pa_nil) (by rfl)) (by decide) (by decide) (by rfl) (by rfl)) (@pe_one _ _ _ _ _ (pe_cmpR op_eq (va nm_L_alike 0) (va nm_L_alike 1) (nomark _)))))) pss_nil) (@pss_one _ _ _ (@ps_ret _ _ _ _ (@pe_and _ _ _ _ _ _ _ (@pe_callB _ _ _ _ _ _ _ _ _ call_isB (by show _=_;kernel_rfl) z_isinstance PyProof.Rows.boot_isinstance (@pa_c _ _ _ _ _ (va nm_L_alike 0) (pa_c (pe_bltn (v:=.ty "int") (by show _=_;kernel_rfl) z_int (by decide +kernel) rfl) pa_nil) (by rfl)) (by decide) (by decide) (by rfl) (by rfl)) (@pe_and _ _ _ _ _ _ _ (@pe_not _ _ _ _ (@pe_callB _ _ _ _ _ _ _ _ _ call_isB (by show _=_;kernel_rfl) z_isinstance PyProof.Rows.boot_isinstance (@pa_c _ _ _ _ _ (va nm_L_alike 0) (pa_c (pe_bltn (v:=.ty "bool") (by show _=_;kernel_rfl) z_bool (by decide +kernel) rfl) pa_nil) (by rfl)) (by decide) (by decide) (by rfl) (by rfl))) (@pe_one _ _ _ _ _ (pe_cmpR op_eq (va nm_L_alike 0) (va nm_L_alike 1) (nomark _))))))))),?_⟩
 try dsimp only[cx_K]
 try dsimp only[cx_K]
 refine seq_cut2 ?_
 intro N1 N2 c1 c2
 cases tw with
 |s x =>
  obtain rfl:=rv.inv_s
  obtain rfl:=ru.inv_s
  fail "R"
  refine .inr (.inl ⟨_,rfl,?_⟩)
  fail "R"
  refine .inr (.inl ⟨_,rfl,?_⟩)
  fail "R"
  refine .inr (.inl ⟨_,rfl,?_⟩)
  fail "R"
  rw[show decide (V.str x=V.str x)=true from decide_eq_true rfl]
  exact k _ (Same.refl _)
 |i m =>
  obtain rfl:=rv.inv_i
  obtain rfl:=ru.inv_i
  fail "R"
  refine .inr (.inr ⟨_,rfl,?_⟩)
  fail "R"
  refine .inr (.inr ⟨_,rfl,?_⟩)
  fail "R"
  rw[show decide (V.int m=V.int m)=true from decide_eq_true rfl]
  exact k _ (Same.refl _)
 |@t xs hn hx =>
  obtain⟨va,vvs,rfl,vsq,rvs⟩:=rv.inv_t
  obtain⟨ua,uvs,rfl,usq,rus⟩:=ru.inv_t
  have l1:=rvs.length
  have l2:=rus.length
  have e1:((vvs.length:Nat):Int)=((uvs.length:Nat):Int):=by rw[l1,l2]
  have hb1:SqB K true H va vvs:=vsq
  have hb2:SqB K true H ua uvs:=usq
  have hs1:SqL K H va vvs\/SqT K H va vvs:=.inr vsq
  have hs2:SqL K H ua uvs\/SqT K H ua uvs:=.inr usq
  fail "R"
  refine .inl ⟨_,_,rfl,usq,?_⟩
  fail "R"
  refine .inl ⟨_,_,rfl,vsq,?_⟩
  fail "R"
  refine ifF (by rw[e1,decide_eq_true rfl];rfl) ?_
  fail "R"
  refine comp_zip (K:=K) (xs:=vvs) (ys:=uvs) (fun i σ us H5=>(∃x y,σ=[x,y])/\Same H H5/\us=(List.replicate i true).map V.bl) ⟨⟨_,_,rfl⟩,Same.refl _,rfl⟩ ?_ (small (by rw[l1,l2];omega)) ?_ ?_ ?_ ?_
  ·rintro i σ us H5 hi ⟨_,_,rfl⟩
   rw[List.length_map,List.length_replicate]
   exact Nat.le_refl _
  ·rintro i σ us H5 hi ⟨_,s5,_⟩
   exact vsq.same s5
  ·rintro i σ us H5 hi ⟨_,s5,_⟩
   exact usq.same s5
  ·rintro i x y σ us H5 p6 hx6 hy6 ⟨⟨_,_,rfl⟩,s5,rfl⟩ hp6
   obtain⟨t6,ht6,rx⟩:=rvs.get' hx6
   obtain⟨t7,ht7,ry⟩:=rus.get' hy6
   rw[ht6]at ht7
   cases ht7
   have tw6:=hx t6 (List.mem_of_getElem? ht6)
   have hd6:t6.dep<n:=by
    have:=T.deps_mem (List.mem_of_getElem? ht6)
    unfold T.dep at hd
    omega
   have s6:=same_new hp6 (.tup [x,y])
   have h6:upd H5 p6 (.tup [x,y]) p6=some (.tup [x,y]):=upd_same
   have rx6:=rx.same (s5.trans s6)
   have ry6:=ry.same (s5.trans s6)
   generalize upd H5 p6 (.tup [x,y])=H6 at s6 h6 rx6 ry6⊢
   fail "R"
   intro H7 s7
   fail "R"
   ·exact(s5.trans s6).trans s7
   ·rw[List.replicate_succ',List.map_append]
    rfl
  ·rintro σ us H5 ⟨_,s5,rfl⟩ p6 hp6
   have hall:(List.replicate (min vvs.length uvs.length) true).all id=true:=by simp
   fail "R"
   rw[hall]
   exact k _ (s5.trans (same_new hp6 _))
end
def WordsAt(H:Hp)(a:Addr)(ws:List Str):Prop:=H a=some (.lst (ws.map V.str))/\1<=ws.length/\ws.length<=100
theorem WordsAt.ne{H:Hp}{a f:Addr}{ws:List Str}(h:WordsAt H a ws)(hf:FeedAt H f):a≠f:=fun z=>by
 obtain⟨p,q,e⟩:=hf
 subst z
 rw[h.1]at e
 cases ws with
 |nil=>have:=h.2.1;simp at this
 |cons x r=>injection e with e;injection e with e;rw[List.map_cons]at e;injection e with e;cases e
theorem WordsAt.same{H H':Hp}{a:Addr}{ws:List Str}(h:WordsAt H a ws)(e:Same H H'):WordsAt H' a ws:=⟨e a _ h.1,h.2⟩
def spNumber:Sp:=fun vs H Q _=>∃f:Addr,vs=[.ref f]/\FeedAt H f/\∀(n:Int) (H':Hp),0<=n->n<1000000->Ext f H H'->Q (.int n) H'
section
variable {P:Program}{w:World}{K:PySem.W.Frag}{mg:Str->Option Value}{base:Heap}{gT gN gA:Addr}{tfd nfd afd:FuncData}
theorem nm_L_number:Nm ["_law_feed_here","_law_form"] (defScope s_L_number):=by decide +kernel
theorem lm_L_number:Lm ["_law_feed_here","_law_form"] (defScope s_L_number):=by decide +kernel
theorem sc_L_number:FnScope ["_law_feed_here","_law_form"] ["_law_feed_here"] (defScope s_L_number):=⟨rfl,rfl,rfl,by decide +kernel,rfl,by decide +kernel,by decide +kernel⟩
theorem ok_number{f:Addr}{fd:FuncData}(F:Fun K "_law_number" "_law_number" s_L_number f fd)(TK:Has P w K mg base "_law_take" 1 ["_law_feed_here","_law_many"] spTake gT tfd):FnOk P w K mg base CX0 2 f fd ["_law_feed_here"] spNumber:=by
 refine F.ok sc_L_number (fun vs H Q E h=>?_) (fun cdv A outer s H vs Q E hr h=>?_)
 ·obtain⟨v,rfl,_⟩:=h
  rfl
 obtain⟨r,rfl,hf,k⟩:=h
 refine⟨_,(pss_cons (sa sc_L_number.nd lm_L_number 1 (pe_call TK.ok (hr.mono (by omega)) (by show _=_;kernel_rfl) TK.at' TK.kp TK.bd .nil pass0 (pa_cons (va nm_L_number 0) (pa_cons pe_int pa_nil))))
  (pss_cons (ps_if (pt_cmpR op_lt (va nm_L_number 1) pe_int (nomark _)) (pss_one (ps_ret (pe_call TK.ok (hr.mono (by omega)) (by show _=_;kernel_rfl) TK.at' TK.kp TK.bd .nil pass0 (pa_cons (va nm_L_number 0) (pa_cons (pe_ix ix_list (pe_lst (pa_cons pe_int (pa_cons pe_int (pa_cons pe_int (pa_cons pe_int (pa_cons pe_int (pa_cons pe_int pa_nil))))))) (va nm_L_number 1) (fun _ _=>rfl)) pa_nil))))) pss_nil)
  (pss_one (ps_ret (pe_ix ix_list (pe_lst (pa_cons (pe_call TK.ok (hr.mono (by omega)) (by show _=_;kernel_rfl) TK.at' TK.kp TK.bd .nil pass0 (pa_cons (va nm_L_number 0) (pa_cons pe_int pa_nil))) (pa_cons (pe_op op_sub pe_int (pe_call TK.ok (hr.mono (by omega)) (by show _=_;kernel_rfl) TK.at' TK.kp TK.bd .nil pass0 (pa_cons (va nm_L_number 0) (pa_cons pe_int pa_nil)))) pa_nil))) (pe_op op_sub (va nm_L_number 1) pe_int) (fun _ _=>rfl)))))),?_⟩
 refine⟨_,rfl,r,8,rfl,by decide,by decide,hf,fun q H1 q0 q1 e1=>?_⟩
 refine⟨_,rfl,_,_,rfl,rfl,_,rfl,ite2 (fun c=>?_) (fun c=>?_)⟩
 ·have c6:q<6:=of_decide_eq_true c
  refine⟨_,rfl,(by show 6<=sizeLine;decide),fun l hl=>?_⟩
  obtain⟨v,hv,hm⟩:=atI_of (xs:=[V.int 2,V.int 4,V.int 4,V.int 10,V.int 10,V.int 100]) q0 (by simpa using c6)
  obtain⟨n,rfl,n0,n1⟩:∃n:Int,v=.int n/\0<n/\n<=100:=by
   simp only[List.mem_cons,List.not_mem_nil,or_false]at hm
   rcases hm with rfl|rfl|rfl|rfl|rfl|rfl
   ·exact⟨2,rfl,by decide,by decide⟩
   ·exact⟨4,rfl,by decide,by decide⟩
   ·exact⟨4,rfl,by decide,by decide⟩
   ·exact⟨10,rfl,by decide,by decide⟩
   ·exact⟨10,rfl,by decide,by decide⟩
   ·exact⟨100,rfl,by decide,by decide⟩
  refine⟨_,rfl,l,_,_,_,rfl,rfl,SqL.of upd_same,hv,r,n,rfl,n0,by omega,e1.2.same (same_new hl _),fun x H2 x0 x1 e2=>?_⟩
  exact k x H2 x0 (by omega) ((e1.new hl _).trans e2)
 ·have c6:¬q<6:=fun z=>c (decide_eq_true z)
  refine⟨_,rfl,r,1000000,rfl,by decide,by decide,e1.2,fun x H2 x0 x1 e2=>?_⟩
  refine⟨_,rfl,r,3,rfl,by decide,by decide,e2.2,fun y H3 y0 y1 e3=>?_⟩
  refine⟨_,_,rfl,rfl,(by show 2<=sizeLine;decide),fun l hl=>?_⟩
  have e4:=((e1.trans e2).trans e3).new hl (.lst [.int x,.int (999999-y)])
  obtain⟨v,hv,hm⟩:=atI_of (xs:=[V.int x,V.int (999999-y)]) (k:=q-6) (by omega) (by simp;omega)
  refine⟨_,rfl,_,_,rfl,rfl,l,_,_,_,rfl,rfl,SqL.of upd_same,hv,?_⟩
  simp only[List.mem_cons,List.not_mem_nil,or_false]at hm
  rcases hm with rfl|rfl
  ·exact k _ _ x0 x1 e4
  ·exact k _ _ (by omega) (by omega) e4
end
abbrev ky(x:Str):Key:=Sum.inr x
def scL(wl:Addr)(m:Int):List (Key×V):=[(ky "words",.ref wl),(ky "left",.int m)]
structure Sc(H:Hp) (f d wl:Addr) (xs:List Str):Prop where
 sd:∃m:Int,H d=some (.dK (scL wl m))/\0<=m/\m<=100
 lw:H wl=some (.lst (xs.map V.str))
 x1:1<=xs.length
 x2:xs.length<=100
 xo:∀x∈xs,nmOk x
 ff:FeedAt H f
 nf:d≠f/\wl≠f
theorem Sc.nwd{H:Hp}{f d wl:Addr}{xs:List Str}(s:Sc H f d wl xs):wl≠d:=fun e=>by
 obtain⟨m,h,_⟩:=s.sd
 rw[←e,s.lw]at h
 cases h
theorem v_words(wl:Addr)(m:Int):valV (scL wl m) (ky "words")=some (.ref wl):=by unfold scL;kernel_rfl
theorem v_left(wl:Addr)(m:Int):valV (scL wl m) (ky "left")=some (.int m):=by unfold scL;kernel_rfl
theorem get_words{H:Hp}{d wl:Addr}{m:Int}(h:H d=some (.dK (scL wl m))):DGet H d (.str "words") (some (.ref wl)):=by
 have:=DGet.k (k:=ky "words") h
 rw[v_words]at this
 exact this
theorem get_left{H:Hp}{d wl:Addr}{m:Int}(h:H d=some (.dK (scL wl m))):DGet H d (.str "left") (some (.int m)):=by
 have:=DGet.k (k:=ky "left") h
 rw[v_left]at this
 exact this
theorem put_left(wl:Addr)(m m':Int):putK (scL wl m) (ky "left") (.int m')=scL wl m':=by unfold scL;kernel_rfl
theorem small1000{n:Nat}(h:n<=1000):n<sizeLine:=by rw[sizeLine_eq];omega
structure Go(f d wl:Addr) (xs:List Str) (H H':Hp):Prop where
 fr:Frm [d] f H H'
 sc:Sc H' f d wl xs
section
variable {f d wl:Addr}{xs:List Str}{H H1 H2:Hp}
theorem Sc.ext(s:Sc H f d wl xs)(e:Ext f H H1):Sc H1 f d wl xs:=by
 obtain⟨m,h,hm⟩:=s.sd
 exact⟨⟨m,e.1 _ _ s.nf.1 h,hm⟩,e.1 _ _ s.nf.2 s.lw,s.x1,s.x2,s.xo,e.2,s.nf⟩
theorem Sc.same(s:Sc H f d wl xs)(e:Same H H1):Sc H1 f d wl xs:=by
 obtain⟨m,h,hm⟩:=s.sd
 obtain⟨p,q,hf⟩:=s.ff
 exact⟨⟨m,e _ _ h,hm⟩,e _ _ s.lw,s.x1,s.x2,s.xo,⟨p,q,e _ _ hf⟩,s.nf⟩
theorem Go.refl(s:Sc H f d wl xs):Go f d wl xs H H:=⟨Frm.refl s.ff,s⟩
theorem Go.ext(g:Go f d wl xs H H1)(e:Ext f H1 H2):Go f d wl xs H H2:=⟨g.fr.ext e,g.sc.ext e⟩
theorem Go.same(g:Go f d wl xs H H1)(e:Same H1 H2):Go f d wl xs H H2:=⟨g.fr.same e,g.sc.same e⟩
theorem Go.trans(a:Go f d wl xs H H1)(b:Go f d wl xs H1 H2):Go f d wl xs H H2:=⟨a.fr.trans b.fr,b.sc⟩
theorem Go.kt(a:Go f d wl xs H H1):Kt H H1:=a.fr.kt
theorem Go.left{m:Int}(g:Go f d wl xs H H1)(h0:0<=m)(h1:m<=100):Go f d wl xs H (upd H1 d (.dK (scL wl m))):=by
 obtain⟨m',h,_⟩:=g.sc.sd
 have n:=g.sc.nwd
 obtain⟨p,q,hf⟩:=g.sc.ff
 refine⟨g.fr.updD (List.mem_singleton.mpr rfl) g.sc.nf.1 h,⟨⟨m,upd_same,h0,h1⟩,?_,g.sc.x1,g.sc.x2,g.sc.xo,⟨p,q,?_⟩,g.sc.nf⟩⟩
 ·rw[upd_ne n];exact g.sc.lw
 ·rw[upd_ne (Ne.symm g.sc.nf.1)];exact hf
theorem Go.get(g:Go f d wl xs H H1){b:Addr}{o:HO}(hb:H b=some o)(n1:b≠d)(n2:b≠f):H1 b=some o:=g.fr.get1 n1 n2 hb
theorem Go.new_ne(g:Go f d wl xs H H1){b:Addr}(hb:H1 b=none):b≠d/\b≠f:=by
 obtain⟨m,h,_⟩:=g.sc.sd
 obtain⟨p,q,hf⟩:=g.sc.ff
 exact⟨fun e=>by(rw[e,h]at hb;cases hb),fun e=>by(rw[e,hf]at hb;cases hb)⟩
end
theorem word_at{xs:List Str}{r:Int}(h0:0<=r)(h1:r<((xs.map V.str).length:Int))(ho:∀x∈xs,nmOk x):∃x,atI (xs.map V.str) r=some (.str x)/\nmOk x:=by
 obtain⟨v,hv,hm⟩:=atI_of (xs:=xs.map V.str) h0 h1
 obtain⟨y,hy,rfl⟩:=List.mem_map.mp hm
 exact⟨y,hv,ho y hy⟩
theorem leaf_ok{h:Hd}(ar:arOk h 0=true)(ho:hdOk h):TmOk (.mk h []):=.mk ar ho fun _ hk=>nomatch hk
theorem leaf_nw{h:Hd}(hw:nwH h):Nw (.mk h []):=.mk (Nat.zero_le _) hw fun _ hk=>nomatch hk
def spLeaf(K:PySem.W.Frag):Sp:=fun vs H Q _=>∃(f d wl:Addr) (xs:List Str),vs=[.ref f,.ref d]/\Sc H f d wl xs/\∀(v:V) (H':Hp) (h:Hd),Go f d wl xs H H'->Rp K H' (enc (.mk h [])) v->TmOk (.mk h [])->nwH h->Q v H'
section
variable {P:Program}{w:World}{K:PySem.W.Frag}{mg:Str->Option Value}{base:Heap}{gT gN:Addr}{tfd nfd:FuncData}
theorem nm_L_any_leaf:Nm ["_law_feed_here","_law_scene","_law_form"] (defScope s_L_any_leaf):=by decide +kernel
theorem lm_L_any_leaf:Lm ["_law_feed_here","_law_scene","_law_form"] (defScope s_L_any_leaf):=by decide +kernel
theorem sc_L_any_leaf:FnScope ["_law_feed_here","_law_scene","_law_form"] ["_law_feed_here","_law_scene"] (defScope s_L_any_leaf):=⟨rfl,rfl,rfl,by decide +kernel,rfl,by decide +kernel,by decide +kernel⟩
theorem ok_aleaf{f:Addr}{fd:FuncData}(F:Fun K "_law_any_leaf" "_law_any_leaf" s_L_any_leaf f fd)(TK:Has P w K mg base "_law_take" 1 ["_law_feed_here","_law_many"] spTake gT tfd)(NU:Has P w K mg base "_law_number" 2 ["_law_feed_here"] spNumber gN nfd)(z_len:mg "len"=none):FnOk P w K mg base CX0 3 f fd ["_law_feed_here","_law_scene"] (spLeaf K):=by
 refine F.ok sc_L_any_leaf (fun vs H Q E h=>?_) (fun cdv A outer s H vs Q E hr h=>?_)
 ·obtain⟨_,_,_,_,rfl,_⟩:=h
  rfl
 obtain⟨fe,d,wl,xs,rfl,sc,k⟩:=h
 refine⟨_,(@pss_cons _ _ _ _ _ (@sa _ _ _ _ _ _ sc_L_any_leaf.nd lm_L_any_leaf 2 (@pe_call _ _ _ _ _ _ _ _ _ _ _ _ _ _ _ _ TK.ok (hr.mono (by omega)) (by show _=_;kernel_rfl) TK.at' TK.kp TK.bd .nil pass0 (pa_c (va nm_L_any_leaf 0) (pa_c pe_int pa_nil)) (by decide) (by rfl) (by rfl)) (by rfl) (by kernel_rfl) (by exact .inl rfl)) (@pss_cons _ _ _ _ _ (@ps_if _ _ _ _ _ _ _ _ (PW.pt (@pw_and _ _ _ _ _ _ _ (pt_cmpR op_eq (va nm_L_any_leaf 2) pe_int (nomark _)) (@pw_and1 _ _ _ _ (@pt_cmpR _ _ _ _ _ _ _ _ op_gt (pe_dget (hu_of hr) (va nm_L_any_leaf 1) pe_str (fun _ _=>rfl)) pe_int (nomark _))))) (@pss_cons _ _ _ _ _ (@ps_dput _ _ _ _ _ _ _ _ _ (hu_of hr) (va nm_L_any_leaf 1) pe_str (@pe_op _ _ _ _ _ _ _ _ op_sub (pe_dget (hu_of hr) (va nm_L_any_leaf 1) pe_str (fun _ _=>rfl)) pe_int) (by rfl)) (@pss_one _ _ _ (@ps_ret _ _ _ _ (@pe_tup _ _ _ _ _ (@pa_c _ _ _ _ _ pe_str (@pa_c _ _ _ _ _ (@pe_ix _ _ _ _ _ _ _ ix_list (@pe_lst _ _ _ _ (@pa_c _ _ _ _ _ (@pe_call _ _ _ _ _ _ _ _ _ _ _ _ _ _ _ _ TK.ok (hr.mono (by omega)) (by show _=_;kernel_rfl) TK.at' TK.kp TK.bd .nil pass0 (pa_c (va nm_L_any_leaf 0) (pa_c pe_int pa_nil)) (by decide) (by rfl) (by rfl)) (@pa_c _ _ _ _ _ (@pe_call _ _ _ _ _ _ _ _ _ _ _ _ _ _ _ _ TK.ok (hr.mono (by omega)) (by show _=_;kernel_rfl) TK.at' TK.kp TK.bd .nil pass0 (pa_c (va nm_L_any_leaf 0) (pa_c pe_int pa_nil)) (by decide) (by rfl) (by rfl)) pa_nil (by rfl)) (by rfl))) (@pe_call _ _ _ _ _ _ _ _ _ _ _ _ _ _ _ _ TK.ok (hr.mono (by omega)) (by show _=_;kernel_rfl) TK.at' TK.kp TK.bd .nil pass0 (pa_c (va nm_L_any_leaf 0) (pa_c pe_int pa_nil)) (by decide) (by rfl) (by rfl)) (fun _ _=>rfl)) pa_nil (by rfl)) (by rfl)))))) pss_nil) (@pss_cons _ _ _ _ _ (@ps_if _ _ _ _ _ _ _ _ (pt_cmpR op_eq (va nm_L_any_leaf 2) pe_int (nomark _)) (@pss_one _ _ _ (@ps_ret _ _ _ _ (@pe_tup _ _ _ _ _ (@pa_c _ _ _ _ _ pe_str (@pa_c _ _ _ _ _ (@pe_call _ _ _ _ _ _ _ _ _ _ _ _ _ _ _ _ NU.ok (hr.mono (by omega)) (by show _=_;kernel_rfl) NU.at' NU.kp NU.bd .nil pass0 (pa_c (va nm_L_any_leaf 0) pa_nil) (by decide) (by rfl) (by rfl)) pa_nil (by rfl)) (by rfl))))) pss_nil) (@pss_one _ _ _ (@ps_ret _ _ _ _ (@pe_tup _ _ _ _ _ (@pa_c _ _ _ _ _ pe_str (@pa_c _ _ _ _ _ (@pe_ix _ _ _ _ _ _ _ ix_list (pe_dget (hu_of hr) (va nm_L_any_leaf 1) pe_str (fun _ _=>rfl)) (@pe_call _ _ _ _ _ _ _ _ _ _ _ _ _ _ _ _ TK.ok (hr.mono (by omega)) (by show _=_;kernel_rfl) TK.at' TK.kp TK.bd .nil pass0 (@pa_c _ _ _ _ _ (va nm_L_any_leaf 0) (@pa_c _ _ _ _ _ (@pe_callB _ _ _ _ _ _ _ _ _ call_len_seq (by show _=_;kernel_rfl) z_len PySem.boot_len (@pa_c _ _ _ _ _ (pe_dget (hu_of hr) (va nm_L_any_leaf 1) pe_str (fun _ _=>rfl)) pa_nil (by rfl)) (by decide) (by decide) (by rfl) (by rfl)) pa_nil (by rfl)) (by rfl)) (by decide) (by rfl) (by rfl)) (fun _ _=>rfl)) pa_nil (by rfl)) (by rfl)))))))),?_⟩
 try dsimp only[cx_K]
 try dsimp only[cx_K]
 have hf:=sc.ff
 refine seq_cut3 ?_
 intro N1 N2 N3 c1 c2 c3
 fail "R"
 intro q H1 q0 q3 e1
 have g1:=(Go.refl sc).ext e1
 obtain⟨m,h1d,m0,m1⟩:=g1.sc.sd
 have dl:=get_left h1d
 have dw:=get_words h1d
 have h1w:=g1.sc.lw
 have sqw:SqL K H1 wl (xs.map V.str)\/SqT K H1 wl (xs.map V.str):=.inl (SqL.of h1w)
 have sqw2:SqL K H1 wl (xs.map V.str):=SqL.of h1w
 have hf1:=g1.sc.ff
 have x1:=sc.x1
 have x2:=sc.x2
 have lm:(xs.map V.str).length=xs.length:=List.length_map _
 have tail:N2 [some (.ref fe),some (.ref d),some (.int q)] H1:=by
  fail "R"
  refine ite2 (fun c=>?_) (fun c=>?_)
  ·fail "R"
   intro n H2 n0 n1 e2
   fail "R"
   intro p hp
   refine k _ _ (.num n) ((g1.ext e2).same (same_new hp _)) ?_ (leaf_ok rfl ⟨n0,n1⟩) True.intro
   rw[enc_mk]
   exact Rp.new (K:=K) hp (.cons .s (.one .i))
  ·have ll:(((xs.map V.str).length:Nat):Int)<1073741824:=by omega
   fail "R"
   intro r H2 r0 r1 e2
   obtain⟨y,hy,oy⟩:=word_at r0 r1 sc.xo
   have g2:=g1.ext e2
   have sq2:SqL K H2 wl (xs.map V.str):=SqL.of g2.sc.lw
   fail "R"
   intro p hp
   refine k _ _ (.name y) (g2.same (same_new hp _)) ?_ (leaf_ok rfl oy) True.intro
   rw[enc_mk]
   exact Rp.new (K:=K) hp (.cons .s (.one .s))
 fail "R"
 refine ite2 (fun c=>?_) (fun c=>tail)
 fail "R"
 refine ite2 (fun c2=>?_) (fun c2=>tail)
 have c2':0<m:=of_decide_eq_true c2
 have pp:=DPut.k (k:=ky "left") (v:=.int (m-1)) h1d (small1000 (by show 2<=1000;decide))
 rw[put_left]at pp
 have g2:=g1.left (m:=m-1) (by omega) (by omega)
 generalize upd H1 d (.dK (scL wl (m-1)))=H2 at pp g2
 have hf2:=g2.sc.ff
 refine seq_cut ?_
 intro N7 c7
 fail "R"
 intro r1 H3 r10 r11 e3
 have hf3:=e3.2
 fail "R"
 intro r2 H4 r20 r21 e4
 have hf4:=e4.2
 fail "R"
 intro l hl
 have s5:=same_new hl (.lst [.int r1,.int r2])
 have h5:upd H4 l (.lst [.int r1,.int r2]) l=some (.lst [.int r1,.int r2]):=upd_same
 have g5:=((g2.ext e3).ext e4).same s5
 have nlf:l≠fe:=(((g2.ext e3).ext e4).new_ne hl).2
 generalize upd H4 l (.lst [.int r1,.int r2])=H5 at s5 h5 g5⊢
 have hf5:=g5.sc.ff
 fail "R"
 intro b H6 b0 b1 e6
 have h6:SqL K H6 l [.int r1,.int r2]:=SqL.of (e6.1 _ _ nlf h5)
 obtain⟨n,hn,n0,n1⟩:∃n:Int,atI [V.int r1,.int r2] b=some (.int n)/\0<=n/\n<100:=by
  have:b=0\/b=1:=by omega
  rcases this with rfl|rfl
  ·exact⟨r1,at0 _ _,r10,by omega⟩
  ·exact⟨r2,atI_nat (j:=1) rfl,r20,r21⟩
 fail "R"
 intro p hp
 refine k _ _ (.gap n) ((g5.ext e6).same (same_new hp _)) ?_ (leaf_ok rfl ⟨n0,n1⟩) True.intro
 rw[enc_mk]
 exact Rp.new (K:=K) hp (.cons .s (.one .i))
end
structure Lt(tm:Tm) (dn rm:Nat):Prop where
 ok:TmOk tm
 nw:Nw tm
 dp:tm.depth<=dn
 sz:tm.size<=rm
theorem Lt.mono{tm:Tm}{dn rm dn' rm':Nat}(l:Lt tm dn rm)(h1:dn<=dn')(h2:rm<=rm'):Lt tm dn' rm':=⟨l.ok,l.nw,Nat.le_trans l.dp h1,Nat.le_trans l.sz h2⟩
def spAte(K:PySem.W.Frag)(n:Nat):Sp:=fun vs H Q _=>∃(f d wl:Addr) (xs:List Str) (room down:Nat),vs=[.ref f,.ref d,.int room,.int down]/\Sc H f d wl xs/\1<=room/\room<=100/\down<n/\down<=50/\∀(v:V) (H':Hp) (tm:Tm),Go f d wl xs H H'->Rp K H' (enc tm) v->Lt tm down room->Q v H'
def spAni(K:PySem.W.Frag)(n:Nat):Sp:=fun vs H Q _=>∃(f d wl:Addr) (xs:List Str) (many room down:Nat),vs=[.ref f,.ref d,.int many,.int room,.int down]/\Sc H f d wl xs/\many<=5/\2<=room/\room<=100/\1<=down/\down<=n/\down<=50/\∀(p:Addr) (us:List V) (H':Hp) (ts:List Tm),Go f d wl xs H H'->SqT K H' p us->Rps K H' (ts.map enc) us->ts.length=min many (room-1)->(∀t∈ts,TmOk t/\Nw t/\t.depth<=down-1)->Tm.sizes ts+1<=room->Q (.ref p) H'
structure InI(K:PySem.W.Frag) (f d wl:Addr) (xs:List Str) (H:Hp) (dn rm i:Nat) (us:List V) (H':Hp):Prop where
 x:∃ts:List Tm,Go f d wl xs H H'/\Rps K H' (ts.map enc) us/\ts.length=i/\(∀t∈ts,TmOk t/\Nw t/\t.depth<=dn)/\Tm.sizes ts<=i*rm
section
variable {P:Program}{w:World}{K:PySem.W.Frag}{mg:Str->Option Value}{base:Heap}{gT gA:Addr}{tfd afd:FuncData}
theorem nm_L_any_inner:Nm ["_law_feed_here","_law_scene","_law_many","_law_room","_law_down"] (defScope s_L_any_inner):=by decide +kernel
theorem lm_L_any_inner:Lm ["_law_feed_here","_law_scene","_law_many","_law_room","_law_down"] (defScope s_L_any_inner):=by decide +kernel
theorem sc_L_any_inner:FnScope ["_law_feed_here","_law_scene","_law_many","_law_room","_law_down"] ["_law_feed_here","_law_scene","_law_many","_law_room","_law_down"] (defScope s_L_any_inner):=⟨rfl,rfl,rfl,by decide +kernel,rfl,by decide +kernel,by decide +kernel⟩
theorem ok_ani{f:Addr}{fd:FuncData}{n j:Nat}(F:Fun K "_law_any_inner" "_law_any_inner" s_L_any_inner f fd)(ATE:Has P w K mg base "_law_any_term" j ["_law_feed_here","_law_scene","_law_room","_law_down"] (spAte K n) gA afd)(z_min:mg "min"=none)(z_max:mg "max"=none)(z_range:mg "range"=none)(z_tuple:mg "tuple"=none):FnOk P w K mg base CX0 (j+1) f fd ["_law_feed_here","_law_scene","_law_many","_law_room","_law_down"] (spAni K n):=by
 refine F.ok sc_L_any_inner (fun vs H Q E h=>?_) (fun cdv A outer s H vs Q E hr h=>?_)
 ·obtain⟨_,_,_,_,_,_,_,rfl,_⟩:=h
  rfl
 obtain⟨fe,d,wl,xs,many,room,down,rfl,sc,m5,r2,r100,d1,dn,d50,k⟩:=h
 refine⟨_,(@pss_cons _ _ _ _ _ (@sa _ _ _ _ _ _ sc_L_any_inner.nd lm_L_any_inner 2 (@pe_callB _ _ _ _ _ _ _ _ _ (call_min2 rfl) (by show _=_;kernel_rfl) z_min PyProof.Rows.boot_min (@pa_c _ _ _ _ _ (va nm_L_any_inner 2) (@pa_c _ _ _ _ _ (pe_op op_sub (va nm_L_any_inner 3) pe_int) pa_nil (by rfl)) (by rfl)) (by decide) (by decide) (by rfl) (by rfl)) (by rfl) (by kernel_rfl) (by exact .inl rfl)) (@pss_one _ _ _ (@ps_ret _ _ _ _ (@pe_callTy _ _ _ _ _ _ _ _ _ call_tuple_of (by show _=_;kernel_rfl) z_tuple PyProof.Rows.boot_tuple (@pa_c _ _ _ _ _ (@pe_compC _ _ _ _ _ _ _ _ _ _ _ (defScope s_L_any_inner) ["_law_feed_here","_law_scene","_law_many","_law_room","_law_down"] ["_law_k"] [0,1,2,3,4] rfl rfl rfl (by decide +kernel) (@pi_range1 _ _ _ _ _ _ (by show _=_;kernel_rfl) z_range (pa_c (va nm_L_any_inner 2) pa_nil) (by rfl)) (fun _ _ _ _=>(pg_name (i:=0) (show(["_law_k","_law_feed_here","_law_scene","_law_many","_law_room","_law_down"]:List Str).Nodup by decide +kernel) rfl (Or.inl (by kernel_rfl)) (by first|exact .inl rfl|exact .inr (by kernel_rfl)))) (fun _ _ _ _=>pifs_nil) (fun _ _ _ _=>(@pe_call _ _ _ _ _ _ _ _ _ _ _ _ _ _ _ _ ATE.ok (hr.mono (by omega)) (by show _=_;kernel_rfl) ATE.at' ATE.kp ATE.bd .nil pass0 (@pa_c _ _ _ _ _ (va (show Nm ["_law_k","_law_feed_here","_law_scene","_law_many","_law_room","_law_down"] _ by show _=_;kernel_rfl) 1) (@pa_c _ _ _ _ _ (va (show Nm ["_law_k","_law_feed_here","_law_scene","_law_many","_law_room","_law_down"] _ by show _=_;kernel_rfl) 2) (@pa_c _ _ _ _ _ (@pe_op _ _ _ _ _ _ _ _ op_fdiv (pe_op op_sub (va (show Nm ["_law_k","_law_feed_here","_law_scene","_law_many","_law_room","_law_down"] _ by show _=_;kernel_rfl) 4) pe_int) (@pe_callB _ _ _ _ _ _ _ _ _ (call_max2 rfl) (by show _=_;kernel_rfl) z_max PyProof.Rows.boot_max (@pa_c _ _ _ _ _ pe_int (pa_c (va (show Nm ["_law_k","_law_feed_here","_law_scene","_law_many","_law_room","_law_down"] _ by show _=_;kernel_rfl) 3) pa_nil) (by rfl)) (by decide) (by decide) (by rfl) (by rfl))) (@pa_c _ _ _ _ _ (pe_op op_sub (va (show Nm ["_law_k","_law_feed_here","_law_scene","_law_many","_law_room","_law_down"] _ by show _=_;kernel_rfl) 5) pe_int) pa_nil (by rfl)) (by rfl)) (by rfl)) (by rfl)) (by decide) (by rfl) (by rfl))) (by intro _;rfl)) pa_nil (by rfl)) (by decide) (by decide) (by rfl) (by rfl))))),?_⟩
 try dsimp only[cx_K]
 try dsimp only[cx_K]
 fail "R"
 have em:(if(room:Int) - 1<(many:Int)then(room:Int) - 1 else(many:Int))=((min many (room-1):Nat):Int):=by split<;>omega
 rw[em]
 generalize hM:min many (room-1)=M at em k⊢
 have M1:M<=room-1:=by omega
 have M5:M<=5:=by omega
 rw[Int.toNat_natCast]
 have esh:((room:Int) - 1) / (if(M:Int)>1 then(M:Int)else 1)=(((room-1) / max 1 M:Nat):Int):=by
  have e1:(if(M:Int)>1 then(M:Int)else 1)=((max 1 M:Nat):Int):=by split<;>omega
  have e2:(room:Int) - 1=((room-1:Nat):Int):=by omega
  rw[e1,e2]
  exact(Int.natCast_ediv _ _).symm
 have edn:(down:Int) - 1=((down-1:Nat):Int):=by omega
 generalize hsh:(room-1) / max 1 M=sh at esh
 have sh1:M=0\/M*sh<=room-1:=by
  rw[←hsh]
  by_cases h0:M=0
  ·exact .inl h0
  ·right
   rw[show max 1 M=M by omega]
   exact Nat.mul_div_le _ _
 have sh2:1<=sh:=by
  rw[←hsh]
  exact(Nat.le_div_iff_mul_le (by omega)).mpr (by omega)
 have sh3:sh<=100:=by
  rw[←hsh]
  exact Nat.le_trans (Nat.div_le_self _ _) (by omega)
 have hdn:down-1<n:=by omega
 have hd5:down-1<=50:=by omega
 refine comp_range (n:=M) (fun i σ us H5=>(∃v,σ=[v,some (.ref fe),some (.ref d),some (.int (M:Int)),some (.int (room:Int)),some (.int (down:Int))])/\InI K fe d wl xs H (down-1) sh i us H5) ⟨⟨none,rfl⟩,⟨[],Go.refl sc,.nil,rfl,(fun t h=>nomatch h),Nat.le_of_eq (Nat.zero_mul sh).symm⟩⟩ (fun i σ us H5 _ h=>?_) (small (by omega)) ?_ ?_
 ·obtain⟨_,⟨ts,_,r,e,_⟩⟩:=h
  rw[r.length,List.length_map,e];exact Nat.le_refl _
 ·rintro i σ us H5 hi ⟨⟨v,rfl⟩,⟨ts,g5,r5,l5,o5,z5⟩⟩
  have sc5:=g5.sc
  fail "R"
  ·show [V.ref fe,V.ref d,V.int (((room:Int) - 1) / (if(M:Int)>1 then(M:Int)else 1)),V.int ((down:Int) - 1)]=_
   rw[esh,edn]
  refine⟨sc5,sh2,sh3,hdn,hd5,fun v6 H6 tm g6 r6 lt6=>?_⟩
  refine⟨⟨_,rfl⟩,⟨ts++[tm],g5.trans g6,?_,?_,?_,?_⟩⟩
  ·rw[List.map_append]
   exact(r5.kt g6.kt).snoc r6
  ·rw[List.length_append,l5];rfl
  ·intro t ht
   rcases List.mem_append.mp ht with ht|ht
   ·exact o5 t ht
   ·rw[List.mem_singleton.mp ht];exact⟨lt6.ok,lt6.nw,lt6.dp⟩
  ·have:=lt6.sz
   rw[Tm.sizes_append,Nat.succ_mul]
   have e1:Tm.sizes [tm]=tm.size+0:=by rw[Tm.sizes_cons];rfl
   omega
 ·rintro σ us H5 ⟨⟨v,rfl⟩,⟨ts,g5,r5,l5,o5,z5⟩⟩ p6 hp6
  have s6:=same_new hp6 (.lst us)
  have h6:upd H5 p6 (.lst us) p6=some (.lst us):=upd_same
  have r6:=r5.same s6
  have g6:=g5.same s6
  generalize upd H5 p6 (.lst us)=H6 at s6 h6 r6 g6⊢
  fail "R"
  refine .inl ⟨SqL.of h6,fun p7 hp7=>?_⟩
  have s7:=same_new hp7 (.tup us)
  refine k p7 us _ ts (g6.same s7) (SqT.of upd_same) (r6.same s7) l5 o5 ?_
  rcases sh1 with h0|h0
  ·subst h0
   have:Tm.sizes ts<=0:=by rw[Nat.zero_mul]at z5;exact z5
   omega
  ·omega
end
theorem tw_all{xs:List T}(hl:xs.length<=900)(h:∀x∈xs,Tw x):Tw (.t xs):=.t hl h
theorem tw_cons{y:T}{xs:List T}(hy:Tw y)(h:∀x∈xs,Tw x):∀x∈y::xs,Tw x:=fun x hx=>by
 rcases List.mem_cons.mp hx with rfl|hx
 ·exact hy
 ·exact h x hx
theorem tw_nil:∀x∈([]:List T),Tw x:=fun _ h=>nomatch h
theorem arm_tw{a:Str×List Str}{k:T}(h:a.2.length<=2)(hk:Tw k):Tw (armT a k):=by
 refine tw_all (by show 3<=900;decide) (tw_cons (.s _) (tw_cons (tw_all (by rw[List.length_map];omega) fun x hx=>?_) (tw_cons hk tw_nil)))
 obtain⟨y,_,rfl⟩:=List.mem_map.mp hx
 exact .s y
theorem arms_tw:∀(arms:List (Str×List Str)) (ks:List T),(∀a∈arms,a.2.length<=2)->(∀k∈ks,Tw k)->∀x∈List.zipWith armT arms ks,Tw x
 | [],_,_,_,x,hx=>by simp at hx
 |_::_,[],_,_,x,hx=>by simp at hx
 |a::r,k::q,h1,h2,x,hx=>by
  rw[List.zipWith_cons_cons]at hx
  rcases List.mem_cons.mp hx with rfl|hx
  ·exact arm_tw (h1 a (.head _)) (h2 k (.head _))
  ·exact arms_tw r q (fun b hb=>h1 b (.tail _ hb)) (fun b hb=>h2 b (.tail _ hb)) x hx
theorem enc_tw{tm:Tm}(h:TmOk tm)(w:Nw tm):Tw (enc tm):=by
 induction h with
 |@mk hd ks ar ho hk ih =>
  have kk:∀x∈ks.map enc,Tw x:=fun x hx=>by
   obtain⟨k,h1,rfl⟩:=List.mem_map.mp hx
   exact ih k h1 (w.kids k h1)
  have wl:=w.len
  have wh:=w.hd
  have ll:(ks.map enc).length<=5:=by rw[List.length_map];exact wl
  have one:∀s:Str,Tw (.t (.s s::ks.map enc)):=fun s=>tw_all (by rw[List.length_cons];omega) (tw_cons (.s _) kk)
  have two:∀s x:Str,Tw (.t (.s s::.s x::ks.map enc)):=fun s x=>tw_all (by rw[List.length_cons,List.length_cons];omega) (tw_cons (.s _) (tw_cons (.s _) kk))
  have kt:Tw (.t (ks.map enc)):=tw_all (by omega) kk
  rw[enc_mk]
  cases hd with
  |num n=>exact tw_all (by show 2<=900;decide) (tw_cons (.s _) (tw_cons (.i _) tw_nil))
  |name x=>exact tw_all (by show 2<=900;decide) (tw_cons (.s _) (tw_cons (.s _) tw_nil))
  |gap n=>exact tw_all (by show 2<=900;decide) (tw_cons (.s _) (tw_cons (.i _) tw_nil))
  |op s=>exact two "op" s
  |row=>exact tw_all (by show 2<=900;decide) (tw_cons (.s _) (tw_cons kt tw_nil))
  |more=>exact one "more"
  |first=>exact one "first"
  |others=>exact one "others"
  |long=>exact one "long"
  |ife=>exact one "if"
  |lt x=>exact two "let" x
  |tag t=>exact tw_all (by show 3<=900;decide) (tw_cons (.s _) (tw_cons (.s _) (tw_cons kt tw_nil)))
  |call f=>exact tw_all (by show 3<=900;decide) (tw_cons (.s _) (tw_cons (.s _) (tw_cons kt tw_nil)))
  |fold x y =>
   have arl:ks.length=3:=eq_of_beq (show(ks.length == 3)=true from ar)
   obtain⟨k1,k2,k3,rfl⟩:=ex3 arl
   exact tw_all (by show 6<=900;decide) (tw_cons (.s _) (tw_cons (kk _ (by simp)) (tw_cons (.s _) (tw_cons (.s _) (tw_cons (kk _ (by simp)) (tw_cons (kk _ (by simp)) tw_nil))))))
  |mat arms =>
   have arl:ks.length=arms.length+1:=eq_of_beq (show(ks.length == arms.length+1)=true from ar)
   cases ks with
   |nil=>cases arl
   |cons k r =>
    refine tw_all (by show 3<=900;decide) (tw_cons (.s _) (tw_cons (kk _ (.head _)) (tw_cons (tw_all ?_ (arms_tw arms _ wh fun x hx=>kk x (.tail _ hx))) tw_nil)))
    show(List.zipWith armT arms (r.map enc)).length<=900
    rw[List.length_zipWith,List.length_map]
    rw[List.length_cons]at wl
    omega
structure Fit(tm:Tm):Prop where
 ok:TmOk tm
 nw:Nw tm
 dp:tm.depth<=15
 sz:tm.size<=66
theorem Lt.fit{tm:Tm}{dn rm:Nat}(l:Lt tm dn rm)(h1:dn<=15)(h2:rm<=66):Fit tm:=⟨l.ok,l.nw,Nat.le_trans l.dp h1,Nat.le_trans l.sz h2⟩
theorem Fit.wd{tm:Tm}(l:Fit tm):Wd tm:=l.nw.wd
theorem Fit.len{tm:Tm}(l:Fit tm):(bw tm).txt.length<=3000:=by
 have:=txt_len l.ok l.nw
 have:=l.sz
 omega
theorem Fit.dep{tm:Tm}(l:Fit tm):(enc tm).dep<65:=by
 have:=enc_dep tm
 have:=l.dp
 omega
theorem Fit.tw{tm:Tm}(l:Fit tm):Tw (enc tm):=enc_tw l.ok l.nw
theorem s_dep{x:Str}:(T.s x).dep<65:=by simp[T.dep]
theorem Lt.wrap{h:Hd}{ts:List Tm}{dn rm:Nat}(ar:arOk h ts.length=true)(ho:hdOk h)(hw:nwH h)(hl:ts.length<=5)(hk:∀t∈ts,TmOk t/\Nw t/\t.depth<=dn)(hz:Tm.sizes ts+1<=rm):Lt (.mk h ts) (dn+1) rm :=
 ⟨.mk ar ho fun t ht=>(hk t ht).1,.mk hl hw fun t ht=>(hk t ht).2.1,Tm.depth_le fun t ht=>(hk t ht).2.2,by rw[Tm.size_mk];exact hz⟩
abbrev VlF:Bw->T->Prop:=fun b t=>t=val b
def spRead(K:PySem.W.Frag):Sp:=fun vs H Q _=>∃tm:Tm,vs=[.str (ofL (bw tm).txt)]/\TmOk tm/\Wd tm/\(bw tm).txt.length<=3000/\∀v' H',Same H H'->Rp K H' (enc tm) v'->Q v' H'
section
variable {P:Program}{w:World}{K:PySem.W.Frag}{mg:Str->Option Value}{base:Heap}{gK gS gT:Addr}{kfd sfd tfd:FuncData}
theorem nm_read_term:Nm ["text"] (defScope s_read_term):=by decide +kernel
theorem sc_read_term:FnScope ["text"] ["text"] (defScope s_read_term):=⟨rfl,rfl,rfl,by decide +kernel,rfl,by decide +kernel,by decide +kernel⟩
theorem ok_read{f:Addr}{fd:FuncData}{jc js:Nat}(hj:3<=js)(F:Fun K "read_term" "read_term" s_read_term f fd)(KL:Has P w K mg base "close_term" jc ["opener","items"] (spClose K Gd2 VlF) gK kfd)(SC1:Has P w K mg base "scanned_one" js ["text","close"] (spScan1 K Gd2 VlF gK) gS sfd)(TO:Has P w K mg base "term_of" 3 ["item"] (spTermOf K) gT tfd):FnOk P w K mg base CX0 (js+1) f fd ["text"] (spRead K):=by
 refine F.ok sc_read_term (fun vs H Q E h=>?_) (fun cdv A outer s H vs Q E hr h=>?_)
 ·obtain⟨_,rfl,_⟩:=h
  rfl
 obtain⟨tm,rfl,ht,hw,hl,k⟩:=h
 refine⟨_,(@pss_one _ _ _ (@ps_ret _ _ _ _ (@pe_call _ _ _ _ _ _ _ _ _ _ _ _ _ _ _ _ TO.ok (hr.mono (by omega)) (by show _=_;kernel_rfl) TO.at' TO.kp TO.bd .nil pass0 (@pa_c _ _ _ _ _ (@pe_call _ _ _ _ _ _ _ _ _ _ _ _ _ _ _ _ SC1.ok (hr.mono (by omega)) (by show _=_;kernel_rfl) SC1.at' SC1.kp SC1.bd .nil pass0 (@pa_c _ _ _ _ _ (va nm_read_term 0) (pa_c (pe_glob (v:=.ref gK) (by show _=_;kernel_rfl) KL.at' rfl) pa_nil) (by rfl)) (by decide) (by rfl) (by rfl)) pa_nil (by rfl)) (by decide) (by rfl) (by rfl)))),?_⟩
 try dsimp only[cx_K]
 try dsimp only[cx_K,cx_w]
 have hb:=bw_ok ht
 have hg:Gd2 (bw tm):=⟨.t ht,bw_sml hw⟩
 fail "R"
 intro v H1 t s1 r1 v1
 have v1:t=val (bw tm):=v1
 rw[v1,val_bw ht]at r1
 fail "R"
 intro v' H2 s2 r2
 exact k _ _ (s1.trans s2) r2
end
theorem join_emp:∀ts:List Str,Txt.join "" ts=ofL (ts.flatMap (·.cps.toList)):=by
 intro ts
 show Builtin.Str.glued (Str.ofString "") _=_
 rw[StrLaws.glued_eq_join]
 have:∀ts:List Str,Str.join (Str.ofString "") ts=ofL (ts.flatMap (·.cps.toList)):=by
  intro ts
  induction ts with
  |nil=>rfl
  |cons p r ih =>
   cases r with
   |nil=>show p=ofL (p.cps.toList++[]);rw[List.append_nil,ofL_toList]
   |cons q r =>
    show p++(Str.ofString "")++Str.join (Str.ofString "") (q::r)=_
    rw[ih,List.flatMap_cons (xs:=q::r),←app_ofL,ofL_toList]
    congr 1
 exact this ts
theorem join_bl:∀bs:List Bw,Txt.join " " (bs.map fun b=>ofL b.txt)=ofL (Bw.txts bs):=by
 intro bs
 show Builtin.Str.glued (Str.ofString " ") _=_
 rw[StrLaws.glued_eq_join]
 have key:∀(b:Bw) (bs:List Bw),Str.join (Str.ofString " ") ((b::bs).map fun b=>ofL b.txt)=ofL (b.txt++Bw.txtr bs):=by
  intro b bs
  induction bs generalizing b with
  |nil =>
   show ofL b.txt=_
   unfold Bw.txtr
   rw[List.append_nil]
  |cons c r ih =>
   show ofL b.txt++(Str.ofString " ")++Str.join (Str.ofString " ") ((c::r).map fun b=>ofL b.txt)=_
   rw[ih c]
   show ofL b.txt++ofL [32]++ofL _=_
   rw[app_ofL,app_ofL]
   conv=>rhs;unfold Bw.txtr
   simp
 cases bs with
 |nil=>unfold Bw.txts;rfl
 |cons b r=>rw[key];unfold Bw.txts;rfl
theorem sum_txt:∀ts:List Str,(ts.map (·.length)).sum=(ts.flatMap (·.cps.toList)).length
 | []=>rfl
 |x::r=>by
  rw[List.map_cons,List.sum_cons,sum_txt r,List.flatMap_cons,List.length_append]
  have:x.cps.toList.length=x.length:=by show _=x.cps.size;simp
  omega
theorem small6{n:Nat}(h:n<=100000):n<=sizeLine:=by rw[sizeLine_eq];omega
theorem popR{us:List V}{u:V}:(us.reverse++[u])[(us.reverse++[u]).length-1]?=some u:=by simp
theorem enc_t(tm:Tm):∃ts,enc tm=.t ts:=by
 obtain⟨h,ks⟩:=tm
 rw[enc_mk]
 cases h<;>exact⟨_,rfl⟩
end G08
namespace L2
open PySem PySem.Spec PyProof.Rows
section
variable {X:Cx}
theorem op_catT0:OpR X (binaryOp .Add) (fun x y H Q=>∃a b ys,x=.ref a/\y=.ref b/\SqT X.K H a []/\SqT X.K H b ys/\Q (.ref b) H):=by
 intro pins s σ H x y u v Q I rx ry h
 obtain⟨a,b,ys,rfl,rfl,ha,hb,q⟩:=h
 cases rx
 cases ry
 obtain⟨its,r1,ht,_⟩:=I.tuple ha
 obtain⟨jts,r2,hb2,_⟩:=I.tuple hb
 cases r1
 obtain⟨⟨cls,dd,data,sl⟩,ho,hc,n,hd⟩:=id ht
 obtain⟨⟨cls2,dd2,data2,sl2⟩,ho2,hc2,n2,hd2⟩:=id hb2
 simp only at hc hd hc2 hd2
 subst hc hd hc2 hd2
 exact concat_meets ⟨_,ho,rfl⟩ ⟨_,ho2,rfl⟩ noFill_tuple_add seq_tuple_add PySem.F.slot_tuple_add PySem.F.entry_tuple_add (PySem.F.args_tuple_add_2 _ _)
   (tuple_addW0 a b _ jts.toArray n n2 dd dd2 sl sl2 (by simp)) ⟨ho,ho2,⟨.ref b,H,I,rfl,q⟩⟩
end
section
variable {X:Cx}
def rCatA(K:PySem.W.Frag):R2:=fun x y H Q=>∃a b xs ys,x=.ref a/\y=.ref b/\SqT K H a xs/\SqT K H b ys/\xs.length+ys.length<=sizeLine/\∀p H',Same H H'->SqT K H' p (xs++ys)->Q (.ref p) H'
theorem op_catTA:OpR X (binaryOp .Add) (rCatA X.K):=by
 intro pins s σ H x y u v Q I rx ry h
 obtain⟨a,b,xs,ys,rfl,rfl,ha,hb,hz,k⟩:=h
 cases xs with
 |nil=>exact op_catT0 pins s σ H _ _ u v Q I rx ry ⟨a,b,ys,rfl,rfl,ha,hb,k b H (Same.refl _) hb⟩
 |cons x r =>
  exact op_catT pins s σ H _ _ u v Q I rx ry ⟨a,b,_,ys,rfl,rfl,ha,hb,(by simp),hz,(fun z=>by subst z;have:=k a H (Same.refl _);rw[List.append_nil]at this;exact this ha),fun _ p hp=>k p _ (same_new hp _) (SqT.of upd_same)⟩
theorem op_catTAK(K:PySem.W.Frag)(hK:X.K=K):OpR X (binaryOp .Add) (rCatA K):=by subst hK;exact op_catTA
end
def rJoinT(K:PySem.W.Frag):V->List V->Hp->VK->Prop:=fun x vs H Q=>∃z p ys,x=.str z/\vs=[.ref p]/\SqT K H p (ys.map V.str)/\(ys.map (·.length)).sum+ys.length*z.length<=16777216/\Q (.str (Txt.join z ys)) H
theorem mt_joinTK{X:Cx}(K:PySem.W.Frag)(hK:X.K=K):MtR X "str.join" (rJoinT K):=by
 subst hK
 intro pins s σ H x xs v us Q I rx rs h
 obtain⟨z,p,ys,rfl,rfl,hq,hb,q⟩:=h
 obtain⟨t,rfl⟩:=rx
 obtain⟨u,rfl,ru⟩:=vals1 rs
 cases ru
 obtain⟨its,rv,pl,hz⟩:=I.tuple hq
 exact join_tuple pl (by simpa using strs_of rv) hb fun t' k=>⟨.str _,H,I.tok _,⟨_,rfl⟩,q⟩
theorem pe_bmK{X:Cx}{T:String}{name:Str}{id:String}{r:V->List V->Hp->VK->Prop}{o e:Expr}{es:List Expr}{to:TE}{t:TA}{apos cpos:Pos}(K:PySem.W.Frag)(hK:X.K=K)(pa:PlainAttrs T)(slot:Slot T name id)(hty:typeOf (.builtin id)=pure (.type "method_descriptor"))(hm:MtR X id r)(ho:PE X o to)(ha:PA X (e::es) t)
  (hbase:attributeBase o name X.env (eval o X.env)=eval o X.env:=by rfl)
  (hfew:((backTo cpos (starEach (e::es) X.env)).all (fun x=>!x.1)&&(backToKw cpos (keywordEach [] X.env)).all (fun x=>x.1.isSome)
   && decide ((e::es).length+([]:List Keyword).length+(if([]:List Keyword).isEmpty then 0 else 1)<30))=true:=by rfl)
  (hline:(apos.endLine == cpos.line)=true:=by rfl) (hs:starEach (e::es) X.env=(false,eval e X.env)::starEach es X.env:=by rfl) (hplain:(backTo cpos (starEach es X.env)).any (·.1)=false:=by rfl) :
  PE X (.Call (.Attribute o name apos) (e::es) [] cpos) (tBM K T r to t):=by
 subst hK
 exact pe_bm pa slot hty hm ho ha hbase hfew hline hs hplain
end L2
namespace G08
open PySem L2
def txS(tm:Tm):Str:=ofL (bw tm).txt
def spLtt(K:PySem.W.Frag)(n:Nat):Sp:=fun vs H Q _=>∃(v:V) (tm:Tm),vs=[v]/\Rp K H (enc tm) v/\TmOk tm/\Nw tm/\tm.depth<n/\tm.size<=66/\∀H',Same H H'->Q (.str (txS tm)) H'
def spLts(K:PySem.W.Frag)(n:Nat):Sp:=fun vs H Q _=>∃(p:Addr) (us:List V) (ts:List Tm),vs=[.ref p]/\SqT K H p us/\Rps K H (ts.map enc) us/\ts.length<=5/\(∀t∈ts,TmOk t/\Nw t/\t.depth<n/\t.size<=66)/\∀(l:Addr) H',Same H H'->H l=none->H' l=some (.lst ((ts.map txS).map V.str))->Q (.ref l) H'
theorem sum_tl:∀ws:List Bw,((ws.map fun b=>ofL b.txt).map (·.length)).sum+ws.length=tl1 ws
 | []=>rfl
 |x::r=>by
  have ih:=sum_tl r
  rw[List.map_cons,List.map_cons,List.sum_cons,List.length_cons,ofL_len]
  show _=x.txt.length+1+tl1 r
  omega
theorem tl1_txts:∀ws:List Bw,tl1 ws<=(Bw.txts ws).length+1
 | []=>Nat.zero_le _
 |x::r=>by
  unfold Bw.txts
  rw[List.length_append,txtr_len r]
  show x.txt.length+1+tl1 r<=_
  omega
theorem sizes_mem{k:Tm}:∀{ks:List Tm},k∈ks->k.size<=Tm.sizes ks
 |_::r,.head _=>by rw[Tm.sizes_cons];exact Nat.le_add_right _ _
 |_::r,.tail _ h=>by
  have:=sizes_mem h
  rw[Tm.sizes_cons]
  omega
theorem bS_atm(x:Str):ofL (atm x).txt=x:=by unfold atm Bw.txt;exact ofL_toList x
theorem emp_app(x:Str):("":Str)++x=x:=empty_app
theorem txS_num(n:Int)(ks:List Tm):txS (.mk (.num n) ks)=Str.ofString (toString n):=by
 unfold txS
 rw[bw_mk]
 show ofL (Bw.a (digs n)).txt=_
 unfold Bw.txt
 exact ofL_toList _
theorem txS_name(x:Str)(ks:List Tm):txS (.mk (.name x) ks)=x:=by
 unfold txS
 rw[bw_mk]
 exact bS_atm x
theorem txS_gap(n:Int)(ks:List Tm):txS (.mk (.gap n) ks)=("?":Str)++Str.ofString (toString n):=by
 unfold txS
 rw[bw_mk]
 show ofL (Bw.a (63::digs n)).txt=_
 unfold Bw.txt
 rw[show Str.ofString (toString n)=ofL (digs n)from(ofL_toList _).symm]
 show _=ofL [63]++ofL (digs n)
 rw[app_ofL]
 rfl
theorem dig_len{n:Int}(h:0<=n/\n<1000000):(Str.ofString (toString n)).length<=6:=by
 rw[show Str.ofString (toString n)=ofL (digs n)from(ofL_toList _).symm,ofL_len]
 exact digs_len h
theorem sxS_map(xs:List Sx):(xs.map sxB).map (fun b=>ofL b.txt)=xs.map fun x=>ofL (sxL x):=by
 rw[List.map_map]
 exact List.map_congr_left fun x _=>by show ofL (sxB x).txt=_;rw[sxB_txt]
def armW(a:Str×List Str)(k:Tm):List Bw:=atm a.1::(a.2.map atm++[bw k])
theorem armW_map(a:Str×List Str)(k:Tm):(armW a k).map (fun b=>ofL b.txt)=a.1::(a.2++[txS k]):=by
 unfold armW
 rw[List.map_cons,List.map_append,List.map_map,bS_atm]
 congr 2
 conv=>rhs;rw[←List.map_id a.2]
 exact List.map_congr_left fun x _=>bS_atm x
theorem armW_txt(a:Str×List Str)(k:Tm):(armB a (bw k)).txt=40::(Bw.txts (armW a k)++[41]):=by
 unfold armB armW Bw.txt
 rfl
theorem arms_map:∀(arms:List (Str×List Str)) (ks:List Tm),(List.zipWith armB arms (ks.map bw)).map (fun b=>ofL b.txt)=(arms.zip ks).map fun z=>ofL (armB z.1 (bw z.2)).txt
 | [],_=>by simp
 |_::_,[]=>by simp
 |a::r,k::q=>by
  rw[List.map_cons,List.zipWith_cons_cons,List.zip_cons_cons,List.map_cons,List.map_cons,arms_map r q]
theorem txS_map(ts:List Tm):(ts.map bw).map (fun b=>ofL b.txt)=ts.map txS:=by rw[List.map_map];rfl
section
variable {P:Program}{w:World}{K:PySem.W.Frag}{mg:Str->Option Value}{base:Heap}{gT gS:Addr}{tfd sfd:FuncData}
theorem nm_L_texts:Nm ["_law_terms"] (defScope s_L_texts):=by decide +kernel
theorem sc_L_texts:FnScope ["_law_terms"] ["_law_terms"] (defScope s_L_texts):=⟨rfl,rfl,rfl,by decide +kernel,rfl,by decide +kernel,by decide +kernel⟩
theorem ok_lts{f:Addr}{fd:FuncData}{n j:Nat}(F:Fun K "_law_texts" "_law_texts" s_L_texts f fd)(LTT:Has P w K mg base "_law_term_text" j ["_law_term"] (spLtt K n) gT tfd):FnOk P w K mg base CX0 (j+1) f fd ["_law_terms"] (spLts K n):=by
 refine F.ok sc_L_texts (fun vs H Q E h=>?_) (fun cdv A outer s H vs Q E hr h=>?_)
 ·obtain⟨_,_,_,rfl,_⟩:=h
  rfl
 obtain⟨p,us,ts,rfl,sq,r,l5,ok,k⟩:=h
 refine⟨_,(@pss_one _ _ _ (@ps_ret _ _ _ _ (@pe_compC _ _ _ _ _ _ _ _ _ _ _ (defScope s_L_texts) ["_law_terms"] ["_law_term"] [] rfl rfl rfl (by decide +kernel) (pi_tup (va nm_L_texts 0)) (fun _ _ _ _=>(pg_name (i:=0) (show(["_law_term"]:List Str).Nodup by decide +kernel) rfl (Or.inl (by kernel_rfl)) (by first|exact .inl rfl|exact .inr (by kernel_rfl)))) (fun _ _ _ _=>pifs_nil) (fun _ _ _ _=>(@pe_call _ _ _ _ _ _ _ _ _ _ _ _ _ _ _ _ LTT.ok (hr.mono (by omega)) (by show _=_;kernel_rfl) LTT.at' LTT.kp LTT.bd .nil pass0 (pa_c (va (show Nm ["_law_term"] _ by show _=_;kernel_rfl) 0) pa_nil) (by decide) (by rfl) (by rfl))) (by intro _;rfl)))),?_⟩
 try dsimp only[cx_K]
 try dsimp only[cx_K]
 fail "R"
 refine comp_mapT (K:=K) (e:=enc) (φ:=fun t=>[T.s (txS t)]) (ps:=ts) (fun σ=>∃x,σ=[x]) sq r (by omega) (fun _=>Nat.le_refl _) ⟨_,rfl⟩ ?_ ?_
 ·rintro q hq x σ H2 N s2 ⟨y,rfl⟩ rx kN
  obtain⟨o1,o2,o3,o4⟩:=ok q hq
  fail "R"
  intro H3 s3
  exact kN _ _ _ ⟨⟨_,rfl⟩,s3,.one .s⟩
 ·intro l H' us' s3 hl h3 r3
  rw[fm_one]at r3
  have e:us'=(ts.map txS).map V.str:=by
   have r4:Rps K H' ((ts.map txS).map T.s) us':=by rw[List.map_map];exact r3
   exact Rps.strs_inv r4
  rw[e]at h3
  exact k l H' s3 hl h3
theorem nm_L_term_text:Nm ["_law_term","_law_head","_law_words"] (defScope s_L_term_text):=by decide +kernel
theorem lm_L_term_text:Lm ["_law_term","_law_head","_law_words"] (defScope s_L_term_text):=by decide +kernel
theorem sc_L_term_text:FnScope ["_law_term","_law_head","_law_words"] ["_law_term"] (defScope s_L_term_text):=⟨rfl,rfl,rfl,by decide +kernel,rfl,by decide +kernel,by decide +kernel⟩
theorem ok_ltt{f:Addr}{fd:FuncData}{n j:Nat}(hj:1<=j)(F:Fun K "_law_term_text" "_law_term_text" s_L_term_text f fd)(LTT:Has P w K mg base "_law_term_text" j ["_law_term"] (spLtt K n) gT tfd)(LTS:Has P w K mg base "_law_texts" (j+1) ["_law_terms"] (spLts K n) gS sfd)(z_str:mg "str"=none)(z_int:mg "int"=none)(z_isinstance:mg "isinstance"=none):FnOk P w K mg base CX0 (j+2) f fd ["_law_term"] (spLtt K (n+1)):=by
 refine F.ok sc_L_term_text (fun vs H Q E h=>?_) (fun cdv A outer s H vs Q E hr h=>?_)
 ·obtain⟨_,_,rfl,_⟩:=h
  rfl
 obtain⟨v,tm,rfl,r,ht,hw,hd,hz,k⟩:=h
 refine⟨_,(@pss_cons _ _ _ _ _ (@sa _ _ _ _ _ _ sc_L_term_text.nd lm_L_term_text 1 (pe_ix ix_tup (va nm_L_term_text 0) pe_int (fun _ _=>rfl)) (by rfl) (by kernel_rfl) (by exact .inl rfl)) (@pss_cons _ _ _ _ _ (@ps_if _ _ _ _ _ _ _ _ (@pt_cmpR _ _ _ _ _ _ _ _ op_in_seq (va nm_L_term_text 1) (@pe_tup _ _ _ _ _ (@pa_c _ _ _ _ _ pe_str (pa_c pe_str (pa_c pe_str pa_nil)) (by rfl))) (by with_unfolding_all rfl)) (@pss_one _ _ _ (@ps_ret _ _ _ _ (@pe_op _ _ _ _ _ _ _ _ op_add_str (@pe_ix _ _ _ _ _ _ _ ix_list (@pe_lst _ _ _ _ (pa_c pe_str (pa_c pe_str pa_nil))) (@pe_callTy _ _ _ _ _ _ _ _ _ call_int1 (by show _=_;kernel_rfl) z_int PyProof.Rows.boot_int (@pa_c _ _ _ _ _ (pe_cmpR op_eq (va nm_L_term_text 1) pe_str (nomark _)) pa_nil (by rfl)) (by decide) (by decide) (by rfl) (by rfl)) (fun _ _=>rfl)) (@pe_callTy _ _ _ _ _ _ _ _ _ call_strV (by show _=_;kernel_rfl) z_str PyProof.Rows.boot_str (@pa_c _ _ _ _ _ (pe_ix ix_tup (va nm_L_term_text 0) pe_int (fun _ _=>rfl)) pa_nil (by rfl)) (by decide) (by decide) (by rfl) (by rfl))))) pss_nil) (@pss_cons _ _ _ _ _ (@ps_if _ _ _ _ _ _ _ _ (pt_cmpR op_eq (va nm_L_term_text 1) pe_str (nomark _)) (@pss_one _ _ _ (@sa _ _ _ _ _ _ sc_L_term_text.nd lm_L_term_text 2 (@pe_op _ _ _ _ _ _ _ _ op_cat (@pe_lst _ _ _ _ (@pa_c _ _ _ _ _ (pe_ix ix_tup (va nm_L_term_text 0) pe_int (fun _ _=>rfl)) pa_nil (by rfl))) (@pe_call _ _ _ _ _ _ _ _ _ _ _ _ _ _ _ _ LTS.ok (hr.mono (by omega)) (by show _=_;kernel_rfl) LTS.at' LTS.kp LTS.bd .nil pass0 (@pa_c _ _ _ _ _ (pe_slice sl_tup (va nm_L_term_text 0) (po_some pe_int) po_none) pa_nil (by rfl)) (by decide) (by rfl) (by rfl))) (by rfl) (by kernel_rfl) (by exact .inl rfl))) (@pss_one _ _ _ (@ps_if _ _ _ _ _ _ _ _ (pt_cmpR op_eq (va nm_L_term_text 1) pe_str (nomark _)) (@pss_one _ _ _ (@sa _ _ _ _ _ _ sc_L_term_text.nd lm_L_term_text 2 (@pe_op _ _ _ _ _ _ _ _ op_cat (@pe_lst _ _ _ _ (pa_c (va nm_L_term_text 1) pa_nil)) (@pe_call _ _ _ _ _ _ _ _ _ _ _ _ _ _ _ _ LTS.ok (hr.mono (by omega)) (by show _=_;kernel_rfl) LTS.at' LTS.kp LTS.bd .nil pass0 (@pa_c _ _ _ _ _ (pe_ix ix_tup (va nm_L_term_text 0) pe_int (fun _ _=>rfl)) pa_nil (by rfl)) (by decide) (by rfl) (by rfl))) (by rfl) (by kernel_rfl) (by exact .inl rfl))) (@pss_one _ _ _ (@ps_if _ _ _ _ _ _ _ _ (pt_cmpR op_eq (va nm_L_term_text 1) pe_str (nomark _)) (@pss_one _ _ _ (@sa _ _ _ _ _ _ sc_L_term_text.nd lm_L_term_text 2 (@pe_op _ _ _ _ _ _ _ _ op_cat (@pe_lst _ _ _ _ (@pa_c _ _ _ _ _ (@pe_op _ _ _ _ _ _ _ _ op_add_str (pe_ix ix_tup (va nm_L_term_text 0) pe_int (fun _ _=>rfl)) pe_str) pa_nil (by rfl))) (@pe_call _ _ _ _ _ _ _ _ _ _ _ _ _ _ _ _ LTS.ok (hr.mono (by omega)) (by show _=_;kernel_rfl) LTS.at' LTS.kp LTS.bd .nil pass0 (@pa_c _ _ _ _ _ (pe_ix ix_tup (va nm_L_term_text 0) pe_int (fun _ _=>rfl)) pa_nil (by rfl)) (by decide) (by rfl) (by rfl))) (by rfl) (by kernel_rfl) (by exact .inl rfl))) (@pss_one _ _ _ (@ps_if _ _ _ _ _ _ _ _ (pt_cmpR op_eq (va nm_L_term_text 1) pe_str (nomark _)) (@pss_one _ _ _ (@sa _ _ _ _ _ _ sc_L_term_text.nd lm_L_term_text 2 (@pe_op _ _ _ _ _ _ _ _ op_cat (@pe_lst _ _ _ _ (@pa_c _ _ _ _ _ (va nm_L_term_text 1) (@pa_c _ _ _ _ _ (pe_ix ix_tup (va nm_L_term_text 0) pe_int (fun _ _=>rfl)) pa_nil (by rfl)) (by rfl))) (@pe_call _ _ _ _ _ _ _ _ _ _ _ _ _ _ _ _ LTS.ok (hr.mono (by omega)) (by show _=_;kernel_rfl) LTS.at' LTS.kp LTS.bd .nil pass0 (@pa_c _ _ _ _ _ (pe_ix ix_tup (va nm_L_term_text 0) pe_int (fun _ _=>rfl)) pa_nil (by rfl)) (by decide) (by rfl) (by rfl))) (by rfl) (by kernel_rfl) (by exact .inl rfl))) (@pss_one _ _ _ (@ps_if _ _ _ _ _ _ _ _ (pt_cmpR op_eq (va nm_L_term_text 1) pe_str (nomark _)) (@pss_cons _ _ _ _ _ (@sa _ _ _ _ _ _ sc_L_term_text.nd lm_L_term_text 2 (@pe_lst _ _ _ _ (@pa_c _ _ _ _ _ (va nm_L_term_text 1) (@pa_c _ _ _ _ _ (@pe_call _ _ _ _ _ _ _ _ _ _ _ _ _ _ _ _ LTT.ok (hr.mono (by omega)) (by show _=_;kernel_rfl) LTT.at' LTT.kp LTT.bd .nil pass0 (@pa_c _ _ _ _ _ (pe_ix ix_tup (va nm_L_term_text 0) pe_int (fun _ _=>rfl)) pa_nil (by rfl)) (by decide) (by rfl) (by rfl)) pa_nil (by rfl)) (by rfl))) (by rfl) (by kernel_rfl) (by exact .inl rfl)) (@pss_one _ _ _ (@sa _ _ _ _ _ _ sc_L_term_text.nd lm_L_term_text 2 (@pe_op _ _ _ _ _ _ _ _ op_cat (va nm_L_term_text 2) (@pe_compC _ _ _ _ _ _ _ _ _ _ _ (defScope s_L_term_text) ["_law_term","_law_head","_law_words"] ["_law_t","_law_names","_law_arm"] [] rfl rfl rfl (by decide +kernel) (@pi_tup _ _ _ _ (pe_ix ix_tup (va nm_L_term_text 0) pe_int (fun _ _=>rfl))) (fun _ _ _ _=>(@pg_tupK _ _ _ _ _ (3) K rfl rfl (@pgs_cons _ _ _ _ _ (pg_name (i:=0) (show(["_law_t","_law_names","_law_arm"]:List Str).Nodup by decide +kernel) rfl (Or.inl (by kernel_rfl)) (by first|exact .inl rfl|exact .inr (by kernel_rfl))) (@pgs_cons _ _ _ _ _ (pg_name (i:=1) (show(["_law_t","_law_names","_law_arm"]:List Str).Nodup by decide +kernel) rfl (Or.inl (by kernel_rfl)) (by first|exact .inl rfl|exact .inr (by kernel_rfl))) (pgs_cons (pg_name (i:=2) (show(["_law_t","_law_names","_law_arm"]:List Str).Nodup by decide +kernel) rfl (Or.inl (by kernel_rfl)) (by first|exact .inl rfl|exact .inr (by kernel_rfl))) pgs_nil) (by rfl)) (by rfl)) (by rfl) (by rfl))) (fun _ _ _ _=>pifs_nil) (fun _ _ _ _=>(@pe_op _ _ _ _ _ _ _ _ op_add_str (@pe_op _ _ _ _ _ _ _ _ op_add_str pe_str (@pe_bmK _ _ _ _ _ _ _ _ _ _ _ _ K rfl PySem.F.plainAttrs_str PySem.F.slot_str_join PySem.F.type_str_join (mt_joinTK K rfl) pe_str (@pa_c _ _ _ _ _ (@pe_op _ _ _ _ _ _ _ _ (op_catTAK K rfl) (@pe_op _ _ _ _ _ _ _ _ (op_catTAK K rfl) (@pe_tup _ _ _ _ _ (pa_c (va (show Nm ["_law_t","_law_names","_law_arm"] _ by show _=_;kernel_rfl) 0) pa_nil)) (va (show Nm ["_law_t","_law_names","_law_arm"] _ by show _=_;kernel_rfl) 1)) (@pe_tup _ _ _ _ _ (@pa_c _ _ _ _ _ (@pe_call _ _ _ _ _ _ _ _ _ _ _ _ _ _ _ _ LTT.ok (hr.mono (by omega)) (by show _=_;kernel_rfl) LTT.at' LTT.kp LTT.bd .nil pass0 (pa_c (va (show Nm ["_law_t","_law_names","_law_arm"] _ by show _=_;kernel_rfl) 2) pa_nil) (by decide) (by rfl) (by rfl)) pa_nil (by rfl)))) pa_nil (by rfl)) (by kernel_rfl) (by kernel_rfl) (by kernel_rfl) (by kernel_rfl) (by kernel_rfl))) pe_str)) (by intro _;rfl))) (by rfl) (by kernel_rfl) (by exact .inl rfl)))) (@pss_one _ _ _ (@sa _ _ _ _ _ _ sc_L_term_text.nd lm_L_term_text 2 (@pe_op _ _ _ _ _ _ _ _ op_cat (@pe_lst _ _ _ _ (pa_c (va nm_L_term_text 1) pa_nil)) (@pe_compC _ _ _ _ _ _ _ _ _ _ _ (defScope s_L_term_text) ["_law_term","_law_head","_law_words"] ["_law_one"] [] rfl rfl rfl (by decide +kernel) (@pi_tup _ _ _ _ (pe_slice sl_tup (va nm_L_term_text 0) (po_some pe_int) po_none)) (fun _ _ _ _=>(pg_name (i:=0) (show(["_law_one"]:List Str).Nodup by decide +kernel) rfl (Or.inl (by kernel_rfl)) (by first|exact .inl rfl|exact .inr (by kernel_rfl)))) (fun _ _ _ _=>pifs_nil) (fun _ _ _ _=>(@pe_ifExp _ _ _ _ _ _ _ _ (@pt_val _ _ _ (@pe_callB _ _ _ _ _ _ _ _ _ (call_isSt K rfl) (by show _=_;kernel_rfl) z_isinstance PyProof.Rows.boot_isinstance (@pa_c _ _ _ _ _ (va (show Nm ["_law_one"] _ by show _=_;kernel_rfl) 0) (pa_c (pe_bltn (v:=.ty "str") (by show _=_;kernel_rfl) z_str (by decide +kernel) rfl) pa_nil) (by rfl)) (by decide) (by decide) (by rfl) (by rfl)) (by intro _;rfl)) (va (show Nm ["_law_one"] _ by show _=_;kernel_rfl) 0) (@pe_call _ _ _ _ _ _ _ _ _ _ _ _ _ _ _ _ LTT.ok (hr.mono (by omega)) (by show _=_;kernel_rfl) LTT.at' LTT.kp LTT.bd .nil pass0 (pa_c (va (show Nm ["_law_one"] _ by show _=_;kernel_rfl) 0) pa_nil) (by decide) (by rfl) (by rfl)))) (by intro _;rfl))) (by rfl) (by kernel_rfl) (by exact .inl rfl)))))))))))) (@pss_one _ _ _ (@ps_ret _ _ _ _ (@pe_op _ _ _ _ _ _ _ _ op_add_str (@pe_op _ _ _ _ _ _ _ _ op_add_str pe_str (@pe_bm _ _ _ _ _ _ _ _ _ _ _ _ PySem.F.plainAttrs_str PySem.F.slot_str_join PySem.F.type_str_join mt_join pe_str (pa_c (va nm_L_term_text 2) pa_nil) (by kernel_rfl) (by kernel_rfl) (by kernel_rfl) (by kernel_rfl) (by kernel_rfl))) pe_str)))))),?_⟩
 try dsimp only[cx_K]
 try dsimp only[cx_K]
 refine seq_cut3 ?_
 intro N1 N2 N3 c1 c2 c3
 have lt0:=txt_len ht hw
 have lt:(bw tm).txt.length<=3000:=by omega
 have tail:∀(hd:Str) (l:Addr) (H':Hp) (ws:List Bw),Same H H'->H' l=some (.lst ((ws.map fun b=>ofL b.txt).map V.str))->bw tm=.g 40 ws->N3 [some v,some (.str hd),some (.ref l)] H':=by
  intro hd l H' ws s' h' e'
  have et:(bw tm).txt=40::(Bw.txts ws++[41]):=by rw[e'];unfold Bw.txt;rfl
  have el:(Bw.txts ws).length+2=(bw tm).txt.length:=by rw[et];simp
  have st:=sum_tl ws
  have sl:=tl1_txts ws
  have sq':SqL K H' l ((ws.map fun b=>ofL b.txt).map V.str):=SqL.of h'
  have hj:((ws.map fun b=>ofL b.txt).map (·.length)).sum+(ws.map fun b=>ofL b.txt).length*(" ":Str).length<=16777216:=by
   rw[show(" ":Str).length=1 by decide +kernel,List.length_map]
   omega
  have jb:=join_bl ws
  have l1:("(":Str).length+(Txt.join " " (ws.map fun b=>ofL b.txt)).length<=sizeLine:=small6 (by rw[jb,ofL_len];show 1+_<=_;omega)
  have l2:(("(":Str)++Txt.join " " (ws.map fun b=>ofL b.txt)).length+(")":Str).length<=sizeLine:=small6 (by rw[jb,strLen_append,ofL_len];show 1+_+1<=_;omega)
  fail "R"
  rw[jb]
  have e3:("(":Str)++ofL (Bw.txts ws)++(")":Str)=txS tm:=by
   unfold txS
   rw[et]
   show ofL [40]++ofL _++ofL [41]=_
   rw[app_ofL,app_ofL]
   rfl
  show Q (.str (("(":Str)++ofL (Bw.txts ws)++(")":Str))) H'
  rw[e3]
  exact k _ s'
 clear c3
 obtain⟨h,ks⟩:=tm
 have wl:=hw.len
 have wh:=hw.hd
 have wk:=hw.kids
 rw[enc_mk]at r
 have hsz:=Tm.size_mk h ks
 obtain⟨ar,ho,hk⟩:=ht
 have kok:∀q∈ks,TmOk q/\Nw q/\q.depth<n/\q.size<=66:=fun q hq=>⟨hk q hq,wk q hq,by have:=Tm.depth_mem (h:=h) hq;omega,by have:=sizes_mem hq;omega⟩
 cases h with
 |num n =>
  obtain⟨a,v1,v2,rfl,sq,g1,g2⟩:=(show Rp K H (.t [.s "num",.i n]) v from r).t2
  obtain rfl:=g1.inv_s
  obtain rfl:=g2.inv_i
  have a0:atI [V.str "num",.int n] 0=some (.str "num"):=at0 _ _
  have a1:atI [V.str "num",.int n] 1=some (.int n):=atI_nat (j:=1) rfl
  fail "R"
  intro p0 hp0
  have s0:=same_new hp0 (.tup [.str "num",.str "name",.str "gap"])
  have q0:SqT K (upd H p0 (.tup [.str "num",.str "name",.str "gap"])) p0 [.str "num",.str "name",.str "gap"]:=SqT.of upd_same
  have sq0:=sq.same s0
  generalize upd H p0 (.tup [.str "num",.str "name",.str "gap"])=H0 at s0 q0 sq0⊢
  have fl0:([V.str "num",.str "name",.str "gap"]:List V).all flatV=true:=by decide +kernel
  have in0:inV (.str "num") [.str "num",.str "name",.str "gap"]=true:=by decide +kernel
  fail "R"
  intro l1 hl1
  have s1:=same_new hl1 (.lst [.str "",.str "?"])
  have q1:SqL K (upd H0 l1 (.lst [.str "",.str "?"])) l1 [.str "",.str "?"]:=SqL.of upd_same
  have sq1:=sq0.same s1
  generalize upd H0 l1 (.lst [.str "",.str "?"])=H1 at s1 q1 sq1⊢
  have b0:atI [V.str "",.str "?"] 0=some (.str ""):=at0 _ _
  have b1:atI [V.str "",.str "?"] 1=some (.str "?"):=atI_nat (j:=1) rfl
  have s01:=s0.trans s1
  fail "R"
  refine .inr ⟨_,rfl,?_⟩
  fail "R"
  have ho':0<=n/\n<1000000:=ho
  have dl:=dig_len ho'
  refine .inr ⟨n,rfl,by omega,?_⟩
  have l1':("":Str).length+(Str.ofString (toString n)).length<=sizeLine:=small6 (by show 0+_<=_;omega)
  fail "R"
  rw[emp_app,←txS_num n ks]
  exact k _ s01
 |name x =>
  obtain⟨a,v1,v2,rfl,sq,g1,g2⟩:=(show Rp K H (.t [.s "name",.s x]) v from r).t2
  obtain rfl:=g1.inv_s
  obtain rfl:=g2.inv_s
  have a0:atI [V.str "name",.str x] 0=some (.str "name"):=at0 _ _
  have a1:atI [V.str "name",.str x] 1=some (.str x):=atI_nat (j:=1) rfl
  fail "R"
  intro p0 hp0
  have s0:=same_new hp0 (.tup [.str "num",.str "name",.str "gap"])
  have q0:SqT K (upd H p0 (.tup [.str "num",.str "name",.str "gap"])) p0 [.str "num",.str "name",.str "gap"]:=SqT.of upd_same
  have sq0:=sq.same s0
  generalize upd H p0 (.tup [.str "num",.str "name",.str "gap"])=H0 at s0 q0 sq0⊢
  have fl0:([V.str "num",.str "name",.str "gap"]:List V).all flatV=true:=by decide +kernel
  have in0:inV (.str "name") [.str "num",.str "name",.str "gap"]=true:=by decide +kernel
  fail "R"
  intro l1 hl1
  have s1:=same_new hl1 (.lst [.str "",.str "?"])
  have q1:SqL K (upd H0 l1 (.lst [.str "",.str "?"])) l1 [.str "",.str "?"]:=SqL.of upd_same
  have sq1:=sq0.same s1
  generalize upd H0 l1 (.lst [.str "",.str "?"])=H1 at s1 q1 sq1⊢
  have b0:atI [V.str "",.str "?"] 0=some (.str ""):=at0 _ _
  have b1:atI [V.str "",.str "?"] 1=some (.str "?"):=atI_nat (j:=1) rfl
  have s01:=s0.trans s1
  fail "R"
  refine .inr ⟨_,rfl,?_⟩
  fail "R"
  have ho':nmOk x:=ho
  have dl:=ho'.2.1
  refine .inl ⟨x,rfl,?_⟩
  have l1':("":Str).length+x.length<=sizeLine:=small6 (by show 0+_<=_;omega)
  fail "R"
  rw[emp_app,show x=txS (.mk (.name x) ks)from(txS_name x ks).symm]
  exact k _ s01
 |gap n =>
  obtain⟨a,v1,v2,rfl,sq,g1,g2⟩:=(show Rp K H (.t [.s "gap",.i n]) v from r).t2
  obtain rfl:=g1.inv_s
  obtain rfl:=g2.inv_i
  have a0:atI [V.str "gap",.int n] 0=some (.str "gap"):=at0 _ _
  have a1:atI [V.str "gap",.int n] 1=some (.int n):=atI_nat (j:=1) rfl
  fail "R"
  intro p0 hp0
  have s0:=same_new hp0 (.tup [.str "num",.str "name",.str "gap"])
  have q0:SqT K (upd H p0 (.tup [.str "num",.str "name",.str "gap"])) p0 [.str "num",.str "name",.str "gap"]:=SqT.of upd_same
  have sq0:=sq.same s0
  generalize upd H p0 (.tup [.str "num",.str "name",.str "gap"])=H0 at s0 q0 sq0⊢
  have fl0:([V.str "num",.str "name",.str "gap"]:List V).all flatV=true:=by decide +kernel
  have in0:inV (.str "gap") [.str "num",.str "name",.str "gap"]=true:=by decide +kernel
  fail "R"
  intro l1 hl1
  have s1:=same_new hl1 (.lst [.str "",.str "?"])
  have q1:SqL K (upd H0 l1 (.lst [.str "",.str "?"])) l1 [.str "",.str "?"]:=SqL.of upd_same
  have sq1:=sq0.same s1
  generalize upd H0 l1 (.lst [.str "",.str "?"])=H1 at s1 q1 sq1⊢
  have b0:atI [V.str "",.str "?"] 0=some (.str ""):=at0 _ _
  have b1:atI [V.str "",.str "?"] 1=some (.str "?"):=atI_nat (j:=1) rfl
  have s01:=s0.trans s1
  fail "R"
  refine .inr ⟨_,rfl,?_⟩
  fail "R"
  have ho':0<=n/\n<100:=ho
  have dl:=dig_len (n:=n) ⟨ho'.1,by omega⟩
  refine .inr ⟨n,rfl,by omega,?_⟩
  have l1':("?":Str).length+(Str.ofString (toString n)).length<=sizeLine:=small6 (by show 1+_<=_;omega)
  fail "R"
  rw[←txS_gap n ks]
  exact k _ s01
 |row =>
  obtain⟨a,v1,v2,rfl,sq,g1,g2⟩:=(show Rp K H (.t [.s "row",.t (ks.map enc)]) v from r).t2
  obtain rfl:=g1.inv_s
  obtain⟨b,us,rfl,sqb,rb⟩:=g2.inv_t
  have a0:atI [V.str "row",.ref b] 0=some (.str "row"):=at0 _ _
  have a1:atI [V.str "row",.ref b] 1=some (.ref b):=atI_nat (j:=1) rfl
  fail "R"
  intro p0 hp0
  have s0:=same_new hp0 (.tup [.str "num",.str "name",.str "gap"])
  have q0:SqT K (upd H p0 (.tup [.str "num",.str "name",.str "gap"])) p0 [.str "num",.str "name",.str "gap"]:=SqT.of upd_same
  have sq0:=sq.same s0
  generalize upd H p0 (.tup [.str "num",.str "name",.str "gap"])=H0 at s0 q0 sq0⊢
  have fl0:([V.str "num",.str "name",.str "gap"]:List V).all flatV=true:=by decide +kernel
  have in0:inV (.str "row") [.str "num",.str "name",.str "gap"]=false:=by decide +kernel
  have rb0:=rb.same s0
  have sqb0:=sqb.same s0
  fail "R"
  intro l1 hl1
  have s1:=same_new hl1 (.lst [.str "row"])
  have h1:upd H0 l1 (.lst [.str "row"]) l1=some (.lst [.str "row"]):=upd_same
  have sq1:=sq0.same s1
  have rb1:=rb0.same s1
  have sqb1:=sqb0.same s1
  generalize upd H0 l1 (.lst [.str "row"])=H1 at s1 h1 sq1 rb1 sqb1⊢
  have s01:=s0.trans s1
  fail "R"
  intro l2 H2 s2 hl2 h2
  have h2l:=s2 _ _ h1
  have lc:([.str "row"]:List V).length+((ks.map txS).map V.str).length<=sizeLine:=small6 (by rw[List.length_map,List.length_map];show 1+_<=_;omega)
  fail "R"
  intro l3 hl3
  refine tail _ l3 _ (atm "row"::ks.map bw) ((s01.trans s2).trans (same_new hl3 _)) ?_ (bw_mk _ _)
  rw[upd_same]
  simp only[List.map_cons,txS_map,List.cons_append,List.nil_append,bS_atm]
 |call f =>
  obtain⟨a,v1,v2,v3,rfl,sq,g1,g2,g3⟩:=(show Rp K H (.t [.s "call",.s f,.t (ks.map enc)]) v from r).t3
  obtain rfl:=g1.inv_s
  obtain rfl:=g2.inv_s
  obtain⟨b,us,rfl,sqb,rb⟩:=g3.inv_t
  have a0:atI [V.str "call",.str f,.ref b] 0=some (.str "call"):=at0 _ _
  have a1:atI [V.str "call",.str f,.ref b] 1=some (.str f):=atI_nat (j:=1) rfl
  have a2:atI [V.str "call",.str f,.ref b] 2=some (.ref b):=atI_nat (j:=2) rfl
  fail "R"
  intro p0 hp0
  have s0:=same_new hp0 (.tup [.str "num",.str "name",.str "gap"])
  have q0:SqT K (upd H p0 (.tup [.str "num",.str "name",.str "gap"])) p0 [.str "num",.str "name",.str "gap"]:=SqT.of upd_same
  have sq0:=sq.same s0
  generalize upd H p0 (.tup [.str "num",.str "name",.str "gap"])=H0 at s0 q0 sq0⊢
  have fl0:([V.str "num",.str "name",.str "gap"]:List V).all flatV=true:=by decide +kernel
  have in0:inV (.str "call") [.str "num",.str "name",.str "gap"]=false:=by decide +kernel
  have rb0:=rb.same s0
  have sqb0:=sqb.same s0
  fail "R"
  intro l1 hl1
  have s1:=same_new hl1 (.lst [.str "call",.str f])
  have h1:upd H0 l1 (.lst [.str "call",.str f]) l1=some (.lst [.str "call",.str f]):=upd_same
  have sq1:=sq0.same s1
  have rb1:=rb0.same s1
  have sqb1:=sqb0.same s1
  generalize upd H0 l1 (.lst [.str "call",.str f])=H1 at s1 h1 sq1 rb1 sqb1⊢
  have s01:=s0.trans s1
  fail "R"
  intro l2 H2 s2 hl2 h2
  have h2l:=s2 _ _ h1
  have lc:([.str "call",.str f]:List V).length+((ks.map txS).map V.str).length<=sizeLine:=small6 (by rw[List.length_map,List.length_map];show 2+_<=_;omega)
  fail "R"
  intro l3 hl3
  refine tail _ l3 _ (atm "call"::atm f::ks.map bw) ((s01.trans s2).trans (same_new hl3 _)) ?_ (bw_mk _ _)
  rw[upd_same]
  simp only[List.map_cons,txS_map,List.cons_append,List.nil_append,bS_atm]
 |tag t =>
  obtain⟨a,v1,v2,v3,rfl,sq,g1,g2,g3⟩:=(show Rp K H (.t [.s "tag",.s t,.t (ks.map enc)]) v from r).t3
  obtain rfl:=g1.inv_s
  obtain rfl:=g2.inv_s
  obtain⟨b,us,rfl,sqb,rb⟩:=g3.inv_t
  have a0:atI [V.str "tag",.str t,.ref b] 0=some (.str "tag"):=at0 _ _
  have a1:atI [V.str "tag",.str t,.ref b] 1=some (.str t):=atI_nat (j:=1) rfl
  have a2:atI [V.str "tag",.str t,.ref b] 2=some (.ref b):=atI_nat (j:=2) rfl
  have hl6:=(show nmOk t from ho).2.1
  have et:ofL (Bw.a (t.cps.toList++[58])).txt=t++(":":Str):=by
   unfold Bw.txt
   rw[←app_ofL,ofL_toList]
   rfl
  have lq:t.length+(":":Str).length<=sizeLine:=small6 (by show _+1<=_;omega)
  fail "R"
  intro p0 hp0
  have s0:=same_new hp0 (.tup [.str "num",.str "name",.str "gap"])
  have q0:SqT K (upd H p0 (.tup [.str "num",.str "name",.str "gap"])) p0 [.str "num",.str "name",.str "gap"]:=SqT.of upd_same
  have sq0:=sq.same s0
  generalize upd H p0 (.tup [.str "num",.str "name",.str "gap"])=H0 at s0 q0 sq0⊢
  have fl0:([V.str "num",.str "name",.str "gap"]:List V).all flatV=true:=by decide +kernel
  have in0:inV (.str "tag") [.str "num",.str "name",.str "gap"]=false:=by decide +kernel
  have rb0:=rb.same s0
  have sqb0:=sqb.same s0
  fail "R"
  intro l1 hl1
  have s1:=same_new hl1 (.lst [.str (t++(":":Str))])
  have h1:upd H0 l1 (.lst [.str (t++(":":Str))]) l1=some (.lst [.str (t++(":":Str))]):=upd_same
  have sq1:=sq0.same s1
  have rb1:=rb0.same s1
  have sqb1:=sqb0.same s1
  generalize upd H0 l1 (.lst [.str (t++(":":Str))])=H1 at s1 h1 sq1 rb1 sqb1⊢
  have s01:=s0.trans s1
  fail "R"
  intro l2 H2 s2 hl2 h2
  have h2l:=s2 _ _ h1
  have lc:([.str (t++(":":Str))]:List V).length+((ks.map txS).map V.str).length<=sizeLine:=small6 (by rw[List.length_map,List.length_map];show 1+_<=_;omega)
  fail "R"
  intro l3 hl3
  refine tail _ l3 _ (Bw.a (t.cps.toList++[58])::ks.map bw) ((s01.trans s2).trans (same_new hl3 _)) ?_ (bw_mk _ _)
  rw[upd_same]
  simp only[List.map_cons,txS_map,List.cons_append,List.nil_append,et]
 |op s =>
  obtain⟨a,us,rfl,sq,rs⟩:=(show Rp K H (.t (.s "op"::.s s::ks.map enc)) v from r).inv_t
  obtain⟨v0,us0,rfl,g0,rs0⟩:=L2.Rps.inv rs
  obtain rfl:=g0.inv_s
  obtain⟨v1,us2,rfl,g1,rb⟩:=L2.Rps.inv rs0
  obtain rfl:=g1.inv_s
  have a0:atI (V.str "op"::.str s::us2) 0=some (.str "op"):=at0 _ _
  have a1:atI (V.str "op"::.str s::us2) 1=some (.str s):=atI_nat (j:=1) rfl
  fail "R"
  intro p0 hp0
  have s0:=same_new hp0 (.tup [.str "num",.str "name",.str "gap"])
  have q0:SqT K (upd H p0 (.tup [.str "num",.str "name",.str "gap"])) p0 [.str "num",.str "name",.str "gap"]:=SqT.of upd_same
  have sq0:=sq.same s0
  generalize upd H p0 (.tup [.str "num",.str "name",.str "gap"])=H0 at s0 q0 sq0⊢
  have fl0:([V.str "num",.str "name",.str "gap"]:List V).all flatV=true:=by decide +kernel
  have in0:inV (.str "op") [.str "num",.str "name",.str "gap"]=false:=by decide +kernel
  have rb0:=rb.same s0
  have sqb0:=sq0
  fail "R"
  intro l1 hl1
  have s1:=same_new hl1 (.lst [.str s])
  have h1:upd H0 l1 (.lst [.str s]) l1=some (.lst [.str s]):=upd_same
  have sq1:=sq0.same s1
  have rb1:=rb0.same s1
  have sqb1:=sqb0.same s1
  generalize upd H0 l1 (.lst [.str s])=H1 at s1 h1 sq1 rb1 sqb1⊢
  have s01:=s0.trans s1
  have cn:=cut_not2 (V.str "op") (V.str s) us2
  have ec:cutV (V.str "op"::.str s::us2) (some 2) none=us2:=cut_fromL _ 2
  fail "R"
  rw[ec]
  intro p9 hp9
  have s9:=same_new hp9 (.tup us2)
  have q9:SqT K (upd H1 p9 (.tup us2)) p9 us2:=SqT.of upd_same
  have rb9:=rb1.same s9
  have h9:=s9 _ _ h1
  generalize upd H1 p9 (.tup us2)=H9 at s9 q9 rb9 h9⊢
  fail "R"
  intro l2 H2 s2 hl2 h2
  have h2l:=s2 _ _ h9
  have lc:([.str s]:List V).length+((ks.map txS).map V.str).length<=sizeLine:=small6 (by rw[List.length_map,List.length_map];show 1+_<=_;omega)
  fail "R"
  intro l3 hl3
  refine tail _ l3 _ (atm s::ks.map bw) (((s01.trans s9).trans s2).trans (same_new hl3 _)) ?_ (bw_mk _ _)
  rw[upd_same]
  simp only[List.map_cons,txS_map,List.cons_append,List.nil_append,bS_atm]
 |more =>
  obtain⟨a,us,rfl,sq,rs⟩:=(show Rp K H (.t (.s "more"::ks.map enc)) v from r).inv_t
  obtain⟨v0,us0,rfl,g0,rb'⟩:=L2.Rps.inv rs
  obtain rfl:=g0.inv_s
  have rb:Rps K H ((kd ks:List Sx).map resT) us0:=by(show Rps K H ((kd ks).map resT) us0;unfold kd;rw[List.map_map];exact rb')
  have xok:∀z∈(kd ks:List Sx),∀t,z=.inl t->t∈ks:=fun z hz t e=>by(subst e;obtain⟨q,hq,e⟩:=List.mem_map.mp hz;injection e with e;exact e▸hq)
  have xlen:(kd ks:List Sx).length<=10:=by unfold kd;rw[List.length_map];omega
  have ews:(kd ks:List Sx).map sxB=ks.map bw:=kd_map ks
  have ebb:=(show bw (.mk .more ks)=.g 40 (atm "more"::ks.map bw)from bw_mk _ _)
  rw[←ews]at ebb
  generalize(kd ks:List Sx)=xs at rb xok xlen ews ebb
  have a0:atI (V.str "more"::us0) 0=some (.str "more"):=at0 _ _
  fail "R"
  intro p0 hp0
  have s0:=same_new hp0 (.tup [.str "num",.str "name",.str "gap"])
  have q0:SqT K (upd H p0 (.tup [.str "num",.str "name",.str "gap"])) p0 [.str "num",.str "name",.str "gap"]:=SqT.of upd_same
  have sq0:=sq.same s0
  generalize upd H p0 (.tup [.str "num",.str "name",.str "gap"])=H0 at s0 q0 sq0⊢
  have fl0:([V.str "num",.str "name",.str "gap"]:List V).all flatV=true:=by decide +kernel
  have in0:inV (.str "more") [.str "num",.str "name",.str "gap"]=false:=by decide +kernel
  have rb0:=rb.same s0
  have cn:=cut_not (V.str "more"::us0) 1 (Nat.le_refl _) (by simp)
  have ec:cutV (V.str "more"::us0) (some 1) none=us0:=cut_tl _ _
  fail "R"
  intro l1 hl1
  have s1:=same_new hl1 (.lst [.str "more"])
  have h1:upd H0 l1 (.lst [.str "more"]) l1=some (.lst [.str "more"]):=upd_same
  have sq1:=sq0.same s1
  have rb1:=rb0.same s1
  generalize upd H0 l1 (.lst [.str "more"])=H1 at s1 h1 sq1 rb1⊢
  have s01:=s0.trans s1
  fail "R"
  rw[ec]
  intro p9 hp9
  have s9:=same_new hp9 (.tup us0)
  have q9:SqT K (upd H1 p9 (.tup us0)) p9 us0:=SqT.of upd_same
  have rb9:=rb1.same s9
  have h9:=s9 _ _ h1
  generalize upd H1 p9 (.tup us0)=H9 at s9 q9 rb9 h9⊢
  fail "R"
  refine comp_mapT (K:=K) (e:=resT) (φ:=fun x=>[T.s (ofL (sxL x))]) (ps:=xs) (fun σ=>∃x,σ=[x]) q9 rb9 (by omega) (fun _=>Nat.le_refl _) ⟨_,rfl⟩ ?_ ?_
  ·rintro q hq x2 σ H4 N s4 ⟨y2,rfl⟩ rx kN
   cases q with
   |inl t =>
    obtain⟨o1,o2,o3,o4⟩:=kok t (xok _ hq t rfl)
    have rx1:Rp K H4 (enc t) x2:=rx
    obtain⟨es,ee⟩:=enc_t t
    have rx2:=rx1
    rw[ee]at rx2
    obtain⟨b4,w4,rfl,sq4,_⟩:=rx2.inv_t
    fail "R"
    refine .inl ⟨_,_,rfl,sq4,?_⟩
    fail "R"
    intro H5 s5
    exact kN _ _ _ ⟨⟨_,rfl⟩,s5,.one .s⟩
   |inr z =>
    obtain rfl:=(show Rp K H4 (.s z) x2 from rx).inv_s
    fail "R"
    refine .inr (.inl ⟨_,rfl,?_⟩)
    fail "R"
    refine kN _ _ _ ⟨⟨_,rfl⟩,Same.refl _,?_⟩
    show Rps K H4 [T.s (ofL z.cps.toList)] _
    rw[ofL_toList]
    exact .one .s
  intro l2 H2 us' s2 hl2 h2 r2
  rw[fm_one]at r2
  have e2:us'=(xs.map fun x=>ofL (sxL x)).map V.str:=by
   have r4:Rps K H2 ((xs.map fun x=>ofL (sxL x)).map T.s) us':=by rw[List.map_map];exact r2
   exact L2.Rps.strs_inv r4
  subst e2
  have h2l:=s2 _ _ h9
  have lc:([.str "more"]:List V).length+((xs.map fun x=>ofL (sxL x)).map V.str).length<=sizeLine:=small6 (by rw[List.length_map,List.length_map];show 1+_<=_;omega)
  fail "R"
  intro l3 hl3
  refine tail _ l3 _ (atm "more"::xs.map sxB) (((s01.trans s9).trans s2).trans (same_new hl3 _)) ?_ ebb
  rw[upd_same]
  simp only[List.map_cons,sxS_map,List.cons_append,List.nil_append,bS_atm]
 |first =>
  obtain⟨a,us,rfl,sq,rs⟩:=(show Rp K H (.t (.s "first"::ks.map enc)) v from r).inv_t
  obtain⟨v0,us0,rfl,g0,rb'⟩:=L2.Rps.inv rs
  obtain rfl:=g0.inv_s
  have rb:Rps K H ((kd ks:List Sx).map resT) us0:=by(show Rps K H ((kd ks).map resT) us0;unfold kd;rw[List.map_map];exact rb')
  have xok:∀z∈(kd ks:List Sx),∀t,z=.inl t->t∈ks:=fun z hz t e=>by(subst e;obtain⟨q,hq,e⟩:=List.mem_map.mp hz;injection e with e;exact e▸hq)
  have xlen:(kd ks:List Sx).length<=10:=by unfold kd;rw[List.length_map];omega
  have ews:(kd ks:List Sx).map sxB=ks.map bw:=kd_map ks
  have ebb:=(show bw (.mk .first ks)=.g 40 (atm "first"::ks.map bw)from bw_mk _ _)
  rw[←ews]at ebb
  generalize(kd ks:List Sx)=xs at rb xok xlen ews ebb
  have a0:atI (V.str "first"::us0) 0=some (.str "first"):=at0 _ _
  fail "R"
  intro p0 hp0
  have s0:=same_new hp0 (.tup [.str "num",.str "name",.str "gap"])
  have q0:SqT K (upd H p0 (.tup [.str "num",.str "name",.str "gap"])) p0 [.str "num",.str "name",.str "gap"]:=SqT.of upd_same
  have sq0:=sq.same s0
  generalize upd H p0 (.tup [.str "num",.str "name",.str "gap"])=H0 at s0 q0 sq0⊢
  have fl0:([V.str "num",.str "name",.str "gap"]:List V).all flatV=true:=by decide +kernel
  have in0:inV (.str "first") [.str "num",.str "name",.str "gap"]=false:=by decide +kernel
  have rb0:=rb.same s0
  have cn:=cut_not (V.str "first"::us0) 1 (Nat.le_refl _) (by simp)
  have ec:cutV (V.str "first"::us0) (some 1) none=us0:=cut_tl _ _
  fail "R"
  intro l1 hl1
  have s1:=same_new hl1 (.lst [.str "first"])
  have h1:upd H0 l1 (.lst [.str "first"]) l1=some (.lst [.str "first"]):=upd_same
  have sq1:=sq0.same s1
  have rb1:=rb0.same s1
  generalize upd H0 l1 (.lst [.str "first"])=H1 at s1 h1 sq1 rb1⊢
  have s01:=s0.trans s1
  fail "R"
  rw[ec]
  intro p9 hp9
  have s9:=same_new hp9 (.tup us0)
  have q9:SqT K (upd H1 p9 (.tup us0)) p9 us0:=SqT.of upd_same
  have rb9:=rb1.same s9
  have h9:=s9 _ _ h1
  generalize upd H1 p9 (.tup us0)=H9 at s9 q9 rb9 h9⊢
  fail "R"
  refine comp_mapT (K:=K) (e:=resT) (φ:=fun x=>[T.s (ofL (sxL x))]) (ps:=xs) (fun σ=>∃x,σ=[x]) q9 rb9 (by omega) (fun _=>Nat.le_refl _) ⟨_,rfl⟩ ?_ ?_
  ·rintro q hq x2 σ H4 N s4 ⟨y2,rfl⟩ rx kN
   cases q with
   |inl t =>
    obtain⟨o1,o2,o3,o4⟩:=kok t (xok _ hq t rfl)
    have rx1:Rp K H4 (enc t) x2:=rx
    obtain⟨es,ee⟩:=enc_t t
    have rx2:=rx1
    rw[ee]at rx2
    obtain⟨b4,w4,rfl,sq4,_⟩:=rx2.inv_t
    fail "R"
    refine .inl ⟨_,_,rfl,sq4,?_⟩
    fail "R"
    intro H5 s5
    exact kN _ _ _ ⟨⟨_,rfl⟩,s5,.one .s⟩
   |inr z =>
    obtain rfl:=(show Rp K H4 (.s z) x2 from rx).inv_s
    fail "R"
    refine .inr (.inl ⟨_,rfl,?_⟩)
    fail "R"
    refine kN _ _ _ ⟨⟨_,rfl⟩,Same.refl _,?_⟩
    show Rps K H4 [T.s (ofL z.cps.toList)] _
    rw[ofL_toList]
    exact .one .s
  intro l2 H2 us' s2 hl2 h2 r2
  rw[fm_one]at r2
  have e2:us'=(xs.map fun x=>ofL (sxL x)).map V.str:=by
   have r4:Rps K H2 ((xs.map fun x=>ofL (sxL x)).map T.s) us':=by rw[List.map_map];exact r2
   exact L2.Rps.strs_inv r4
  subst e2
  have h2l:=s2 _ _ h9
  have lc:([.str "first"]:List V).length+((xs.map fun x=>ofL (sxL x)).map V.str).length<=sizeLine:=small6 (by rw[List.length_map,List.length_map];show 1+_<=_;omega)
  fail "R"
  intro l3 hl3
  refine tail _ l3 _ (atm "first"::xs.map sxB) (((s01.trans s9).trans s2).trans (same_new hl3 _)) ?_ ebb
  rw[upd_same]
  simp only[List.map_cons,sxS_map,List.cons_append,List.nil_append,bS_atm]
 |others =>
  obtain⟨a,us,rfl,sq,rs⟩:=(show Rp K H (.t (.s "others"::ks.map enc)) v from r).inv_t
  obtain⟨v0,us0,rfl,g0,rb'⟩:=L2.Rps.inv rs
  obtain rfl:=g0.inv_s
  have rb:Rps K H ((kd ks:List Sx).map resT) us0:=by(show Rps K H ((kd ks).map resT) us0;unfold kd;rw[List.map_map];exact rb')
  have xok:∀z∈(kd ks:List Sx),∀t,z=.inl t->t∈ks:=fun z hz t e=>by(subst e;obtain⟨q,hq,e⟩:=List.mem_map.mp hz;injection e with e;exact e▸hq)
  have xlen:(kd ks:List Sx).length<=10:=by unfold kd;rw[List.length_map];omega
  have ews:(kd ks:List Sx).map sxB=ks.map bw:=kd_map ks
  have ebb:=(show bw (.mk .others ks)=.g 40 (atm "others"::ks.map bw)from bw_mk _ _)
  rw[←ews]at ebb
  generalize(kd ks:List Sx)=xs at rb xok xlen ews ebb
  have a0:atI (V.str "others"::us0) 0=some (.str "others"):=at0 _ _
  fail "R"
  intro p0 hp0
  have s0:=same_new hp0 (.tup [.str "num",.str "name",.str "gap"])
  have q0:SqT K (upd H p0 (.tup [.str "num",.str "name",.str "gap"])) p0 [.str "num",.str "name",.str "gap"]:=SqT.of upd_same
  have sq0:=sq.same s0
  generalize upd H p0 (.tup [.str "num",.str "name",.str "gap"])=H0 at s0 q0 sq0⊢
  have fl0:([V.str "num",.str "name",.str "gap"]:List V).all flatV=true:=by decide +kernel
  have in0:inV (.str "others") [.str "num",.str "name",.str "gap"]=false:=by decide +kernel
  have rb0:=rb.same s0
  have cn:=cut_not (V.str "others"::us0) 1 (Nat.le_refl _) (by simp)
  have ec:cutV (V.str "others"::us0) (some 1) none=us0:=cut_tl _ _
  fail "R"
  intro l1 hl1
  have s1:=same_new hl1 (.lst [.str "others"])
  have h1:upd H0 l1 (.lst [.str "others"]) l1=some (.lst [.str "others"]):=upd_same
  have sq1:=sq0.same s1
  have rb1:=rb0.same s1
  generalize upd H0 l1 (.lst [.str "others"])=H1 at s1 h1 sq1 rb1⊢
  have s01:=s0.trans s1
  fail "R"
  rw[ec]
  intro p9 hp9
  have s9:=same_new hp9 (.tup us0)
  have q9:SqT K (upd H1 p9 (.tup us0)) p9 us0:=SqT.of upd_same
  have rb9:=rb1.same s9
  have h9:=s9 _ _ h1
  generalize upd H1 p9 (.tup us0)=H9 at s9 q9 rb9 h9⊢
  fail "R"
  refine comp_mapT (K:=K) (e:=resT) (φ:=fun x=>[T.s (ofL (sxL x))]) (ps:=xs) (fun σ=>∃x,σ=[x]) q9 rb9 (by omega) (fun _=>Nat.le_refl _) ⟨_,rfl⟩ ?_ ?_
  ·rintro q hq x2 σ H4 N s4 ⟨y2,rfl⟩ rx kN
   cases q with
   |inl t =>
    obtain⟨o1,o2,o3,o4⟩:=kok t (xok _ hq t rfl)
    have rx1:Rp K H4 (enc t) x2:=rx
    obtain⟨es,ee⟩:=enc_t t
    have rx2:=rx1
    rw[ee]at rx2
    obtain⟨b4,w4,rfl,sq4,_⟩:=rx2.inv_t
    fail "R"
    refine .inl ⟨_,_,rfl,sq4,?_⟩
    fail "R"
    intro H5 s5
    exact kN _ _ _ ⟨⟨_,rfl⟩,s5,.one .s⟩
   |inr z =>
    obtain rfl:=(show Rp K H4 (.s z) x2 from rx).inv_s
    fail "R"
    refine .inr (.inl ⟨_,rfl,?_⟩)
    fail "R"
    refine kN _ _ _ ⟨⟨_,rfl⟩,Same.refl _,?_⟩
    show Rps K H4 [T.s (ofL z.cps.toList)] _
    rw[ofL_toList]
    exact .one .s
  intro l2 H2 us' s2 hl2 h2 r2
  rw[fm_one]at r2
  have e2:us'=(xs.map fun x=>ofL (sxL x)).map V.str:=by
   have r4:Rps K H2 ((xs.map fun x=>ofL (sxL x)).map T.s) us':=by rw[List.map_map];exact r2
   exact L2.Rps.strs_inv r4
  subst e2
  have h2l:=s2 _ _ h9
  have lc:([.str "others"]:List V).length+((xs.map fun x=>ofL (sxL x)).map V.str).length<=sizeLine:=small6 (by rw[List.length_map,List.length_map];show 1+_<=_;omega)
  fail "R"
  intro l3 hl3
  refine tail _ l3 _ (atm "others"::xs.map sxB) (((s01.trans s9).trans s2).trans (same_new hl3 _)) ?_ ebb
  rw[upd_same]
  simp only[List.map_cons,sxS_map,List.cons_append,List.nil_append,bS_atm]
 |long =>
  obtain⟨a,us,rfl,sq,rs⟩:=(show Rp K H (.t (.s "long"::ks.map enc)) v from r).inv_t
  obtain⟨v0,us0,rfl,g0,rb'⟩:=L2.Rps.inv rs
  obtain rfl:=g0.inv_s
  have rb:Rps K H ((kd ks:List Sx).map resT) us0:=by(show Rps K H ((kd ks).map resT) us0;unfold kd;rw[List.map_map];exact rb')
  have xok:∀z∈(kd ks:List Sx),∀t,z=.inl t->t∈ks:=fun z hz t e=>by(subst e;obtain⟨q,hq,e⟩:=List.mem_map.mp hz;injection e with e;exact e▸hq)
  have xlen:(kd ks:List Sx).length<=10:=by unfold kd;rw[List.length_map];omega
  have ews:(kd ks:List Sx).map sxB=ks.map bw:=kd_map ks
  have ebb:=(show bw (.mk .long ks)=.g 40 (atm "long"::ks.map bw)from bw_mk _ _)
  rw[←ews]at ebb
  generalize(kd ks:List Sx)=xs at rb xok xlen ews ebb
  have a0:atI (V.str "long"::us0) 0=some (.str "long"):=at0 _ _
  fail "R"
  intro p0 hp0
  have s0:=same_new hp0 (.tup [.str "num",.str "name",.str "gap"])
  have q0:SqT K (upd H p0 (.tup [.str "num",.str "name",.str "gap"])) p0 [.str "num",.str "name",.str "gap"]:=SqT.of upd_same
  have sq0:=sq.same s0
  generalize upd H p0 (.tup [.str "num",.str "name",.str "gap"])=H0 at s0 q0 sq0⊢
  have fl0:([V.str "num",.str "name",.str "gap"]:List V).all flatV=true:=by decide +kernel
  have in0:inV (.str "long") [.str "num",.str "name",.str "gap"]=false:=by decide +kernel
  have rb0:=rb.same s0
  have cn:=cut_not (V.str "long"::us0) 1 (Nat.le_refl _) (by simp)
  have ec:cutV (V.str "long"::us0) (some 1) none=us0:=cut_tl _ _
  fail "R"
  intro l1 hl1
  have s1:=same_new hl1 (.lst [.str "long"])
  have h1:upd H0 l1 (.lst [.str "long"]) l1=some (.lst [.str "long"]):=upd_same
  have sq1:=sq0.same s1
  have rb1:=rb0.same s1
  generalize upd H0 l1 (.lst [.str "long"])=H1 at s1 h1 sq1 rb1⊢
  have s01:=s0.trans s1
  fail "R"
  rw[ec]
  intro p9 hp9
  have s9:=same_new hp9 (.tup us0)
  have q9:SqT K (upd H1 p9 (.tup us0)) p9 us0:=SqT.of upd_same
  have rb9:=rb1.same s9
  have h9:=s9 _ _ h1
  generalize upd H1 p9 (.tup us0)=H9 at s9 q9 rb9 h9⊢
  fail "R"
  refine comp_mapT (K:=K) (e:=resT) (φ:=fun x=>[T.s (ofL (sxL x))]) (ps:=xs) (fun σ=>∃x,σ=[x]) q9 rb9 (by omega) (fun _=>Nat.le_refl _) ⟨_,rfl⟩ ?_ ?_
  ·rintro q hq x2 σ H4 N s4 ⟨y2,rfl⟩ rx kN
   cases q with
   |inl t =>
    obtain⟨o1,o2,o3,o4⟩:=kok t (xok _ hq t rfl)
    have rx1:Rp K H4 (enc t) x2:=rx
    obtain⟨es,ee⟩:=enc_t t
    have rx2:=rx1
    rw[ee]at rx2
    obtain⟨b4,w4,rfl,sq4,_⟩:=rx2.inv_t
    fail "R"
    refine .inl ⟨_,_,rfl,sq4,?_⟩
    fail "R"
    intro H5 s5
    exact kN _ _ _ ⟨⟨_,rfl⟩,s5,.one .s⟩
   |inr z =>
    obtain rfl:=(show Rp K H4 (.s z) x2 from rx).inv_s
    fail "R"
    refine .inr (.inl ⟨_,rfl,?_⟩)
    fail "R"
    refine kN _ _ _ ⟨⟨_,rfl⟩,Same.refl _,?_⟩
    show Rps K H4 [T.s (ofL z.cps.toList)] _
    rw[ofL_toList]
    exact .one .s
  intro l2 H2 us' s2 hl2 h2 r2
  rw[fm_one]at r2
  have e2:us'=(xs.map fun x=>ofL (sxL x)).map V.str:=by
   have r4:Rps K H2 ((xs.map fun x=>ofL (sxL x)).map T.s) us':=by rw[List.map_map];exact r2
   exact L2.Rps.strs_inv r4
  subst e2
  have h2l:=s2 _ _ h9
  have lc:([.str "long"]:List V).length+((xs.map fun x=>ofL (sxL x)).map V.str).length<=sizeLine:=small6 (by rw[List.length_map,List.length_map];show 1+_<=_;omega)
  fail "R"
  intro l3 hl3
  refine tail _ l3 _ (atm "long"::xs.map sxB) (((s01.trans s9).trans s2).trans (same_new hl3 _)) ?_ ebb
  rw[upd_same]
  simp only[List.map_cons,sxS_map,List.cons_append,List.nil_append,bS_atm]
 |ife =>
  obtain⟨a,us,rfl,sq,rs⟩:=(show Rp K H (.t (.s "if"::ks.map enc)) v from r).inv_t
  obtain⟨v0,us0,rfl,g0,rb'⟩:=L2.Rps.inv rs
  obtain rfl:=g0.inv_s
  have rb:Rps K H ((kd ks:List Sx).map resT) us0:=by(show Rps K H ((kd ks).map resT) us0;unfold kd;rw[List.map_map];exact rb')
  have xok:∀z∈(kd ks:List Sx),∀t,z=.inl t->t∈ks:=fun z hz t e=>by(subst e;obtain⟨q,hq,e⟩:=List.mem_map.mp hz;injection e with e;exact e▸hq)
  have xlen:(kd ks:List Sx).length<=10:=by unfold kd;rw[List.length_map];omega
  have ews:(kd ks:List Sx).map sxB=ks.map bw:=kd_map ks
  have ebb:=(show bw (.mk .ife ks)=.g 40 (atm "if"::ks.map bw)from bw_mk _ _)
  rw[←ews]at ebb
  generalize(kd ks:List Sx)=xs at rb xok xlen ews ebb
  have a0:atI (V.str "if"::us0) 0=some (.str "if"):=at0 _ _
  fail "R"
  intro p0 hp0
  have s0:=same_new hp0 (.tup [.str "num",.str "name",.str "gap"])
  have q0:SqT K (upd H p0 (.tup [.str "num",.str "name",.str "gap"])) p0 [.str "num",.str "name",.str "gap"]:=SqT.of upd_same
  have sq0:=sq.same s0
  generalize upd H p0 (.tup [.str "num",.str "name",.str "gap"])=H0 at s0 q0 sq0⊢
  have fl0:([V.str "num",.str "name",.str "gap"]:List V).all flatV=true:=by decide +kernel
  have in0:inV (.str "if") [.str "num",.str "name",.str "gap"]=false:=by decide +kernel
  have rb0:=rb.same s0
  have cn:=cut_not (V.str "if"::us0) 1 (Nat.le_refl _) (by simp)
  have ec:cutV (V.str "if"::us0) (some 1) none=us0:=cut_tl _ _
  fail "R"
  intro l1 hl1
  have s1:=same_new hl1 (.lst [.str "if"])
  have h1:upd H0 l1 (.lst [.str "if"]) l1=some (.lst [.str "if"]):=upd_same
  have sq1:=sq0.same s1
  have rb1:=rb0.same s1
  generalize upd H0 l1 (.lst [.str "if"])=H1 at s1 h1 sq1 rb1⊢
  have s01:=s0.trans s1
  fail "R"
  rw[ec]
  intro p9 hp9
  have s9:=same_new hp9 (.tup us0)
  have q9:SqT K (upd H1 p9 (.tup us0)) p9 us0:=SqT.of upd_same
  have rb9:=rb1.same s9
  have h9:=s9 _ _ h1
  generalize upd H1 p9 (.tup us0)=H9 at s9 q9 rb9 h9⊢
  fail "R"
  refine comp_mapT (K:=K) (e:=resT) (φ:=fun x=>[T.s (ofL (sxL x))]) (ps:=xs) (fun σ=>∃x,σ=[x]) q9 rb9 (by omega) (fun _=>Nat.le_refl _) ⟨_,rfl⟩ ?_ ?_
  ·rintro q hq x2 σ H4 N s4 ⟨y2,rfl⟩ rx kN
   cases q with
   |inl t =>
    obtain⟨o1,o2,o3,o4⟩:=kok t (xok _ hq t rfl)
    have rx1:Rp K H4 (enc t) x2:=rx
    obtain⟨es,ee⟩:=enc_t t
    have rx2:=rx1
    rw[ee]at rx2
    obtain⟨b4,w4,rfl,sq4,_⟩:=rx2.inv_t
    fail "R"
    refine .inl ⟨_,_,rfl,sq4,?_⟩
    fail "R"
    intro H5 s5
    exact kN _ _ _ ⟨⟨_,rfl⟩,s5,.one .s⟩
   |inr z =>
    obtain rfl:=(show Rp K H4 (.s z) x2 from rx).inv_s
    fail "R"
    refine .inr (.inl ⟨_,rfl,?_⟩)
    fail "R"
    refine kN _ _ _ ⟨⟨_,rfl⟩,Same.refl _,?_⟩
    show Rps K H4 [T.s (ofL z.cps.toList)] _
    rw[ofL_toList]
    exact .one .s
  intro l2 H2 us' s2 hl2 h2 r2
  rw[fm_one]at r2
  have e2:us'=(xs.map fun x=>ofL (sxL x)).map V.str:=by
   have r4:Rps K H2 ((xs.map fun x=>ofL (sxL x)).map T.s) us':=by rw[List.map_map];exact r2
   exact L2.Rps.strs_inv r4
  subst e2
  have h2l:=s2 _ _ h9
  have lc:([.str "if"]:List V).length+((xs.map fun x=>ofL (sxL x)).map V.str).length<=sizeLine:=small6 (by rw[List.length_map,List.length_map];show 1+_<=_;omega)
  fail "R"
  intro l3 hl3
  refine tail _ l3 _ (atm "if"::xs.map sxB) (((s01.trans s9).trans s2).trans (same_new hl3 _)) ?_ ebb
  rw[upd_same]
  simp only[List.map_cons,sxS_map,List.cons_append,List.nil_append,bS_atm]
 |lt x =>
  obtain⟨a,us,rfl,sq,rs⟩:=(show Rp K H (.t (.s "let"::.s x::ks.map enc)) v from r).inv_t
  obtain⟨v0,us0,rfl,g0,rb'⟩:=L2.Rps.inv rs
  obtain rfl:=g0.inv_s
  have rb:Rps K H ((.inr x::kd ks:List Sx).map resT) us0:=by(show Rps K H (T.s x::(kd ks).map resT) us0;unfold kd;rw[List.map_map];exact rb')
  have xok:∀z∈(.inr x::kd ks:List Sx),∀t,z=.inl t->t∈ks:=fun z hz t e=>by(subst e;rcases List.mem_cons.mp hz with e|hz;cases e;obtain⟨q,hq,e⟩:=List.mem_map.mp hz;injection e with e;exact e▸hq)
  have xlen:(.inr x::kd ks:List Sx).length<=10:=by unfold kd;rw[List.length_cons,List.length_map];omega
  have ews:(.inr x::kd ks:List Sx).map sxB=atm x::ks.map bw:=by(rw[List.map_cons,kd_map];rfl)
  have ebb:=(show bw (.mk (.lt x) ks)=.g 40 (atm "let"::atm x::ks.map bw)from bw_mk _ _)
  rw[←ews]at ebb
  generalize(.inr x::kd ks:List Sx)=xs at rb xok xlen ews ebb
  have a0:atI (V.str "let"::us0) 0=some (.str "let"):=at0 _ _
  fail "R"
  intro p0 hp0
  have s0:=same_new hp0 (.tup [.str "num",.str "name",.str "gap"])
  have q0:SqT K (upd H p0 (.tup [.str "num",.str "name",.str "gap"])) p0 [.str "num",.str "name",.str "gap"]:=SqT.of upd_same
  have sq0:=sq.same s0
  generalize upd H p0 (.tup [.str "num",.str "name",.str "gap"])=H0 at s0 q0 sq0⊢
  have fl0:([V.str "num",.str "name",.str "gap"]:List V).all flatV=true:=by decide +kernel
  have in0:inV (.str "let") [.str "num",.str "name",.str "gap"]=false:=by decide +kernel
  have rb0:=rb.same s0
  have cn:=cut_not (V.str "let"::us0) 1 (Nat.le_refl _) (by simp)
  have ec:cutV (V.str "let"::us0) (some 1) none=us0:=cut_tl _ _
  fail "R"
  intro l1 hl1
  have s1:=same_new hl1 (.lst [.str "let"])
  have h1:upd H0 l1 (.lst [.str "let"]) l1=some (.lst [.str "let"]):=upd_same
  have sq1:=sq0.same s1
  have rb1:=rb0.same s1
  generalize upd H0 l1 (.lst [.str "let"])=H1 at s1 h1 sq1 rb1⊢
  have s01:=s0.trans s1
  fail "R"
  rw[ec]
  intro p9 hp9
  have s9:=same_new hp9 (.tup us0)
  have q9:SqT K (upd H1 p9 (.tup us0)) p9 us0:=SqT.of upd_same
  have rb9:=rb1.same s9
  have h9:=s9 _ _ h1
  generalize upd H1 p9 (.tup us0)=H9 at s9 q9 rb9 h9⊢
  fail "R"
  refine comp_mapT (K:=K) (e:=resT) (φ:=fun x=>[T.s (ofL (sxL x))]) (ps:=xs) (fun σ=>∃x,σ=[x]) q9 rb9 (by omega) (fun _=>Nat.le_refl _) ⟨_,rfl⟩ ?_ ?_
  ·rintro q hq x2 σ H4 N s4 ⟨y2,rfl⟩ rx kN
   cases q with
   |inl t =>
    obtain⟨o1,o2,o3,o4⟩:=kok t (xok _ hq t rfl)
    have rx1:Rp K H4 (enc t) x2:=rx
    obtain⟨es,ee⟩:=enc_t t
    have rx2:=rx1
    rw[ee]at rx2
    obtain⟨b4,w4,rfl,sq4,_⟩:=rx2.inv_t
    fail "R"
    refine .inl ⟨_,_,rfl,sq4,?_⟩
    fail "R"
    intro H5 s5
    exact kN _ _ _ ⟨⟨_,rfl⟩,s5,.one .s⟩
   |inr z =>
    obtain rfl:=(show Rp K H4 (.s z) x2 from rx).inv_s
    fail "R"
    refine .inr (.inl ⟨_,rfl,?_⟩)
    fail "R"
    refine kN _ _ _ ⟨⟨_,rfl⟩,Same.refl _,?_⟩
    show Rps K H4 [T.s (ofL z.cps.toList)] _
    rw[ofL_toList]
    exact .one .s
  intro l2 H2 us' s2 hl2 h2 r2
  rw[fm_one]at r2
  have e2:us'=(xs.map fun x=>ofL (sxL x)).map V.str:=by
   have r4:Rps K H2 ((xs.map fun x=>ofL (sxL x)).map T.s) us':=by rw[List.map_map];exact r2
   exact L2.Rps.strs_inv r4
  subst e2
  have h2l:=s2 _ _ h9
  have lc:([.str "let"]:List V).length+((xs.map fun x=>ofL (sxL x)).map V.str).length<=sizeLine:=small6 (by rw[List.length_map,List.length_map];show 1+_<=_;omega)
  fail "R"
  intro l3 hl3
  refine tail _ l3 _ (atm "let"::xs.map sxB) (((s01.trans s9).trans s2).trans (same_new hl3 _)) ?_ ebb
  rw[upd_same]
  simp only[List.map_cons,sxS_map,List.cons_append,List.nil_append,bS_atm]
 |fold x y =>
  have arl:ks.length=3:=eq_of_beq (show(ks.length == 3)=true from ar)
  obtain⟨k1,k2,k3,rfl⟩:=ex3 arl
  obtain⟨a,us,rfl,sq,rs⟩:=(show Rp K H (.t ([.s "fold",enc k1,.s x,.s y,enc k2,enc k3])) v from r).inv_t
  obtain⟨v0,us0,rfl,g0,rb'⟩:=L2.Rps.inv rs
  obtain rfl:=g0.inv_s
  have rb:Rps K H (([.inl k1,.inr x,.inr y,.inl k2,.inl k3]:List Sx).map resT) us0:=rb'
  have xok:∀z∈([.inl k1,.inr x,.inr y,.inl k2,.inl k3]:List Sx),∀t,z=.inl t->t∈[k1,k2,k3]:=fun z hz t e=>by(subst e;simp only[List.mem_cons,List.not_mem_nil,or_false,Sum.inl.injEq,reduceCtorEq,false_or]at hz⊢;exact hz)
  have xlen:([.inl k1,.inr x,.inr y,.inl k2,.inl k3]:List Sx).length<=10:=Nat.le_of_ble_eq_true rfl
  have ews:([.inl k1,.inr x,.inr y,.inl k2,.inl k3]:List Sx).map sxB=[bw k1,atm x,atm y,bw k2,bw k3]:=rfl
  have ebb:=(show bw (.mk (.fold x y) [k1,k2,k3])=.g 40 (atm "fold"::[bw k1,atm x,atm y,bw k2,bw k3])from bw_mk _ _)
  rw[←ews]at ebb
  generalize([.inl k1,.inr x,.inr y,.inl k2,.inl k3]:List Sx)=xs at rb xok xlen ews ebb
  have a0:atI (V.str "fold"::us0) 0=some (.str "fold"):=at0 _ _
  fail "R"
  intro p0 hp0
  have s0:=same_new hp0 (.tup [.str "num",.str "name",.str "gap"])
  have q0:SqT K (upd H p0 (.tup [.str "num",.str "name",.str "gap"])) p0 [.str "num",.str "name",.str "gap"]:=SqT.of upd_same
  have sq0:=sq.same s0
  generalize upd H p0 (.tup [.str "num",.str "name",.str "gap"])=H0 at s0 q0 sq0⊢
  have fl0:([V.str "num",.str "name",.str "gap"]:List V).all flatV=true:=by decide +kernel
  have in0:inV (.str "fold") [.str "num",.str "name",.str "gap"]=false:=by decide +kernel
  have rb0:=rb.same s0
  have cn:=cut_not (V.str "fold"::us0) 1 (Nat.le_refl _) (by simp)
  have ec:cutV (V.str "fold"::us0) (some 1) none=us0:=cut_tl _ _
  fail "R"
  intro l1 hl1
  have s1:=same_new hl1 (.lst [.str "fold"])
  have h1:upd H0 l1 (.lst [.str "fold"]) l1=some (.lst [.str "fold"]):=upd_same
  have sq1:=sq0.same s1
  have rb1:=rb0.same s1
  generalize upd H0 l1 (.lst [.str "fold"])=H1 at s1 h1 sq1 rb1⊢
  have s01:=s0.trans s1
  fail "R"
  rw[ec]
  intro p9 hp9
  have s9:=same_new hp9 (.tup us0)
  have q9:SqT K (upd H1 p9 (.tup us0)) p9 us0:=SqT.of upd_same
  have rb9:=rb1.same s9
  have h9:=s9 _ _ h1
  generalize upd H1 p9 (.tup us0)=H9 at s9 q9 rb9 h9⊢
  fail "R"
  refine comp_mapT (K:=K) (e:=resT) (φ:=fun x=>[T.s (ofL (sxL x))]) (ps:=xs) (fun σ=>∃x,σ=[x]) q9 rb9 (by omega) (fun _=>Nat.le_refl _) ⟨_,rfl⟩ ?_ ?_
  ·rintro q hq x2 σ H4 N s4 ⟨y2,rfl⟩ rx kN
   cases q with
   |inl t =>
    obtain⟨o1,o2,o3,o4⟩:=kok t (xok _ hq t rfl)
    have rx1:Rp K H4 (enc t) x2:=rx
    obtain⟨es,ee⟩:=enc_t t
    have rx2:=rx1
    rw[ee]at rx2
    obtain⟨b4,w4,rfl,sq4,_⟩:=rx2.inv_t
    fail "R"
    refine .inl ⟨_,_,rfl,sq4,?_⟩
    fail "R"
    intro H5 s5
    exact kN _ _ _ ⟨⟨_,rfl⟩,s5,.one .s⟩
   |inr z =>
    obtain rfl:=(show Rp K H4 (.s z) x2 from rx).inv_s
    fail "R"
    refine .inr (.inl ⟨_,rfl,?_⟩)
    fail "R"
    refine kN _ _ _ ⟨⟨_,rfl⟩,Same.refl _,?_⟩
    show Rps K H4 [T.s (ofL z.cps.toList)] _
    rw[ofL_toList]
    exact .one .s
  intro l2 H2 us' s2 hl2 h2 r2
  rw[fm_one]at r2
  have e2:us'=(xs.map fun x=>ofL (sxL x)).map V.str:=by
   have r4:Rps K H2 ((xs.map fun x=>ofL (sxL x)).map T.s) us':=by rw[List.map_map];exact r2
   exact L2.Rps.strs_inv r4
  subst e2
  have h2l:=s2 _ _ h9
  have lc:([.str "fold"]:List V).length+((xs.map fun x=>ofL (sxL x)).map V.str).length<=sizeLine:=small6 (by rw[List.length_map,List.length_map];show 1+_<=_;omega)
  fail "R"
  intro l3 hl3
  refine tail _ l3 _ (atm "fold"::xs.map sxB) (((s01.trans s9).trans s2).trans (same_new hl3 _)) ?_ ebb
  rw[upd_same]
  simp only[List.map_cons,sxS_map,List.cons_append,List.nil_append,bS_atm]
 |mat arms =>
  have arl:ks.length=arms.length+1:=eq_of_beq (show(ks.length == arms.length+1)=true from ar)
  cases ks with
  |nil=>cases arl
  |cons k0 kr =>
  obtain⟨a,v1,v2,v3,rfl,sq,g1,g2,g3⟩:=(show Rp K H (.t [.s "match",enc k0,.t (List.zipWith armT arms (kr.map enc))]) v from r).t3
  obtain rfl:=g1.inv_s
  obtain⟨b,us,rfl,sqb,rb⟩:=g3.inv_t
  rw[←arms_encs]at rb
  have lz:(arms.zip kr).length<=5:=by rw[List.length_zip];rw[List.length_cons]at wl;omega
  have a0:atI [V.str "match",v2,.ref b] 0=some (.str "match"):=at0 _ _
  have a1:atI [V.str "match",v2,.ref b] 1=some v2:=atI_nat (j:=1) rfl
  have a2:atI [V.str "match",v2,.ref b] 2=some (.ref b):=atI_nat (j:=2) rfl
  fail "R"
  intro p0 hp0
  have s0:=same_new hp0 (.tup [.str "num",.str "name",.str "gap"])
  have q0:SqT K (upd H p0 (.tup [.str "num",.str "name",.str "gap"])) p0 [.str "num",.str "name",.str "gap"]:=SqT.of upd_same
  have sq0:=sq.same s0
  generalize upd H p0 (.tup [.str "num",.str "name",.str "gap"])=H0 at s0 q0 sq0⊢
  have fl0:([V.str "num",.str "name",.str "gap"]:List V).all flatV=true:=by decide +kernel
  have in0:inV (.str "match") [.str "num",.str "name",.str "gap"]=false:=by decide +kernel
  have rb0:=rb.same s0
  have sqb0:=sqb.same s0
  have g20:=g2.same s0
  obtain⟨o1,o2,o3,o4⟩:=kok k0 (.head _)
  fail "R"
  intro H1 s1
  have sq1:=sq0.same s1
  have sqb1:=sqb0.same s1
  have rb1:=rb0.same s1
  fail "R"
  intro l1 hl1
  have s2:=same_new hl1 (.lst [.str "match",.str (txS k0)])
  have h2:upd H1 l1 (.lst [.str "match",.str (txS k0)]) l1=some (.lst [.str "match",.str (txS k0)]):=upd_same
  have sq2:=sq1.same s2
  have sqb2:=sqb1.same s2
  have rb2:=rb1.same s2
  generalize upd H1 l1 (.lst [.str "match",.str (txS k0)])=H2 at s2 h2 sq2 sqb2 rb2⊢
  fail "R"
  refine comp_mapT (K:=K) (e:=fun z=>armT z.1 (enc z.2)) (φ:=fun z=>[T.s (ofL (armB z.1 (bw z.2)).txt)]) (ps:=arms.zip kr) (fun σ=>∃x y z,σ=[x,y,z]) sqb2 rb2 (by omega) (fun _=>Nat.le_refl _) ⟨_,_,_,rfl⟩ ?_ ?_
  ·rintro q hq x2 σ H4 N s4 ⟨y2,y3,y4,rfl⟩ rx kN
   have z1:q.1∈arms:=(List.of_mem_zip (a:=q.1) (b:=q.2) hq).1
   have z2:q.2∈kr:=(List.of_mem_zip (a:=q.1) (b:=q.2) hq).2
   obtain⟨n1,n2⟩:=(show ∀a∈arms,nmOk a.1/\∀x∈a.2,nmOk x from ho) q.1 z1
   have n3:q.1.2.length<=2:=wh q.1 z1
   obtain⟨p1,p2,p3,p4⟩:=kok q.2 (.tail _ z2)
   have tl:=txt_len p1 p2
   have al:=arm_len (k:=bw q.2) n1 n2 n3
   obtain⟨xa,u1,u2,u3,rfl,sqx,g1,g2,g3⟩:=(show Rp K H4 (.t [.s q.1.1,.t (q.1.2.map .s),enc q.2]) x2 from rx).t3
   obtain rfl:=g1.inv_s
   obtain⟨na,ns,rfl,sqn,rn⟩:=g2.inv_t
   obtain rfl:=L2.Rps.strs_inv rn
   fail "R"
   intro p5 hp5
   have s5:=same_new hp5 (.tup [.str q.1.1])
   have q5:SqT K (upd H4 p5 (.tup [.str q.1.1])) p5 [.str q.1.1]:=SqT.of upd_same
   have sqn5:=sqn.same s5
   have g5:=g3.same s5
   generalize upd H4 p5 (.tup [.str q.1.1])=H5 at s5 q5 sqn5 g5⊢
   have lc5:([.str q.1.1]:List V).length+(q.1.2.map V.str).length<=sizeLine:=small6 (by rw[List.length_map];show 1+_<=_;omega)
   fail "R"
   intro c6 H6 s6 q6
   have g6:=g5.same s6
   fail "R"
   intro H7 s7
   have q7:=q6.same s7
   fail "R"
   intro p8 hp8
   have s8:=same_new hp8 (.tup [.str (txS q.2)])
   have q8:SqT K (upd H7 p8 (.tup [.str (txS q.2)])) p8 [.str (txS q.2)]:=SqT.of upd_same
   have q78:=q7.same s8
   generalize upd H7 p8 (.tup [.str (txS q.2)])=H8 at s8 q8 q78⊢
   have lc8:([V.str q.1.1]++q.1.2.map V.str:List V).length+([.str (txS q.2)]:List V).length<=sizeLine:=small6 (by rw[List.length_append,List.length_map];show 1+_+1<=_;omega)
   fail "R"
   intro c9 H9 s9 q9
   have ey:([V.str q.1.1]++q.1.2.map V.str++[.str (txS q.2)]:List V)=(q.1.1::(q.1.2++[txS q.2])).map V.str:=by simp
   rw[ey]at q9
   have em:=armW_map q.1 q.2
   have ew:=armW_txt q.1 q.2
   have el:(Bw.txts (armW q.1 q.2)).length+2=(armB q.1 (bw q.2)).txt.length:=by rw[ew];simp
   have st:=sum_tl (armW q.1 q.2)
   have sl:=tl1_txts (armW q.1 q.2)
   have jb:=join_bl (armW q.1 q.2)
   have lz':((armW q.1 q.2).map fun b=>ofL b.txt).length=(armW q.1 q.2).length:=List.length_map _
   rw[em]at st jb lz'
   have hj:((q.1.1::(q.1.2++[txS q.2])).map (·.length)).sum+(q.1.1::(q.1.2++[txS q.2])).length*(" ":Str).length<=16777216:=by
    rw[show(" ":Str).length=1 by decide +kernel,lz']
    omega
   have l1':("(":Str).length+(Txt.join " " (q.1.1::(q.1.2++[txS q.2]))).length<=sizeLine:=small6 (by rw[jb,ofL_len];show 1+_<=_;omega)
   have l2':(("(":Str)++Txt.join " " (q.1.1::(q.1.2++[txS q.2]))).length+(")":Str).length<=sizeLine:=small6 (by rw[jb,strLen_append,ofL_len];show 1+_+1<=_;omega)
   fail "R"
   refine kN _ _ _ ⟨⟨_,_,_,rfl⟩,((((s5.trans s6).trans s7).trans s8).trans s9),?_⟩
   rw[jb]
   have e3:("(":Str)++ofL (Bw.txts (armW q.1 q.2))++(")":Str)=ofL (armB q.1 (bw q.2)).txt:=by
    rw[ew]
    show ofL [40]++ofL _++ofL [41]=_
    rw[app_ofL,app_ofL]
    rfl
   show Rps K H9 [T.s (ofL (armB q.1 (bw q.2)).txt)] [.str (("(":Str)++ofL (Bw.txts (armW q.1 q.2))++(")":Str))]
   rw[e3]
   exact .one .s
  intro l3 H3 us' s3 hl3 h3 r3
  rw[fm_one]at r3
  have e2:us'=((arms.zip kr).map fun z=>ofL (armB z.1 (bw z.2)).txt).map V.str:=by
   have r4:Rps K H3 (((arms.zip kr).map fun z=>ofL (armB z.1 (bw z.2)).txt).map T.s) us':=by rw[List.map_map];exact r3
   exact L2.Rps.strs_inv r4
  subst e2
  have h3l:=s3 _ _ h2
  have lc:([.str "match",.str (txS k0)]:List V).length+(((arms.zip kr).map fun z=>ofL (armB z.1 (bw z.2)).txt).map V.str).length<=sizeLine:=small6 (by rw[List.length_map,List.length_map];show 2+_<=_;omega)
  fail "R"
  intro l5 hl5
  refine tail _ l5 _ (atm "match"::bw k0::List.zipWith armB arms (kr.map bw)) ((((s0.trans s1).trans s2).trans s3).trans (same_new hl5 _)) ?_ (bw_mk _ _)
  rw[upd_same]
  simp only[List.map_cons,arms_map,List.cons_append,List.nil_append,bS_atm]
  rfl
end
def spKeptW:Sp:=fun vs H Q _=>vs=[]/\∀(p:Addr) (H':Hp),Same H H'->H' p=some (.lst keptV)->Q (.ref p) H'
def spWord:Sp:=fun vs H Q _=>∃f:Addr,vs=[.ref f]/\FeedAt H f/\∀(x:Str) (H':Hp),Ext f H H'->nmOk x->Q (.str x) H'
@[irreducible] def esK1:List Expr:=match defBody s_L_kept with
 |.Assign _ (.List es _) _::_=>es
 |_=>[]
@[irreducible] def esK2:List Expr:=match defBody s_L_kept with
 | [_,.Return (some (.BinOp _ _ (.List es _) _)) _]=>es
 |_=>[]
@[irreducible] def posK (i:Nat):Pos:=match defBody s_L_kept with
 | [.Assign [.Name _ a] (.List _ b) c,.Return (some (.BinOp (.Name _ e) _ (.List _ f) g)) h]=>[a,b,c,e,f,g,h].getD i a
 |_=>⟨0,0,0,0⟩
def keptA:List Str:=["num","row","kind","def","more","first","others","long","match","if","let","fold","call"]
def keptB:List Str:=["gap","in","world","fault","left"]
theorem kept_body:defBody s_L_kept=[.Assign [.Name "_law_kept_here" (posK 0)] (.List esK1 (posK 1)) (posK 2),.Return (some (.BinOp (.Name "_law_kept_here" (posK 3)) .Add (.List esK2 (posK 4)) (posK 5))) (posK 6)]:=by unfold esK1 esK2 posK;kernel_rfl
theorem sK1:strsOf esK1=some keptA:=by unfold esK1;kernel_rfl
theorem sK2:strsOf esK2=some keptB:=by unfold esK2;kernel_rfl
theorem kept_cat:keptA.map V.str++keptB.map V.str=keptV:=rfl
theorem no_z:∀x∈keptS,x.cps.toList.getLast?≠some 122:=by decide +kernel
theorem inV_not{x:Str}(h:¬inV (.str x) keptV=true):x∉keptS:=fun hx=>h (by
 unfold inV
 rw[List.any_eq_true]
 exact⟨.str x,List.mem_map_of_mem hx,show(x == x)=true from beq_self_eq_true x⟩)
theorem lets_low:∀c∈("abcdefghijklmnopqrstuvwxyz":Str).cps.toList,low c:=by
 rw[show("abcdefghijklmnopqrstuvwxyz":Str).cps.toList=(List.range 26).map (·+97) by decide +kernel]
 intro c h
 obtain⟨i,hi,rfl⟩:=List.mem_map.mp h
 have:=List.mem_range.mp hi
 unfold low
 omega
theorem nm_mk{l:List Nat}(h1:1<=l.length)(h2:l.length<=6)(h3:∀a∈l,low a)(h4:ofL l∉keptS):nmOk (ofL l) :=
 ⟨by rw[ofL_len];exact h1,by rw[ofL_len];exact h2,by rw[toList_ofL];exact h3,h4⟩
section
variable {P:Program}{w:World}{K:PySem.W.Frag}{mg:Str->Option Value}{base:Heap}{gT gK:Addr}{tfd kfd:FuncData}
theorem nm_L_kept:Nm ["_law_kept_here"] (defScope s_L_kept):=by decide +kernel
theorem lm_L_kept:Lm ["_law_kept_here"] (defScope s_L_kept):=by decide +kernel
theorem sc_L_kept:FnScope ["_law_kept_here"] [] (defScope s_L_kept):=⟨rfl,rfl,rfl,by decide +kernel,rfl,by decide +kernel,by decide +kernel⟩
theorem ok_kept{f:Addr}{fd:FuncData}(F:Fun K "_law_kept" "_law_kept" s_L_kept f fd):FnOk P w K mg base CX0 1 f fd [] spKeptW:=by
 refine F.ok sc_L_kept (fun vs H Q E h=>?_) (fun cdv A outer s H vs Q E hr h=>?_)
 ·obtain⟨rfl,_⟩:=h
  rfl
 obtain⟨rfl,k⟩:=h
 rw[kept_body]
 refine⟨_,pss_cons (sa sc_L_kept.nd lm_L_kept 0 (pe_lst (pa_strs sK1))) (pss_one (ps_ret (pe_op op_cat (va nm_L_kept 0) (pe_lst (pa_strs sK2))))),?_⟩
 refine⟨(by show 13<=sizeLine;decide),fun l hl=>?_⟩
 refine⟨_,rfl,(by show 5<=sizeLine;decide),fun l2 hl2=>?_⟩
 refine⟨l,l2,_,_,rfl,rfl,same_new hl2 _ _ _ upd_same,upd_same,(by show 18<=sizeLine;decide),fun p hp=>?_⟩
 refine k p _ ((same_new hl _).trans ((same_new hl2 _).trans (same_new hp _))) ?_
 rw[upd_same,kept_cat]
theorem nm_L_word:Nm ["_law_feed_here","_law_word_here"] (defScope s_L_word):=by decide +kernel
theorem lm_L_word:Lm ["_law_feed_here","_law_word_here"] (defScope s_L_word):=by decide +kernel
theorem sc_L_word:FnScope ["_law_feed_here","_law_word_here"] ["_law_feed_here"] (defScope s_L_word):=⟨rfl,rfl,rfl,by decide +kernel,rfl,by decide +kernel,by decide +kernel⟩
theorem ok_word{f:Addr}{fd:FuncData}(F:Fun K "_law_word" "_law_word" s_L_word f fd)(TK:Has P w K mg base "_law_take" 1 ["_law_feed_here","_law_many"] spTake gT tfd)(KP:Has P w K mg base "_law_kept" 1 [] spKeptW gK kfd)(z_range:mg "range"=none):FnOk P w K mg base CX0 2 f fd ["_law_feed_here"] spWord:=by
 refine F.ok sc_L_word (fun vs H Q E h=>?_) (fun cdv A outer s H vs Q E hr h=>?_)
 ·obtain⟨_,rfl,_⟩:=h
  rfl
 obtain⟨r,rfl,hf,k⟩:=h
 refine⟨_,(@pss_cons _ _ _ _ _ (@sa _ _ _ _ _ _ sc_L_word.nd lm_L_word 1 (@pe_bm _ _ _ _ _ _ _ _ _ _ _ _ PySem.F.plainAttrs_str PySem.F.slot_str_join PySem.F.type_str_join mt_join pe_str (@pa_c _ _ _ _ _ (@pe_compC _ _ _ _ _ _ _ _ _ _ _ (defScope s_L_word) ["_law_feed_here","_law_word_here"] ["_law_k"] [0] rfl rfl rfl (by decide +kernel) (@pi_range1 _ _ _ _ _ _ (by show _=_;kernel_rfl) z_range (@pa_c _ _ _ _ _ (@pe_op _ _ _ _ _ _ _ _ op_add pe_int (@pe_call _ _ _ _ _ _ _ _ _ _ _ _ _ _ _ _ TK.ok (hr.mono (by omega)) (by show _=_;kernel_rfl) TK.at' TK.kp TK.bd .nil pass0 (pa_c (va nm_L_word 0) (pa_c pe_int pa_nil)) (by decide) (by rfl) (by rfl))) pa_nil (by rfl)) (by rfl)) (fun _ _ _ _=>(pg_name (i:=0) (show(["_law_k","_law_feed_here"]:List Str).Nodup by decide +kernel) rfl (Or.inl (by kernel_rfl)) (by first|exact .inl rfl|exact .inr (by kernel_rfl)))) (fun _ _ _ _=>pifs_nil) (fun _ _ _ _=>(@pe_ix _ _ _ _ _ _ _ ix_str pe_str (@pe_call _ _ _ _ _ _ _ _ _ _ _ _ _ _ _ _ TK.ok (hr.mono (by omega)) (by show _=_;kernel_rfl) TK.at' TK.kp TK.bd .nil pass0 (pa_c (va (show Nm ["_law_k","_law_feed_here"] _ by show _=_;kernel_rfl) 1) (pa_c pe_int pa_nil)) (by decide) (by rfl) (by rfl)) (fun _ _=>rfl))) (by intro _;rfl)) pa_nil (by rfl)) (by kernel_rfl) (by kernel_rfl) (by kernel_rfl) (by kernel_rfl) (by kernel_rfl)) (by rfl) (by kernel_rfl) (by exact .inl rfl)) (@pss_cons _ _ _ _ _ (@ps_if _ _ _ _ _ _ _ _ (pt_cmpR op_in_seq (va nm_L_word 1) (pe_call0 KP.ok (hr.mono (by omega)) (by show _=_;kernel_rfl) KP.at' KP.kp KP.bd .nil pass0) (by with_unfolding_all rfl)) (@pss_one _ _ _ (@ps_ret _ _ _ _ (@pe_op _ _ _ _ _ _ _ _ op_add_str (@pe_slice _ _ _ _ _ _ _ _ _ _ sl_str (va nm_L_word 1) po_none (po_some (pe_un un_neg pe_int))) pe_str))) pss_nil) (@pss_one _ _ _ (ps_ret (va nm_L_word 1))))),?_⟩
 try dsimp only[cx_K]
 try dsimp only[cx_K]
 refine seq_cut2 ?_
 intro N1 N2 c1 c2
 fail "R"
 intro q H2 q0 q6 e2
 fail "R"
 refine comp_range (n:=(1+q).toNat) (fun i σ vs Hc=>(∃v,σ=[v,some (.ref r)])/\Ext r H2 Hc/\∃cs:List Nat,vs=(cs.map fun c=>(⟨#[c]⟩:Str)).map V.str/\cs.length=i/\∀c∈cs,low c)
  ⟨⟨none,rfl⟩,Ext.refl e2.2,[],rfl,rfl,fun _ h=>nomatch h⟩ (fun i σ vs Hc _ ⟨_,_,cs,e,el,_⟩=>by rw[e,List.length_map,List.length_map];omega) (small (by omega)) ?_ ?_
 ·rintro i' σ vs Hc hi' ⟨⟨v,rfl⟩,ext,cs,rfl,hcl,hlo⟩
  refine⟨_,rfl,r,26,rfl,by decide,by decide,ext.2,fun d H3 d0 d1 ext2=>?_⟩
  obtain⟨c,hc1,hc2⟩:=atS (z:="abcdefghijklmnopqrstuvwxyz") d0 d1
  refine⟨_,d,c,rfl,rfl,(by decide +kernel),hc1,?_⟩
  exact⟨⟨_,rfl⟩,ext.trans ext2,cs++[c],by rw[List.map_append,List.map_append];rfl,by rw[List.length_append,hcl];rfl,fun c' h=>by rcases List.mem_append.mp h with h|h;exact hlo c' h;rw[List.mem_singleton.mp h];exact lets_low c hc2⟩
 rintro σ vs Hc ⟨⟨v,rfl⟩,ext,cs,rfl,hcl,hlo⟩ p hp
 refine⟨_,p,_,rfl,rfl,SqL.of upd_same,?_,?_⟩
 ·have z:(Str.ofString "").length=0:=by decide
  rw[sum_ones,z]
  omega
 rw[join_cs]
 have kp1:Ext r H (upd Hc p (.lst ((cs.map fun c=>(⟨#[c]⟩:Str)).map V.str))):=(e2.trans ext).new hp _
 generalize upd Hc p (.lst ((cs.map fun c=>(⟨#[c]⟩:Str)).map V.str))=H4 at kp1⊢
 have ecs:(⟨cs.toArray⟩:Str)=ofL cs:=rfl
 rw[ecs]
 have lx:(ofL cs).length<=sizeLine:=small (by rw[ofL_len];omega)
 have hfl:=kept_flat
 fail "R"
 intro pk H5 s5 h5
 have kp5:=kp1.same s5
 have sq5:SqL K H5 pk keptV:=SqL.of h5
 fail "R"
 have hne:cs≠[]:=fun z=>by rw[z]at hcl;have:(0:Nat)=(1+q).toNat:=hcl;omega
 have es:=slice_init hne
 refine ite2 (fun c=>?_) (fun c=>?_)
 ·have hld:cs.dropLast.length=cs.length-1:=List.length_dropLast
  have l1:(Txt.slice (ofL cs) none (some (-1))).length+("z":Str).length<=sizeLine:=small (by rw[es,ofL_len];show cs.dropLast.length+1<=1000;omega)
  fail "R"
  have ez:ofL cs.dropLast++("z":Str)=ofL (cs.dropLast++[122]):=by
   show ofL cs.dropLast++ofL [122]=_
   rw[app_ofL]
  show Q (.str (Txt.slice (ofL cs) none (some (-1))++("z":Str))) H5
  rw[es,ez]
  refine k _ _ kp5 (nm_mk (by rw[List.length_append];show 1<=cs.dropLast.length+1;omega) (by rw[List.length_append];show cs.dropLast.length+1<=6;omega) (fun a ha=>?_) (fun hm=>?_))
  ·rcases List.mem_append.mp ha with h|h
   ·exact hlo a (List.dropLast_subset cs h)
   ·rw[List.mem_singleton.mp h];exact⟨by decide,by decide⟩
  ·exact no_z _ hm (by rw[toList_ofL];simp)
 ·fail "R"
  exact k _ _ kp5 (nm_mk (by omega) (by omega) hlo (inV_not c))
end
theorem Go.updN{f d wl q:Addr}{xs:List Str}{us:List V}{H H1:Hp}(g:Go f d wl xs H H1)(s:Sc H f d wl xs)(hn:H q=none)(h:H1 q=some (.lst us))(o:HO):Go f d wl xs H (upd H1 q o):=by
 obtain⟨m,hd,hm⟩:=g.sc.sd
 obtain⟨m0,hd0,_⟩:=s.sd
 obtain⟨p1,p2,hf0⟩:=s.ff
 obtain⟨p3,p4,hf⟩:=g.sc.ff
 have n1:d≠q:=fun e=>by(rw[←e,hd0]at hn;cases hn)
 have n2:wl≠q:=fun e=>by(rw[←e,s.lw]at hn;cases hn)
 have n3:f≠q:=fun e=>by(rw[←e,hf0]at hn;cases hn)
 refine⟨g.fr.updN hn (Ne.symm n3) h,⟨⟨m,by rw[upd_ne n1];exact hd,hm⟩,by rw[upd_ne n2];exact g.sc.lw,s.x1,s.x2,s.xo,⟨p3,p4,by rw[upd_ne n3];exact hf⟩,s.nf⟩⟩
theorem Rps.strs{K:PySem.W.Frag}{H:Hp}:∀xs:List Str,Rps K H (xs.map T.s) (xs.map V.str)
 | []=>.nil
 |_::r=>.cons .s (Rps.strs r)
def armsOk(arms:List (Str×List Str)):Prop:=∀a∈arms,(nmOk a.1/\∀x∈a.2,nmOk x)/\a.2.length<=2
def spAar(K:PySem.W.Frag):Sp:=fun vs H Q _=>∃(f d wl:Addr) (xs:List Str) (p:Addr) (us:List V) (ts:List Tm),vs=[.ref f,.ref d,.ref p]/\Sc H f d wl xs/\SqT K H p us/\Rps K H (ts.map enc) us/\ts.length<=5/\∀(v:V) (H':Hp) (arms:List (Str×List Str)),Go f d wl xs H H'->Rp K H' (.t (List.zipWith armT arms (ts.map enc))) v->arms.length=ts.length->armsOk arms->Q v H'
structure ArI(K:PySem.W.Frag) (f d wl:Addr) (xs:List Str) (q:Addr) (H:Hp) (ts:List Tm) (i:Nat) (H':Hp):Prop where
 x:∃(arms:List (Str×List Str)) (vs:List V),Go f d wl xs H H'/\H' q=some (.lst vs)/\Rps K H' (List.zipWith armT arms ((ts.take i).map enc)) vs/\arms.length=i/\armsOk arms
structure WdI(f d wl:Addr) (xs:List Str) (H:Hp) (i:Nat) (us:List V) (H':Hp):Prop where
 x:∃ys:List Str,Go f d wl xs H H'/\us=ys.map V.str/\ys.length=i/\∀y∈ys,nmOk y
section
variable {P:Program}{w:World}{K:PySem.W.Frag}{mg:Str->Option Value}{base:Heap}{gT gA:Addr}{tfd afd:FuncData}
theorem nm_L_any_arms:Nm ["_law_feed_here","_law_scene","_law_terms","_law_found","_law_term","_law_words"] (defScope s_L_any_arms):=by decide +kernel
theorem lm_L_any_arms:Lm ["_law_feed_here","_law_scene","_law_terms","_law_found","_law_term","_law_words"] (defScope s_L_any_arms):=by decide +kernel
theorem sc_L_any_arms:FnScope ["_law_feed_here","_law_scene","_law_terms","_law_found","_law_term","_law_words"] ["_law_feed_here","_law_scene","_law_terms"] (defScope s_L_any_arms):=⟨rfl,rfl,rfl,by decide +kernel,rfl,by decide +kernel,by decide +kernel⟩
theorem ok_aar{f:Addr}{fd:FuncData}(F:Fun K "_law_any_arms" "_law_any_arms" s_L_any_arms f fd)(TK:Has P w K mg base "_law_take" 1 ["_law_feed_here","_law_many"] spTake gT tfd)(z_len:mg "len"=none)(z_range:mg "range"=none)(z_tuple:mg "tuple"=none):FnOk P w K mg base CX0 2 f fd ["_law_feed_here","_law_scene","_law_terms"] (spAar K):=by
 refine F.ok sc_L_any_arms (fun vs H Q E h=>?_) (fun cdv A outer s H vs Q E hr h=>?_)
 ·obtain⟨_,_,_,_,_,_,_,rfl,_⟩:=h
  rfl
 obtain⟨fe,d,wl,xs,p,us,ts,rfl,sc,sq,r,t5,k⟩:=h
 refine⟨_,(@pss_cons _ _ _ _ _ (sa sc_L_any_arms.nd lm_L_any_arms 3 (pe_lst pa_nil)) (@pss_cons _ _ _ _ _ (@ps_for _ _ _ _ _ _ _ _ PassesOwn.never rfl (pi_tup (va nm_L_any_arms 2)) (ga sc_L_any_arms.nd lm_L_any_arms 4) (@pss_cons _ _ _ _ _ (@ps_compC _ _ _ _ _ _ _ _ _ _ _ _ _ _ _ (defScope s_L_any_arms) ["_law_feed_here","_law_scene","_law_terms","_law_found","_law_term","_law_words"] ["_law_k"] [0,1] rfl rfl rfl (by decide +kernel) (@pi_range1 _ _ _ _ _ _ (by show _=_;kernel_rfl) z_range (@pa_c _ _ _ _ _ (@pe_op _ _ _ _ _ _ _ _ op_add pe_int (@pe_call _ _ _ _ _ _ _ _ _ _ _ _ _ _ _ _ TK.ok (hr.mono (by omega)) (by show _=_;kernel_rfl) TK.at' TK.kp TK.bd .nil pass0 (pa_c (va nm_L_any_arms 0) (pa_c pe_int pa_nil)) (by decide) (by rfl) (by rfl))) pa_nil (by rfl)) (by rfl)) (fun _ _ _ _=>(pg_name (i:=0) (show(["_law_k","_law_feed_here","_law_scene"]:List Str).Nodup by decide +kernel) rfl (Or.inl (by kernel_rfl)) (by first|exact .inl rfl|exact .inr (by kernel_rfl)))) (fun _ _ _ _=>pifs_nil) (fun _ _ _ _=>(@pe_ix _ _ _ _ _ _ _ (ix_listK K rfl) (pe_dget (hu_of hr) (va (show Nm ["_law_k","_law_feed_here","_law_scene"] _ by show _=_;kernel_rfl) 2) pe_str (fun _ _=>rfl)) (@pe_call _ _ _ _ _ _ _ _ _ _ _ _ _ _ _ _ TK.ok (hr.mono (by omega)) (by show _=_;kernel_rfl) TK.at' TK.kp TK.bd .nil pass0 (@pa_c _ _ _ _ _ (va (show Nm ["_law_k","_law_feed_here","_law_scene"] _ by show _=_;kernel_rfl) 1) (@pa_c _ _ _ _ _ (@pe_callB _ _ _ _ _ _ _ _ _ (call_len_seqK K rfl) (by show _=_;kernel_rfl) z_len PySem.boot_len (@pa_c _ _ _ _ _ (pe_dget (hu_of hr) (va (show Nm ["_law_k","_law_feed_here","_law_scene"] _ by show _=_;kernel_rfl) 2) pe_str (fun _ _=>rfl)) pa_nil (by rfl)) (by decide) (by decide) (by rfl) (by rfl)) pa_nil (by rfl)) (by rfl)) (by decide) (by rfl) (by rfl)) (fun _ _=>rfl))) (ga sc_L_any_arms.nd lm_L_any_arms 5) (by kernel_rfl) (by intro _;rfl)) (@pss_one _ _ _ (@ps_expr _ _ _ _ (@pe_bm _ _ _ _ _ _ _ _ _ _ _ _ PySem.F.plainAttrs_list PySem.F.slot_list_append PySem.F.type_list_append mt_append (va nm_L_any_arms 3) (@pa_c _ _ _ _ _ (@pe_tup _ _ _ _ _ (@pa_c _ _ _ _ _ (pe_ix ix_list (va nm_L_any_arms 5) pe_int (fun _ _=>rfl)) (@pa_c _ _ _ _ _ (@pe_callTy _ _ _ _ _ _ _ _ _ call_tuple_of (by show _=_;kernel_rfl) z_tuple PyProof.Rows.boot_tuple (@pa_c _ _ _ _ _ (pe_slice sl_list (va nm_L_any_arms 5) (po_some pe_int) po_none) pa_nil (by rfl)) (by decide) (by decide) (by rfl) (by rfl)) (pa_c (va nm_L_any_arms 4) pa_nil) (by rfl)) (by rfl))) pa_nil (by rfl)) (by rfl) (by rfl) (by rfl) (by rfl) (by rfl)) (by rfl)))) (by intro _;rfl)) (@pss_one _ _ _ (@ps_ret _ _ _ _ (@pe_callTy _ _ _ _ _ _ _ _ _ call_tuple_of (by show _=_;kernel_rfl) z_tuple PyProof.Rows.boot_tuple (pa_c (va nm_L_any_arms 3) pa_nil) (by decide) (by decide) (by rfl) (by rfl)))))),?_⟩
 try dsimp only[cx_K]
 try dsimp only[cx_K]
 have lus:=r.length
 rw[List.length_map]at lus
 refine seq_cut2 ?_
 intro N1 N2 c1 c2
 fail "R"
 intro q hq
 have s1:=same_new hq (.lst [])
 have h1:upd H q (.lst []) q=some (.lst []):=upd_same
 generalize upd H q (.lst [])=H1 at s1 h1⊢
 have g1:=(Go.refl sc).same s1
 have sq1:=sq.same s1
 have i0:ArI K fe d wl xs q H ts 0 H1:=⟨[],[],g1,h1,.nil,rfl,fun a h=>nomatch h⟩
 fail "R"
 refine for_tup (K:=K) (xs:=us) (fun i σ H2=>(∃y z,σ=[some (.ref fe),some (.ref d),some (.ref p),some (.ref q),y,z])/\ArI K fe d wl xs q H ts i H2) ⟨⟨_,_,rfl⟩,i0⟩ ?_ ?_ ?_
 ·rintro i σ H2 hi ⟨_,⟨_,_,g2,_⟩⟩
  exact sq.kt g2.kt
 ·rintro i x σ H2 hx ⟨⟨y0,z0,rfl⟩,⟨arms,vs,g2,h2,r2,l2,o2⟩⟩
  obtain⟨t,ht,rx⟩:=r.get' hx
  rw[List.getElem?_map]at ht
  obtain⟨z,hz,rfl⟩:=Option.map_eq_some_iff.mp ht
  have hil:=(List.getElem?_eq_some_iff.mp hz).1
  have etk:ts.take (i+1)=ts.take i++[z]:=by rw[List.take_succ_eq_append_getElem hil,(List.getElem?_eq_some_iff.mp hz).2]
  have hf2:=g2.sc.ff
  refine seq_cut ?_
  intro N3 c3
  fail "R"
  intro m H3 m0 m1 e3
  have g3:=g2.ext e3
  have nqf:q≠fe:=lst_ne_fd sc.ff hq
  have h3:=e3.1 _ _ nqf h2
  have r3:=r2.kt (e3.kt hf2)
  fail "R"
  refine comp_range (n:=(1+m).toNat) (fun i7 σ us5 H5=>(∃v,σ=[v,some (.ref fe),some (.ref d)])/\WdI fe d wl xs H3 i7 us5 H5) ⟨⟨none,rfl⟩,⟨[],Go.refl g3.sc,rfl,rfl,fun y h=>nomatch h⟩⟩ (fun i7 σ us5 H5 _ h=>?_) (small (by omega)) ?_ ?_
  ·obtain⟨_,⟨ys,_,rfl,e,_⟩⟩:=h
   rw[List.length_map,e];exact Nat.le_refl _
  ·rintro i7 σ us5 H5 hi7 ⟨⟨v,rfl⟩,⟨ys,g5,rfl,l5,o5⟩⟩
   obtain⟨m5,h5d,_⟩:=g5.sc.sd
   have dw:=get_words h5d
   have h5w:=g5.sc.lw
   have sq5:SqL K H5 wl (xs.map V.str)\/SqT K H5 wl (xs.map V.str):=.inl (SqL.of h5w)
   have hf5:=g5.sc.ff
   have x1:=sc.x1
   have x2:=sc.x2
   have lm:(xs.map V.str).length=xs.length:=List.length_map _
   have ll:(((xs.map V.str).length:Nat):Int)<1073741824:=by omega
   fail "R"
   intro r5 H6 r50 r51 e6
   obtain⟨y,hy,oy⟩:=word_at r50 r51 sc.xo
   have g6:=g5.ext e6
   have sq6:SqL K H6 wl (xs.map V.str):=SqL.of g6.sc.lw
   fail "R"
   refine⟨ys++[y],g6,by rw[List.map_append];rfl,by rw[List.length_append,l5];rfl,fun u hu=>?_⟩
   rcases List.mem_append.mp hu with hu|hu
   ·exact o5 u hu
   ·rw[List.mem_singleton.mp hu];exact oy
  rintro σ us5 H5 ⟨_,⟨ys,g5,rfl,l5,o5⟩⟩ lw hlw
  obtain⟨nd5,nf5⟩:=g5.new_ne hlw
  have s6:=same_new hlw (.lst (ys.map V.str))
  have h6:upd H5 lw (.lst (ys.map V.str)) lw=some (.lst (ys.map V.str)):=upd_same
  have nqd:q≠d:=(Go.new_ne (Go.refl sc) hq).1
  have h6q:=s6 _ _ (g5.get h3 nqd nqf)
  have g6:=g5.same s6
  have k6:Kt H3 (upd H5 lw (.lst (ys.map V.str))):=g5.kt.trans (Kt.same s6)
  generalize upd H5 lw (.lst (ys.map V.str))=H6 at s6 h6 h6q g6 k6⊢
  obtain⟨y1,yr,rfl⟩:∃a b,ys=a::b:=by
   cases ys with
   |nil=>exact absurd l5 (by show ¬0=(1+m).toNat;omega)
   |cons a b=>exact⟨a,b,rfl⟩
  have a0:atI ((y1::yr).map V.str) 0=some (.str y1):=at0 _ _
  have ec:cutV ((y1::yr).map V.str) (some 1) none=yr.map V.str:=cut_tl _ _
  have l8:yr.length<=2:=by rw[List.length_cons]at l5;omega
  fail "R"
  rw[ec]
  intro p7 hp7
  have s7:=same_new hp7 (.lst (yr.map V.str))
  have h7:SqL K (upd H6 p7 (.lst (yr.map V.str))) p7 (yr.map V.str):=SqL.of upd_same
  have h7q:=s7 _ _ h6q
  have g7:=g6.same s7
  have k7:=k6.trans (Kt.same s7)
  generalize upd H6 p7 (.lst (yr.map V.str))=H7 at s7 h7 h7q g7 k7⊢
  fail "R"
  refine .inl ⟨h7,fun p8 hp8=>?_⟩
  have s8:=same_new hp8 (.tup (yr.map V.str))
  have r8:Rp K (upd H7 p8 (.tup (yr.map V.str))) (.t (yr.map T.s)) (.ref p8):=Rp.new (K:=K) hp8 (Rps.strs yr)
  have h8q:=s8 _ _ h7q
  have g8:=g7.same s8
  have k8:=k7.trans (Kt.same s8)
  generalize upd H7 p8 (.tup (yr.map V.str))=H8 at s8 r8 h8q g8 k8⊢
  fail "R"
  intro p9 hp9
  have s9:=same_new hp9 (.tup [.str y1,.ref p8,x])
  have h9q:=s9 _ _ h8q
  have g9:=(g3.trans g8).same s9
  have k9:=k8.trans (Kt.same s9)
  have rx9:=rx.kt ((g3.kt.trans k8))
  have r9:Rp K (upd H8 p9 (.tup [.str y1,.ref p8,x])) (armT (y1,yr) (enc z)) (.ref p9):=Rp.new (K:=K) hp9 (.cons .s (.cons r8 (.one rx9)))
  generalize upd H8 p9 (.tup [.str y1,.ref p8,x])=H9 at s9 h9q g9 k9 r9⊢
  have lv:=r2.length
  have lvs:vs.length<sizeLine:=small1000 (by rw[lv,List.length_zipWith,List.length_map,List.length_take];omega)
  fail "R"
  have k10:Kt H9 (upd H9 q (.lst (vs++[.ref p9]))):=Kt.lst h9q _
  refine⟨arms++[(y1,yr)],_,g9.updN sc hq h9q _,upd_same,?_,by rw[List.length_append,l2];rfl,fun a ha=>?_⟩
  ·rw[etk,List.map_append,List.zipWith_append (by rw[List.length_map,List.length_take];omega)]
   exact((r3.kt k9).kt k10).snoc (r9.kt k10)
  ·rcases List.mem_append.mp ha with ha|ha
   ·exact o2 a ha
   ·rw[List.mem_singleton.mp ha]
    exact⟨⟨o5 y1 (.head _),fun u hu=>o5 u (.tail _ hu)⟩,l8⟩
 ·rintro σ H2 ⟨⟨_,_,rfl⟩,⟨arms,vs,g2,h2,r2,l2,o2⟩⟩
  rw[show us.length=ts.length by omega,List.take_length]at r2
  have lv:=r2.length
  have lvs:vs.length<=sizeLine:=small (by rw[lv,List.length_zipWith,List.length_map];omega)
  fail "R"
  refine .inl ⟨SqL.of h2,fun p7 hp7=>?_⟩
  exact k _ _ arms (g2.same (same_new hp7 _)) (Rp.new (K:=K) hp7 r2) (by omega) o2
end
end G08
namespace L2
open PySem
theorem if_at{tt:TT}{ta tb:TS}{D:Ends}{σ:St}{H:Hp}(p:Prop)(ht:∀C:Bool->Hp->Prop,(p->C true H)->(¬p->C false H)->tt σ H C)(a:p->ta D σ H)(b:¬p->tb D σ H):tIfS tt ta tb D σ H:=ht _ (fun h=>by rw[if_pos rfl];exact a h) (fun h=>by rw[if_neg Bool.false_ne_true];exact b h)
end L2
namespace G08
open PySem L2
section
variable {P:Program}{w:World}{K:PySem.W.Frag}{mg:Str->Option Value}{base:Heap}{gT gL gI gA:Addr}{tfd lfd ifd afd:FuncData}
theorem nm_L_any_term:Nm ["_law_feed_here","_law_scene","_law_room","_law_down","_law_form","_law_x","_law_y","_law_terms"] (defScope s_L_any_term):=by decide +kernel
theorem lm_L_any_term:Lm ["_law_feed_here","_law_scene","_law_room","_law_down","_law_form","_law_x","_law_y","_law_terms"] (defScope s_L_any_term):=by decide +kernel
theorem sc_L_any_term:FnScope ["_law_feed_here","_law_scene","_law_room","_law_down","_law_form","_law_x","_law_y","_law_terms"] ["_law_feed_here","_law_scene","_law_room","_law_down"] (defScope s_L_any_term):=⟨rfl,rfl,rfl,by decide +kernel,rfl,by decide +kernel,by decide +kernel⟩
theorem ok_ate{f:Addr}{fd:FuncData}{n j:Nat}(hj:3<=j)(F:Fun K "_law_any_term" "_law_any_term" s_L_any_term f fd)(TK:Has P w K mg base "_law_take" 1 ["_law_feed_here","_law_many"] spTake gT tfd)(ALF:Has P w K mg base "_law_any_leaf" 3 ["_law_feed_here","_law_scene"] (spLeaf K) gL lfd)(ANI:Has P w K mg base "_law_any_inner" j ["_law_feed_here","_law_scene","_law_many","_law_room","_law_down"] (spAni K n) gI ifd)(AAR:Has P w K mg base "_law_any_arms" 2 ["_law_feed_here","_law_scene","_law_terms"] (spAar K) gA afd)(z_len:mg "len"=none)(z_range:mg "range"=none) :
  FnOk P w K mg base CX0 (j+1) f fd ["_law_feed_here","_law_scene","_law_room","_law_down"] (spAte K (n+1)):=by
 refine F.ok sc_L_any_term (fun vs H Q E h=>?_) (fun cdv A outer s H vs Q E hr h=>?_)
 ·obtain⟨_,_,_,_,_,_,rfl,_⟩:=h
  rfl
 obtain⟨fe,d,wl,xs,room,down,rfl,sc,r1,r100,dn,d50,k⟩:=h
 refine⟨_,(@pss_cons _ _ _ _ _ (@sa _ _ _ _ _ _ sc_L_any_term.nd lm_L_any_term 4 (@pe_call _ _ _ _ _ _ _ _ _ _ _ _ _ _ _ _ TK.ok (hr.mono (by omega)) (by show _=_;kernel_rfl) TK.at' TK.kp TK.bd .nil pass0 (pa_c (va nm_L_any_term 0) (pa_c pe_int pa_nil)) (by decide) (by rfl) (by rfl)) (by rfl) (by kernel_rfl) (by exact .inl rfl)) (@pss_cons _ _ _ _ _ (@ps_if _ _ _ _ _ _ _ _ (PW.pt (@pw_or _ _ _ _ _ _ _ (pt_cmpR op_lt (va nm_L_any_term 2) pe_int (nomark _)) (@pw_or _ _ _ _ _ _ _ (pt_cmpR op_lt (va nm_L_any_term 3) pe_int (nomark _)) (@pw_or1 _ _ _ _ (pt_cmpR op_eq (va nm_L_any_term 4) pe_int (nomark _)))))) (@pss_one _ _ _ (@ps_ret _ _ _ _ (@pe_call _ _ _ _ _ _ _ _ _ _ _ _ _ _ _ _ ALF.ok (hr.mono (by omega)) (by show _=_;kernel_rfl) ALF.at' ALF.kp ALF.bd .nil pass0 (@pa_c _ _ _ _ _ (va nm_L_any_term 0) (pa_c (va nm_L_any_term 1) pa_nil) (by rfl)) (by decide) (by rfl) (by rfl)))) pss_nil) (@pss_cons _ _ _ _ _ (@ps_asg _ _ _ _ _ _ (@pe_compC _ _ _ _ _ _ _ _ _ _ _ (defScope s_L_any_term) ["_law_feed_here","_law_scene","_law_room","_law_down","_law_form","_law_x","_law_y","_law_terms"] ["_law_k"] [0,1] rfl rfl rfl (by decide +kernel) (pi_range1 (by show _=_;kernel_rfl) z_range (pa_c pe_int pa_nil)) (fun _ _ _ _=>(pg_name (i:=0) (show(["_law_k","_law_feed_here","_law_scene"]:List Str).Nodup by decide +kernel) rfl (Or.inl (by kernel_rfl)) (by first|exact .inl rfl|exact .inr (by kernel_rfl)))) (fun _ _ _ _=>pifs_nil) (fun _ _ _ _=>(@pe_ix _ _ _ _ _ _ _ (ix_listK K rfl) (pe_dget (hu_of hr) (va (show Nm ["_law_k","_law_feed_here","_law_scene"] _ by show _=_;kernel_rfl) 2) pe_str (fun _ _=>rfl)) (@pe_call _ _ _ _ _ _ _ _ _ _ _ _ _ _ _ _ TK.ok (hr.mono (by omega)) (by show _=_;kernel_rfl) TK.at' TK.kp TK.bd .nil pass0 (@pa_c _ _ _ _ _ (va (show Nm ["_law_k","_law_feed_here","_law_scene"] _ by show _=_;kernel_rfl) 1) (@pa_c _ _ _ _ _ (@pe_callB _ _ _ _ _ _ _ _ _ (call_len_seqK K rfl) (by show _=_;kernel_rfl) z_len PySem.boot_len (@pa_c _ _ _ _ _ (pe_dget (hu_of hr) (va (show Nm ["_law_k","_law_feed_here","_law_scene"] _ by show _=_;kernel_rfl) 2) pe_str (fun _ _=>rfl)) pa_nil (by rfl)) (by decide) (by decide) (by rfl) (by rfl)) pa_nil (by rfl)) (by rfl)) (by decide) (by rfl) (by rfl)) (fun _ _=>rfl))) (by intro _;rfl)) (@pg_lstK _ _ _ _ _ (2) K rfl rfl (@pgs_cons _ _ _ _ _ (ga sc_L_any_term.nd lm_L_any_term 5) (pgs_cons (ga sc_L_any_term.nd lm_L_any_term 6) pgs_nil) (by rfl)) (by rfl) (by rfl)) (by rfl) (by rfl) (by rfl)) (@pss_cons _ _ _ _ _ (@ps_if _ _ _ _ _ _ _ _ (pt_cmpR op_eq (va nm_L_any_term 4) pe_int (nomark _)) (@pss_one _ _ _ (@ps_ret _ _ _ _ (@pe_tup _ _ _ _ _ (@pa_c _ _ _ _ _ pe_str (@pa_c _ _ _ _ _ (@pe_call _ _ _ _ _ _ _ _ _ _ _ _ _ _ _ _ ANI.ok (hr.mono (by omega)) (by show _=_;kernel_rfl) ANI.at' ANI.kp ANI.bd .nil pass0 (@pa_c _ _ _ _ _ (va nm_L_any_term 0) (@pa_c _ _ _ _ _ (va nm_L_any_term 1) (@pa_c _ _ _ _ _ (@pe_call _ _ _ _ _ _ _ _ _ _ _ _ _ _ _ _ TK.ok (hr.mono (by omega)) (by show _=_;kernel_rfl) TK.at' TK.kp TK.bd .nil pass0 (pa_c (va nm_L_any_term 0) (pa_c pe_int pa_nil)) (by decide) (by rfl) (by rfl)) (@pa_c _ _ _ _ _ (va nm_L_any_term 2) (pa_c (va nm_L_any_term 3) pa_nil) (by rfl)) (by rfl)) (by rfl)) (by rfl)) (by decide) (by rfl) (by rfl)) pa_nil (by rfl)) (by rfl))))) pss_nil) (@pss_cons _ _ _ _ _ (@ps_if _ _ _ _ _ _ _ _ (pt_cmpR op_lt (va nm_L_any_term 4) pe_int (nomark _)) (@pss_one _ _ _ (@ps_ret _ _ _ _ (@pe_tup _ _ _ _ _ (@pa_c _ _ _ _ _ (@pe_ix _ _ _ _ _ _ _ ix_list (@pe_lst _ _ _ _ (pa_c pe_str (pa_c pe_str pa_nil))) (pe_op op_sub (va nm_L_any_term 4) pe_int) (fun _ _=>rfl)) (@pa_c _ _ _ _ _ (va nm_L_any_term 5) (@pa_c _ _ _ _ _ (@pe_call _ _ _ _ _ _ _ _ _ _ _ _ _ _ _ _ ANI.ok (hr.mono (by omega)) (by show _=_;kernel_rfl) ANI.at' ANI.kp ANI.bd .nil pass0 (@pa_c _ _ _ _ _ (va nm_L_any_term 0) (@pa_c _ _ _ _ _ (va nm_L_any_term 1) (@pa_c _ _ _ _ _ (@pe_call _ _ _ _ _ _ _ _ _ _ _ _ _ _ _ _ TK.ok (hr.mono (by omega)) (by show _=_;kernel_rfl) TK.at' TK.kp TK.bd .nil pass0 (pa_c (va nm_L_any_term 0) (pa_c pe_int pa_nil)) (by decide) (by rfl) (by rfl)) (@pa_c _ _ _ _ _ (va nm_L_any_term 2) (pa_c (va nm_L_any_term 3) pa_nil) (by rfl)) (by rfl)) (by rfl)) (by rfl)) (by decide) (by rfl) (by rfl)) pa_nil (by rfl)) (by rfl)) (by rfl))))) pss_nil) (@pss_cons _ _ _ _ _ (@ps_if _ _ _ _ _ _ _ _ (pt_cmpR op_eq (va nm_L_any_term 4) pe_int (nomark _)) (@pss_cons _ _ _ _ _ (@sa _ _ _ _ _ _ sc_L_any_term.nd lm_L_any_term 7 (@pe_call _ _ _ _ _ _ _ _ _ _ _ _ _ _ _ _ ANI.ok (hr.mono (by omega)) (by show _=_;kernel_rfl) ANI.at' ANI.kp ANI.bd .nil pass0 (@pa_c _ _ _ _ _ (va nm_L_any_term 0) (@pa_c _ _ _ _ _ (va nm_L_any_term 1) (@pa_c _ _ _ _ _ (@pe_op _ _ _ _ _ _ _ _ op_add pe_int (@pe_call _ _ _ _ _ _ _ _ _ _ _ _ _ _ _ _ TK.ok (hr.mono (by omega)) (by show _=_;kernel_rfl) TK.at' TK.kp TK.bd .nil pass0 (pa_c (va nm_L_any_term 0) (pa_c pe_int pa_nil)) (by decide) (by rfl) (by rfl))) (@pa_c _ _ _ _ _ (va nm_L_any_term 2) (pa_c (va nm_L_any_term 3) pa_nil) (by rfl)) (by rfl)) (by rfl)) (by rfl)) (by decide) (by rfl) (by rfl)) (by rfl) (by kernel_rfl) (by exact .inl rfl)) (@pss_one _ _ _ (@ps_ret _ _ _ _ (@pe_tup _ _ _ _ _ (@pa_c _ _ _ _ _ pe_str (@pa_c _ _ _ _ _ (pe_ix ix_tup (va nm_L_any_term 7) pe_int (fun _ _=>rfl)) (@pa_c _ _ _ _ _ (@pe_call _ _ _ _ _ _ _ _ _ _ _ _ _ _ _ _ AAR.ok (hr.mono (by omega)) (by show _=_;kernel_rfl) AAR.at' AAR.kp AAR.bd .nil pass0 (@pa_c _ _ _ _ _ (va nm_L_any_term 0) (@pa_c _ _ _ _ _ (va nm_L_any_term 1) (@pa_c _ _ _ _ _ (pe_slice sl_tup (va nm_L_any_term 7) (po_some pe_int) po_none) pa_nil (by rfl)) (by rfl)) (by rfl)) (by decide) (by rfl) (by rfl)) pa_nil (by rfl)) (by rfl)) (by rfl)))))) pss_nil) (@pss_cons _ _ _ _ _ (@ps_if _ _ _ _ _ _ _ _ (PW.pt (@pw_or _ _ _ _ _ _ _ (pt_cmpR op_eq (va nm_L_any_term 4) pe_int (nomark _)) (@pw_or1 _ _ _ _ (pt_cmpR op_lt (va nm_L_any_term 2) pe_int (nomark _))))) (@pss_one _ _ _ (@ps_ret _ _ _ _ (@pe_op _ _ _ _ _ _ _ _ op_catTA (@pe_tup _ _ _ _ _ (@pa_c _ _ _ _ _ (@pe_ix _ _ _ _ _ _ _ ix_list (@pe_lst _ _ _ _ (@pa_c _ _ _ _ _ pe_str (pa_c pe_str (pa_c pe_str pa_nil)) (by rfl))) (@pe_call _ _ _ _ _ _ _ _ _ _ _ _ _ _ _ _ TK.ok (hr.mono (by omega)) (by show _=_;kernel_rfl) TK.at' TK.kp TK.bd .nil pass0 (pa_c (va nm_L_any_term 0) (pa_c pe_int pa_nil)) (by decide) (by rfl) (by rfl)) (fun _ _=>rfl)) pa_nil (by rfl))) (@pe_call _ _ _ _ _ _ _ _ _ _ _ _ _ _ _ _ ANI.ok (hr.mono (by omega)) (by show _=_;kernel_rfl) ANI.at' ANI.kp ANI.bd .nil pass0 (@pa_c _ _ _ _ _ (va nm_L_any_term 0) (@pa_c _ _ _ _ _ (va nm_L_any_term 1) (@pa_c _ _ _ _ _ pe_int (@pa_c _ _ _ _ _ (va nm_L_any_term 2) (pa_c (va nm_L_any_term 3) pa_nil) (by rfl)) (by rfl)) (by rfl)) (by rfl)) (by decide) (by rfl) (by rfl))))) pss_nil) (@pss_cons _ _ _ _ _ (@ps_if _ _ _ _ _ _ _ _ (pt_cmpR op_eq (va nm_L_any_term 4) pe_int (nomark _)) (@pss_one _ _ _ (@ps_ret _ _ _ _ (@pe_op _ _ _ _ _ _ _ _ op_catTA (@pe_tup _ _ _ _ _ (@pa_c _ _ _ _ _ pe_str (pa_c (va nm_L_any_term 5) pa_nil) (by rfl))) (@pe_call _ _ _ _ _ _ _ _ _ _ _ _ _ _ _ _ ANI.ok (hr.mono (by omega)) (by show _=_;kernel_rfl) ANI.at' ANI.kp ANI.bd .nil pass0 (@pa_c _ _ _ _ _ (va nm_L_any_term 0) (@pa_c _ _ _ _ _ (va nm_L_any_term 1) (@pa_c _ _ _ _ _ pe_int (@pa_c _ _ _ _ _ (va nm_L_any_term 2) (pa_c (va nm_L_any_term 3) pa_nil) (by rfl)) (by rfl)) (by rfl)) (by rfl)) (by decide) (by rfl) (by rfl))))) pss_nil) (@pss_cons _ _ _ _ _ (@ps_if _ _ _ _ _ _ _ _ (pt_cmpR op_eq (va nm_L_any_term 4) pe_int (nomark _)) (@pss_one _ _ _ (@ps_ret _ _ _ _ (@pe_op _ _ _ _ _ _ _ _ op_catTA (pe_tup (pa_c pe_str pa_nil)) (@pe_call _ _ _ _ _ _ _ _ _ _ _ _ _ _ _ _ ANI.ok (hr.mono (by omega)) (by show _=_;kernel_rfl) ANI.at' ANI.kp ANI.bd .nil pass0 (@pa_c _ _ _ _ _ (va nm_L_any_term 0) (@pa_c _ _ _ _ _ (va nm_L_any_term 1) (@pa_c _ _ _ _ _ pe_int (@pa_c _ _ _ _ _ (va nm_L_any_term 2) (pa_c (va nm_L_any_term 3) pa_nil) (by rfl)) (by rfl)) (by rfl)) (by rfl)) (by decide) (by rfl) (by rfl))))) pss_nil) (@pss_cons _ _ _ _ _ (@ps_if _ _ _ _ _ _ _ _ (pt_cmpR op_eq (va nm_L_any_term 4) pe_int (nomark _)) (@pss_cons _ _ _ _ _ (@sa _ _ _ _ _ _ sc_L_any_term.nd lm_L_any_term 7 (@pe_call _ _ _ _ _ _ _ _ _ _ _ _ _ _ _ _ ANI.ok (hr.mono (by omega)) (by show _=_;kernel_rfl) ANI.at' ANI.kp ANI.bd .nil pass0 (@pa_c _ _ _ _ _ (va nm_L_any_term 0) (@pa_c _ _ _ _ _ (va nm_L_any_term 1) (@pa_c _ _ _ _ _ pe_int (@pa_c _ _ _ _ _ (va nm_L_any_term 2) (pa_c (va nm_L_any_term 3) pa_nil) (by rfl)) (by rfl)) (by rfl)) (by rfl)) (by decide) (by rfl) (by rfl)) (by rfl) (by kernel_rfl) (by exact .inl rfl)) (@pss_one _ _ _ (@ps_ret _ _ _ _ (@pe_tup _ _ _ _ _ (@pa_c _ _ _ _ _ pe_str (@pa_c _ _ _ _ _ (pe_ix ix_tup (va nm_L_any_term 7) pe_int (fun _ _=>rfl)) (@pa_c _ _ _ _ _ (va nm_L_any_term 5) (@pa_c _ _ _ _ _ (va nm_L_any_term 6) (@pa_c _ _ _ _ _ (pe_ix ix_tup (va nm_L_any_term 7) pe_int (fun _ _=>rfl)) (@pa_c _ _ _ _ _ (pe_ix ix_tup (va nm_L_any_term 7) pe_int (fun _ _=>rfl)) pa_nil (by rfl)) (by rfl)) (by rfl)) (by rfl)) (by rfl)) (by rfl)))))) pss_nil) (@pss_cons _ _ _ _ _ (@ps_if _ _ _ _ _ _ _ _ (pt_cmpR op_eq (va nm_L_any_term 4) pe_int (nomark _)) (@pss_one _ _ _ (@ps_ret _ _ _ _ (@pe_op _ _ _ _ _ _ _ _ op_catTA (pe_tup (pa_c pe_str pa_nil)) (@pe_call _ _ _ _ _ _ _ _ _ _ _ _ _ _ _ _ ANI.ok (hr.mono (by omega)) (by show _=_;kernel_rfl) ANI.at' ANI.kp ANI.bd .nil pass0 (@pa_c _ _ _ _ _ (va nm_L_any_term 0) (@pa_c _ _ _ _ _ (va nm_L_any_term 1) (@pa_c _ _ _ _ _ pe_int (@pa_c _ _ _ _ _ (va nm_L_any_term 2) (pa_c (va nm_L_any_term 3) pa_nil) (by rfl)) (by rfl)) (by rfl)) (by rfl)) (by decide) (by rfl) (by rfl))))) pss_nil) (@pss_one _ _ _ (@ps_ret _ _ _ _ (@pe_op _ _ _ _ _ _ _ _ op_catTA (@pe_tup _ _ _ _ _ (@pa_c _ _ _ _ _ pe_str (@pa_c _ _ _ _ _ (@pe_ix _ _ _ _ _ _ _ ix_str pe_str (@pe_call _ _ _ _ _ _ _ _ _ _ _ _ _ _ _ _ TK.ok (hr.mono (by omega)) (by show _=_;kernel_rfl) TK.at' TK.kp TK.bd .nil pass0 (pa_c (va nm_L_any_term 0) (pa_c pe_int pa_nil)) (by decide) (by rfl) (by rfl)) (fun _ _=>rfl)) pa_nil (by rfl)) (by rfl))) (@pe_call _ _ _ _ _ _ _ _ _ _ _ _ _ _ _ _ ANI.ok (hr.mono (by omega)) (by show _=_;kernel_rfl) ANI.at' ANI.kp ANI.bd .nil pass0 (@pa_c _ _ _ _ _ (va nm_L_any_term 0) (@pa_c _ _ _ _ _ (va nm_L_any_term 1) (@pa_c _ _ _ _ _ pe_int (@pa_c _ _ _ _ _ (va nm_L_any_term 2) (pa_c (va nm_L_any_term 3) pa_nil) (by rfl)) (by rfl)) (by rfl)) (by rfl)) (by decide) (by rfl) (by rfl)))))))))))))))),?_⟩
 try dsimp only[cx_K]
 try dsimp only[cx_K]
 have hf:=sc.ff
 refine seq_cut8 ?_
 intro N1 N2 N3 N4 N5 N6 N7 N8 c1 c2 c3 c4 c5 c6 c7 c8
 fail "R"
 intro q H1 q0 q12 e1
 have g1:=(Go.refl sc).ext e1
 have sc1:=g1.sc
 refine c1 _ _ ?_
 refine if_at (room<2\/down<1\/q=0) (fun C hA hB=>?_) (fun p1=>?_) (fun p1=>?_)
 ·fail "R"
  refine ite2 (fun c=>hA (.inl ?_)) (fun c=>?_)
  ·have:=of_decide_eq_true c
   omega
  have n1:¬room<2:=fun z=>c (decide_eq_true (by omega))
  fail "R"
  refine ite2 (fun c=>hA (.inr (.inl ?_))) (fun c=>?_)
  ·have:=of_decide_eq_true c
   omega
  have n2:¬down<1:=fun z=>c (decide_eq_true (by omega))
  fail "R"
  generalize hb:decide (V.int q=V.int 0)=b
  cases b with
  |true =>
   have e3:=of_decide_eq_true hb
   injection e3 with e3
   exact hA (.inr (.inr e3))
  |false =>
   refine hB fun z=>?_
   rcases z with z|z|z
   ·exact n1 z
   ·exact n2 z
   ·exact absurd (by rw[z]) (of_decide_eq_false hb)
 ·fail "R"
  intro v H2 h g2 r2 o2 w2
  exact k v H2 _ (g1.trans g2) r2 ⟨o2,.mk (Nat.zero_le _) w2 (fun _ hk=>nomatch hk),Nat.zero_le _,r1⟩
 ·have rm2:2<=room:=by omega
  have dn1:1<=down:=by omega
  have qn:q≠0:=fun z=>p1 (.inr (.inr z))
  fail "R"
  refine comp_range (n:=2) (fun i7 σ us5 H5=>(∃v,σ=[v,some (.ref fe),some (.ref d)])/\WdI fe d wl xs H1 i7 us5 H5) ⟨⟨none,rfl⟩,⟨[],Go.refl sc1,rfl,rfl,fun y h=>nomatch h⟩⟩ (fun i7 σ us5 H5 _ h=>?_) (small (by omega)) ?_ ?_
  ·obtain⟨_,⟨ys,_,rfl,e,_⟩⟩:=h
   rw[List.length_map,e];exact Nat.le_refl _
  ·rintro i7 σ us5 H5 hi7 ⟨⟨v,rfl⟩,⟨ys,g5,rfl,l5,o5⟩⟩
   clear c1 c2 c3 c4 c5 c6 c7 c8
   obtain⟨m5,h5d,_⟩:=g5.sc.sd
   have dw:=get_words h5d
   have h5w:=g5.sc.lw
   have sq5:SqL K H5 wl (xs.map V.str)\/SqT K H5 wl (xs.map V.str):=.inl (SqL.of h5w)
   have hf5:=g5.sc.ff
   have x1:=sc.x1
   have x2:=sc.x2
   have lm:(xs.map V.str).length=xs.length:=List.length_map _
   have ll:(((xs.map V.str).length:Nat):Int)<1073741824:=by omega
   fail "R"
   intro r5 H6 r50 r51 e6
   obtain⟨y,hy,oy⟩:=word_at r50 r51 sc.xo
   have g6:=g5.ext e6
   have sq6:SqL K H6 wl (xs.map V.str):=SqL.of g6.sc.lw
   fail "R"
   refine⟨ys++[y],g6,by rw[List.map_append];rfl,by rw[List.length_append,l5];rfl,fun u hu=>?_⟩
   rcases List.mem_append.mp hu with hu|hu
   ·exact o5 u hu
   ·rw[List.mem_singleton.mp hu];exact oy
  rintro σ us5 H5 ⟨_,⟨ys,g5,rfl,l5,o5⟩⟩ lw hlw
  obtain⟨x,y,rfl⟩:=ex2 l5
  have ox:=o5 x (by simp)
  have oy:=o5 y (by simp)
  have s6:=same_new hlw (.lst ([x,y].map V.str))
  have h6:SqL K (upd H5 lw (.lst ([x,y].map V.str))) lw [.str x,.str y]:=SqL.of upd_same
  have g6:=(g1.trans g5).same s6
  generalize upd H5 lw (.lst ([x,y].map V.str))=H6 at s6 h6 g6⊢
  clear g5 s6 hlw p1 sc1 e1 g1
  have hf6:=g6.sc.ff
  have sc6:=g6.sc
  have fin:∀{v:V}{Hf:Hp}(h:Hd) (ts:List Tm),Rp K Hf (encH h (ts.map enc)) v->arOk h ts.length=true->hdOk h->nwH h->ts.length<=5->(∀t∈ts,TmOk t/\Nw t/\t.depth<=down-1)->Tm.sizes ts+1<=room->Go fe d wl xs H Hf->Q v Hf:=fun{v Hf} h ts rp ar ho hw l5 g z go=>by
   refine k v Hf (.mk h ts) go (by rw[enc_mk];exact rp) ⟨.mk ar ho fun t ht=>(g t ht).1,.mk l5 hw fun t ht=>(g t ht).2.1,?_,by rw[Tm.size_mk];exact z⟩
   have:=Tm.depth_le (h:=h) fun t ht=>(g t ht).2.2
   omega
  have dnn:down<=n:=by omega
  fail "R"
  refine ite2 (fun c=>?_) (fun c=>?_)
  ·clear c4 c5 c6 c7 c8
   fail "R"
   intro r7 H7 r70 r71 e7
   obtain⟨m7,rfl⟩:=Int.eq_ofNat_of_zero_le r70
   have g7:=g6.ext e7
   have sc7:=g7.sc
   have m75:m7<=5:=by omega
   fail "R"
   intro p8 us8 H8 ts g8 sq8 r8 l8 o8 z8
   have rt8:Rp K H8 (.t (ts.map enc)) (.ref p8):=.t sq8 r8
   fail "R"
   intro p9 hp9
   exact fin .row ts (Rp.new (K:=K) hp9 (.cons .s (.one rt8))) rfl True.intro True.intro (by omega) o8 z8 ((g7.trans g8).same (same_new hp9 _))
  have q1:q≠1:=fun z=>c (decide_eq_true (by rw[z]))
  clear c
  fail "R"
  refine ite2 (fun c=>?_) (fun c=>?_)
  ·have c4':q<4:=of_decide_eq_true c
   clear c4 c5 c6 c7 c8
   fail "R"
   intro l7 hl7
   have s7:=same_new hl7 (.lst [.str "tag",.str "call"])
   have h7:SqL K (upd H6 l7 (.lst [.str "tag",.str "call"])) l7 [.str "tag",.str "call"]:=SqL.of upd_same
   have g7:=g6.same s7
   generalize upd H6 l7 (.lst [.str "tag",.str "call"])=H7 at s7 h7 g7⊢
   have hf7:=g7.sc.ff
   have key:∀hd:Hd,hd=.tag x\/hd=.call x->(∀ks:List T,∃z:Str,encH hd ks=.t [.s z,.s x,.t ks])->True:=fun _ _ _=>True.intro
   have hq:q=2\/q=3:=by omega
   rcases hq with rfl|rfl
   ·have a0:atI [V.str "tag",.str "call"] (2-2)=some (.str "tag"):=at0 _ _
    fail "R"
    intro r8 H8 r80 r81 e8
    obtain⟨m8,rfl⟩:=Int.eq_ofNat_of_zero_le r80
    have g8:=g7.ext e8
    have sc8:=g8.sc
    have m85:m8<=5:=by omega
    fail "R"
    intro p9 us9 H9 ts g9 sq9 r9 l9 o9 z9
    have rt9:Rp K H9 (.t (ts.map enc)) (.ref p9):=.t sq9 r9
    fail "R"
    intro p10 hp10
    exact fin (.tag x) ts (Rp.new (K:=K) hp10 (.cons .s (.cons .s (.one rt9)))) rfl ox True.intro (by omega) o9 z9 ((g8.trans g9).same (same_new hp10 _))
   ·have a0:atI [V.str "tag",.str "call"] (3-2)=some (.str "call"):=atI_nat (j:=1) rfl
    fail "R"
    intro r8 H8 r80 r81 e8
    obtain⟨m8,rfl⟩:=Int.eq_ofNat_of_zero_le r80
    have g8:=g7.ext e8
    have sc8:=g8.sc
    have m85:m8<=5:=by omega
    fail "R"
    intro p9 us9 H9 ts g9 sq9 r9 l9 o9 z9
    have rt9:Rp K H9 (.t (ts.map enc)) (.ref p9):=.t sq9 r9
    fail "R"
    intro p10 hp10
    exact fin (.call x) ts (Rp.new (K:=K) hp10 (.cons .s (.cons .s (.one rt9)))) rfl ox True.intro (by omega) o9 z9 ((g8.trans g9).same (same_new hp10 _))
  have q4:¬q<4:=fun z=>c (decide_eq_true z)
  clear c
  fail "R"
  refine ite2 (fun c=>?_) (fun c=>?_)
  ·clear c6 c7 c8
   fail "R"
   intro r7 H7 r70 r71 e7
   obtain⟨m7,rfl⟩:=Int.eq_ofNat_of_zero_le r70
   have g7:=g6.ext e7
   have sc7:=g7.sc
   have m75:1+m7<=5:=by omega
   have em:(1:Int)+(m7:Int)=((1+m7:Nat):Int):=by omega
   fail "R"
   intro p8 us8 H8 ts g8 sq8 r8 l8 o8 z8
   obtain⟨t0,tr,rfl⟩:∃a b,ts=a::b:=by
    cases ts with
    |nil=>have:(0:Nat)=min (1+m7) (room-1):=l8;omega
    |cons a b=>exact⟨a,b,rfl⟩
   obtain⟨u0,ur,rfl,ru0,rur⟩:=L2.Rps.inv (show Rps K H8 (enc t0::tr.map enc) us8 from r8)
   have a0:atI (u0::ur) 0=some u0:=at0 _ _
   have ec:cutV (u0::ur) (some 1) none=ur:=cut_tl _ _
   have cn:=cut_not (u0::ur) 1 (Nat.le_refl _) (by simp)
   have g8':=g7.trans g8
   have sc8:=g8.sc
   have lt5:tr.length<=5:=by
    have h1:=Nat.min_le_left (1+m7) (room-1)
    rw[←l8,List.length_cons]at h1
    exact Nat.le_trans (Nat.le_of_succ_le h1) m75
   fail "R"
   rw[ec]
   intro p9 hp9
   have s9:=same_new hp9 (.tup ur)
   have h9:SqT K (upd H8 p9 (.tup ur)) p9 ur:=SqT.of upd_same
   have r9:=rur.same s9
   have u9:=ru0.same s9
   have g9:=g8'.same s9
   generalize upd H8 p9 (.tup ur)=H9 at s9 h9 r9 u9 g9⊢
   have sc9:=g9.sc
   fail "R"
   intro v10 H10 arms g10 r10 l10 o10
   have u10:=u9.kt g10.kt
   fail "R"
   intro p11 hp11
   have s11:=same_new hp11 (.tup [.str "match",u0,v10])
   refine fin (.mat arms) (t0::tr) (Rp.new (K:=K) hp11 (.cons .s (.cons u10 (.one r10)))) ?_ (fun a ha=>(o10 a ha).1) (fun a ha=>(o10 a ha).2) ?_ o8 z8 ((g9.trans g10).same s11)
   ·show((t0::tr).length == arms.length+1)=true
    rw[l10,List.length_cons]
    exact beq_self_eq_true _
   ·rw[l8]
    exact Nat.le_trans (Nat.min_le_left _ _) m75
  have q5:q≠4:=fun z=>c (decide_eq_true (by rw[z]))
  clear c
  refine c6 _ _ ?_
  clear c6
  refine if_at (q=5\/room<4) (fun C hA hB=>?_) (fun p1=>?_) (fun p1=>?_)
  ·fail "R"
   refine ite2 (fun c=>hA (.inl (by injection(of_decide_eq_true c)))) (fun c=>?_)
   fail "R"
   generalize hb:decide ((room:Int)<4)=b
   cases b with
   |true=>exact hA (.inr (by have:=of_decide_eq_true hb;omega))
   |false =>
    refine hB fun z=>?_
    rcases z with z|z
    ·exact c (decide_eq_true (by rw[z]))
    ·exact absurd (by omega) (of_decide_eq_false hb)
  ·clear c7 c8
   fail "R"
   intro l7 hl7
   have s7:=same_new hl7 (.lst [.str "first",.str "others",.str "long"])
   have h7:upd H6 l7 (.lst [.str "first",.str "others",.str "long"]) l7=some (.lst [.str "first",.str "others",.str "long"]):=upd_same
   have g7:=g6.same s7
   have nlf:=(g6.new_ne hl7).2
   generalize upd H6 l7 (.lst [.str "first",.str "others",.str "long"])=H7 at s7 h7 g7⊢
   have hf7:=g7.sc.ff
   fail "R"
   intro r8 H8 r80 r81 e8
   have h8:SqL K H8 l7 [.str "first",.str "others",.str "long"]:=SqL.of (e8.1 _ _ nlf h7)
   have g8:=g7.ext e8
   obtain⟨hd,z,hz,eh,har,ho,hw⟩:∃(hd:Hd) (z:Str),atI [V.str "first",.str "others",.str "long"] r8=some (.str z)/\(∀ks:List T,encH hd ks=.t (.s z::ks))/\arOk hd 1=true/\hdOk hd/\nwH hd:=by
    have:r8=0\/r8=1\/r8=2:=by omega
    rcases this with rfl|rfl|rfl
    ·exact⟨.first,"first",at0 _ _,fun _=>rfl,rfl,True.intro,True.intro⟩
    ·exact⟨.others,"others",atI_nat (j:=1) rfl,fun _=>rfl,rfl,True.intro,True.intro⟩
    ·exact⟨.long,"long",atI_nat (j:=2) rfl,fun _=>rfl,rfl,True.intro,True.intro⟩
   fail "R"
   intro p9 hp9
   have s9:=same_new hp9 (.tup [.str z])
   have h9:SqT K (upd H8 p9 (.tup [.str z])) p9 [.str z]:=SqT.of upd_same
   have g9:=g8.same s9
   generalize upd H8 p9 (.tup [.str z])=H9 at s9 h9 g9⊢
   have sc9:=g9.sc
   fail "R"
   intro p10 us10 H10 ts g10 sq10 r10 l10 o10 z10
   have l10':ts.length=min 1 (room-1):=l10
   have l11:ts.length=1:=by omega
   have k10:=g10.kt
   have h10:=h9.kt k10
   have lus:=r10.length
   rw[List.length_map]at lus
   have lc:([V.str z]:List V).length+us10.length<=sizeLine:=small (by show 1+_<=_;omega)
   fail "R"
   intro p11 H11 s11 sq11
   refine fin hd ts ?_ (by rw[l11];exact har) ho hw (by omega) o10 z10 ((g9.trans g10).same s11)
   rw[eh]
   exact .t sq11 (.cons .s (r10.same s11))
  have rm4:4<=room:=by omega
  have q6:q≠5:=fun z=>p1 (.inl z)
  clear p1
  have cat:∀{Hf H7:Hp}{a p:Addr}{ws us:List V}{zs:List T}{ts:List Tm}(h:Hd) (m:Nat),m<=3->Go fe d wl xs H Hf->SqT K Hf a ws->Rps K Hf zs ws->ws.length<=5->Go fe d wl xs Hf H7->SqT K H7 p us->Rps K H7 (ts.map enc) us->ts.length=min m (room-1)->(∀t∈ts,TmOk t/\Nw t/\t.depth<=down-1)->Tm.sizes ts+1<=room->(∀ks:List T,encH h ks=.t (zs++ks))->arOk h m=true->hdOk h->nwH h->rCatA K (.ref a) (.ref p) H7 Q:=by
   intro Hf H7 a p ws us zs ts h m m3 gf sqa rz lw g7 sqp rt lt ot zt eh ar ho hw
   have lus:=rt.length
   rw[List.length_map]at lus
   refine⟨a,p,ws,us,rfl,rfl,sqa.kt g7.kt,sqp,small (by omega),fun p8 H8 s8 sq8=>?_⟩
   have e:ts.length=m:=by omega
   refine fin h ts ?_ (by rw[e];exact ar) ho hw (by omega) ot zt ((gf.trans g7).same s8)
   rw[eh]
   exact .t sq8 (((rz.kt g7.kt).same s8).append (rt.same s8))
  refine c7 _ _ ?_
  clear c7
  fail "R"
  refine ite2 (fun c=>?_) (fun c=>?_)
  ·fail "R"
   intro p7 hp7
   have s7:=same_new hp7 (.tup [.str "let",.str x])
   have h7:SqT K (upd H6 p7 (.tup [.str "let",.str x])) p7 [.str "let",.str x]:=SqT.of upd_same
   have g7:=g6.same s7
   generalize upd H6 p7 (.tup [.str "let",.str x])=H7 at s7 h7 g7⊢
   have sc7:=g7.sc
   have m2:(2:Nat)<=5:=by decide
   fail "R"
   intro p8 us8 H8 ts g8 sq8 r8 l8 o8 z8
   exact cat (.lt x) 2 (by decide) g7 h7 (zs:=[.s "let",.s x]) (.cons .s (.one .s)) (by show 2<=5;decide) g8 sq8 r8 l8 o8 z8 (fun _=>rfl) rfl ox True.intro
  refine c8 _ _ ?_
  clear c8
  refine seq_cut3 ?_
  intro M1 M2 M3 d1 d2 d3
  fail "R"
  refine ite2 (fun c=>?_) (fun c=>?_)
  ·fail "R"
   intro p7 hp7
   have s7:=same_new hp7 (.tup [.str "if"])
   have h7:SqT K (upd H6 p7 (.tup [.str "if"])) p7 [.str "if"]:=SqT.of upd_same
   have g7:=g6.same s7
   generalize upd H6 p7 (.tup [.str "if"])=H7 at s7 h7 g7⊢
   have sc7:=g7.sc
   have m2:(3:Nat)<=5:=by decide
   fail "R"
   intro p8 us8 H8 ts g8 sq8 r8 l8 o8 z8
   exact cat (.ife) 3 (by decide) g7 h7 (zs:=[.s "if"]) (.one .s) (by show 1<=5;decide) g8 sq8 r8 l8 o8 z8 (fun _=>rfl) rfl True.intro True.intro
  refine d1 _ _ ?_
  clear d1
  fail "R"
  refine ite2 (fun c=>?_) (fun c=>?_)
  ·have m3:(3:Nat)<=5:=by decide
   clear d2 d3
   fail "R"
   intro p8 us8 H8 ts g8 sq8 r8 l8 o8 z8
   have l8':ts.length=min 3 (room-1):=l8
   obtain⟨t1,t2,t3,rfl⟩:=ex3 (show ts.length=3 by omega)
   obtain⟨u1,w1,rfl,ru1,r9⟩:=L2.Rps.inv (show Rps K H8 (enc t1::[t2,t3].map enc) us8 from r8)
   obtain⟨u2,w2,rfl,ru2,r9⟩:=L2.Rps.inv (show Rps K H8 (enc t2::[t3].map enc) w1 from r9)
   obtain⟨u3,w3,rfl,ru3,r9⟩:=L2.Rps.inv (show Rps K H8 (enc t3::[].map enc) w2 from r9)
   obtain rfl:=L2.Rps.inv0 r9
   have a0:atI [u1,u2,u3] 0=some u1:=at0 _ _
   have a1:atI [u1,u2,u3] 1=some u2:=atI_nat (j:=1) rfl
   have a2:atI [u1,u2,u3] 2=some u3:=atI_nat (j:=2) rfl
   fail "R"
   intro p9 hp9
   exact fin (.fold x y) [t1,t2,t3] (Rp.new (K:=K) hp9 (.cons .s (.cons ru1 (.cons .s (.cons .s (.cons ru2 (.one ru3))))))) rfl ⟨ox,oy⟩ True.intro (by show 3<=5;decide) o8 z8 ((g6.trans g8).same (same_new hp9 _))
  refine d2 _ _ ?_
  clear d2
  fail "R"
  refine ite2 (fun c=>?_) (fun c=>?_)
  ·fail "R"
   intro p7 hp7
   have s7:=same_new hp7 (.tup [.str "more"])
   have h7:SqT K (upd H6 p7 (.tup [.str "more"])) p7 [.str "more"]:=SqT.of upd_same
   have g7:=g6.same s7
   generalize upd H6 p7 (.tup [.str "more"])=H7 at s7 h7 g7⊢
   have sc7:=g7.sc
   have m2:(2:Nat)<=5:=by decide
   fail "R"
   intro p8 us8 H8 ts g8 sq8 r8 l8 o8 z8
   exact cat (.more) 2 (by decide) g7 h7 (zs:=[.s "more"]) (.one .s) (by show 1<=5;decide) g8 sq8 r8 l8 o8 z8 (fun _=>rfl) rfl True.intro True.intro
  refine d3 _ _ ?_
  clear d3
  fail "R"
  intro r7 H7 r70 r71 e7
  obtain⟨c,hc1,hc2⟩:=atS (z:="+-*:<=") r70 (by rw[show((("+-*:<=":Str).length:Nat):Int)=6 by decide +kernel];exact r71)
  have oc:(⟨#[c]⟩:Str)∈opsS:=ops_of c hc2
  have g7:=g6.ext e7
  have lz:("+-*:<=":Str).length<=sizeLine:=small (by decide +kernel)
  fail "R"
  intro p8 hp8
  have s8:=same_new hp8 (.tup [.str "op",.str ⟨#[c]⟩])
  have h8:SqT K (upd H7 p8 (.tup [.str "op",.str ⟨#[c]⟩])) p8 [.str "op",.str ⟨#[c]⟩]:=SqT.of upd_same
  have g8:=g7.same s8
  generalize upd H7 p8 (.tup [.str "op",.str ⟨#[c]⟩])=H8 at s8 h8 g8⊢
  have sc8:=g8.sc
  have m2:(2:Nat)<=5:=by decide
  fail "R"
  intro p9 us9 H9 ts g9 sq9 r9 l9 o9 z9
  exact cat (.op ⟨#[c]⟩) 2 (by decide) g8 h8 (zs:=[.s "op",.s ⟨#[c]⟩]) (.cons .s (.one .s)) (by show 2<=5;decide) g9 sq9 r9 l9 o9 z9 (fun _=>rfl) rfl oc True.intro
end
end G08
namespace L2
open PySem
theorem pe_disp2{X:Cx}{pos:Pos}{k1 k2 v1 v2:Expr}{t1 t2 s1 s2:TE}(a1:PE X k1 t1)(b1:PE X v1 s1)(a2:PE X k2 t2)(b2:PE X v2 s2) :
  PE X (.Dict [some k1,some k2] [v1,v2] pos) (tDisp [(t1,s1),(t2,s2)]) :=
 pe_disp (pps_cons a1 b1 (pps_cons a2 b2 pps_nil)) rfl rfl (List.cons_ne_nil _ _) (by show 2<=15;decide)
end L2
namespace G08
open PySem L2
theorem merge_sc(wl:Addr)(m:Int):mergeK [] (scL wl m)=scL wl m:=by unfold scL;kernel_rfl
theorem sc_new{H:Hp}{f d wl:Addr}{xs:List Str}{m:Int}(hd:H d=none)(hw:H wl=some (.lst (xs.map V.str)))(nwf:wl≠f)(hf:FeedAt H f)(x1:1<=xs.length)(x2:xs.length<=100)(xo:∀x∈xs,nmOk x)(m0:0<=m)(m1:m<=100):Sc (upd (upd H d (.dK [])) d (.dK (scL wl m))) f d wl xs:=by
 obtain⟨p,q,e⟩:=hf
 have n1:wl≠d:=fun z=>by(rw[z,hd]at hw;cases hw)
 have n2:f≠d:=fun z=>by(rw[z,hd]at e;cases e)
 exact⟨⟨m,upd_same,m0,m1⟩,by rw[upd_ne n1,upd_ne n1];exact hw,x1,x2,xo,⟨p,q,by rw[upd_ne n2,upd_ne n2];exact e⟩,Ne.symm n2,nwf⟩
def spGreater(K:PySem.W.Frag):Sp:=fun vs H Q _=>∃(a:Addr) (ns:List Int),vs=[.ref a]/\SqL K H a (ns.map V.int)/\ns.length<=63/\∀H',Q (.bl true) H'
structure WsI(f:Addr) (H:Hp) (i:Nat) (us:List V) (H':Hp):Prop where
 x:∃ys:List Str,Ext f H H'/\us=ys.map V.str/\ys.length=i/\∀y∈ys,nmOk y
structure GrI(K:PySem.W.Frag) (f d wl:Addr) (xs:List Str) (H:Hp) (i:Nat) (v:V) (H':Hp):Prop where
 x:∃tm:Tm,Go f d wl xs H H'/\Rp K H' (enc tm) v/\Lt tm (4+i) (30+3*i)
section
variable {P:Program}{w:World}{K:PySem.W.Frag}{mg:Str->Option Value}{base:Heap}{gF gT gW gA gL gR gX gE:Addr}{ffd tfd wfd afd lfd rfd xfd efd:FuncData}
theorem nm_L_greater:Nm ["_law_script","_law_feed_here","_law_words","_law_scene","_law_term","_law_k","_law_leaf","_law_form"] (defScope s_L_greater):=by decide +kernel
theorem lm_L_greater:Lm ["_law_script","_law_feed_here","_law_words","_law_scene","_law_term","_law_k","_law_leaf","_law_form"] (defScope s_L_greater):=by decide +kernel
theorem sc_L_greater:FnScope ["_law_script","_law_feed_here","_law_words","_law_scene","_law_term","_law_k","_law_leaf","_law_form"] ["_law_script"] (defScope s_L_greater):=⟨rfl,rfl,rfl,by decide +kernel,rfl,by decide +kernel,by decide +kernel⟩
theorem ok_greater{f:Addr}{fd:FuncData}{jr:Nat}(hjr:jr<=66)(F:Fun K "_law_greater" "_law_greater" s_L_greater f fd)(FD:Has P w K mg base "_law_feed" 1 ["_law_script","_law_k"] (spFeed K) gF ffd)(TK:Has P w K mg base "_law_take" 1 ["_law_feed_here","_law_many"] spTake gT tfd)(LWD:Has P w K mg base "_law_word" 2 ["_law_feed_here"] spWord gW wfd)
  (ATE:Has P w K mg base "_law_any_term" 24 ["_law_feed_here","_law_scene","_law_room","_law_down"] (spAte K 10) gA afd) (ALF:Has P w K mg base "_law_any_leaf" 3 ["_law_feed_here","_law_scene"] (spLeaf K) gE efd) (LTT:Has P w K mg base "_law_term_text" 33 ["_law_term"] (spLtt K 16) gL lfd) (RDT:Has P w K mg base "read_term" jr ["text"] (spRead K) gR rfd) (LA:Has P w K mg base "_law_alike" 66 ["_law_found","_law_due"] (spAlike K 65) gX xfd) (z_range:mg "range"=none) :
  FnOk P w K mg base CX0 67 f fd ["_law_script"] (spGreater K):=by
 refine F.ok sc_L_greater (fun vs H Q E h=>?_) (fun cdv A outer s H vs Q E hr h=>?_)
 ·obtain⟨a,ns,rfl,_⟩:=h
  rfl
 obtain⟨a,ns,rfl,hS,hn,k⟩:=h
 refine⟨_,(@pss_cons _ _ _ _ _ (@sa _ _ _ _ _ _ sc_L_greater.nd lm_L_greater 1 (@pe_call _ _ _ _ _ _ _ _ _ _ _ _ _ _ _ _ FD.ok (hr.mono (by omega)) (by show _=_;kernel_rfl) FD.at' FD.kp FD.bd .nil pass0 (pa_c (va nm_L_greater 0) (pa_c pe_int pa_nil)) (by decide) (by rfl) (by rfl)) (by rfl) (by kernel_rfl) (by exact .inl rfl)) (@pss_cons _ _ _ _ _ (@ps_compC _ _ _ _ _ _ _ _ _ _ _ _ _ _ _ (defScope s_L_greater) ["_law_script","_law_feed_here","_law_words","_law_scene","_law_term","_law_k","_law_leaf","_law_form"] ["_law_j"] [1] rfl rfl rfl (by decide +kernel) (@pi_range1 _ _ _ _ _ _ (by show _=_;kernel_rfl) z_range (@pa_c _ _ _ _ _ (@pe_op _ _ _ _ _ _ _ _ op_add pe_int (@pe_call _ _ _ _ _ _ _ _ _ _ _ _ _ _ _ _ TK.ok (hr.mono (by omega)) (by show _=_;kernel_rfl) TK.at' TK.kp TK.bd .nil pass0 (pa_c (va nm_L_greater 1) (pa_c pe_int pa_nil)) (by decide) (by rfl) (by rfl))) pa_nil (by rfl)) (by rfl)) (fun _ _ _ _=>(pg_name (i:=0) (show(["_law_j","_law_feed_here"]:List Str).Nodup by decide +kernel) rfl (Or.inl (by kernel_rfl)) (by first|exact .inl rfl|exact .inr (by kernel_rfl)))) (fun _ _ _ _=>pifs_nil) (fun _ _ _ _=>(@pe_call _ _ _ _ _ _ _ _ _ _ _ _ _ _ _ _ LWD.ok (hr.mono (by omega)) (by show _=_;kernel_rfl) LWD.at' LWD.kp LWD.bd .nil pass0 (pa_c (va (show Nm ["_law_j","_law_feed_here"] _ by show _=_;kernel_rfl) 1) pa_nil) (by decide) (by rfl) (by rfl))) (ga sc_L_greater.nd lm_L_greater 2) (by kernel_rfl) (by intro _;rfl)) (@pss_cons _ _ _ _ _ (@sa _ _ _ _ _ _ sc_L_greater.nd lm_L_greater 3 (pe_disp2 pe_str (va nm_L_greater 2) pe_str pe_int) (by rfl) (by kernel_rfl) (by exact .inl rfl)) (@pss_cons _ _ _ _ _ (@sa _ _ _ _ _ _ sc_L_greater.nd lm_L_greater 4 (@pe_call _ _ _ _ _ _ _ _ _ _ _ _ _ _ _ _ ATE.ok (hr.mono (by omega)) (by show _=_;kernel_rfl) ATE.at' ATE.kp ATE.bd .nil pass0 (@pa_c _ _ _ _ _ (va nm_L_greater 1) (@pa_c _ _ _ _ _ (va nm_L_greater 3) (@pa_c _ _ _ _ _ (@pe_op _ _ _ _ _ _ _ _ op_add pe_int (@pe_call _ _ _ _ _ _ _ _ _ _ _ _ _ _ _ _ TK.ok (hr.mono (by omega)) (by show _=_;kernel_rfl) TK.at' TK.kp TK.bd .nil pass0 (pa_c (va nm_L_greater 1) (pa_c pe_int pa_nil)) (by decide) (by rfl) (by rfl))) (pa_c pe_int pa_nil) (by rfl)) (by rfl)) (by rfl)) (by decide) (by rfl) (by rfl)) (by rfl) (by kernel_rfl) (by exact .inl rfl)) (@pss_cons _ _ _ _ _ (@ps_for _ _ _ _ _ _ _ _ PassesOwn.never rfl (@pi_range1 _ _ _ _ _ _ (by show _=_;kernel_rfl) z_range (@pa_c _ _ _ _ _ (@pe_op _ _ _ _ _ _ _ _ op_add pe_int (@pe_call _ _ _ _ _ _ _ _ _ _ _ _ _ _ _ _ TK.ok (hr.mono (by omega)) (by show _=_;kernel_rfl) TK.at' TK.kp TK.bd .nil pass0 (pa_c (va nm_L_greater 1) (pa_c pe_int pa_nil)) (by decide) (by rfl) (by rfl))) pa_nil (by rfl)) (by rfl)) (ga sc_L_greater.nd lm_L_greater 5) (@pss_cons _ _ _ _ _ (@sa _ _ _ _ _ _ sc_L_greater.nd lm_L_greater 6 (@pe_call _ _ _ _ _ _ _ _ _ _ _ _ _ _ _ _ ALF.ok (hr.mono (by omega)) (by show _=_;kernel_rfl) ALF.at' ALF.kp ALF.bd .nil pass0 (@pa_c _ _ _ _ _ (va nm_L_greater 1) (pa_c (va nm_L_greater 3) pa_nil) (by rfl)) (by decide) (by rfl) (by rfl)) (by rfl) (by kernel_rfl) (by exact .inl rfl)) (@pss_cons _ _ _ _ _ (@sa _ _ _ _ _ _ sc_L_greater.nd lm_L_greater 7 (@pe_call _ _ _ _ _ _ _ _ _ _ _ _ _ _ _ _ TK.ok (hr.mono (by omega)) (by show _=_;kernel_rfl) TK.at' TK.kp TK.bd .nil pass0 (pa_c (va nm_L_greater 1) (pa_c pe_int pa_nil)) (by decide) (by rfl) (by rfl)) (by rfl) (by kernel_rfl) (by exact .inl rfl)) (@pss_one _ _ _ (@ps_if _ _ _ _ _ _ _ _ (pt_cmpR op_eq (va nm_L_greater 7) pe_int (nomark _)) (@pss_one _ _ _ (@sa _ _ _ _ _ _ sc_L_greater.nd lm_L_greater 4 (@pe_tup _ _ _ _ _ (@pa_c _ _ _ _ _ pe_str (@pa_c _ _ _ _ _ (@pe_ix _ _ _ _ _ _ _ ix_str pe_str (@pe_call _ _ _ _ _ _ _ _ _ _ _ _ _ _ _ _ TK.ok (hr.mono (by omega)) (by show _=_;kernel_rfl) TK.at' TK.kp TK.bd .nil pass0 (pa_c (va nm_L_greater 1) (pa_c pe_int pa_nil)) (by decide) (by rfl) (by rfl)) (fun _ _=>rfl)) (@pa_c _ _ _ _ _ (va nm_L_greater 6) (pa_c (va nm_L_greater 4) pa_nil) (by rfl)) (by rfl)) (by rfl))) (by rfl) (by kernel_rfl) (by exact .inl rfl))) (@pss_one _ _ _ (@ps_if _ _ _ _ _ _ _ _ (pt_cmpR op_eq (va nm_L_greater 7) pe_int (nomark _)) (@pss_one _ _ _ (@sa _ _ _ _ _ _ sc_L_greater.nd lm_L_greater 4 (@pe_tup _ _ _ _ _ (@pa_c _ _ _ _ _ pe_str (@pa_c _ _ _ _ _ (va nm_L_greater 6) (@pa_c _ _ _ _ _ (va nm_L_greater 6) (pa_c (va nm_L_greater 4) pa_nil) (by rfl)) (by rfl)) (by rfl))) (by rfl) (by kernel_rfl) (by exact .inl rfl))) (@pss_one _ _ _ (@ps_if _ _ _ _ _ _ _ _ (pt_cmpR op_eq (va nm_L_greater 7) pe_int (nomark _)) (@pss_one _ _ _ (@sa _ _ _ _ _ _ sc_L_greater.nd lm_L_greater 4 (@pe_tup _ _ _ _ _ (@pa_c _ _ _ _ _ pe_str (@pa_c _ _ _ _ _ (va nm_L_greater 4) (pa_c (va nm_L_greater 6) pa_nil) (by rfl)) (by rfl))) (by rfl) (by kernel_rfl) (by exact .inl rfl))) (@pss_one _ _ _ (@sa _ _ _ _ _ _ sc_L_greater.nd lm_L_greater 4 (@pe_tup _ _ _ _ _ (@pa_c _ _ _ _ _ pe_str (@pa_c _ _ _ _ _ (@pe_tup _ _ _ _ _ (@pa_c _ _ _ _ _ (va nm_L_greater 6) (@pa_c _ _ _ _ _ (va nm_L_greater 4) (pa_c (va nm_L_greater 6) pa_nil) (by rfl)) (by rfl))) pa_nil (by rfl)) (by rfl))) (by rfl) (by kernel_rfl) (by exact .inl rfl))))))))))) (by intro _;rfl)) (@pss_one _ _ _ (@ps_ret _ _ _ _ (@pe_call _ _ _ _ _ _ _ _ _ _ _ _ _ _ _ _ LA.ok (hr.mono (by omega)) (by show _=_;kernel_rfl) LA.at' LA.kp LA.bd .nil pass0 (@pa_c _ _ _ _ _ (@pe_call _ _ _ _ _ _ _ _ _ _ _ _ _ _ _ _ RDT.ok (hr.mono (by omega)) (by show _=_;kernel_rfl) RDT.at' RDT.kp RDT.bd .nil pass0 (@pa_c _ _ _ _ _ (@pe_call _ _ _ _ _ _ _ _ _ _ _ _ _ _ _ _ LTT.ok (hr.mono (by omega)) (by show _=_;kernel_rfl) LTT.at' LTT.kp LTT.bd .nil pass0 (pa_c (va nm_L_greater 4) pa_nil) (by decide) (by rfl) (by rfl)) pa_nil (by rfl)) (by decide) (by rfl) (by rfl)) (pa_c (va nm_L_greater 4) pa_nil) (by rfl)) (by decide) (by rfl) (by rfl))))))))),?_⟩
 try dsimp only[cx_K]
 try dsimp only[cx_K]
 refine seq_cut5 ?_
 intro N1 N2 N3 N4 N5 c1 c2 c3 c4 c5
 fail "R"
 intro r H1 s1 nr hf1
 fail "R"
 intro m H2 m0 m1 e2
 have hf2:=e2.2
 fail "R"
 refine comp_range (n:=(2+m).toNat) (fun i7 σ us5 H5=>(∃v,σ=[v,some (.ref r)])/\WsI r H2 i7 us5 H5) ⟨⟨none,rfl⟩,⟨[],Ext.refl hf2,rfl,rfl,fun y h=>nomatch h⟩⟩ (fun i7 σ us5 H5 _ h=>?_) (small (by omega)) ?_ ?_
 ·obtain⟨_,⟨ys,_,rfl,e,_⟩⟩:=h
  rw[List.length_map,e];exact Nat.le_refl _
 ·rintro i7 σ us5 H5 hi7 ⟨⟨v,rfl⟩,⟨ys,g5,rfl,l5,o5⟩⟩
  clear c1 c2 c3 c4 c5
  have hf5:=g5.2
  fail "R"
  intro y H6 e6 oy
  fail "R"
  refine⟨ys++[y],g5.trans e6,by rw[List.map_append];rfl,by rw[List.length_append,l5];rfl,fun u hu=>?_⟩
  rcases List.mem_append.mp hu with hu|hu
  ·exact o5 u hu
  ·rw[List.mem_singleton.mp hu];exact oy
 rintro σ us5 H5 ⟨_,⟨xs,g5,rfl,l5,o5⟩⟩ wl hwl
 have nwf:=lst_ne_fd g5.2 hwl
 have s6:=same_new hwl (.lst (xs.map V.str))
 have h6:upd H5 wl (.lst (xs.map V.str)) wl=some (.lst (xs.map V.str)):=upd_same
 have hf6:=(g5.same s6).2
 generalize upd H5 wl (.lst (xs.map V.str))=H6 at s6 h6 hf6⊢
 fail "R"
 intro d hd
 fail "R"
 ·exact(show [(V.str "words",V.ref wl),(V.str "left",V.int 3)]=(scL wl 3).map (fun kv=>(kV kv.1,kv.2))from rfl)
 refine⟨by show 2<=15;decide,?_⟩
 rw[merge_sc]
 have x1:1<=xs.length:=by omega
 have x2:xs.length<=100:=by omega
 have sc:=sc_new (m:=3) hd h6 nwf hf6 x1 x2 o5 (by decide) (by decide)
 generalize upd (upd H6 d (.dK [])) d (.dK (scL wl 3))=H7 at sc⊢
 have hf7:=sc.ff
 fail "R"
 intro m8 H8 m80 m81 e8
 obtain⟨m9,rfl⟩:=Int.eq_ofNat_of_zero_le m80
 have g8:=(Go.refl sc).ext e8
 have sc8:=g8.sc
 have r1:1<=24+m9:=by omega
 have r2:24+m9<=100:=by omega
 fail "R"
 intro v9 H9 tm g9 r9 lt9
 have g79:=g8.trans g9
 have hf9:=g79.sc.ff
 fail "R"
 intro m10 H10 m100 m101 e10
 have g10:=g79.ext e10
 have r10:=r9.kt (e10.kt hf9)
 have lt9':Lt tm 4 (24+m9):=lt9
 have lt10:Lt tm (4+0) (30+3*0):=lt9'.mono (by decide) (by omega)
 fail "R"
 refine for_range (n:=(9+m10).toNat) (fun i σ H11=>∃v11 y1 y2 y3,σ=[some (.ref a),some (.ref r),some (.ref wl),some (.ref d),some v11,y1,y2,y3]/\GrI K r d wl xs H7 i v11 H11) ⟨v9,_,_,_,rfl,⟨tm,g10,r10,lt10⟩⟩ ?_ ?_
 ·rintro i σ H11 hi ⟨v11,y1,y2,y3,rfl,⟨t11,g11,r11,l11⟩⟩
  clear c5
  have sc11:=g11.sc
  fail "R"
  intro u12 H12 h12 g12 ru12 o12 w12
  have g12':=g11.trans g12
  have r12:=r11.kt g12.kt
  have hf12:=g12'.sc.ff
  fail "R"
  intro q13 H13 q130 q131 e13
  have g13:=g12'.ext e13
  have k13:=e13.kt hf12
  have r13:=r12.kt k13
  have ru13:=ru12.kt k13
  have hf13:=g13.sc.ff
  have lfn:Nw (.mk h12 []):=leaf_nw w12
  have lfd:(Tm.mk h12 []).depth<=4+i:=by show 0<=_;omega
  have lfz:(Tm.mk h12 []).size=1:=rfl
  have i1:4+(i+1)=4+i+1:=by omega
  have lz:=l11.sz
  have kl:TmOk (.mk h12 [])/\Nw (.mk h12 [])/\(Tm.mk h12 []).depth<=4+i:=⟨o12,lfn,lfd⟩
  have kt:TmOk t11/\Nw t11/\t11.depth<=4+i:=⟨l11.ok,l11.nw,l11.dp⟩
  have fin:∀(v:V) (H':Hp) (h:Hd) (ts:List Tm),Go r d wl xs H7 H'->Rp K H' (encH h (ts.map enc)) v->arOk h ts.length=true->hdOk h->nwH h->ts.length<=3->(∀t∈ts,t=.mk h12 []\/t=t11)->Tm.sizes ts<=t11.size+2->GrI K r d wl xs H7 (i+1) v H':=fun v H' h ts g rr ar ho hw hl hk hz=>by
   refine⟨.mk h ts,g,by rw[enc_mk];exact rr,?_⟩
   rw[i1]
   refine Lt.wrap ar ho hw (by omega) (fun t ht=>?_) (by omega)
   rcases hk t ht with e|e
   ·rw[e];exact kl
   ·rw[e];exact kt
  have z2:∀a b:Tm,Tm.sizes [a,b]=a.size+(b.size+0):=fun a b=>by rw[Tm.sizes_cons,Tm.sizes_cons];rfl
  have z3:∀a b c:Tm,Tm.sizes [a,b,c]=a.size+(b.size+(c.size+0)):=fun a b c=>by rw[Tm.sizes_cons,Tm.sizes_cons,Tm.sizes_cons];rfl
  fail "R"
  refine ite2 (fun c=>?_) (fun c=>?_)
  ·fail "R"
   intro r14 H14 r140 r141 e14
   obtain⟨cc,hc1,hc2⟩:=atS (z:="+-*:<=") r140 (by rw[show((("+-*:<=":Str).length:Nat):Int)=6 by decide +kernel];exact r141)
   have oc:(⟨#[cc]⟩:Str)∈opsS:=ops_of cc hc2
   have g14:=g13.ext e14
   have k14:=e14.kt hf13
   have lz':("+-*:<=":Str).length<=sizeLine:=small (by decide +kernel)
   fail "R"
   intro p15 hp15
   have s15:=same_new hp15 (.tup [.str "op",.str ⟨#[cc]⟩,u12,v11])
   have fi:=fin (.ref p15) _ (.op ⟨#[cc]⟩) [.mk h12 [],t11] (g14.same s15) (Rp.new (K:=K) hp15 (.cons .s (.cons .s (.cons (ru13.kt k14) (.one (r13.kt k14)))))) rfl oc True.intro (by show 2<=3;decide) (fun t ht=>by simpa using ht) (by rw[z2];omega)
   generalize upd H14 p15 (.tup [.str "op",.str ⟨#[cc]⟩,u12,v11])=H15 at fi⊢
   exact⟨_,_,_,_,rfl,fi⟩
  fail "R"
  refine ite2 (fun c2=>?_) (fun c2=>?_)
  ·fail "R"
   intro p15 hp15
   have s15:=same_new hp15 (.tup [.str "if",u12,u12,v11])
   have fi:=fin (.ref p15) _ .ife [.mk h12 [],.mk h12 [],t11] (g13.same s15) (Rp.new (K:=K) hp15 (.cons .s (.cons ru13 (.cons ru13 (.one r13))))) rfl True.intro True.intro (by show 3<=3;decide) (fun t ht=>by simpa using ht) (by rw[z3];omega)
   generalize upd H13 p15 (.tup [.str "if",u12,u12,v11])=H15 at fi⊢
   exact⟨_,_,_,_,rfl,fi⟩
  fail "R"
  refine ite2 (fun c3=>?_) (fun c3=>?_)
  ·fail "R"
   intro p15 hp15
   have s15:=same_new hp15 (.tup [.str "more",v11,u12])
   have fi:=fin (.ref p15) _ .more [t11,.mk h12 []] (g13.same s15) (Rp.new (K:=K) hp15 (.cons .s (.cons r13 (.one ru13)))) rfl True.intro True.intro (by show 2<=3;decide) (fun t ht=>by rcases List.mem_cons.mp ht with e|ht;exact .inr e;exact .inl (List.mem_singleton.mp ht)) (by rw[z2];omega)
   generalize upd H13 p15 (.tup [.str "more",v11,u12])=H15 at fi⊢
   exact⟨_,_,_,_,rfl,fi⟩
  fail "R"
  intro p14 hp14
  have s14:=same_new hp14 (.tup [u12,v11,u12])
  have r14:Rp K (upd H13 p14 (.tup [u12,v11,u12])) (.t ([.mk h12 [],t11,.mk h12 []].map enc)) (.ref p14):=Rp.new (K:=K) hp14 (.cons ru13 (.cons r13 (.one ru13)))
  have g14:=g13.same s14
  generalize upd H13 p14 (.tup [u12,v11,u12])=H14 at s14 r14 g14⊢
  fail "R"
  intro p15 hp15
  have s15:=same_new hp15 (.tup [.str "row",.ref p14])
  have fi:=fin (.ref p15) _ .row [.mk h12 [],t11,.mk h12 []] (g14.same s15) (Rp.new (K:=K) hp15 (.cons .s (.one r14))) rfl True.intro True.intro (by show 3<=3;decide) (fun t ht=>by simp only[List.mem_cons,List.not_mem_nil,or_false]at ht;rcases ht with e|e|e;exact .inl e;exact .inr e;exact .inl e) (by rw[z3];omega)
  generalize upd H14 p15 (.tup [.str "row",.ref p14])=H15 at fi⊢
  exact⟨_,_,_,_,rfl,fi⟩
 ·rintro σ H11 ⟨v11,y1,y2,y3,rfl,⟨t11,g11,r11,l11⟩⟩
  have fit:=l11.fit (by omega) (by omega)
  have f1:=fit.ok
  have f2:=fit.nw
  have f3:t11.depth<16:=by have:=fit.dp;omega
  have f4:=fit.sz
  have f5:=fit.wd
  have f6:=fit.len
  have f7:=fit.tw
  have f8:=fit.dep
  fail "R"
  intro H12 s12
  fail "R"
  intro v13 H13 s13 r13
  have r14:=(r11.same s12).same s13
  fail "R"
  intro H14 s14
  exact k _
end
end G08
namespace L2
open PySem PySem.Spec PyProof.Rows
open PySem.AutoSeq1 (wpAny_loadPart')
theorem drawsQ{prog:Program}{w:World}{A:Around}{b:Bool}(hh:A.handled=none)(it l:Addr)(hne:l≠it)(items:Array Value) :
  Draws prog w A it [it,l] items.size (fun i v=>items[i]?=some v) (fun i h=>Itq b h it l i/\Isq b h l items) where
 live:=fun _ _ st=>st.1.got
 frame:=fun _ _ _ st hk=>⟨st.1.at fun o e=>hk it (by simp) o e,st.2.at fun o e=>hk l (by simp) o e⟩
 item:=fun i s Q E hi st hQ=>by
  refine nxq_item st.1 st.2 (x:=items[i]) (by simp[hi]) fun h' hit' hs'=>?_
  exact hQ _ h' s.toks (by simp[hi]) ⟨hit',st.2.extBut hs'.extBut hne⟩ hs'
 done:=fun s Q E st hE=>nxq_end hh st.1 st.2 (by simp) hE
set_option maxRecDepth 100000 in
theorem enq_new(b:Bool)(l:Addr)(items:Array Value) :
  Meets (Builtin.«enumerate.__new__» ⟨[.type "enumerate",.ref l],[]⟩) (fun _ R s=>Isq b s.heap l items /\
   R (.ok (.ret (.ref (s.heap.push (itObj b l)).objs.size)))
    {s with heap:=(s.heap.push (itObj b l)).push {cls:=.type "enumerate",data:=.fields #[.none,.bool false,.ref s.heap.objs.size,rawInt 0,.none,.none]}}) :=
 .of_wp fun prog w A R s h=>by
  obtain⟨hp,g,d,tk,os⟩:=s
  obtain⟨hl0,h⟩:=h
  have hsub:=sub_enumerate
  have hL:Isq b (Shared.heap ⟨hp,g,d,tk,os⟩) l items:=hl0
  obtain⟨o,hl⟩:=hl0.got
  obtain⟨oc,od,odt,osl⟩:=o
  wp_walk using wpAny_loadPart' hl
  refine wpAny_stack_any fun st=>wpAny_pure ?_
  split
  ·rename_i c _ _ _ _ _
   cases(c == Value.type "enumerate")
   ·wp_walk using wpAny_loadPart' hl,iterQ hL
    exact⟨_,rfl,h⟩
   ·wp_walk using wpAny_loadPart' hl,iterQ hL
    exact⟨_,rfl,h⟩
  ·wp_walk using wpAny_loadPart' hl,iterQ hL
   exact⟨_,rfl,h⟩
end L2
namespace L2
open PySem PySem.Spec PyProof.Rows
section
variable {prog:Program}{w:World}{A:Around}{E:Value->Shared->Prop}{s:Shared}{b:Bool}
theorem enq_call{l:Addr}{items:Array Value}{Q:Value->Shared->Prop}(hl:Isq b s.heap l items)
  (h:∀h',IsEnum h' (s.heap.objs.size+1) s.heap.objs.size 0 .none->Itq b h' s.heap.objs.size l 0->h'.objs.size=s.heap.objs.size+2 ->
   (∀b o,s.heap.get? b=some o->h'.get? b=some o)->Q (.ref (s.heap.objs.size+1)) {s with heap:=h'}) :
  wpAny (model prog w) A (call (.type "enumerate") [.ref l]) Q E s:=by
 refine callType_new PySem.F.called_enumerate (by decide) (PySem.F.typeCall_enumerate_1 _) (PySem.F.newCall_enumerate_1 _) (fun obj=>PySem.F.args_object_init_2 obj _) PySem.F.entry_enumerate_new (enq_new b l items) ⟨hl,?_⟩
 have hz:(s.heap.push (itObj b l)).objs.size=s.heap.objs.size+1:=Heap.size_push ..
 have he:=Heap.get?_push_size (s.heap.push (itObj b l)) (o:={cls:=.type "enumerate",data:=.fields #[.none,.bool false,.ref s.heap.objs.size,rawInt 0,.none,.none]}) rfl
 show _/\_
 rw[hz]at he⊢
 exact⟨⟨_,he,rfl⟩,h _ he (it_of (Heap.get?_push_of_some _ (Heap.get?_push_size _ rfl))) (by rw[Heap.size_push,hz]) fun b o x=>Heap.get?_push_of_some _ (Heap.get?_push_of_some _ x)⟩
end
def Ite (K : PySem.W.Frag) (b : Bool) (l : Addr) : It :=
  ⟨fun i H => ∃ xs x, SqB K b H l xs ∧ xs[i]? = some x,
   fun i H v H' => ∃ p x, H p = none ∧ v = .ref p ∧ H' = upd H p (.tup [.int i, x]) ∧ ∀ xs, SqB K b H l xs → xs[i]? = some x,
   fun i H => ∃ xs, SqB K b H l xs ∧ xs.length = i⟩
theorem turn_enum{P:Program}{w:World}{K:PySem.W.Frag}{elts:List Expr}{x1:Nat}{pos:Pos}{b:Bool}(e it l:Addr)(d1:e≠it)(d2:l≠it)(d3:l≠e):Turn P w K (.Tuple elts x1 pos) (Ite K b l) [e,it] e
  (fun i h=>(∃old,IsEnum h e it i old)/\Itq b h it l i) where
 mem:=by simp
 obj:=fun i h st c hc=>by
  obtain⟨⟨old,he⟩,h1⟩:=st
  simp only[List.mem_cons,List.not_mem_nil,or_false]at hc
  rcases hc with rfl|rfl
  ·exact⟨_,he,fun v z=>by cases z⟩
  ·cases b with
   |false=>obtain⟨o,e,_,d⟩:=(show h.IsListIter _ l i from h1);exact⟨o,e,fun v z=>by rw[d]at z;cases z⟩
   |true=>obtain⟨o,e,_,d⟩:=(show h.IsTupleIter _ l i from h1);exact⟨o,e,fun v z=>by rw[d]at z;cases z⟩
 keep:=fun i h h' st k=>by
  obtain⟨⟨old,he⟩,h1⟩:=st
  exact⟨⟨old,k e (by simp) _ he⟩,h1.at fun o q=>k it (by simp) o q⟩
 item:=by
  intro X hP hw hK hc i pins s σ H E I hf st hg
  subst hP hw hK
  obtain⟨xs,x,hq,hx⟩:=hg
  obtain⟨⟨old,he⟩,h1⟩:=st
  obtain⟨its,rv,p1,_⟩:=isq_of I hq
  obtain⟨u,hu,ru⟩:=rv.get hx
  have hlt:i<its.toArray.size:=by
   have:=(List.getElem?_eq_some_iff.mp hu).1
   simpa using this
  refine wpAny_pyNext_enum_itemD (drawsQ (A:=X.A.in1) (b:=b) (I.ok.hd hc) it l d2 its.toArray) he ⟨h1,p1⟩ hlt d1 (by simp[d1,Ne.symm d3]) fun y h' tk hy ho hst hT hsz hk=>?_
  have hyu:y=u:=by
   have hy':its[i]?=some y:=by simpa using hy
   rw[hu]at hy'
   exact(Option.some.inj hy').symm
  subst hyu
  refine⟨.ref s.heap.objs.size,rfl,wpAny_letOwnedTupleGo_enum (s:={s with heap:=h',toks:=tk+1}) ho fun h2' he' hs'=>?_⟩
  have ne:∀c∈[e,it],c≠s.heap.objs.size:=fun c hc z=>by
   obtain⟨o,e2⟩:∃o,s.heap.get? c=some o:=by
    simp only[List.mem_cons,List.not_mem_nil,or_false]at hc
    rcases hc with rfl|rfl
    ·exact⟨_,he⟩
    ·exact h1.got
   have:=Heap.lt_size e2
   rw[z]at this
   exact Nat.lt_irrefl _ this
  have kk:∀c o,c∉[e,it]->s.heap.get? c=some o->h2'.get? c=some o:=fun c o hc q=>by
   simp only[List.mem_cons,List.not_mem_nil,or_false,not_or]at hc
   exact(hs'.2 c hc.1).trans (hk c o hc.1 hc.2 q)
  have hT':h2'.get? s.heap.objs.size=some {cls:=.type "tuple",data:=.seq #[.int i tk,y]}:=(hs'.2 _ (ne e (by simp)).symm).trans hT
  refine⟨.ref s.heap.objs.size,upd H s.heap.objs.size (.tup [.int i,x]),I.turnedN (t':=tk+1) hf kk (Nat.le_refl _) ⟨(by show 2<=sizeLine;decide),_,.cons ⟨tk,rfl⟩ (.cons ru .nil),⟨_,hT',rfl,_,rfl⟩,_,hT',rfl⟩,rfl,
   ⟨_,x,I.hok.fresh (Nat.le_refl _),rfl,rfl,fun zs hz2=>by rw[SqB.inj I hz2 hq];exact hx⟩,?_,fun c hc=>?_⟩
  ·exact⟨⟨_,by simpa using he'⟩,hst.1.at fun o q=>(hs'.2 it (Ne.symm d1)).trans q⟩
  ·rw[upd_ne (ne c hc)];exact(hf c hc).1
 done:=by
  intro X hP hw hK hc i pins s σ H E I hf st hg
  subst hP hw hK
  obtain⟨xs,hq,hl⟩:=hg
  obtain⟨⟨old,he⟩,h1⟩:=st
  obtain⟨its,rv,p1,_⟩:=isq_of I hq
  have e1:=rv.length
  have ei:i=its.toArray.size:=by simp;omega
  rw[ei]at h1
  refine wpAny_pyNext_enum_endD (drawsQ (A:=X.A.in1) (b:=b) (I.ok.hd hc) it l d2 its.toArray) he ⟨h1,p1⟩ fun h' hk=>⟨rfl,I.turnedL (t':=s.toks) hf fun c o hc q=>?_⟩
  simp only[List.mem_cons,List.not_mem_nil,or_false,not_or]at hc
  exact hk c o hc.2 q
 self:=fun _ _ _ _ _ st h=>let⟨_,he⟩:=st.1;wpAny_pyIter_enum he h
def iEnum(K:PySem.W.Frag)(t:TA):TI:=fun σ H R=>t σ H fun vs H2=>∃b p xs,vs=[.ref p]/\SqB K b H2 p xs/\R (Ite K b p) H2
theorem pi_enum{X:Cx}{a:Expr}{t:TA}{p1 p2 pos:Pos}{elts:List Expr}{x1:Nat}(K:PySem.W.Frag)(hK:X.K=K)(hg:Gl X "enumerate")(hm:X.mg "enumerate"=none)(ha:PA X [a] t)
  (he:starEach [a] X.env=(false,eval a X.env)::starEach [] X.env:=by rfl) (hpl:(backTo p2 (starEach [] X.env)).any (·.1)=false:=by rfl):PI X (.Tuple elts x1 pos) (.Call (.Name "enumerate" p1) [a] [] p2) (iEnum K t):=by
 subst hK
 intro pins s σ H R I h
 refine wpAny_Call_Name_kw (ld_blt I hg hm (u:=.type "enumerate") (by decide +kernel) ?_ (by decide) (by decide))
 refine PyProof.Rows.callWith_type1 ?_ he hpl
 refine thn (ha p2 pins s σ H _ I h) fun us s1 ⟨vs,H1,I1,r1,q1⟩=>?_
 obtain⟨c,p,xs,rfl,hx,hq⟩:=q1
 obtain⟨u,rfl,ru⟩:=vals1 r1
 obtain rfl:u=Value.ref p:=ru
 obtain⟨its,rv,pl,_⟩:=isq_of I1 hx
 have lt1:@LT.lt Nat _ p s1.heap.objs.size:=by obtain⟨_,e⟩:=pl.got;exact Heap.lt_size e
 refine enq_call pl fun g hz h1 hsz hk=>?_
 refine wpAny_pyIter_enum (s:={s1 with heap:=g}) hz ?_
 refine⟨s1.heap.objs.size+1,[s1.heap.objs.size+1,s1.heap.objs.size],_,_,H1,rfl,I1.kept (t':=s1.toks) hk,turn_enum _ _ p (by show @Ne Nat _ _;omega) (by show @Ne Nat _ _;omega) (by show @Ne Nat _ _;omega),⟨⟨_,hz⟩,h1⟩,fun b hb=>?_,hq⟩
 have hb':s1.heap.objs.size<=b:=by
  simp only[List.mem_cons,List.not_mem_nil,or_false]at hb
  rcases hb with rfl|rfl
  ·exact Nat.le_add_right _ 1
  ·exact Nat.le_refl _
 exact I1.fpOk hb' (I1.hok.fresh hb')
theorem for_enum{K:PySem.W.Frag}{b:Bool}{a:Addr}{xs:List V}{g:TG}{tb:TS}{D:Ends}{σ:St}{H:Hp}(Pv:Nat->St->Hp->Prop)(h0:Pv 0 σ H)(hl:∀i σ H,i<=xs.length->Pv i σ H->SqB K b H a xs)
  (hs:∀i x σ H p,xs[i]?=some x->Pv i σ H->H p=none->g (.ref p) σ (upd H p (.tup [.int i,x])) fun σ2 H2=>tb {D with nx:=Pv (i+1),ct:=Pv (i+1),bk:=D.nx} σ2 H2) (hd:∀σ H,Pv xs.length σ H->D.nx σ H) :
  ∃W:Nat->Nat->St->Hp->Prop,(∃m,W 0 m σ H)/\∀i m σ H,W i m σ H ->
   ((Ite K b a).stop i H/\D.nx σ H)\/((Ite K b a).go i H/\∃N:St->Hp->Prop,(∀σ' H',N σ' H'->∃m',m' < m/\W (i+1) m' σ' H')/\∀x H',(Ite K b a).yld i H x H'->g x σ H' fun σ2 H2=>tb {D with nx:=N,ct:=N,bk:=D.nx} σ2 H2):=by
 refine⟨fun i m σ H=>m=xs.length-i/\i<=xs.length/\Pv i σ H,⟨xs.length,by simp,Nat.zero_le _,h0⟩,?_⟩
 rintro i m σ H ⟨rfl,hi,p⟩
 have q1:=hl i σ H hi p
 by_cases hlt:i<xs.length
 ·refine .inr ⟨⟨xs,xs[i],q1,by simp[hlt]⟩,Pv (i+1),fun σ' H' p'=>⟨xs.length - (i+1),by omega,rfl,hlt,p'⟩,fun x H' y=>?_⟩
  obtain⟨pp,x',hp,rfl,rfl,e1⟩:=y
  exact hs i x' σ H pp (e1 xs q1) p hp
 ·have e:i=xs.length:=by omega
  subst e
  exact .inl ⟨⟨xs,q1,rfl⟩,hd σ H p⟩
section
variable {K:PySem.W.Frag}{σ0:St}{H0:Hp}{g:TG}{tt:TT}{te:TE}{Q:VK}
end
end L2
namespace G08
open PySem L2
def sepV:List V->List V
 | []=>[]
 |x::r=>x::r.flatMap fun y=>[.str " ",y]
theorem sepV_snoc:∀(l:List V) (x:V),sepV (l++[x])=sepV l++if l.isEmpty then [x]else [.str " ",x]
 | [],x=>rfl
 |y::r,x=>by
  show y::(r++[x]).flatMap _=(y::r.flatMap _)++[.str " ",x]
  rw[List.flatMap_append]
  rfl
theorem sepV_len:∀l:List V,(sepV l).length<=2*l.length
 | []=>Nat.le_refl _
 |y::r=>by
  have:(r.flatMap fun y=>[V.str " ",y]).length=2*r.length:=by
   induction r with
   |nil=>rfl
   |cons z q ih=>rw[List.flatMap_cons,List.length_append,ih];show 2+2*q.length=2*(q.length+1);omega
  show(r.flatMap fun y=>[V.str " ",y]).length+1<=2*(r.length+1)
  omega
def spBrk(K:PySem.W.Frag):Sp:=fun vs H Q _=>∃(p:Addr) (us:List V),vs=[.str "(",.ref p]/\SqT K H p us/\us.length<=1000/\∀(q:Addr) (H':Hp),Same H H'->H q=none->H' q=some (.lst (.str "("::(sepV us++[.str ")"])))->Q (.ref q) H'
section
variable {P:Program}{w:World}{K:PySem.W.Frag}{mg:Str->Option Value}{base:Heap}{aC:Addr}
theorem nm_bracketed:Nm ["opener","words","pieces","at","word"] (defScope s_bracketed):=by decide +kernel
theorem lm_bracketed:Lm ["opener","words","pieces","at","word"] (defScope s_bracketed):=by decide +kernel
theorem sc_bracketed:FnScope ["opener","words","pieces","at","word"] ["opener","words"] (defScope s_bracketed):=⟨rfl,rfl,rfl,by decide +kernel,rfl,by decide +kernel,by decide +kernel⟩
theorem ok_brk{f:Addr}{fd:FuncData}(F:Fun K "bracketed" "bracketed" s_bracketed f fd)(z_enumerate:mg "enumerate"=none)(mC:mg "CLOSE_OF"=some (.ref aC))(dC:KD K w aC [("(",.str ")"),("[",.str "]")]):FnOk P w K mg base CX0 1 f fd ["opener","words"] (spBrk K):=by
 refine F.ok sc_bracketed (fun vs H Q E h=>?_) (fun cdv A outer s H vs Q E hr h=>?_)
 ·obtain⟨_,_,rfl,_⟩:=h
  rfl
 obtain⟨p,us,rfl,hS,hn,k⟩:=h
 refine⟨_,(@pss_cons _ _ _ _ _ (@sa _ _ _ _ _ _ sc_bracketed.nd lm_bracketed 2 (@pe_lst _ _ _ _ (pa_c (va nm_bracketed 0) pa_nil)) (by rfl) (by kernel_rfl) (by exact .inl rfl)) (@pss_cons _ _ _ _ _ (@ps_for _ _ _ _ _ _ _ _ PassesOwn.never rfl (pi_enum K rfl (by show _=_;kernel_rfl) z_enumerate (pa_c (va nm_bracketed 1) pa_nil)) (@pg_tupK _ _ _ _ _ (2) K rfl rfl (@pgs_cons _ _ _ _ _ (ga sc_bracketed.nd lm_bracketed 3) (pgs_cons (ga sc_bracketed.nd lm_bracketed 4) pgs_nil) (by rfl)) (by rfl) (by rfl)) (@pss_cons _ _ _ _ _ (@ps_if _ _ _ _ _ _ _ _ (pt_cmpR op_gt (va nm_bracketed 3) pe_int (nomark _)) (@pss_one _ _ _ (@ps_expr _ _ _ _ (pe_bm PySem.F.plainAttrs_list PySem.F.slot_list_append PySem.F.type_list_append mt_append (va nm_bracketed 2) (pa_c pe_str pa_nil)) (by rfl))) pss_nil) (@pss_one _ _ _ (@ps_expr _ _ _ _ (@pe_bm _ _ _ _ _ _ _ _ _ _ _ _ PySem.F.plainAttrs_list PySem.F.slot_list_append PySem.F.type_list_append mt_append (va nm_bracketed 2) (pa_c (va nm_bracketed 4) pa_nil) (by rfl) (by rfl) (by rfl) (by rfl) (by rfl)) (by rfl)))) (by intro _;rfl)) (@pss_cons _ _ _ _ _ (@ps_expr _ _ _ _ (@pe_bm _ _ _ _ _ _ _ _ _ _ _ _ PySem.F.plainAttrs_list PySem.F.slot_list_append PySem.F.type_list_append mt_append (va nm_bracketed 2) (@pa_c _ _ _ _ _ (pe_kget (pe_glob (v:=.ref aC) (by show _=_;kernel_rfl) mC rfl) (va nm_bracketed 0) (fun _ _=>rfl)) pa_nil (by rfl)) (by rfl) (by rfl) (by rfl) (by rfl) (by rfl)) (by rfl)) (@pss_one _ _ _ (ps_ret (va nm_bracketed 2)))))),?_⟩
 try dsimp only[cx_K]
 try dsimp only[cx_K,cx_w]
 refine seq_cut3 ?_
 intro N1 N2 N3 c1 c2 c3
 fail "R"
 intro q hq
 have s1:=same_new hq (.lst [.str "("])
 have h1:upd H q (.lst [.str "("]) q=some (.lst [.str "("]):=upd_same
 generalize upd H q (.lst [.str "("])=H1 at s1 h1⊢
 have hb1:SqB K true H1 p us:=hS.same s1
 fail "R"
 refine for_enum (K:=K) (xs:=us) (fun i σ H2=>(∃y z,σ=[some (.str "("),some (.ref p),some (.ref q),y,z])/\Same H H2/\H2 q=some (.lst (.str "("::sepV (us.take i)))) ⟨⟨_,_,rfl⟩,s1,h1⟩ ?_ ?_ ?_
 ·rintro i σ H2 hi ⟨_,s2,_⟩
  exact hS.same s2
 ·rintro i x σ H2 p3 hx ⟨⟨_,_,rfl⟩,s2,h2⟩ hp3
  have s3:=same_new hp3 (.tup [.int i,x])
  have h3:upd H2 p3 (.tup [.int i,x]) p3=some (.tup [.int i,x]):=upd_same
  have h3q:=s3 _ _ h2
  generalize upd H2 p3 (.tup [.int i,x])=H3 at s3 h3 h3q⊢
  have hil:=(List.getElem?_eq_some_iff.mp hx).1
  have etk:us.take (i+1)=us.take i++[x]:=by rw[List.take_succ_eq_append_getElem hil,(List.getElem?_eq_some_iff.mp hx).2]
  have lz:=sepV_len (us.take i)
  have l9:(V.str "("::sepV (us.take i)).length<10000:=by rw[List.length_cons];rw[List.length_take]at lz;omega
  have l9s:(V.str "("::sepV (us.take i)).length<sizeLine:=by rw[sizeLine_eq];omega
  have l9t:((V.str "("::sepV (us.take i))++[V.str " "]).length<sizeLine:=by rw[List.length_append,sizeLine_eq];show _+1<_;omega
  fail "R"
  refine ite2 (fun c=>?_) (fun c=>?_)
  ·have c':(0:Int)<(i:Int):=of_decide_eq_true c
   fail "R"
   ·exact((s2.trans s3).updF hq _).updF hq _
   ·rw[upd_same,etk,sepV_snoc]
    have:(us.take i).isEmpty=false:=by
     cases e:us.take i with
     |nil =>
      have:=congrArg List.length e
      rw[List.length_take]at this
      have:min i us.length=0:=this
      omega
     |cons=>rfl
    rw[this]
    simp
  ·have c':¬(0:Int)<(i:Int):=fun z=>c (decide_eq_true z)
   obtain rfl:i=0:=by omega
   fail "R"
   ·exact(s2.trans s3).updF hq _
   ·rw[upd_same,etk,sepV_snoc]
    rfl
 ·rintro σ H2 ⟨⟨_,_,rfl⟩,s2,h2⟩
  rw[List.take_length]at h2
  have lz:=sepV_len us
  have l9s:(V.str "("::sepV us).length<sizeLine:=by rw[List.length_cons,sizeLine_eq];omega
  fail "R"
  exact k _ _ (s2.updF hq _) hq (by rw[upd_same];rfl)
end
end G08
namespace L2
open PySem PySem.Spec PyProof.Rows
section
variable {X:Cx}{e:Expr}{te:TE}{z:Str}{k:Nat}{p2 p3 p4:Pos}
def tFC(z:Str)(te:TE):TE:=fun σ H Q=>te σ H fun v H1=>fmtV v fun y=>y.length+z.length<=100000/\Q (.str (y++z)) H1
theorem pe_fC(he:PE X e te):PE X (.JoinedStr [.FormattedValue e (-1) none p2,.Constant (.str z) k p3] p4) (tFC z te):=by
 intro pins s σ H Q I h
 refine wpAny_JoinedStr (v₁:=.FormattedValue e (-1) none p2) (v₂:=.Constant (.str z) k p3) (rest:=[]) ?_
 refine fv_ok (R:=fun y H1=>y.length+z.length<=100000/\Q (.str (y++z)) H1) he I h fun s' H' y t I' ⟨hl,q⟩ hy=>?_
 have e1:Str.empty++y=y:=empty_app
 have hl2:(Str.empty++y).length<=sizeLine:=by rw[e1,sizeLine_eq];omega
 have hl3:(Str.empty++y++z).length<=sizeLine:=by rw[e1,strLen_append,sizeLine_eq];omega
 exact⟨_,_,rfl,hl2,Calls.Constant_str ⟨_,_,rfl,hl3,hl3,.str (y++z),H',(I'.tok _),⟨_,by rw[e1]⟩,q⟩⟩
end
end L2
namespace G08
open PySem L2
theorem sepV_map{K:PySem.W.Frag}{H:Hp}:∀{xs:List Sx}{us:List V},Rps K H (xs.map resT) us->Rps K H ((sepX xs).map resT) (sepV us)
 | [],us,h=>by
  obtain rfl:=h.inv0
  exact .nil
 |x::r,us,h=>by
  obtain⟨v,vs,rfl,g1,g2⟩:=L2.Rps.inv h
  refine .cons g1 ?_
  clear h g1
  induction r generalizing vs with
  |nil =>
   obtain rfl:=L2.Rps.inv0 g2
   exact .nil
  |cons y q ih =>
   obtain⟨v2,vs2,rfl,g3,g4⟩:=L2.Rps.inv g2
   exact .cons .s (.cons g3 (ih _ g4))
theorem brk_rps{K:PySem.W.Frag}{H:Hp}{xs:List Sx}{us:List V}(h:Rps K H (xs.map resT) us):Rps K H ((brk xs).map resT) (.str "("::(sepV us++[.str ")"])):=by
 refine .cons .s ?_
 rw[List.map_append]
 exact(sepV_map h).append (.one .s)
def spSpM(K:PySem.W.Frag):Sp:=fun vs H Q _=>∃(v:V) (p:Addr) (us:List V) (k:Tm) (zs:List ((Str×List Str)×Tm)),vs=[v,.ref p]/\Rp K H (enc k) v/\SqT K H p us/\Rps K H (zs.map fun z=>armT z.1 (enc z.2)) us/\zs.length<=800/\(∀z∈zs,z.1.2.length<=800)/\∀(q:Addr) (ws:List V) (H':Hp),Same H H'->H q=none->H' q=some (.lst ws)->Rps K H' ((.inr "(match "::.inl k::(zs.flatMap (fun z=>armP z.1 z.2)++[.inr ")"]):List Sx).map resT) ws->Q (.ref q) H'
def spSpT(K:PySem.W.Frag):Sp:=fun vs H Q _=>∃(v:V) (tm:Tm),vs=[v]/\Rp K H (enc tm) v/\TmOk tm/\Wd tm/\∀(q:Addr) (ws:List V) (H':Hp),Same H H'->H q=none->H' q=some (.lst ws)->Rps K H' ((pcs tm).map resT) ws->Q (.ref q) H'
structure SmI(K:PySem.W.Frag) (H:Hp) (q:Addr) (k0:Tm) (zs:List ((Str×List Str)×Tm)) (i:Nat) (H2:Hp):Prop where
 s:Same H H2
 x:∃ws,H2 q=some (.lst ws)/\Rps K H2 ((.inr "(match "::.inl k0::((zs.take i).flatMap fun z=>armP z.1 z.2):List Sx).map resT) ws/\ws.length<=2+2000*i
section
variable {P:Program}{w:World}{K:PySem.W.Frag}{mg:Str->Option Value}{base:Heap}{gB gM:Addr}{bfd mfd:FuncData}
theorem nm_spell_match:Nm ["first","arms","pieces","tag","names","inner"] (defScope s_spell_match):=by decide +kernel
theorem lm_spell_match:Lm ["first","arms","pieces","tag","names","inner"] (defScope s_spell_match):=by decide +kernel
theorem sc_spell_match:FnScope ["first","arms","pieces","tag","names","inner"] ["first","arms"] (defScope s_spell_match):=⟨rfl,rfl,rfl,by decide +kernel,rfl,by decide +kernel,by decide +kernel⟩
theorem ok_spellm{f:Addr}{fd:FuncData}(F:Fun K "spell_match" "spell_match" s_spell_match f fd)(BR:Has P w K mg base "bracketed" 1 ["opener","words"] (spBrk K) gB bfd):FnOk P w K mg base CX0 2 f fd ["first","arms"] (spSpM K):=by
 refine F.ok sc_spell_match (fun vs H Q E h=>?_) (fun cdv A outer s H vs Q E hr h=>?_)
 ·obtain⟨_,_,_,_,_,rfl,_⟩:=h
  rfl
 obtain⟨v,p,us,k0,zs,rfl,r0,sq,r,hz,hzs,k⟩:=h
 refine⟨_,(@pss_cons _ _ _ _ _ (@sa _ _ _ _ _ _ sc_spell_match.nd lm_spell_match 2 (@pe_lst _ _ _ _ (@pa_c _ _ _ _ _ pe_str (pa_c (va nm_spell_match 0) pa_nil) (by rfl))) (by rfl) (by kernel_rfl) (by exact .inl rfl)) (@pss_cons _ _ _ _ _ (@ps_for _ _ _ _ _ _ _ _ PassesOwn.never rfl (pi_tup (va nm_spell_match 1)) (@pg_tupK _ _ _ _ _ (3) K rfl rfl (@pgs_cons _ _ _ _ _ (ga sc_spell_match.nd lm_spell_match 3) (@pgs_cons _ _ _ _ _ (ga sc_spell_match.nd lm_spell_match 4) (pgs_cons (ga sc_spell_match.nd lm_spell_match 5) pgs_nil) (by rfl)) (by rfl)) (by rfl) (by rfl)) (@pss_cons _ _ _ _ _ (@ps_expr _ _ _ _ (pe_bm PySem.F.plainAttrs_list PySem.F.slot_list_append PySem.F.type_list_append mt_append (va nm_spell_match 2) (pa_c pe_str pa_nil)) (by rfl)) (@pss_one _ _ _ (@ps_expr _ _ _ _ (@pe_bm _ _ _ _ _ _ _ _ _ _ _ _ PySem.F.plainAttrs_list PySem.F.slot_list_extend PySem.F.type_list_extend mt_extend (va nm_spell_match 2) (@pa_c _ _ _ _ _ (@pe_call _ _ _ _ _ _ _ _ _ _ _ _ _ _ _ _ BR.ok (hr.mono (by omega)) (by show _=_;kernel_rfl) BR.at' BR.kp BR.bd .nil pass0 (@pa_c _ _ _ _ _ pe_str (@pa_c _ _ _ _ _ (@pe_op _ _ _ _ _ _ _ _ op_catTA (@pe_op _ _ _ _ _ _ _ _ op_catTA (@pe_tup _ _ _ _ _ (pa_c (va nm_spell_match 3) pa_nil)) (va nm_spell_match 4)) (@pe_tup _ _ _ _ _ (pa_c (va nm_spell_match 5) pa_nil))) pa_nil (by rfl)) (by rfl)) (by decide) (by rfl) (by rfl)) pa_nil (by rfl)) (by rfl) (by rfl) (by rfl) (by rfl) (by rfl)) (by rfl)))) (by intro _;rfl)) (@pss_cons _ _ _ _ _ (@ps_expr _ _ _ _ (pe_bm PySem.F.plainAttrs_list PySem.F.slot_list_append PySem.F.type_list_append mt_append (va nm_spell_match 2) (pa_c pe_str pa_nil)) (by rfl)) (@pss_one _ _ _ (ps_ret (va nm_spell_match 2)))))),?_⟩
 try dsimp only[cx_K]
 try dsimp only[cx_K,cx_w]
 refine seq_cut3 ?_
 intro N1 N2 N3 c1 c2 c3
 fail "R"
 intro q hq
 have s1:=same_new hq (.lst [.str "(match ",v])
 have h1:upd H q (.lst [.str "(match ",v]) q=some (.lst [.str "(match ",v]):=upd_same
 have r1:=r0.same s1
 generalize upd H q (.lst [.str "(match ",v])=H1 at s1 h1 r1⊢
 have i0:SmI K H q k0 zs 0 H1:=⟨s1,_,h1,.cons .s (.one r1),Nat.le_refl _⟩
 have lus:=r.length
 rw[List.length_map]at lus
 have sq1:=sq.same s1
 fail "R"
 refine for_tup (K:=K) (xs:=us) (fun i σ H2=>(∃y z u,σ=[some v,some (.ref p),some (.ref q),y,z,u])/\SmI K H q k0 zs i H2) ⟨⟨_,_,_,rfl⟩,i0⟩ ?_ ?_ ?_
 ·rintro i σ H2 hi ⟨_,i2⟩
  exact sq.same i2.s
 ·rintro i x σ H2 hx ⟨⟨_,_,_,rfl⟩,⟨s2,ws,h2,r2,l2⟩⟩
  obtain⟨t,ht,rx⟩:=r.get' hx
  rw[List.getElem?_map]at ht
  obtain⟨z,hzi,rfl⟩:=Option.map_eq_some_iff.mp ht
  have hil:=(List.getElem?_eq_some_iff.mp hzi).1
  have etk:zs.take (i+1)=zs.take i++[z]:=by rw[List.take_succ_eq_append_getElem hil,(List.getElem?_eq_some_iff.mp hzi).2]
  have hz2:=hzs z (List.mem_of_getElem? hzi)
  obtain⟨xa,u1,u2,u3,rfl,sqx,g1,g2,g3⟩:=(show Rp K H (.t [.s z.1.1,.t (z.1.2.map .s),enc z.2]) x from rx).t3
  obtain rfl:=g1.inv_s
  obtain⟨na,ns,rfl,sqn,rn⟩:=g2.inv_t
  have ln:=rn.length
  rw[List.length_map]at ln
  have sq2:=sqx.same s2
  have lw:ws.length<sizeLine:=by rw[sizeLine_eq];omega
  have h3q:upd H2 q (.lst (ws++[.str " "])) q=some (.lst (ws++[.str " "])):=upd_same
  have kt3:Kt H2 (upd H2 q (.lst (ws++[.str " "]))):=Kt.lst h2 _
  have s3:Same H (upd H2 q (.lst (ws++[.str " "]))):=s2.updF hq _
  have r3:=r2.kt kt3
  fail "R"
  generalize upd H2 q (.lst (ws++[.str " "]))=H3 at h3q kt3 s3 r3⊢
  intro p4 hp4
  have s4:=same_new hp4 (.tup [.str z.1.1])
  have h4:upd H3 p4 (.tup [.str z.1.1]) p4=some (.tup [.str z.1.1]):=upd_same
  have sqn4:=sqn.same (s3.trans s4)
  have g4:=g3.same (s3.trans s4)
  have rn4:=rn.same (s3.trans s4)
  have lns:([V.str z.1.1]:List V).length+ns.length<=sizeLine:=small (by rw[ln];show 1+_<=_;omega)
  generalize upd H3 p4 (.tup [.str z.1.1])=H4 at s4 h4 sqn4 g4 rn4⊢
  have sq4:SqT K H4 p4 [.str z.1.1]:=SqT.of h4
  fail "R"
  intro c5 H5 s5 sq5
  fail "R"
  intro p6 hp6
  have s6:=same_new hp6 (.tup [u3])
  have h6:upd H5 p6 (.tup [u3]) p6=some (.tup [u3]):=upd_same
  have sq6:=sq5.same s6
  have s46:=s5.trans s6
  generalize upd H5 p6 (.tup [u3])=H6 at s6 h6 sq6 s46⊢
  have l6:([V.str z.1.1]++ns).length+([u3]:List V).length<=sizeLine:=small (by rw[List.length_append,ln];show 1+_+1<=_;omega)
  have sq6':SqT K H6 p6 [u3]:=SqT.of h6
  fail "R"
  intro c7 H7 s7 sq7
  have l7:([V.str z.1.1]++ns++[u3]:List V).length<=1000:=by rw[List.length_append,List.length_append,ln];show 1+_+1<=_;omega
  fail "R"
  intro q8 H8 s8 hq8 h8
  have s38:=((s4.trans s46).trans s7).trans s8
  have h8q:=s38 _ _ h3q
  have r8:=r3.same s38
  have rb:Rps K H8 ((.inr z.1.1::(z.1.2.map .inr++[.inl z.2]):List Sx).map resT) ([V.str z.1.1]++ns++[u3]):=by
   have e:(.inr z.1.1::(z.1.2.map .inr++[.inl z.2]):List Sx).map resT=T.s z.1.1::(z.1.2.map T.s++[enc z.2]):=by
    rw[List.map_cons,List.map_append,List.map_map]
    rfl
   rw[e]
   have s48:=(s46.trans s7).trans s8
   exact .cons .s ((rn4.same s48).append (.one (g4.same s48)))
  have rb2:=brk_rps rb
  have ll:=sepV_len ([V.str z.1.1]++ns++[u3])
  have l8:(ws++[V.str " "]).length+(V.str "("::(sepV ([V.str z.1.1]++ns++[u3])++[V.str ")"])).length<=2+2000*(i+1):=by
   simp only[List.length_append,List.length_cons,List.length_nil]at ll l7⊢
   omega
  have l8s:(ws++[V.str " "]).length+(V.str "("::(sepV ([V.str z.1.1]++ns++[u3])++[V.str ")"])).length<=sizeLine:=by rw[sizeLine_eq];omega
  fail "R"
  refine⟨(s3.trans s38).updF hq _,_,upd_same,?_,by rw[List.length_append];exact l8⟩
  have kt8:Kt H8 (upd H8 q (.lst (ws++[V.str " "]++V.str "("::(sepV ([V.str z.1.1]++ns++[u3])++[V.str ")"])))):=Kt.lst h8q _
  have r9:=((r8.kt kt8).append (.one (.s (x:=" ")))).append (rb2.kt kt8)
  have e:(.inr "(match "::.inl k0::((zs.take (i+1)).flatMap fun z=>armP z.1 z.2):List Sx).map resT=(.inr "(match "::.inl k0::((zs.take i).flatMap fun z=>armP z.1 z.2):List Sx).map resT++[T.s " "]++(brk (.inr z.1.1::(z.1.2.map .inr++[.inl z.2]))).map resT:=by
   rw[etk,List.flatMap_append,List.flatMap_singleton]
   unfold armP
   simp only[List.map_cons,List.map_append,List.cons_append,List.append_assoc]
   rfl
  rw[e]
  exact r9
 ·rintro σ H2 ⟨⟨_,_,_,rfl⟩,⟨s2,ws,h2,r2,l2⟩⟩
  have lw:ws.length<sizeLine:=by rw[sizeLine_eq];omega
  fail "R"
  refine k q _ _ (s2.updF hq _) hq upd_same ?_
  have r3:=(r2.kt (Kt.lst h2 (.lst (ws++[.str ")"])))).append (.one (.s (x:=")")))
  rw[show us.length=zs.length by omega,List.take_length]at r3
  simp only[List.map_cons,List.map_append,List.map_nil,List.cons_append]at r3⊢
  exact r3
theorem nm_spell_term:Nm ["term","form"] (defScope s_spell_term):=by decide +kernel
theorem lm_spell_term:Lm ["term","form"] (defScope s_spell_term):=by decide +kernel
theorem sc_spell_term:FnScope ["term","form"] ["term"] (defScope s_spell_term):=⟨rfl,rfl,rfl,by decide +kernel,rfl,by decide +kernel,by decide +kernel⟩
theorem ok_spellt{f:Addr}{fd:FuncData}(F:Fun K "spell_term" "spell_term" s_spell_term f fd)(BR:Has P w K mg base "bracketed" 1 ["opener","words"] (spBrk K) gB bfd)(SPM:Has P w K mg base "spell_match" 2 ["first","arms"] (spSpM K) gM mfd)(z_str:mg "str"=none):FnOk P w K mg base CX0 3 f fd ["term"] (spSpT K):=by
 refine F.ok sc_spell_term (fun vs H Q E h=>?_) (fun cdv A outer s H vs Q E hr h=>?_)
 ·obtain⟨_,_,rfl,_⟩:=h
  rfl
 obtain⟨v,tm,rfl,r,ht,hw,k⟩:=h
 refine⟨_,(@pss_cons _ _ _ _ _ (@sa _ _ _ _ _ _ sc_spell_term.nd lm_spell_term 1 (pe_ix ix_tup (va nm_spell_term 0) pe_int (fun _ _=>rfl)) (by rfl) (by kernel_rfl) (by exact .inl rfl)) (@pss_cons _ _ _ _ _ (@ps_if _ _ _ _ _ _ _ _ (pt_cmpR op_eq (va nm_spell_term 1) pe_str (nomark _)) (@pss_one _ _ _ (@ps_ret _ _ _ _ (@pe_lst _ _ _ _ (@pa_c _ _ _ _ _ (@pe_callTy _ _ _ _ _ _ _ _ _ call_strV (by show _=_;kernel_rfl) z_str PyProof.Rows.boot_str (@pa_c _ _ _ _ _ (pe_ix ix_tup (va nm_spell_term 0) pe_int (fun _ _=>rfl)) pa_nil (by rfl)) (by decide) (by decide) (by rfl) (by rfl)) pa_nil (by rfl))))) pss_nil) (@pss_cons _ _ _ _ _ (@ps_if _ _ _ _ _ _ _ _ (pt_cmpR op_eq (va nm_spell_term 1) pe_str (nomark _)) (@pss_one _ _ _ (@ps_ret _ _ _ _ (@pe_lst _ _ _ _ (@pa_c _ _ _ _ _ (pe_ix ix_tup (va nm_spell_term 0) pe_int (fun _ _=>rfl)) pa_nil (by rfl))))) pss_nil) (@pss_cons _ _ _ _ _ (@ps_if _ _ _ _ _ _ _ _ (pt_cmpR op_eq (va nm_spell_term 1) pe_str (nomark _)) (@pss_one _ _ _ (@ps_ret _ _ _ _ (@pe_lst _ _ _ _ (@pa_c _ _ _ _ _ (pe_fA (pe_ix ix_tup (va nm_spell_term 0) pe_int (fun _ _=>rfl))) pa_nil (by rfl))))) pss_nil) (@pss_cons _ _ _ _ _ (@ps_if _ _ _ _ _ _ _ _ (pt_cmpR op_eq (va nm_spell_term 1) pe_str (nomark _)) (@pss_one _ _ _ (@ps_ret _ _ _ _ (@pe_call _ _ _ _ _ _ _ _ _ _ _ _ _ _ _ _ SPM.ok (hr.mono (by omega)) (by show _=_;kernel_rfl) SPM.at' SPM.kp SPM.bd .nil pass0 (@pa_c _ _ _ _ _ (pe_ix ix_tup (va nm_spell_term 0) pe_int (fun _ _=>rfl)) (@pa_c _ _ _ _ _ (pe_ix ix_tup (va nm_spell_term 0) pe_int (fun _ _=>rfl)) pa_nil (by rfl)) (by rfl)) (by decide) (by rfl) (by rfl)))) pss_nil) (@pss_cons _ _ _ _ _ (@ps_if _ _ _ _ _ _ _ _ (pt_cmpR op_eq (va nm_spell_term 1) pe_str (nomark _)) (@pss_one _ _ _ (@ps_ret _ _ _ _ (@pe_call _ _ _ _ _ _ _ _ _ _ _ _ _ _ _ _ BR.ok (hr.mono (by omega)) (by show _=_;kernel_rfl) BR.at' BR.kp BR.bd .nil pass0 (@pa_c _ _ _ _ _ pe_str (@pa_c _ _ _ _ _ (pe_slice sl_tup (va nm_spell_term 0) (po_some pe_int) po_none) pa_nil (by rfl)) (by rfl)) (by decide) (by rfl) (by rfl)))) pss_nil) (@pss_cons _ _ _ _ _ (@ps_if _ _ _ _ _ _ _ _ (pt_cmpR op_eq (va nm_spell_term 1) pe_str (nomark _)) (@pss_one _ _ _ (@ps_ret _ _ _ _ (@pe_call _ _ _ _ _ _ _ _ _ _ _ _ _ _ _ _ BR.ok (hr.mono (by omega)) (by show _=_;kernel_rfl) BR.at' BR.kp BR.bd .nil pass0 (@pa_c _ _ _ _ _ pe_str (@pa_c _ _ _ _ _ (@pe_op _ _ _ _ _ _ _ _ op_catTA (pe_tup (pa_c pe_str pa_nil)) (pe_ix ix_tup (va nm_spell_term 0) pe_int (fun _ _=>rfl))) pa_nil (by rfl)) (by rfl)) (by decide) (by rfl) (by rfl)))) pss_nil) (@pss_cons _ _ _ _ _ (@ps_if _ _ _ _ _ _ _ _ (pt_cmpR op_eq (va nm_spell_term 1) pe_str (nomark _)) (@pss_one _ _ _ (@ps_ret _ _ _ _ (@pe_call _ _ _ _ _ _ _ _ _ _ _ _ _ _ _ _ BR.ok (hr.mono (by omega)) (by show _=_;kernel_rfl) BR.at' BR.kp BR.bd .nil pass0 (@pa_c _ _ _ _ _ pe_str (@pa_c _ _ _ _ _ (@pe_op _ _ _ _ _ _ _ _ op_catTA (@pe_tup _ _ _ _ _ (@pa_c _ _ _ _ _ pe_str (@pa_c _ _ _ _ _ (pe_ix ix_tup (va nm_spell_term 0) pe_int (fun _ _=>rfl)) pa_nil (by rfl)) (by rfl))) (pe_ix ix_tup (va nm_spell_term 0) pe_int (fun _ _=>rfl))) pa_nil (by rfl)) (by rfl)) (by decide) (by rfl) (by rfl)))) pss_nil) (@pss_cons _ _ _ _ _ (@ps_if _ _ _ _ _ _ _ _ (pt_cmpR op_eq (va nm_spell_term 1) pe_str (nomark _)) (@pss_one _ _ _ (@ps_ret _ _ _ _ (@pe_call _ _ _ _ _ _ _ _ _ _ _ _ _ _ _ _ BR.ok (hr.mono (by omega)) (by show _=_;kernel_rfl) BR.at' BR.kp BR.bd .nil pass0 (@pa_c _ _ _ _ _ pe_str (@pa_c _ _ _ _ _ (@pe_op _ _ _ _ _ _ _ _ op_catTA (@pe_tup _ _ _ _ _ (@pa_c _ _ _ _ _ (pe_fC (pe_ix ix_tup (va nm_spell_term 0) pe_int (fun _ _=>rfl))) pa_nil (by rfl))) (pe_ix ix_tup (va nm_spell_term 0) pe_int (fun _ _=>rfl))) pa_nil (by rfl)) (by rfl)) (by decide) (by rfl) (by rfl)))) pss_nil) (@pss_one _ _ _ (@ps_ret _ _ _ _ (@pe_call _ _ _ _ _ _ _ _ _ _ _ _ _ _ _ _ BR.ok (hr.mono (by omega)) (by show _=_;kernel_rfl) BR.at' BR.kp BR.bd .nil pass0 (@pa_c _ _ _ _ _ pe_str (pa_c (va nm_spell_term 0) pa_nil) (by rfl)) (by decide) (by rfl) (by rfl))))))))))))),?_⟩
 try dsimp only[cx_K]
 try dsimp only[cx_K,cx_w]
 refine seq_cut8 ?_
 intro N1 N2 N3 N4 N5 N6 N7 N8 c1 c2 c3 c4 c5 c6 c7 c8
 obtain⟨h,ks⟩:=tm
 have wl:=wd_len hw
 have wh:=wd_hd hw
 have kr:∀xs:List Tm,(kd xs).map resT=xs.map enc:=fun xs=>by unfold kd;rw[List.map_map];rfl
 rw[enc_mk]at r
 obtain⟨ar,ho,hk⟩:=ht
 cases h with
 |num n =>
  obtain⟨a,v1,v2,rfl,sq,g1,g2⟩:=(show Rp K H (.t [.s "num",.i n]) v from r).t2
  obtain rfl:=g1.inv_s
  obtain rfl:=g2.inv_i
  have a0:atI [V.str "num",.int n] 0=some (.str "num"):=at0 _ _
  have a1:atI [V.str "num",.int n] 1=some (.int n):=atI_nat (j:=1) rfl
  have ho':0<=n/\n<1000000:=ho
  have en:ofL (digs n)=Str.ofString (toString n):=ofL_toList _
  fail "R"
  refine .inr ⟨n,rfl,by omega,?_⟩
  fail "R"
  intro q hq
  refine k q _ _ (same_new hq _) hq upd_same ?_
  show Rps K _ [.s (ofL (digs n))] _
  rw[en]
  exact .one .s
 |name x =>
  obtain⟨a,v1,v2,rfl,sq,g1,g2⟩:=(show Rp K H (.t [.s "name",.s x]) v from r).t2
  obtain rfl:=g1.inv_s
  obtain rfl:=g2.inv_s
  have a0:atI [V.str "name",.str x] 0=some (.str "name"):=at0 _ _
  have a1:atI [V.str "name",.str x] 1=some (.str x):=atI_nat (j:=1) rfl
  fail "R"
  intro q hq
  exact k q _ _ (same_new hq _) hq upd_same (.one .s)
 |gap n =>
  obtain⟨a,v1,v2,rfl,sq,g1,g2⟩:=(show Rp K H (.t [.s "gap",.i n]) v from r).t2
  obtain rfl:=g1.inv_s
  obtain rfl:=g2.inv_i
  have a0:atI [V.str "gap",.int n] 0=some (.str "gap"):=at0 _ _
  have a1:atI [V.str "gap",.int n] 1=some (.int n):=atI_nat (j:=1) rfl
  have ho':0<=n/\n<100:=ho
  have en:ofL (digs n)=Str.ofString (toString n):=ofL_toList _
  have eg:ofL (63::digs n)=("?":Str)++Str.ofString (toString n):=by
   rw[←en]
   show _=ofL [63]++ofL (digs n)
   rw[app_ofL]
   rfl
  have ld:=(digs_ok ho').2.1
  have lq:("?":Str).length+(Str.ofString (toString n)).length<=100000:=by rw[←en,ofL_len];show 1+_<=_;omega
  fail "R"
  refine .inr ⟨n,rfl,by omega,lq,?_⟩
  fail "R"
  intro q hq
  refine k q _ _ (same_new hq _) hq upd_same ?_
  show Rps K _ [.s (ofL (63::digs n))] _
  rw[eg]
  exact .one .s
 |more =>
  obtain⟨a,us,rfl,sq,rs⟩:=(show Rp K H (.t (.s "more"::ks.map enc)) v from r).inv_t
  have rx:Rps K H ((.inr "more"::kd ks:List Sx).map resT) us:=by
   simp only[List.map_cons,kr]
   exact rs
  have lu:=rs.length
  obtain⟨v0,us0,rfl,g0,_⟩:=L2.Rps.inv rs
  obtain rfl:=g0.inv_s
  have a0:atI (V.str "more"::us0) 0=some (.str "more"):=at0 _ _
  have l1:(V.str "more"::us0).length<=1000:=by rw[lu];simp only[List.length_cons,List.length_map,List.length_nil];omega
  fail "R"
  intro q H' s' hq h'
  exact k q _ _ s' hq h' (brk_rps (rx.same s'))
 |first =>
  obtain⟨a,us,rfl,sq,rs⟩:=(show Rp K H (.t (.s "first"::ks.map enc)) v from r).inv_t
  have rx:Rps K H ((.inr "first"::kd ks:List Sx).map resT) us:=by
   simp only[List.map_cons,kr]
   exact rs
  have lu:=rs.length
  obtain⟨v0,us0,rfl,g0,_⟩:=L2.Rps.inv rs
  obtain rfl:=g0.inv_s
  have a0:atI (V.str "first"::us0) 0=some (.str "first"):=at0 _ _
  have l1:(V.str "first"::us0).length<=1000:=by rw[lu];simp only[List.length_cons,List.length_map,List.length_nil];omega
  fail "R"
  intro q H' s' hq h'
  exact k q _ _ s' hq h' (brk_rps (rx.same s'))
 |others =>
  obtain⟨a,us,rfl,sq,rs⟩:=(show Rp K H (.t (.s "others"::ks.map enc)) v from r).inv_t
  have rx:Rps K H ((.inr "others"::kd ks:List Sx).map resT) us:=by
   simp only[List.map_cons,kr]
   exact rs
  have lu:=rs.length
  obtain⟨v0,us0,rfl,g0,_⟩:=L2.Rps.inv rs
  obtain rfl:=g0.inv_s
  have a0:atI (V.str "others"::us0) 0=some (.str "others"):=at0 _ _
  have l1:(V.str "others"::us0).length<=1000:=by rw[lu];simp only[List.length_cons,List.length_map,List.length_nil];omega
  fail "R"
  intro q H' s' hq h'
  exact k q _ _ s' hq h' (brk_rps (rx.same s'))
 |long =>
  obtain⟨a,us,rfl,sq,rs⟩:=(show Rp K H (.t (.s "long"::ks.map enc)) v from r).inv_t
  have rx:Rps K H ((.inr "long"::kd ks:List Sx).map resT) us:=by
   simp only[List.map_cons,kr]
   exact rs
  have lu:=rs.length
  obtain⟨v0,us0,rfl,g0,_⟩:=L2.Rps.inv rs
  obtain rfl:=g0.inv_s
  have a0:atI (V.str "long"::us0) 0=some (.str "long"):=at0 _ _
  have l1:(V.str "long"::us0).length<=1000:=by rw[lu];simp only[List.length_cons,List.length_map,List.length_nil];omega
  fail "R"
  intro q H' s' hq h'
  exact k q _ _ s' hq h' (brk_rps (rx.same s'))
 |ife =>
  obtain⟨a,us,rfl,sq,rs⟩:=(show Rp K H (.t (.s "if"::ks.map enc)) v from r).inv_t
  have rx:Rps K H ((.inr "if"::kd ks:List Sx).map resT) us:=by
   simp only[List.map_cons,kr]
   exact rs
  have lu:=rs.length
  obtain⟨v0,us0,rfl,g0,_⟩:=L2.Rps.inv rs
  obtain rfl:=g0.inv_s
  have a0:atI (V.str "if"::us0) 0=some (.str "if"):=at0 _ _
  have l1:(V.str "if"::us0).length<=1000:=by rw[lu];simp only[List.length_cons,List.length_map,List.length_nil];omega
  fail "R"
  intro q H' s' hq h'
  exact k q _ _ s' hq h' (brk_rps (rx.same s'))
 |lt x =>
  obtain⟨a,us,rfl,sq,rs⟩:=(show Rp K H (.t (.s "let"::.s x::ks.map enc)) v from r).inv_t
  have rx:Rps K H ((.inr "let"::.inr x::kd ks:List Sx).map resT) us:=by
   simp only[List.map_cons,kr]
   exact rs
  have lu:=rs.length
  obtain⟨v0,us0,rfl,g0,_⟩:=L2.Rps.inv rs
  obtain rfl:=g0.inv_s
  have a0:atI (V.str "let"::us0) 0=some (.str "let"):=at0 _ _
  have l1:(V.str "let"::us0).length<=1000:=by rw[lu];simp only[List.length_cons,List.length_map,List.length_nil];omega
  fail "R"
  intro q H' s' hq h'
  exact k q _ _ s' hq h' (brk_rps (rx.same s'))
 |fold x y =>
  have arl:ks.length=3:=eq_of_beq (show(ks.length == 3)=true from ar)
  obtain⟨k1,k2,k3,rfl⟩:=ex3 arl
  obtain⟨a,us,rfl,sq,rs⟩:=(show Rp K H (.t ([.s "fold",enc k1,.s x,.s y,enc k2,enc k3])) v from r).inv_t
  have rx:Rps K H (([.inr "fold",.inl k1,.inr x,.inr y,.inl k2,.inl k3]:List Sx).map resT) us:=by
   simp only[List.map_cons,kr]
   exact rs
  have lu:=rs.length
  obtain⟨v0,us0,rfl,g0,_⟩:=L2.Rps.inv rs
  obtain rfl:=g0.inv_s
  have a0:atI (V.str "fold"::us0) 0=some (.str "fold"):=at0 _ _
  have l1:(V.str "fold"::us0).length<=1000:=by rw[lu];simp only[List.length_cons,List.length_map,List.length_nil];omega
  fail "R"
  intro q H' s' hq h'
  exact k q _ _ s' hq h' (brk_rps (rx.same s'))
 |op s =>
  obtain⟨a,us,rfl,sq,rs⟩:=(show Rp K H (.t (.s "op"::.s s::ks.map enc)) v from r).inv_t
  have lu:=rs.length
  obtain⟨v0,us0,rfl,g0,rs0⟩:=L2.Rps.inv rs
  obtain rfl:=g0.inv_s
  have rx:Rps K H ((.inr s::kd ks:List Sx).map resT) us0:=by
   simp only[List.map_cons,kr]
   exact rs0
  have a0:atI (V.str "op"::us0) 0=some (.str "op"):=at0 _ _
  have ec:cutV (V.str "op"::us0) (some 1) none=us0:=cut_tl _ _
  have l1:us0.length<=1000:=by have:=rs0.length;rw[this];simp only[List.length_cons,List.length_map];omega
  have cn:=cut_not (V.str "op"::us0) 1 (Nat.le_refl _) (by simp)
  fail "R"
  rw[ec]
  intro p1 hp1
  have s1:=same_new hp1 (.tup us0)
  have h1:SqT K (upd H p1 (.tup us0)) p1 us0:=SqT.of upd_same
  generalize upd H p1 (.tup us0)=H1 at s1 h1⊢
  fail "R"
  intro q H' s' hq h'
  exact k q _ _ (s1.trans s') (s1.free hq) h' (brk_rps (rx.same (s1.trans s')))
 |row =>
  obtain⟨a,v1,v2,rfl,sq,g1,g2⟩:=(show Rp K H (.t [.s "row",.t (ks.map enc)]) v from r).t2
  obtain rfl:=g1.inv_s
  obtain⟨b,us,rfl,sqb,rb⟩:=g2.inv_t
  have lb:=rb.length
  rw[List.length_map]at lb
  have a0:atI [V.str "row",.ref b] 0=some (.str "row"):=at0 _ _
  have a1:atI [V.str "row",.ref b] 1=some (.ref b):=atI_nat (j:=1) rfl
  fail "R"
  intro p1 hp1
  have s1:=same_new hp1 (.tup [.str "row"])
  have h1:SqT K (upd H p1 (.tup [.str "row"])) p1 [.str "row"]:=SqT.of upd_same
  have sq1:=sq.same s1
  have sqb1:=sqb.same s1
  have lc:([.str "row"]:List V).length+us.length<=sizeLine:=small (by rw[lb];show 1+_<=_;omega)
  generalize upd H p1 (.tup [.str "row"])=H1 at s1 h1 sq1 sqb1⊢
  fail "R"
  intro c2 H2 s2 sq2
  have lc2:([.str "row"]++us:List V).length<=1000:=by rw[List.length_append,lb];show 1+_<=_;omega
  fail "R"
  intro q H' s' hq h'
  have s0:=(s1.trans s2).trans s'
  refine k q _ _ s0 ((s1.trans s2).free hq) h' ?_
  refine brk_rps (xs:=.inr "row"::kd ks) ?_
  simp only[List.map_cons,kr]
  exact .cons .s (rb.same s0)
 |call f =>
  obtain⟨a,v1,v2,v3,rfl,sq,g1,g2,g3⟩:=(show Rp K H (.t [.s "call",.s f,.t (ks.map enc)]) v from r).t3
  obtain rfl:=g1.inv_s
  obtain rfl:=g2.inv_s
  obtain⟨b,us,rfl,sqb,rb⟩:=g3.inv_t
  have lb:=rb.length
  rw[List.length_map]at lb
  have a0:atI [V.str "call",.str f,.ref b] 0=some (.str "call"):=at0 _ _
  have a1:atI [V.str "call",.str f,.ref b] 1=some (.str f):=atI_nat (j:=1) rfl
  have a2:atI [V.str "call",.str f,.ref b] 2=some (.ref b):=atI_nat (j:=2) rfl
  fail "R"
  intro p1 hp1
  have s1:=same_new hp1 (.tup [.str "call",.str f])
  have h1:SqT K (upd H p1 (.tup [.str "call",.str f])) p1 [.str "call",.str f]:=SqT.of upd_same
  have sq1:=sq.same s1
  have sqb1:=sqb.same s1
  have lc:([.str "call",.str f]:List V).length+us.length<=sizeLine:=small (by rw[lb];show 2+_<=_;omega)
  generalize upd H p1 (.tup [.str "call",.str f])=H1 at s1 h1 sq1 sqb1⊢
  fail "R"
  intro c2 H2 s2 sq2
  have lc2:([.str "call",.str f]++us:List V).length<=1000:=by rw[List.length_append,lb];show 2+_<=_;omega
  fail "R"
  intro q H' s' hq h'
  have s0:=(s1.trans s2).trans s'
  refine k q _ _ s0 ((s1.trans s2).free hq) h' ?_
  refine brk_rps (xs:=.inr "call"::.inr f::kd ks) ?_
  simp only[List.map_cons,kr]
  exact .cons .s (.cons .s (rb.same s0))
 |tag t =>
  obtain⟨a,v1,v2,v3,rfl,sq,g1,g2,g3⟩:=(show Rp K H (.t [.s "tag",.s t,.t (ks.map enc)]) v from r).t3
  obtain rfl:=g1.inv_s
  obtain rfl:=g2.inv_s
  obtain⟨b,us,rfl,sqb,rb⟩:=g3.inv_t
  have lb:=rb.length
  rw[List.length_map]at lb
  have a0:atI [V.str "tag",.str t,.ref b] 0=some (.str "tag"):=at0 _ _
  have a1:atI [V.str "tag",.str t,.ref b] 1=some (.str t):=atI_nat (j:=1) rfl
  have a2:atI [V.str "tag",.str t,.ref b] 2=some (.ref b):=atI_nat (j:=2) rfl
  have ht:nmOk t:=ho
  have et:ofL (t.cps.toList++[58])=t++(":":Str):=by
   rw[←app_ofL,ofL_toList]
   rfl
  have hl6:=ht.2.1
  have lq:t.length+(":":Str).length<=100000:=by show _+1<=_;omega
  fail "R"
  refine .inl ⟨t,rfl,by omega,lq,?_⟩
  rw[←et]
  fail "R"
  intro p1 hp1
  have s1:=same_new hp1 (.tup [.str (ofL (t.cps.toList++[58]))])
  have h1:SqT K (upd H p1 (.tup [.str (ofL (t.cps.toList++[58]))])) p1 [.str (ofL (t.cps.toList++[58]))]:=SqT.of upd_same
  have sq1:=sq.same s1
  have sqb1:=sqb.same s1
  have lc:([.str (ofL (t.cps.toList++[58]))]:List V).length+us.length<=sizeLine:=small (by rw[lb];show 1+_<=_;omega)
  generalize upd H p1 (.tup [.str (ofL (t.cps.toList++[58]))])=H1 at s1 h1 sq1 sqb1⊢
  fail "R"
  intro c2 H2 s2 sq2
  have lc2:([.str (ofL (t.cps.toList++[58]))]++us:List V).length<=1000:=by rw[List.length_append,lb];show 1+_<=_;omega
  fail "R"
  intro q H' s' hq h'
  have s0:=(s1.trans s2).trans s'
  refine k q _ _ s0 ((s1.trans s2).free hq) h' ?_
  refine brk_rps (xs:=.inr (ofL (t.cps.toList++[58]))::kd ks) ?_
  simp only[List.map_cons,kr]
  exact .cons .s (rb.same s0)
 |mat arms =>
  have arl:ks.length=arms.length+1:=eq_of_beq (show(ks.length == arms.length+1)=true from ar)
  cases ks with
  |nil=>cases arl
  |cons k0 kr' =>
   obtain⟨a,v1,v2,v3,rfl,sq,g1,g2,g3⟩:=(show Rp K H (.t [.s "match",enc k0,.t (List.zipWith armT arms (kr'.map enc))]) v from r).t3
   obtain rfl:=g1.inv_s
   obtain⟨b,us,rfl,sqb,rb⟩:=g3.inv_t
   rw[←arms_encs]at rb
   have lz:(arms.zip kr').length<=800:=by rw[List.length_zip];rw[List.length_cons]at wl;omega
   have la:∀z∈arms.zip kr',z.1.2.length<=800:=fun z hz=>wh z.1 (List.of_mem_zip (a:=z.1) (b:=z.2) hz).1
   have a0:atI [V.str "match",v2,.ref b] 0=some (.str "match"):=at0 _ _
   have a1:atI [V.str "match",v2,.ref b] 1=some v2:=atI_nat (j:=1) rfl
   have a2:atI [V.str "match",v2,.ref b] 2=some (.ref b):=atI_nat (j:=2) rfl
   fail "R"
   intro q ws H' s' hq h' r2
   exact k q ws H' s' hq h' r2
end
def spWrt(K:PySem.W.Frag)(gS:Addr):Sp:=fun vs H Q _=>∃(v:V) (tm:Tm),vs=[v,.ref gS]/\Rp K H (enc tm) v/\TmOk tm/\Wd tm/\(bw tm).txt.length<=3000/\∀H',Same H H'->Q (.str (ofL (bw tm).txt)) H'
def spTtx(K:PySem.W.Frag):Sp:=fun vs H Q _=>∃(v:V) (tm:Tm),vs=[v]/\Rp K H (enc tm) v/\TmOk tm/\Wd tm/\(bw tm).txt.length<=3000/\∀H',Same H H'->Q (.str (ofL (bw tm).txt)) H'
structure WrI(K:PySem.W.Frag) (H:Hp) (o l:Addr) (tx:List Nat) (m:Nat) (H2:Hp):Prop where
 s:Same H H2
 x:∃(ts:List Str) (ws:List V) (xs:List Sx),H2 o=some (.lst (ts.map V.str))/\H2 l=some (.lst ws)/\Rps K H2 (xs.map resT) ws.reverse/\(∀x∈xs,pcOk x)/\ts.flatMap (·.cps.toList)++xs.flatMap sxL=tx/\mus xs=m/\ts.length<=(ts.flatMap (·.cps.toList)).length
structure WrJ(K:PySem.W.Frag) (H:Hp) (o l:Addr) (tx:List Nat) (m:Nat) (H2:Hp):Prop where
 x:∃m',m' < m/\WrI K H o l tx m' H2
section
variable {P:Program}{w:World}{K:PySem.W.Frag}{mg:Str->Option Value}{base:Heap}{gS gW:Addr}{sfd wfd:FuncData}
theorem nm_written:Nm ["thing","spell","told","waiting","here"] (defScope s_written):=by decide +kernel
theorem lm_written:Lm ["thing","spell","told","waiting","here"] (defScope s_written):=by decide +kernel
theorem sc_written:FnScope ["thing","spell","told","waiting","here"] ["thing","spell"] (defScope s_written):=⟨rfl,rfl,rfl,by decide +kernel,rfl,by decide +kernel,by decide +kernel⟩
theorem ok_written{f:Addr}{fd:FuncData}(F:Fun K "written" "written" s_written f fd)(SPT:Has P w K mg base "spell_term" 3 ["term"] (spSpT K) gS sfd)(z_isinstance:mg "isinstance"=none)(z_str:mg "str"=none):FnOk P w K mg base CX0 4 f fd ["thing","spell"] (spWrt K gS):=by
 refine F.ok sc_written (fun vs H Q E h=>?_) (fun cdv A outer s H vs Q E hr h=>?_)
 ·obtain⟨_,_,rfl,_⟩:=h
  rfl
 obtain⟨v,tm,rfl,r,ht,hw,hl,k⟩:=h
 refine⟨_,(@pss_cons _ _ _ _ _ (sa sc_written.nd lm_written 2 (pe_lst pa_nil)) (@pss_cons _ _ _ _ _ (@sa _ _ _ _ _ _ sc_written.nd lm_written 3 (@pe_lst _ _ _ _ (pa_c (va nm_written 0) pa_nil)) (by rfl) (by kernel_rfl) (by exact .inl rfl)) (@pss_cons _ _ _ _ _ (@ps_while _ _ _ _ _ _ PassesOwn.never (pt_truth (va nm_written 3) (fun _=>rfl)) (@pss_cons _ _ _ _ _ (@sa _ _ _ _ _ _ sc_written.nd lm_written 4 (pe_bm0 PySem.F.plainAttrs_list PySem.F.slot_list_pop PySem.F.type_list_pop mt_pop (va nm_written 3)) (by rfl) (by kernel_rfl) (by exact .inl rfl)) (@pss_one _ _ _ (@ps_if _ _ _ _ _ _ _ _ (@pt_val _ _ _ (@pe_callB _ _ _ _ _ _ _ _ _ (call_isSt K rfl) (by show _=_;kernel_rfl) z_isinstance PyProof.Rows.boot_isinstance (@pa_c _ _ _ _ _ (va nm_written 4) (pa_c (pe_bltn (v:=.ty "str") (by show _=_;kernel_rfl) z_str (by decide +kernel) rfl) pa_nil) (by rfl)) (by decide) (by decide) (by rfl) (by rfl)) (by intro _;rfl)) (@pss_one _ _ _ (@ps_expr _ _ _ _ (@pe_bm _ _ _ _ _ _ _ _ _ _ _ _ PySem.F.plainAttrs_list PySem.F.slot_list_append PySem.F.type_list_append mt_append (va nm_written 2) (pa_c (va nm_written 4) pa_nil) (by rfl) (by rfl) (by rfl) (by rfl) (by rfl)) (by rfl))) (@pss_one _ _ _ (@ps_expr _ _ _ _ (@pe_bm _ _ _ _ _ _ _ _ _ _ _ _ PySem.F.plainAttrs_list PySem.F.slot_list_extend PySem.F.type_list_extend mt_extend (va nm_written 3) (@pa_c _ _ _ _ _ (@pe_slice3 _ _ _ _ _ _ _ _ _ _ _ (@pe_callV _ (fun f sp=>f=gS/\sp=spSpT K) _ _ _ _ _ _ _ (fun f sp h=>by obtain⟨rfl,rfl⟩:=h;exact⟨3,_,_,SPT.ok,hr.mono (by omega),SPT.kp,SPT.bd⟩) (va nm_written 1) (pa_c (va nm_written 4) pa_nil) (by rfl) (by rfl)) po_none po_none (po_some (pe_un un_neg pe_int))) pa_nil (by rfl)) (by rfl) (by rfl) (by rfl) (by rfl) (by rfl)) (by rfl))))))) (@pss_one _ _ _ (@ps_ret _ _ _ _ (@pe_bm _ _ _ _ _ _ _ _ _ _ _ _ PySem.F.plainAttrs_str PySem.F.slot_str_join PySem.F.type_str_join mt_join pe_str (pa_c (va nm_written 2) pa_nil) (by kernel_rfl) (by kernel_rfl) (by kernel_rfl) (by kernel_rfl) (by kernel_rfl))))))),?_⟩
 try dsimp only[cx_K]
 try dsimp only[cx_K,cx_w]
 refine seq_cut3 ?_
 intro N1 N2 N3 c1 c2 c3
 fail "R"
 intro o ho
 have s1:=same_new ho (.lst [])
 have h1:upd H o (.lst []) o=some (.lst []):=upd_same
 have r1:=r.same s1
 generalize upd H o (.lst [])=H1 at s1 h1 r1⊢
 fail "R"
 intro l hl1
 have s2:=same_new hl1 (.lst [v])
 have h2:upd H1 l (.lst [v]) l=some (.lst [v]):=upd_same
 have h2o:=s2 _ _ h1
 have r2:=r1.same s2
 have hlo:o≠l:=fun e=>by rw[←e,h1]at hl1;cases hl1
 have hlH:H l=none:=s1.free hl1
 generalize upd H1 l (.lst [v])=H2 at s2 h2 h2o r2⊢
 have i0:WrI K H o l (bw tm).txt (2*(bw tm).txt.length) H2:=⟨s1.trans s2,[],[v],[.inl tm],h2o,h2,.one r2,fun x hx=>by rw[List.mem_singleton.mp hx];exact⟨ht,hw⟩,by simp[sxL],rfl,Nat.le_refl _⟩
 fail "R"
 refine⟨fun m σ H3=>(∃y,σ=[some v,some (.ref gS),some (.ref o),some (.ref l),y])/\WrI K H o l (bw tm).txt m H3,⟨_,⟨_,rfl⟩,i0⟩,?_⟩
 rintro m σ H3 ⟨⟨y,rfl⟩,⟨s3,ts,ws,xs,h3o,h3l,r3,ok3,e3,m3,l3⟩⟩
 cases xs with
 |nil =>
  have ews:ws=[]:=by
   have:=r3.length
   rw[List.length_reverse]at this
   exact List.length_eq_zero_iff.mp this
  subst ews
  have e3':ts.flatMap (·.cps.toList)=(bw tm).txt:=by rw[←e3];simp
  have sj:=sum_txt ts
  have hj:(ts.map (·.length)).sum+ts.length*("":Str).length<=16777216:=by
   rw[sj,e3',show("":Str).length=0 from rfl]
   omega
  have sqo:SqL K H3 o (ts.map V.str):=SqL.of h3o
  fail "R"
  rw[join_emp,e3']
  exact k _ s3
 |cons x xr =>
  obtain⟨u,us,eu,g1,r4⟩:=L2.Rps.inv (show Rps K H3 (resT x::xr.map resT) ws.reverse from r3)
  have ews:ws=us.reverse++[u]:=by rw[←List.reverse_cons,←eu,List.reverse_reverse]
  subst ews
  have okx:=ok3 x (.head _)
  have okr:∀y∈xr,pcOk y:=fun y hy=>ok3 y (.tail _ hy)
  have m3':mu x+mus xr=m:=m3
  have ml:1<=mu x:=mu_pos okx
  have nel:(us.reverse++[u]).isEmpty=false:=by simp
  have pp:=popR (us:=us) (u:=u)
  have dl:(us.reverse++[u]).dropLast=us.reverse:=List.dropLast_concat
  have kt:Kt H3 (upd H3 l (.lst us.reverse)):=Kt.lst h3l _
  have h4o:upd H3 l (.lst us.reverse) o=some (.lst (ts.map V.str)):=by rw[upd_ne hlo];exact h3o
  have h4l:upd H3 l (.lst us.reverse) l=some (.lst us.reverse):=upd_same
  have s4:Same H (upd H3 l (.lst us.reverse)):=s3.updF hlH _
  have g2:=g1.kt kt
  have r5:=r4.kt kt
  have lts:ts.length<=3000:=by
   have:=congrArg List.length e3
   rw[List.length_append]at this
   omega
  have ltm:(ts.map V.str).length<sizeLine:=by rw[List.length_map,sizeLine_eq];omega
  fail "R"
  refine ifT (b:=!(us.reverse++[u]).isEmpty) (by rw[nel];rfl) ?_
  refine⟨fun σ' H'=>(∃y,σ'=[some v,some (.ref gS),some (.ref o),some (.ref l),y])/\WrJ K H o l (bw tm).txt m H',fun σ' H' h=>by obtain⟨h1,m',h2,h3⟩:=h;exact⟨m',h2,h1,h3⟩,?_⟩
  fail "R"
  rw[dl]
  generalize upd H3 l (.lst us.reverse)=H4 at kt h4o h4l s4 g2 r5⊢
  cases x with
  |inr z =>
   obtain rfl:=(show Rp K H4 (.s z) u from g2).inv_s
   fail "R"
   refine .inr (.inl ⟨_,rfl,?_⟩)
   fail "R"
   have lz:1<=z.cps.toList.length:=ml
   have mz:z.cps.toList.length+mus xr=m:=m3'
   refine⟨mus xr,by omega,s4.updF ho _,ts++[z],us.reverse,xr,by rw[upd_same,List.map_append];rfl,by rw[upd_ne (Ne.symm hlo)];exact h4l,?_,okr,?_,rfl,?_⟩
   ·rw[List.reverse_reverse]
    exact r5.kt (Kt.lst h4o _)
   ·rw[←e3,List.flatMap_append,List.flatMap_singleton,List.append_assoc]
    rfl
   ·rw[List.flatMap_append,List.flatMap_singleton,List.length_append,List.length_append]
    show ts.length+1<=_
    omega
  |inl t =>
   have g2':Rp K H4 (enc t) u:=g2
   obtain⟨es,ee⟩:=enc_t t
   rw[show resT (.inl t)=.t es from ee]at g2
   obtain⟨a,vs,rfl,sqa,_⟩:=g2.inv_t
   have tok:=okx.1
   have twd:=okx.2
   fail "R"
   refine .inl ⟨_,_,rfl,sqa,?_⟩
   fail "R"
   intro q wq H5 s5 hq h5 r6
   have sqq:SqL K H5 q wq:=SqL.of h5
   have pr:=pick_rev wq
   have mp:=mus_pcs tok twd
   have pok:=pcs_ok tok twd
   have lp:=len_mus pok
   have lq:=r6.length
   rw[List.length_map]at lq
   have m2:=mus_le (.inl t::xr)
   have e3l:=congrArg List.length e3
   rw[List.length_append]at e3l
   have mt:mus (.inl t::xr)=mu (.inl t)+mus xr:=rfl
   have m5:mus xr+mus (pcs t)<m:=by omega
   have m6:m<=6000:=by omega
   have lr:=len_mus okr
   have lus:=r5.length
   rw[List.length_map]at lus
   have lsz:(pickV wq none none (some (-1))).length<=sizeLine:=small6 (by rw[pr,List.length_reverse];omega)
   fail "R"
   rw[pr]
   intro p7 hp7
   have s7:=same_new hp7 (.lst wq.reverse)
   have h7:upd H5 p7 (.lst wq.reverse) p7=some (.lst wq.reverse):=upd_same
   have s47:=s5.trans s7
   have r7:=r6.same s7
   generalize upd H5 p7 (.lst wq.reverse)=H7 at s7 h7 s47 r7⊢
   have h7l:=s47 _ _ h4l
   have h7o:=s47 _ _ h4o
   have r8:=r5.same s47
   have s07:=s4.trans s47
   have lx:us.reverse.length+wq.reverse.length<=sizeLine:=small6 (by rw[List.length_reverse,List.length_reverse];omega)
   fail "R"
   refine⟨mus (pcs t++xr),by rw[mus_app];omega,s07.updF hlH _,ts,us.reverse++wq.reverse,pcs t++xr,by rw[upd_ne hlo];exact h7o,upd_same,?_,?_,?_,rfl,l3⟩
   ·rw[List.reverse_append,List.reverse_reverse,List.reverse_reverse,List.map_append]
    have kt9:Kt H7 (upd H7 l (.lst (us.reverse++wq.reverse))):=Kt.lst h7l _
    exact(r7.kt kt9).append (r8.kt kt9)
   ·intro y hy
    rcases List.mem_append.mp hy with hy|hy
    ·exact pok y hy
    ·exact okr y hy
   ·rw[←e3,List.flatMap_append,pcs_txt tok]
    rfl
theorem nm_term_text:Nm ["term"] (defScope s_term_text):=by decide +kernel
theorem sc_term_text:FnScope ["term"] ["term"] (defScope s_term_text):=⟨rfl,rfl,rfl,by decide +kernel,rfl,by decide +kernel,by decide +kernel⟩
theorem ok_ttx{f:Addr}{fd:FuncData}(F:Fun K "term_text" "term_text" s_term_text f fd)(SPT:Has P w K mg base "spell_term" 3 ["term"] (spSpT K) gS sfd)(WRT:Has P w K mg base "written" 4 ["thing","spell"] (spWrt K gS) gW wfd):FnOk P w K mg base CX0 5 f fd ["term"] (spTtx K):=by
 refine F.ok sc_term_text (fun vs H Q E h=>?_) (fun cdv A outer s H vs Q E hr h=>?_)
 ·obtain⟨_,_,rfl,_⟩:=h
  rfl
 obtain⟨v,tm,rfl,r,ht,hw,hl,k⟩:=h
 refine⟨_,(@pss_one _ _ _ (@ps_ret _ _ _ _ (@pe_call _ _ _ _ _ _ _ _ _ _ _ _ _ _ _ _ WRT.ok (hr.mono (by omega)) (by show _=_;kernel_rfl) WRT.at' WRT.kp WRT.bd .nil pass0 (@pa_c _ _ _ _ _ (va nm_term_text 0) (pa_c (pe_glob (v:=.ref gS) (by show _=_;kernel_rfl) SPT.at' rfl) pa_nil) (by rfl)) (by decide) (by rfl) (by rfl)))),?_⟩
 try dsimp only[cx_K]
 try dsimp only[cx_K,cx_w]
 fail "R"
 intro H' s'
 exact k _ s'
end
def spLaw(K:PySem.W.Frag):Sp:=fun vs H Q _=>∃(a:Addr) (ns:List Int),vs=[.ref a]/\SqL K H a (ns.map V.int)/\ns.length<=63/\∀H',Q (.bl true) H'
theorem sc_new2{H:Hp}{f d wl:Addr}{xs:List Str}{m:Int}{kv:List (Key×V)}(hd:H d=some (.dK kv))(ndf:d≠f)(hw:H wl=some (.lst (xs.map V.str)))(nwf:wl≠f)(hf:FeedAt H f)(x1:1<=xs.length)(x2:xs.length<=100)(xo:∀x∈xs,nmOk x)(m0:0<=m)(m1:m<=100):Sc (upd H d (.dK (scL wl m))) f d wl xs:=by
 obtain⟨p,q,e⟩:=hf
 have n1:wl≠d:=fun z=>by(rw[z,hd]at hw;cases hw)
 exact⟨⟨m,upd_same,m0,m1⟩,by rw[upd_ne n1];exact hw,x1,x2,xo,⟨p,q,by rw[upd_ne (Ne.symm ndf)];exact e⟩,ndf,nwf⟩
structure PrAt(K:PySem.W.Frag) (H:Hp) (x:V):Prop where
 ex:∃(p:Addr) (v:V) (tm:Tm),x=.ref p/\SqT K H p [v,.str (txS tm)]/\Rp K H (enc tm) v/\Fit tm
theorem PrAt.kt{K:PySem.W.Frag}{H H':Hp}{x:V}(h:PrAt K H x)(s:Kt H H'):PrAt K H' x:=by
 obtain⟨p,v,tm,e,sq,r,f⟩:=h.ex
 exact⟨p,v,tm,e,sq.kt s,r.kt s,f⟩
structure LI(K:PySem.W.Frag) (H:Hp) (p1:Addr) (m:Nat) (H5:Hp):Prop where
 x:∃us,H5 p1=some (.lst us)/\us.length=m/\(∀u∈us,PrAt K H5 u)/\Same H H5
section
variable {P:Program}{w:World}{K:PySem.W.Frag}{mg:Str->Option Value}{base:Heap}{gF gT gW gA gL gR gX gG gK:Addr}{ffd tfd wfd afd lfd rfd xfd gfd kfd:FuncData}
theorem nm_law:Nm ["_law_script","_law_some","_law_k","_law_feed_here","_law_words","_law_term","_law_text"] (defScope s_law):=by decide +kernel
theorem lm_law:Lm ["_law_script","_law_some","_law_k","_law_feed_here","_law_words","_law_term","_law_text"] (defScope s_law):=by decide +kernel
theorem sc_law:FnScope ["_law_script","_law_some","_law_k","_law_feed_here","_law_words","_law_term","_law_text"] ["_law_script"] (defScope s_law):=⟨rfl,rfl,rfl,by decide +kernel,rfl,by decide +kernel,by decide +kernel⟩
theorem ok_law{f:Addr}{fd:FuncData}{jr:Nat}(hjr:jr<=66)(F:Fun K "law" "law" s_law f fd)(FD:Has P w K mg base "_law_feed" 1 ["_law_script","_law_k"] (spFeed K) gF ffd)(TK:Has P w K mg base "_law_take" 1 ["_law_feed_here","_law_many"] spTake gT tfd)(LWD:Has P w K mg base "_law_word" 2 ["_law_feed_here"] spWord gW wfd)
  (ATE:Has P w K mg base "_law_any_term" 24 ["_law_feed_here","_law_scene","_law_room","_law_down"] (spAte K 10) gA afd) (LTT:Has P w K mg base "_law_term_text" 33 ["_law_term"] (spLtt K 16) gL lfd) (RDT:Has P w K mg base "read_term" jr ["text"] (spRead K) gR rfd) (LA:Has P w K mg base "_law_alike" 66 ["_law_found","_law_due"] (spAlike K 65) gX xfd)
  (TTX:Has P w K mg base "term_text" 5 ["term"] (spTtx K) gK kfd) (LG:Has P w K mg base "_law_greater" 67 ["_law_script"] (spGreater K) gG gfd) (z_range:mg "range"=none) (z_max:mg "max"=none) (z_len:mg "len"=none):FnOk P w K mg base CX0 68 f fd ["_law_script"] (spLaw K):=by
 refine F.ok sc_law (fun vs H Q E h=>?_) (fun cdv A outer s H vs Q E hr h=>?_)
 ·obtain⟨a,ns,rfl,_⟩:=h
  rfl
 obtain⟨a,ns,rfl,hS,hn,k⟩:=h
 refine⟨_,(@pss_cons _ _ _ _ _ (sa sc_law.nd lm_law 1 (pe_lst pa_nil)) (@pss_cons _ _ _ _ _ (@ps_for _ _ _ _ _ _ _ _ PassesOwn.never rfl (@pi_range1 _ _ _ _ _ _ (by show _=_;kernel_rfl) z_range (@pa_c _ _ _ _ _ (@pe_callB _ _ _ _ _ _ _ _ _ (call_max2 rfl) (by show _=_;kernel_rfl) z_max PyProof.Rows.boot_max (@pa_c _ _ _ _ _ pe_int (@pa_c _ _ _ _ _ (@pe_callB _ _ _ _ _ _ _ _ _ call_len_seq (by show _=_;kernel_rfl) z_len PySem.boot_len (@pa_c _ _ _ _ _ (pe_slice sl_list (va nm_law 0) po_none (po_some pe_int)) pa_nil (by rfl)) (by decide) (by decide) (by rfl) (by rfl)) pa_nil (by rfl)) (by rfl)) (by decide) (by decide) (by rfl) (by rfl)) pa_nil (by rfl)) (by rfl)) (ga sc_law.nd lm_law 2) (@pss_cons _ _ _ _ _ (@sa _ _ _ _ _ _ sc_law.nd lm_law 3 (@pe_call _ _ _ _ _ _ _ _ _ _ _ _ _ _ _ _ FD.ok (hr.mono (by omega)) (by show _=_;kernel_rfl) FD.at' FD.kp FD.bd .nil pass0 (@pa_c _ _ _ _ _ (va nm_law 0) (pa_c (va nm_law 2) pa_nil) (by rfl)) (by decide) (by rfl) (by rfl)) (by rfl) (by kernel_rfl) (by exact .inl rfl)) (@pss_cons _ _ _ _ _ (@ps_compC _ _ _ _ _ _ _ _ _ _ _ _ _ _ _ (defScope s_law) ["_law_script","_law_some","_law_k","_law_feed_here","_law_words","_law_term","_law_text"] ["_law_j"] [3] rfl rfl rfl (by decide +kernel) (@pi_range1 _ _ _ _ _ _ (by show _=_;kernel_rfl) z_range (@pa_c _ _ _ _ _ (@pe_op _ _ _ _ _ _ _ _ op_add pe_int (@pe_call _ _ _ _ _ _ _ _ _ _ _ _ _ _ _ _ TK.ok (hr.mono (by omega)) (by show _=_;kernel_rfl) TK.at' TK.kp TK.bd .nil pass0 (pa_c (va nm_law 3) (pa_c pe_int pa_nil)) (by decide) (by rfl) (by rfl))) pa_nil (by rfl)) (by rfl)) (fun _ _ _ _=>(pg_name (i:=0) (show(["_law_j","_law_feed_here"]:List Str).Nodup by decide +kernel) rfl (Or.inl (by kernel_rfl)) (by first|exact .inl rfl|exact .inr (by kernel_rfl)))) (fun _ _ _ _=>pifs_nil) (fun _ _ _ _=>(@pe_call _ _ _ _ _ _ _ _ _ _ _ _ _ _ _ _ LWD.ok (hr.mono (by omega)) (by show _=_;kernel_rfl) LWD.at' LWD.kp LWD.bd .nil pass0 (pa_c (va (show Nm ["_law_j","_law_feed_here"] _ by show _=_;kernel_rfl) 1) pa_nil) (by decide) (by rfl) (by rfl))) (ga sc_law.nd lm_law 4) (by kernel_rfl) (by intro _;rfl)) (@pss_cons _ _ _ _ _ (@sa _ _ _ _ _ _ sc_law.nd lm_law 5 (@pe_call _ _ _ _ _ _ _ _ _ _ _ _ _ _ _ _ ATE.ok (hr.mono (by omega)) (by show _=_;kernel_rfl) ATE.at' ATE.kp ATE.bd .nil pass0 (@pa_c _ _ _ _ _ (va nm_law 3) (@pa_c _ _ _ _ _ (@pe_disp2 _ _ _ _ _ _ _ _ _ _ pe_str (va nm_law 4) pe_str (@pe_call _ _ _ _ _ _ _ _ _ _ _ _ _ _ _ _ TK.ok (hr.mono (by omega)) (by show _=_;kernel_rfl) TK.at' TK.kp TK.bd .nil pass0 (pa_c (va nm_law 3) (pa_c pe_int pa_nil)) (by decide) (by rfl) (by rfl))) (@pa_c _ _ _ _ _ (@pe_op _ _ _ _ _ _ _ _ op_add pe_int (@pe_call _ _ _ _ _ _ _ _ _ _ _ _ _ _ _ _ TK.ok (hr.mono (by omega)) (by show _=_;kernel_rfl) TK.at' TK.kp TK.bd .nil pass0 (pa_c (va nm_law 3) (pa_c pe_int pa_nil)) (by decide) (by rfl) (by rfl))) (pa_c pe_int pa_nil) (by rfl)) (by rfl)) (by rfl)) (by decide) (by rfl) (by rfl)) (by rfl) (by kernel_rfl) (by exact .inl rfl)) (@pss_one _ _ _ (@ps_expr _ _ _ _ (@pe_bm _ _ _ _ _ _ _ _ _ _ _ _ PySem.F.plainAttrs_list PySem.F.slot_list_append PySem.F.type_list_append mt_append (va nm_law 1) (@pa_c _ _ _ _ _ (@pe_tup _ _ _ _ _ (@pa_c _ _ _ _ _ (va nm_law 5) (@pa_c _ _ _ _ _ (@pe_call _ _ _ _ _ _ _ _ _ _ _ _ _ _ _ _ LTT.ok (hr.mono (by omega)) (by show _=_;kernel_rfl) LTT.at' LTT.kp LTT.bd .nil pass0 (pa_c (va nm_law 5) pa_nil) (by decide) (by rfl) (by rfl)) pa_nil (by rfl)) (by rfl))) pa_nil (by rfl)) (by rfl) (by rfl) (by rfl) (by rfl) (by rfl)) (by rfl)))))) (by intro _;rfl)) (@pss_cons _ _ _ _ _ (@ps_for _ _ _ _ _ _ _ _ PassesOwn.never rfl (@pi_list _ _ _ _ (@pe_op _ _ _ _ _ _ _ _ op_cat (va nm_law 1) (@pe_slice3 _ _ _ _ _ _ _ _ _ _ _ (va nm_law 1) po_none po_none (po_some (pe_un un_neg pe_int))))) (@pg_tupK _ _ _ _ _ (2) K rfl rfl (@pgs_cons _ _ _ _ _ (ga sc_law.nd lm_law 5) (pgs_cons (ga sc_law.nd lm_law 6) pgs_nil) (by rfl)) (by rfl) (by rfl)) (@pss_one _ _ _ (@ps_if _ _ _ _ _ _ _ _ (PW.pt (@pw_or _ _ _ _ _ _ _ (@pt_not _ _ _ _ (@pt_val _ _ _ (@pe_call _ _ _ _ _ _ _ _ _ _ _ _ _ _ _ _ LA.ok (hr.mono (by omega)) (by show _=_;kernel_rfl) LA.at' LA.kp LA.bd .nil pass0 (@pa_c _ _ _ _ _ (@pe_call _ _ _ _ _ _ _ _ _ _ _ _ _ _ _ _ TTX.ok (hr.mono (by omega)) (by show _=_;kernel_rfl) TTX.at' TTX.kp TTX.bd .nil pass0 (pa_c (va nm_law 5) pa_nil) (by decide) (by rfl) (by rfl)) (pa_c (va nm_law 6) pa_nil) (by rfl)) (by decide) (by rfl) (by rfl)) (by intro _;rfl))) (@pw_or1 _ _ _ _ (@pt_not _ _ _ _ (@pt_val _ _ _ (@pe_call _ _ _ _ _ _ _ _ _ _ _ _ _ _ _ _ LA.ok (hr.mono (by omega)) (by show _=_;kernel_rfl) LA.at' LA.kp LA.bd .nil pass0 (@pa_c _ _ _ _ _ (@pe_call _ _ _ _ _ _ _ _ _ _ _ _ _ _ _ _ RDT.ok (hr.mono (by omega)) (by show _=_;kernel_rfl) RDT.at' RDT.kp RDT.bd .nil pass0 (pa_c (va nm_law 6) pa_nil) (by decide) (by rfl) (by rfl)) (pa_c (va nm_law 5) pa_nil) (by rfl)) (by decide) (by rfl) (by rfl)) (by intro _;rfl)))))) (pss_one (ps_ret pe_bl)) pss_nil)) (by intro _;rfl)) (@pss_one _ _ _ (@ps_ret _ _ _ _ (@pe_call _ _ _ _ _ _ _ _ _ _ _ _ _ _ _ _ LG.ok (hr.mono (by omega)) (by show _=_;kernel_rfl) LG.at' LG.kp LG.bd .nil pass0 (pa_c (va nm_law 0) pa_nil) (by decide) (by rfl) (by rfl))))))),?_⟩
 try dsimp only[cx_K]
 try dsimp only[cx_K]
 refine seq_cut3 ?_
 intro N1 N2 N3 c1 c2 c3
 fail "R"
 intro p1 hp1
 have s1:=same_new hp1 (.lst [])
 have h1:upd H p1 (.lst []) p1=some (.lst []):=upd_same
 generalize upd H p1 (.lst [])=H1 at s1 h1⊢
 have hS1:=s1.seq hS
 fail "R"
 intro p2 hp2
 rw[show(some (4:Int))=some ((4:Nat):Int)from rfl,cut_takeL]
 have s2:=same_new hp2 (.lst ((ns.map V.int).take 4))
 have h2:upd H1 p2 (.lst ((ns.map V.int).take 4)) p2=some (.lst ((ns.map V.int).take 4)):=upd_same
 generalize upd H1 p2 (.lst ((ns.map V.int).take 4))=H2 at s2 h2⊢
 have h2':SqL K H2 p2 ((ns.map V.int).take 4)\/SqT K H2 p2 ((ns.map V.int).take 4):=.inl (SqL.of h2)
 have l2:((ns.map V.int).take 4).length<=4:=by rw[List.length_take];omega
 generalize(ns.map V.int).take 4=ys at h2' l2 h2
 have hm:∃mx:Int,(if(ys.length:Int)>2 then(ys.length:Int)else 2)=mx/\0<=mx/\mx<=4:=by
  refine⟨_,rfl,?_⟩
  split<;>omega
 obtain⟨mx,emx,mx0,mx3⟩:=hm
 have s12:=s1.trans s2
 have h12:=s2 _ _ h1
 fail "R"
 rw[emx]
 fail "R"
 refine for_range (n:=mx.toNat) (fun i σ H5=>(∃x2 x3 x4 x5 x6,σ=[some (.ref a),some (.ref p1),x2,x3,x4,x5,x6])/\LI K H p1 i H5) ⟨⟨_,_,_,_,_,rfl⟩,⟨[],h12,rfl,(fun u hu=>nomatch hu),s12⟩⟩ ?_ ?_
 ·rintro i σ H5 hi ⟨⟨x2,x3,x4,x5,x6,rfl⟩,⟨us,h5,l5,d5,s5⟩⟩
  have hS5:=s5.seq hS
  have hi3:i<4:=by omega
  fail "R"
  intro r H6 s6 nr hf6
  fail "R"
  intro m H7 m0 m1 e7
  have hf7:=e7.2
  fail "R"
  refine comp_range (n:=(2+m).toNat) (fun i7 σ us5 H8=>(∃v,σ=[v,some (.ref r)])/\WsI r H7 i7 us5 H8) ⟨⟨none,rfl⟩,⟨[],Ext.refl hf7,rfl,rfl,fun y h=>nomatch h⟩⟩ (fun i7 σ us5 H8 _ h=>?_) (small (by omega)) ?_ ?_
  ·obtain⟨_,⟨ys8,_,rfl,e,_⟩⟩:=h
   rw[List.length_map,e];exact Nat.le_refl _
  ·rintro i7 σ us5 H8 hi7 ⟨⟨v,rfl⟩,⟨ys8,g8,rfl,l8,o8⟩⟩
   have hf8:=g8.2
   fail "R"
   intro y H9 e9 oy
   fail "R"
   refine⟨ys8++[y],g8.trans e9,by rw[List.map_append];rfl,by rw[List.length_append,l8];rfl,fun u hu=>?_⟩
   rcases List.mem_append.mp hu with hu|hu
   ·exact o8 u hu
   ·rw[List.mem_singleton.mp hu];exact oy
  rintro σ us8 H8 ⟨_,⟨xs,g8,rfl,l8,o8⟩⟩ wl hwl
  have nwf:=lst_ne_fd g8.2 hwl
  have s9:=same_new hwl (.lst (xs.map V.str))
  have h9:upd H8 wl (.lst (xs.map V.str)) wl=some (.lst (xs.map V.str)):=upd_same
  have e9:=(e7.trans g8).same s9
  generalize upd H8 wl (.lst (xs.map V.str))=H9 at s9 h9 e9⊢
  have s59:Same H5 H9:=fun b o e=>e9.1 _ _ (ne_of_none e nr) (s6 _ _ e)
  have hf9:=e9.2
  fail "R"
  intro d hd
  have s9d:=same_new hd (.dK [])
  have hf9d:=hf9.same s9d
  have h9d:upd H9 d (.dK []) d=some (.dK []):=upd_same
  have h9w:=s9d _ _ h9
  have ndf:d≠r:=lst_ne_fd hf9 hd
  have hdH5:H5 d=none:=s59.free hd
  have s59d:=s59.trans s9d
  generalize upd H9 d (.dK [])=H9d at s9d hf9d h9d h9w s59d⊢
  fail "R"
  intro m10 H10 m100 m101 e10
  have h10d:=e10.1 _ _ ndf h9d
  have h10w:=e10.1 _ _ nwf h9w
  have s510:Same H5 H10:=fun b o e=>e10.1 _ _ (ne_of_none e nr) (s59d _ _ e)
  fail "R"
  ·exact(show [(V.str "words",V.ref wl),(V.str "left",V.int m10)]=(scL wl m10).map (fun kv=>(kV kv.1,kv.2))from rfl)
  refine⟨by show 2<=15;decide,?_⟩
  rw[merge_sc]
  have x1:1<=xs.length:=by omega
  have x2:xs.length<=100:=by omega
  have sc:=sc_new2 (m:=m10) h10d ndf h10w nwf e10.2 x1 x2 o8 m100 (by omega)
  have s511:Same H5 (upd H10 d (.dK (scL wl m10))):=s510.updF hdH5 _
  generalize upd H10 d (.dK (scL wl m10))=H11 at sc s511⊢
  have hf11:=sc.ff
  fail "R"
  intro m12 H12 m120 m121 e12
  obtain⟨m13,rfl⟩:=Int.eq_ofNat_of_zero_le m120
  have g12:=(Go.refl sc).ext e12
  have sc12:=g12.sc
  have r1:1<=1+m13:=by omega
  have r2:1+m13<=100:=by omega
  fail "R"
  intro v10 H13 tm g13 r13 lt13
  have lt13':Lt tm 9 (1+m13):=lt13
  have fit:=lt13'.fit (by decide) (by omega)
  have g1113:=g12.trans g13
  have s513:Same H5 H13:=fun b o e=>g1113.get (s511 _ _ e) (ne_of_none e hdH5) (ne_of_none e nr)
  have h513:=s513 _ _ h5
  have f1:=fit.ok
  have f2:=fit.nw
  have f3:tm.depth<16:=by have:=fit.dp;omega
  have f4:=fit.sz
  fail "R"
  intro H11' s11
  have r11:=r13.same s11
  fail "R"
  intro p12 hp12
  have s12':=same_new hp12 (.tup [v10,.str (txS tm)])
  have h12':upd H11' p12 (.tup [v10,.str (txS tm)]) p12=some (.tup [v10,.str (txS tm)]):=upd_same
  have r12:=r11.same s12'
  generalize upd H11' p12 (.tup [v10,.str (txS tm)])=H14 at s12' h12' r12⊢
  have s512:=(s513.trans s11).trans s12'
  have h512:=s512 _ _ h5
  have lus:us.length<sizeLine:=small1000 (by omega)
  fail "R"
  refine⟨us++[.ref p12],upd_same,by rw[List.length_append,l5];rfl,fun u hu=>?_,(s5.trans s512).updF hp1 _⟩
  rcases List.mem_append.mp hu with h|h
  ·exact((d5 u h).kt (Kt.same s512)).kt (Kt.lst h512 _)
  ·rw[List.mem_singleton.mp h]
   exact PrAt.kt ⟨p12,v10,tm,rfl,SqT.of h12',r12,fit⟩ (Kt.lst h512 _)
 ·rintro σ H5 ⟨⟨x2,x3,x4,x5,x6,rfl⟩,⟨us,h5,l5,d5,s5⟩⟩
  have l5':us.length<=4:=by omega
  have hz:(pickV us none none (some (-1))).length<=sizeLine:=by rw[pick_rev,List.length_reverse];exact small (by omega)
  clear h2 h2' h12 s12 s2 hS1 s1 h1
  fail "R"
  intro p6 hp6
  rw[pick_rev]
  have s6:=same_new hp6 (.lst us.reverse)
  have e6:=s6 _ _ h5
  have e6':upd H5 p6 (.lst us.reverse) p6=some (.lst us.reverse):=upd_same
  have d6:∀u∈us,PrAt K (upd H5 p6 (.lst us.reverse)) u:=fun u h=>(d5 u h).kt (Kt.same s6)
  have s06:=s5.trans s6
  generalize upd H5 p6 (.lst us.reverse)=H6 at s6 e6 e6' d6 s06⊢
  have ll:us.length+us.reverse.length<=sizeLine:=Nat.le_of_lt (small1000 (by rw[List.length_reverse];omega))
  fail "R"
  intro p7 hp7
  have e7:upd H6 p7 (.lst (us++us.reverse)) p7=some (.lst (us++us.reverse)):=upd_same
  have s07:=s06.trans (same_new hp7 (.lst (us++us.reverse)))
  have d7:∀u∈us++us.reverse,PrAt K (upd H6 p7 (.lst (us++us.reverse))) u:=fun u h=>by
   have:u∈us:=by
    rcases List.mem_append.mp h with h|h
    ·exact h
    ·exact List.mem_reverse.mp h
   exact(d6 u this).kt (Kt.same (same_new hp7 _))
  have l7:(us++us.reverse).length<=8:=by rw[List.length_append,List.length_reverse];omega
  generalize upd H6 p7 (.lst (us++us.reverse))=H7 at e7 d7 s07⊢
  generalize us++us.reverse=ws at e7 d7 l7
  clear s6 e6 e6' d6 ll hp6 hp7 h5 d5 s06 hz
  fail "R"
  refine for_list (K:=K) (xs:=ws) (fun i σ H8=>(∃x2 x3 x4 x5 x6,σ=[some (.ref a),some (.ref p1),x2,x3,x4,x5,x6])/\Same H7 H8) ⟨⟨_,_,_,_,_,rfl⟩,Same.refl _⟩ ?_ ?_ ?_
  ·rintro i σ H8 hi ⟨_,s8⟩
   exact SqL.of (s8 _ _ e7)
  ·rintro i x σ H8 hx ⟨⟨_,_,_,_,_,rfl⟩,s8⟩
   obtain⟨p,v,tm,rfl,sq,r,fit⟩:=((d7 x (List.mem_of_getElem? hx)).kt (Kt.same s8)).ex
   have rs:∀H,Rp K H (.s (txS tm)) (.str (txS tm)):=fun _=>.s
   have tws:Tw (.s (txS tm)):=.s _
   have ds:(T.s (txS tm)).dep<65:=s_dep
   have f1:=fit.ok
   have f5:=fit.wd
   have f6:=fit.len
   have f7:=fit.tw
   have f8:=fit.dep
   fail "R"
   intro H9 s9
   have r9:=r.same s9
   have q9:Rp K H9 (.s (txS tm)) (.str (ofL (bw tm).txt)):=.s
   have q9':Rp K H9 (.s (txS tm)) (.str (txS tm)):=.s
   fail "R"
   intro H9' s9'
   have r9':=r9.same s9'
   fail "R"
   intro v10 H10 s10 r10
   have r10':=r9'.same s10
   fail "R"
   intro H11 s11
   fail "R"
   exact(((s8.trans s9).trans s9').trans s10).trans s11
  ·rintro σ H8 ⟨⟨_,_,_,_,_,rfl⟩,s8⟩
   have hS8:=(s07.trans s8).seq hS
   fail "R"
   exact k
end
def spClosed (K : PySem.W.Frag) : Sp := fun vs H Q _ => ∃ (hd : Str) (p : Addr) (us : List V), vs = [.str hd, .ref p] ∧ H p = some (.lst us) ∧
  ((∃ (h : Hd) (ks : List Tm) (ws : List Bw), TmOk (.mk h ks) ∧ leafH h = false ∧ bw (.mk h ks) = .g 40 (.a hd.cps.toList :: ws) ∧ Rps K H (ws.map val) us ∧ ws.length ≤ 900 ∧ ∀ v' H', Same H H' → Rp K H' (enc (.mk h ks)) v' → Q v' H') ∨
   (nmOk hd ∧ ∀ H', Same H H' → Q .non H'))
section
variable {P:Program}{w:World}{K:PySem.W.Frag}{mg:Str->Option Value}{base:Heap}{aO aS s1 s2 s3 s4 s5 s6 s7 gS gT gM gN gA:Addr}{sfd tfd mfd nfd afd:FuncData}
theorem nm_closed_term:Nm ["head","items"] (defScope s_closed_term):=by decide +kernel
theorem sc_closed_term:FnScope ["head","items"] ["head","items"] (defScope s_closed_term):=⟨rfl,rfl,rfl,by decide +kernel,rfl,by decide +kernel,by decide +kernel⟩
theorem ok_closed{f:Addr}{fd:FuncData}(F:Fun K "closed_term" "closed_term" s_closed_term f fd)(SH:Has P w K mg base "shaped" 4 ["shape","items"] (spShaped K) gS sfd)(TSO:Has P w K mg base "terms_of" 4 ["items"] (spTermsOf K) gM mfd)(TO:Has P w K mg base "term_of" 3 ["item"] (spTermOf K) gT tfd)(NO:Has P w K mg base "name_of" 2 ["item"] spNameOf gN nfd)(AO:Has P w K mg base "arm_of" 1 ["item"] (spArmOf K) gA afd)
  (z_tuple:mg "tuple"=none) (mO:mg "OPS"=some (.ref aO)) (hO:∀H,SqT K H aO opsV8) (mS:mg "SHAPES"=some (.ref aS)) (dS:KD K w aS (shpD s1 s2 s3 s4 s5 s6 s7))
  (h1:∀H,SqT K H s1 [.str "term",.str "term"]) (h2:∀H,SqT K H s2 [.str "term"]) (h3:∀H,SqT K H s3 [.str "term"]) (h4:∀H,SqT K H s4 [.str "term"]) (h5:∀H,SqT K H s5 [.str "term",.str "term",.str "term"]) (h6:∀H,SqT K H s6 [.str "name",.str "term",.str "term"]) (h7:∀H,SqT K H s7 [.str "term",.str "name",.str "name",.str "term",.str "term"]) :
  FnOk P w K mg base CX0 5 f fd ["head","items"] (spClosed K):=by
 refine F.ok sc_closed_term (fun vs H Q E h=>?_) (fun cdv A outer s H vs Q E hr h=>?_)
 ·obtain⟨_,_,_,rfl,_⟩:=h
  rfl
 obtain⟨hd,p,us,rfl,hp,hc⟩:=h
 refine⟨_,(@pss_cons _ _ _ _ _ (@ps_if _ _ _ _ _ _ _ _ (pt_cmpR op_in_seq (va nm_closed_term 0) (pe_glob (v:=.ref aO) (by show _=_;kernel_rfl) mO rfl) (by with_unfolding_all rfl)) (@pss_one _ _ _ (@ps_ret _ _ _ _ (@pe_op _ _ _ _ _ _ _ _ op_catT (@pe_tup _ _ _ _ _ (@pa_c _ _ _ _ _ pe_str (pa_c (va nm_closed_term 0) pa_nil) (by rfl))) (@pe_call _ _ _ _ _ _ _ _ _ _ _ _ _ _ _ _ SH.ok (hr.mono (by omega)) (by show _=_;kernel_rfl) SH.at' SH.kp SH.bd .nil pass0 (@pa_c _ _ _ _ _ (@pe_tup _ _ _ _ _ (pa_c pe_str (pa_c pe_str pa_nil))) (pa_c (va nm_closed_term 1) pa_nil) (by rfl)) (by decide) (by rfl) (by rfl))))) pss_nil) (@pss_cons _ _ _ _ _ (@ps_if _ _ _ _ _ _ _ _ (pt_cmpR op_inKD (va nm_closed_term 0) (pe_glob (v:=.ref aS) (by show _=_;kernel_rfl) mS rfl) (by with_unfolding_all rfl)) (@pss_one _ _ _ (@ps_ret _ _ _ _ (@pe_op _ _ _ _ _ _ _ _ op_catT (@pe_tup _ _ _ _ _ (pa_c (va nm_closed_term 0) pa_nil)) (@pe_call _ _ _ _ _ _ _ _ _ _ _ _ _ _ _ _ SH.ok (hr.mono (by omega)) (by show _=_;kernel_rfl) SH.at' SH.kp SH.bd .nil pass0 (@pa_c _ _ _ _ _ (pe_kget (pe_glob (v:=.ref aS) (by show _=_;kernel_rfl) mS rfl) (va nm_closed_term 0) (fun _ _=>rfl)) (pa_c (va nm_closed_term 1) pa_nil) (by rfl)) (by decide) (by rfl) (by rfl))))) pss_nil) (@pss_cons _ _ _ _ _ (@ps_if _ _ _ _ _ _ _ _ (pt_cmpR op_eq (va nm_closed_term 0) pe_str (nomark _)) (@pss_one _ _ _ (@ps_ret _ _ _ _ (@pe_tup _ _ _ _ _ (@pa_c _ _ _ _ _ pe_str (@pa_c _ _ _ _ _ (@pe_call _ _ _ _ _ _ _ _ _ _ _ _ _ _ _ _ TSO.ok (hr.mono (by omega)) (by show _=_;kernel_rfl) TSO.at' TSO.kp TSO.bd .nil pass0 (pa_c (va nm_closed_term 1) pa_nil) (by decide) (by rfl) (by rfl)) pa_nil (by rfl)) (by rfl))))) pss_nil) (@pss_cons _ _ _ _ _ (@ps_if _ _ _ _ _ _ _ _ (PW.pt (@pw_and _ _ _ _ _ _ _ (pt_cmpR op_eq (va nm_closed_term 0) pe_str (nomark _)) (@pw_and1 _ _ _ _ (pt_truth (va nm_closed_term 1) (fun _=>rfl))))) (@pss_one _ _ _ (@ps_ret _ _ _ _ (@pe_tup _ _ _ _ _ (@pa_c _ _ _ _ _ pe_str (@pa_c _ _ _ _ _ (@pe_call _ _ _ _ _ _ _ _ _ _ _ _ _ _ _ _ NO.ok (hr.mono (by omega)) (by show _=_;kernel_rfl) NO.at' NO.kp NO.bd .nil pass0 (@pa_c _ _ _ _ _ (pe_ix ix_list (va nm_closed_term 1) pe_int (fun _ _=>rfl)) pa_nil (by rfl)) (by decide) (by rfl) (by rfl)) (@pa_c _ _ _ _ _ (@pe_call _ _ _ _ _ _ _ _ _ _ _ _ _ _ _ _ TSO.ok (hr.mono (by omega)) (by show _=_;kernel_rfl) TSO.at' TSO.kp TSO.bd .nil pass0 (@pa_c _ _ _ _ _ (pe_slice sl_list (va nm_closed_term 1) (po_some pe_int) po_none) pa_nil (by rfl)) (by decide) (by rfl) (by rfl)) pa_nil (by rfl)) (by rfl)) (by rfl))))) pss_nil) (@pss_cons _ _ _ _ _ (@ps_if _ _ _ _ _ _ _ _ (PW.pt (@pw_and _ _ _ _ _ _ _ (pt_cmpR op_eq (va nm_closed_term 0) pe_str (nomark _)) (@pw_and1 _ _ _ _ (pt_truth (va nm_closed_term 1) (fun _=>rfl))))) (@pss_one _ _ _ (@ps_ret _ _ _ _ (@pe_tup _ _ _ _ _ (@pa_c _ _ _ _ _ pe_str (@pa_c _ _ _ _ _ (@pe_call _ _ _ _ _ _ _ _ _ _ _ _ _ _ _ _ TO.ok (hr.mono (by omega)) (by show _=_;kernel_rfl) TO.at' TO.kp TO.bd .nil pass0 (@pa_c _ _ _ _ _ (pe_ix ix_list (va nm_closed_term 1) pe_int (fun _ _=>rfl)) pa_nil (by rfl)) (by decide) (by rfl) (by rfl)) (@pa_c _ _ _ _ _ (@pe_callTy _ _ _ _ _ _ _ _ _ call_tuple_of (by show _=_;kernel_rfl) z_tuple PyProof.Rows.boot_tuple (@pa_c _ _ _ _ _ (@pe_compC _ _ _ _ _ _ _ _ _ _ _ (defScope s_closed_term) ["head","items"] ["item"] [] rfl rfl rfl (by decide +kernel) (@pi_list _ _ _ _ (pe_slice sl_list (va nm_closed_term 1) (po_some pe_int) po_none)) (fun _ _ _ _=>(pg_name (i:=0) (show(["item"]:List Str).Nodup by decide +kernel) rfl (Or.inl (by kernel_rfl)) (by first|exact .inl rfl|exact .inr (by kernel_rfl)))) (fun _ _ _ _=>pifs_nil) (fun _ _ _ _=>(@pe_call _ _ _ _ _ _ _ _ _ _ _ _ _ _ _ _ AO.ok (hr.mono (by omega)) (by show _=_;kernel_rfl) AO.at' AO.kp AO.bd .nil pass0 (pa_c (va (show Nm ["item"] _ by show _=_;kernel_rfl) 0) pa_nil) (by decide) (by rfl) (by rfl))) (by intro _;rfl)) pa_nil (by rfl)) (by decide) (by decide) (by rfl) (by rfl)) pa_nil (by rfl)) (by rfl)) (by rfl))))) pss_nil) (@pss_cons _ _ _ _ _ (@ps_if _ _ _ _ _ _ _ _ (@pt_val _ _ _ (pe_bm PySem.F.plainAttrs_str PySem.F.slot_str_endswith PySem.F.type_str_endswith mt_endswith (va nm_closed_term 0) (pa_c pe_str pa_nil) (hbase:=by kernel_rfl) (hfew:=by kernel_rfl) (hline:=by kernel_rfl) (hs:=by kernel_rfl) (hplain:=by kernel_rfl)) (by intro _;rfl)) (@pss_one _ _ _ (@ps_ret _ _ _ _ (@pe_tup _ _ _ _ _ (@pa_c _ _ _ _ _ pe_str (@pa_c _ _ _ _ _ (@pe_call _ _ _ _ _ _ _ _ _ _ _ _ _ _ _ _ NO.ok (hr.mono (by omega)) (by show _=_;kernel_rfl) NO.at' NO.kp NO.bd .nil pass0 (@pa_c _ _ _ _ _ (@pe_slice _ _ _ _ _ _ _ _ _ _ sl_str (va nm_closed_term 0) po_none (po_some (pe_un un_neg pe_int))) pa_nil (by rfl)) (by decide) (by rfl) (by rfl)) (@pa_c _ _ _ _ _ (@pe_call _ _ _ _ _ _ _ _ _ _ _ _ _ _ _ _ TSO.ok (hr.mono (by omega)) (by show _=_;kernel_rfl) TSO.at' TSO.kp TSO.bd .nil pass0 (pa_c (va nm_closed_term 1) pa_nil) (by decide) (by rfl) (by rfl)) pa_nil (by rfl)) (by rfl)) (by rfl))))) pss_nil) (pss_one (ps_ret pe_non)))))))),?_⟩
 try dsimp only[cx_K]
 try dsimp only[cx_K,cx_w]
 refine seq_cut6 ?_
 intro N1 N2 N3 N4 N5 N6 c1 c2 c3 c4 c5 c6
 have hO0:=hO H
 rcases hc with⟨h,ks,ws,⟨ar,ho,hk⟩,hl,eb,r,hn,k⟩|⟨hx,k⟩
 ·have fl:=ops_flat
  have kv:=kids_val fun q hq=>val_bw (hk q hq)
  have lw:=r.length
  rw[List.length_map]at lw
  cases h with
  |num n=>cases hl
  |name x=>cases hl
  |gap n=>cases hl
  |op s =>
   obtain⟨rfl,rfl⟩:=op_inv (s:=s) rfl eb
   have arl:ks.length=2:=eq_of_beq (show(ks.length == 2)=true from ar)
   obtain⟨k1,k2,rfl⟩:=ex2 arl
   have r:Rps K H (([.inl k1,.inl k2]:List Sx).map itT) us:=by
    have r':=r
    rw[kv]at r'
    exact r'
   have ok:∀z∈([.inl k1,.inl k2]:List Sx),sxOk z:=by
    intro z hz
    simp only[List.mem_cons,List.not_mem_nil,or_false]at hz
    rcases hz with rfl|rfl
    ·exact hk k1 (by simp)
    ·exact hk k2 (by simp)
   have n1:=ops_in (show hd∈opsS from ho)
   fail "R"
   refine ifT n1 ?_
   fail "R"
   intro p1 hp1
   have s1':=same_new hp1 (.tup [.str "op",.str hd])
   have h1':upd H p1 (.tup [.str "op",.str hd]) p1=some (.tup [.str "op",.str hd]):=upd_same
   generalize upd H p1 (.tup [.str "op",.str hd])=H1 at s1' h1' ⊢
   fail "R"
   intro p2 hp2
   have s2':=same_new hp2 (.tup [.str "term",.str "term"])
   have h2':upd H1 p2 (.tup [.str "term",.str "term"]) p2=some (.tup [.str "term",.str "term"]):=upd_same
   generalize upd H1 p2 (.tup [.str "term",.str "term"])=H2 at s2' h2' ⊢
   have s02:=s1'.trans s2'
   have hx1:=s2' _ _ h1'
   have sqs:SqT K H2 p2 (([.inl k1,.inl k2]:List Sx).map shpV):=SqT.of h2'
   have hp2':=s02 _ _ hp
   have r2':=r.same s02
   have l10:([.inl k1,.inl k2]:List Sx).length<=10:=Nat.le_of_ble_eq_true rfl
   fail "R"
   intro v' H3 s3' r3
   obtain⟨a3,us3,rfl,sq3,rs3⟩:=r3.inv_t
   have h3':=s3' _ _ hx1
   have lus3:=rs3.length
   have l3:us3.length=2:=lus3
   fail "R"
   ·simp
   refine⟨small (by rw[l3];exact Nat.le_of_ble_eq_true rfl),fun e=>absurd (congrArg List.length e) (by rw[l3];simp),fun _ p4 hp4=>k _ _ ((s02.trans s3').trans (same_new hp4 _)) ?_⟩
   rw[enc_mk]
   exact Rp.new (K:=K) hp4 (.cons .s (.cons .s rs3))
  |more =>
   obtain⟨rfl,rfl⟩:=op_inv (s:="more") rfl eb
   have arl:ks.length=2:=eq_of_beq (show(ks.length == 2)=true from ar)
   obtain⟨k1,k2,rfl⟩:=ex2 arl
   have r:Rps K H (([.inl k1,.inl k2]:List Sx).map itT) us:=by
    have r':=r
    rw[kv]at r'
    exact r'
   have ok:∀z∈([.inl k1,.inl k2]:List Sx),sxOk z:=by
    intro z hz
    simp only[List.mem_cons,List.not_mem_nil,or_false]at hz
    rcases hz with rfl|rfl
    ·exact hk k1 (by simp)
    ·exact hk k2 (by simp)
   have n1:=ops_out (shp_ops "more" (by decide +kernel))
   have n2:(shpD s1 s2 s3 s4 s5 s6 s7).lookup ("more":Str)=some (.ref s1):=by unfold shpD;rfl
   fail "R"
   intro p1 hp1
   have s1':=same_new hp1 (.tup [.str "more"])
   have h1':upd H p1 (.tup [.str "more"]) p1=some (.tup [.str "more"]):=upd_same
   generalize upd H p1 (.tup [.str "more"])=H1 at s1' h1' ⊢
   have s02:=s1'
   have hx1:=h1'
   have sqs:SqT K H1 s1 (([.inl k1,.inl k2]:List Sx).map shpV):=h1 H1
   have hp2':=s02 _ _ hp
   have r2':=r.same s02
   have l10:([.inl k1,.inl k2]:List Sx).length<=10:=Nat.le_of_ble_eq_true rfl
   fail "R"
   intro v' H3 s3' r3
   obtain⟨a3,us3,rfl,sq3,rs3⟩:=r3.inv_t
   have h3':=s3' _ _ hx1
   have lus3:=rs3.length
   have l3:us3.length=2:=lus3
   fail "R"
   ·exact small (by rw[l3];exact Nat.le_of_ble_eq_true rfl)
   refine⟨fun e=>absurd (congrArg List.length e) (by rw[l3];simp),fun _ p4 hp4=>k _ _ ((s02.trans s3').trans (same_new hp4 _)) ?_⟩
   rw[enc_mk]
   exact Rp.new (K:=K) hp4 (.cons .s rs3)
  |first =>
   obtain⟨rfl,rfl⟩:=op_inv (s:="first") rfl eb
   have arl:ks.length=1:=eq_of_beq (show(ks.length == 1)=true from ar)
   obtain⟨k1,rfl⟩:=ex1 arl
   have r:Rps K H (([.inl k1]:List Sx).map itT) us:=by
    have r':=r
    rw[kv]at r'
    exact r'
   have ok:∀z∈([.inl k1]:List Sx),sxOk z:=by
    intro z hz
    simp only[List.mem_cons,List.not_mem_nil,or_false]at hz
    rcases hz with rfl
    ·exact hk k1 (by simp)
   have n1:=ops_out (shp_ops "first" (by decide +kernel))
   have n2:(shpD s1 s2 s3 s4 s5 s6 s7).lookup ("first":Str)=some (.ref s2):=by unfold shpD;rfl
   fail "R"
   intro p1 hp1
   have s1':=same_new hp1 (.tup [.str "first"])
   have h1':upd H p1 (.tup [.str "first"]) p1=some (.tup [.str "first"]):=upd_same
   generalize upd H p1 (.tup [.str "first"])=H1 at s1' h1' ⊢
   have s02:=s1'
   have hx1:=h1'
   have sqs:SqT K H1 s2 (([.inl k1]:List Sx).map shpV):=h2 H1
   have hp2':=s02 _ _ hp
   have r2':=r.same s02
   have l10:([.inl k1]:List Sx).length<=10:=Nat.le_of_ble_eq_true rfl
   fail "R"
   intro v' H3 s3' r3
   obtain⟨a3,us3,rfl,sq3,rs3⟩:=r3.inv_t
   have h3':=s3' _ _ hx1
   have lus3:=rs3.length
   have l3:us3.length=1:=lus3
   fail "R"
   ·exact small (by rw[l3];exact Nat.le_of_ble_eq_true rfl)
   refine⟨fun e=>absurd (congrArg List.length e) (by rw[l3];simp),fun _ p4 hp4=>k _ _ ((s02.trans s3').trans (same_new hp4 _)) ?_⟩
   rw[enc_mk]
   exact Rp.new (K:=K) hp4 (.cons .s rs3)
  |others =>
   obtain⟨rfl,rfl⟩:=op_inv (s:="others") rfl eb
   have arl:ks.length=1:=eq_of_beq (show(ks.length == 1)=true from ar)
   obtain⟨k1,rfl⟩:=ex1 arl
   have r:Rps K H (([.inl k1]:List Sx).map itT) us:=by
    have r':=r
    rw[kv]at r'
    exact r'
   have ok:∀z∈([.inl k1]:List Sx),sxOk z:=by
    intro z hz
    simp only[List.mem_cons,List.not_mem_nil,or_false]at hz
    rcases hz with rfl
    ·exact hk k1 (by simp)
   have n1:=ops_out (shp_ops "others" (by decide +kernel))
   have n2:(shpD s1 s2 s3 s4 s5 s6 s7).lookup ("others":Str)=some (.ref s3):=by unfold shpD;rfl
   fail "R"
   intro p1 hp1
   have s1':=same_new hp1 (.tup [.str "others"])
   have h1':upd H p1 (.tup [.str "others"]) p1=some (.tup [.str "others"]):=upd_same
   generalize upd H p1 (.tup [.str "others"])=H1 at s1' h1' ⊢
   have s02:=s1'
   have hx1:=h1'
   have sqs:SqT K H1 s3 (([.inl k1]:List Sx).map shpV):=h3 H1
   have hp2':=s02 _ _ hp
   have r2':=r.same s02
   have l10:([.inl k1]:List Sx).length<=10:=Nat.le_of_ble_eq_true rfl
   fail "R"
   intro v' H3 s3' r3
   obtain⟨a3,us3,rfl,sq3,rs3⟩:=r3.inv_t
   have h3':=s3' _ _ hx1
   have lus3:=rs3.length
   have l3:us3.length=1:=lus3
   fail "R"
   ·exact small (by rw[l3];exact Nat.le_of_ble_eq_true rfl)
   refine⟨fun e=>absurd (congrArg List.length e) (by rw[l3];simp),fun _ p4 hp4=>k _ _ ((s02.trans s3').trans (same_new hp4 _)) ?_⟩
   rw[enc_mk]
   exact Rp.new (K:=K) hp4 (.cons .s rs3)
  |long =>
   obtain⟨rfl,rfl⟩:=op_inv (s:="long") rfl eb
   have arl:ks.length=1:=eq_of_beq (show(ks.length == 1)=true from ar)
   obtain⟨k1,rfl⟩:=ex1 arl
   have r:Rps K H (([.inl k1]:List Sx).map itT) us:=by
    have r':=r
    rw[kv]at r'
    exact r'
   have ok:∀z∈([.inl k1]:List Sx),sxOk z:=by
    intro z hz
    simp only[List.mem_cons,List.not_mem_nil,or_false]at hz
    rcases hz with rfl
    ·exact hk k1 (by simp)
   have n1:=ops_out (shp_ops "long" (by decide +kernel))
   have n2:(shpD s1 s2 s3 s4 s5 s6 s7).lookup ("long":Str)=some (.ref s4):=by unfold shpD;rfl
   fail "R"
   intro p1 hp1
   have s1':=same_new hp1 (.tup [.str "long"])
   have h1':upd H p1 (.tup [.str "long"]) p1=some (.tup [.str "long"]):=upd_same
   generalize upd H p1 (.tup [.str "long"])=H1 at s1' h1' ⊢
   have s02:=s1'
   have hx1:=h1'
   have sqs:SqT K H1 s4 (([.inl k1]:List Sx).map shpV):=h4 H1
   have hp2':=s02 _ _ hp
   have r2':=r.same s02
   have l10:([.inl k1]:List Sx).length<=10:=Nat.le_of_ble_eq_true rfl
   fail "R"
   intro v' H3 s3' r3
   obtain⟨a3,us3,rfl,sq3,rs3⟩:=r3.inv_t
   have h3':=s3' _ _ hx1
   have lus3:=rs3.length
   have l3:us3.length=1:=lus3
   fail "R"
   ·exact small (by rw[l3];exact Nat.le_of_ble_eq_true rfl)
   refine⟨fun e=>absurd (congrArg List.length e) (by rw[l3];simp),fun _ p4 hp4=>k _ _ ((s02.trans s3').trans (same_new hp4 _)) ?_⟩
   rw[enc_mk]
   exact Rp.new (K:=K) hp4 (.cons .s rs3)
  |ife =>
   obtain⟨rfl,rfl⟩:=op_inv (s:="if") rfl eb
   have arl:ks.length=3:=eq_of_beq (show(ks.length == 3)=true from ar)
   obtain⟨k1,k2,k3,rfl⟩:=ex3 arl
   have r:Rps K H (([.inl k1,.inl k2,.inl k3]:List Sx).map itT) us:=by
    have r':=r
    rw[kv]at r'
    exact r'
   have ok:∀z∈([.inl k1,.inl k2,.inl k3]:List Sx),sxOk z:=by
    intro z hz
    simp only[List.mem_cons,List.not_mem_nil,or_false]at hz
    rcases hz with rfl|rfl|rfl
    ·exact hk k1 (by simp)
    ·exact hk k2 (by simp)
    ·exact hk k3 (by simp)
   have n1:=ops_out (shp_ops "if" (by decide +kernel))
   have n2:(shpD s1 s2 s3 s4 s5 s6 s7).lookup ("if":Str)=some (.ref s5):=by unfold shpD;rfl
   fail "R"
   intro p1 hp1
   have s1':=same_new hp1 (.tup [.str "if"])
   have h1':upd H p1 (.tup [.str "if"]) p1=some (.tup [.str "if"]):=upd_same
   generalize upd H p1 (.tup [.str "if"])=H1 at s1' h1' ⊢
   have s02:=s1'
   have hx1:=h1'
   have sqs:SqT K H1 s5 (([.inl k1,.inl k2,.inl k3]:List Sx).map shpV):=h5 H1
   have hp2':=s02 _ _ hp
   have r2':=r.same s02
   have l10:([.inl k1,.inl k2,.inl k3]:List Sx).length<=10:=Nat.le_of_ble_eq_true rfl
   fail "R"
   intro v' H3 s3' r3
   obtain⟨a3,us3,rfl,sq3,rs3⟩:=r3.inv_t
   have h3':=s3' _ _ hx1
   have lus3:=rs3.length
   have l3:us3.length=3:=lus3
   fail "R"
   ·exact small (by rw[l3];exact Nat.le_of_ble_eq_true rfl)
   refine⟨fun e=>absurd (congrArg List.length e) (by rw[l3];simp),fun _ p4 hp4=>k _ _ ((s02.trans s3').trans (same_new hp4 _)) ?_⟩
   rw[enc_mk]
   exact Rp.new (K:=K) hp4 (.cons .s rs3)
  |lt x =>
   obtain⟨rfl,rfl⟩:=op_inv (s:="let") rfl eb
   have arl:ks.length=2:=eq_of_beq (show(ks.length == 2)=true from ar)
   obtain⟨k1,k2,rfl⟩:=ex2 arl
   have r:Rps K H (([.inr x,.inl k1,.inl k2]:List Sx).map itT) us:=by
    have r':=r
    rw[List.map_cons,val_atm,kv]at r'
    exact r'
   have ok:∀z∈([.inr x,.inl k1,.inl k2]:List Sx),sxOk z:=by
    intro z hz
    simp only[List.mem_cons,List.not_mem_nil,or_false]at hz
    rcases hz with rfl|rfl|rfl
    ·exact ho
    ·exact hk k1 (by simp)
    ·exact hk k2 (by simp)
   have n1:=ops_out (shp_ops "let" (by decide +kernel))
   have n2:(shpD s1 s2 s3 s4 s5 s6 s7).lookup ("let":Str)=some (.ref s6):=by unfold shpD;rfl
   fail "R"
   intro p1 hp1
   have s1':=same_new hp1 (.tup [.str "let"])
   have h1':upd H p1 (.tup [.str "let"]) p1=some (.tup [.str "let"]):=upd_same
   generalize upd H p1 (.tup [.str "let"])=H1 at s1' h1' ⊢
   have s02:=s1'
   have hx1:=h1'
   have sqs:SqT K H1 s6 (([.inr x,.inl k1,.inl k2]:List Sx).map shpV):=h6 H1
   have hp2':=s02 _ _ hp
   have r2':=r.same s02
   have l10:([.inr x,.inl k1,.inl k2]:List Sx).length<=10:=Nat.le_of_ble_eq_true rfl
   fail "R"
   intro v' H3 s3' r3
   obtain⟨a3,us3,rfl,sq3,rs3⟩:=r3.inv_t
   have h3':=s3' _ _ hx1
   have lus3:=rs3.length
   have l3:us3.length=3:=lus3
   fail "R"
   ·exact small (by rw[l3];exact Nat.le_of_ble_eq_true rfl)
   refine⟨fun e=>absurd (congrArg List.length e) (by rw[l3];simp),fun _ p4 hp4=>k _ _ ((s02.trans s3').trans (same_new hp4 _)) ?_⟩
   rw[enc_mk]
   exact Rp.new (K:=K) hp4 (.cons .s rs3)
  |fold x y =>
   obtain⟨rfl,rfl⟩:=op_inv (s:="fold") rfl eb
   have arl:ks.length=3:=eq_of_beq (show(ks.length == 3)=true from ar)
   obtain⟨k1,k2,k3,rfl⟩:=ex3 arl
   have r:Rps K H (([.inl k1,.inr x,.inr y,.inl k2,.inl k3]:List Sx).map itT) us:=by
    have r':=r
    have e1:=val_bw (hk k1 (by simp))
    have e2:=val_bw (hk k2 (by simp))
    have e3:=val_bw (hk k3 (by simp))
    have r2:Rps K H [val (bw k1),val (atm x),val (atm y),val (bw k2),val (bw k3)] us:=r'
    rw[e1,e2,e3,val_atm,val_atm]at r2
    exact r2
   have ok:∀z∈([.inl k1,.inr x,.inr y,.inl k2,.inl k3]:List Sx),sxOk z:=by
    intro z hz
    simp only[List.mem_cons,List.not_mem_nil,or_false]at hz
    rcases hz with rfl|rfl|rfl|rfl|rfl
    ·exact hk k1 (by simp)
    ·exact ho.1
    ·exact ho.2
    ·exact hk k2 (by simp)
    ·exact hk k3 (by simp)
   have n1:=ops_out (shp_ops "fold" (by decide +kernel))
   have n2:(shpD s1 s2 s3 s4 s5 s6 s7).lookup ("fold":Str)=some (.ref s7):=by unfold shpD;rfl
   fail "R"
   intro p1 hp1
   have s1':=same_new hp1 (.tup [.str "fold"])
   have h1':upd H p1 (.tup [.str "fold"]) p1=some (.tup [.str "fold"]):=upd_same
   generalize upd H p1 (.tup [.str "fold"])=H1 at s1' h1' ⊢
   have s02:=s1'
   have hx1:=h1'
   have sqs:SqT K H1 s7 (([.inl k1,.inr x,.inr y,.inl k2,.inl k3]:List Sx).map shpV):=h7 H1
   have hp2':=s02 _ _ hp
   have r2':=r.same s02
   have l10:([.inl k1,.inr x,.inr y,.inl k2,.inl k3]:List Sx).length<=10:=Nat.le_of_ble_eq_true rfl
   fail "R"
   intro v' H3 s3' r3
   obtain⟨a3,us3,rfl,sq3,rs3⟩:=r3.inv_t
   have h3':=s3' _ _ hx1
   have lus3:=rs3.length
   have l3:us3.length=5:=lus3
   fail "R"
   ·exact small (by rw[l3];exact Nat.le_of_ble_eq_true rfl)
   refine⟨fun e=>absurd (congrArg List.length e) (by rw[l3];simp),fun _ p4 hp4=>k _ _ ((s02.trans s3').trans (same_new hp4 _)) ?_⟩
   rw[enc_mk]
   exact Rp.new (K:=K) hp4 (.cons .s rs3)
  |row =>
   obtain⟨rfl,rfl⟩:=op_inv (s:="row") rfl eb
   rw[kv]at r
   have lk:ks.length<=900:=by have:=r.length;rw[List.length_map]at this hn;omega
   fail "R"
   intro v' H1 s1' r1
   fail "R"
   intro p2 hp2
   refine k _ _ (s1'.trans (same_new hp2 _)) ?_
   rw[enc_mk]
   exact Rp.new (K:=K) hp2 (.cons .s (.one r1))
  |call g =>
   obtain⟨rfl,rfl⟩:=op_inv (s:="call") rfl eb
   rw[List.map_cons,val_atm,kv]at r
   obtain⟨v1,us1,rfl,g1,r1⟩:=r.inv
   obtain rfl:=g1.inv_s
   have hg:nmOk g:=ho
   have a0:atI (V.str g::us1) 0=some (V.str g):=at0 _ _
   fail "R"
   intro H1 s1'
   have hp1:=s1' _ _ hp
   have r2:=r1.same s1'
   have ec:cutV (V.str g::us1) (some 1) none=us1:=cut_tl _ _
   have lk:ks.length<=900:=by simp only[List.length_cons,List.length_map]at hn;omega
   fail "R"
   rw[ec]
   intro p3 hp3
   have s3':=same_new hp3 (.lst us1)
   have h3':upd H1 p3 (.lst us1) p3=some (.lst us1):=upd_same
   have r3:=r2.same s3'
   generalize upd H1 p3 (.lst us1)=H3 at s3' h3' r3⊢
   fail "R"
   intro v' H4 s4' r4
   fail "R"
   intro p5 hp5
   refine k _ _ (((s1'.trans s3').trans s4').trans (same_new hp5 _)) ?_
   rw[enc_mk]
   exact Rp.new (K:=K) hp5 (.cons .s (.cons .s (.one r4)))
  |tag t =>
   obtain⟨rfl,rfl⟩:=tag_inv eb
   rw[kv]at r
   have ht:nmOk t:=ho
   obtain⟨f1,f2,f3,f4⟩:=tag_facts ht
   have n1:=ops_out f1
   have n2:=shp_none s1 s2 s3 s4 s5 s6 s7 f2
   have n4:ofL (t.cps.toList++[58])≠("row":Str):=fun e=>f3 (e▸by decide +kernel)
   have n5:ofL (t.cps.toList++[58])≠("call":Str):=fun e=>f3 (e▸by decide +kernel)
   have n6:ofL (t.cps.toList++[58])≠("match":Str):=fun e=>f3 (e▸by decide +kernel)
   fail "R"
   refine ifF n1 ?_
   fail "R"
   refine ifF (by rw[n2];rfl) ?_
   fail "R"
   refine ifF (sNe n4) ?_
   fail "R"
   refine ifF (sNe n5) ?_
   fail "R"
   refine ifF (sNe n6) ?_
   fail "R"
   refine ifT f4 ?_
   have hne:t.cps.toList++[58]≠[]:=by simp
   have es:=slice_init hne
   rw[List.dropLast_concat,ofL_toList]at es
   have ll:(ofL (t.cps.toList++[58])).length<=sizeLine:=small (by
    rw[ofL_len,List.length_append]
    have e:t.cps.toList.length=t.length:=by show _=t.cps.size;simp
    have:=ht.2.1
    rw[e]
    show t.length+1<=1000
    omega)
   have lk:ks.length<=900:=by have:=r.length;rw[List.length_map]at this hn;omega
   have hts:nmOk (Txt.slice (ofL (t.cps.toList++[58])) none (some (-1))):=by rw[es];exact ht
   fail "R"
   intro H1 s1'
   have hp1:=s1' _ _ hp
   have r2:=r.same s1'
   fail "R"
   intro v' H2 s2' r3
   fail "R"
   intro p2 hp2
   refine k _ _ ((s1'.trans s2').trans (same_new hp2 _)) ?_
   rw[enc_mk,es]
   exact Rp.new (K:=K) hp2 (.cons .s (.cons .s (.one r3)))
  |mat arms =>
   obtain⟨rfl,rfl⟩:=op_inv (s:="match") rfl eb
   have arl:ks.length=arms.length+1:=eq_of_beq (show(ks.length == arms.length+1)=true from ar)
   cases ks with
   |nil=>cases arl
   |cons k0 kr =>
    have ho':∀a∈arms,nmOk a.1:=fun a ha=>(ho a ha).1
    have r':Rps K H (val (bw k0)::(List.zipWith armB arms (kr.map bw)).map val) us:=r
    rw[val_bw (hk k0 (.head _)),arms_vals ho' fun q hq=>hk q (.tail _ hq)]at r'
    obtain⟨v1,us1,rfl,g1,r1⟩:=r'.inv
    have a0:atI (v1::us1) 0=some v1:=at0 _ _
    have hk0:=hk k0 (.head _)
    fail "R"
    intro v2 H1 s1' g2
    have hp1:=s1' _ _ hp
    have r2:=r1.same s1'
    have ec:cutV (v1::us1) (some 1) none=us1:=cut_tl _ _
    fail "R"
    rw[ec]
    intro p3 hp3
    have s3':=same_new hp3 (.lst us1)
    have h3':upd H1 p3 (.lst us1) p3=some (.lst us1):=upd_same
    have r3:=r2.same s3'
    have g3:=g2.same s3'
    generalize upd H1 p3 (.lst us1)=H3 at s3' h3' r3 g3⊢
    have lz:(arms.zip kr).length<=900:=by have:=r3.length;rw[List.length_map]at this;rw[List.length_cons]at lw;omega
    have hsl:SqL K H3 p3 us1:=SqL.of h3'
    fail "R"
    refine comp_mapL (K:=K) (e:=armV) (φ:=fun z=>[armT z.1 (enc z.2)]) (ps:=arms.zip kr) (fun σ=>∃x,σ=[x]) h3' r3 lz (fun _=>Nat.le_refl _) ⟨_,rfl⟩ ?_ ?_
    ·rintro q hq x σ H4 N s4 ⟨y,rfl⟩ rx kN
     have rx':Rp K H4 (.t [.s "arm",armT q.1 (enc q.2)]) x:=rx
     fail "R"
     intro v5 r5
     exact kN _ _ _ ⟨⟨_,rfl⟩,Same.refl _,.one r5⟩
    ·intro l H' us' s4 hl h4 r4
     rw[fm_one,arms_encs]at r4
     have lus:=r4.length
     have lus2:us'.length<=sizeLine:=small (by
      rw[lus,List.length_zipWith,List.length_map]
      rw[List.length_zip]at lz
      omega)
     have g4:=g3.same s4
     fail "R"
     refine .inl ⟨SqL.of h4,fun p5 hp5=>?_⟩
     have s5':=same_new hp5 (.tup us')
     have r5:Rp K _ _ _:=Rp.new (K:=K) hp5 r4
     have g5:=g4.same s5'
     generalize upd H' p5 (.tup us')=H5 at s5' r5 g5⊢
     fail "R"
     intro p6 hp6
     refine k _ _ ((((s1'.trans s3').trans s4).trans s5').trans (same_new hp6 _)) ?_
     rw[enc_mk]
     exact Rp.new (K:=K) hp6 (.cons .s (.cons g5 (.one r5)))
 ·have n1:=ops_out (nm_ops hx)
  have n2:=shp_none s1 s2 s3 s4 s5 s6 s7 (nm_shp hx)
  have fl:=ops_flat
  have n3:=name_ends hx
  have n4:hd≠"row":=nm_not hx (by decide +kernel)
  have n5:hd≠"call":=nm_not hx (by decide +kernel)
  have n6:hd≠"match":=nm_not hx (by decide +kernel)
  fail "R"
  refine ifF n1 ?_
  fail "R"
  refine ifF (by rw[n2];rfl) ?_
  fail "R"
  refine ifF (sNe n4) ?_
  fail "R"
  refine ifF (sNe n5) ?_
  fail "R"
  refine ifF (sNe n6) ?_
  fail "R"
  refine ifF n3 ?_
  fail "R"
  exact k _ (Same.refl _)
end
abbrev VlG:Bw->T->Prop:=fun b t=>t=val b
section
variable {P:Program}{w:World}{K:PySem.W.Frag}{mg:Str->Option Value}{base:Heap}{gC gT gN:Addr}{cfd tfd nfd:FuncData}
theorem nm_close_term:Nm ["opener","items","term","names"] (defScope s_close_term):=by decide +kernel
theorem lm_close_term:Lm ["opener","items","term","names"] (defScope s_close_term):=by decide +kernel
theorem sc_close_term:FnScope ["opener","items","term","names"] ["opener","items"] (defScope s_close_term):=⟨rfl,rfl,rfl,by decide +kernel,rfl,by decide +kernel,by decide +kernel⟩
theorem ok_close{f:Addr}{fd:FuncData}(F:Fun K "close_term" "close_term" s_close_term f fd)(CDT:Has P w K mg base "closed_term" 5 ["head","items"] (spClosed K) gC cfd)(TO:Has P w K mg base "term_of" 3 ["item"] (spTermOf K) gT tfd)(NO:Has P w K mg base "name_of" 2 ["item"] spNameOf gN nfd)
  (z_tuple:mg "tuple"=none) (z_isinstance:mg "isinstance"=none) (z_str:mg "str"=none) (z_len:mg "len"=none) :
  FnOk P w K mg base CX0 6 f fd ["opener","items"] (spClose K Gd2 VlG):=by
 refine F.ok sc_close_term (fun vs H Q E h=>?_) (fun cdv A outer s H vs Q E hr h=>?_)
 ·obtain⟨_,_,_,_,_,rfl,_⟩:=h
  rfl
 obtain⟨c,ws,p,us,ts,rfl,⟨hg,hsm⟩,hp,r,hv,k⟩:=h
 refine⟨_,(@pss_cons _ _ _ _ _ (@ps_if _ _ _ _ _ _ _ _ (PW.pt (@pw_or _ _ _ _ _ _ _ (pt_cmpR op_ne (va nm_close_term 0) pe_str (nomark _)) (@pw_or _ _ _ _ _ _ _ (@pt_not _ _ _ _ (pt_truth (va nm_close_term 1) (fun _=>rfl))) (@pw_or1 _ _ _ _ (@pt_not _ _ _ _ (@pt_val _ _ _ (@pe_callB _ _ _ _ _ _ _ _ _ (call_isSt K rfl) (by show _=_;kernel_rfl) z_isinstance PyProof.Rows.boot_isinstance (@pa_c _ _ _ _ _ (pe_ix ix_list (va nm_close_term 1) pe_int (fun _ _=>rfl)) (pa_c (pe_bltn (v:=.ty "str") (by show _=_;kernel_rfl) z_str (by decide +kernel) rfl) pa_nil) (by rfl)) (by decide) (by decide) (by rfl) (by rfl)) (by intro _;rfl))))))) (pss_one ps_never) pss_nil) (@pss_cons _ _ _ _ _ (@sa _ _ _ _ _ _ sc_close_term.nd lm_close_term 2 (@pe_call _ _ _ _ _ _ _ _ _ _ _ _ _ _ _ _ CDT.ok (hr.mono (by omega)) (by show _=_;kernel_rfl) CDT.at' CDT.kp CDT.bd .nil pass0 (@pa_c _ _ _ _ _ (pe_ix ix_list (va nm_close_term 1) pe_int (fun _ _=>rfl)) (@pa_c _ _ _ _ _ (pe_slice sl_list (va nm_close_term 1) (po_some pe_int) po_none) pa_nil (by rfl)) (by rfl)) (by decide) (by rfl) (by rfl)) (by rfl) (by kernel_rfl) (by exact .inl rfl)) (@pss_cons _ _ _ _ _ (@ps_if _ _ _ _ _ _ _ _ (pt_cmpR op_notN (va nm_close_term 2) pe_non (nomark _)) (@pss_one _ _ _ (@ps_ret _ _ _ _ (@pe_tup _ _ _ _ _ (@pa_c _ _ _ _ _ pe_str (pa_c (va nm_close_term 2) pa_nil) (by rfl))))) pss_nil) (@pss_cons _ _ _ _ _ (@ps_if _ _ _ _ _ _ _ _ (@pt_cmpR _ _ _ _ _ _ _ _ op_lt (@pe_callB _ _ _ _ _ _ _ _ _ call_len_seq (by show _=_;kernel_rfl) z_len PySem.boot_len (pa_c (va nm_close_term 1) pa_nil) (by decide) (by decide) (by rfl) (by rfl)) pe_int (nomark _)) (pss_one ps_never) pss_nil) (@pss_cons _ _ _ _ _ (@sa _ _ _ _ _ _ sc_close_term.nd lm_close_term 3 (@pe_callTy _ _ _ _ _ _ _ _ _ call_tuple_of (by show _=_;kernel_rfl) z_tuple PyProof.Rows.boot_tuple (@pa_c _ _ _ _ _ (@pe_compC _ _ _ _ _ _ _ _ _ _ _ (defScope s_close_term) ["opener","items","term","names"] ["item"] [] rfl rfl rfl (by decide +kernel) (@pi_list _ _ _ _ (@pe_slice _ _ _ _ _ _ _ _ _ _ sl_list (va nm_close_term 1) (po_some pe_int) (po_some (pe_un un_neg pe_int)))) (fun _ _ _ _=>(pg_name (i:=0) (show(["item"]:List Str).Nodup by decide +kernel) rfl (Or.inl (by kernel_rfl)) (by first|exact .inl rfl|exact .inr (by kernel_rfl)))) (fun _ _ _ _=>pifs_nil) (fun _ _ _ _=>(@pe_call _ _ _ _ _ _ _ _ _ _ _ _ _ _ _ _ NO.ok (hr.mono (by omega)) (by show _=_;kernel_rfl) NO.at' NO.kp NO.bd .nil pass0 (pa_c (va (show Nm ["item"] _ by show _=_;kernel_rfl) 0) pa_nil) (by decide) (by rfl) (by rfl))) (by intro _;rfl)) pa_nil (by rfl)) (by decide) (by decide) (by rfl) (by rfl)) (by rfl) (by kernel_rfl) (by exact .inl rfl)) (@pss_one _ _ _ (@ps_ret _ _ _ _ (@pe_tup _ _ _ _ _ (@pa_c _ _ _ _ _ pe_str (@pa_c _ _ _ _ _ (@pe_tup _ _ _ _ _ (@pa_c _ _ _ _ _ (@pe_call _ _ _ _ _ _ _ _ _ _ _ _ _ _ _ _ NO.ok (hr.mono (by omega)) (by show _=_;kernel_rfl) NO.at' NO.kp NO.bd .nil pass0 (@pa_c _ _ _ _ _ (pe_ix ix_list (va nm_close_term 1) pe_int (fun _ _=>rfl)) pa_nil (by rfl)) (by decide) (by rfl) (by rfl)) (@pa_c _ _ _ _ _ (va nm_close_term 3) (@pa_c _ _ _ _ _ (@pe_call _ _ _ _ _ _ _ _ _ _ _ _ _ _ _ _ TO.ok (hr.mono (by omega)) (by show _=_;kernel_rfl) TO.at' TO.kp TO.bd .nil pass0 (@pa_c _ _ _ _ _ (pe_ix ix_list (va nm_close_term 1) (pe_un un_neg pe_int) (fun _ _=>rfl)) pa_nil (by rfl)) (by decide) (by rfl) (by rfl)) pa_nil (by rfl)) (by rfl)) (by rfl))) pa_nil (by rfl)) (by rfl)))))))))),?_⟩
 try dsimp only[cx_K]
 try dsimp only[cx_K,cx_w]
 have evs:=vls_map hv
 subst evs
 unfold sml at hsm
 have hsm1:=hsm.1
 have lus:=r.length
 rw[List.length_map]at lus
 obtain⟨rfl,hcs⟩:=gd_inv hg
 refine seq_cut5 ?_
 intro N1 N2 N3 N4 N5 c1 c2 c3 c4 c5
 rcases hcs with⟨hd,h,ks,ws',ht,hl,eb,rfl⟩|⟨a,kt,ha,hx,hkt,ea,rfl⟩
 ·have vv:=val_bw ht
  rw[tv_g (tm:=.mk h ks) hl,eb]at vv
  have r':Rps K H (.s (ofL hd.cps.toList)::ws'.map val) us:=r
  rw[ofL_toList]at r'
  obtain⟨v1,us1,rfl,g1,r1⟩:=r'.inv
  obtain rfl:=g1.inv_s
  have a0:atI (V.str hd::us1) 0=some (V.str hd):=at0 _ _
  have ec:cutV (V.str hd::us1) (some 1) none=us1:=cut_tl _ _
  fail "R"
  refine .inr (.inl ⟨_,rfl,?_⟩)
  fail "R"
  rw[ec]
  intro p1 hp1
  have s1:=same_new hp1 (.lst us1)
  have h1:upd H p1 (.lst us1) p1=some (.lst us1):=upd_same
  have r2:=r1.same s1
  generalize upd H p1 (.lst us1)=H1 at s1 h1 r2⊢
  fail "R"
  refine .inl ⟨h,ks,ws',ht,hl,eb,r2,by rw[List.length_cons]at hsm1;omega,fun v2 H2 s2 r3=>?_⟩
  obtain⟨es,ee⟩:∃ts,enc (.mk h ks)=.t ts:=by rw[enc_mk];cases h<;>exact⟨_,rfl⟩
  have r3':=r3
  rw[ee]at r3'
  obtain⟨a3,us3,rfl,sq3,rs3⟩:=r3'.inv_t
  fail "R"
  intro p4 hp4
  exact k _ _ _ ((s1.trans s2).trans (same_new hp4 _)) (Rp.new (K:=K) hp4 (.cons .s (.one r3))) vv.symm
 ·have r':Rps K H (val (atm a.1)::(a.2.map atm++[bw kt]).map val) us:=r
  rw[val_atm,List.map_append]at r'
  have r':Rps K H (.s a.1::((a.2.map atm).map val++[val (bw kt)])) us:=r'
  rw[val_bw hkt,List.map_map,show(val ∘ atm)=T.s from funext val_atm]at r'
  obtain⟨v1,us1,rfl,g1,r1⟩:=r'.inv
  obtain rfl:=g1.inv_s
  obtain⟨us2,v3,rfl,r2,g3⟩:=Rps.snoc_inv r1
  have a0:atI (V.str a.1::(us2++[v3])) 0=some (V.str a.1):=at0 _ _
  have a1:atI (V.str a.1::(us2++[v3])) (-1)=some v3:=at_last (n:=us2.length+1) (by simp) (by simp)
  have ec:cutV (V.str a.1::(us2++[v3])) (some 1) none=us2++[v3]:=cut_tl _ _
  have ec2:cutV (V.str a.1::(us2++[v3])) (some 1) (some (-1))=us2:=cut_in _ _ _
  fail "R"
  refine .inr (.inl ⟨_,rfl,?_⟩)
  fail "R"
  rw[ec]
  intro p1 hp1
  have s1:=same_new hp1 (.lst (us2++[v3]))
  have h1:upd H p1 (.lst (us2++[v3])) p1=some (.lst (us2++[v3])):=upd_same
  generalize upd H p1 (.lst (us2++[v3]))=H1 at s1 h1⊢
  fail "R"
  refine .inr ⟨ha,fun H2 s2=>?_⟩
  have s02:=s1.trans s2
  have hp2:=s02 _ _ hp
  have l2:(2:Int)<=(((V.str a.1::(us2++[v3])).length:Nat):Int):=by simp;omega
  fail "R"
  refine ifF (decide_eq_false (by omega)) ?_
  fail "R"
  rw[ec2]
  intro p3 hp3
  have s3:=same_new hp3 (.lst us2)
  have h3:upd H2 p3 (.lst us2) p3=some (.lst us2):=upd_same
  have hp3':=s3 _ _ hp2
  have r3:=(r2.same s02).same s3
  have g4:=(g3.same s02).same s3
  have s03:=s02.trans s3
  generalize upd H2 p3 (.lst us2)=H3 at s3 h3 hp3' r3 g4 s03⊢
  have lz:a.2.length<=900:=by simp only[List.length_cons,List.length_append,List.length_map]at hsm1;omega
  have hsl:SqL K H3 p3 us2:=SqL.of h3
  fail "R"
  refine comp_mapL (K:=K) (e:=T.s) (φ:=fun z=>[T.s z]) (ps:=a.2) (fun σ=>∃x,σ=[x]) h3 r3 lz (fun _=>Nat.le_refl _) ⟨_,rfl⟩ ?_ ?_
  ·rintro q hq x σ H4 N s4 ⟨y,rfl⟩ rx kN
   have hq':=hx q hq
   obtain rfl:=(show Rp K H4 (.s q) x from rx).inv_s
   fail "R"
   intro H5 s5
   exact kN _ _ _ ⟨⟨_,rfl⟩,s5,.one .s⟩
  ·intro l H' us' s4 hl h4 r4
   rw[fm_one]at r4
   have lus:=r4.length
   have lus2:us'.length<=sizeLine:=small (by rw[lus,List.length_map];omega)
   have g5:=g4.same s4
   have hp4':=s4 _ _ hp3'
   fail "R"
   refine .inl ⟨SqL.of h4,fun p5 hp5=>?_⟩
   have s5:=same_new hp5 (.tup us')
   have r5:Rp K (upd H' p5 (.tup us')) (.t (a.2.map T.s)) (.ref p5):=Rp.new (K:=K) hp5 r4
   have g6:=g5.same s5
   have hp5':=s5 _ _ hp4'
   have s05:=(s03.trans s4).trans s5
   generalize upd H' p5 (.tup us')=H5 at s5 r5 g6 hp5' s05⊢
   fail "R"
   intro H6 s6
   have hp6':=s6 _ _ hp5'
   have g7:=g6.same s6
   have r6:=r5.same s6
   fail "R"
   intro v7 H7 s7 g8
   have r7:=r6.same s7
   fail "R"
   intro p8 hp8
   have r8:Rp K _ _ _:=Rp.new (K:=K) hp8 (.cons (.s (x:=a.1)) (.cons r7 (.one g8)))
   have s8:=same_new hp8 (.tup [.str a.1,.ref p5,v7])
   have s08:=((s05.trans s6).trans s7).trans s8
   generalize upd H7 p8 (.tup [.str a.1,.ref p5,v7])=H8 at r8 s8 s08⊢
   fail "R"
   intro p9 hp9
   refine k _ _ _ (s08.trans (same_new hp9 _)) (Rp.new (K:=K) hp9 (.cons (.s (x:="arm")) (.one r8))) ?_
   show _=val (Bw.g 40 _)
   rw[ea,val_arm ha hkt (val_bw hkt)]
   rfl
end
theorem len0{α:Type}{P:List α->Prop}(h:P []):∀us:List α,us.length=0->P us
 | [],_=>h
theorem len1{α:Type}{P:List α->Prop}(h:∀a,P [a]):∀us:List α,us.length=1->P us
 | [a],_=>h a
theorem len2{α:Type}{P:List α->Prop}(h:∀a b,P [a,b]):∀us:List α,us.length=2->P us
 | [a,b],_=>h a b
theorem len3{α:Type}{P:List α->Prop}(h:∀a b c,P [a,b,c]):∀us:List α,us.length=3->P us
 | [a,b,c],_=>h a b c
theorem len4{α:Type}{P:List α->Prop}(h:∀a b c d,P [a,b,c,d]):∀us:List α,us.length=4->P us
 | [a,b,c,d],_=>h a b c d
theorem len5{α:Type}{P:List α->Prop}(h:∀a b c d e,P [a,b,c,d,e]):∀us:List α,us.length=5->P us
 | [a,b,c,d,e],_=>h a b c d e
section
variable {P:Program}{w:World}{K:PySem.W.Frag}{mg:Str->Option Value}{base:Heap}{gA gI gT gL gR:Addr}{afd ifd tfd lfd rfd:FuncData}
theorem alike_all(F:Fun K "_law_alike" "_law_alike" s_L_alike gA afd)(mA:mg "_law_alike"=some (.ref gA))(bA:Binds K afd ["_law_found","_law_due"] [])(z_tuple:mg "tuple"=none)(z_str:mg "str"=none)(z_int:mg "int"=none)(z_bool:mg "bool"=none)(z_isinstance:mg "isinstance"=none)(z_len:mg "len"=none)(z_all:mg "all"=none)(z_zip:mg "zip"=none):∀n,FnOk P w K mg base CX0 (n+1) gA afd ["_law_found","_law_due"] (spAlike K n)
 |0=>fn_none fun vs H Q E ⟨_,_,_,_,_,_,_,h,_⟩=>by omega
 |n+1=>ok_alike (j:=n+1) (by omega) F ⟨alike_all F mA bA z_tuple z_str z_int z_bool z_isinstance z_len z_all z_zip n,mA,F.kp,bA⟩ z_tuple z_str z_int z_bool z_isinstance z_len z_all z_zip
theorem ltt_all(F:Fun K "_law_term_text" "_law_term_text" s_L_term_text gA afd)(mA:mg "_law_term_text"=some (.ref gA))(bA:Binds K afd ["_law_term"] [])(FI:Fun K "_law_texts" "_law_texts" s_L_texts gI ifd)(mI:mg "_law_texts"=some (.ref gI))(bI:Binds K ifd ["_law_terms"] [])(z_str:mg "str"=none)(z_int:mg "int"=none)(z_isinstance:mg "isinstance"=none):∀n,FnOk P w K mg base CX0 (2*n+1) gA afd ["_law_term"] (spLtt K n)
 |0=>fn_none fun vs H Q E ⟨_,_,_,_,_,_,h,_⟩=>by omega
 |n+1=>by
  have ih:=ltt_all F mA bA FI mI bI z_str z_int z_isinstance n
  rw[show 2*(n+1)+1=2*n+1+2 by omega]
  exact ok_ltt (j:=2*n+1) (by omega) F ⟨ih,mA,F.kp,bA⟩ ⟨ok_lts FI ⟨ih,mA,F.kp,bA⟩,mI,FI.kp,bI⟩ z_str z_int z_isinstance
theorem ate_all(F:Fun K "_law_any_term" "_law_any_term" s_L_any_term gA afd)(mA:mg "_law_any_term"=some (.ref gA))(bA:Binds K afd ["_law_feed_here","_law_scene","_law_room","_law_down"] [])(FI:Fun K "_law_any_inner" "_law_any_inner" s_L_any_inner gI ifd)(mI:mg "_law_any_inner"=some (.ref gI))(bI:Binds K ifd ["_law_feed_here","_law_scene","_law_many","_law_room","_law_down"] [])
  (TK:Has P w K mg base "_law_take" 1 ["_law_feed_here","_law_many"] spTake gT tfd) (ALF:Has P w K mg base "_law_any_leaf" 3 ["_law_feed_here","_law_scene"] (spLeaf K) gL lfd) (AAR:Has P w K mg base "_law_any_arms" 2 ["_law_feed_here","_law_scene","_law_terms"] (spAar K) gR rfd) (z_min:mg "min"=none) (z_max:mg "max"=none) (z_range:mg "range"=none) (z_tuple:mg "tuple"=none) (z_len:mg "len"=none):∀n,FnOk P w K mg base CX0 (2*n+4) gA afd ["_law_feed_here","_law_scene","_law_room","_law_down"] (spAte K n)
 |0=>fn_none fun vs H Q E ⟨_,_,_,_,_,_,_,_,_,_,h,_⟩=>by omega
 |n+1=>by
  have ih:=ate_all F mA bA FI mI bI TK ALF AAR z_min z_max z_range z_tuple z_len n
  rw[show 2*(n+1)+4=2*n+4+1+1 by omega]
  exact ok_ate (j:=2*n+4+1) (by omega) F TK ALF ⟨ok_ani FI ⟨ih,mA,F.kp,bA⟩ z_min z_max z_range z_tuple,mI,FI.kp,bI⟩ AAR z_len z_range
end
end G08
namespace G08
open PySem L2 PySem.W
structure FnAt(K:Frag) (x qual:Str) (st:Stmt) (f:Addr) (fd:FuncData):Prop where
 ex:∃(od:Option Addr) (kV doc pm:Value) (an:Option Addr) (cdv ct:Value) (osl:Array (Option Value)),
  fd=fnOf x qual (defArgs st) (defBody st) (defScope st) .none kV doc pm an cdv ct/\K.lookup f=some ⟨.type "function",od,.func fd,osl⟩/\codeIn K cdv qual=true
 kp:keepIn K (.ref f)=true
theorem FnAt.f{K:Frag}{x qual:Str}{st:Stmt}{f:Addr}{fd:FuncData}(F:FnAt K x qual st f fd):Fun K x qual st f fd:=by
 obtain⟨od,kV,doc,pm,an,cdv,ct,osl,e,l,c⟩:=F.ex
 exact⟨⟨_,od,kV,doc,pm,an,cdv,ct,osl,e,l,c⟩,F.kp⟩
theorem fnAt_mk{K:Frag}{x qual:Str}{st:Stmt}{f:Addr}{od an:Option Addr}{osl:Array (Option Value)}{kV doc pm cdv ct:Value}(l:K.lookup f=some ⟨.type "function",od,.func (fnOf x qual (defArgs st) (defBody st) (defScope st) .none kV doc pm an cdv ct),osl⟩)
  (c:codeIn K cdv qual=true) (k:keepIn K (.ref f)=true):FnAt K x qual st f (fnOf x qual (defArgs st) (defBody st) (defScope st) .none kV doc pm an cdv ct):=⟨⟨od,kV,doc,pm,an,cdv,ct,osl,rfl,l,c⟩,k⟩
def tupS(K:Frag)(a:Addr)(ns:List Str):Bool:=match K.lookup a with
 |some ⟨.type "tuple",none,.seq its _,_⟩=>its.toList.length == ns.length&&(its.toList.zip ns).all (fun p=>match p.1 with|.str i _=>i == p.2|_=>false)
 |_=>false
theorem tupS_T{K:Frag}{a:Addr}{ns:List Str}(h:tupS K a ns=true)(hn:ns.length<=20):∀H,SqT K H a (ns.map V.str):=by
 intro H
 unfold tupS at h
 split at h
 ·rename_i its n sl e
  rw[Bool.and_eq_true]at h
  obtain⟨h1,h2⟩:=h
  replace h1:=eq_of_beq h1
  have hz:its.size<=sizeLine:=by
   have z:its.toList.length=its.size:=by simp
   exact small (by omega)
  refine .inr ⟨_,its,n,e,rfl,rfl,hz,?_,rfl⟩
  clear hz e
  generalize its.toList=l at h1 h2
  clear hn
  induction l generalizing ns with
  |nil=>cases ns with
   |nil=>exact .nil
   |cons _ _=>simp at h1
  |cons v r ih =>
   cases ns with
   |nil=>simp at h1
   |cons m q =>
    rw[List.zip_cons_cons,List.all_cons,Bool.and_eq_true]at h2
    obtain⟨h3,h4⟩:=h2
    refine .cons ?_ (ih (by simpa using h1) h4)
    split at h3
    ·rename_i i t e'
     have:i=m:=eq_of_beq h3
     subst this
     exact⟨t,e'⟩
    ·cases h3
 ·cases h
theorem all_mk{l:OpenLaw}{w:World}{K:Frag}{h:Heap}{mg:Str->Option Value}{g1 g2 g3 g4 g5 g6 g7 g8 g9 g10 g11 g12 g13 g14 g15 g16 g17 g18 g19 g20 g21 g22 g23 g24 g25 g26 g27 g28 g29 g30 g31 g32 g33 g34 g35 fa dC dF dS aK aO t0 t1 t2 t3 s1 s2 s3 s4 s5 s6 s7:Addr}{e1 e2 e3 e4 e5 e6 e7 e8 e9 e10 e11 e12 e13 e14 e15 e16 e17 e18 e19 e20 e21 e22 e23 e24 e25 e26 e27 e28 e29 e30 e31 e32 e33 e34 e35:FuncData}{esC esF esS:Array DictEntry}{nC nF nS:Nat}{tkL tkF:Tok}(X:K.In h)(G:h.Ns mainGlobals mg)(hfa:mg "law"=some (.ref fa))
  (a1:nsIn K mainGlobals "bracketed"=some (some (.ref g1)))
  (a2:nsIn K mainGlobals "written"=some (some (.ref g2)))
  (a3:nsIn K mainGlobals "sort_of"=some (some (.ref g3)))
  (a4:nsIn K mainGlobals "well_parted"=some (some (.ref g4)))
  (a5:nsIn K mainGlobals "split_words"=some (some (.ref g5)))
  (a6:nsIn K mainGlobals "scanned"=some (some (.ref g6)))
  (a7:nsIn K mainGlobals "scanned_one"=some (some (.ref g7)))
  (a8:nsIn K mainGlobals "is_name"=some (some (.ref g8)))
  (a9:nsIn K mainGlobals "is_figures"=some (some (.ref g9)))
  (a10:nsIn K mainGlobals "name_of"=some (some (.ref g10)))
  (a11:nsIn K mainGlobals "number_behind"=some (some (.ref g11)))
  (a12:nsIn K mainGlobals "term_of"=some (some (.ref g12)))
  (a13:nsIn K mainGlobals "terms_of"=some (some (.ref g13)))
  (a14:nsIn K mainGlobals "arm_of"=some (some (.ref g14)))
  (a15:nsIn K mainGlobals "shaped"=some (some (.ref g15)))
  (a16:nsIn K mainGlobals "closed_term"=some (some (.ref g16)))
  (a17:nsIn K mainGlobals "close_term"=some (some (.ref g17)))
  (a18:nsIn K mainGlobals "read_term"=some (some (.ref g18)))
  (a19:nsIn K mainGlobals "spell_match"=some (some (.ref g19)))
  (a20:nsIn K mainGlobals "spell_term"=some (some (.ref g20)))
  (a21:nsIn K mainGlobals "term_text"=some (some (.ref g21)))
  (a22:nsIn K mainGlobals "_law_feed"=some (some (.ref g22)))
  (a23:nsIn K mainGlobals "_law_take"=some (some (.ref g23)))
  (a24:nsIn K mainGlobals "_law_number"=some (some (.ref g24)))
  (a25:nsIn K mainGlobals "_law_kept"=some (some (.ref g25)))
  (a26:nsIn K mainGlobals "_law_word"=some (some (.ref g26)))
  (a27:nsIn K mainGlobals "_law_any_leaf"=some (some (.ref g27)))
  (a28:nsIn K mainGlobals "_law_any_inner"=some (some (.ref g28)))
  (a29:nsIn K mainGlobals "_law_any_arms"=some (some (.ref g29)))
  (a30:nsIn K mainGlobals "_law_any_term"=some (some (.ref g30)))
  (a31:nsIn K mainGlobals "_law_texts"=some (some (.ref g31)))
  (a32:nsIn K mainGlobals "_law_term_text"=some (some (.ref g32)))
  (a33:nsIn K mainGlobals "_law_alike"=some (some (.ref g33)))
  (a34:nsIn K mainGlobals "_law_greater"=some (some (.ref g34)))
  (a35:nsIn K mainGlobals "law"=some (some (.ref g35)))
  (F1:FnAt K "bracketed" "bracketed" s_bracketed g1 e1)
  (F2:FnAt K "written" "written" s_written g2 e2)
  (F3:FnAt K "sort_of" "sort_of" s_sort_of g3 e3)
  (F4:FnAt K "well_parted" "well_parted" s_well_parted g4 e4)
  (F5:FnAt K "split_words" "split_words" s_split_words g5 e5)
  (F6:FnAt K "scanned" "scanned" s_scanned g6 e6)
  (F7:FnAt K "scanned_one" "scanned_one" s_scanned_one g7 e7)
  (F8:FnAt K "is_name" "is_name" s_is_name g8 e8)
  (F9:FnAt K "is_figures" "is_figures" s_is_figures g9 e9)
  (F10:FnAt K "name_of" "name_of" s_name_of g10 e10)
  (F11:FnAt K "number_behind" "number_behind" s_number_behind g11 e11)
  (F12:FnAt K "term_of" "term_of" s_term_of g12 e12)
  (F13:FnAt K "terms_of" "terms_of" s_terms_of g13 e13)
  (F14:FnAt K "arm_of" "arm_of" s_arm_of g14 e14)
  (F15:FnAt K "shaped" "shaped" s_shaped g15 e15)
  (F16:FnAt K "closed_term" "closed_term" s_closed_term g16 e16)
  (F17:FnAt K "close_term" "close_term" s_close_term g17 e17)
  (F18:FnAt K "read_term" "read_term" s_read_term g18 e18)
  (F19:FnAt K "spell_match" "spell_match" s_spell_match g19 e19)
  (F20:FnAt K "spell_term" "spell_term" s_spell_term g20 e20)
  (F21:FnAt K "term_text" "term_text" s_term_text g21 e21)
  (F22:FnAt K "_law_feed" "_law_feed" s_L_feed g22 e22)
  (F23:FnAt K "_law_take" "_law_take" s_L_take g23 e23)
  (F24:FnAt K "_law_number" "_law_number" s_L_number g24 e24)
  (F25:FnAt K "_law_kept" "_law_kept" s_L_kept g25 e25)
  (F26:FnAt K "_law_word" "_law_word" s_L_word g26 e26)
  (F27:FnAt K "_law_any_leaf" "_law_any_leaf" s_L_any_leaf g27 e27)
  (F28:FnAt K "_law_any_inner" "_law_any_inner" s_L_any_inner g28 e28)
  (F29:FnAt K "_law_any_arms" "_law_any_arms" s_L_any_arms g29 e29)
  (F30:FnAt K "_law_any_term" "_law_any_term" s_L_any_term g30 e30)
  (F31:FnAt K "_law_texts" "_law_texts" s_L_texts g31 e31)
  (F32:FnAt K "_law_term_text" "_law_term_text" s_L_term_text g32 e32)
  (F33:FnAt K "_law_alike" "_law_alike" s_L_alike g33 e33)
  (F34:FnAt K "_law_greater" "_law_greater" s_L_greater g34 e34)
  (F35:FnAt K "law" "law" s_law g35 e35)
  (pC:nsIn K mainGlobals "CLOSE_OF"=some (some (.ref dC)))
  (lC:K.lookup dC=some {cls:=.type "dict",dict:=none,data:=.dict esC nC,slots:=#[]})
  (kC:KDs w esC.toList [("(",V.str ")"),("[",V.str "]")])
  (sC:(dC == sysModules)=false)
  (pF:nsIn K mainGlobals "FOLLOWERS"=some (some (.ref dF)))
  (lF:K.lookup dF=some {cls:=.type "dict",dict:=none,data:=.dict esF nF,slots:=#[]})
  (kF:KDs w esF.toList [("blank",V.ref t0),("start",V.ref t1),("word",V.ref t2),("end",V.ref t3)])
  (sF:(dF == sysModules)=false)
  (pS:nsIn K mainGlobals "SHAPES"=some (some (.ref dS)))
  (lS:K.lookup dS=some {cls:=.type "dict",dict:=none,data:=.dict esS nS,slots:=#[]})
  (kS:KDs w esS.toList (shpD s1 s2 s3 s4 s5 s6 s7))
  (sS:(dS == sysModules)=false)
  (q0:tupS K t0 ["start","word"]=true)
  (q1:tupS K t1 ["start","word","end"]=true)
  (q2:tupS K t2 ["word","blank","end"]=true)
  (q3:tupS K t3 ["end","blank"]=true)
  (r1:tupS K s1 ["term","term"]=true)
  (r2:tupS K s2 ["term"]=true)
  (r3:tupS K s3 ["term"]=true)
  (r4:tupS K s4 ["term"]=true)
  (r5:tupS K s5 ["term","term","term"]=true)
  (r6:tupS K s6 ["name","term","term"]=true)
  (r7:tupS K s7 ["term","name","name","term","term"]=true)
  (pO:nsIn K mainGlobals "OPS"=some (some (.ref aO)))
  (qO:tupS K aO opsS=true)
  (pK:nsIn K mainGlobals "KEPT"=some (some (.ref aK)))
  (qK:tupS K aK keptS=true)
  (pL:nsIn K mainGlobals "SMALL_LETTERS"=some (some (.str letS tkL)))
  (pI:nsIn K mainGlobals "FIGURES"=some (some (.str figS tkF)))
  (z0:nsIn K mainGlobals "len"=some none)
  (z1:nsIn K mainGlobals "range"=some none)
  (z2:nsIn K mainGlobals "int"=some none)
  (z3:nsIn K mainGlobals "tuple"=some none)
  (z4:nsIn K mainGlobals "zip"=some none)
  (z5:nsIn K mainGlobals "all"=some none)
  (z6:nsIn K mainGlobals "max"=some none)
  (z7:nsIn K mainGlobals "min"=some none)
  (z8:nsIn K mainGlobals "isinstance"=some none)
  (z9:nsIn K mainGlobals "str"=some none)
  (z10:nsIn K mainGlobals "bool"=some none)
  (z11:nsIn K mainGlobals "enumerate"=some none) :
  ∃fd:FuncData,(∀(s:Shared) (v:Value),BindsTo s fd ⟨[v],[]⟩ [("_law_script",v)])/\∀base:Heap,K.In base->base.Ns mainGlobals mg->FnOk l.prog w K mg base CX0 68 fa fd ["_law_script"] (spLaw K):=by
 have e:=hfa.symm.trans (mg_of X G a35)
 cases e
 have B1:=F1.f.binds (ps:=["opener","words"]) fun _ _ _ _ _ _=>len2 fun _ _=>rfl
 have u1:=mg_of X G a1
 have B2:=F2.f.binds (ps:=["thing","spell"]) fun _ _ _ _ _ _=>len2 fun _ _=>rfl
 have u2:=mg_of X G a2
 have B3:=F3.f.binds (ps:=["sign"]) fun _ _ _ _ _ _=>len1 fun _=>rfl
 have u3:=mg_of X G a3
 have B4:=F4.f.binds (ps:=["text"]) fun _ _ _ _ _ _=>len1 fun _=>rfl
 have u4:=mg_of X G a4
 have B5:=F5.f.binds (ps:=["text"]) fun _ _ _ _ _ _=>len1 fun _=>rfl
 have u5:=mg_of X G a5
 have B6:=F6.f.binds (ps:=["text","close"]) fun _ _ _ _ _ _=>len2 fun _ _=>rfl
 have u6:=mg_of X G a6
 have B7:=F7.f.binds (ps:=["text","close"]) fun _ _ _ _ _ _=>len2 fun _ _=>rfl
 have u7:=mg_of X G a7
 have B8:=F8.f.binds (ps:=["text"]) fun _ _ _ _ _ _=>len1 fun _=>rfl
 have u8:=mg_of X G a8
 have B9:=F9.f.binds (ps:=["text","most"]) fun _ _ _ _ _ _=>len2 fun _ _=>rfl
 have u9:=mg_of X G a9
 have B10:=F10.f.binds (ps:=["item"]) fun _ _ _ _ _ _=>len1 fun _=>rfl
 have u10:=mg_of X G a10
 have B11:=F11.f.binds (ps:=["word"]) fun _ _ _ _ _ _=>len1 fun _=>rfl
 have u11:=mg_of X G a11
 have B12:=F12.f.binds (ps:=["item"]) fun _ _ _ _ _ _=>len1 fun _=>rfl
 have u12:=mg_of X G a12
 have B13:=F13.f.binds (ps:=["items"]) fun _ _ _ _ _ _=>len1 fun _=>rfl
 have u13:=mg_of X G a13
 have B14:=F14.f.binds (ps:=["item"]) fun _ _ _ _ _ _=>len1 fun _=>rfl
 have u14:=mg_of X G a14
 have B15:=F15.f.binds (ps:=["shape","items"]) fun _ _ _ _ _ _=>len2 fun _ _=>rfl
 have u15:=mg_of X G a15
 have B16:=F16.f.binds (ps:=["head","items"]) fun _ _ _ _ _ _=>len2 fun _ _=>rfl
 have u16:=mg_of X G a16
 have B17:=F17.f.binds (ps:=["opener","items"]) fun _ _ _ _ _ _=>len2 fun _ _=>rfl
 have u17:=mg_of X G a17
 have B18:=F18.f.binds (ps:=["text"]) fun _ _ _ _ _ _=>len1 fun _=>rfl
 have u18:=mg_of X G a18
 have B19:=F19.f.binds (ps:=["first","arms"]) fun _ _ _ _ _ _=>len2 fun _ _=>rfl
 have u19:=mg_of X G a19
 have B20:=F20.f.binds (ps:=["term"]) fun _ _ _ _ _ _=>len1 fun _=>rfl
 have u20:=mg_of X G a20
 have B21:=F21.f.binds (ps:=["term"]) fun _ _ _ _ _ _=>len1 fun _=>rfl
 have u21:=mg_of X G a21
 have B22:=F22.f.binds (ps:=["_law_script","_law_k"]) fun _ _ _ _ _ _=>len2 fun _ _=>rfl
 have u22:=mg_of X G a22
 have B23:=F23.f.binds (ps:=["_law_feed_here","_law_many"]) fun _ _ _ _ _ _=>len2 fun _ _=>rfl
 have u23:=mg_of X G a23
 have B24:=F24.f.binds (ps:=["_law_feed_here"]) fun _ _ _ _ _ _=>len1 fun _=>rfl
 have u24:=mg_of X G a24
 have B25:=F25.f.binds (ps:=[]) fun _ _ _ _ _ _=>len0 rfl
 have u25:=mg_of X G a25
 have B26:=F26.f.binds (ps:=["_law_feed_here"]) fun _ _ _ _ _ _=>len1 fun _=>rfl
 have u26:=mg_of X G a26
 have B27:=F27.f.binds (ps:=["_law_feed_here","_law_scene"]) fun _ _ _ _ _ _=>len2 fun _ _=>rfl
 have u27:=mg_of X G a27
 have B28:=F28.f.binds (ps:=["_law_feed_here","_law_scene","_law_many","_law_room","_law_down"]) fun _ _ _ _ _ _=>len5 fun _ _ _ _ _=>rfl
 have u28:=mg_of X G a28
 have B29:=F29.f.binds (ps:=["_law_feed_here","_law_scene","_law_terms"]) fun _ _ _ _ _ _=>len3 fun _ _ _=>rfl
 have u29:=mg_of X G a29
 have B30:=F30.f.binds (ps:=["_law_feed_here","_law_scene","_law_room","_law_down"]) fun _ _ _ _ _ _=>len4 fun _ _ _ _=>rfl
 have u30:=mg_of X G a30
 have B31:=F31.f.binds (ps:=["_law_terms"]) fun _ _ _ _ _ _=>len1 fun _=>rfl
 have u31:=mg_of X G a31
 have B32:=F32.f.binds (ps:=["_law_term"]) fun _ _ _ _ _ _=>len1 fun _=>rfl
 have u32:=mg_of X G a32
 have B33:=F33.f.binds (ps:=["_law_found","_law_due"]) fun _ _ _ _ _ _=>len2 fun _ _=>rfl
 have u33:=mg_of X G a33
 have B34:=F34.f.binds (ps:=["_law_script"]) fun _ _ _ _ _ _=>len1 fun _=>rfl
 have u34:=mg_of X G a34
 have B35:=F35.f.binds (ps:=["_law_script"]) fun _ _ _ _ _ _=>len1 fun _=>rfl
 have u35:=mg_of X G a35
 have z_len:=mg_none_of X G z0
 have z_range:=mg_none_of X G z1
 have z_int:=mg_none_of X G z2
 have z_tuple:=mg_none_of X G z3
 have z_zip:=mg_none_of X G z4
 have z_all:=mg_none_of X G z5
 have z_max:=mg_none_of X G z6
 have z_min:=mg_none_of X G z7
 have z_isinstance:=mg_none_of X G z8
 have z_str:=mg_none_of X G z9
 have z_bool:=mg_none_of X G z10
 have z_enumerate:=mg_none_of X G z11
 have kC1:KD K w dC [("(",V.str ")"),("[",V.str "]")]:=⟨esC,nC,lC,kC,by decide +kernel,sC⟩
 have kF1:KD K w dF [("blank",V.ref t0),("start",V.ref t1),("word",V.ref t2),("end",V.ref t3)]:=⟨esF,nF,lF,kF,(show(["blank","start","word","end"]:List Str).Nodup by decide +kernel),sF⟩
 have T0:∀H,SqT K H t0 (folVB "blank"):=tupS_T q0 (by decide)
 have T1:∀H,SqT K H t1 (folVB "start"):=tupS_T q1 (by decide)
 have T2:∀H,SqT K H t2 (folVB "word"):=tupS_T q2 (by decide)
 have T3:∀H,SqT K H t3 (folVB "end"):=tupS_T q3 (by decide)
 have TK0:∀H,SqT K H aK keptV:=tupS_T qK (by decide)
 obtain⟨od,kV,doc,pm,an,cdv,ct,osl,rfl,lk,cc⟩:=F35.ex
 refine⟨fnOf "law" "law" (defArgs s_law) (defBody s_law) (defScope s_law) .none kV doc pm an cdv ct,fun s v=>.of_eq rfl,fun base _ _=>?_⟩
 have kS1:KD K w dS (shpD s1 s2 s3 s4 s5 s6 s7):=⟨esS,nS,lS,kS,(show(["more","first","others","long","if","let","fold"]:List Str).Nodup by decide +kernel),sS⟩
 have TO0:∀H,SqT K H aO opsV8:=tupS_T qO (by decide)
 have S1:=tupS_T r1 (by decide)
 have S2:=tupS_T r2 (by decide)
 have S3:=tupS_T r3 (by decide)
 have S4:=tupS_T r4 (by decide)
 have S5:=tupS_T r5 (by decide)
 have S6:=tupS_T r6 (by decide)
 have S7:=tupS_T r7 (by decide)
 have SO:Has l.prog w K mg base "sort_of" 1 _ _ g3 e3:=⟨ok_sort F3.f,u3,F3.kp,B3⟩
 have WE:Has l.prog w K mg base "well_parted" 2 _ _ g4 e4:=⟨ok_well F4.f SO z_all z_zip (mg_of X G pF) kF1 T0 T1 T2 T3,u4,F4.kp,B4⟩
 have SP:Has l.prog w K mg base "split_words" 1 _ _ g5 e5:=⟨ok_split F5.f,u5,F5.kp,B5⟩
 have IN:Has l.prog w K mg base "is_name" 1 _ _ g8 e8:=⟨ok_isname F8.f z_len z_all (mg_of X G pK) TK0 (mg_of X G pL),u8,F8.kp,B8⟩
 have IFG:Has l.prog w K mg base "is_figures" 1 _ _ g9 e9:=⟨ok_isfig F9.f z_len z_all (mg_of X G pI),u9,F9.kp,B9⟩
 have NO:Has l.prog w K mg base "name_of" 2 _ _ g10 e10:=⟨ok_nameof F10.f IN z_isinstance z_str,u10,F10.kp,B10⟩
 have NB:Has l.prog w K mg base "number_behind" 2 _ _ g11 e11:=⟨ok_numb F11.f IFG z_int,u11,F11.kp,B11⟩
 have TO:Has l.prog w K mg base "term_of" 3 _ _ g12 e12:=⟨ok_termof F12.f IFG NB NO z_isinstance z_str z_int,u12,F12.kp,B12⟩
 have TSO:Has l.prog w K mg base "terms_of" 4 _ _ g13 e13:=⟨ok_termsof F13.f TO z_tuple,u13,F13.kp,B13⟩
 have AO:Has l.prog w K mg base "arm_of" 1 _ _ g14 e14:=⟨ok_armof F14.f z_isinstance z_str,u14,F14.kp,B14⟩
 have SH:Has l.prog w K mg base "shaped" 4 _ _ g15 e15:=⟨ok_shaped F15.f TO NO z_tuple z_len z_zip,u15,F15.kp,B15⟩
 have CDT:Has l.prog w K mg base "closed_term" 5 _ _ g16 e16:=⟨ok_closed F16.f SH TSO TO NO AO z_tuple (mg_of X G pO) TO0 (mg_of X G pS) kS1 S1 S2 S3 S4 S5 S6 S7,u16,F16.kp,B16⟩
 have CLT:Has l.prog w K mg base "close_term" 6 _ _ g17 e17:=⟨ok_close F17.f CDT TO NO z_tuple z_isinstance z_str z_len,u17,F17.kp,B17⟩
 have SC:Has l.prog w K mg base "scanned" 7 _ _ g6 e6:=⟨ok_scan (by decide) Gd2.her (fun _=>rfl) F6.f WE SP CLT (mg_of X G pC) kC1,u6,F6.kp,B6⟩
 have SC1:Has l.prog w K mg base "scanned_one" 8 _ _ g7 e7:=⟨ok_scan1 F7.f SC z_len,u7,F7.kp,B7⟩
 have RDT:Has l.prog w K mg base "read_term" 9 _ _ g18 e18:=⟨ok_read (by decide) F18.f CLT SC1 TO,u18,F18.kp,B18⟩
 have BR:Has l.prog w K mg base "bracketed" 1 _ _ g1 e1:=⟨ok_brk F1.f z_enumerate (mg_of X G pC) kC1,u1,F1.kp,B1⟩
 have SPM:Has l.prog w K mg base "spell_match" 2 _ _ g19 e19:=⟨ok_spellm F19.f BR,u19,F19.kp,B19⟩
 have SPT:Has l.prog w K mg base "spell_term" 3 _ _ g20 e20:=⟨ok_spellt F20.f BR SPM z_str,u20,F20.kp,B20⟩
 have WRT:Has l.prog w K mg base "written" 4 _ _ g2 e2:=⟨ok_written F2.f SPT z_isinstance z_str,u2,F2.kp,B2⟩
 have TTX:Has l.prog w K mg base "term_text" 5 _ _ g21 e21:=⟨ok_ttx F21.f SPT WRT,u21,F21.kp,B21⟩
 have FD:Has l.prog w K mg base "_law_feed" 1 _ _ g22 e22:=⟨ok_feed F22.f z_len,u22,F22.kp,B22⟩
 have TK:Has l.prog w K mg base "_law_take" 1 _ _ g23 e23:=⟨ok_take F23.f,u23,F23.kp,B23⟩
 have NU:Has l.prog w K mg base "_law_number" 2 _ _ g24 e24:=⟨ok_number F24.f TK,u24,F24.kp,B24⟩
 have KP:Has l.prog w K mg base "_law_kept" 1 _ _ g25 e25:=⟨ok_kept F25.f,u25,F25.kp,B25⟩
 have LWD:Has l.prog w K mg base "_law_word" 2 _ _ g26 e26:=⟨ok_word F26.f TK KP z_range,u26,F26.kp,B26⟩
 have ALF:Has l.prog w K mg base "_law_any_leaf" 3 _ _ g27 e27:=⟨ok_aleaf F27.f TK NU z_len,u27,F27.kp,B27⟩
 have AAR:Has l.prog w K mg base "_law_any_arms" 2 _ _ g29 e29:=⟨ok_aar F29.f TK z_len z_range z_tuple,u29,F29.kp,B29⟩
 have ATE:Has l.prog w K mg base "_law_any_term" 24 _ _ g30 e30:=⟨ate_all F30.f u30 B30 F28.f u28 B28 TK ALF AAR z_min z_max z_range z_tuple z_len 10,u30,F30.kp,B30⟩
 have LTT:Has l.prog w K mg base "_law_term_text" 33 _ _ g32 e32:=⟨ltt_all F32.f u32 B32 F31.f u31 B31 z_str z_int z_isinstance 16,u32,F32.kp,B32⟩
 have LA:Has l.prog w K mg base "_law_alike" 66 _ _ g33 e33:=⟨alike_all F33.f u33 B33 z_tuple z_str z_int z_bool z_isinstance z_len z_all z_zip 65,u33,F33.kp,B33⟩
 have LG:Has l.prog w K mg base "_law_greater" 67 _ _ g34 e34:=⟨ok_greater (jr:=9) (by decide) F34.f FD TK LWD ATE ALF LTT RDT LA z_range,u34,F34.kp,B34⟩
 exact ok_law (jr:=9) (by decide) ⟨⟨_,od,kV,doc,pm,an,cdv,ct,osl,rfl,lk,cc⟩,F35.kp⟩ FD TK LWD ATE LTT RDT LA TTX LG z_range z_max z_len
theorem walk{l:PySem.W.OpenLaw}{q:Program}{loose:List Str}{XP:(Str->Option Value)->Heap->Prop}{YP:World->Heap->Prop}{d:DefRec}{K:Params->PySem.W.Frag}(hn:l.most=some 63)(hdf:d.params.defaults=[])
  (hY:∀(w:World) (h:Heap),YP w h->(K w.params).In h)
  (F:∀(w:World) (mg:Str->Option Value) (fa:Addr) (h:Heap),(K w.params).In h->h.Ns mainGlobals mg->mg d.name=some (.ref fa) ->
   ∃fd:FuncData,(∀(s:Shared) (u:Value),BindsTo s fd ⟨[u],[]⟩ [("_law_script",u)])/\∀base:Heap,(K w.params).In base->base.Ns mainGlobals mg->FnOk l.prog w (K w.params) mg base CX0 68 fa fd ["_law_script"] (spLaw (K w.params))) :
  PySem.W.WalkO q loose XP YP l.row.toRowW d [] (fun f vs=>PySem.call f vs) :=
 L2.walk_of (n:=63) (k:=68) (x:="_law_script") (CX:=fun _=>CX0) (sp:=fun w=>spLaw (K w.params)) hn (by decide) hdf ⟨rfl,by decide,by decide,rfl⟩ hY F (fun _ _ a ns hl _ hS=>⟨a,ns,rfl,hS,hl,fun _=>rfl⟩) fun _ _ _ _ _ z=>z
end G08
def PySem.W.Fast.tw16481990474079555759 : Unit := ()
def PySem.W.Fast.tw13826573894517886489 : Unit := ()
def PySem.W.Fast.tw6870610835294424618 : Unit := ()
def PySem.W.Fast.tw16374546065906013222 : Unit := ()
def PySem.W.Fast.tw16620587101316608718 : Unit := ()
def PySem.W.Fast.tw16330595858208695574 : Unit := ()
def PySem.W.Fast.tw9271458511229022768 : Unit := ()
def PySem.W.Fast.tw9504106697932784000 : Unit := ()
def PySem.W.Fast.tw11666691948789138310 : Unit := ()
def PySem.W.Fast.tw603125303056571963 : Unit := ()
def PySem.W.Fast.tw1984489561712396999 : Unit := ()
def PySem.W.Fast.tw7966816736285193122 : Unit := ()
def PySem.W.Fast.tw7310360847369360046 : Unit := ()
def PySem.W.Fast.tw16941097330547430792 : Unit := ()
def PySem.W.Fast.tw13324094467765713434 : Unit := ()
def PySem.W.Fast.tw270853324674977789 : Unit := ()
def PySem.W.Fast.tw3686034143826328432 : Unit := ()
def PySem.W.Fast.tw9709556873248339003 : Unit := ()
def PySem.W.Fast.tw10884149205176082050 : Unit := ()
def PySem.W.Fast.tw1759427467469310139 : Unit := ()
def PySem.W.Fast.tw8187961086930780271 : Unit := ()
def PySem.W.Fast.tw14990090811846047092 : Unit := ()
def PySem.W.Fast.tw15311323087189293108 : Unit := ()
def PySem.W.Fast.tw10774354696317576599 : Unit := ()
def PySem.W.Fast.tw16777219940412791161 : Unit := ()
def PySem.W.Fast.tw12995575755331475344 : Unit := ()
def PySem.W.Fast.tw17517937494279561515 : Unit := ()
def PySem.W.Fast.tw163874026774839106 : Unit := ()
open PySem PySem.W PyProof.Rows
set_option maxRecDepth 100000 in
set_option maxHeartbeats 0 in
theorem PySem.Challenge.cw_gapwork_k08_terms_written_and_read_holds : PySem.Challenge.rw_gapwork_k08_terms_written_and_read.Holds := by
  w_on; o_law; k_head; (case hw => w_witness2)
  k_fill
  refine G08.walk (l := PySem.Challenge.rw_gapwork_k08_terms_written_and_read) rfl rfl (fun w h Y => PySem.W.kIn_of Y) ?F
  case F =>
    intro w mg fa h KX G hmg
    refine' G08.all_mk KX G hmg ?a1 ?a2 ?a3 ?a4 ?a5 ?a6 ?a7 ?a8 ?a9 ?a10 ?a11 ?a12 ?a13 ?a14 ?a15 ?a16 ?a17 ?a18 ?a19 ?a20 ?a21 ?a22 ?a23 ?a24 ?a25 ?a26 ?a27 ?a28 ?a29 ?a30 ?a31 ?a32 ?a33 ?a34 ?a35 ?F1 ?F2 ?F3 ?F4 ?F5 ?F6 ?F7 ?F8 ?F9 ?F10 ?F11 ?F12 ?F13 ?F14 ?F15 ?F16 ?F17 ?F18 ?F19 ?F20 ?F21 ?F22 ?F23 ?F24 ?F25 ?F26 ?F27 ?F28 ?F29 ?F30 ?F31 ?F32 ?F33 ?F34 ?F35 ?pC ?lC ?kC ?sC ?pF ?lF ?kF ?sF ?pS ?lS ?kS ?sS ?q0 ?q1 ?q2 ?q3 ?r1 ?r2 ?r3 ?r4 ?r5 ?r6 ?r7 ?pO ?qO ?pK ?qK ?pL ?pI ?z0 ?z1 ?z2 ?z3 ?z4 ?z5 ?z6 ?z7 ?z8 ?z9 ?z10 ?z11
    (case a1 => k_is)
    (case a2 => k_is)
    (case a3 => k_is)
    (case a4 => k_is)
    (case a5 => k_is)
    (case a6 => k_is)
    (case a7 => k_is)
    (case a8 => k_is)
    (case a9 => k_is)
    (case a10 => k_is)
    (case a11 => k_is)
    (case a12 => k_is)
    (case a13 => k_is)
    (case a14 => k_is)
    (case a15 => k_is)
    (case a16 => k_is)
    (case a17 => k_is)
    (case a18 => k_is)
    (case a19 => k_is)
    (case a20 => k_is)
    (case a21 => k_is)
    (case a22 => k_is)
    (case a23 => k_is)
    (case a24 => k_is)
    (case a25 => k_is)
    (case a26 => k_is)
    (case a27 => k_is)
    (case a28 => k_is)
    (case a29 => k_is)
    (case a30 => k_is)
    (case a31 => k_is)
    (case a32 => k_is)
    (case a33 => k_is)
    (case a34 => k_is)
    (case a35 => k_is)
    (case F1 => exact G08.fnAt_mk (by k_is) (by k_is) (by k_is))
    (case F2 => exact G08.fnAt_mk (by k_is) (by k_is) (by k_is))
    (case F3 => exact G08.fnAt_mk (by k_is) (by k_is) (by k_is))
    (case F4 => exact G08.fnAt_mk (by k_is) (by k_is) (by k_is))
    (case F5 => exact G08.fnAt_mk (by k_is) (by k_is) (by k_is))
    (case F6 => exact G08.fnAt_mk (by k_is) (by k_is) (by k_is))
    (case F7 => exact G08.fnAt_mk (by k_is) (by k_is) (by k_is))
    (case F8 => exact G08.fnAt_mk (by k_is) (by k_is) (by k_is))
    (case F9 => exact G08.fnAt_mk (by k_is) (by k_is) (by k_is))
    (case F10 => exact G08.fnAt_mk (by k_is) (by k_is) (by k_is))
    (case F11 => exact G08.fnAt_mk (by k_is) (by k_is) (by k_is))
    (case F12 => exact G08.fnAt_mk (by k_is) (by k_is) (by k_is))
    (case F13 => exact G08.fnAt_mk (by k_is) (by k_is) (by k_is))
    (case F14 => exact G08.fnAt_mk (by k_is) (by k_is) (by k_is))
    (case F15 => exact G08.fnAt_mk (by k_is) (by k_is) (by k_is))
    (case F16 => exact G08.fnAt_mk (by k_is) (by k_is) (by k_is))
    (case F17 => exact G08.fnAt_mk (by k_is) (by k_is) (by k_is))
    (case F18 => exact G08.fnAt_mk (by k_is) (by k_is) (by k_is))
    (case F19 => exact G08.fnAt_mk (by k_is) (by k_is) (by k_is))
    (case F20 => exact G08.fnAt_mk (by k_is) (by k_is) (by k_is))
    (case F21 => exact G08.fnAt_mk (by k_is) (by k_is) (by k_is))
    (case F22 => exact G08.fnAt_mk (by k_is) (by k_is) (by k_is))
    (case F23 => exact G08.fnAt_mk (by k_is) (by k_is) (by k_is))
    (case F24 => exact G08.fnAt_mk (by k_is) (by k_is) (by k_is))
    (case F25 => exact G08.fnAt_mk (by k_is) (by k_is) (by k_is))
    (case F26 => exact G08.fnAt_mk (by k_is) (by k_is) (by k_is))
    (case F27 => exact G08.fnAt_mk (by k_is) (by k_is) (by k_is))
    (case F28 => exact G08.fnAt_mk (by k_is) (by k_is) (by k_is))
    (case F29 => exact G08.fnAt_mk (by k_is) (by k_is) (by k_is))
    (case F30 => exact G08.fnAt_mk (by k_is) (by k_is) (by k_is))
    (case F31 => exact G08.fnAt_mk (by k_is) (by k_is) (by k_is))
    (case F32 => exact G08.fnAt_mk (by k_is) (by k_is) (by k_is))
    (case F33 => exact G08.fnAt_mk (by k_is) (by k_is) (by k_is))
    (case F34 => exact G08.fnAt_mk (by k_is) (by k_is) (by k_is))
    (case F35 => exact G08.fnAt_mk (by k_is) (by k_is) (by k_is))
    (case pC => k_is)
    (case lC => k_is)
    (case kC => exact ⟨_, _, _, rfl, ⟨_, rfl⟩, rfl, ⟨_, rfl⟩, ⟨_, _, _, rfl, ⟨_, rfl⟩, rfl, ⟨_, rfl⟩, rfl⟩⟩)
    (case sC => kernel_rfl)
    (case pF => k_is)
    (case lF => k_is)
    (case kF => exact ⟨_, _, _, rfl, ⟨_, rfl⟩, rfl, rfl, ⟨_, _, _, rfl, ⟨_, rfl⟩, rfl, rfl, ⟨_, _, _, rfl, ⟨_, rfl⟩, rfl, rfl, ⟨_, _, _, rfl, ⟨_, rfl⟩, rfl, rfl, rfl⟩⟩⟩⟩)
    (case sF => kernel_rfl)
    (case pS => k_is)
    (case lS => k_is)
    (case kS => exact ⟨_, _, _, rfl, ⟨_, rfl⟩, rfl, rfl, ⟨_, _, _, rfl, ⟨_, rfl⟩, rfl, rfl, ⟨_, _, _, rfl, ⟨_, rfl⟩, rfl, rfl, ⟨_, _, _, rfl, ⟨_, rfl⟩, rfl, rfl, ⟨_, _, _, rfl, ⟨_, rfl⟩, rfl, rfl, ⟨_, _, _, rfl, ⟨_, rfl⟩, rfl, rfl, ⟨_, _, _, rfl, ⟨_, rfl⟩, rfl, rfl, rfl⟩⟩⟩⟩⟩⟩⟩)
    (case sS => kernel_rfl)
    (case q0 => kernel_rfl)
    (case q1 => kernel_rfl)
    (case q2 => kernel_rfl)
    (case q3 => kernel_rfl)
    (case r1 => kernel_rfl)
    (case r2 => kernel_rfl)
    (case r3 => kernel_rfl)
    (case r4 => kernel_rfl)
    (case r5 => kernel_rfl)
    (case r6 => kernel_rfl)
    (case r7 => kernel_rfl)
    (case pO => k_is)
    (case qO => kernel_rfl)
    (case pK => k_is)
    (case qK => kernel_rfl)
    (case pL => k_is)
    (case pI => k_is)
    (case z0 => k_is)
    (case z1 => k_is)
    (case z2 => k_is)
    (case z3 => k_is)
    (case z4 => k_is)
    (case z5 => k_is)
    (case z6 => k_is)
    (case z7 => k_is)
    (case z8 => k_is)
    (case z9 => k_is)
    (case z10 => k_is)
    (case z11 => k_is)
#print axioms PySem.Challenge.cw_gapwork_k08_terms_written_and_read_holds
