import PyProof.Rows.All
import Wide.All
import OpenK.AllK
import Wide.FinOn
import PyProof.EqAt
import PyProof.EqKinds
import PyProof.NeKinds
import PyProof.TupleCall
import PyProof.StrLawsRepr
import KE.KIsAll
import KE.KItem
import KE.KDictOf
import KE.KBytesAny
import KE.KDictList
import Lean
import PySem.Challenge.RW_gapwork_k12_things_as_texts
set_option Elab.async false
set_option linter.all false
set_option maxRecDepth 100000
namespace L2
open PySem PySem.Spec PyProof.Rows
abbrev Key:=Sum Int Str
def keyIs:Key->Value->Bool
 |.inl k,v=>Value.isInt k v
 |.inr x,v=>Value.isStrOf x v
def keyH(w:World):Key->Int
 |.inl k=>hashInt k
 |.inr x=>hashStr w x
theorem keyIs_shape:∀{k:Key}{v:Value},keyIs k v=true->(∃i t,k=Sum.inl i/\v=Value.int i t)\/(∃x t,k=Sum.inr x/\v=Value.str x t)
 |.inl i,v,h=>by
  obtain⟨t,e⟩:=Value.isInt_shape (k:=i) (v:=v) h
  exact .inl ⟨i,t,rfl,e⟩
 |.inr x,v,h=>by
  obtain⟨t,e⟩:=Value.isStrOf_shape (x:=x) (v:=v) h
  exact .inr ⟨x,t,rfl,e⟩
theorem keyIs_int(i:Int)(t:Tok):keyIs (.inl i) (.int i t)=true:=by simp[keyIs,Value.isInt]
theorem keyIs_str(x:Str)(t:Tok):keyIs (.inr x) (.str x t)=true:=by simp[keyIs,Value.isStrOf]
theorem key_ll(a b:Int):decide ((Sum.inl a:Key)=Sum.inl b)=(a == b):=by
 by_cases e:a=b
 ·subst e;simp
 ·have h:¬(Sum.inl a:Key)=Sum.inl b:=fun q=>e (Sum.inl.inj q)
  rw[decide_eq_false h]
  exact(beq_eq_false_iff_ne.mpr e).symm
theorem key_rr(a b:Str):decide ((Sum.inr a:Key)=Sum.inr b)=decide (a=b):=by
 by_cases e:a=b
 ·subst e;simp
 ·have h:¬(Sum.inr a:Key)=Sum.inr b:=fun q=>e (Sum.inr.inj q)
  rw[decide_eq_false h,decide_eq_false e]
theorem key_lr(a:Int)(b:Str):decide ((Sum.inl a:Key)=Sum.inr b)=false:=decide_eq_false (fun q=>nomatch q)
theorem key_rl(a:Str)(b:Int):decide ((Sum.inr a:Key)=Sum.inl b)=false:=decide_eq_false (fun q=>nomatch q)
def mixKind(prog:Program)(w:World):PySem.KeyKind prog w Key where
 is:=keyIs
 hash:=keyH w
 inj:=fun v a b ha hb=>by
  rcases keyIs_shape ha with⟨i,t,rfl,rfl⟩|⟨x,t,rfl,rfl⟩
  ·rcases keyIs_shape hb with⟨j,u,rfl,e⟩|⟨y,u,rfl,e⟩
   ·injection e with e1 _;rw[e1]
   ·exact nomatch e
  ·rcases keyIs_shape hb with⟨j,u,rfl,e⟩|⟨y,u,rfl,e⟩
   ·exact nomatch e
   ·injection e with e1 _;rw[e1]
 byValue:=fun k v h=>by
  rcases keyIs_shape h with⟨i,t,rfl,rfl⟩|⟨x,t,rfl,rfl⟩<;>rfl
 pyHash:=fun hv h=>by
  rcases keyIs_shape hv with⟨i,t,rfl,rfl⟩|⟨x,t,rfl,rfl⟩
  ·exact wpAny_pyHash_int h
  ·exact wpAny_pyHash_str h
 eqBool:=fun hu hv h=>by
  rcases keyIs_shape hu with⟨i,t,rfl,rfl⟩|⟨x,t,rfl,rfl⟩
  ·rcases keyIs_shape hv with⟨j,u,rfl,rfl⟩|⟨y,u,rfl,rfl⟩
   ·rw[key_ll]at h;exact wpAny_eqBool_int h
   ·rw[key_lr]at h;exact SeqAt.EqAt.int_str i t y u _ _ _ _ h
  ·rcases keyIs_shape hv with⟨j,u,rfl,rfl⟩|⟨y,u,rfl,rfl⟩
   ·rw[key_rl]at h;exact SeqAt.EqAt.str_int x t j u _ _ _ _ h
   ·rw[key_rr]at h;exact wpAny_eqBool_str h
 «strs»:=fun k x t v h=>by
  rcases keyIs_shape h with⟨i,u,rfl,e⟩|⟨y,u,rfl,e⟩
  ·exact nomatch e
  ·injection e with e1 _
   subst e1
   cases v<;>rfl
theorem mixKind_int(prog:Program)(w:World)(i:Int)(t:Tok):(mixKind prog w).is (.inl i) (.int i t)=true:=keyIs_int i t
theorem mixKind_str(prog:Program)(w:World)(x:Str)(t:Tok):(mixKind prog w).is (.inr x) (.str x t)=true:=keyIs_str x t
inductive V where
 |non|bl (b:Bool)|int (i:Int)|str (x:Str)|byt (b:Array UInt8)|flt (b:UInt64)|ref (a:Addr)|ty (n:String)
 deriving DecidableEq
def RelV:V->Value->Prop
 |.non,u=>u=Value.none
 |.bl b,u=>u=Value.bool b
 |.int i,u=>∃t,u=Value.int i t
 |.str x,u=>∃t,u=Value.str x t
 |.byt b,u=>∃t,u=Value.bytes b t
 |.flt b,u=>∃t,u=Value.float b t
 |.ref a,u=>u=Value.ref a
 |.ty n,u=>u=Value.type n
abbrev Vals:List V->List Value->Prop:=Paired RelV
theorem Vals.length{xs:List V}{us:List Value}(r:Vals xs us):xs.length=us.length:=Paired.length r
theorem Vals.get:∀{xs:List V}{us:List Value}{i:Nat}{x:V},Vals xs us->xs[i]?=some x->∃u,us[i]?=some u/\RelV x u
 |_,_,_,_,.nil,e=>by simp at e
 |_,_,0,_,.cons r _,e=>by simp at e;subst e;exact⟨_,rfl,r⟩
 |_,_,i+1,x,.cons _ t,e=>by
  obtain⟨u,h1,h2⟩:=Vals.get (i:=i) (x:=x) t (by simpa using e)
  exact⟨u,by simpa using h1,h2⟩
theorem Vals.set{x:V}{u:Value}(r:RelV x u):∀{xs:List V}{us:List Value}(i:Nat),Vals xs us->Vals (xs.set i x) (us.set i u)
 |_,_,_,.nil=>.nil
 |_,_,0,.cons _ t=>.cons r t
 |_,_,i+1,.cons q t=>.cons q (Vals.set r i t)
theorem Vals.append:∀{xs ys:List V}{us ws:List Value},Vals xs us->Vals ys ws->Vals (xs++ys) (us++ws)
 |_,_,_,_,.nil,s=>s
 |_,_,_,_,.cons r t,s=>.cons r (Vals.append t s)
theorem Vals.take:∀{xs:List V}{us:List Value}(n:Nat),Vals xs us->Vals (xs.take n) (us.take n)
 |_,_,0,_=>.nil
 |_,_,_+1,.nil=>.nil
 |_,_,n+1,.cons r t=>.cons r (Vals.take n t)
theorem Vals.drop:∀{xs:List V}{us:List Value}(n:Nat),Vals xs us->Vals (xs.drop n) (us.drop n)
 |_,_,0,r=>r
 |_,_,_+1,.nil=>.nil
 |_,_,n+1,.cons _ t=>Vals.drop n t
theorem Vals.none_of:∀{xs:List V}{us:List Value}{i:Nat},Vals xs us->xs[i]?=none->us[i]?=none:=fun{xs us i} r e=>by
 have h1:=r.length
 have h2:xs.length<=i:=List.getElem?_eq_none_iff.mp e
 exact List.getElem?_eq_none_iff.mpr (by omega)
def RelO:Option V->Option Value->Prop
 |some v,some u=>RelV v u
 |none,none=>True
 |_,_=>False
def KV{κ:Type}:List (κ×V)->List (κ×Value)->Prop:=Paired fun(p:κ×V) (q:κ×Value)=>p.1=q.1/\RelV p.2 q.2
def kV:Key->V
 |.inl i=>.int i
 |.inr x=>.str x
inductive HO where
 /-- a list -/
 |lst (xs:List V)
 /-- a tuple (never changes) -/
 |tup (xs:List V)
 /-- a dict whose keys are ints and texts;one whose keys are tuples of ints and texts (the empty one is both) -/
 |dK (kvs:List (Key×V))|dT (kvs:List (List Key×V))
 /-- a set of ints: its members,its size -/
 |set (S:Int->Bool) (n:Nat)
 /-- an instance of the class at C,its dict at dx,its attributes -/
 |ins (C dx:Addr) (fs:List (Str×V))
 /-- the dict of the instance at x -/
 |own (x:Addr)
 /-- the dict of an exception -/
 |xd (fs:List (Str×V))
 /-- a bound method,f of x -/
 |met (f x:Addr)
 /-- a range object lo,lo+1,.. below hi -/
 |rng (lo hi:Int)
 /-- a thing that is known to the object (the script;a dict while a loop walks it): read,never written while it is so -/
 |frz (o:Obj) (u:HO)
 /-- a code object's table -/
 |tbl (ps:Array Value)
 /-- any other thing,by what is true of its one object (a def of one's own: SetO a S n:=HO.ext fun h=>..) -/
 |ext (φ:Heap->Prop)
abbrev Hp:=Addr->Option HO
def upd(H:Hp)(a:Addr)(o:HO):Hp:=fun b=>if b=a then some o else H b
theorem upd_same{H:Hp}{a:Addr}{o:HO}:upd H a o a=some o:=by unfold upd;rw[if_pos rfl]
theorem upd_ne{H:Hp}{a b:Addr}{o:HO}(h:b≠a):upd H a o b=H b:=by unfold upd;rw[if_neg h]
theorem upd_upd{H:Hp}{a:Addr}{o u:HO}:upd (upd H a o) a u=upd H a u:=by
 funext b;unfold upd;split<;>rfl
theorem ne_of{H:Hp}{a b:Addr}{o u:HO}(h:H a=some o)(h':H b=some u)(d:o≠u):a≠b:=by
 intro e;subst e;rw[h]at h';exact d (Option.some.inj h')
theorem ne_of_none{H:Hp}{a b:Addr}{o:HO}(h:H a=some o)(h':H b=none):a≠b:=by
 intro e;subst e;rw[h]at h';cases h'
section
variable (P:Program) (w:World)
def PlT(h:Heap)(a:Addr):Prop:=∃o,h.get? a=some o/\o.dict=none
def ObjOk(H:Hp)(h:Heap)(a:Addr):HO->Prop
 |.lst xs=>xs.length<=sizeLine/\∃(its:List Value) (n:Nat),Vals xs its/\h.get? a=some {cls:=.type "list",data:=.seq its.toArray n}
 |.tup xs=>xs.length<=sizeLine/\∃its:List Value,Vals xs its/\IsTup h a its.toArray/\PlT h a
 |.dK kvs=>kvs.length<=sizeLine/\(a == sysModules)=false/\∃vs,KV kvs vs/\h.DictOf (mixKind P w) a vs
 |.dT kvs=>kvs.length<=sizeLine/\(a == sysModules)=false/\∃xs:List (List Key×Addr×Value),
   Paired (fun(p:List Key×V) (q:List Key×Addr×Value)=>p.1=q.1/\H q.2.1=some (.tup (p.1.map kV))/\RelV p.2 q.2.2) kvs xs /\
   ∃o es ep,h.get? a=some o/\o.ExactDict/\o.data=.dict es ep/\es.toList=xs.map (entryOfKey (tupleKind (mixKind P w)))/\(xs.map (·.1)).Nodup
 |.set S n=>h.SetOf (intKind P w) a S n
 |.ins C dx fs=>H dx=some (.own a)/\fs.length<=1000/\dx≠a/\h.get? a=some (PySem.W.instObj C dx) /\
   ∃mA,h.Ns1 dx mA/\(∀f,RelO (fs.lookup f) (mA f))/\PySem.Within mA (fs.map (·.1))
 |.own _=>∃o,h.get? a=some o
 |.xd fs=>∃mA,h.Ns1 a mA/\∀f,RelO (fs.lookup f) (mA f)
 |.rng lo hi=>∃t u v,h.get? a=some {cls:=.type "range",data:=.fields #[.int lo t,.int hi u,.int 1 v]}
 |.frz o u=>h.get? a=some o/\ObjOk H h a u
 |.tbl ps=>h.get? a=some {cls:=.none,data:=.fields ps}
 |.met f x=>h.get? a=some (PySem.W.methodObj (.ref f) (.ref x))
 |.ext φ=>φ h/\(∃o,h.get? a=some o)/\∀h1 h2:Heap,φ h1->(∀o,h1.get? a=some o->h2.get? a=some o)->φ h2
def HOk(H:Hp)(h:Heap):Prop:=∀a o,H a=some o->ObjOk P w H h a o
end
section
variable {P:Program}{w:World}{H H':Hp}{h h':Heap}{a:Addr}{o:HO}
theorem ObjOk.lt(x:ObjOk P w H h a o):a<h.objs.size:=by
 cases o with
 |lst xs=>obtain⟨_,_,_,_,e⟩:=x;exact Heap.lt_size e
 |tup xs=>obtain⟨_,_,_,p,_⟩:=x;exact p.lt
 |dK kvs=>obtain⟨_,_,_,_,o,_,_,e,_⟩:=x;exact Heap.lt_size e
 |dT kvs=>obtain⟨_,_,_,_,o,_,_,e,_⟩:=x;exact Heap.lt_size e
 |set S n=>obtain⟨o,_,_,_,e,_⟩:=x;exact Heap.lt_size e
 |ins C dx fs=>obtain⟨_,_,_,e,_⟩:=x;exact Heap.lt_size e
 |own y=>obtain⟨_,e⟩:=x;exact Heap.lt_size e
 |xd fs=>obtain⟨_,⟨_,_,_,e,_⟩,_⟩:=x;exact Heap.lt_size e
 |rng lo hi=>obtain⟨_,_,_,e⟩:=x;exact Heap.lt_size e
 |frz ob u=>obtain⟨e,_⟩:=x;exact Heap.lt_size e
 |tbl ps=>exact Heap.lt_size (show h.get? a=some _ from x)
 |met f y=>exact Heap.lt_size (show h.get? a=some _ from x)
 |ext φ=>obtain⟨_,⟨_,e⟩,_⟩:=x;exact Heap.lt_size e
theorem Paired.mapP{α β:Type}{F G:α->β->Prop}:∀{l₁:List α}{l₂:List β},Paired F l₁ l₂->(∀a b,F a b->G a b)->Paired G l₁ l₂
 |_,_,.nil,_=>.nil
 |_,_,.cons r t,f=>.cons (f _ _ r) (Paired.mapP t f)
theorem ObjOk.stay(x:ObjOk P w H h a o)(k:∀b u,(b=a\/H b=some (.own a))->h.get? b=some u->h'.get? b=some u)
  (ho:∀b,H b=some (.own a)->H' b=some (.own a)) (ht:∀b xs,H b=some (.tup xs)->H' b=some (.tup xs)):ObjOk P w H' h' a o:=by
 induction o with
 |lst xs=>obtain⟨z,its,n,r,e⟩:=x;exact⟨z,its,n,r,k _ _ (.inl rfl) e⟩
 |tup xs=>obtain⟨z,its,r,⟨ob,e,c⟩,o2,e2,d2⟩:=x;exact⟨z,its,r,⟨ob,k _ _ (.inl rfl) e,c⟩,o2,k _ _ (.inl rfl) e2,d2⟩
 |dK kvs=>obtain⟨z,y,vs,r,ob,es,ep,e,c⟩:=x;exact⟨z,y,vs,r,ob,es,ep,k _ _ (.inl rfl) e,c⟩
 |dT kvs =>
  obtain⟨z,y,xs,r,ob,es,ep,e,c⟩:=x
  exact⟨z,y,xs,Paired.mapP r fun p q z=>⟨z.1,ht _ _ z.2.1,z.2.2⟩,ob,es,ep,k _ _ (.inl rfl) e,c⟩
 |set S n=>obtain⟨ob,es,ep,t,e,c⟩:=x;exact⟨ob,es,ep,t,k _ _ (.inl rfl) e,c⟩
 |ins C dx fs =>
  obtain⟨d,z,ne,e,mA,⟨od,es,ep,e2,c⟩,r⟩:=x
  exact⟨ho _ d,z,ne,k _ _ (.inl rfl) e,mA,⟨od,es,ep,k _ _ (.inr d) e2,c⟩,r⟩
 |own y=>obtain⟨ob,e⟩:=x;exact⟨ob,k _ _ (.inl rfl) e⟩
 |xd fs=>obtain⟨mA,⟨od,es,ep,e,c⟩,r⟩:=x;exact⟨mA,⟨od,es,ep,k _ _ (.inl rfl) e,c⟩,r⟩
 |rng lo hi=>obtain⟨t,u,v,e⟩:=x;exact⟨t,u,v,k _ _ (.inl rfl) e⟩
 |frz ob u ih=>obtain⟨e,q⟩:=x;exact⟨k _ _ (.inl rfl) e,ih q⟩
 |tbl ps =>
  have e:h.get? a=some {cls:=.none,data:=.fields ps}:=x
  show h'.get? a=some {cls:=.none,data:=.fields ps}
  exact k a _ (.inl rfl) e
 |met f y =>
  have e:h.get? a=some (PySem.W.methodObj (.ref f) (.ref y)):=x
  show h'.get? a=some (PySem.W.methodObj (.ref f) (.ref y))
  exact k a _ (.inl rfl) e
 |ext φ=>obtain⟨p,⟨o,e⟩,st⟩:=x;exact⟨st _ _ p fun o q=>k _ _ (.inl rfl) q,⟨o,k _ _ (.inl rfl) e⟩,st⟩
theorem HOk.lt(x:HOk P w H h)(e:H a=some o):a<h.objs.size:=(x a o e).lt
theorem HOk.fresh(x:HOk P w H h)(e:h.objs.size<=a):H a=none:=by
 cases q:H a with
 |none=>rfl
 |some u=>exact absurd (Nat.lt_of_lt_of_le (x.lt q) e) (Nat.lt_irrefl _)
theorem HOk.kept(x:HOk P w H h)(k:∀b u,h.get? b=some u->h'.get? b=some u):HOk P w H h':=fun a o e =>
 (x a o e).stay (fun b u _ q=>k b u q) (fun _ q=>q) fun _ _ q=>q
theorem HOk.laid(x:HOk P w H h)(k:∀b u,h.get? b=some u->h'.get? b=some u)(hp:h.objs.size<=a)(new:ObjOk P w (upd H a o) h' a o):HOk P w (upd H a o) h':=fun b u e=>by
 have hn:=x.fresh hp
 by_cases hb:b=a
 ·subst hb;rw[upd_same]at e;cases e;exact new
 ·rw[upd_ne hb]at e
  exact(x b u e).stay (fun c v _ q=>k c v q) (fun c q=>by rw[upd_ne (ne_of_none q hn)];exact q) fun c xs q=>by rw[upd_ne (ne_of_none q hn)];exact q
end
def Rd(H:Hp)(a:Addr)(u:HO):Prop:=H a=some u\/∃o,H a=some (.frz o u)
theorem Rd.ok{P:Program}{w:World}{H:Hp}{h:Heap}{a:Addr}{u:HO}(r:Rd H a u)(x:HOk P w H h):ObjOk P w H h a u:=by
 rcases r with r|⟨o,r⟩
 ·exact x a u r
 ·obtain⟨_,q⟩:=x a _ r
  exact q
def Mut:Option HO->Prop
 |some (.lst _)=>True
 |some (.dK _)=>True
 |some (.dT _)=>True
 |some (.set _ _)=>True
 |some (.ins _ _ _)=>True
 |some (.ext _)=>True
 |_=>False
section
variable {P:Program}{w:World}{H:Hp}{h h':Heap}{x e:Addr}{o':HO}
theorem HOk.write(ok:HOk P w H h)(mu:Mut (H x))(he:e=x\/H e=some (.own x))(k:∀b u,b≠e->h.get? b=some u->h'.get? b=some u)(heo:∃u,h'.get? e=some u)
  (new:ObjOk P w (upd H x o') h' x o'):HOk P w (upd H x o') h':=fun b u q=>by
 have nown:∀c y,H c=some (.own y)->c≠x:=fun c y r z=>by subst z;rw[r]at mu;exact mu
 have ntup:∀c xs,H c=some (.tup xs)->c≠x:=fun c xs r z=>by subst z;rw[r]at mu;exact mu
 by_cases hb:b=x
 ·subst hb;rw[upd_same]at q;cases q;exact new
 ·rw[upd_ne hb]at q
  by_cases hbe:b=e
  ·have q':H b=some (.own x):=by
    rcases he with z|z
    ·exact absurd (hbe.trans z) hb
    ·rw[hbe];exact z
   rw[q]at q';cases q'
   obtain⟨v,hv⟩:=heo
   exact⟨v,by rw[hbe];exact hv⟩
  ·refine(ok b u q).stay (fun c v hc r=>k c v ?_ r) (fun c r=>by rw[upd_ne (nown c b r)];exact r) fun c xs r=>by rw[upd_ne (ntup c xs r)];exact r
   rcases hc with rfl|hc
   ·exact hbe
   ·rintro rfl
    rcases he with z|z
    ·exact nown c b hc z
    ·rw[hc]at z;cases z;exact hb rfl
end
structure Un(fs ex:List Addr) (H H':Hp) (h h':Heap):Prop where
 keep:∀b o,h.get? b=some o->H b=none->b∉fs->b∉ex->h'.get? b=some o
 slot:∀b o,h.get? b=some o->H b=none->b∈fs->b∉ex->∃sl,h'.get? b=some {o with slots:=sl}
 free:∀b o,h.get? b=some o->H b=none->b∉ex->H' b=none
 there:∀b o,h.get? b=some o->b∉ex->∃o',h'.get? b=some o'
 tups:∀b xs,H b=some (.tup xs)->H' b=some (.tup xs)
 frzs:∀b o u,H b=some (.frz o u)->H' b=some (.frz o u)
 tbls:∀b ps,H b=some (.tbl ps)->∃more,H' b=some (.tbl (ps++more))
section
variable {fs fs' ex ex':List Addr}{H H1 H2:Hp}{h h1 h2 h':Heap}{a x e:Addr}{o:HO}
theorem Un.any(u:Un fs ex H H1 h h1){b:Addr}{ob:Obj}(q:h.get? b=some ob)(n:H b=none)(hx:b∉ex):∃sl,h1.get? b=some {ob with slots:=sl}:=by
 by_cases hb:b∈fs
 ·exact u.slot b ob q n hb hx
 ·exact⟨ob.slots,u.keep b ob q n hb hx⟩
theorem Un.trans(a:Un fs ex H H1 h h1)(b:Un fs ex H1 H2 h1 h2):Un fs ex H H2 h h2 where
 keep:=fun c ob q n hc hx=>b.keep c ob (a.keep c ob q n hc hx) (a.free c ob q n hx) hc hx
 slot:=fun c ob q n hc hx=>by
  obtain⟨sl,e1⟩:=a.slot c ob q n hc hx
  obtain⟨sl',e2⟩:=b.slot c _ e1 (a.free c ob q n hx) hc hx
  exact⟨sl',e2⟩
 free:=fun c ob q n hx=>by
  obtain⟨o',e1⟩:=a.there c ob q hx
  exact b.free c o' e1 (a.free c ob q n hx) hx
 there:=fun c ob q hx=>by
  obtain⟨o',e1⟩:=a.there c ob q hx
  exact b.there c o' e1 hx
 tups:=fun c xs q=>b.tups c xs (a.tups c xs q)
 frzs:=fun c ob xs q=>b.frzs c ob xs (a.frzs c ob xs q)
 tbls:=fun c ps q=>by
  obtain⟨m1,e1⟩:=a.tbls c ps q
  obtain⟨m2,e2⟩:=b.tbls c _ e1
  exact⟨m1++m2,by rw[e2,Array.append_assoc]⟩
theorem Un.kept(k:∀b u,h.get? b=some u->h'.get? b=some u):Un fs ex H H h h' :=
 ⟨fun b ob q _ _ _=>k b ob q,fun b ob q _ _ _=>⟨ob.slots,k b ob q⟩,fun _ _ _ n _=>n,fun b ob q _=>⟨ob,k b ob q⟩,fun _ _ q=>q,fun _ _ _ q=>q,fun _ ps q=>⟨#[],by rw[q];simp⟩⟩
theorem Un.refl:Un fs ex H H h h:=Un.kept fun _ _ q=>q
theorem Un.laid(k:∀b u,h.get? b=some u->h'.get? b=some u)(hp:h.objs.size<=a)(hn:H a=none):Un fs ex H (upd H a o) h h' where
 keep:=fun b u q _ _ _=>k b u q
 slot:=fun b u q _ _ _=>⟨u.slots,k b u q⟩
 free:=fun b u q n _=>by rw[upd_ne (Nat.ne_of_lt (Nat.lt_of_lt_of_le (Heap.lt_size q) hp))];exact n
 there:=fun b u q _=>⟨u,k b u q⟩
 tups:=fun b xs q=>by rw[upd_ne (ne_of_none q hn)];exact q
 frzs:=fun b u xs q=>by rw[upd_ne (ne_of_none q hn)];exact q
 tbls:=fun b ps q=>⟨#[],by rw[upd_ne (ne_of_none q hn),q];simp⟩
theorem Un.write(mu:Mut (H x))(he:e=x\/H e=some (.own x))(k:∀b u,b≠e->h.get? b=some u->h'.get? b=some u)(heo:∃u,h'.get? e=some u):Un fs ex H (upd H x o) h h':=by
 have hx:∀b,H b=none->b≠x:=fun b n z=>by subst z;rw[n]at mu;exact mu
 have hb:∀b,H b=none->b≠e:=fun b n z=>by
  subst z
  rcases he with r|r
  ·exact hx b n r
  ·rw[n]at r;cases r
 have hm:∀b u,H b=some u->¬Mut (some u)->b≠x:=fun b u q nm z=>by subst z;rw[q]at mu;exact nm mu
 refine⟨fun b u q n _ _=>k b u (hb b n) q,fun b u q n _ _=>⟨u.slots,k b u (hb b n) q⟩,fun b u q n _=>by rw[upd_ne (hx b n)];exact n,fun b u q _=>?_,
  fun b xs q=>by rw[upd_ne (hm b _ q fun z=>z)];exact q,fun b u xs q=>by rw[upd_ne (hm b _ q fun z=>z)];exact q,fun b ps q=>⟨#[],by rw[upd_ne (hm b _ q fun z=>z),q];simp⟩⟩
 by_cases hbe:b=e
 ·subst hbe;exact heo
 ·exact⟨u,k b u hbe q⟩
end
def trk(h:Heap)(H:Hp):List Addr:=(List.range h.objs.size).filter fun a=>(H a).isSome
def hidT(h:Heap)(H:Hp):Heap:=PySem.W.hideAll h (trk h H)
theorem hidT_size(h:Heap)(H:Hp):(hidT h H).objs.size=h.objs.size:=PySem.W.hideAll_size _ _
theorem hidT_get{h:Heap}{H:Hp}{b:Addr}{o:Obj}(e:h.get? b=some o)(n:H b=none):(hidT h H).get? b=some o :=
 PySem.W.hideAll_get _ e fun hm=>by
  have q:(H b).isSome=true:=(List.mem_filter.mp hm).2
  rw[n]at q;simp at q
theorem of_hidT{h:Heap}{H:Hp}{b:Addr}{o:Obj}(e:(hidT h H).get? b=some o):h.get? b=some o/\H b=none:=by
 have e':h.get? b=some o:=PySem.W.of_hideAll (trk h H) e
 refine⟨e',?_⟩
 cases q:H b with
 |none=>rfl
 |some x =>
  have hm:b∈trk h H:=List.mem_filter.mpr ⟨List.mem_range.mpr (Heap.lt_size e'),by simp[q]⟩
  have z:(hidT h H).get? b=none:=PySem.W.hideAll_none (trk h H) hm
  rw[z]at e;cases e
structure Mod(K:PySem.W.Frag) (mg:Str->Option Value) (base:Heap):Prop where
 kin:K.In base
 glob:base.Ns mainGlobals mg
 blt:∃mb,base.Ns builtinsNs mb/\∀x:Str,x≠"__name__"->mb x=bootBuiltins x
 nolimit:base.NoLimit
structure Cx where
 prog:Program
 w:World
 K:PySem.W.Frag
 mg:Str->Option Value
 base:Heap
 A:Around
 N:List Str
 s₀:Shared
 H₀:Hp
 env:Env
 outer:List Env
 stack:List Env
 ex:List Addr
 fn:Str->Bool
 calm:Bool
 pn:List (Addr×Obj)
 xe:Value->Shared->Prop
def frs(l:List Env):List Addr:=l.filterMap (·.frame)
abbrev Cx.fs(X:Cx):List Addr:=frs X.outer
def Vis(sc:Scope)(x:Str):Prop:=sc.names.lookup x=some .local\/sc.names.lookup x=some .cell\/sc.names.lookup x=some .free
def Loc(sc:Scope)(x:Str):Prop:=sc.names.lookup x=some .local\/sc.names.lookup x=some .cell
def Look(env:Env)(h:Heap)(m:Str->Option Value)(x:Str)(u:Value):Prop :=
 (env.kindOf x=some .local/\m x=some u)\/((env.kindOf x=some .cell\/env.kindOf x=some .free)/\∃c,env.cells.lookup x=some c/\h.IsCell c (some u))
structure Cx.Ok(X:Cx):Prop where
 mod:Mod X.K X.mg X.base
 kind:X.env.scope.kind=.function
 glob:X.env.globals=mainGlobals
 blt:X.env.builtins=builtinsNs
 above:X.s₀.heap.objs.size<=X.env.locals
 inj:∀x y c,X.env.cells.lookup x=some c->X.env.cells.lookup y=some c->x=y
 has:∀x,(X.env.kindOf x=some .cell\/X.env.kindOf x=some .free)->∃c,X.env.cells.lookup x=some c
 cab:∀x c,X.fn x=true->X.env.cells.lookup x=some c->X.s₀.heap.objs.size<=c
 hd:X.calm=true->X.A.handled=none
 frames:X.A.frames=some X.stack
 stk:X.stack=X.outer\/(X.stack=X.env::X.outer/\X.env.frame=some X.env.locals)
 exf:∀b∈X.ex,b≠X.env.locals/\∀x c,X.env.cells.lookup x=some c->c≠b
 bs:∀b o,X.base.get? b=some o->X.s₀.heap.get? b=some o/\X.H₀ b=none
 bsz:X.base.objs.size<=X.s₀.heap.objs.size
 noex:∀b o,X.base.get? b=some o->b∉X.ex
 exfs:∀b∈X.ex,b∉X.fs
 funs:X.s₀.heap.FunFrames X.base X.outer
 frf:∀b∈X.fs,X.H₀ b=none
structure Inv(X:Cx) (pins:List (Addr×Obj)) (σ:List (Option V)) (H:Hp) (s:Shared):Prop where
 ok:X.Ok
 os:s.os=X.s₀.os
 bare:AllBare s.gens
 base:Un X.fs X.ex X.H₀ H X.s₀.heap s.heap
 loc:∃m,s.heap.Ns X.env.locals m/\∀(i:Nat) (x:Str) (v:V),X.N[i]?=some x->σ[i]?=some (some v)->Vis X.env.scope x->∃u,RelV v u/\Look X.env s.heap m x u
 cell:∀x c,X.env.cells.lookup x=some c->∃v,s.heap.IsCell c v
 free:H X.env.locals=none
 freeC:∀x c,X.env.cells.lookup x=some c->H c=none
 pin:∀p∈X.pn++pins,s.heap.get? p.1=some p.2/\H p.1=none/\p.1≠X.env.locals/\p.1∉X.fs/\∀v,p.2.data≠.cell v
 hok:HOk X.prog X.w H s.heap
 len:σ.length=X.N.length
section
variable {X:Cx}{pins:List (Addr×Obj)}{σ:List (Option V)}{H H':Hp}{s:Shared}{h':Heap}
theorem Cx.Ok.nofr(ok:X.Ok){b:Addr}{o:Obj}(e:X.base.get? b=some o):b∉X.fs:=fun hb=>by
 have:=(ok.funs.mem hb).1
 rw[e]at this;cases this
theorem Inv.bs(I:Inv X pins σ H s):∀b o,X.base.get? b=some o->s.heap.get? b=some o/\H b=none:=fun b o e =>
 ⟨I.base.keep b o (I.ok.bs b o e).1 (I.ok.bs b o e).2 (I.ok.nofr e) (I.ok.noex b o e),I.base.free b o (I.ok.bs b o e).1 (I.ok.bs b o e).2 (I.ok.noex b o e)⟩
theorem Inv.bk(I:Inv X pins σ H s):∀b o,X.base.get? b=some o->s.heap.get? b=some o:=fun b o e=>(I.bs b o e).1
theorem Inv.mod(I:Inv X pins σ H s):Mod X.K X.mg X.base:=I.ok.mod
theorem Inv.kIn(I:Inv X pins σ H s):X.K.In s.heap:=I.ok.mod.kin.keeps I.bk
theorem Inv.fr(I:Inv X pins σ H s):∃m,Fr X.base X.env.locals s.heap m :=
 let⟨m,hn,_⟩:=I.loc
 ⟨m,hn,I.bk,Nat.le_trans I.ok.bsz I.ok.above⟩
theorem Inv.lt(I:Inv X pins σ H s):X.env.locals<s.heap.objs.size:=let⟨_,hn,_⟩:=I.loc;hn.lt
theorem Inv.sz(I:Inv X pins σ H s):X.s₀.heap.objs.size<=s.heap.objs.size:=Nat.le_trans I.ok.above (Nat.le_of_lt I.lt)
theorem Inv.nofs(I:Inv X pins σ H s){a:Addr}(h:s.heap.objs.size<=a):a∉X.fs:=fun hb=>by
 obtain⟨_,o,ho,_⟩:=I.ok.funs.mem hb
 exact absurd (Nat.lt_of_lt_of_le (Heap.lt_size ho) (Nat.le_trans I.sz h)) (Nat.lt_irrefl _)
theorem Inv.cne(I:Inv X pins σ H s):∀x c,X.env.cells.lookup x=some c->c≠X.env.locals:=fun x c e z=>by
 obtain⟨v,o,ho,hd⟩:=I.cell x c e
 obtain⟨m,⟨o',es,ep,ho',hd',_⟩,_⟩:=I.loc
 rw[z,ho']at ho;cases ho;rw[hd']at hd;cases hd
theorem Inv.funs(I:Inv X pins σ H s):s.heap.FunFrames X.base X.outer:=by
 have all:∀(l:List Env),(∀b∈frs l,b∈X.fs)->X.s₀.heap.FunFrames X.base l->s.heap.FunFrames X.base l:=by
  intro l
  induction l with
  |nil=>intro _ _;trivial
  |cons env r ih =>
   intro hs hl
   obtain⟨hk,⟨L,o,hf,hn,ho,hd⟩,hr⟩:=hl
   have hL:L∈X.fs:=hs L (by unfold frs;rw[List.filterMap_cons,hf];exact List.mem_cons_self)
   obtain⟨sl,e⟩:=I.base.slot L o ho (I.ok.frf L hL) hL fun z=>I.ok.exfs L z hL
   exact⟨hk,⟨L,_,hf,hn,e,hd⟩,ih (fun b hb=>hs b (by unfold frs;rw[List.filterMap_cons,hf];exact List.mem_cons_of_mem _ hb)) hr⟩
 exact all X.outer (fun _ hb=>hb) I.ok.funs
theorem Inv.stack(I:Inv X pins σ H s):s.heap.FunFrames X.base X.stack:=by
 rcases I.ok.stk with e|⟨e,hf⟩
 ·rw[e];exact I.funs
 ·rw[e]
  obtain⟨m,hn,_⟩:=I.loc
  refine .cons (by rw[I.ok.kind];decide) hf hn ?_ I.funs
  exact Heap.get?_none_of_le (Nat.le_trans I.ok.bsz I.ok.above)
theorem Inv.stkSub(I:Inv X pins σ H s):∀b∈frs X.stack,b∈X.env.locals::X.fs:=fun b hb=>by
 rcases I.ok.stk with e|⟨e,hf⟩
 ·rw[e]at hb;exact List.mem_cons_of_mem _ hb
 ·rw[e]at hb
  unfold frs at hb
  rw[List.filterMap_cons,hf]at hb
  exact hb
theorem Inv.stkFree(I:Inv X pins σ H s):∀b∈frs X.stack,H b=none:=fun b hb=>by
 rcases List.mem_cons.mp (I.stkSub b hb)with e|hb
 ·rw[e];exact I.free
 ·obtain⟨_,o,ho,_⟩:=I.ok.funs.mem hb
  exact I.base.free b o ho (I.ok.frf b hb) fun z=>I.ok.exfs b z hb
theorem Inv.step{g':Array GenState}{t':Nat}{d':Drawn}{ch:List Addr}(I:Inv X pins σ H s)
  (hch:∀b∈ch,(b∈X.ex\/X.s₀.heap.objs.size<=b)/\b≠X.env.locals/\(∀x c,X.env.cells.lookup x=some c->c≠b)/\∀p∈X.pn++pins,p.1≠b)
  (keep:∀b o,b≠X.env.locals->b∉X.fs->b∉ch->s.heap.get? b=some o->H b=none->h'.get? b=some o)
  (slot:∀b o,b≠X.env.locals->b∈X.fs->b∉ch->s.heap.get? b=some o->H b=none->∃sl,h'.get? b=some {o with slots:=sl}) (free:∀b o,b∉ch->s.heap.get? b=some o->H b=none->H' b=none)
  (there:∀b o,b∉ch->s.heap.get? b=some o->∃o',h'.get? b=some o')
  (tups:∀b xs,H b=some (.tup xs)->H' b=some (.tup xs)) (frzs:∀b o u,H b=some (.frz o u)->H' b=some (.frz o u)) (tbls:∀b ps,H b=some (.tbl ps)->∃more,H' b=some (.tbl (ps++more)))
  (ns:∀m,s.heap.Ns X.env.locals m->h'.Ns X.env.locals m) (hok:HOk X.prog X.w H' h') (hg:AllBare g') :
  Inv X pins σ H' {s with heap:=h',gens:=g',drawn:=d',toks:=t'}:=by
 have neL:∀b o,X.s₀.heap.get? b=some o->b≠X.env.locals:=fun b o e=>Nat.ne_of_lt (Nat.lt_of_lt_of_le (Heap.lt_size e) I.ok.above)
 have neC:∀b o,X.s₀.heap.get? b=some o->b∉X.ex->b∉ch:=fun b o e hx hb=>by
  rcases(hch b hb).1 with z|z
  ·exact hx z
  ·exact absurd (Nat.lt_of_lt_of_le (Heap.lt_size e) z) (Nat.lt_irrefl _)
 have cellK:∀x c,X.env.cells.lookup x=some c->∀v,s.heap.IsCell c v->h'.IsCell c v:=fun x c e v ⟨o,ho,hd⟩=>by
  have nch:c∉ch:=fun z=>(hch c z).2.2.1 x c e rfl
  by_cases hc:c∈X.fs
  ·obtain⟨sl,q⟩:=slot c o (I.cne x c e) hc nch ho (I.freeC x c e)
   exact⟨_,q,hd⟩
  ·exact⟨o,keep c o (I.cne x c e) hc nch ho (I.freeC x c e),hd⟩
 refine⟨I.ok,I.os,hg,⟨fun b o e n hb hx=>?_,fun b o e n hb hx=>?_,fun b o e n hx=>?_,fun b o e hx=>?_,fun b xs e=>tups b xs (I.base.tups b xs e),fun b o xs e=>frzs b o xs (I.base.frzs b o xs e),fun b ps e=>?_⟩,?_,fun x c e=>?_,?_,fun x c e=>?_,fun p hp=>?_,hok,I.len⟩
 ·exact keep b o (neL b o e) hb (neC b o e hx) (I.base.keep b o e n hb hx) (I.base.free b o e n hx)
 ·obtain⟨sl,e1⟩:=I.base.slot b o e n hb hx
  obtain⟨sl',e2⟩:=slot b _ (neL b o e) hb (neC b o e hx) e1 (I.base.free b o e n hx)
  exact⟨sl',e2⟩
 ·obtain⟨o',e1⟩:=I.base.there b o e hx
  exact free b o' (neC b o e hx) e1 (I.base.free b o e n hx)
 ·obtain⟨o',e1⟩:=I.base.there b o e hx
  exact there b o' (neC b o e hx) e1
 ·obtain⟨m1,e1⟩:=I.base.tbls b ps e
  obtain⟨m2,e2⟩:=tbls b _ e1
  exact⟨m1++m2,by rw[e2,Array.append_assoc]⟩
 ·obtain⟨m,hn,hl⟩:=I.loc
  refine⟨m,ns m hn,fun i x v e1 e2 e3=>?_⟩
  obtain⟨u,r,l⟩:=hl i x v e1 e2 e3
  refine⟨u,r,?_⟩
  rcases l with l|⟨k,c,e,z⟩
  ·exact .inl l
  ·exact .inr ⟨k,c,e,cellK x c e _ z⟩
 ·obtain⟨v,z⟩:=I.cell x c e
  exact⟨v,cellK x c e v z⟩
 ·obtain⟨m,⟨o,_,_,ho,_⟩,_⟩:=I.loc
  exact free _ o (fun z=>(hch _ z).2.1 rfl) ho I.free
 ·obtain⟨v,o,ho,hd⟩:=I.cell x c e
  exact free c o (fun z=>(hch c z).2.2.1 x c e rfl) ho (I.freeC x c e)
 ·obtain⟨e,n,ne,nf,d⟩:=I.pin p hp
  have nch:p.1∉ch:=fun z=>(hch p.1 z).2.2.2 p hp rfl
  exact⟨keep p.1 p.2 ne nf nch e n,free p.1 p.2 nch e n,ne,nf,d⟩
theorem Inv.un{t':Nat}(I:Inv X pins σ H s)(u:Un X.fs [] H H' s.heap h')(hok:HOk X.prog X.w H' h'):Inv X pins σ H' {s with heap:=h',toks:=t'}:=by
 obtain⟨m,⟨o,es,ep,ho,r⟩,_⟩:=id I.loc
 obtain⟨sl,hL⟩:=u.any ho I.free (by simp)
 exact I.step (g':=s.gens) (d':=s.drawn) (ch:=[]) (fun _ z=>nomatch z) (fun b o _ hb _ e n=>u.keep b o e n hb (by simp)) (fun b o _ hb _ e n=>u.slot b o e n hb (by simp)) (fun b o _ e n=>u.free b o e n (by simp)) (fun b o _ e=>u.there b o e (by simp)) u.tups u.frzs u.tbls (fun m' hm=>by
  obtain⟨o',es',ep',ho',r'⟩:=hm
  rw[ho]at ho';cases ho'
  exact⟨_,es',ep',hL,r'⟩) hok I.bare
theorem Inv.call{g':Array GenState}{t':Nat}{d':Drawn}{ch:List Addr}(I:Inv X pins σ H s)(u:Un (frs X.stack) ch H H' s.heap h')(hok:HOk X.prog X.w H' h')(hg:AllBare g')
  (hch:∀b∈ch,(b∈X.ex\/X.s₀.heap.objs.size<=b)/\b≠X.env.locals/\(∀x c,X.env.cells.lookup x=some c->c≠b)/\∀p∈X.pn++pins,p.1≠b) :
  Inv X pins σ H' {s with heap:=h',gens:=g',drawn:=d',toks:=t'}:=by
 obtain⟨m,⟨o,es,ep,ho,r⟩,_⟩:=id I.loc
 obtain⟨sl,hL⟩:=u.any ho I.free fun z=>(hch _ z).2.1 rfl
 exact I.step (ch:=ch) hch (fun b o hL hb hc e n=>u.keep b o e n (fun z=>(List.mem_cons.mp (I.stkSub b z)).elim hL hb) hc) (fun b o _ _ hc e n=>u.any e n hc) (fun b o hc e n=>u.free b o e n hc) (fun b o hc e=>u.there b o e hc) u.tups u.frzs u.tbls (fun m' hm=>by
  obtain⟨o',es',ep',ho',r'⟩:=hm
  rw[ho]at ho';cases ho'
  exact⟨_,es',ep',hL,r'⟩) hok hg
theorem Inv.turned{t':Nat}{it:Addr}(I:Inv X pins σ H s)(k:∀b o,b≠it->s.heap.get? b=some o->h'.get? b=some o)(hn:H it=none)(hL:it≠X.env.locals)
  (h1:it∈X.ex\/X.s₀.heap.objs.size<=it) (h2:∀x c,X.env.cells.lookup x=some c->c≠it) (h3:∀p∈X.pn++pins,p.1≠it):Inv X pins σ H {s with heap:=h',toks:=t'}:=by
 have nit:∀b u,H b=some u->b≠it:=fun b u e z=>by rw[z,hn]at e;cases e
 refine I.step (g':=s.gens) (d':=s.drawn) (ch:=[it]) (fun b hb=>?_) (fun b o _ _ hc e _=>k b o (fun z=>hc (by simp[z])) e) (fun b o _ _ hc e _=>⟨o.slots,k b o (fun z=>hc (by simp[z])) e⟩) (fun _ _ _ _ n=>n)
  (fun b o hc e=>⟨o,k b o (fun z=>hc (by simp[z])) e⟩) (fun _ _ e=>e) (fun _ _ _ e=>e) (fun b ps e=>⟨#[],by rw[e];simp⟩) (fun m hm=>?_) (fun b u e=>?_) I.bare
 ·have e:b=it:=by simpa using hb
  subst e
  exact⟨h1,hL,h2,h3⟩
 ·obtain⟨o,es,ep,ho,r⟩:=hm
  exact⟨o,es,ep,k _ o (Ne.symm hL) ho,r⟩
 ·refine(I.hok b u e).stay (fun c v hc q=>k c v ?_ q) (fun _ q=>q) fun _ _ q=>q
  rcases hc with z|z
  ·rw[z];exact nit b u e
  ·exact nit c _ z
theorem Inv.tok(I:Inv X pins σ H s)(t:Nat):Inv X pins σ H {s with toks:=t}:=I.un (h':=s.heap) (t':=t) Un.refl I.hok
theorem Inv.kept{t':Nat}(I:Inv X pins σ H s)(k:∀b u,s.heap.get? b=some u->h'.get? b=some u):Inv X pins σ H {s with heap:=h',toks:=t'}:=I.un (Un.kept k) (I.hok.kept k)
theorem Inv.laid{a:Addr}{o:HO}{t':Nat}(I:Inv X pins σ H s)(k:∀b u,s.heap.get? b=some u->h'.get? b=some u)(hp:s.heap.objs.size<=a)(new:ObjOk X.prog X.w (upd H a o) h' a o) :
  Inv X pins σ (upd H a o) {s with heap:=h',toks:=t'}:=I.un (Un.laid k hp (I.hok.fresh hp)) (I.hok.laid k hp new)
theorem Inv.write{x e:Addr}{o:HO}{t':Nat}(I:Inv X pins σ H s)(mu:Mut (H x))(he:e=x\/H e=some (.own x))(k:∀b u,b≠e->s.heap.get? b=some u->h'.get? b=some u)(heo:∃u,h'.get? e=some u)
  (new:ObjOk X.prog X.w (upd H x o) h' x o):Inv X pins σ (upd H x o) {s with heap:=h',toks:=t'}:=I.un (Un.write mu he k heo) (I.hok.write mu he k heo new)
theorem Inv.weak{σ':List (Option V)}(I:Inv X pins σ H s)(hl:σ'.length=σ.length)(w:∀(i:Nat) v,σ'[i]?=some (some v)->σ[i]?=some (some v)):Inv X pins σ' H s :=
 ⟨I.ok,I.os,I.bare,I.base,let⟨m,hn,hl'⟩:=I.loc;⟨m,hn,fun i x v e1 e2 e3=>hl' i x v e1 (w i v e2) e3⟩,I.cell,I.free,I.freeC,I.pin,I.hok,hl.trans I.len⟩
theorem Inv.pins_of{pins':List (Addr×Obj)}(I:Inv X pins σ H s)(h:∀p∈pins',s.heap.get? p.1=some p.2/\H p.1=none/\p.1≠X.env.locals/\p.1∉X.fs/\∀v,p.2.data≠.cell v):Inv X pins' σ H s :=
 ⟨I.ok,I.os,I.bare,I.base,I.loc,I.cell,I.free,I.freeC,fun p hp=>(List.mem_append.mp hp).elim (fun z=>I.pin p (List.mem_append_left _ z)) (h p),I.hok,I.len⟩
theorem nodup_ix{N:List Str}(hN:N.Nodup){i j:Nat}{x:Str}(a:N[i]?=some x)(b:N[j]?=some x):i=j:=by
 obtain⟨h1,e1⟩:=List.getElem?_eq_some_iff.mp a
 obtain⟨h2,e2⟩:=List.getElem?_eq_some_iff.mp b
 exact(List.getElem_inj hN).mp (e1.trans e2.symm)
theorem store_ok2{M:Model}{A:Around}{E:Value->Shared->Prop}{i:Nat}{x:Str}{v:V}{u:Value}{Q:Unit->Shared->Prop}(I:Inv X pins σ H s)(hN:X.N.Nodup)(hi:X.N[i]?=some x)(hx:Loc X.env.scope x)(r:RelV v u)
  (h:∀s',Inv X pins (σ.set i (some v)) H s'->(∃a,Heap.SameBut a s.heap s'.heap/\(a=X.env.locals\/X.env.cells.lookup x=some a))->Q () s') (hf:X.fn x=true\/X.env.scope.names.lookup x=some .local:=by first|exact .inl rfl|exact .inr rfl|assumption):wpAny M A (storeName X.env x u) Q E s:=by
 obtain⟨m,hn,hl⟩:=id I.loc
 have hcls:(X.env.scope.kind == .class||(X.env.scope.kind == .module&&X.env.locals != X.env.globals))=false:=by rw[I.ok.kind];rfl
 have hiσ:i<σ.length:=by rw[I.len];exact(List.getElem?_eq_some_iff.mp hi).1
 have cne:=I.cne
 have tracked:∀{a:Addr}{h':Heap},(∃o,s.heap.get? a=some o/\H a=none)->Heap.SameBut a s.heap h'->HOk X.prog X.w H h':=fun{a h'} ha hs b ob e=>by
  obtain⟨_,_,hfree⟩:=ha
  refine(I.hok b ob e).stay (fun c w' hc q=>(hs.2 c ?_).trans q) (fun _ q=>q) fun _ _ q=>q
  rintro rfl
  rcases hc with rfl|hc
  ·rw[hfree]at e;cases e
  ·rw[hfree]at hc;cases hc
 rcases hx with hk|hk
 ·refine wpAny_storeName_local hk hn (fun h' hn' hs=>?_) hcls
  obtain⟨oL,_,_,hoL,_⟩:=id hn
  refine h _ ⟨I.ok,I.os,I.bare,⟨fun b o e n hb hx=>?_,fun b o e n hb hx=>?_,I.base.free,fun b o e hx=>?_,I.base.tups,I.base.frzs,I.base.tbls⟩,⟨_,hn',fun j y v' e1 e2 e3=>?_⟩,fun y c e=>?_,I.free,I.freeC,fun p hp=>?_,tracked ⟨oL,hoL,I.free⟩ hs,by simpa using I.len⟩ ⟨_,hs,.inl rfl⟩
  ·exact(hs.2 b (Nat.ne_of_lt (Nat.lt_of_lt_of_le (Heap.lt_size e) I.ok.above))).trans (I.base.keep b o e n hb hx)
  ·obtain⟨sl,e1⟩:=I.base.slot b o e n hb hx
   exact⟨sl,(hs.2 b (Nat.ne_of_lt (Nat.lt_of_lt_of_le (Heap.lt_size e) I.ok.above))).trans e1⟩
  ·obtain⟨o',e1⟩:=I.base.there b o e hx
   exact⟨o',(hs.2 b (Nat.ne_of_lt (Nat.lt_of_lt_of_le (Heap.lt_size e) I.ok.above))).trans e1⟩
  ·by_cases hj:j=i
   ·subst hj
    rw[hi]at e1;cases e1
    rw[List.getElem?_set_self hiσ]at e2
    cases e2
    exact⟨u,r,.inl ⟨hk,by simp⟩⟩
   ·rw[List.getElem?_set_ne (Ne.symm hj)]at e2
    obtain⟨u',r',q⟩:=hl j y v' e1 e2 e3
    refine⟨u',r',?_⟩
    rcases q with⟨k,e⟩|⟨k,c,e,z⟩
    ·refine .inl ⟨k,?_⟩
     have:y≠x:=fun e=>hj (nodup_ix hN e1 (e▸hi))
     simp[this,e]
    ·exact .inr ⟨k,c,e,z.sameBut hs (cne y c e)⟩
  ·obtain⟨w',z⟩:=I.cell y c e
   exact⟨w',z.sameBut hs (cne y c e)⟩
  ·obtain⟨e,n,ne,nf,d⟩:=I.pin p hp
   exact⟨(hs.2 p.1 ne).trans e,n,ne,nf,d⟩
 ·have hfn:X.fn x=true:=by
   rcases hf with z|z
   ·exact z
   ·rw[z]at hk;cases hk
  obtain⟨c,hc⟩:=I.ok.has x (.inl hk)
  obtain⟨w',z⟩:=I.cell x c hc
  refine wpAny_storeName_cell I.ok.kind hk hc z (fun h' hc' hs=>?_)
  obtain⟨oc,hoc,hocd⟩:=id z
  refine h {s with heap:=h'} ⟨I.ok,I.os,I.bare,⟨fun b o e n hb hx=>?_,fun b o e n hb hx=>?_,I.base.free,fun b o e hx=>?_,I.base.tups,I.base.frzs,I.base.tbls⟩,⟨m,hn.sameBut hs (Ne.symm (cne x c hc)),fun j y v' e1 e2 e3=>?_⟩,fun y c' e=>?_,I.free,I.freeC,fun p hp=>?_,tracked ⟨oc,hoc,I.freeC x c hc⟩ hs,by simpa using I.len⟩ ⟨c,hs,.inr hc⟩
  ·exact(hs.2 b (Nat.ne_of_lt (Nat.lt_of_lt_of_le (Heap.lt_size e) (I.ok.cab x c hfn hc)))).trans (I.base.keep b o e n hb hx)
  ·obtain⟨sl,e1⟩:=I.base.slot b o e n hb hx
   exact⟨sl,(hs.2 b (Nat.ne_of_lt (Nat.lt_of_lt_of_le (Heap.lt_size e) (I.ok.cab x c hfn hc)))).trans e1⟩
  ·obtain⟨o',e1⟩:=I.base.there b o e hx
   exact⟨o',(hs.2 b (Nat.ne_of_lt (Nat.lt_of_lt_of_le (Heap.lt_size e) (I.ok.cab x c hfn hc)))).trans e1⟩
  ·by_cases hj:j=i
   ·subst hj
    rw[hi]at e1;cases e1
    rw[List.getElem?_set_self hiσ]at e2
    cases e2
    exact⟨u,r,.inr ⟨.inl hk,c,hc,hc'⟩⟩
   ·rw[List.getElem?_set_ne (Ne.symm hj)]at e2
    obtain⟨u',r',q⟩:=hl j y v' e1 e2 e3
    refine⟨u',r',?_⟩
    rcases q with q|⟨k,c',e,z'⟩
    ·exact .inl q
    ·refine .inr ⟨k,c',e,z'.sameBut hs ?_⟩
     rintro rfl
     exact hj (nodup_ix hN e1 (I.ok.inj _ _ _ e hc▸hi))
  ·by_cases hcc:c'=c
   ·subst hcc;exact⟨_,hc'⟩
   ·obtain⟨w2,z2⟩:=I.cell y c' e
    exact⟨w2,z2.sameBut hs hcc⟩
  ·obtain⟨e,n,ne,nf,d⟩:=I.pin p hp
   refine⟨(hs.2 p.1 ?_).trans e,n,ne,nf,d⟩
   intro q
   rw[q,hoc]at e
   have q':oc=p.2:=Option.some.inj e
   exact d w' (by rw[←q'];exact hocd)
theorem store_ok{M:Model}{A:Around}{E:Value->Shared->Prop}{i:Nat}{x:Str}{v:V}{u:Value}{Q:Unit->Shared->Prop}(I:Inv X pins σ H s)(hN:X.N.Nodup)(hi:X.N[i]?=some x)(hx:Loc X.env.scope x)(r:RelV v u)
  (h:∀s',Inv X pins (σ.set i (some v)) H s'->Q () s') (hf:X.fn x=true\/X.env.scope.names.lookup x=some .local:=by first|exact .inl rfl|exact .inr rfl|assumption):wpAny M A (storeName X.env x u) Q E s :=
 store_ok2 I hN hi hx r (fun s' I' _=>h s' I') hf
theorem Inv.call'{s':Shared}{ch:List Addr}(I:Inv X pins σ H s)(ho:s'.os=s.os)(u:Un (frs X.stack) ch H H' s.heap s'.heap)(hok:HOk X.prog X.w H' s'.heap)(hg:AllBare s'.gens)
  (hch:∀b∈ch,(b∈X.ex\/X.s₀.heap.objs.size<=b)/\b≠X.env.locals/\(∀x c,X.env.cells.lookup x=some c->c≠b)/\∀p∈X.pn++pins,p.1≠b):Inv X pins σ H' s':=by
 obtain⟨h',g',d',t',o'⟩:=s'
 have e:o'=s.os:=ho
 subst e
 exact I.call (g':=g') (t':=t') (d':=d') u hok hg hch
end
abbrev XK:=Value->Option Addr->Hp->Prop
abbrev St:=List (Option V)
abbrev VK:=V->Hp->Prop
abbrev TE:=St->Hp->VK->Prop
abbrev TT:=St->Hp->(Bool->Hp->Prop)->Prop
abbrev TA:=St->Hp->(List V->Hp->Prop)->Prop
structure Ends where
 nx:St->Hp->Prop
 rt:VK
 bk:St->Hp->Prop:=fun _ _=>False
 ct:St->Hp->Prop:=fun _ _=>False
abbrev TS:=Ends->St->Hp->Prop
def EP(X:Cx)(pins:List (Addr×Obj))(σ:St)(Q:VK)(u:Value)(s':Shared):Prop:=∃v H',Inv X pins σ H' s'/\RelV v u/\Q v H'
def TP(X:Cx)(pins:List (Addr×Obj))(σ:St)(Q:Bool->Hp->Prop)(b:Bool)(s':Shared):Prop:=∃H',Inv X pins σ H' s'/\Q b H'
def AP(X:Cx)(pins:List (Addr×Obj))(σ:St)(Q:List V->Hp->Prop)(us:List Value)(s':Shared):Prop:=∃vs H',Inv X pins σ H' s'/\Vals vs us/\Q vs H'
def SP(X:Cx)(pins:List (Addr×Obj))(D:Ends)(f:Flow)(s':Shared):Prop :=
 match f with
 |.next=>∃σ' H',Inv X pins σ' H' s'/\D.nx σ' H'
 |.brk=>∃σ' H',Inv X pins σ' H' s'/\D.bk σ' H'
 |.cont=>∃σ' H',Inv X pins σ' H' s'/\D.ct σ' H'
 |.ret u=>∃v σ' H',Inv X pins σ' H' s'/\RelV v u/\D.rt v H'
def PE(X:Cx)(e:Expr)(t:TE):Prop :=
 ∀(pins:List (Addr×Obj)) (s:Shared) (σ:St) (H:Hp) (Q:VK),Inv X pins σ H s->t σ H Q->wpAny (model X.prog X.w) X.A (eval e X.env) (EP X pins σ Q) X.xe s
def PT(X:Cx)(e:Expr)(t:TT):Prop :=
 ∀(pins:List (Addr×Obj)) (s:Shared) (σ:St) (H:Hp) (Q:Bool->Hp->Prop),Inv X pins σ H s->t σ H Q->wpAny (model X.prog X.w) X.A (isTrue e X.env (eval e X.env)) (TP X pins σ Q) X.xe s
def PW(X:Cx)(e:Expr)(t:TT):Prop :=
 ∀(whole:Sem Value) (pins:List (Addr×Obj)) (s:Shared) (σ:St) (H:Hp) (Q:Bool->Hp->Prop),Inv X pins σ H s->t σ H Q->wpAny (model X.prog X.w) X.A (isTrue e X.env whole) (TP X pins σ Q) X.xe s
theorem PW.pt{X:Cx}{e:Expr}{t:TT}(h:PW X e t):PT X e t:=h _
def PA(X:Cx)(es:List Expr)(t:TA):Prop :=
 ∀(pos:Pos) (pins:List (Addr×Obj)) (s:Shared) (σ:St) (H:Hp) (Q:List V->Hp->Prop),Inv X pins σ H s->t σ H Q->wpAny (model X.prog X.w) X.A (spliced (backTo pos (starEach es X.env))) (AP X pins σ Q) X.xe s
def PS(X:Cx)(st:Stmt)(t:TS):Prop :=
 ∀(pins:List (Addr×Obj)) (s:Shared) (σ:St) (H:Hp) (D:Ends),Inv X pins σ H s->t D σ H->wpAny (model X.prog X.w) X.A (exec st X.env) (SP X pins D) X.xe s
def PSs(X:Cx)(st:List Stmt)(t:TS):Prop :=
 ∀(pins:List (Addr×Obj)) (s:Shared) (σ:St) (H:Hp) (D:Ends),Inv X pins σ H s->t D σ H->wpAny (model X.prog X.w) X.A (execs st X.env) (SP X pins D) X.xe s
theorem thn{α:Type}{t:Sem α}{Q Q':α->Shared->Prop}{M:Model}{A:Around}{E:Value->Shared->Prop}{s:Shared}(h:wpAny M A t Q E s)(hQ:∀a s,Q a s->Q' a s):wpAny M A t Q' E s:=wpAny_mono h hQ fun _ _ x=>x
section
variable {X:Cx}
def tVar(i:Nat):TE:=fun σ H Q=>∃v,σ[i]?=some (some v)/\Q v H
def tC(v:V):TE:=fun _ H Q=>Q v H
theorem pe_var{i:Nat}{x:Str}{pos:Pos}(hN:X.N[i]?=some x)(hv:Vis X.env.scope x)(hd:(x == ("__debug__":Str))=false:=by decide)(hcd:(x == ("__classdict__":Str))=false:=by decide):PE X (.Name x pos) (tVar i):=by
 intro pins s σ H Q I h
 obtain⟨v,e,h⟩:=h
 obtain⟨m,hn,hl⟩:=I.loc
 obtain⟨u,r,l⟩:=hl i x v hN e hv
 have fin:EP X pins σ Q u s:=⟨v,H,I,r,h⟩
 rcases l with⟨hk,hm⟩|⟨hk,c,hc,hcell⟩
 ·exact wpAny_Name (wpAny_loadName_local I.ok.kind hk hn hm fin) hd
 ·rcases hk with hk|hk
  ·exact wpAny_Name (wpAny_loadName_cell I.ok.kind hk hc hcell fin) hd
  ·exact wpAny_Name (wpAny_loadName_free I.ok.kind hk hc hcell fin hcd) hd
theorem pe_int{i j pos}:PE X (.Constant (.int i) j pos) (tC (.int i)):=fun _ _ _ H _ I h=>wpAny_Constant_int ⟨.int i,H,I.tok _,⟨_,rfl⟩,h⟩
theorem pe_bl{b j pos}:PE X (.Constant (.bool b) j pos) (tC (.bl b)):=fun _ _ _ H _ I h=>Constant_bool ⟨.bl b,H,I,rfl,h⟩
theorem pe_non{j pos}:PE X (.Constant .none j pos) (tC .non):=fun _ _ _ H _ I h=>Constant_none ⟨.non,H,I,rfl,h⟩
theorem pe_str{x j pos}:PE X (.Constant (.str x) j pos) (tC (.str x)):=fun _ _ _ H _ I h=>Calls.Constant_str ⟨.str x,H,I.tok _,⟨_,rfl⟩,h⟩
def Gl(X:Cx)(x:Str):Prop:=X.env.kindOf x=some .globalImplicit
theorem ld_glob{E:Value->Shared->Prop}{pins:List (Addr×Obj)}{s:Shared}{σ:St}{H:Hp}{x:Str}{u:Value}{pos:Pos}{Q:Value->Shared->Prop}(I:Inv X pins σ H s)(hg:Gl X x)(hm:X.mg x=some u)(h:Q u s)
  (hd:(x == ("__debug__":Str))=false:=by decide):wpAny (model X.prog X.w) X.A (eval (.Name x pos) X.env) Q E s :=
 Calls.Name_function_global I.ok.kind hg (Calls.loadGlobal_global (by rw[I.ok.glob];exact I.mod.glob.keeps I.bk) hm h) hd
theorem ld_blt{E:Value->Shared->Prop}{pins:List (Addr×Obj)}{s:Shared}{σ:St}{H:Hp}{x:Str}{u:Value}{pos:Pos}{Q:Value->Shared->Prop}(I:Inv X pins σ H s)(hg:Gl X x)(hm:X.mg x=none)(hv:bootBuiltins x=some u)(h:Q u s)
  (hn:x≠"__name__":=by decide) (hd:(x == ("__debug__":Str))=false:=by decide):wpAny (model X.prog X.w) X.A (eval (.Name x pos) X.env) Q E s:=by
 obtain⟨mb,h1,h2⟩:=I.mod.blt
 exact Calls.Name_function_global I.ok.kind hg (Calls.loadGlobal_builtin (by rw[I.ok.glob];exact I.mod.glob.keeps I.bk) hm (by rw[I.ok.blt];exact h1.keeps I.bk) ((h2 x hn).trans hv) h) hd
theorem pe_glob{x:Str}{v:V}{u:Value}{pos:Pos}(hg:Gl X x)(hm:X.mg x=some u)(r:RelV v u)(hd:(x == ("__debug__":Str))=false:=by decide):PE X (.Name x pos) (tC v) :=
 fun _ _ _ H _ I h=>ld_glob I hg hm ⟨v,H,I,r,h⟩ hd
theorem pe_bltn{x:Str}{v:V}{u:Value}{pos:Pos}(hg:Gl X x)(hm:X.mg x=none)(hv:bootBuiltins x=some u)(r:RelV v u)(hn:x≠"__name__":=by decide)(hd:(x == ("__debug__":Str))=false:=by decide):PE X (.Name x pos) (tC v) :=
 fun _ _ _ H _ I h=>ld_blt I hg hm hv ⟨v,H,I,r,h⟩ hn hd
variable {a b:Expr}{ta tb:TE}{pos:Pos}
def tB(t:TE):TT:=fun σ H Q=>t σ H fun x H1=>∃c,x=.bl c/\Q c H1
theorem pt_val{e:Expr}{t:TE}(h:PE X e t)(he:∀whole,isTrue e X.env whole=(do let v ←whole;standAt e.pos;holding [v] (truthy v)):=by intro _;rfl):PT X e (tB t):=by
 intro pins s σ H Q I hw
 refine isTrue_plain (thn (h pins s σ H _ I hw) fun v s1 ⟨x,H1,I1,r1,q1⟩=>?_) (he _)
 obtain⟨d,rfl,q⟩:=q1
 cases r1
 exact wpAny_truthy_bool ⟨H1,I1,q⟩
variable {tA tB':TT}{rest:List Expr}
def tAnd(t u:TT):TT:=fun σ H Q=>t σ H fun c H1=>if c=true then u σ H1 Q else Q false H1
def tOr(t u:TT):TT:=fun σ H Q=>t σ H fun c H1=>if c=true then Q true H1 else u σ H1 Q
def tNot(t:TT):TT:=fun σ H Q=>t σ H fun c H1=>Q (!c) H1
theorem pw_and1(ha:PT X a tA):PW X (.BoolOp .And [a] pos) tA:=by
 intro wh pins s σ H Q I h
 refine isTrue_and (thn (ha pins s σ H Q I h) fun c s1 e=>?_)
 cases c with
 |true=>exact isTrue_and_nil e
 |false=>exact e
theorem pw_or1(ha:PT X a tA):PW X (.BoolOp .Or [a] pos) tA:=by
 intro wh pins s σ H Q I h
 refine isTrue_or (thn (ha pins s σ H Q I h) fun c s1 e=>?_)
 cases c with
 |false=>exact isTrue_or_nil e
 |true=>exact e
theorem pw_and(ha:PT X a tA)(hb:PW X (.BoolOp .And (b::rest) pos) tB'):PW X (.BoolOp .And (a::b::rest) pos) (tAnd tA tB'):=by
 intro wh pins s σ H Q I h
 refine isTrue_and (thn (ha pins s σ H _ I h) fun c s1 ⟨H1,I1,q1⟩=>?_)
 cases c with
 |true=>exact hb wh pins s1 σ H1 Q I1 q1
 |false=>exact⟨H1,I1,q1⟩
theorem pw_or(ha:PT X a tA)(hb:PW X (.BoolOp .Or (b::rest) pos) tB'):PW X (.BoolOp .Or (a::b::rest) pos) (tOr tA tB'):=by
 intro wh pins s σ H Q I h
 refine isTrue_or (thn (ha pins s σ H _ I h) fun c s1 ⟨H1,I1,q1⟩=>?_)
 cases c with
 |true=>exact⟨H1,I1,q1⟩
 |false=>exact hb wh pins s1 σ H1 Q I1 q1
theorem pt_not(ha:PT X a tA):PT X (.UnaryOp .Not a pos) (tNot tA):=by
 intro pins s σ H Q I h
 exact isTrue_not (ha pins s σ H (fun c H1=>Q (!c) H1) I h)
def tAndV(ta tb:TE):TE:=fun σ H Q=>ta σ H fun x H1=>∃c,x=.bl c/\if c=true then tb σ H1 Q else Q (.bl false) H1
def tOrV(ta tb:TE):TE:=fun σ H Q=>ta σ H fun x H1=>∃c,x=.bl c/\if c=true then Q (.bl true) H1 else tb σ H1 Q
def tNotV(ta:TE):TE:=fun σ H Q=>ta σ H fun x H1=>∃c,x=.bl c/\Q (.bl (!c)) H1
theorem pe_one{op}{t:TE}(h:PE X a t):PE X (.BoolOp op [a] pos) t:=fun pins s σ H Q I hw=>BoolOp_one (h pins s σ H Q I hw)
theorem pe_and(ha:PE X a ta)(hb:PE X (.BoolOp .And (b::rest) pos) tb):PE X (.BoolOp .And (a::b::rest) pos) (tAndV ta tb):=by
 intro pins s σ H Q I h
 refine BoolOp_and (thn (ha pins s σ H _ I h) fun v s1 ⟨x,H1,I1,r1,q1⟩=>?_)
 obtain⟨c,rfl,q1⟩:=q1
 cases r1
 refine wpAny_truthy_bool ?_
 cases c with
 |true=>exact hb pins s1 σ H1 Q I1 q1
 |false=>exact⟨.bl false,H1,I1,rfl,q1⟩
theorem pe_or(ha:PE X a ta)(hb:PE X (.BoolOp .Or (b::rest) pos) tb):PE X (.BoolOp .Or (a::b::rest) pos) (tOrV ta tb):=by
 intro pins s σ H Q I h
 refine BoolOp_or (thn (ha pins s σ H _ I h) fun v s1 ⟨x,H1,I1,r1,q1⟩=>?_)
 obtain⟨c,rfl,q1⟩:=q1
 cases r1
 refine wpAny_truthy_bool ?_
 cases c with
 |false=>exact hb pins s1 σ H1 Q I1 q1
 |true=>exact⟨.bl true,H1,I1,rfl,q1⟩
theorem pe_not(ha:PE X a ta):PE X (.UnaryOp .Not a pos) (tNotV ta):=by
 intro pins s σ H Q I h
 refine UnaryOp_ (thn (ha pins s σ H _ I h) fun v s1 ⟨x,H1,I1,r1,q1⟩=>?_)
 obtain⟨c,rfl,q1⟩:=q1
 cases r1
 exact not_of (wpAny_truthy_bool ⟨.bl (!c),H1,I1,rfl,q1⟩)
end
def SqL(K:PySem.W.Frag)(H:Hp)(a:Addr)(xs:List V):Prop :=
 Rd H a (.lst xs) \/
  ∃(o:Obj) (its:Array Value) (n:Nat),K.lookup a=some o/\o.cls=.type "list"/\o.dict=none/\o.data=.seq its n/\its.size<=sizeLine/\Vals xs its.toList
def SqT(K:PySem.W.Frag)(H:Hp)(a:Addr)(xs:List V):Prop :=
 Rd H a (.tup xs) \/
  ∃(o:Obj) (its:Array Value) (n:Nat),K.lookup a=some o/\o.cls=.type "tuple"/\o.data=.seq its n/\its.size<=sizeLine/\Vals xs its.toList/\o.dict=none
def absV:Value->Option V
 |.none=>some .non
 |.bool b=>some (.bl b)
 |.int i _=>some (.int i)
 |.str x _=>some (.str x)
 |.bytes b _=>some (.byt b)
 |.float b _=>some (.flt b)
 |.ref a=>some (.ref a)
 |.type n=>some (.ty n)
 |_=>none
theorem RelV.abs{x:V}{u:Value}(r:RelV x u):absV u=some x:=by
 cases x with
 |non=>cases r;rfl
 |bl _=>cases r;rfl
 |int _=>obtain⟨t,rfl⟩:=r;rfl
 |str _=>obtain⟨t,rfl⟩:=r;rfl
 |byt _=>obtain⟨t,rfl⟩:=r;rfl
 |flt _=>obtain⟨t,rfl⟩:=r;rfl
 |ref _=>cases r;rfl
 |ty _=>cases r;rfl
theorem RelV.inj{x y:V}{u:Value}(r:RelV x u)(q:RelV y u):x=y:=Option.some.inj (r.abs.symm.trans q.abs)
theorem Vals.inj:∀{xs ys:List V}{us:List Value},Vals xs us->Vals ys us->xs=ys
 |_,_,_,.nil,.nil=>rfl
 |_,_,_,.cons r t,.cons r' t'=>by rw[r.inj r',Vals.inj t t']
section
variable {X:Cx}{pins:List (Addr×Obj)}{σ:St}{H:Hp}{s:Shared}{a:Addr}{xs ys:List V}
theorem SqL.of{K:PySem.W.Frag}(h:H a=some (.lst xs)):SqL K H a xs:=.inl (.inl h)
theorem SqT.of{K:PySem.W.Frag}(h:H a=some (.tup xs)):SqT K H a xs:=.inl (.inl h)
theorem Inv.list(I:Inv X pins σ H s)(h:SqL X.K H a xs):∃its:List Value,Vals xs its/\PlainL s.heap a its.toArray/\xs.length<=sizeLine:=by
 rcases h with h|⟨o,its,n,hk,hc,hd,hs,hz,r⟩
 ·obtain⟨z,its,n,r,e⟩:=h.ok I.hok
  exact⟨its,r,⟨_,n,e,rfl,rfl,rfl⟩,z⟩
 ·refine⟨its.toList,r,⟨o,n,I.kIn a o hk,hc,hd,by simpa using hs⟩,?_⟩
  have e:=r.length
  simp only[Array.length_toList]at e
  omega
theorem Inv.tuple(I:Inv X pins σ H s)(h:SqT X.K H a xs):∃its:List Value,Vals xs its/\IsTup s.heap a its.toArray/\xs.length<=sizeLine:=by
 rcases h with h|⟨o,its,n,hk,hc,hs,hz,r,_⟩
 ·obtain⟨z,its,r,p,_⟩:=h.ok I.hok
  exact⟨its,r,p,z⟩
 ·refine⟨its.toList,r,⟨o,I.kIn a o hk,hc,n,by simpa using hs⟩,?_⟩
  have e:=r.length
  simp only[Array.length_toList]at e
  omega
theorem Inv.list_inj(I:Inv X pins σ H s)(h:SqL X.K H a xs)(h':SqL X.K H a ys):xs=ys:=by
 obtain⟨its,r,⟨o,n,e,_,_,d⟩,_⟩:=I.list h
 obtain⟨its',r',⟨o',n',e',_,_,d'⟩,_⟩:=I.list h'
 rw[e]at e';cases e'
 rw[d]at d'
 injection d' with d1 _
 have:its=its':=by simpa using congrArg Array.toList d1
 subst this
 exact r.inj r'
theorem Inv.tuple_inj(I:Inv X pins σ H s)(h:SqT X.K H a xs)(h':SqT X.K H a ys):xs=ys:=by
 obtain⟨its,r,⟨o,e,_,n,d⟩,_⟩:=I.tuple h
 obtain⟨its',r',⟨o',e',_,n',d'⟩,_⟩:=I.tuple h'
 rw[e]at e';cases e'
 rw[d]at d'
 injection d' with d1 _
 have:its=its':=by simpa using congrArg Array.toList d1
 subst this
 exact r.inj r'
end
abbrev Cx.wish(X:Cx)(E:Value->Shared->Prop):Cx:={X with xe:=E}
abbrev Cx.nox(X:Cx):Cx:=X.wish fun _ _=>False
theorem Cx.Ok.wish{X:Cx}(ok:X.Ok)(E:Value->Shared->Prop):(X.wish E).Ok :=
 ⟨ok.mod,ok.kind,ok.glob,ok.blt,ok.above,ok.inj,ok.has,ok.cab,ok.hd,ok.frames,ok.stk,ok.exf,ok.bs,ok.bsz,ok.noex,ok.exfs,ok.funs,ok.frf⟩
theorem Cx.Ok.unwish{X:Cx}{E:Value->Shared->Prop}(ok:(X.wish E).Ok):X.Ok :=
 ⟨ok.mod,ok.kind,ok.glob,ok.blt,ok.above,ok.inj,ok.has,ok.cab,ok.hd,ok.frames,ok.stk,ok.exf,ok.bs,ok.bsz,ok.noex,ok.exfs,ok.funs,ok.frf⟩
section
variable {X:Cx}{pins:List (Addr×Obj)}{σ:St}{H:Hp}{s:Shared}{E:Value->Shared->Prop}
theorem Inv.wish(I:Inv X pins σ H s)(E:Value->Shared->Prop):Inv (X.wish E) pins σ H s:=⟨I.ok.wish E,I.os,I.bare,I.base,I.loc,I.cell,I.free,I.freeC,I.pin,I.hok,I.len⟩
theorem Inv.unwish(I:Inv (X.wish E) pins σ H s):Inv X pins σ H s:=⟨I.ok.unwish,I.os,I.bare,I.base,I.loc,I.cell,I.free,I.freeC,I.pin,I.hok,I.len⟩
theorem SP.unwish{D:Ends}{f:Flow}{s':Shared}(h:SP (X.wish E) pins D f s'):SP X pins D f s':=by
 cases f with
 |next=>obtain⟨σ',H',I,q⟩:=h;exact⟨σ',H',I.unwish,q⟩
 |brk=>obtain⟨σ',H',I,q⟩:=h;exact⟨σ',H',I.unwish,q⟩
 |cont=>obtain⟨σ',H',I,q⟩:=h;exact⟨σ',H',I.unwish,q⟩
 |ret u=>obtain⟨v,σ',H',I,r,q⟩:=h;exact⟨v,σ',H',I.unwish,r,q⟩
theorem PSs.nox{st:List Stmt}{t:TS}(h:PSs X.nox st t):PSs X st t:=fun pins s σ H D I hw =>
 wpAny_mono (h pins s σ H D (I.wish _) hw) (fun _ _ q=>q.unwish) fun _ _ z=>False.elim z
end
section
variable {X:Cx}{st:Stmt}{rest:List Stmt}{t u:TS}{e:Expr}{te:TE}{pos:Pos}
def tNext:TS:=fun D σ H=>D.nx σ H
def tSeq(t u:TS):TS:=fun D σ H=>t {D with nx:=u D} σ H
theorem pss_nil:PSs X [] tNext:=fun _ _ σ H _ I h=>wpAny_execs_nil ⟨σ,H,I,h⟩
theorem pss_cons(h1:PS X st t)(h2:PSs X rest u):PSs X (st::rest) (tSeq t u):=by
 intro pins s σ H D I h
 refine wpAny_execs_cons (thn (h1 pins s σ H {D with nx:=u D} I h) fun f s1 q=>?_)
 cases f with
 |next =>
  obtain⟨σ',H',I',q⟩:=q
  exact h2 pins s1 σ' H' D I' q
 |ret v=>exact q
 |brk=>exact q
 |cont=>exact q
theorem pss_one(h1:PS X st t):PSs X [st] t:=by
 intro pins s σ H D I h
 refine wpAny_execs_cons (thn (h1 pins s σ H D I h) fun f s1 q=>?_)
 cases f with
 |next=>exact wpAny_execs_nil q
 |ret v=>exact q
 |brk=>exact q
 |cont=>exact q
theorem Inv.quiet{pins:List (Addr×Obj)}{σ:St}{H:Hp}{s:Shared}(I:Inv X pins σ H s):interactive X.env=false:=by simp[interactive,I.ok.kind]
def tDrop(te:TE):TS:=fun D σ H=>te σ H fun _ H1=>D.nx σ H1
theorem ps_expr(he:PE X e te)(hs:swapsWith e none pos.line X.env=pure false:=by rfl):PS X (.Expr e pos) (tDrop te):=by
 intro pins s σ H D I h
 exact wpAny_Expr_any (thn (he pins s σ H _ I h) fun v s1 ⟨x,H1,I1,r1,q1⟩=>⟨σ,H1,I1,q1⟩) I.quiet hs
def tRet(te:TE):TS:=fun D σ H=>te σ H D.rt
theorem ps_ret(he:PE X e te):PS X (.Return (some e) pos) (tRet te):=by
 intro pins s σ H D I h
 exact wpAny_Return_some (thn (he pins s σ H _ I h) fun v s1 ⟨x,H1,I1,r1,q1⟩=>⟨x,σ,H1,I1,r1,q1⟩)
def tIfS(c:TT)(t u:TS):TS:=fun D σ H=>c σ H fun b H1=>if b=true then t D σ H1 else u D σ H1
theorem ps_if{c:Expr}{a b:List Stmt}{tc:TT}(hc:PT X c tc)(ha:PSs X a t)(hb:PSs X b u):PS X (.If c a b pos) (tIfS tc t u):=by
 intro pins s σ H D I h
 refine wpAny_If (thn (hc pins s σ H _ I h) fun d s1 ⟨H1,I1,q1⟩=>?_)
 cases d with
 |true=>exact ha pins s1 σ H1 D I1 q1
 |false=>exact hb pins s1 σ H1 D I1 q1
end
abbrev TG:=V->St->Hp->(St->Hp->Prop)->Prop
abbrev TGs:=List V->St->Hp->(St->Hp->Prop)->Prop
def PG(X:Cx)(target:Expr)(t:TG):Prop :=
 ∀(pins:List (Addr×Obj)) (s:Shared) (σ:St) (H:Hp) (v:V) (u:Value) (Q:St->Hp->Prop),Inv X pins σ H s->RelV v u->t v σ H Q ->
  wpAny (model X.prog X.w) X.A (assign target X.env u) (fun _ s'=>∃σ' H',Inv X pins σ' H' s'/\Q σ' H') X.xe s
def PGs(X:Cx)(ts:List Expr)(t:TGs):Prop :=
 ∀(pins:List (Addr×Obj)) (s:Shared) (σ:St) (H:Hp) (vs:List V) (us:List Value) (Q:St->Hp->Prop),Inv X pins σ H s->Vals vs us->t vs σ H Q ->
  wpAny (model X.prog X.w) X.A (assignInOrder ((assignEach ts X.env).map (·.2)) us) (fun _ s'=>∃σ' H',Inv X pins σ' H' s'/\Q σ' H') X.xe s
abbrev TSet:=V->V->V->Hp->(Hp->Prop)->Prop
def PSet(X:Cx)(t:TSet):Prop :=
 ∀(pins:List (Addr×Obj)) (s:Shared) (σ:St) (H:Hp) (o i v:V) (ov iv u:Value) (Q:Hp->Prop),Inv X pins σ H s->RelV o ov->RelV i iv->RelV v u->t o i v H Q ->
  wpAny (model X.prog X.w) X.A (setItem ov iv u) (fun _ s'=>∃H',Inv X pins σ H' s'/\Q H') X.xe s
section
variable {X:Cx}{pos:Pos}
def gName(i:Nat):TG:=fun v σ H Q=>Q (σ.set i (some v)) H
theorem pg_name{i:Nat}{x:Str}(hN:X.N.Nodup)(hi:X.N[i]?=some x)(hx:Loc X.env.scope x)(hf:X.fn x=true\/X.env.scope.names.lookup x=some .local:=by first|exact .inl rfl|exact .inr rfl|assumption):PG X (.Name x pos) (gName i):=by
 intro pins s σ H v u Q I r h
 exact wpAny_assign_Name (store_ok I hN hi hx r (fun s' I'=>⟨_,H,I',h⟩) hf)
def gNil:TGs:=fun vs σ H Q=>vs=[]/\Q σ H
def gCons(t:TG)(u:TGs):TGs:=fun vs σ H Q=>∃v r,vs=v::r/\t v σ H fun σ' H'=>u r σ' H' Q
theorem pgs_nil:PGs X [] gNil:=by
 intro pins s σ H vs us Q I r h
 obtain⟨e,h⟩:=h
 subst e
 cases r
 exact assignInOrder_nil ⟨σ,H,I,h⟩
theorem pgs_cons{e:Expr}{es:List Expr}{t:TG}{u:TGs}(h1:PG X e t)(h2:PGs X es u)
  (hs:(assignEach (e::es) X.env).map (·.2)=assign e X.env::(assignEach es X.env).map (·.2):=by rfl):PGs X (e::es) (gCons t u):=by
 intro pins s σ H vs us Q I r h
 obtain⟨v,vr,e1,h⟩:=h
 subst e1
 cases r with
 |cons r rr =>
  rw[hs]
  refine assignInOrder_cons (thn (h1 pins s σ H _ _ _ I r h) fun _ s1 ⟨σ1,H1,I1,q1⟩=>?_)
  exact h2 pins s1 σ1 H1 _ _ Q I1 rr q1
def gTup(K:PySem.W.Frag)(n:Nat)(t:TGs):TG:=fun v σ H Q=>∃a xs,v=.ref a/\SqT K H a xs/\xs.length=n/\t xs σ H Q
theorem pg_tup{es:List Expr}{k:Nat}{t:TGs}{n:Nat}(hc:X.calm=true)(h:PGs X es t)
  (hn:(assignEach es X.env).length=n:=by rfl) (hst:(assignEach es X.env).findIdx? (·.1)=none:=by rfl):PG X (.Tuple es k pos) (gTup X.K n t):=by
 intro pins s σ H v u Q I r hw
 obtain⟨a,xs,e1,hq,hl,hw⟩:=hw
 subst e1
 cases r
 obtain⟨its,rv,ht,hz⟩:=I.tuple hq
 refine assign_Tuple_tuple (I.ok.hd hc) ht (by simp[hn,←hl,rv.length]) hst fun h' hx=>?_
 have I1:Inv X pins σ H {s with heap:=h'}:=I.kept (t':=s.toks) fun b o e=>hx b o (Nat.ne_of_lt (Heap.lt_size e)) e
 exact h pins _ σ H xs _ Q I1 (by simpa using rv) hw
def gSub(to ti:TE)(t:TSet):TG:=fun v σ H Q=>to σ H fun o H1=>ti σ H1 fun i H2=>t o i v H2 fun H3=>Q σ H3
theorem pg_sub{o i:Expr}{to ti:TE}{t:TSet}(ho:PE X o to)(hi:PE X i ti)(hs:PSet X t)
  (ha:∀v,assign (.Subscript o i pos) X.env v=(do
   let ov ←holding [v] (eval o X.env)
   let iv ←holding [v,ov] (eval i X.env)
   standAt pos
   holding [v,ov,iv] (setItem ov iv v)
   release [v,ov,iv] []):=by intro _;rfl):PG X (.Subscript o i pos) (gSub to ti t):=by
 intro pins s σ H v u Q I r h
 rw[ha]
 refine wpAny_bind (wpAny_holding (thn (ho pins s σ H _ I h) fun ov s1 ⟨x,H1,I1,r1,q1⟩=>?_))
 refine wpAny_bind (wpAny_holding (thn (hi pins s1 σ H1 _ I1 q1) fun iv s2 ⟨y,H2,I2,r2,q2⟩=>?_))
 refine wpAny_bind (wpAny_standAt (wpAny_bind (wpAny_holding (thn (hs pins s2 σ H2 x y v ov iv u _ I2 r1 r2 r q2) fun _ s3 ⟨H3,I3,q3⟩=>?_))))
 exact wpAny_release ⟨σ,H3,I3,q3⟩
def tAsg(te:TE)(g:TG):TS:=fun D σ H=>te σ H fun x H1=>g x σ H1 D.nx
theorem ps_asg{tg e:Expr}{te:TE}{g:TG}(he:PE X e te)(hg:PG X tg g)(hs:swapsWithSole [tg] e pos.line X.env=pure false:=by rfl)(hw:swappedStores [tg] e X.env=pure none:=by rfl)
  (h1:(assignEach [tg] X.env).map (·.2)=[assign tg X.env]:=by rfl):PS X (.Assign [tg] e pos) (tAsg te g):=by
 intro pins s σ H D I h
 refine wpAny_Assign_stores (thn (he pins s σ H _ I h) fun v s1 ⟨x,H1,I1,r1,q1⟩=>?_) hs hw
 rw[h1]
 exact thn (hg pins s1 σ H1 x v _ I1 r1 q1) fun _ s2 q=>q
theorem ps_set{i:Nat}{x:Str}{e:Expr}{te:TE}{pos':Pos}(hN:X.N.Nodup)(hi:X.N[i]?=some x)(hx:Loc X.env.scope x)(he:PE X e te)(hs:swapsWith e (some (.Name x pos')) pos.line X.env=pure false:=by rfl)(hf:X.fn x=true\/X.env.scope.names.lookup x=some .local:=by first|exact .inl rfl|exact .inr rfl|assumption) :
  PS X (.Assign [.Name x pos'] e pos) (tAsg te (gName i)):=by
 intro pins s σ H D I h
 refine wpAny_Assign_Name (thn (he pins s σ H _ I h) fun v s1 ⟨y,H1,I1,r1,q1⟩=>?_) hs
 exact store_ok I1 hN hi hx r1 (fun s2 I2=>⟨_,H1,I2,q1⟩) hf
end
section
variable {X:Cx}{pos:Pos}
def tWhile(c:TT)(tb:TS):TS:=fun D σ H=>∃W:Nat->St->Hp->Prop,(∃m,W m σ H)/\∀m σ H,W m σ H ->
 c σ H fun b H1=>if b=true then ∃N:St->Hp->Prop,(∀σ' H',N σ' H'->∃m',m' < m/\W m' σ' H')/\tb {D with nx:=N,ct:=N,bk:=D.nx} σ H1 else D.nx σ H1
theorem ps_while{c:Expr}{body:List Stmt}{tc:TT}{tb:TS}(hp:PassesOwn (model X.prog X.w) X.A X.env X.xe)(hc:PT X c tc)(hb:PSs X body tb):PS X (.While c body [] pos) (tWhile tc tb):=by
 intro pins s σ H D I h
 obtain⟨W,⟨m0,w0⟩,turn⟩:=h
 refine wpAny_While (codeAny_whileLoop (fun n s'=>∃σ' H',Inv X pins σ' H' s'/\W n σ' H') ?_ m0 ⟨σ,H,I,w0⟩)
 rintro n s1 ⟨σ1,H1,I1,w1⟩
 refine wpAny_passesOwn hp (thn (hc pins s1 σ1 H1 _ I1 (turn n σ1 H1 w1)) fun b s2 ⟨H2,I2,q2⟩=>?_)
 cases b with
 |true =>
  obtain⟨N,hN,q2⟩:=q2
  rw[if_pos rfl]
  refine wpAny_passesOwn hp (thn (hb pins s2 σ1 H2 _ I2 q2) fun f s3 q3=>?_)
  cases f with
  |next =>
   obtain⟨σ3,H3,I3,n3⟩:=q3
   obtain⟨m',hm,w3⟩:=hN σ3 H3 n3
   exact⟨m',hm,σ3,H3,I3,w3⟩
  |cont =>
   obtain⟨σ3,H3,I3,n3⟩:=q3
   obtain⟨m',hm,w3⟩:=hN σ3 H3 n3
   exact⟨m',hm,σ3,H3,I3,w3⟩
  |brk=>exact q3
  |ret v=>exact q3
 |false =>
  rw[if_neg Bool.false_ne_true]
  exact wpAny_execs_nil ⟨σ1,H2,I2,q2⟩
end
structure It where
 go:Nat->Hp->Prop
 yld:Nat->Hp->V->Hp->Prop
 stop:Nat->Hp->Prop
def FpOk(X:Cx)(pins:List (Addr×Obj))(H:Hp)(b:Addr):Prop :=
 H b=none/\b≠X.env.locals/\b∉X.fs/\(b∈X.ex\/X.s₀.heap.objs.size<=b)/\(∀x c,X.env.cells.lookup x=some c->c≠b)/\∀p∈X.pn++pins,p.1≠b
theorem Inv.fpOk{X:Cx}{pins:List (Addr×Obj)}{σ:St}{H H':Hp}{s:Shared}{b:Addr}(I:Inv X pins σ H s)(hb:s.heap.objs.size<=b)(hn:H' b=none):FpOk X pins H' b:=by
 refine⟨hn,Nat.ne_of_gt (Nat.lt_of_lt_of_le I.lt hb),I.nofs hb,.inr (Nat.le_trans I.sz hb),fun x c e z=>?_,fun p hp z=>?_⟩
 ·obtain⟨v,q⟩:=I.cell x c e
  exact absurd (Nat.lt_of_lt_of_le q.lt (by rw[z];exact hb)) (Nat.lt_irrefl _)
 ·exact absurd (Nat.lt_of_lt_of_le (Heap.lt_size (I.pin p hp).1) (by rw[z];exact hb)) (Nat.lt_irrefl _)
structure Turn(P:Program) (w:World) (K:PySem.W.Frag) (tg:Expr) (J:It) (fp:List Addr) (it:Addr) (tn:Nat->Heap->Prop):Prop where
 mem:it∈fp
 obj:∀i h,tn i h->∀b∈fp,∃o,h.get? b=some o/\∀v,o.data≠.cell v
 keep:∀i h h',tn i h->(∀b∈fp,∀o,h.get? b=some o->h'.get? b=some o)->tn i h'
 item:∀(X:Cx),X.prog=P->X.w=w->X.K=K->X.calm=true->∀(i:Nat) (pins:List (Addr×Obj)) (s:Shared) (σ:St) (H:Hp) (E:Value->Shared->Prop),Inv X pins σ H s->(∀b∈fp,FpOk X pins H b)->tn i s.heap->J.go i H ->
  wpAny (model P w) X.A (pyNext (.ref it)) (fun r s1=>∃u,r=some u /\
   wpAny (model P w) X.A (letOwnedTupleGo tg (.ref it) u) (fun _ s2=>∃x H',Inv X pins σ H' s2/\RelV x u/\J.yld i H x H'/\tn (i+1) s2.heap/\∀b∈fp,H' b=none) E s1) E s
 done:∀(X:Cx),X.prog=P->X.w=w->X.K=K->X.calm=true->∀(i:Nat) (pins:List (Addr×Obj)) (s:Shared) (σ:St) (H:Hp) (E:Value->Shared->Prop),Inv X pins σ H s->(∀b∈fp,FpOk X pins H b)->tn i s.heap->J.stop i H ->
  wpAny (model P w) X.A (pyNext (.ref it)) (fun r s1=>r=none/\Inv X pins σ H s1) E s
 self:∀(A:Around) (i:Nat) (s:Shared) (Q:Value->Shared->Prop) (E:Value->Shared->Prop),tn i s.heap->Q (.ref it) s->wpAny (model P w) A (pyIter (.ref it)) Q E s
abbrev TI:=St->Hp->(It->Hp->Prop)->Prop
def PIE(X:Cx)(pins:List (Addr×Obj))(σ:St)(tg:Expr)(R:It->Hp->Prop)(itv:Value)(s2:Shared):Prop :=
 ∃(it:Addr) (fp:List Addr) (tn:Nat->Heap->Prop) (J:It) (H':Hp),itv=.ref it/\Inv X pins σ H' s2/\Turn X.prog X.w X.K tg J fp it tn/\tn 0 s2.heap/\(∀b∈fp,FpOk X pins H' b)/\R J H'
def PI(X:Cx)(tg iter:Expr)(wi:TI):Prop :=
 ∀(pins:List (Addr×Obj)) (s:Shared) (σ:St) (H:Hp) (R:It->Hp->Prop),Inv X pins σ H s->wi σ H R ->
  wpAny (model X.prog X.w) X.A (eval iter X.env) (fun v s1=>wpAny (model X.prog X.w) X.A (pyIter v) (PIE X pins σ tg R) X.xe s1) X.xe s
theorem go_of {M : Model} {A : Around} {E : Value → Shared → Prop} {s : Shared} {tg : Expr} {it : Addr} {u : Value} {o : Obj} {n : String} {vs : Array Value} {Q : Unit → Shared → Prop} (ho : s.heap.get? it = some o) (hc : o.cls = .type n) (hd : o.data = .fields vs)
    (hn : ["enumerate", "zip", "dict_itemiterator", "dict_reverseitemiterator", "odict_iterator", "itertools.zip_longest", "itertools.pairwise"].contains n = false) (hQ : Q () s) : wpAny M A (letOwnedTupleGo tg (.ref it) u) Q E s := by
  unfold letOwnedTupleGo
  cases tg <;> first
    | exact wpAny_pure hQ
    | (cases u <;> first
        | exact wpAny_pure hQ
        | (refine wpAny_bind (wpAny_load ho ?_)
           rw [hc, hd]
           show wpAny M A (if (["enumerate", "zip", "dict_itemiterator", "dict_reverseitemiterator", "odict_iterator", "itertools.zip_longest", "itertools.pairwise"].contains n && vs[0]? == some (rawInt _)) = true then _ else _) Q E s
           rw [if_neg (by intro h; rw [hn, Bool.false_and] at h; cases h)]
           exact wpAny_pure hQ))
def Itl(K:PySem.W.Frag)(a:Addr):It :=
 ⟨fun i H=>∃xs x,SqL K H a xs/\xs[i]?=some x,fun i H x H'=>H'=H/\∀xs,SqL K H a xs->xs[i]?=some x,fun i H=>∃xs,SqL K H a xs/\xs.length<=i⟩
def Itt(K:PySem.W.Frag)(a:Addr):It :=
 ⟨fun i H=>∃xs x,SqT K H a xs/\xs[i]?=some x,fun i H x H'=>H'=H/\∀xs,SqT K H a xs->xs[i]?=some x,fun i H=>∃xs,SqT K H a xs/\xs.length<=i⟩
def Itr(lo:Int)(n:Nat):It:=⟨fun i _=>i<n,fun i H x H'=>H'=H/\x=.int (lo+i),fun i _=>n<=i⟩
theorem turn_list{P:Program}{w:World}{K:PySem.W.Frag}{tg:Expr}(a it:Addr):Turn P w K tg (Itl K a) [it] it (fun i h=>h.IsListIter it a i) where
 mem:=by simp
 obj:=fun i h st b hb=>by
  have e:b=it:=by simpa using hb
  subst e
  obtain⟨o,e,c,d⟩:=st
  exact⟨o,e,fun v z=>by rw[d]at z;cases z⟩
 keep:=fun i h h' st k=>st.at fun o e=>k it (by simp) o e
 item:=by
  intro X hP hw hK hc i pins s σ H E I hf st hg
  subst hP hw hK
  obtain⟨xs,x,hq,hx⟩:=hg
  obtain⟨its,rv,p,hz⟩:=I.list hq
  obtain⟨u,hu,ru⟩:=rv.get hx
  obtain⟨f0,f1,f2,f3,f4,f5⟩:=hf it (by simp)
  refine wpAny_pyNext_list_item st p.isList (x:=u) (by simpa using hu) fun h' st' sb=>?_
  have I1:Inv X pins σ H {s with heap:=h'}:=I.turned (t':=s.toks) (fun b o hb e=>(sb.2 b hb).trans e) f0 f1 f3 f4 f5
  obtain⟨o,e,c,d⟩:=id st'
  exact⟨u,rfl,go_of (s:={s with heap:=h'}) e c d (by decide) ⟨x,H,I1,ru,⟨rfl,fun ys hy=>by rw[I.list_inj hy hq];exact hx⟩,st',fun b hb=>(hf b hb).1⟩⟩
 done:=by
  intro X hP hw hK hc i pins s σ H E I hf st hg
  subst hP hw hK
  obtain⟨xs,hq,hx⟩:=hg
  obtain⟨its,rv,p,hz⟩:=I.list hq
  obtain⟨f0,f1,f2,f3,f4,f5⟩:=hf it (by simp)
  have hl:=rv.length
  exact wpAny_pyNext_list_end (I.ok.hd hc) st p.isList (by simp;omega) fun h' eb=>⟨rfl,I.turned (t':=s.toks) (fun b o hb e=>eb b o hb e) f0 f1 f3 f4 f5⟩
 self:=fun _ _ _ _ _ st h=>wpAny_pyIter_listiter st h
theorem turn_tuple{P:Program}{w:World}{K:PySem.W.Frag}{tg:Expr}(a it:Addr):Turn P w K tg (Itt K a) [it] it (fun i h=>h.IsTupleIter it a i) where
 mem:=by simp
 obj:=fun i h st b hb=>by
  have e:b=it:=by simpa using hb
  subst e
  obtain⟨o,e,c,d⟩:=st
  exact⟨o,e,fun v z=>by rw[d]at z;cases z⟩
 keep:=fun i h h' st k=>st.at fun o e=>k it (by simp) o e
 item:=by
  intro X hP hw hK hc i pins s σ H E I hf st hg
  subst hP hw hK
  obtain⟨xs,x,hq,hx⟩:=hg
  obtain⟨its,rv,p,hz⟩:=I.tuple hq
  obtain⟨u,hu,ru⟩:=rv.get hx
  obtain⟨f0,f1,f2,f3,f4,f5⟩:=hf it (by simp)
  refine wpAny_pyNext_tuple_item st (show s.heap.IsTuple a its.toArray from p) (x:=u) (by simpa using hu) fun h' st' sb=>?_
  have I1:Inv X pins σ H {s with heap:=h'}:=I.turned (t':=s.toks) (fun b o hb e=>(sb.2 b hb).trans e) f0 f1 f3 f4 f5
  obtain⟨o,e,c,d⟩:=id st'
  exact⟨u,rfl,go_of (s:={s with heap:=h'}) e c d (by decide) ⟨x,H,I1,ru,⟨rfl,fun ys hy=>by rw[I.tuple_inj hy hq];exact hx⟩,st',fun b hb=>(hf b hb).1⟩⟩
 done:=by
  intro X hP hw hK hc i pins s σ H E I hf st hg
  subst hP hw hK
  obtain⟨xs,hq,hx⟩:=hg
  obtain⟨its,rv,p,hz⟩:=I.tuple hq
  obtain⟨f0,f1,f2,f3,f4,f5⟩:=hf it (by simp)
  have hl:=rv.length
  exact wpAny_pyNext_tuple_end (I.ok.hd hc) st (show s.heap.IsTuple a its.toArray from p) (by simp;omega) fun h' eb=>⟨rfl,I.turned (t':=s.toks) (fun b o hb e=>eb b o hb e) f0 f1 f3 f4 f5⟩
 self:=fun _ _ _ _ _ st h=>wpAny_pyIter_tupleiter st h
theorem turn_range{P:Program}{w:World}{K:PySem.W.Frag}{tg:Expr}(it:Addr)(lo:Int)(n:Nat):Turn P w K tg (Itr lo n) [it] it (fun i h=>IsRangeIter h it (lo+(i:Nat)*1) ((n:Int) - (i:Nat)) 1) where
 mem:=by simp
 obj:=fun i h st b hb=>by
  have e:b=it:=by simpa using hb
  subst e
  exact⟨_,st,fun v z=>by
   have z':Data.fields _=Data.cell v:=z
   cases z'⟩
 keep:=fun i h h' st k=>k it (by simp) _ st
 item:=by
  intro X hP hw hK hc i pins s σ H E I hf st hg
  subst hP hw hK
  obtain⟨f0,f1,f2,f3,f4,f5⟩:=hf it (by simp)
  have W:=Walks.range (prog:=X.prog) (w:=X.w) (I.ok.hd hc) it lo 1 n
  refine W.item i s _ _ hg st fun v h' tk hv st' kk=>?_
  obtain⟨t,rfl⟩:=hv
  have I1:Inv X pins σ H {s with heap:=h',toks:=tk}:=I.turned (fun b o hb e=>kk b o (by simpa using hb) e) f0 f1 f3 f4 f5
  refine⟨_,rfl,go_of (s:={s with heap:=h',toks:=tk}) (n:="range_iterator") st' rfl rfl (by decide) ⟨.int (lo+i),H,I1,⟨t,?_⟩,⟨rfl,rfl⟩,st',fun b hb=>(hf b hb).1⟩⟩
  rw[Int.mul_one]
 done:=by
  intro X hP hw hK hc i pins s σ H E I hf st hg
  subst hP hw hK
  obtain⟨f0,f1,f2,f3,f4,f5⟩:=hf it (by simp)
  exact wpAny_pyNext_range_end (I.ok.hd hc) st (by have:n<=i:=hg;omega) fun h' eb=>⟨rfl,I.turned (t':=s.toks) (fun b o hb e=>eb b o hb e) f0 f1 f3 f4 f5⟩
 self:=fun _ _ _ _ _ st h=>wpAny_pyIter_rangeiter st h
section
variable {X:Cx}{tg:Expr}
def iList(K:PySem.W.Frag)(tl:TE):TI:=fun σ H R=>tl σ H fun x H1=>∃a,x=.ref a/\(∃xs,SqL K H1 a xs)/\R (Itl K a) H1
def iTup(K:PySem.W.Frag)(tl:TE):TI:=fun σ H R=>tl σ H fun x H1=>∃a,x=.ref a/\(∃xs,SqT K H1 a xs)/\R (Itt K a) H1
theorem pi_list{l:Expr}{tl:TE}(hl:PE X l tl):PI X tg l (iList X.K tl):=by
 intro pins s σ H R I h
 refine thn (hl pins s σ H _ I h) fun v s1 ⟨x,H1,I1,r1,q1⟩=>?_
 obtain⟨a,e,⟨xs,hq⟩,q⟩:=q1
 subst e
 cases r1
 obtain⟨its,rv,p,hz⟩:=I1.list hq
 refine wpAny_pyIter_list p.isList ?_
 refine⟨s1.heap.objs.size,[s1.heap.objs.size],_,_,H1,rfl,I1.kept (t':=s1.toks) fun b o e=>Heap.get?_push_of_some _ e,turn_list a _,⟨_,Heap.get?_push_size _ rfl,rfl,rfl⟩,fun b hb=>?_,q⟩
 have e:b=s1.heap.objs.size:=by simpa using hb
 subst e
 exact I1.fpOk (Nat.le_refl _) (I1.hok.fresh (Nat.le_refl _))
theorem pi_tup{l:Expr}{tl:TE}(hl:PE X l tl):PI X tg l (iTup X.K tl):=by
 intro pins s σ H R I h
 refine thn (hl pins s σ H _ I h) fun v s1 ⟨x,H1,I1,r1,q1⟩=>?_
 obtain⟨a,e,⟨xs,hq⟩,q⟩:=q1
 subst e
 cases r1
 obtain⟨its,rv,p,hz⟩:=I1.tuple hq
 refine wpAny_pyIter_tuple (show s1.heap.IsTuple a its.toArray from p) ?_
 refine⟨s1.heap.objs.size,[s1.heap.objs.size],_,_,H1,rfl,I1.kept (t':=s1.toks) fun b o e=>Heap.get?_push_of_some _ e,turn_tuple a _,⟨_,Heap.get?_push_size _ rfl,rfl,rfl⟩,fun b hb=>?_,q⟩
 have e:b=s1.heap.objs.size:=by simpa using hb
 subst e
 exact I1.fpOk (Nat.le_refl _) (I1.hok.fresh (Nat.le_refl _))
theorem range_it{pins:List (Addr×Obj)}{σ:St}{H:Hp}{s:Shared}{R:It->Hp->Prop}{E:Value->Shared->Prop}{lo hi:Int}{t u v:Tok}{tk:Nat}(I:Inv X pins σ H s)(h1:-(2 ^ 62)<=lo)(h2:lo<2 ^ 62)(h3:-(2 ^ 62)<=hi)(h4:hi<2 ^ 62)
  (q:R (Itr lo (hi-lo).toNat) H):wpAny (model X.prog X.w) X.A (pyIter (.ref s.heap.objs.size)) (PIE X pins σ tg R) E {s with heap:=s.heap.push {cls:=.type "range",data:=.fields #[.int lo t,.int hi u,.int 1 v]},toks:=tk}:=by
 refine wpAny_pyIter_range (IsRange.new ..) (small_one h1 h2 h3 h4) ?_
 have I1:Inv X pins σ H {s with heap:=s.heap.push {cls:=.type "range",data:=.fields #[.int lo t,.int hi u,.int 1 v]},toks:=tk}:=I.kept fun b o e=>Heap.get?_push_of_some _ e
 refine⟨(s.heap.push {cls:=.type "range",data:=.fields #[.int lo t,.int hi u,.int 1 v]}).objs.size,[(s.heap.push {cls:=.type "range",data:=.fields #[.int lo t,.int hi u,.int 1 v]}).objs.size],_,_,H,rfl,
  I1.kept (t':=tk) fun b o e=>Heap.get?_push_of_some _ e,turn_range _ lo (hi-lo).toNat,?_,fun b hb=>?_,q⟩
 ·have e1:lo+((0:Nat):Int)*1=lo:=by simp
  have e2:(((hi-lo).toNat:Nat):Int) - ((0:Nat):Int)=Builtin.Range.rangeSize lo hi 1:=by rw[rangeSize_one];split<;>omega
  show IsRangeIter _ _ (lo+((0:Nat):Int)*1) ((((hi-lo).toNat:Nat):Int) - ((0:Nat):Int)) 1
  rw[e1,e2]
  exact Heap.get?_push_size _ rfl
 ·have e:b=(s.heap.push {cls:=.type "range",data:=.fields #[.int lo t,.int hi u,.int 1 v]}).objs.size:=by simpa using hb
  subst e
  exact I1.fpOk (Nat.le_refl _) (I1.hok.fresh (Nat.le_refl _))
def iRng1(ta:TA):TI:=fun σ H R=>ta σ H fun vs H1=>∃j:Int,vs=[.int j]/\-(2 ^ 62)<=j/\j<2 ^ 62/\R (Itr 0 j.toNat) H1
theorem pi_range1{a:Expr}{ta:TA}{p pos:Pos}(hg:Gl X "range")(hm:X.mg "range"=none)(ha:PA X [a] ta)(hs:starEach [a] X.env=[(false,eval a X.env)]:=by rfl):PI X tg (.Call (.Name "range" p) [a] [] pos) (iRng1 ta):=by
 intro pins s σ H R I h
 refine Call_ (ld_blt I hg hm boot_range (PyProof.Rows.callWith_type1 (thn (ha pos pins s σ H _ I h) fun us s1 ⟨vs,H1,I1,r1,q1⟩=>?_) hs rfl))
 obtain⟨j,e,q1,q2,q⟩:=q1
 subst e
 cases r1 with
 |cons r rr =>
  cases rr
  obtain⟨t,rfl⟩:=r
  exact call_range_1 (range_it I1 (by omega) (by omega) q1 q2 (by simpa using q))
def tFor(wi:TI)(g:TG)(tb:TS):TS:=fun D σ H=>wi σ H fun J H1=>∃W:Nat->Nat->St->Hp->Prop,(∃m,W 0 m σ H1)/\∀i m σ H,W i m σ H ->
 (J.stop i H/\D.nx σ H)\/(J.go i H/\∃N:St->Hp->Prop,(∀σ' H',N σ' H'->∃m',m' < m/\W (i+1) m' σ' H')/\∀x H',J.yld i H x H'->g x σ H' fun σ2 H2=>tb {D with nx:=N,ct:=N,bk:=D.nx} σ2 H2)
def pinsAt(fp:List Addr)(h:Heap):List (Addr×Obj):=fp.filterMap fun b=>(h.get? b).map fun o=>(b,o)
theorem mem_pinsAt{fp:List Addr}{h:Heap}{b:Addr}{o:Obj}(hb:b∈fp)(e:h.get? b=some o):(b,o)∈pinsAt fp h:=List.mem_filterMap.mpr ⟨b,hb,by rw[e];rfl⟩
theorem of_pinsAt{fp:List Addr}{h:Heap}{p:Addr×Obj}(hp:p∈pinsAt fp h):p.1∈fp/\h.get? p.1=some p.2:=by
 obtain⟨b,hb,e⟩:=List.mem_filterMap.mp hp
 cases q:h.get? b with
 |none=>rw[q]at e;cases e
 |some o =>
  rw[q]at e
  have e':(b,o)=p:=Option.some.inj e
  subst e'
  exact⟨hb,q⟩
theorem Inv.pinned{pins:List (Addr×Obj)}{σ:St}{H:Hp}{s:Shared}{fp:List Addr}(I:Inv X pins σ H s)(hf:∀b∈fp,FpOk X pins H b)(ho:∀b∈fp,∃o,s.heap.get? b=some o/\∀v,o.data≠.cell v):Inv X (pins++pinsAt fp s.heap) σ H s :=
 I.pins_of fun p hp=>(List.mem_append.mp hp).elim (fun z=>I.pin p (List.mem_append_right _ z)) fun z=>by
  obtain⟨hb,e⟩:=of_pinsAt z
  obtain⟨f0,f1,f2,_⟩:=hf p.1 hb
  obtain⟨o,e',d⟩:=ho p.1 hb
  rw[e]at e';cases e'
  exact⟨e,f0,f1,f2,d⟩
theorem Inv.unpinned{pins pl:List (Addr×Obj)}{σ:St}{H:Hp}{s:Shared}(I:Inv X (pins++pl) σ H s):Inv X pins σ H s:=I.pins_of fun p hp=>I.pin p (List.mem_append_right _ (List.mem_append_left _ hp))
theorem ps_for{iter:Expr}{body:List Stmt}{wi:TI}{g:TG}{tb:TS}{pos:Pos}(hp:PassesOwn (model X.prog X.w) X.A X.env X.xe)(hc:X.calm=true)(hi:PI X tg iter wi)(hg:PG X tg g)(hb:PSs X body tb)
  (hs:∀x,foldedSetIterable iter X.env x=pure x:=by intro _;rfl):PS X (.For tg iter body [] pos) (tFor wi g tb):=by
 intro pins s σ H D I h
 refine wpAny_For (thn (hi pins s σ H _ I h) fun v s1 h1=>thn h1 fun itv s2 h2=>?_) hs
 obtain⟨it,fp,tn,J,H2,e,I2,T,st2,f2,W,⟨m0,w0⟩,turn⟩:=h2
 subst e
 -- what stays true of the iterator's objects through the loop
 have stat:∀{H':Hp},(∀b∈fp,H' b=none)->∀b∈fp,FpOk X pins H' b:=fun hn b hb=>⟨hn b hb,(f2 b hb).2⟩
 refine codeAny_forLoop_any (fun n s'=>∃i σ' H',Inv X pins σ' H' s'/\tn i s'.heap/\(∀b∈fp,H' b=none)/\W i n σ' H') ?_ m0 ⟨0,σ,H2,I2,st2,fun b hb=>(f2 b hb).1,w0⟩
 rintro n s3 ⟨i,σ3,H3,I3,st3,fr3,w3⟩
 rcases turn i n σ3 H3 w3 with⟨stop,qn⟩|⟨go,N,hN,step⟩
 ·refine wpAny_passesOwn hp (thn (T.done X rfl rfl rfl hc i pins s3 σ3 H3 X.xe I3 (stat fr3) st3 stop) fun r s4 ⟨hr,I4⟩=>?_)
  subst hr
  exact wpAny_execs_nil ⟨σ3,H3,I4,qn⟩
 ·refine wpAny_passesOwn hp (thn (T.item X rfl rfl rfl hc i pins s3 σ3 H3 X.xe I3 (stat fr3) st3 go) fun r s4 ⟨u,hr,h4⟩=>?_)
  subst hr
  refine wpAny_passesOwn hp (thn h4 fun _ s5 ⟨x,H5,I5,r5,y5,st5,fr5⟩=>?_)
  have I5':=I5.pinned (stat fr5) (T.obj _ _ st5)
  refine wpAny_passesOwn hp (thn (hg _ s5 σ3 H5 x u _ I5' r5 (step x H5 y5)) fun _ s6 ⟨σ6,H6,I6,q6⟩=>?_)
  refine wpAny_passesOwn hp (thn (hb _ s6 σ6 H6 _ I6 q6) fun f s7 q7=>?_)
  have again:∀{σ7:St}{H7:Hp},Inv X (pins++pinsAt fp s5.heap) σ7 H7 s7->N σ7 H7->∃m,m<n/\∃i σ' H',Inv X pins σ' H' s7/\tn i s7.heap/\(∀b∈fp,H' b=none)/\W i m σ' H':=fun{σ7 H7} I7 n7=>by
   obtain⟨m',hm,w7⟩:=hN σ7 H7 n7
   refine⟨m',hm,i+1,σ7,H7,I7.unpinned,T.keep _ _ _ st5 fun b hb o e=>(I7.pin (b,o) (List.mem_append_right _ (List.mem_append_right _ (mem_pinsAt hb e)))).1,fun b hb=>?_,w7⟩
   obtain⟨o,e,d⟩:=T.obj _ _ st5 b hb
   exact(I7.pin (b,o) (List.mem_append_right _ (List.mem_append_right _ (mem_pinsAt hb e)))).2.1
  cases f with
  |next=>obtain⟨σ7,H7,I7,n7⟩:=q7;exact again I7 n7
  |cont=>obtain⟨σ7,H7,I7,n7⟩:=q7;exact again I7 n7
  |brk=>obtain⟨σ7,H7,I7,q7⟩:=q7;exact⟨σ7,H7,I7.unpinned,q7⟩
  |ret v=>obtain⟨x7,σ7,H7,I7,r7,q7⟩:=q7;exact⟨x7,σ7,H7,I7.unpinned,r7,q7⟩
end
theorem for_list{K:PySem.W.Frag}{a:Addr}{xs:List V}{g:TG}{tb:TS}{D:Ends}{σ:St}{H:Hp}(Pv:Nat->St->Hp->Prop)(h0:Pv 0 σ H)(hl:∀i σ H,i<=xs.length->Pv i σ H->SqL K H a xs)
  (hs:∀i x σ H,xs[i]?=some x->Pv i σ H->g x σ H fun σ2 H2=>tb {D with nx:=Pv (i+1),ct:=Pv (i+1),bk:=D.nx} σ2 H2) (hd:∀σ H,Pv xs.length σ H->D.nx σ H) :
  ∃W:Nat->Nat->St->Hp->Prop,(∃m,W 0 m σ H)/\∀i m σ H,W i m σ H ->
   ((Itl K a).stop i H/\D.nx σ H)\/((Itl K a).go i H/\∃N:St->Hp->Prop,(∀σ' H',N σ' H'->∃m',m' < m/\W (i+1) m' σ' H')/\∀x H',(Itl K a).yld i H x H'->g x σ H' fun σ2 H2=>tb {D with nx:=N,ct:=N,bk:=D.nx} σ2 H2):=by
 refine⟨fun i m σ H=>m=xs.length-i/\i<=xs.length/\Pv i σ H,⟨xs.length,by simp,Nat.zero_le _,h0⟩,?_⟩
 rintro i m σ H ⟨rfl,hi,p⟩
 have q:=hl i σ H hi p
 by_cases hlt:i<xs.length
 ·refine .inr ⟨⟨xs,xs[i],q,by simp[hlt]⟩,Pv (i+1),fun σ' H' p'=>⟨xs.length - (i+1),by omega,rfl,hlt,p'⟩,fun x H' y=>?_⟩
  obtain⟨e,y⟩:=y
  subst e
  exact hs i x σ _ (y xs q) p
 ·have e:i=xs.length:=by omega
  subst e
  exact .inl ⟨⟨xs,q,Nat.le_refl _⟩,hd σ H p⟩
theorem for_range{lo:Int}{n:Nat}{g:TG}{tb:TS}{D:Ends}{σ:St}{H:Hp}(Pv:Nat->St->Hp->Prop)(h0:Pv 0 σ H)
  (hs:∀i σ H,i<n->Pv i σ H->g (.int (lo+i)) σ H fun σ2 H2=>tb {D with nx:=Pv (i+1),ct:=Pv (i+1),bk:=D.nx} σ2 H2) (hd:∀σ H,Pv n σ H->D.nx σ H) :
  ∃W:Nat->Nat->St->Hp->Prop,(∃m,W 0 m σ H)/\∀i m σ H,W i m σ H ->
   ((Itr lo n).stop i H/\D.nx σ H)\/((Itr lo n).go i H/\∃N:St->Hp->Prop,(∀σ' H',N σ' H'->∃m',m' < m/\W (i+1) m' σ' H')/\∀x H',(Itr lo n).yld i H x H'->g x σ H' fun σ2 H2=>tb {D with nx:=N,ct:=N,bk:=D.nx} σ2 H2):=by
 refine⟨fun i m σ H=>m=n-i/\i<=n/\Pv i σ H,⟨n,by simp,Nat.zero_le _,h0⟩,?_⟩
 rintro i m σ H ⟨rfl,hi,p⟩
 by_cases hlt:i<n
 ·refine .inr ⟨hlt,Pv (i+1),fun σ' H' p'=>⟨n - (i+1),by omega,rfl,hlt,p'⟩,fun x H' y=>?_⟩
  obtain⟨e,y⟩:=y
  subst e y
  exact hs i σ _ hlt p
 ·have e:i=n:=by omega
  subst e
  exact .inl ⟨Nat.le_refl _,hd σ H p⟩
abbrev R2:=V->V->Hp->VK->Prop
def OpR(X:Cx)(f:Value->Value->Sem Value)(r:R2):Prop :=
 ∀(pins:List (Addr×Obj)) (s:Shared) (σ:St) (H:Hp) (x y:V) (v u:Value) (Q:VK),Inv X pins σ H s->RelV x v->RelV y u->r x y H Q ->
  wpAny (model X.prog X.w) X.A (f v u) (EP X pins σ Q) X.xe s
def UnR(X:Cx)(f:Value->Sem Value)(r:V->Hp->VK->Prop):Prop :=
 ∀(pins:List (Addr×Obj)) (s:Shared) (σ:St) (H:Hp) (x:V) (v:Value) (Q:VK),Inv X pins σ H s->RelV x v->r x H Q ->
  wpAny (model X.prog X.w) X.A (f v) (EP X pins σ Q) X.xe s
def CallR(X:Cx)(f:Value)(r:List V->Hp->VK->Prop):Prop :=
 ∀(pins:List (Addr×Obj)) (s:Shared) (σ:St) (H:Hp) (xs:List V) (us:List Value) (Q:VK),Inv X pins σ H s->Vals xs us->r xs H Q ->
  wpAny (model X.prog X.w) X.A (call f us) (EP X pins σ Q) X.xe s
def TruR(X:Cx)(r:V->Hp->(Bool->Hp->Prop)->Prop):Prop :=
 ∀(pins:List (Addr×Obj)) (s:Shared) (σ:St) (H:Hp) (x:V) (v:Value) (Q:Bool->Hp->Prop),Inv X pins σ H s->RelV x v->r x H Q ->
  wpAny (model X.prog X.w) X.A (truthy v) (TP X pins σ Q) X.xe s
def tOp(r:R2)(ta tb:TE):TE:=fun σ H Q=>ta σ H fun x H1=>tb σ H1 fun y H2=>r x y H2 Q
def tUn(r:V->Hp->VK->Prop)(ta:TE):TE:=fun σ H Q=>ta σ H fun x H1=>r x H1 Q
def rI(C:Int->Int->Prop)(g:Int->Int->V):R2:=fun x y H Q=>∃i j,x=.int i/\y=.int j/\C i j/\Q (g i j) H
def rI0(g:Int->Int->V):R2:=fun x y H Q=>∃i j,x=.int i/\y=.int j/\Q (g i j) H
def rU(g:Int->V):V->Hp->VK->Prop:=fun x H Q=>∃i,x=.int i/\Q (g i) H
section
variable {X:Cx}{a b c:Expr}{ta tb tc:TE}{pos:Pos}
theorem binT(ha:PE X a ta)(hb:PE X b tb){pins:List (Addr×Obj)}{s:Shared}{σ:St}{H:Hp}{R:V->V->Hp->Prop}(I:Inv X pins σ H s)
  (h:ta σ H fun x H1=>tb σ H1 fun y H2=>R x y H2) {Q:Value->Shared->Prop}{f:Value->Value->Sem Value}
  (hf:∀v u s2 x y H2,Inv X pins σ H2 s2->RelV x v->RelV y u->R x y H2->wpAny (model X.prog X.w) X.A (f v u) Q X.xe s2) :
  wpAny (model X.prog X.w) X.A (eval a X.env) (fun v s₁=>wpAny (model X.prog X.w) X.A (eval b X.env) (fun u s₂=>wpAny (model X.prog X.w) X.A (f v u) Q X.xe s₂) X.xe s₁) X.xe s:=by
 refine thn (ha pins s σ H _ I h) fun v s1 ⟨x,H1,I1,r1,q1⟩=>?_
 refine thn (hb pins s1 σ H1 _ I1 q1) fun u s2 ⟨y,H2,I2,r2,q2⟩=>?_
 exact hf v u s2 x y H2 I2 r1 r2 q2
theorem pe_op{op:Operator}{r:R2}(ho:OpR X (binaryOp op) r)(ha:PE X a ta)(hb:PE X b tb):PE X (.BinOp a op b pos) (tOp r ta tb):=by
 intro pins s σ H Q I h
 exact wpAny_BinOp (binT ha hb I h fun v u s2 x y H2 I2 rx ry q=>ho pins s2 σ H2 x y v u Q I2 rx ry q)
theorem pe_un{op:UnaryOp}{r:V->Hp->VK->Prop}(ho:UnR X (unaryOp op) r)(ha:PE X a ta):PE X (.UnaryOp op a pos) (tUn r ta):=by
 intro pins s σ H Q I h
 exact UnaryOp_ (thn (ha pins s σ H _ I h) fun v s1 ⟨x,H1,I1,r1,q1⟩=>ho pins s1 σ H1 x v Q I1 r1 q1)
theorem opI{f:Value->Value->Sem Value}{C:Int->Int->Prop}{g:Int->Int->Int}
  (rule:∀(i j:Int) (t u:Tok) (s:Shared) (Q:Value->Shared->Prop) (E:Value->Shared->Prop),C i j->Q (.int (g i j) s.toks) {s with toks:=s.toks+1}->wpAny (model X.prog X.w) X.A (f (.int i t) (.int j u)) Q E s) :
  OpR X f (rI C fun i j=>.int (g i j)):=by
 intro pins s σ H x y v u Q I rx ry h
 obtain⟨i,j,rfl,rfl,hc,q⟩:=h
 obtain⟨t,rfl⟩:=rx
 obtain⟨t',rfl⟩:=ry
 exact rule i j t t' s _ _ hc ⟨.int (g i j),H,I.tok _,⟨_,rfl⟩,q⟩
theorem opI0{f:Value->Value->Sem Value}{g:Int->Int->Int}
  (rule:∀(i j:Int) (t u:Tok) (s:Shared) (Q:Value->Shared->Prop) (E:Value->Shared->Prop),Q (.int (g i j) s.toks) {s with toks:=s.toks+1}->wpAny (model X.prog X.w) X.A (f (.int i t) (.int j u)) Q E s) :
  OpR X f (rI0 fun i j=>.int (g i j)):=by
 intro pins s σ H x y v u Q I rx ry h
 obtain⟨i,j,rfl,rfl,q⟩:=h
 obtain⟨t,rfl⟩:=rx
 obtain⟨t',rfl⟩:=ry
 exact rule i j t t' s _ _ ⟨.int (g i j),H,I.tok _,⟨_,rfl⟩,q⟩
theorem opB0{f:Value->Value->Sem Value}{g:Int->Int->Bool}
  (rule:∀(i j:Int) (t u:Tok) (s:Shared) (Q:Value->Shared->Prop) (E:Value->Shared->Prop),Q (.bool (g i j)) s->wpAny (model X.prog X.w) X.A (f (.int i t) (.int j u)) Q E s) :
  OpR X f (rI0 fun i j=>.bl (g i j)):=by
 intro pins s σ H x y v u Q I rx ry h
 obtain⟨i,j,rfl,rfl,q⟩:=h
 obtain⟨t,rfl⟩:=rx
 obtain⟨t',rfl⟩:=ry
 exact rule i j t t' s _ _ ⟨.bl (g i j),H,I,rfl,q⟩
def CDiv(i j:Int):Prop:=0<j/\j<1073741824
def CPow(i j:Int):Prop:=0<=j/\j<=1000000/\i.natAbs<2 ^ 64
def CMul(i j:Int):Prop:=(-(2 ^ 64)<i/\i<2 ^ 64)\/(-(2 ^ 64)<j/\j<2 ^ 64)
theorem CMul.ok{i j:Int}(h:CMul i j):IntMulOk i j:=by
 rcases h with⟨h1,h2⟩|⟨h1,h2⟩
 ·exact .of_left (intBits_le_64 h1 h2)
 ·exact .of_right (intBits_le_64 h1 h2)
theorem op_add:OpR X (binaryOp .Add) (rI0 fun i j=>.int (i+j)):=opI0 fun _ _ _ _ _ _ _ q=>add_int q
theorem op_sub:OpR X (binaryOp .Sub) (rI0 fun i j=>.int (i-j)):=opI0 fun _ _ _ _ _ _ _ q=>sub_int q
theorem op_mul:OpR X (binaryOp .Mult) (rI CMul fun i j=>.int (i*j)):=opI fun _ _ _ _ _ _ _ hc q=>mul_int q hc.ok
theorem op_fdiv:OpR X (binaryOp .FloorDiv) (rI CDiv fun i j=>.int (i / j)):=opI fun i j _ _ _ _ _ hc q=>by
 have h1:(0:Int)<j:=hc.1
 have h2:j<1073741824:=hc.2
 exact floordiv_int (by omega) (by rw[Int.fdiv_eq_ediv_of_nonneg i (by omega)];exact q) (.inl (PyProof.noPylong_small (by omega)))
theorem op_mod:OpR X (binaryOp .Mod) (rI (fun _ j=>0<j) fun i j=>.int (i % j)):=opI fun i j _ _ _ _ _ hc q=>by
 have h1:(0:Int)<j:=hc
 exact mod_int' (by omega) (by rw[Int.fmod_eq_emod_of_nonneg i (by omega)];exact q)
theorem op_pow:OpR X (binaryOp .Pow) (rI CPow fun i j=>.int (i ^ j.toNat)):=opI fun _ _ _ _ _ _ _ hc q=>pow_int_small hc.1 hc.2.1 hc.2.2 q
theorem unI{f:Value->Sem Value}{g:Int->Int}
  (rule:∀(i:Int) (t:Tok) (s:Shared) (Q:Value->Shared->Prop) (E:Value->Shared->Prop),Q (.int (g i) s.toks) {s with toks:=s.toks+1}->wpAny (model X.prog X.w) X.A (f (.int i t)) Q E s) :
  UnR X f (rU fun i=>.int (g i)):=by
 intro pins s σ H x v Q I rx h
 obtain⟨i,rfl,q⟩:=h
 obtain⟨t,rfl⟩:=rx
 exact rule i t s _ _ ⟨.int (g i),H,I.tok _,⟨_,rfl⟩,q⟩
theorem un_neg:UnR X (unaryOp .USub) (rU fun i=>.int (-i)):=unI fun _ _ _ _ _ q=>neg_int q
end
def scal:V->V->Bool
 |.non,.non=>true|.non,.int _=>true|.int _,.non=>true|.non,.bl _=>true|.bl _,.non=>true|.non,.str _=>true|.str _,.non=>true
 |.int _,.int _=>true|.bl _,.bl _=>true|.str _,.str _=>true|.byt _,.byt _=>true
 |.int _,.str _=>true|.str _,.int _=>true|.bl _,.str _=>true|.str _,.bl _=>true
 |_,_=>false
def rEq:R2:=fun x y H Q=>scal x y=true/\Q (.bl (decide (x=y))) H
def rNe:R2:=fun x y H Q=>scal x y=true/\Q (.bl (!decide (x=y))) H
theorem dec_int{i j:Int}:decide (V.int i=V.int j)=(i == j):=by
 rw[Bool.eq_iff_iff]
 simp
theorem dec_bl{i j:Bool}:decide (V.bl i=V.bl j)=(i == j):=by
 rw[Bool.eq_iff_iff]
 simp
theorem dec_str{i j:Str}:decide (V.str i=V.str j)=(i == j):=by
 rw[Bool.eq_iff_iff]
 simp
theorem dec_byt{i j:Array UInt8}:decide (V.byt i=V.byt j)=(i.toList == j.toList):=by
 rw[Bool.eq_iff_iff]
 cases i
 cases j
 simp
section
variable {X:Cx}{a b c:Expr}{ta tb tc:TE}{pos:Pos}
theorem fin_bl{pins:List (Addr×Obj)}{σ:St}{H:Hp}{s:Shared}{Q:VK}{k k':Bool}(I:Inv X pins σ H s)(q:Q (.bl k) H)(e:k=k'):EP X pins σ Q (.bool k') s:=by
 subst e
 exact⟨.bl k,H,I,rfl,q⟩
theorem op_eq:OpR X (compareOp .Eq) rEq:=by
 intro pins s σ H x y v u Q I rx ry h
 obtain⟨hs,q⟩:=h
 cases x with
 |non =>
  cases rx
  cases y with
  |non=>cases ry;exact PySem.EqNone.eq_none_none (fin_bl I q (by simp))
  |bl j=>cases ry;exact PySem.EqNone.eq_none_bool (fin_bl I q (by simp))
  |int j=>obtain⟨t',rfl⟩:=ry;exact PySem.EqNone.eq_none_int (fin_bl I q (by simp))
  |str j=>obtain⟨t',rfl⟩:=ry;exact PySem.EqNone.eq_none_str (fin_bl I q (by simp))
  |_=>exact absurd (show false=true from hs) Bool.false_ne_true
 |bl i =>
  cases rx
  cases y with
  |non=>cases ry;exact PySem.EqNone.eq_bool_none (fin_bl I q (by simp))
  |bl j=>cases ry;exact eq_bool (fin_bl I q dec_bl)
  |str j=>obtain⟨t',rfl⟩:=ry;exact PySem.EqMixed.eq_bool_str (fin_bl I q (by simp))
  |_=>exact absurd (show false=true from hs) Bool.false_ne_true
 |int i =>
  obtain⟨t,rfl⟩:=rx
  cases y with
  |non=>cases ry;exact PySem.EqNone.eq_int_none (fin_bl I q (by simp))
  |int j=>obtain⟨t',rfl⟩:=ry;exact eq_int (fin_bl I q dec_int)
  |str j=>obtain⟨t',rfl⟩:=ry;exact PySem.EqMixed.eq_int_str (fin_bl I q (by simp))
  |_=>exact absurd (show false=true from hs) Bool.false_ne_true
 |str i =>
  obtain⟨t,rfl⟩:=rx
  cases y with
  |non=>cases ry;exact PySem.EqNone.eq_str_none (fin_bl I q (by simp))
  |bl j=>cases ry;exact PySem.EqMixed.eq_str_bool (fin_bl I q (by simp))
  |int j=>obtain⟨t',rfl⟩:=ry;exact PySem.EqMixed.eq_str_int (fin_bl I q (by simp))
  |str j=>obtain⟨t',rfl⟩:=ry;exact eq_str (fin_bl I q dec_str)
  |_=>exact absurd (show false=true from hs) Bool.false_ne_true
 |byt i =>
  obtain⟨t,rfl⟩:=rx
  cases y with
  |byt j=>obtain⟨t',rfl⟩:=ry;exact PySem.W.eq_bytes (fin_bl I q dec_byt)
  |_=>exact absurd (show false=true from hs) Bool.false_ne_true
 |_=>cases y<;>exact absurd (show false=true from hs) Bool.false_ne_true
theorem op_ne:OpR X (compareOp .NotEq) rNe:=by
 intro pins s σ H x y v u Q I rx ry h
 obtain⟨hs,q⟩:=h
 cases x with
 |non =>
  cases rx
  cases y with
  |non=>cases ry;exact PySem.EqNone.ne_none_none (fin_bl I q (by simp))
  |bl j=>cases ry;exact PySem.EqNone.ne_none_bool (fin_bl I q (by simp))
  |int j=>obtain⟨t',rfl⟩:=ry;exact PySem.EqNone.ne_none_int (fin_bl I q (by simp))
  |str j=>obtain⟨t',rfl⟩:=ry;exact PySem.EqNone.ne_none_str (fin_bl I q (by simp))
  |_=>exact absurd (show false=true from hs) Bool.false_ne_true
 |bl i =>
  cases rx
  cases y with
  |non=>cases ry;exact PySem.EqNone.ne_bool_none (fin_bl I q (by simp))
  |bl j=>cases ry;exact ne_bool (fin_bl I q (congrArg not dec_bl))
  |str j=>obtain⟨t',rfl⟩:=ry;exact PySem.EqMixed.ne_bool_str (fin_bl I q (by simp))
  |_=>exact absurd (show false=true from hs) Bool.false_ne_true
 |int i =>
  obtain⟨t,rfl⟩:=rx
  cases y with
  |non=>cases ry;exact PySem.EqNone.ne_int_none (fin_bl I q (by simp))
  |int j=>obtain⟨t',rfl⟩:=ry;exact ne_int (fin_bl I q (congrArg not dec_int))
  |str j=>obtain⟨t',rfl⟩:=ry;exact PySem.EqMixed.ne_int_str (fin_bl I q (by simp))
  |_=>exact absurd (show false=true from hs) Bool.false_ne_true
 |str i =>
  obtain⟨t,rfl⟩:=rx
  cases y with
  |non=>cases ry;exact PySem.EqNone.ne_str_none (fin_bl I q (by simp))
  |bl j=>cases ry;exact PySem.EqMixed.ne_str_bool (fin_bl I q (by simp))
  |int j=>obtain⟨t',rfl⟩:=ry;exact PySem.EqMixed.ne_str_int (fin_bl I q (by simp))
  |str j=>obtain⟨t',rfl⟩:=ry;exact ne_str (fin_bl I q (congrArg not dec_str))
  |_=>exact absurd (show false=true from hs) Bool.false_ne_true
 |byt i =>
  obtain⟨t,rfl⟩:=rx
  cases y with
  |byt j=>obtain⟨t',rfl⟩:=ry;exact PySem.W.ne_bytes (fin_bl I q (congrArg not dec_byt))
  |_=>exact absurd (show false=true from hs) Bool.false_ne_true
 |_=>cases y<;>exact absurd (show false=true from hs) Bool.false_ne_true
theorem op_lt:OpR X (compareOp .Lt) (rI0 fun i j=>.bl (decide (i<j))):=opB0 fun _ _ _ _ _ _ _ q=>lt_int q
theorem op_le:OpR X (compareOp .LtE) (rI0 fun i j=>.bl (decide (i<=j))):=opB0 fun _ _ _ _ _ _ _ q=>le_int q
theorem op_gt:OpR X (compareOp .Gt) (rI0 fun i j=>.bl (decide (j<i))):=opB0 fun _ _ _ _ _ _ _ q=>gt_int q
theorem op_ge:OpR X (compareOp .GtE) (rI0 fun i j=>.bl (decide (j<=i))):=opB0 fun _ _ _ _ _ _ _ q=>ge_int q
theorem op_in_str:OpR X (compareOp .In) (fun x y H Q=>∃i j,x=.str i/\y=.str j/\Q (.bl (!(Builtin.Str.occurrences j i 0 j.length 1).isEmpty)) H):=by
 intro pins s σ H x y v u Q I rx ry h
 obtain⟨i,j,rfl,rfl,q⟩:=h
 obtain⟨t,rfl⟩:=rx
 obtain⟨t',rfl⟩:=ry
 exact in_str (fin_bl I q rfl)
theorem op_isN:OpR X (compareOp .Is) (fun x y H Q=>y=.non/\Q (.bl (decide (x=.non))) H):=by
 intro pins s σ H x y v u Q I rx ry h
 obtain⟨rfl,q⟩:=h
 cases ry
 refine is_none_gen (fin_bl I q ?_)
 cases x<;>first
  |(cases rx;rfl)
  |(obtain⟨t,rfl⟩:=rx;rfl)
theorem op_notN:OpR X (compareOp .IsNot) (fun x y H Q=>y=.non/\Q (.bl (!decide (x=.non))) H):=by
 intro pins s σ H x y v u Q I rx ry h
 obtain⟨rfl,q⟩:=h
 cases ry
 refine isnot_none_gen (fin_bl I q ?_)
 cases x<;>first
  |(cases rx;rfl)
  |(obtain⟨t,rfl⟩:=rx;rfl)
theorem nomark(b:Expr){op:CmpOp}(h:op≠.In:=by decide)(h2:op≠.NotIn:=by decide):behindInMarks op b=false:=by
 have e1:(op == CmpOp.In)=false:=by cases op<;>first|rfl|exact absurd rfl h
 have e2:(op == CmpOp.NotIn)=false:=by cases op<;>first|rfl|exact absurd rfl h2
 cases b<;>simp[behindInMarks,e1,e2]
theorem pe_cmpR{op:CmpOp}{r:R2}(ho:OpR X (compareOp op) r)(ha:PE X a ta)(hb:PE X b tb)(hm:behindInMarks op b=false):PE X (.Compare a [op] [b] pos) (tOp r ta tb):=by
 intro pins s σ H Q I h
 exact wpAny_Compare1 (binT ha hb I h fun v u s2 x y H2 I2 rx ry q=>ho pins s2 σ H2 x y v u Q I2 rx ry q) hm
def tTest(t:TE):TT:=fun σ H Q=>t σ H fun x H'=>∃k,x=.bl k/\Q k H'
theorem pt_cmpR{op:CmpOp}{r:R2}(ho:OpR X (compareOp op) r)(ha:PE X a ta)(hb:PE X b tb)(hm:behindInMarks op b=false):PT X (.Compare a [op] [b] pos) (tTest (tOp r ta tb)):=by
 intro pins s σ H Q I h
 refine wpAny_isTrue_Compare1 (thn (ha pins s σ H _ I h) fun v s1 ⟨x,H1,I1,r1,q1⟩=>thn (hb pins s1 σ H1 _ I1 q1) fun u s2 ⟨y,H2,I2,r2,q2⟩ =>
  thn (ho pins s2 σ H2 x y v u _ I2 r1 r2 q2) fun c s3 ⟨z,H3,I3,r3,k,e,q3⟩=>?_) hm
 subst e
 cases r3
 exact wpAny_truthy_bool ⟨H3,I3,q3⟩
def tChain(r r':R2)(ta tb tc:TE):TE:=fun σ H Q=>ta σ H fun x H1=>tb σ H1 fun y H2=>r x y H2 fun z H3=>∃k,z=.bl k /\
 (if k=true then tc σ H3 fun w' H4=>r' y w' H4 Q else Q (.bl false) H3)
theorem pe_chain{op op':CmpOp}{r r':R2}(ho:OpR X (compareOp op) r)(ho':OpR X (compareOp op') r')(ha:PE X a ta)(hb:PE X b tb)(hc:PE X c tc)
  (hm:lastMarks [op,op'] [b,c]=false:=by with_unfolding_all rfl):PE X (.Compare a [op,op'] [b,c] pos) (tChain r r' ta tb tc):=by
 intro pins s σ H Q I h
 refine Compare_chain (thn (ha pins s σ H _ I h) fun v s1 ⟨x,H1,I1,r1,q1⟩=>chain_link (thn (hb pins s1 σ H1 _ I1 q1) fun u s2 ⟨y,H2,I2,r2,q2⟩ =>
  thn (ho pins s2 σ H2 x y v u _ I2 r1 r2 q2) fun d s3 ⟨z,H3,I3,r3,k,e,q3⟩=>?_)) hm
 subst e
 cases r3
 refine wpAny_truthy_bool ?_
 cases k with
 |false=>exact ite_ff ⟨.bl false,H3,I3,rfl,q3⟩
 |true=>exact ite_tt (chain_last (thn (hc pins s3 σ H3 _ I3 q3) fun w' s4 ⟨z',H4,I4,r4,q4⟩=>ho' pins s4 σ H4 y z' u w' Q I4 r2 r4 q4))
theorem pt_chain{op op':CmpOp}{r r':R2}(ho:OpR X (compareOp op) r)(ho':OpR X (compareOp op') r')(ha:PE X a ta)(hb:PE X b tb)(hc:PE X c tc)
  (hm:lastMarks [op,op'] [b,c]=false:=by with_unfolding_all rfl):PT X (.Compare a [op,op'] [b,c] pos) (tTest (tChain r r' ta tb tc)):=by
 intro pins s σ H Q I h
 refine isTrue_chain (thn (ha pins s σ H _ I h) fun v s1 ⟨x,H1,I1,r1,q1⟩=>test_link (thn (hb pins s1 σ H1 _ I1 q1) fun u s2 ⟨y,H2,I2,r2,q2⟩ =>
  thn (ho pins s2 σ H2 x y v u _ I2 r1 r2 q2) fun d s3 ⟨z,H3,I3,r3,k,e,q3⟩=>?_)) hm
 subst e
 cases r3
 refine wpAny_truthy_bool ?_
 cases k with
 |false =>
  obtain⟨k',e',q'⟩:=q3
  cases e'
  exact ite_ff ⟨H3,I3,q'⟩
 |true =>
  refine ite_tt (test_last (thn (hc pins s3 σ H3 _ I3 q3) fun w' s4 ⟨z',H4,I4,r4,q4⟩=>thn (ho' pins s4 σ H4 y z' u w' _ I4 r2 r4 q4) fun d' s5 ⟨z2,H5,I5,r5,k2,e2,q5⟩=>?_))
  subst e2
  cases r5
  exact wpAny_truthy_bool ⟨H5,I5,q5⟩
def TruV(K:PySem.W.Frag)(x:V)(H:Hp)(k:Bool):Prop :=
 match x with
 |.non=>k=false
 |.bl b=>k=b
 |.int i=>k=(i != 0)
 |.str y=>y.length<=sizeLine/\k=((y.length:Int) != 0)
 |.byt y=>y.size<=sizeLine/\k=((y.size:Int) != 0)
 |.ref p=>(∃xs,SqL K H p xs/\k=!xs.isEmpty)\/(∃xs,SqT K H p xs/\k=!xs.isEmpty)\/∃kvs,H p=some (.dK kvs)/\k=!kvs.isEmpty
 |_=>False
theorem isEmpty_kv{κ:Type}{kvs:List (κ×V)}{vs:List (κ×Value)}(r:KV kvs vs):(!vs.isEmpty)=!kvs.isEmpty:=by
 cases r<;>rfl
theorem isEmpty_of{xs:List V}{its:List Value}(r:Vals xs its):(!its.toArray.isEmpty)=!xs.isEmpty:=by
 cases r<;>simp
theorem line63:(sizeLine:Nat)<2 ^ 63:=by rw[sizeLine_eq];decide
theorem tru_ok:TruR X (fun x H Q=>∃k,TruV X.K x H k/\Q k H):=by
 intro pins s σ H x v Q I rx h
 obtain⟨k,e,q⟩:=h
 have hl:=line63
 have hs:sizeLine=16777216:=sizeLine_eq
 cases x with
 |non =>
  cases rx
  have e':k=false:=e
  subst e'
  exact truthy_none ⟨H,I,q⟩
 |bl b =>
  cases rx
  have e':k=b:=e
  subst e'
  exact wpAny_truthy_bool ⟨H,I,q⟩
 |int i =>
  obtain⟨t,rfl⟩:=rx
  have e':k=(i != 0):=e
  subst e'
  exact PySem.P.truthy_int ⟨H,I,q⟩
 |str y =>
  obtain⟨t,rfl⟩:=rx
  obtain⟨hy,e'⟩:y.length<=sizeLine/\k=((y.length:Int) != 0):=e
  subst e'
  exact PySem.P.truthy_str (by omega) ⟨H,I.tok _,q⟩
 |byt y =>
  obtain⟨t,rfl⟩:=rx
  obtain⟨hy,e'⟩:y.size<=sizeLine/\k=((y.size:Int) != 0):=e
  subst e'
  exact PySem.W.truthy_bytes (by omega) ⟨H,I.tok _,q⟩
 |ref p =>
  cases rx
  have e':(∃xs,SqL X.K H p xs/\k=!xs.isEmpty)\/(∃xs,SqT X.K H p xs/\k=!xs.isEmpty)\/∃kvs,H p=some (.dK kvs)/\k=!kvs.isEmpty:=e
  rcases e' with⟨xs,hx,e'⟩|⟨xs,hx,e'⟩|⟨kvs,hx,e'⟩
  ·subst e'
   obtain⟨its,r,pl,hz⟩:=I.list hx
   have hlen:=r.length
   exact wpAny_truthy_list pl.isList (by simp only[List.size_toArray];omega) ⟨H,I.tok _,by rw[isEmpty_of r];exact q⟩
  ·subst e'
   obtain⟨its,r,pl,hz⟩:=I.tuple hx
   have hlen:=r.length
   exact truthy_tuple pl (by simp only[List.size_toArray];omega) ⟨H,I.tok _,by rw[isEmpty_of r];exact q⟩
  ·subst e'
   obtain⟨hz,hS,vs,r,m⟩:kvs.length<=sizeLine/\(p == sysModules)=false/\∃vs,KV kvs vs/\s.heap.DictOf (mixKind X.prog X.w) p vs:=I.hok p _ hx
   have hlen:kvs.length=vs.length:=Paired.length r
   exact wpAny_truthy_dict hS m (by omega) ⟨H,I.tok _,by rw[isEmpty_kv r];exact q⟩
 |_=>exact(show False from e).elim
theorem pt_truth(ha:PE X a ta)(he:∀whole,isTrue a X.env whole=(do let v ←whole;standAt a.pos;holding [v] (truthy v))) :
  PT X a (fun σ H Q=>ta σ H fun x H'=>∃k,TruV X.K x H' k/\Q k H'):=by
 intro pins s σ H Q I h
 exact isTrue_plain (thn (ha pins s σ H _ I h) fun v s1 ⟨x,H1,I1,r1,q1⟩=>tru_ok pins s1 σ H1 x v Q I1 r1 q1) (he _)
theorem op_add_str:OpR X (binaryOp .Add) (fun x y H Q=>∃i j,x=.str i/\y=.str j/\i.length+j.length<=sizeLine/\Q (.str (i++j)) H):=by
 intro pins s σ H x y v u Q I rx ry h
 obtain⟨i,j,rfl,rfl,hz,q⟩:=h
 obtain⟨t,rfl⟩:=rx
 obtain⟨t',rfl⟩:=ry
 exact add_str (fun t' tk=>⟨.str (i++j),H,I.tok _,⟨_,rfl⟩,q⟩) hz
theorem vals1{x:V}{us:List Value}(r:Vals [x] us):∃u,us=[u]/\RelV x u:=by
 cases r with
 |cons r1 r2=>cases r2;exact⟨_,rfl,r1⟩
theorem vals2{x y:V}{us:List Value}(r:Vals [x,y] us):∃u w',us=[u,w']/\RelV x u/\RelV y w':=by
 cases r with
 |cons r1 r2 =>
  cases r2 with
  |cons r3 r4=>cases r4;exact⟨_,_,rfl,r1,r3⟩
theorem call_max2(hc:X.calm=true):CallR X (.builtin "max") (fun xs H Q=>∃i j,xs=[.int i,.int j]/\Q (.int (if j>i then j else i)) H):=by
 intro pins s σ H xs us Q I r h
 obtain⟨i,j,rfl,q⟩:=h
 obtain⟨u,w',rfl,⟨t,rfl⟩,⟨t',rfl⟩⟩:=vals2 r
 refine max_two_ints (I.ok.hd hc) fun h' tk k=>⟨_,H,I.kept k,?_,q⟩
 by_cases hj:j>i
 ·rw[if_pos hj,if_pos hj];exact⟨_,rfl⟩
 ·rw[if_neg hj,if_neg hj];exact⟨_,rfl⟩
theorem call_min2(hc:X.calm=true):CallR X (.builtin "min") (fun xs H Q=>∃i j,xs=[.int i,.int j]/\Q (.int (if j<i then j else i)) H):=by
 intro pins s σ H xs us Q I r h
 obtain⟨i,j,rfl,q⟩:=h
 obtain⟨u,w',rfl,⟨t,rfl⟩,⟨t',rfl⟩⟩:=vals2 r
 refine min_two_ints (I.ok.hd hc) fun h' tk k=>⟨_,H,I.kept k,?_,q⟩
 by_cases hj:j<i
 ·rw[if_pos hj,if_pos hj];exact⟨_,rfl⟩
 ·rw[if_neg hj,if_neg hj];exact⟨_,rfl⟩
theorem call_int1:CallR X (.type "int") (fun xs H Q=>(∃i,xs=[.int i]/\Q (.int i) H)\/∃k,xs=[.bl k]/\Q (.int (if k then 1 else 0)) H):=by
 intro pins s σ H xs us Q I r h
 rcases h with⟨i,rfl,q⟩|⟨k,rfl,q⟩
 ·obtain⟨u,rfl,t,rfl⟩:=vals1 r
  exact call_int_int ⟨.int i,H,I,⟨_,rfl⟩,q⟩
 ·obtain⟨u,rfl,r1⟩:=vals1 r
  cases r1
  exact call_int_bool ⟨.int (if k then 1 else 0),H,I.tok _,⟨_,rfl⟩,q⟩
end
section
variable {prog:Program}{w:World}{A:Around}{E:Value->Shared->Prop}{s:Shared}{K:PySem.W.Frag}{x dx C f:Addr}{mA:Str->Option Value}{name:Str}{v:Value}
end
def putF(f:Str)(v:V):List (Str×V)->List (Str×V)
 | []=>[(f,v)]
 |(g,x)::r=>if g=f then(g,v)::r else(g,x)::putF f v r
theorem RelO.some_of{v:V}{o:Option Value}(r:RelO (some v) o):∃u,o=some u/\RelV v u:=by
 cases o with
 |none=>exact(show False from r).elim
 |some u=>exact⟨u,rfl,r⟩
theorem handed_of{v:V}{u:Value}(r:RelV v u):PySem.W.handedIn u=true:=by
 cases v with
 |non=>cases(show u=Value.none from r);rfl
 |bl b=>cases(show u=Value.bool b from r);rfl
 |int i=>obtain⟨t,e⟩:=(show ∃t,u=Value.int i t from r);cases e;rfl
 |str x=>obtain⟨t,e⟩:=(show ∃t,u=Value.str x t from r);cases e;rfl
 |byt b=>obtain⟨t,e⟩:=(show ∃t,u=Value.bytes b t from r);cases e;rfl
 |flt b=>obtain⟨t,e⟩:=(show ∃t,u=Value.float b t from r);cases e;rfl
 |ref a=>cases(show u=Value.ref a from r);rfl
 |ty n=>cases(show u=Value.type n from r);rfl
section
variable {P:Program}{w:World}{H H':Hp}{h h':Heap}{a C dx:Addr}{fs fs':List (Str×V)}
end
section
variable {X:Cx}{pins:List (Addr×Obj)}{σ:St}{H:Hp}{s:Shared}{a C dx:Addr}{fs:List (Str×V)}{f:Str}{v:V}{A:Around}{E:Value->Shared->Prop}
theorem attr_of{prog:Program}{w:World}{env:Env}{e:Expr}{f:Str}{pos:Pos}{s:Shared}{Q:Value->Shared->Prop}(hb:attributeBase e f env (eval e env)=eval e env)
  (h:wpAny (model prog w) A (eval e env) (fun o s₁=>wpAny (model prog w) A (getAttr o f true) Q E s₁) E s):wpAny (model prog w) A (eval (.Attribute e f pos) env) Q E s :=
 Attribute_any_ h (by rw[arm_eval_Attribute,hb])
end
section
variable {X:Cx}{o e value:Expr}{f:Str}{pos pos' tpos:Pos}{ta tv:TE}
end
section
variable {X:Cx}{pins:List (Addr×Obj)}{σ:St}{H:Hp}{s:Shared}{A:Around}{E:Value->Shared->Prop}{Q:Value->Shared->Prop}{c:Value}{b:Bool}
end
structure Room(k:Nat) (A:Around):Prop where
 hd:A.handled=none
 dp:A.depth+2*k+5<recursionLimit
 un:A.units+16*k+200<cLine
 gd:A.guards=some []
theorem Room.mono{j k:Nat}{A:Around}(r:Room k A)(h:j<=k):Room j A:=⟨r.hd,by have:=r.dp;omega,by have:=r.un;omega,r.gd⟩
theorem Room.deeper{k:Nat}{A:Around}(r:Room (k+1) A)(env:Env):Room k (A.deeper env) :=
 ⟨r.hd,by have:=r.dp;show A.depth+1+2*k+5<_;omega,by have:=r.un;show A.units+3+16*k+200<_;omega,r.gd⟩
theorem make_depth{A:Around}{C:Addr}{us:List Value}{kw:List (Str×Value)}:(A.under (.builtin "type.__call__" ⟨.ref C::us,kw⟩)).depth=A.depth+1:=by
 first|rfl|simp[Around.under,Code.weight,Code.isCreation,Code.isGuard,Code.isCaller,Code.frames,Code.isFrame,guardIds]
theorem make_units{A:Around}{C:Addr}{us:List Value}{kw:List (Str×Value)}:(A.under (.builtin "type.__call__" ⟨.ref C::us,kw⟩)).units=A.units+1:=by
 first|rfl|simp[Around.under,Code.cUnits,Code.frames,Code.isFrame]
theorem make_guards{A:Around}{C:Addr}{us:List Value}{kw:List (Str×Value)}:(A.under (.builtin "type.__call__" ⟨.ref C::us,kw⟩)).guards=A.guards:=by
 first|rfl|simp[Around.under,pushGuards,Code.guards,Code.isGuard,guardIds]
theorem Room.make{k:Nat}{A:Around}(r:Room (k+1) A)(C:Addr)(us:List Value)(kw:List (Str×Value)):Room k (A.under (.builtin "type.__call__" ⟨.ref C::us,kw⟩)) :=
 ⟨r.hd,by have:=r.dp;rw[make_depth];omega,by have:=r.un;rw[make_units];omega,by rw[make_guards];exact r.gd⟩
theorem Room.depth{k:Nat}{A:Around}(r:Room k A):A.depth<recursionLimit:=by have:=r.dp;omega
theorem Room.units{k:Nat}{A:Around}(r:Room k A):A.units+64<cLine:=by have:=r.un;omega
def tNil:TA:=fun _ H Q=>Q [] H
def tCons(ta:TE)(tr:TA):TA:=fun σ H Q=>ta σ H fun x H1=>tr σ H1 fun xs H2=>Q (x::xs) H2
section
variable {X:Cx}{e:Expr}{es:List Expr}{te:TE}{t:TA}{pos:Pos}
theorem pa_nil:PA X [] tNil:=fun _ _ _ _ H Q I h=>Calls.spliced_nil ⟨[],H,I,.nil,h⟩
theorem pa_cons(ha:PE X e te)(hr:PA X es t)(hs:starEach (e::es) X.env=(false,eval e X.env)::starEach es X.env:=by rfl):PA X (e::es) (tCons te t):=by
 intro pos pins s σ H Q I h
 rw[hs]
 show wpAny _ _ (spliced ((false,eval e X.env)::backTo pos (starEach es X.env))) _ _ s
 refine Calls.spliced_cons (thn (ha pins s σ H _ I h) fun u s1 ⟨x,H1,I1,r1,q1⟩=>?_)
 exact thn (hr pos pins s1 σ H1 _ I1 q1) fun us s2 ⟨xs,H2,I2,r2,q2⟩=>⟨x::xs,H2,I2,.cons r1 r2,q2⟩
def tTup(t:TA):TE:=fun σ H Q=>t σ H fun xs H1=>xs.length<=sizeLine/\∀p,H1 p=none->Q (.ref p) (upd H1 p (.tup xs))
def tLst(t:TA):TE:=fun σ H Q=>t σ H fun xs H1=>xs.length<=sizeLine/\∀p,H1 p=none->Q (.ref p) (upd H1 p (.lst xs))
theorem pe_tup{x1}(h:PA X es t):PE X (.Tuple es x1 pos) (tTup t):=by
 intro pins s σ H Q I hq
 refine wpAny_Tuple_spliced (thn (h pos pins s σ H _ I hq) fun us s1 ⟨xs,H1,I1,r,z,q⟩=>⟨by rw[←r.length];exact z,?_⟩)
 have hf:H1 s1.heap.objs.size=none:=I1.hok.fresh (Nat.le_refl _)
 refine⟨.ref s1.heap.objs.size,upd H1 s1.heap.objs.size (.tup xs),I1.laid (t':=s1.toks) (fun b u e=>Heap.get?_push_of_some _ e) (Nat.le_refl _) ?_,rfl,q _ hf⟩
 exact⟨z,us,r,⟨_,Heap.get?_push_size _ rfl,rfl,_,rfl⟩,_,Heap.get?_push_size _ rfl,rfl⟩
theorem pe_lst(h:PA X es t):PE X (.List es pos) (tLst t):=by
 intro pins s σ H Q I hq
 refine wpAny_List_spliced (thn (h pos pins s σ H _ I hq) fun us s1 ⟨xs,H1,I1,r,z,q⟩=>⟨by rw[←r.length];exact z,?_⟩)
 have hf:H1 s1.heap.objs.size=none:=I1.hok.fresh (Nat.le_refl _)
 refine⟨.ref s1.heap.objs.size,upd H1 s1.heap.objs.size (.lst xs),I1.laid (t':=s1.toks) (fun b u e=>Heap.get?_push_of_some _ e) (Nat.le_refl _) ?_,rfl,q _ hf⟩
 exact⟨z,us,0,r,Heap.get?_push_size _ rfl⟩
end
abbrev Sp:=List V->Hp->VK->XK->Prop
abbrev CXT:=List Env->Hp->Shared->XK->Value->Shared->Prop
structure Env0(P:Program) (w:World) (K:PySem.W.Frag) (mg:Str->Option Value) (base:Heap) (A:Around) (outer:List Env) (s:Shared) (H:Hp):Prop where
 frames:A.frames=some outer
 mod:Mod K mg base
 bs:∀b o,base.get? b=some o->s.heap.get? b=some o/\H b=none
 bsz:base.objs.size<=s.heap.objs.size
 funs:s.heap.FunFrames base outer
 frf:∀b∈frs outer,H b=none
 hok:HOk P w H s.heap
 bare:AllBare s.gens
def CE(outer:List Env)(P:Program)(w:World)(H:Hp)(s:Shared)(Q:VK)(u:Value)(s':Shared):Prop :=
 ∃v H',s'.os=s.os/\AllBare s'.gens/\Un (frs outer) [] H H' s.heap s'.heap/\HOk P w H' s'.heap/\RelV v u/\Q v H'
def CR(CX:CXT)(outer:List Env)(P:Program)(w:World)(H:Hp)(s:Shared)(Q:VK)(E:XK)(r:Result)(s':Shared):Prop :=
 match r with
 |.ok (.ret u)=>CE outer P w H s Q u s'
 |.ok _=>False
 |.error e=>CX outer H s E e s'
structure FnOk(P:Program) (w:World) (K:PySem.W.Frag) (mg:Str->Option Value) (base:Heap) (CX:CXT) (k:Nat) (f:Addr) (fd:FuncData) (ps:List Str) (sp:Sp):Prop where
 len:∀vs H Q E,sp vs H Q E->vs.length=ps.length
 run:∀(A:Around) (outer:List Env) (s:Shared) (H:Hp) (args:Args) (us:List Value) (vs:List V) (Q:VK) (E:XK),Room k A->Env0 P w K mg base A outer s H->BindsTo s fd args (ps.zip us)->Vals vs us->sp vs H Q E ->
  codeAny (model P w) A (.call (.ref f) args) (CR CX outer P w H s Q E) s
theorem FnOk.imp{P:Program}{w:World}{K:PySem.W.Frag}{mg:Str->Option Value}{base:Heap}{CX:CXT}{k:Nat}{f:Addr}{fd:FuncData}{ps:List Str}{sp sp':Sp}(F:FnOk P w K mg base CX k f fd ps sp)
  (h:∀vs H Q E,sp' vs H Q E->sp vs H Q E):FnOk P w K mg base CX k f fd ps sp' :=
 ⟨fun vs H Q E q=>F.len vs H Q E (h _ _ _ _ q),fun A outer s H args us vs Q E hr he hb hv hs=>F.run A outer s H args us vs Q E hr he hb hv (h _ _ _ _ hs)⟩
theorem Env0.make{P:Program}{w:World}{K:PySem.W.Frag}{mg:Str->Option Value}{base:Heap}{A:Around}{outer:List Env}{s:Shared}{H:Hp}(e:Env0 P w K mg base A outer s H)(C:Addr)(us:List Value)(kw:List (Str×Value)) :
  Env0 P w K mg base (A.under (.builtin "type.__call__" ⟨.ref C::us,kw⟩)) outer s H:=⟨by first|exact e.frames|(simpa[Around.under,Code.envs,Code.isFrame,pushEnvs]using e.frames),e.mod,e.bs,e.bsz,e.funs,e.frf,e.hok,e.bare⟩
section
variable {X:Cx}{pins:List (Addr×Obj)}{σ:St}{H:Hp}{s s':Shared}
theorem Inv.env0(I:Inv X pins σ H s):Env0 X.prog X.w X.K X.mg X.base X.A X.stack s H :=
 ⟨I.ok.frames,I.ok.mod,I.bs,Nat.le_trans I.ok.bsz I.sz,I.stack,I.stkFree,I.hok,I.bare⟩
theorem Inv.after{Q:VK}{u:Value}(I:Inv X pins σ H s)(h:CE X.stack X.prog X.w H s Q u s'):EP X pins σ Q u s':=by
 obtain⟨v,H',os,bare,un,hok,r,q⟩:=h
 obtain⟨hh,g,d,t,os'⟩:=s'
 obtain rfl:os'=s.os:=os
 exact⟨v,H',I.call (h':=hh) (g':=g) (d':=d) (t':=t) (ch:=[]) un hok bare (fun b z=>absurd z (by simp)),r,q⟩
end
def tCall(sp:Sp)(dvs:List V)(E:XK)(t:TA):TE:=fun σ H Q=>t σ H fun vs H1=>sp (vs++dvs) H1 Q E
def Binds(K:PySem.W.Frag)(fd:FuncData)(ps:List Str)(ds:List Value):Prop :=
 ∀(s:Shared) (us:List Value),K.In s.heap->(us++ds).length=ps.length->BindsTo s fd ⟨us,[]⟩ (ps.zip (us++ds))
theorem Binds.all{K:PySem.W.Frag}{fd:FuncData}{ps:List Str}(h:∀us:List Value,us.length=ps.length->bindArgs fd ⟨us,[]⟩=pure (ps.zip us)):Binds K fd ps []:=fun s us _ hl=>by
 rw[List.append_nil]at hl⊢
 exact .of_eq (h us hl)
def Passes(CX:CXT)(X:Cx)(E:XK):Prop:=∀(pins:List (Addr×Obj)) (σ:St) (H:Hp) (s:Shared) (e:Value) (s':Shared),Inv X pins σ H s->CX X.stack H s E e s'->X.xe e s'
section
variable {X:Cx}{CX:CXT}{k:Nat}{f C:Addr}{fd:FuncData}{ps:List Str}{sp:Sp}{dvs:List V}{ds:List Value}{E:XK}{x m:Str}{p pos apos:Pos}{e o:Expr}{es:List Expr}{ta:TE}{t:TA}
theorem run_fn{pins:List (Addr×Obj)}{σ:St}{H:Hp}{s:Shared}{Q:VK}{us:List Value}{vs:List V}(F:FnOk X.prog X.w X.K X.mg X.base CX k f fd ps sp)(hr:Room k X.A)(hb:Binds X.K fd ps ds)(hd:Vals dvs ds)(hx:Passes CX X E)
  (I:Inv X pins σ H s) (r:Vals vs us) (h:sp (vs++dvs) H Q E):wpAny (model X.prog X.w) X.A (call (.ref f) us) (EP X pins σ Q) X.xe s:=by
 have r2:Vals (vs++dvs) (us++ds):=r.append hd
 have hl:(us++ds).length=ps.length:=by rw[←r2.length];exact F.len _ _ _ _ h
 refine wpAny_call (codeAny_mono (F.run X.A X.stack s H ⟨us,[]⟩ (us++ds) (vs++dvs) Q E hr I.env0 (hb s us I.kIn hl) r2 h) fun r s' hq=>?_)
 cases r with
 |error e=>exact hx pins σ H s e s' I hq
 |ok fl =>
  cases fl with
  |ret u=>exact I.after hq
  |next=>exact False.elim hq
  |brk=>exact False.elim hq
  |cont=>exact False.elim hq
theorem pe_call(F:FnOk X.prog X.w X.K X.mg X.base CX k f fd ps sp)(hr:Room k X.A)(hg:Gl X x)(hm:X.mg x=some (.ref f))(hk:PySem.W.keepIn X.K (.ref f)=true)(hb:Binds X.K fd ps ds)(hd:Vals dvs ds)(hx:Passes CX X E)
  (ha:PA X (e::es) t) (hdb:(x == ("__debug__":Str))=false:=by decide) (he:starEach (e::es) X.env=(false,eval e X.env)::starEach es X.env:=by rfl) (hpl:(backTo pos (starEach es X.env)).any (·.1)=false:=by rfl) :
  PE X (.Call (.Name x p) (e::es) [] pos) (tCall sp dvs E t):=by
 intro pins s σ H Q I h
 refine wpAny_Call_Name_kw (ld_glob I hg hm ?_ hdb)
 refine PySem.W.callWith_K (h₀:=X.base) I.ok.mod.kin hk (thn (ha pos pins s σ H _ I h) fun us s1 ⟨vs,H1,I1,r,q⟩=>⟨I1.kIn,?_⟩) he hpl
 exact run_fn F hr hb hd hx I1 r q
theorem pe_call0(F:FnOk X.prog X.w X.K X.mg X.base CX k f fd ps sp)(hr:Room k X.A)(hg:Gl X x)(hm:X.mg x=some (.ref f))(hk:PySem.W.keepIn X.K (.ref f)=true)(hb:Binds X.K fd ps ds)(hd:Vals dvs ds)(hx:Passes CX X E)
  (hdb:(x == ("__debug__":Str))=false:=by decide):PE X (.Call (.Name x p) [] [] pos) (tCall sp dvs E tNil):=by
 intro pins s σ H Q I h
 refine wpAny_Call_Name_kw (ld_glob I hg hm ?_ hdb)
 exact PySem.W.callWith_K0 I.kIn hk (run_fn (us:=[]) F hr hb hd hx I .nil h)
end
section
variable {X:Cx}{CX:CXT}{k:Nat}{f C:Addr}{fd:FuncData}{ps ks:List Str}{sp:Sp}{E:XK}{x m:Str}{p pos apos kpos:Pos}{e o:Expr}{es:List Expr}{kws:List Keyword}{te ta:TE}{t tk:TA}{nm:Option Str}
variable {g:List Value->List Value->List Value}{gV:List V->List V->List V}
end
structure FnScope(N P:List Str) (sc:Scope):Prop where
 kind:sc.kind=.function
 co:sc.isCoroutine=false
 gen:sc.isGenerator=false
 nd:N.Nodup
 pre:N.take P.length=P
 par:∀x∈P,sc.names.lookup x=some .local\/sc.names.lookup x=some .cell
 nofree:∀y∈sc.names,y.2≠.free
theorem bindL_out{kindOf:Str->Option NameKind}{x:Str}:∀{binds:List (Str×Value)}{m:Str->Option Value},(∀v,(x,v)∉binds)->bindL kindOf binds m x=m x
 | [],_,_=>rfl
 |(n,v)::r,m,h=>by
  unfold bindL
  rw[bindL_out fun w hw=>h w (List.mem_cons_of_mem _ hw)]
  split
  ·have:x≠n:=by rintro rfl;exact h v List.mem_cons_self
   simp[this]
  ·rfl
theorem bindC_out{kindOf:Str->Option NameKind}{x:Str}:∀{binds:List (Str×Value)}{m:Str->Option Value},(∀v,(x,v)∉binds)->bindC kindOf binds m x=m x
 | [],_,_=>rfl
 |(n,v)::r,m,h=>by
  unfold bindC
  rw[bindC_out fun w hw=>h w (List.mem_cons_of_mem _ hw)]
  split
  ·rfl
  ·have:x≠n:=by rintro rfl;exact h v List.mem_cons_self
   simp[this]
theorem bindL_get{kindOf:Str->Option NameKind}{x:Str}{v:Value}:∀{P:List Str}{vs:List Value}{i:Nat}{m:Str->Option Value},P.Nodup->P[i]?=some x->vs[i]?=some v->kindOf x=some .local ->
  bindL kindOf (P.zip vs) m x=some v
 | [],_,_,_,_,h,_,_=>by simp at h
 |_::_,[],_,_,_,_,h,_=>by simp at h
 |p::P,w::vs,0,m,nd,h1,h2,hk=>by
  simp at h1 h2;subst h1;subst h2
  show bindL kindOf ((p,w)::P.zip vs) m p=_
  unfold bindL
  rw[bindL_out fun v hv=>(List.nodup_cons.mp nd).1 (List.of_mem_zip hv).1,if_pos hk]
  simp
 |p::P,w::vs,i+1,m,nd,h1,h2,hk=>by
  show bindL kindOf ((p,w)::P.zip vs) m x=_
  unfold bindL
  exact bindL_get (i:=i) (List.nodup_cons.mp nd).2 (by simpa using h1) (by simpa using h2) hk
theorem bindC_get{kindOf:Str->Option NameKind}{x:Str}{v:Value}:∀{P:List Str}{vs:List Value}{i:Nat}{m:Str->Option Value},P.Nodup->P[i]?=some x->vs[i]?=some v->kindOf x≠some .local ->
  bindC kindOf (P.zip vs) m x=some v
 | [],_,_,_,_,h,_,_=>by simp at h
 |_::_,[],_,_,_,_,h,_=>by simp at h
 |p::P,w::vs,0,m,nd,h1,h2,hk=>by
  simp at h1 h2;subst h1;subst h2
  show bindC kindOf ((p,w)::P.zip vs) m p=_
  unfold bindC
  rw[bindC_out fun v hv=>(List.nodup_cons.mp nd).1 (List.of_mem_zip hv).1,if_neg hk]
  simp
 |p::P,w::vs,i+1,m,nd,h1,h2,hk=>by
  show bindC kindOf ((p,w)::P.zip vs) m x=_
  unfold bindC
  exact bindC_get (i:=i) (List.nodup_cons.mp nd).2 (by simpa using h1) (by simpa using h2) hk
def start(N:List Str)(vs:List V):St:=vs.map some++List.replicate (N.length-vs.length) none
def cxOf(CX:CXT)(P:Program)(w:World)(K:PySem.W.Frag)(mg:Str->Option Value)(base:Heap)(N:List Str)(qual:Str)(scope:Scope)(f:Addr)(cd:Value)(A:Around)(outer:List Env)(s:Shared)(H:Hp)(E:XK):Cx where
 prog:=P
 w:=w
 K:=K
 mg:=mg
 base:=base
 A:=A.deeper (envOfC qual scope s.heap.objs.size f cd)
 N:=N
 s₀:=s
 H₀:=H
 env:=envOfC qual scope s.heap.objs.size f cd
 outer:=outer
 stack:=envOfC qual scope s.heap.objs.size f cd::outer
 ex:=[]
 calm:=true
 fn:=fun _=>true
 pn:=[]
 xe:=fun e s'=>wpAny (model P w) (A.deeper (envOfC qual scope s.heap.objs.size f cd)) (leaving (envOfC qual scope s.heap.objs.size f cd) e) (fun _ s''=>CX outer H s E e s'') (fun e' s''=>CX outer H s E e' s'') s'
theorem cell_has{sc:Scope}{n:Nat}{x:Str}(h:sc.names.lookup x=some .cell):∃c,(cellsFrom n sc.names []).lookup x=some c:=by
 have q:=PySem.W.cellsFrom_some sc.names n [] (.inl h)
 exact Option.isSome_iff_exists.mp q
theorem inv_start{CX:CXT}{P:Program}{w:World}{K:PySem.W.Frag}{mg:Str->Option Value}{base:Heap}{N ps:List Str}{qual:Str}{scope:Scope}{f:Addr}{cd:Value}{A:Around}{outer:List Env}{s s1:Shared}{H:Hp}{E:XK}{us:List Value}{vs:List V}
  (S:FnScope N ps scope) (hd:A.handled=none) (e0:Env0 P w K mg base A outer s H) (hl:vs.length=ps.length) (r:Vals vs us)
  (x:InCallC s s.heap.objs.size (bindL (envOfC qual scope s.heap.objs.size f cd).kindOf (ps.zip us) fun _=>none) (cellsFrom (s.heap.objs.size+1) scope.names []) (bindC (envOfC qual scope s.heap.objs.size f cd).kindOf (ps.zip us) fun _=>none) s1) :
  Inv (cxOf CX P w K mg base N qual scope f cd A outer s H E) [] (start N vs) H s1:=by
 have hpl:ps.length<=N.length:=by have:=congrArg List.length S.pre;rw[List.length_take]at this;omega
 obtain⟨h1,tk,rfl,hk⟩:=x.done
 have noA:∀b:Addr,b∉(cxOf CX P w K mg base N qual scope f cd A outer s H E).ex:=fun b z=>absurd (show b∈([]:List Addr)from z) (by simp)
 refine⟨⟨e0.mod,S.kind,rfl,rfl,Nat.le_refl _,fun y z c h1 h2=>?_,fun y hy=>?_,fun y c _ h=>?_,fun _=>hd,Around.frames_deeper e0.frames,.inr ⟨rfl,rfl⟩,fun b z=>absurd z (noA b),e0.bs,e0.bsz,fun b _ _=>noA b,fun b z=>absurd z (noA b),e0.funs,e0.frf⟩,
  rfl,e0.bare,Un.kept hk,⟨_,x.toInCall.ns,fun i y v h1 h2 h3=>?_⟩,fun y c h=>⟨_,x.cell y c h⟩,e0.hok.fresh (Nat.le_refl _),fun y c h=>?_,fun p hp=>absurd (show p∈([]:List (Addr×Obj))from hp) (by simp),e0.hok.kept hk,?_⟩
 ·exact name_of_addr x.apart (PySem.mem_of_lookup h1) (PySem.mem_of_lookup h2)
 ·have hy:scope.names.lookup y=some .cell\/scope.names.lookup y=some .free:=hy
  rcases hy with hy|hy
  ·exact cell_has hy
  ·exact absurd rfl (S.nofree _ (PySem.mem_of_lookup hy))
 ·exact Nat.le_of_lt (x.above y c (PySem.mem_of_lookup h))
 ·have hi:i<vs.length:=by
   unfold start at h2
   by_cases hi:i<vs.length
   ·exact hi
   ·rw[List.getElem?_append_right (by simpa using hi)]at h2
    rw[List.getElem?_replicate]at h2
    split at h2<;>cases h2
  have ha:vs[i]?=some v:=by
   unfold start at h2
   rw[List.getElem?_append_left (by simpa using hi),List.getElem?_map]at h2
   cases e:vs[i]? with
   |none=>rw[e]at h2;cases h2
   |some a=>rw[e]at h2;cases h2;rfl
  obtain⟨u,hu,rv⟩:=r.get ha
  have hp:ps[i]?=some y:=by
   rw[←S.pre,List.getElem?_take_of_lt (by omega)];exact h1
  have ndP:ps.Nodup:=by rw[←S.pre];exact S.nd.sublist (List.take_sublist _ _)
  refine⟨u,rv,?_⟩
  rcases S.par y (List.mem_of_getElem? hp)with k|k
  ·exact .inl ⟨k,bindL_get ndP hp hu k⟩
  ·obtain⟨c,e⟩:=cell_has (n:=s.heap.objs.size+1) k
   refine .inr ⟨.inl k,c,e,?_⟩
   have q:=x.cell y c e
   rw[bindC_get ndP hp hu (by show scope.names.lookup y≠_;rw[k];decide)]at q
   exact q
 ·exact e0.hok.fresh (Nat.le_of_lt (x.above y c (PySem.mem_of_lookup h)))
 ·unfold start
  show _=N.length
  rw[List.length_append,List.length_map,List.length_replicate]
  omega
theorem fn_of{CX:CXT}{P:Program}{w:World}{K:PySem.W.Frag}{mg:Str->Option Value}{base:Heap}{k:Nat}{f:Addr}{name qual:Str}{params:Arguments}{body:List Stmt}{scope:Scope}{dV kV doc pm cdv ct oc:Value}{an od:Option Addr}
  {osl:Array (Option Value)}{N ps:List Str}{sp:Sp}(lk:K.lookup f=some ⟨oc,od,.func (PySem.W.fnOf name qual params body scope dV kV doc pm an cdv ct),osl⟩) (hcd:PySem.W.codeIn K cdv qual=true) (S:FnScope N ps scope)
  (len:∀vs H Q E,sp vs H Q E->vs.length=ps.length)
  (hbody:∀(A:Around) (outer:List Env) (s:Shared) (H:Hp) (vs:List V) (Q:VK) (E:XK),Room k (A.deeper (envOfC qual scope s.heap.objs.size f cdv))->sp vs H Q E ->
   ∃t,PSs (cxOf CX P w K mg base N qual scope f cdv A outer s H E) body t/\t {nx:=fun _ H'=>Q .non H',rt:=Q} (start N vs) H) :
  FnOk P w K mg base CX (k+1) f (PySem.W.fnOf name qual params body scope dV kV doc pm an cdv ct) ps sp:=by
 refine⟨len,fun A outer s H args us vs Q E hr e0 hb r hsp=>?_⟩
 have hl:=len _ _ _ _ hsp
 have KX:K.In s.heap:=e0.mod.kin.keeps fun b o e=>(e0.bs b o e).1
 have lim:s.heap.NoLimit:=e0.mod.nolimit.keeps fun b o e=>(e0.bs b o e).1
 have hkind:∀y∈ps.zip us,scope.names.lookup y.1=some .local\/(scope.names.lookup y.1=some .cell/\((cellsFrom (s.heap.objs.size+1) scope.names []).lookup y.1).isSome=true):=fun⟨n,v⟩ hy=>by
  rcases S.par n (List.of_mem_zip hy).1 with q|q
  ·exact .inl q
  ·exact .inr ⟨q,PySem.W.cellsFrom_some _ _ _ (.inl q)⟩
 refine codeAny_call_function hr.depth (KX _ _ lk) rfl S.co S.gen rfl (PySem.W.codeRec_of KX hcd) (hb _ _ _ _ ?_)
 refine wpAny_newFunctionEnv_cells S.kind hkind fun env he s1 x=>?_
 subst he
 refine⟨lim.keeps x.toInCall.keep,codeAny_func ?_⟩
 obtain⟨t,ht,hq⟩:=hbody A outer s H vs Q E (hr.deeper _) hsp
 have I:Inv (cxOf CX P w K mg base N qual scope f cdv A outer s H E) [] (start N vs) H s1:=inv_start S hr.hd e0 hl r x
 refine wpAny_mono (ht [] s1 (start N vs) H _ I hq) (fun fl s' hs=>?_) fun e s' hs=>hs
 have fin:∀{σ':St}{H':Hp}{v:V}{u:Value},Inv (cxOf CX P w K mg base N qual scope f cdv A outer s H E) [] σ' H' s'->RelV v u->Q v H'->CE outer P w H s Q u s' :=
  fun{σ' H' v u} J rv q=>⟨v,H',J.os,J.bare,J.base,J.hok,rv,q⟩
 cases fl with
 |ret u =>
  obtain⟨v,σ',H',J,rv,q⟩:=hs
  exact fin J rv q
 |next =>
  obtain⟨σ',H',J,q⟩:=hs
  exact fin (v:=V.non) (u:=Value.none) J rfl q
 |brk =>
  obtain⟨_,_,_,q⟩:=hs
  exact False.elim q
 |cont =>
  obtain⟨_,_,_,q⟩:=hs
  exact False.elim q
section
variable {X:Cx}{x:Str}{p pos:Pos}{e:Expr}{es:List Expr}{t:TA}{id T:String}{r:List V->Hp->VK->Prop}
def tCB(r:List V->Hp->VK->Prop)(t:TA):TE:=fun σ H Q=>t σ H fun vs H1=>r vs H1 Q
theorem pe_callB(hc:CallR X (.builtin id) r)(hg:Gl X x)(hm:X.mg x=none)(hv:bootBuiltins x=some (.builtin id))(ha:PA X (e::es) t)(hn:x≠"__name__":=by decide)(hdb:(x == ("__debug__":Str))=false:=by decide)
  (he:starEach (e::es) X.env=(false,eval e X.env)::starEach es X.env:=by rfl) (hpl:(backTo pos (starEach es X.env)).any (·.1)=false:=by rfl):PE X (.Call (.Name x p) (e::es) [] pos) (tCB r t):=by
 intro pins s σ H Q I h
 refine wpAny_Call_Name_kw (ld_blt I hg hm hv ?_ hn hdb)
 exact PyProof.Rows.callWith_builtin1 (thn (ha pos pins s σ H _ I h) fun us s1 ⟨vs,H1,I1,r1,q1⟩=>hc pins s1 σ H1 vs us Q I1 r1 q1) he hpl
theorem pe_callTy(hc:CallR X (.type T) r)(hg:Gl X x)(hm:X.mg x=none)(hv:bootBuiltins x=some (.type T))(ha:PA X (e::es) t)(hn:x≠"__name__":=by decide)(hdb:(x == ("__debug__":Str))=false:=by decide)
  (he:starEach (e::es) X.env=(false,eval e X.env)::starEach es X.env:=by rfl) (hpl:(backTo pos (starEach es X.env)).any (·.1)=false:=by rfl):PE X (.Call (.Name x p) (e::es) [] pos) (tCB r t):=by
 intro pins s σ H Q I h
 refine wpAny_Call_Name_kw (ld_blt I hg hm hv ?_ hn hdb)
 exact PyProof.Rows.callWith_type1 (thn (ha pos pins s σ H _ I h) fun us s1 ⟨vs,H1,I1,r1,q1⟩=>hc pins s1 σ H1 vs us Q I1 r1 q1) he hpl
end
end L2
namespace HT
open PySem PyProof.Rows
section
open PySem.SeqAt
open PySem.AutoSeq1 (wpAny_loadPart')
open PySem.MeetsSeq PySem.MeetsSeq2 PySem.MeetsSeq3
end
section
variable {prog:Program}{w:World}{A:Around}{E:Value->Shared->Prop}{s:Shared}
theorem cat_tup{t b:Addr}{vs ws:List Value}{Q:Value->Shared->Prop}(ht:IsTup s.heap t vs.toArray)(hb:IsTup s.heap b ws.toArray)(hv:vs≠[])
  (h1:ws=[]->Q (.ref t) s) (h2:ws≠[]->Q (.ref s.heap.objs.size) {s with heap:=s.heap.push {cls:=.type "tuple",data:=.seq (vs++ws).toArray}})
  (hsz:vs.length+ws.length<=sizeLine):wpAny (model prog w) A (binaryOp .Add (.ref t) (.ref b)) Q E s:=by
 obtain⟨⟨cls,dd,data,sl⟩,ho,hc,n,hd⟩:=id ht
 obtain⟨⟨cls2,dd2,data2,sl2⟩,ho2,hc2,n2,hd2⟩:=id hb
 simp only at hc hd hc2 hd2
 subst hc hd hc2 hd2
 have e:vs.toArray++ws.toArray=(vs++ws).toArray:=by simp
 by_cases hw:ws=[]
 ·exact concat_meets ⟨_,ho,rfl⟩ ⟨_,ho2,rfl⟩ noFill_tuple_add seq_tuple_add PySem.F.slot_tuple_add PySem.F.entry_tuple_add (PySem.F.args_tuple_add_2 _ _)
   (tuple_addW1 t b vs.toArray ws.toArray n n2 dd dd2 sl sl2 (by simpa using hv) (by simp[hw])) ⟨ho,ho2,h1 hw⟩
 ·refine concat_meets ⟨_,ho,rfl⟩ ⟨_,ho2,rfl⟩ noFill_tuple_add seq_tuple_add PySem.F.slot_tuple_add PySem.F.entry_tuple_add (PySem.F.args_tuple_add_2 _ _)
   (tuple_addW2 t b vs.toArray ws.toArray n n2 dd dd2 sl sl2 (by simpa using hv) (by simpa using hw) (by rw[List.size_toArray,List.size_toArray];exact hsz)) ⟨ho,ho2,?_⟩
  rw[e]
  exact h2 hw
def sIx(n d:Nat):Option Int->Nat
 |none=>d
 |some v=>if v<0 then(v+(n:Int)).toNat else min v.toNat n
theorem sIx_none(n d:Nat):sIx n d none=d:=rfl
theorem sIx_nat(n d k:Nat):sIx n d (some (k:Int))=min k n:=by
 show(if(k:Int)<0 then((k:Int)+(n:Int)).toNat else min (k:Int).toNat n)=min k n
 rw[if_neg (by omega),Int.toNat_natCast]
end
end HT
namespace L2
open PySem PySem.Spec PyProof.Rows
abbrev TO:=St->Hp->(Option Int->Hp->Prop)->Prop
def PO(X:Cx)(e:Option Expr)(t:TO):Prop :=
 ∀(pins:List (Addr×Obj)) (s:Shared) (σ:St) (H:Hp) (Q:Option Int->Hp->Prop),Inv X pins σ H s->t σ H Q ->
  wpAny (model X.prog X.w) X.A (evalPart e X.env) (fun u s'=>∃o H',Inv X pins σ H' s'/\IsPart u o/\Q o H') X.xe s
def tNoPart:TO:=fun _ H Q=>Q none H
def tPart(t:TE):TO:=fun σ H Q=>t σ H fun x H1=>∃i,x=.int i/\Q (some i) H1
section
variable {X:Cx}{e:Expr}{te:TE}{lo hi:Option Expr}{tl th:TO}{pos p2:Pos}
theorem po_none:PO X none tNoPart:=by
 intro pins s σ H Q I h
 rw[evalPart_none]
 exact wpAny_pure ⟨none,H,I,.none,h⟩
theorem po_some(h:PE X e te):PO X (some e) (tPart te):=by
 intro pins s σ H Q I hw
 rw[evalPart_some]
 refine thn (h pins s σ H _ I hw) fun u s1 ⟨x,H1,I1,r1,q1⟩=>?_
 obtain⟨i,rfl,q⟩:=q1
 obtain⟨t,rfl⟩:=r1
 exact⟨some i,H1,I1,.int i t,q⟩
def SlR(X:Cx)(r:V->Option Int->Option Int->Hp->VK->Prop):Prop :=
 ∀(pins:List (Addr×Obj)) (s:Shared) (σ:St) (H:Hp) (x:V) (v vl vu:Value) (lo hi:Option Int) (sl:Addr) (Q:VK),Inv X pins σ H s->RelV x v->s.heap.IsSliceOf sl vl vu .none->IsPart vl lo->IsPart vu hi->r x lo hi H Q ->
  ∃T id,typeLookup (.type T) "__getitem__"=pure (some (.builtin id))/\s.TypeIs v T/\wpAny (model X.prog X.w) X.A (getItem v (.ref sl)) (EP X pins σ Q) X.xe s
def tSl(r:V->Option Int->Option Int->Hp->VK->Prop)(te:TE)(tl th:TO):TE:=fun σ H Q=>te σ H fun x H1=>tl σ H1 fun l H2=>th σ H2 fun u H3=>r x l u H3 Q
theorem pe_slice{r:V->Option Int->Option Int->Hp->VK->Prop}(hr:SlR X r)(he:PE X e te)(hl:PO X lo tl)(hu:PO X hi th):PE X (.Subscript e (.Slice lo hi none p2) pos) (tSl r te tl th):=by
 intro pins s σ H Q I h
 refine Subscript_ (thn (he pins s σ H _ I h) fun v s1 ⟨x,H1,I1,r1,q1⟩=>?_)
 refine wpAny_Slice (thn (hl pins s1 σ H1 _ I1 q1) fun vl s2 ⟨l,H2,I2,pl,q2⟩=>thn (hu pins s2 σ H2 _ I2 q2) fun vu s3 ⟨u,H3,I3,pu,q3⟩=>?_)
 rw[evalPart_none]
 refine wpAny_pure ?_
 have I4:Inv X pins σ H3 {s3 with heap:=s3.heap.push {cls:=.type "slice",data:=.fields #[vl,vu,.none]}}:=I3.kept (t':=s3.toks) fun b ob q=>Heap.get?_push_of_some _ q
 obtain⟨T,id,hT,ht,hg⟩:=hr pins {s3 with heap:=s3.heap.push {cls:=.type "slice",data:=.fields #[vl,vu,.none]}} σ H3 x v vl vu l u s3.heap.objs.size Q I4 r1 (Heap.IsSliceOf.new ..) pl pu q3
 show wpAny (model X.prog X.w) X.A (subscriptTail e (.Slice lo hi none p2) v (.ref s3.heap.objs.size)) (EP X pins σ Q) X.xe {s3 with heap:=s3.heap.push {cls:=.type "slice",data:=.fields #[vl,vu,.none]}}
 exact tail_any (ops:=[.ref s3.heap.objs.size,v]) ht hT hg (by with_unfolding_all rfl)
def cutV(xs:List V)(lo hi:Option Int):List V:=(xs.drop (HT.sIx xs.length 0 lo)).take (HT.sIx xs.length xs.length hi-HT.sIx xs.length 0 lo)
theorem cutV_length(xs:List V)(lo hi:Option Int):(cutV xs lo hi).length<=xs.length:=by
 unfold cutV
 rw[List.length_take,List.length_drop]
 omega
def rCatT(K:PySem.W.Frag):R2:=fun x y H Q=>∃a b xs ys,x=.ref a/\y=.ref b/\SqT K H a xs/\SqT K H b ys/\xs≠[]/\xs.length+ys.length<=sizeLine /\
 (ys=[]->Q (.ref a) H)/\(ys≠[]->∀p,H p=none->Q (.ref p) (upd H p (.tup (xs++ys))))
theorem Vals.nil_iff{xs:List V}{us:List Value}(r:Vals xs us):us=[]↔xs=[]:=by
 cases r with
 |nil=>simp
 |cons _ _=>simp
theorem op_catT:OpR X (binaryOp .Add) (rCatT X.K):=by
 intro pins s σ H x y v u Q I rx ry h
 obtain⟨a,b,xs,ys,rfl,rfl,ha,hb,hx,hz,q1,q2⟩:=h
 cases rx
 cases ry
 obtain⟨its,r1,p1,_⟩:=I.tuple ha
 obtain⟨its2,r2,p2,_⟩:=I.tuple hb
 refine HT.cat_tup p1 p2 (fun z=>hx (r1.nil_iff.mp z)) (fun z=>⟨.ref a,H,I,rfl,q1 (r2.nil_iff.mp z)⟩) (fun z=>?_) (by rw[←r1.length,←r2.length];exact hz)
 refine⟨.ref s.heap.objs.size,_,I.laid (t':=s.toks) (o:=.tup (xs++ys)) (fun b ob q=>Heap.get?_push_of_some _ q) (Nat.le_refl _) ?_,rfl,q2 (fun w=>z (r2.nil_iff.mpr w)) _ (I.hok.fresh (Nat.le_refl _))⟩
 exact⟨by rw[List.length_append];exact hz,_,r1.append r2,IsTup.new _ _,_,Heap.get?_push_size _ rfl,rfl⟩
end
def ixN(n:Nat)(i:Int):Option Nat:=if 0<=i then(if i<n then some i.toNat else none)else if -(n:Int)<=i then some (i+n).toNat else none
def atI{α:Type}(xs:List α)(i:Int):Option α:=(ixN xs.length i).bind fun j=>xs[j]?
theorem ixN_seq{n:Nat}{i:Int}{j:Nat}(h:ixN n i=some j):seqIndex? i n=some j/\j<n/\-(n:Int)<=i/\i<n:=by
 unfold ixN at h
 by_cases h0:0<=i
 ·rw[if_pos h0]at h
  by_cases h1:i<n
  ·rw[if_pos h1]at h
   have e:i.toNat=j:=Option.some.inj h
   exact⟨by rw[seqIndex_of h0 h1,e],by omega,by omega,h1⟩
  ·rw[if_neg h1]at h;cases h
 ·rw[if_neg h0]at h
  by_cases h1:-(n:Int)<=i
  ·rw[if_pos h1]at h
   have e:(i+n).toNat=j:=Option.some.inj h
   exact⟨by rw[seqIndex_neg (by omega) h1,e],by omega,h1,by omega⟩
  ·rw[if_neg h1]at h;cases h
theorem atI_get{α:Type}{xs:List α}{i:Int}{v:α}(h:atI xs i=some v):∃j,seqIndex? i xs.length=some j/\xs[j]?=some v/\j<xs.length/\-(xs.length:Int)<=i/\i<xs.length:=by
 unfold atI at h
 cases e:ixN xs.length i with
 |none=>rw[e]at h;cases h
 |some j =>
  rw[e]at h
  obtain⟨h1,h2,h3,h4⟩:=ixN_seq e
  exact⟨j,h1,h,h2,h3,h4⟩
theorem atI_nat{α:Type}{xs:List α}{j:Nat}{v:α}(h:xs[j]?=some v):atI xs (j:Int)=some v:=by
 have hj:j<xs.length:=(List.getElem?_eq_some_iff.mp h).1
 have e:ixN xs.length (j:Int)=some j:=by
  unfold ixN
  rw[if_pos (by omega),if_pos (by omega)];simp
 unfold atI;rw[e];exact h
def PlainIx(b:Expr):Prop:=∀o i,subscripted b false o i=operate [o,i] (getItem o i)
def IxR(X:Cx)(r:R2):Prop :=
 ∀(value slice:Expr) (pins:List (Addr×Obj)) (s:Shared) (σ:St) (H:Hp) (x y:V) (v u:Value) (Q:VK),Inv X pins σ H s->RelV x v->RelV y u->r x y H Q ->
  subscripted slice false v u=operate [v,u] (getItem v u)->wpAny (model X.prog X.w) X.A (subscriptTail value slice v u) (EP X pins σ Q) X.xe s
def MtR(X:Cx)(id:String)(r:V->List V->Hp->VK->Prop):Prop :=
 ∀(pins:List (Addr×Obj)) (s:Shared) (σ:St) (H:Hp) (x:V) (xs:List V) (v:Value) (us:List Value) (Q:VK),Inv X pins σ H s->RelV x v->Vals xs us->r x xs H Q ->
  wpAny (model X.prog X.w) X.A (call (.builtin id) (v::us)) (EP X pins σ Q) X.xe s
section
variable {X:Cx}{a b:Expr}{ta tb:TE}{pos:Pos}
theorem pe_ix{r:R2}(hr:IxR X r)(ha:PE X a ta)(hb:PE X b tb)(hs:PlainIx b):PE X (.Subscript a b pos) (tOp r ta tb):=by
 intro pins s σ H Q I h
 exact Subscript_ (binT ha hb I h fun v u s2 x y H2 I2 rx ry q=>hr a b pins s2 σ H2 x y v u Q I2 rx ry q (hs _ _))
def rIxL(K:PySem.W.Frag):R2:=fun x y H Q=>∃p xs i v,x=.ref p/\y=.int i/\SqL K H p xs/\atI xs i=some v/\Q v H
def rIxT(K:PySem.W.Frag):R2:=fun x y H Q=>∃p xs i v,x=.ref p/\y=.int i/\SqT K H p xs/\atI xs i=some v/\Q v H
def rIxS:R2:=fun x y H Q=>∃z i c,x=.str z/\y=.int i/\z.length<=sizeLine/\atI z.cps.toList i=some c/\Q (.str ⟨#[c]⟩) H
theorem ix_list:IxR X (rIxL X.K):=by
 intro value slice pins s σ H x y v u Q I rx ry h hs
 obtain⟨p,xs,i,z,rfl,rfl,hq,he,q⟩:=h
 cases rx
 obtain⟨t,rfl⟩:=ry
 obtain⟨its,r,pl,hz⟩:=I.list hq
 obtain⟨j,h1,h2,h3,h4,h5⟩:=atI_get he
 obtain⟨w,ew,rw'⟩:=r.get h2
 have hl:=r.length
 have hn:=line63
 have fin:EP X pins σ Q w s:=⟨z,H,I,rw',q⟩
 by_cases h0:0<=i
 ·have hj:i.toNat=j:=by
   rw[seqIndex_of h0 h5]at h1
   exact Option.some.inj h1
  exact item_listR pl.isList h0 (by omega) (by rw[hj];simpa using ew) fin hs
 ·have hj:(i+(its.toArray.size:Int)).toNat=j:=by
   rw[seqIndex_neg (by omega) h4]at h1
   rw[List.size_toArray,←hl]
   exact Option.some.inj h1
  exact subscriptTail_builtinR (x:=w) pl.isList.typeIs slot_list_getitem.lookup
   (wpAny_getItem_list_neg (Q:=fun r s'=>r=w/\EP X pins σ Q r s') pl.isList (by omega) (by rw[List.size_toArray]<;>omega) (by omega) (by rw[hj];simpa using ew) ⟨rfl,fin⟩) hs
theorem ix_tup:IxR X (rIxT X.K):=by
 intro value slice pins s σ H x y v u Q I rx ry h hs
 obtain⟨p,xs,i,z,rfl,rfl,hq,he,q⟩:=h
 cases rx
 obtain⟨t,rfl⟩:=ry
 obtain⟨its,r,pl,hz⟩:=I.tuple hq
 obtain⟨j,h1,h2,h3,h4,h5⟩:=atI_get he
 obtain⟨w,ew,rw'⟩:=r.get h2
 have hl:=r.length
 have hn:=line63
 have fin:EP X pins σ Q w s:=⟨z,H,I,rw',q⟩
 exact subscriptTail_builtinR (x:=w) pl.typeIs slot_tuple_getitem.lookup
  (getItem_tuple (j:=j) (Q:=fun r s'=>r=w/\EP X pins σ Q r s') pl (by omega) (by omega) (by rw[List.size_toArray,←hl];exact h1) (by simpa using ew) ⟨rfl,fin⟩) hs
theorem ix_str:IxR X rIxS:=by
 intro value slice pins s σ H x y v u Q I rx ry h hs
 obtain⟨z,i,c,rfl,rfl,hz,he,q⟩:=h
 obtain⟨t,rfl⟩:=rx
 obtain⟨t',rfl⟩:=ry
 obtain⟨j,h1,h2,h3,h4,h5⟩:=atI_get he
 have hl:z.cps.toList.length=z.length:=by simp[Str.length]
 rw[hl]at h1 h4 h5
 have hn:=line63
 exact tail_any (typeIs_str s z t) slot_str_getitem.lookup (getItem_str (c:=c) (by
  have e1:decide (i < -(2 ^ 63:Int))=false:=decide_eq_false (by omega)
  have e2:decide (i ≥ 2 ^ 63)=false:=decide_eq_false (by omega)
  rw[e1,e2,Bool.or_false]) (by rw[h1];simpa using h2) ⟨.str ⟨#[c]⟩,H,I.tok _,⟨_,rfl⟩,q⟩) hs
theorem mapSeq_set(its:List Value)(n j:Nat)(u:Value):Obj.mapSeq (·.setIfInBounds j u) {cls:=.type "list",data:=.seq its.toArray n}={cls:=.type "list",data:=.seq (its.set j u).toArray n}:=by
 simp[Obj.mapSeq]
theorem Inv.lst{pins:List (Addr×Obj)}{σ:St}{H:Hp}{s:Shared}{p:Addr}{xs:List V}(I:Inv X pins σ H s)(h:H p=some (.lst xs)) :
  ∃(its:List Value) (n:Nat),Vals xs its/\s.heap.get? p=some {cls:=.type "list",data:=.seq its.toArray n}/\xs.length<=sizeLine:=by
 obtain⟨z,its,n,r,e⟩:=I.hok p _ h
 exact⟨its,n,r,e,z⟩
theorem Inv.lstUpd{pins:List (Addr×Obj)}{σ:St}{H:Hp}{s:Shared}{p:Addr}{xs ys:List V}{its its':List Value}{n n':Nat}{f:Obj->Obj}(I:Inv X pins σ H s)(h:H p=some (.lst xs))
  (ho:s.heap.get? p=some {cls:=.type "list",data:=.seq its.toArray n}) (hf:f {cls:=.type "list",data:=.seq its.toArray n}={cls:=.type "list",data:=.seq its'.toArray n'}) (r:Vals ys its') (hz:ys.length<=sizeLine) (t:Nat) :
  Inv X pins σ (upd H p (.lst ys)) {s with heap:=s.heap.update p f,toks:=t}:=by
 have e:(s.heap.update p f).get? p=some {cls:=.type "list",data:=.seq its'.toArray n'}:=by
  rw[Heap.get?_update_self f ho (by rw[hf]<;>rfl),hf]
 refine I.write (x:=p) (e:=p) (by rw[h];trivial) (.inl rfl) (fun b u hb q=>(Heap.get?_update_other _ _ (Ne.symm hb)).trans q) ⟨_,e⟩ ?_
 exact⟨hz,its',n',r,e⟩
def rSetL:V->V->V->Hp->(Hp->Prop)->Prop:=fun o i v H Q=>∃p xs k j,o=.ref p/\i=.int k/\H p=some (.lst xs)/\ixN xs.length k=some j/\Q (upd H p (.lst (xs.set j v)))
theorem set_list:PSet X rSetL:=by
 intro pins s σ H o i v ov iv u Q I ro ri rv h
 obtain⟨p,xs,k,j,rfl,rfl,hp,hj,q⟩:=h
 cases ro
 obtain⟨t,rfl⟩:=ri
 obtain⟨its,n,r,ho,hz⟩:=I.lst hp
 obtain⟨h1,h2,h3,h4⟩:=ixN_seq hj
 have hl:=r.length
 have hn:=line63
 have I':Inv X pins σ (upd H p (.lst (xs.set j v))) {s with heap:=s.heap.update p (Obj.mapSeq (·.setIfInBounds j u))} :=
  I.lstUpd hp ho (mapSeq_set its n j u) (r.set rv j) (by rw[List.length_set];exact hz) s.toks
 by_cases h0:0<=k
 ·have hk:k.toNat=j:=by
   rw[seqIndex_of h0 h4]at h1
   exact Option.some.inj h1
  exact PySem.W.ki_setAt ho h0 (by omega) (by rw[List.size_toArray,←hl];exact h4) (by rw[hk];exact⟨_,I',q⟩)
 ·have hk:(k+(its.toArray.size:Int)).toNat=j:=by
   rw[seqIndex_neg (by omega) h3]at h1
   rw[List.size_toArray,←hl]
   exact Option.some.inj h1
  exact PySem.W.ki_setBack ho (by omega) (by rw[List.size_toArray,←hl];exact h3) (by omega) (by rw[hk];exact⟨_,I',q⟩)
theorem slice_bounds(lo hi:Option Int)(n:Nat):(sliceBounds lo hi none n).1=((HT.sIx n 0 lo:Nat):Int)/\(sliceBounds lo hi none n).2.1=((HT.sIx n n hi:Nat):Int)/\(sliceBounds lo hi none n).2.2=1:=by
 refine⟨?_,?_,rfl⟩
 ·cases lo with
  |none=>simp[sliceBounds,HT.sIx]
  |some i =>
   simp only[sliceBounds,HT.sIx,Option.getD_none,show(1:Int)>0 by decide,if_true]
   by_cases h:i<0
   ·simp only[h,if_true]<;>omega
   ·simp only[h,if_false]<;>omega
 ·cases hi with
  |none=>simp[sliceBounds,HT.sIx]
  |some i =>
   simp only[sliceBounds,HT.sIx,Option.getD_none,show(1:Int)>0 by decide,if_true]
   by_cases h:i<0
   ·simp only[h,if_true]<;>omega
   ·simp only[h,if_false]<;>omega
theorem slicePick_cut(its:List Value)(lo hi:Option Int):slicePick its.toArray lo hi none=((its.drop (HT.sIx its.length 0 lo)).take (HT.sIx its.length its.length hi-HT.sIx its.length 0 lo)).toArray:=by
 obtain⟨h1,h2,h3⟩:=slice_bounds lo hi its.toArray.size
 unfold slicePick
 rw[h1,h2,h3]
 simp only[sliceRange_one,pick_run,List.size_toArray]<;>rfl
def rSlL(K:PySem.W.Frag):V->Option Int->Option Int->Hp->VK->Prop:=fun x lo hi H Q=>∃a xs,x=.ref a/\SqL K H a xs/\∀p,H p=none->Q (.ref p) (upd H p (.lst (cutV xs lo hi)))
theorem sl_list:SlR X (rSlL X.K):=by
 intro pins s σ H x v vl vu lo hi sl Q I rx hs pl pu h
 obtain⟨a,xs,rfl,hx,q⟩:=h
 cases rx
 obtain⟨its,r,ht,hz⟩:=I.list hx
 have hlen:=r.length
 refine⟨"list",_,slot_list_getitem.lookup,ht.isList.typeIs,?_⟩
 refine wpAny_getItem_list_slice ht.isList hs pl pu .none (by simp) ?_ (by rw[List.size_toArray]<;>omega)
 rw[slicePick_cut,←hlen]
 refine⟨.ref s.heap.objs.size,_,I.laid (t':=s.toks) (o:=.lst (cutV xs lo hi)) (fun b ob q=>Heap.get?_push_of_some _ q) (Nat.le_refl _) ?_,rfl,q _ (I.hok.fresh (Nat.le_refl _))⟩
 exact⟨Nat.le_trans (cutV_length xs lo hi) hz,_,0,(r.drop (HT.sIx xs.length 0 lo)).take (HT.sIx xs.length xs.length hi-HT.sIx xs.length 0 lo),Heap.get?_push_size _ rfl⟩
def flatV:V->Bool
 |.non=>true
 |.bl _=>true
 |.int _=>true
 |.str _=>true
 |_=>false
def eqV:V->V->Bool
 |.non,.non=>true
 |.bl a,.bl b=>a == b
 |.bl a,.int b=>(if a then 1 else 0) == b
 |.int a,.bl b=>a == (if b then 1 else 0)
 |.int a,.int b=>a == b
 |.str a,.str b=>a == b
 |_,_=>false
theorem eqAt_V{A:Around}{s:Shared}{y x:V}{u v:Value}(ry:RelV y u)(rx:RelV x v)(fy:flatV y=true)(fx:flatV x=true):SeqAt.EqAt A s u v (eqV y x):=by
 cases y with
 |non =>
  cases ry
  cases x with
  |non=>cases rx;exact SeqAt.EqAt.same _
  |bl b=>cases rx;exact SeqAt.EqAt.none_bool b
  |int b=>obtain⟨t,rfl⟩:=rx;exact SeqAt.EqAt.none_int b t
  |str b=>obtain⟨t,rfl⟩:=rx;exact SeqAt.EqAt.none_str b t
  |_=>exact absurd (show false=true from fx) Bool.false_ne_true
 |bl a =>
  cases ry
  cases x with
  |non=>cases rx;exact SeqAt.EqAt.bool_none a
  |bl b=>cases rx;exact SeqAt.EqAt.bool_bool a b
  |int b=>obtain⟨t,rfl⟩:=rx;exact SeqAt.EqAt.bool_int a b t
  |str b=>obtain⟨t,rfl⟩:=rx;exact SeqAt.EqAt.bool_str a b t
  |_=>exact absurd (show false=true from fx) Bool.false_ne_true
 |int a =>
  obtain⟨t',rfl⟩:=ry
  cases x with
  |non=>cases rx;exact SeqAt.EqAt.int_none a t'
  |bl b=>cases rx;exact SeqAt.EqAt.int_bool a t' b
  |int b=>obtain⟨t,rfl⟩:=rx;exact SeqAt.EqAt.int_int a t' b t
  |str b=>obtain⟨t,rfl⟩:=rx;exact SeqAt.EqAt.int_str a t' b t
  |_=>exact absurd (show false=true from fx) Bool.false_ne_true
 |str a =>
  obtain⟨t',rfl⟩:=ry
  cases x with
  |non=>cases rx;exact SeqAt.EqAt.str_none a t'
  |bl b=>cases rx;exact SeqAt.EqAt.str_bool a t' b
  |int b=>obtain⟨t,rfl⟩:=rx;exact SeqAt.EqAt.str_int a t' b t
  |str b=>obtain⟨t,rfl⟩:=rx;exact SeqAt.EqAt.str_str a t' b t
  |_=>exact absurd (show false=true from fx) Bool.false_ne_true
 |_=>exact absurd (show false=true from fy) Bool.false_ne_true
def eqU(x:V)(u:Value):Bool:=match u with
 |.none=>eqV .non x
 |.bool b=>eqV (.bl b) x
 |.int i _=>eqV (.int i) x
 |.str z _=>eqV (.str z) x
 |_=>false
theorem eqU_of{x y:V}{u:Value}(r:RelV y u)(f:flatV y=true):eqU x u=eqV y x:=by
 cases y with
 |non=>cases r;rfl
 |bl b=>cases r;rfl
 |int i=>obtain⟨t,rfl⟩:=r;rfl
 |str z=>obtain⟨t,rfl⟩:=r;rfl
 |_=>exact absurd (show false=true from f) Bool.false_ne_true
theorem any_eqU{x:V}:∀{xs:List V}{us:List Value},Vals xs us->xs.all flatV=true->us.any (eqU x)=xs.any fun y=>eqV y x
 |_,_,.nil,_=>rfl
 |y::xs,u::us,.cons r t,f=>by
  rw[List.all_cons,Bool.and_eq_true]at f
  rw[List.any_cons,List.any_cons,eqU_of r f.1,any_eqU t f.2]
theorem mem_eqAt{A:Around}{s:Shared}{x:V}{v:Value}(rx:RelV x v)(fx:flatV x=true):∀{xs:List V}{us:List Value},Vals xs us->xs.all flatV=true->∀u∈us,SeqAt.EqAt A s u v (eqU x u)
 |_,_,.nil,_=>fun u hu=>by cases hu
 |y::xs,u::us,.cons r t,f=>fun u' hu=>by
  rw[List.all_cons,Bool.and_eq_true]at f
  rcases List.mem_cons.mp hu with rfl|hu
  ·rw[eqU_of r f.1];exact eqAt_V r rx f.1 fx
  ·exact mem_eqAt rx fx t f.2 u' hu
def inV(x:V)(xs:List V):Bool:=xs.any fun y=>eqV y x
def rIn(K:PySem.W.Frag)(neg:Bool):R2:=fun x y H Q=>∃p xs,y=.ref p/\(SqL K H p xs\/SqT K H p xs)/\flatV x=true/\xs.all flatV=true/\Q (.bl (if neg then !inV x xs else inV x xs)) H
theorem op_in_seq:OpR X (compareOp .In) (rIn X.K false):=by
 intro pins s σ H x y v u Q I rx ry h
 obtain⟨p,xs,rfl,hq,fx,fs,q⟩:=h
 cases ry
 rcases hq with hq|hq
 ·obtain⟨its,r,pl,hz⟩:=I.list hq
  refine SeqAt.in_listAt (eqU x) pl.isList (fun w hw=>mem_eqAt rx fx r fs w (by simpa using hw)) ⟨.bl _,H,I,rfl,?_⟩
  rw[show its.toArray.any (eqU x)=its.any (eqU x) by simp,any_eqU r fs]
  exact q
 ·obtain⟨its,r,pl,hz⟩:=I.tuple hq
  refine SeqAt.in_tupleAt (eqU x) pl (fun w hw=>mem_eqAt rx fx r fs w (by simpa using hw)) ⟨.bl _,H,I,rfl,?_⟩
  rw[show its.toArray.any (eqU x)=its.any (eqU x) by simp,any_eqU r fs]
  exact q
theorem op_notIn_seq:OpR X (compareOp .NotIn) (rIn X.K true):=by
 intro pins s σ H x y v u Q I rx ry h
 obtain⟨p,xs,rfl,hq,fx,fs,q⟩:=h
 cases ry
 rcases hq with hq|hq
 ·obtain⟨its,r,pl,hz⟩:=I.list hq
  refine SeqAt.notIn_listAt (eqU x) pl.isList (fun w hw=>mem_eqAt rx fx r fs w (by simpa using hw)) ⟨.bl _,H,I,rfl,?_⟩
  rw[show its.toArray.any (eqU x)=its.any (eqU x) by simp,any_eqU r fs]
  exact q
 ·obtain⟨its,r,pl,hz⟩:=I.tuple hq
  refine SeqAt.notIn_tupleAt (eqU x) pl (fun w hw=>mem_eqAt rx fx r fs w (by simpa using hw)) ⟨.bl _,H,I,rfl,?_⟩
  rw[show its.toArray.any (eqU x)=its.any (eqU x) by simp,any_eqU r fs]
  exact q
theorem op_notIn_str:OpR X (compareOp .NotIn) (fun x y H Q=>∃i j,x=.str i/\y=.str j/\Q (.bl (!(!(Builtin.Str.occurrences j i 0 j.length 1).isEmpty))) H):=by
 intro pins s σ H x y v u Q I rx ry h
 obtain⟨i,j,rfl,rfl,q⟩:=h
 obtain⟨t,rfl⟩:=rx
 obtain⟨t',rfl⟩:=ry
 exact notIn_str ⟨.bl _,H,I,rfl,q⟩
theorem call_len_seq:CallR X (.builtin "len") (fun xs H Q=>∃p ys,xs=[.ref p]/\(SqL X.K H p ys\/SqT X.K H p ys)/\Q (.int ys.length) H):=by
 intro pins s σ H xs us Q I r h
 obtain⟨p,ys,rfl,hq,q⟩:=h
 obtain⟨u,rfl,rx⟩:=vals1 r
 cases rx
 have hn:=line63
 rcases hq with hq|hq
 ·obtain⟨its,r',pl,hz⟩:=I.list hq
  have hlen:=r'.length
  exact Calls.call_len_list pl.isList (by simp only[List.size_toArray]<;>omega) ⟨.int ys.length,H,I.tok _,⟨s.toks+1,by rw[List.size_toArray,hlen]⟩,q⟩
 ·obtain⟨its,r',pl,hz⟩:=I.tuple hq
  have hlen:=r'.length
  exact len_tuple pl (by simp only[List.size_toArray]<;>omega) ⟨.int ys.length,H,I.tok _,⟨s.toks+1,by rw[List.size_toArray,hlen]⟩,q⟩
theorem call_len_str:CallR X (.builtin "len") (fun xs H Q=>∃z,xs=[.str z]/\z.length<=sizeLine/\Q (.int z.length) H):=by
 intro pins s σ H xs us Q I r h
 obtain⟨z,rfl,hz,q⟩:=h
 obtain⟨u,rfl,t,rfl⟩:=vals1 r
 have hn:=line63
 exact len_str (by omega) ⟨.int z.length,H,I.tok _,⟨_,rfl⟩,q⟩
theorem call_tuple_of:CallR X (.type "tuple") (fun xs H Q=>∃p ys,xs=[.ref p]/\((SqL X.K H p ys/\∀l,H l=none->Q (.ref l) (upd H l (.tup ys)))\/(SqT X.K H p ys/\Q (.ref p) H))):=by
 intro pins s σ H xs us Q I r h
 obtain⟨p,ys,rfl,h⟩:=h
 obtain⟨u,rfl,rx⟩:=vals1 r
 cases rx
 rcases h with⟨hq,q⟩|⟨hq,q⟩
 ·obtain⟨its,r',pl,hz⟩:=I.list hq
  have hlen:=r'.length
  refine call_tuple_list pl.isList (fun h' kp=>?_) (by simp only[List.size_toArray]<;>omega)
  have I1:Inv X pins σ H {s with heap:=h'}:=I.kept (t':=s.toks) kp
  have I2:Inv X pins σ (upd H h'.objs.size (.tup ys)) {s with heap:=h'.push {cls:=.type "tuple",data:=.seq its.toArray}} :=
   I1.laid (t':=s.toks) (fun b o e=>Heap.get?_push_of_some _ e) (Nat.le_refl _) (show ObjOk X.prog X.w _ _ _ (.tup ys)from⟨hz,its,r',IsTup.new _ _,_,Heap.get?_push_size _ rfl,rfl⟩)
  exact⟨.ref h'.objs.size,_,I2,rfl,q _ (I1.hok.fresh (Nat.le_refl _))⟩
 ·obtain⟨its,r',pl,hz⟩:=I.tuple hq
  exact call_tuple_same pl ⟨.ref p,H,I,rfl,q⟩
def tyV(K:PySem.W.Frag)(T:String)(x:V)(H:Hp):Prop:=match x with
 |.str _=>T="str"
 |.int _=>T="int"
 |.ref p=>(T="list"/\∃xs,SqL K H p xs)\/(T="tuple"/\∃o,K.lookup p=some o/\o.cls=.type "tuple"/\o.dict=none) \/
   (T="dict"/\((∃kvs,H p=some (.dK kvs))\/∃kvs,H p=some (.dT kvs)))\/(T="set"/\∃S n,H p=some (.set S n))
 |_=>False
theorem tyV_is{pins:List (Addr×Obj)}{σ:St}{H:Hp}{s:Shared}{T:String}{x:V}{v:Value}(I:Inv X pins σ H s)(r:RelV x v)(ty:tyV X.K T x H) :
  s.TypeIs v T/\∀a,v=.ref a->∃ob,s.heap.get? a=some ob/\ob.dict=none:=by
 cases x with
 |str z =>
  obtain⟨t,rfl⟩:=r
  cases(show T="str" from ty)
  exact⟨typeIs_str s z t,fun _ e=>nomatch e⟩
 |int i =>
  obtain⟨t,rfl⟩:=r
  cases(show T="int" from ty)
  exact⟨typeIs_int s i t,fun _ e=>nomatch e⟩
 |ref p =>
  cases r
  rcases ty with⟨rfl,xs,hq⟩|⟨rfl,o,hk,hc,hd⟩|⟨rfl,hk⟩|⟨rfl,S,n,hk⟩
  ·obtain⟨its,_,pl,_⟩:=I.list hq
   refine⟨pl.isList.typeIs,fun a e=>?_⟩
   cases e
   obtain⟨o,n,e,c,hd,_⟩:=pl
   exact⟨o,e,hd⟩
  ·refine⟨⟨o,I.kIn p o hk,hc⟩,fun a e=>?_⟩
   cases e
   exact⟨o,I.kIn _ o hk,hd⟩
  ·have z:∃o,s.heap.get? p=some o/\o.ExactDict:=by
    rcases hk with⟨kvs,hk⟩|⟨kvs,hk⟩
    ·obtain⟨_,_,_,_,o,_,_,e,ex,_⟩:=I.hok p _ hk
     exact⟨o,e,ex⟩
    ·obtain⟨_,_,_,_,o,_,_,e,ex,_⟩:=I.hok p _ hk
     exact⟨o,e,ex⟩
   obtain⟨o,e,ex⟩:=z
   refine⟨⟨o,e,ex.1⟩,fun a e2=>?_⟩
   cases e2
   exact⟨o,e,ex.2.1⟩
  ·obtain⟨o,_,_,_,e,ex,_⟩:=I.hok p _ hk
   refine⟨⟨o,e,ex.1⟩,fun a e2=>?_⟩
   cases e2
   exact⟨o,e,ex.2.1⟩
 |_=>exact False.elim ty
def tBM0(K:PySem.W.Frag)(T:String)(r:V->List V->Hp->VK->Prop)(to:TE):TE:=fun σ H Q=>to σ H fun x H1=>tyV K T x H1/\r x [] H1 Q
def tBM(K:PySem.W.Frag)(T:String)(r:V->List V->Hp->VK->Prop)(to:TE)(t:TA):TE:=fun σ H Q=>to σ H fun x H1=>tyV K T x H1/\t σ H1 fun xs H2=>r x xs H2 Q
variable {o e:Expr}{es:List Expr}{to:TE}{t:TA}{name:Str}{apos cpos:Pos}{T id:String}{r:V->List V->Hp->VK->Prop}
theorem pe_bm0(pa:PlainAttrs T)(slot:Slot T name id)(hty:typeOf (.builtin id)=pure (.type "method_descriptor"))(hm:MtR X id r)(ho:PE X o to)
  (hbase:attributeBase o name X.env (eval o X.env)=eval o X.env:=by rfl) (hline:(apos.endLine == cpos.line)=true:=by rfl):PE X (.Call (.Attribute o name apos) [] [] cpos) (tBM0 X.K T r to):=by
 intro pins s σ H Q I h
 refine wpAny_Call_method0_late hbase hline (thn (ho pins s σ H _ I h) fun v s1 ⟨x,H1,I1,r1,ty,q1⟩=>?_)
 obtain⟨h1,h2⟩:=tyV_is I1 r1 ty
 exact⟨T,id,pa,slot,hty,h1,h2,Calls.callWith_builtin rfl (PySem.evalArgs_none (hm pins s1 σ H1 x [] v [] Q I1 r1 .nil q1))⟩
theorem pe_bm(pa:PlainAttrs T)(slot:Slot T name id)(hty:typeOf (.builtin id)=pure (.type "method_descriptor"))(hm:MtR X id r)(ho:PE X o to)(ha:PA X (e::es) t)
  (hbase:attributeBase o name X.env (eval o X.env)=eval o X.env:=by rfl)
  (hfew:((backTo cpos (starEach (e::es) X.env)).all (fun x=>!x.1)&&(backToKw cpos (keywordEach [] X.env)).all (fun x=>x.1.isSome)
   && decide ((e::es).length+([]:List Keyword).length+(if([]:List Keyword).isEmpty then 0 else 1)<30))=true:=by rfl)
  (hline:(apos.endLine == cpos.line)=true:=by rfl) (hs:starEach (e::es) X.env=(false,eval e X.env)::starEach es X.env:=by rfl) (hplain:(backTo cpos (starEach es X.env)).any (·.1)=false:=by rfl) :
  PE X (.Call (.Attribute o name apos) (e::es) [] cpos) (tBM X.K T r to t):=by
 intro pins s σ H Q I h
 refine wpAny_Call_method_late hbase hfew hline rfl (thn (ho pins s σ H _ I h) fun v s1 ⟨x,H1,I1,r1,ty,q1⟩=>?_)
 obtain⟨h1,h2⟩:=tyV_is I1 r1 ty
 refine⟨T,id,pa,slot,hty,h1,h2,?_⟩
 have hA:=ha cpos pins s1 σ H1 _ I1 q1
 rw[hs]at hA⊢
 refine Calls.callWith_builtin (by show(false||(backTo cpos (starEach es X.env)).any (·.1))=false;rw[hplain]<;>rfl) (Calls.evalArgs_plain ?_)
 exact thn hA fun us s2 ⟨vs,H2,I2,r2,q2⟩=>hm pins s2 σ H2 x vs v us Q I2 r1 r2 q2
/- xs.append(e),list.index on a module's tuple .. are MtR facts of 06m -/
end
def MtM(X:Cx)(id:String)(r:V->List V->Hp->VK->Prop):Prop :=
 ∀(pins:List (Addr×Obj)) (s:Shared) (σ:St) (H:Hp) (x:V) (xs:List V) (v:Value) (us:List Value) (Q:VK),Inv X pins σ H s->RelV x v->Vals xs us->r x xs H Q ->
  wpAny (model X.prog X.w) X.A (call (.builtin id) (v::us)) (EP X pins σ Q) X.xe s
theorem Vals.one:∀{x:V}{us:List Value},Vals [x] us->∃u,us=[u]/\RelV x u
 |_,_,.cons r .nil=>⟨_,rfl,r⟩
theorem Vals.zero:∀{us:List Value},Vals [] us->us=[]
 |_,.nil=>rfl
theorem Vals.dropLast{xs:List V}{us:List Value}(h:Vals xs us):Vals xs.dropLast us.dropLast:=by
 induction h with
 |nil=>exact .nil
 |cons r t ih =>
  cases t with
  |nil=>exact .nil
  |cons q t'=>exact .cons r ih
theorem erase_last{α:Type}(l:List α):l.eraseIdx (l.length-1)=l.dropLast:=by
 induction l with
 |nil=>rfl
 |cons a r ih =>
  cases r with
  |nil=>rfl
  |cons b r =>
   have e:(a::b::r).length-1=((b::r).length-1)+1:=by
    have h1:(a::b::r).length=r.length+2:=rfl
    have h2:(b::r).length=r.length+1:=rfl
    omega
   rw[e,List.eraseIdx_cons_succ,ih]
   all_goals rfl
section
variable {X:Cx}{pins:List (Addr×Obj)}{σ:St}{H:Hp}{s:Shared}{l b:Addr}{xs ys zs:List V}
theorem Inv.lset{its its':List Value}{n:Nat}{f:Array Value->Array Value}{t':Nat}(I:Inv X pins σ H s)(hH:H l=some (.lst xs))
  (e:s.heap.get? l=some {cls:=.type "list",data:=.seq its.toArray n}) (hf:f its.toArray=its'.toArray) (hv:Vals ys its') (hz:ys.length<=sizeLine) :
  Inv X pins σ (upd H l (.lst ys)) {s with heap:=s.heap.update l (Obj.mapSeq f),toks:=t'}:=by
 have q:=PySem.IsL.update e f
 rw[hf]at q
 refine I.write (x:=l) (e:=l) (by rw[hH];exact trivial) (.inl rfl) (fun b' u hb hu=>(Heap.get?_update_other s.heap (Obj.mapSeq f) (Ne.symm hb)).trans hu) ⟨_,q⟩ ?_
 exact⟨hz,its',_,hv,q⟩
theorem Inv.lnew{its:List Value}{t':Nat}(I:Inv X pins σ H s)(hv:Vals ys its)(hz:ys.length<=sizeLine) :
  Inv X pins σ (upd H s.heap.objs.size (.lst ys)) {s with heap:=s.heap.push {cls:=.type "list",data:=.seq its.toArray},toks:=t'} :=
 I.laid (fun _ _ q=>Heap.get?_push_of_some _ q) (Nat.le_refl _) ⟨hz,its,0,hv,Heap.get?_push_size _ rfl⟩
theorem Inv.fresh(I:Inv X pins σ H s):H s.heap.objs.size=none:=I.hok.fresh (Nat.le_refl _)
theorem Inv.lstM(I:Inv X pins σ H s)(hH:H l=some (.lst xs)):xs.length<=sizeLine/\∃(its:List Value) (n:Nat),Vals xs its/\xs.length=its.length/\s.heap.get? l=some {cls:=.type "list",data:=.seq its.toArray n}:=by
 obtain⟨z,its,n,r,e⟩:=I.hok l _ hH
 exact⟨z,its,n,r,r.length,e⟩
theorem notLongL{n:Nat}(h:n<=sizeLine):Builtin.List.listTooLong n=false:=by
 unfold Builtin.List.listTooLong
 exact decide_eq_false (by omega)
end
section
variable {X:Cx}
def rAppend:V->List V->Hp->VK->Prop:=fun x vs H Q=>∃l xs y,x=.ref l/\vs=[y]/\H l=some (.lst xs)/\xs.length<sizeLine/\Q .non (upd H l (.lst (xs++[y])))
theorem mt_append:MtM X "list.append" rAppend:=by
 intro pins s σ H x vs v us Q I rx rv h
 obtain⟨l,xs,y,rfl,rfl,hH,hz,q⟩:=h
 cases rx
 obtain⟨u,rfl,ru⟩:=rv.one
 obtain⟨z,its,n,r,hl,e⟩:=I.lstM hH
 refine call_meets F.slot_list_append ⟨_,e,rfl⟩ F.entry_list_append (F.args_list_append_2 _ _) (PySem.list_append l its.toArray n u (by rw[List.size_toArray];omega)) ⟨e,?_⟩
 refine⟨.non,_,I.lset (its':=its++[u]) hH e (by simp) (r.append (.cons ru .nil)) ?_,rfl,q⟩
 rw[List.length_append,List.length_singleton]
 omega
def rExtend:V->List V->Hp->VK->Prop:=fun x vs H Q=>∃l b xs zs,x=.ref l/\vs=[.ref b]/\H l=some (.lst xs)/\H b=some (.lst zs)/\xs.length+zs.length<=sizeLine/\Q .non (upd H l (.lst (xs++zs)))
theorem mt_extend:MtM X "list.extend" rExtend:=by
 intro pins s σ H x vs v us Q I rx rv h
 obtain⟨l,b,xs,zs,rfl,rfl,hH,hB,hz,q⟩:=h
 cases rx
 obtain⟨u,rfl,ru⟩:=rv.one
 cases ru
 obtain⟨z,its,n,r,hl,e⟩:=I.lstM hH
 obtain⟨z2,its2,n2,r2,hl2,e2⟩:=I.lstM hB
 have hsz:its.toArray.size+its2.toArray.size<=sizeLine:=by rw[List.size_toArray,List.size_toArray];omega
 have hlong:¬(!its.toArray.isEmpty&&Builtin.List.listTooLong (its.toArray.size+its2.toArray.size))=true:=by
  rw[notLongL hsz,Bool.and_false]
  exact Bool.false_ne_true
 refine call_meets F.slot_list_extend ⟨_,e,rfl⟩ F.entry_list_extend (F.args_list_extend_2 _ _)
  (AutoSeq1.list_extend_list_list_0 l its.toArray n b its2.toArray n2 hlong (by rw[List.size_toArray];omega) (by omega)) ⟨e,e2,?_⟩
 refine⟨.non,_,I.lset (its':=its++its2) hH e (by simp) (r.append r2) ?_,rfl,q⟩
 rw[List.length_append]
 omega
def rPop:V->List V->Hp->VK->Prop:=fun x vs H Q=>∃l xs y,x=.ref l/\vs=[]/\H l=some (.lst xs)/\xs[xs.length-1]?=some y/\Q y (upd H l (.lst xs.dropLast))
theorem mt_pop:MtM X "list.pop" rPop:=by
 intro pins s σ H x vs v us Q I rx rv h
 obtain⟨l,xs,y,rfl,rfl,hH,hy,q⟩:=h
 cases rx
 have hus:=rv.zero
 subst hus
 obtain⟨z,its,n,r,hl,e⟩:=I.lstM hH
 obtain⟨u,hu,ru⟩:=r.get hy
 have hy':its.toArray[its.toArray.size-1]?=some u:=by
  show its.toArray[its.length-1]?=some u
  rw[←Array.getElem?_toList,←hl]
  exact hu
 refine call_meets F.slot_list_pop ⟨_,e,rfl⟩ F.entry_list_pop (F.args_list_pop_1 _) (MeetsSeq.list_pop_last l its.toArray n u hy' (by rw[List.size_toArray];omega)) ⟨e,?_⟩
 refine⟨y,_,I.lset (its':=its.dropLast) hH e ?_ r.dropLast ?_,ru,q⟩
 ·show its.toArray.eraseIdxIfInBounds (its.toArray.size-1)=its.dropLast.toArray
  rw[List.size_toArray,List.eraseIdxIfInBounds_toArray,erase_last]
 ·rw[List.length_dropLast]
  omega
def rCat:R2:=fun x y H Q=>∃l b xs zs,x=.ref l/\y=.ref b/\H l=some (.lst xs)/\H b=some (.lst zs)/\xs.length+zs.length<=sizeLine/\∀p,H p=none->Q (.ref p) (upd H p (.lst (xs++zs)))
theorem op_cat:OpR X (binaryOp .Add) rCat:=by
 intro pins s σ H x y v u Q I rx ry h
 obtain⟨l,b,xs,zs,rfl,rfl,hH,hB,hz,q⟩:=h
 cases rx
 cases ry
 obtain⟨z,its,n,r,hl,e⟩:=I.lstM hH
 obtain⟨z2,its2,n2,r2,hl2,e2⟩:=I.lstM hB
 refine PySem.P.add_list e e2 ?_ (by rw[List.size_toArray,List.size_toArray];omega)
 have ea:its.toArray++its2.toArray=(its++its2).toArray:=by simp
 rw[ea]
 exact⟨.ref _,_,I.lnew (t':=s.toks) (r.append r2) (by rw[List.length_append];omega),rfl,q _ I.fresh⟩
end
section
variable {prog:Program}{w:World}{A:Around}{E:Value->Shared->Prop}{s:Shared}
end
section
variable {X:Cx}
end
end L2
namespace Att
open PySem PySem.W PySem.Calls PyProof.Rows
theorem ints_of_wellAll{P:Params}{h:Heap}:∀(ns:List Int) (vs:List Value),WellAll P h vs (ns.map WData.int)->IntsAre vs ns:=by
 intro ns
 induction ns with
 |nil =>
  intro vs w
  rw[List.map_nil]at w
  cases w
  exact .nil
 |cons n ns ih =>
  intro vs w
  rw[List.map_cons]at w
  cases w with
  |cons a b =>
   cases a
   exact .cons _ _ (ih _ b)
theorem script_of{l:OpenLaw}{n:Nat}(hn:l.most=some n){P:Params}{h:Heap}{args:List WData}{vals:List Value}
  (hpre:l.row.toRowW.claim.pre args=true) (hwl:WellAll P h vals args) :
  ∃a vs ns,vals=[Value.ref a]/\args=[WData.list (ns.map WData.int)]/\h.get? a=some {cls:=.type "list",data:=.seq vs.toArray}/\IntsAre vs ns/\ns.length<=n:=by
 have hsh:WShape.hasAll [] args [.list .int]=true:=(pre_splitW hpre).1
 have hc:l.pre.holds [] {args:=args}=true:=(pre_splitW hpre).2
 obtain⟨d,r,rfl,h1,h2⟩:=hasAllW_cons hsh
 obtain rfl:=hasAllW_nil h2
 obtain⟨xs,rfl,h3⟩:=hasW_list h1
 obtain⟨ns,rfl⟩:=items_int h3
 have hlen:ns.length<=n:=by
  unfold OpenLaw.pre at hc
  have h4:(WTm.not (.lt (.lit (.int (n:Int))) (.len (.arg 0)))).holds [] {args:=[.list (ns.map .int)]}=true:=by
   have h4:=(holds_andW hc).1
   rw[hn]at h4
   exact h4
  have h5:=condW_of h4 (w_not (w_lt w_lit (w_len_list (w_arg rfl))))
  rw[List.length_map]at h5
  refine Nat.le_of_not_lt fun q=>?_
  have q':(n:Int)<((ns.length:Nat):Int):=by omega
  first
   |(rw[decide_eq_true q']at h5;exact absurd h5 (by decide))
   |(simp at h5;omega)
 cases hwl with
 |cons w1 w2 =>
  cases w2
  cases w1 with
  |list ho hall=>exact⟨_,_,ns,rfl,rfl,ho,ints_of_wellAll ns _ hall,hlen⟩
theorem post_true(l:OpenLaw)(args:List WData):l.row.toRowW.claim.post args (.bool true) args=true :=
 postW_of (r:=l.row.toRowW) (X:=(true == true))
  (show WShape.has [] (.bool true) .bool=true by first|rfl|decide|simp[WShape.has,WShape.arms,WShape.armsAll])
  (show(WTm.eq .res (.lit (.bool true))).value [] {args:=args,res:=some (.bool true),after:=args}=some (.bool (true == true))from w_eq_bool (w_res rfl) w_lit) rfl
theorem attach_call{l:OpenLaw}{n:Nat}{q:Program}{loose:List Str}{XP:(Str->Option Value)->Heap->Prop}{YP:World->Heap->Prop}{d:DefRec}
  (hn:l.most=some n) (hdf:d.params.defaults=[])
  (call:∀(w:World) (s₀ s₁:Shared) (mg mb:Str->Option Value) (fa:Addr) (o:Obj) (pm cd doc:Value) (a:Addr) (vs:List Value) (ns:List Int),
   Ground q loose [] XP w s₀ mg mb s₁.heap->YP w s₁.heap ->
   s₁.heap.get? fa=some o->o.data=.func (docDef d.name d.params d.body d.scope pm cd doc)->s₁.heap.CodeRec cd d.name->mg d.name=some (.ref fa) ->
   s₁.heap.get? a=some {cls:=.type "list",data:=.seq vs.toArray}->IntsAre vs ns->ns.length<=n->s₁.gens=#[] ->
   codeAny (model l.prog w) callerA (.call (.ref fa) ⟨[.ref a],[]⟩) (fun r s'=>r=.ok (.ret (.bool true))/\OldK s₁.heap s'.heap/\s'.os=s₁.os/\AllBare s'.gens) s₁) :
  WalkO q loose XP YP l.row.toRowW d [] (fun f vs=>PySem.call f vs):=by
 intro w s₀ s₁ mg mb G Y fa o pm cd doc dV kV ho hd hcd hD hmg hg args vals as hpre hlay hrd hwl hlo
 obtain rfl:dV=.none:=Dflts.none hD hdf
 obtain rfl:kV=.none:=Dflts.noKw hD
 obtain⟨a,vs,ns,rfl,rfl,hobj,hints,hlen⟩:=script_of hn hpre hwl
 refine enter_call (codeAny_mono (call w s₀ s₁ mg mb fa o pm cd doc a vs ns G Y ho (fd_plain hd) hcd hmg hobj hints hlen hg) fun r s' hq=>?_)
 obtain⟨rfl,h2,h3,h4⟩:=hq
 exact⟨.inl ⟨.bool true,.bool true,[],rfl,fun _=>rfl,.bool true,post_true l _,fun _=>⟨List.Pairwise.nil,fun _ hm=>(nomatch hm)⟩⟩,h2,h3,h4⟩
section
variable {prog:Program}{w:World}{A:Around}{E:Value->Shared->Prop}{s:Shared}{K:Frag}
end
end Att
namespace L2
open PySem PySem.Spec PyProof.Rows
theorem vals_ints:∀{vs:List Value}{ns:List Int},IntsAre vs ns->Vals (ns.map V.int) vs
 |_,_,.nil=>.nil
 |_,_,.cons n t h=>.cons ⟨t,rfl⟩ (vals_ints h)
def Only(H:Hp):Prop:=∀b,H b=none\/∃o xs,H b=some (.frz o (.lst xs))
theorem law_call{P:Program}{w:World}{K:PySem.W.Frag}{mg mb:Str->Option Value}{CX:CXT}{k:Nat}{fa a:Addr}{fd:FuncData}{x:Str}{sp:Sp}{s₁:Shared}{vs:List Value}{ns:List Int}
  (KX:K.In s₁.heap) (hns:s₁.heap.Ns mainGlobals mg) (hb:s₁.heap.Ns builtinsNs mb) (hbb:∀x:Str,x≠"__name__"->mb x=bootBuiltins x) (hlim:s₁.heap.NoLimit) (hg:s₁.gens=#[])
  (ha:s₁.heap.get? a=some {cls:=.type "list",data:=.seq vs.toArray}) (hi:IntsAre vs ns) (hl:ns.length<=sizeLine) (hr:Room k callerA)
  (F:∀base:Heap,K.In base->base.Ns mainGlobals mg->FnOk P w K mg base CX k fa fd [x] sp) (hbind:∀(s:Shared) (u:Value),BindsTo s fd ⟨[u],[]⟩ [(x,u)])
  (hsp:∀H:Hp,Only H->SqL K H a (ns.map V.int)->sp [.ref a] H (fun v _=>v=.bl true) fun _ _ _=>False)
  (hCX:∀H e s',CX [] H s₁ (fun _ _ _=>False) e s'->False) :
  codeAny (model P w) callerA (.call (.ref fa) ⟨[.ref a],[]⟩) (fun r s'=>r=.ok (.ret (.bool true))/\OldK s₁.heap s'.heap/\s'.os=s₁.os/\AllBare s'.gens) s₁:=by
 have rv:=vals_ints hi
 have lenV:=hi.length
 -- from an abstract heap in which nothing but the script may be tracked
 have core:∀H:Hp,Only H->SqL K H a (ns.map V.int)->HOk P w H s₁.heap->(∀b,H b≠none->b=a)->(H a≠none->K.lookup a=none) ->
   codeAny (model P w) callerA (.call (.ref fa) ⟨[.ref a],[]⟩) (fun r s'=>r=.ok (.ret (.bool true))/\OldK s₁.heap s'.heap/\s'.os=s₁.os/\AllBare s'.gens) s₁:=by
  intro H hO hS hok hA hK
  have base_of:∀{b:Addr}{o:Obj},s₁.heap.get? b=some o->H b=none->(hidT s₁.heap H).get? b=some o:=fun e n=>hidT_get e n
  have noA:∀{b:Addr}{o:Obj}{es:Array DictEntry}{ep:Nat},s₁.heap.get? b=some o->o.data=.dict es ep->H b=none:=fun{b o es ep} e d=>by
   cases q:H b with
   |none=>rfl
   |some u =>
    have e':b=a:=hA b (by rw[q];simp)
    subst e'
    rw[ha]at e;cases e
    have d':Data.seq vs.toArray _=Data.dict es ep:=d
    cases d'
  have nsK:∀{b:Addr}{m:Str->Option Value},s₁.heap.Ns b m->(hidT s₁.heap H).Ns b m:=fun{b m} ⟨o,es,ep,e,d,r⟩=>⟨o,es,ep,base_of e (noA e d),d,r⟩
  have hKb:K.In (hidT s₁.heap H):=fun b o e=>base_of (KX b o e) (by
   cases q:H b with
   |none=>rfl
   |some u =>
    have e':b=a:=hA b (by rw[q];simp)
    subst e'
    rw[hK (by rw[q];simp)]at e;cases e)
  have hM:Mod K mg (hidT s₁.heap H):=⟨hKb,nsK hns,⟨mb,nsK hb,hbb⟩,let⟨mc,h1,h2⟩:=hlim;⟨mc,nsK h1,h2⟩⟩
  have e0:Env0 P w K mg (hidT s₁.heap H) callerA [] s₁ H:=⟨rfl,hM,fun b o e=>of_hidT e,Nat.le_of_eq (hidT_size _ _),trivial,fun b hb=>absurd (show b∈([]:List Addr)from hb) (by simp),hok,.of_eq hg⟩
  refine codeAny_mono ((F _ hKb (nsK hns)).run callerA [] s₁ H ⟨[.ref a],[]⟩ [.ref a] [.ref a] _ _ hr e0 (hbind s₁ (.ref a)) (.cons rfl .nil) (hsp H hO hS)) fun r s' h=>?_
  cases r with
  |error e=>exact(hCX H e s' h).elim
  |ok fl =>
   cases fl with
   |next=>exact False.elim h
   |brk=>exact False.elim h
   |cont=>exact False.elim h
   |ret u =>
    obtain⟨v,H',os,bare,un,hok',r',q⟩:=h
    have q':v=.bl true:=q
    subst q'
    obtain rfl:u=Value.bool true:=r'
    refine⟨rfl,OldK.of_keep fun b o e=>?_,os,bare⟩
    cases q:H b with
    |none=>exact un.keep b o e q (by intro z;exact absurd (show b∈([]:List Addr)from z) (by simp)) (by simp)
    |some u =>
     rcases hO b with z|⟨ob,xs,z⟩
     ·rw[q]at z;cases z
     ·have z2:=un.frzs b ob _ z
      obtain⟨e1,_⟩:=hok b _ z
      obtain⟨e2,_⟩:=hok' b _ z2
      rw[e]at e1;cases e1
      exact e2
 cases hk:K.lookup a with
 |some o =>
  -- the script is one of the module's own objects
  have e:=KX a o hk
  rw[ha]at e
  cases e
  refine core (fun _=>none) (fun _=>.inl rfl) (.inr ⟨_,vs.toArray,_,hk,rfl,rfl,rfl,by rw[List.size_toArray,lenV];exact hl,by simpa using rv⟩) (fun b u z=>by have z':(none:Option HO)=some u:=z;cases z') (fun b z=>absurd rfl z) fun z=>absurd rfl z
 |none =>
  refine core (fun b=>if b=a then some (.frz {cls:=.type "list",data:=.seq vs.toArray} (.lst (ns.map V.int)))else none) (fun b=>?_) (.inl (.inr ⟨{cls:=.type "list",data:=.seq vs.toArray},if_pos rfl⟩)) (fun b u z=>?_) (fun b z=>?_) fun _=>hk
  ·by_cases hb:b=a
   ·exact .inr ⟨_,_,if_pos hb⟩
   ·exact .inl (if_neg hb)
  ·by_cases hb:b=a
   ·have z':=(if_pos hb).symm.trans z
    cases z'
    subst hb
    exact⟨ha,by rw[List.length_map];exact hl,vs,_,rv,ha⟩
   ·have z':=(if_neg hb).symm.trans z
    cases z'
  ·by_cases hb:b=a
   ·exact hb
   ·exact absurd (if_neg hb) z
theorem walk_of{l:PySem.W.OpenLaw}{n k:Nat}{q:Program}{loose:List Str}{XP:(Str->Option Value)->Heap->Prop}{YP:World->Heap->Prop}{d:DefRec}{K:Params->PySem.W.Frag}{CX:World->CXT}{sp:World->Sp}{x:Str}
  (hn:l.most=some n) (hn2:n<=sizeLine) (hdf:d.params.defaults=[]) (hr:Room k callerA)
  (hY:∀(w:World) (h:Heap),YP w h->(K w.params).In h)
  (F:∀(w:World) (mg:Str->Option Value) (fa:Addr) (h:Heap),(K w.params).In h->h.Ns mainGlobals mg->mg d.name=some (.ref fa) ->
   ∃fd:FuncData,(∀(s:Shared) (u:Value),BindsTo s fd ⟨[u],[]⟩ [(x,u)]) /\
    ∀base:Heap,(K w.params).In base->base.Ns mainGlobals mg->FnOk l.prog w (K w.params) mg base (CX w) k fa fd [x] (sp w))
  (hsp:∀(w:World) (H:Hp) (a:Addr) (ns:List Int),ns.length<=n->Only H->SqL (K w.params) H a (ns.map V.int)->sp w [.ref a] H (fun v _=>v=.bl true) fun _ _ _=>False)
  (hCX:∀(w:World) (H:Hp) (s:Shared) (e:Value) (s':Shared),CX w [] H s (fun _ _ _=>False) e s'->False) :
  PySem.W.WalkO q loose XP YP l.row.toRowW d [] (fun f vs=>PySem.call f vs):=by
 refine Att.attach_call hn hdf fun w s₀ s₁ mg mb fa o pm cd doc a vs ns G Y ho hd hcd hmg hobj hints hlen hg=>?_
 have KX:=hY w _ Y
 obtain⟨fd,hb,hF⟩:=F w mg fa _ KX G.T.g hmg
 exact law_call KX G.T.g G.T.b G.T.builtins G.T.nolimit hg hobj hints (Nat.le_trans hlen hn2) hr hF hb (fun H hO hS=>hsp w H a ns hlen hO hS) fun H e s'=>hCX w H s₁ e s'
def defArgs(s:Stmt):Arguments:=match s with
 |.FunctionDef _ a _ _ _ _ _ _ _ _=>a
 |_=>{posonlyargs:=[],args:=[],vararg:=none,kwonlyargs:=[],kw_defaults:=[],kwarg:=none,defaults:=[]}
def defBody(s:Stmt):List Stmt:=match s with
 |.FunctionDef _ _ b _ _ _ _ _ _ _=>b
 |_=>[]
def defScope(s:Stmt):Scope:=match s with
 |.FunctionDef _ _ _ _ _ _ sc _ _ _=>sc
 |_=>{kind:=.function,names:=[],isGenerator:=false,isCoroutine:=false}
abbrev CX0:CXT:=fun _ _ _ _ _ _=>False
abbrev E0:XK:=fun _ _ _=>False
theorem pass0{X:Cx}:Passes CX0 X E0:=fun _ _ _ _ _ _ _ h=>h.elim
structure Fun(K:PySem.W.Frag) (x qual:Str) (st:Stmt) (f:Addr) (fd:FuncData):Prop where
 ex:∃(oc:Value) (od:Option Addr) (kV doc pm:Value) (an:Option Addr) (cdv ct:Value) (osl:Array (Option Value)),
  fd=PySem.W.fnOf x qual (defArgs st) (defBody st) (defScope st) .none kV doc pm an cdv ct/\K.lookup f=some ⟨oc,od,.func fd,osl⟩/\PySem.W.codeIn K cdv qual=true
 kp:PySem.W.keepIn K (.ref f)=true
section
variable {P:Program}{w:World}{K:PySem.W.Frag}{mg:Str->Option Value}{base:Heap}
theorem Fun.ok{x qual:Str}{st:Stmt}{f:Addr}{fd:FuncData}{N ps:List Str}{k:Nat}{sp:Sp}(F:Fun K x qual st f fd)(S:FnScope N ps (defScope st))(len:∀vs H Q E,sp vs H Q E->vs.length=ps.length)
  (hbody:∀(cdv:Value) (A:Around) (outer:List Env) (s:Shared) (H:Hp) (vs:List V) (Q:VK) (E:XK),Room k (A.deeper (envOfC qual (defScope st) s.heap.objs.size f cdv))->sp vs H Q E ->
   ∃t,PSs (cxOf CX0 P w K mg base N qual (defScope st) f cdv A outer s H E).nox (defBody st) t/\t {nx:=fun _ H'=>Q .non H',rt:=Q} (start N vs) H):FnOk P w K mg base CX0 (k+1) f fd ps sp:=by
 obtain⟨oc,od,kV,doc,pm,an,cdv,ct,osl,rfl,lk,hcd⟩:=F.ex
 refine fn_of lk hcd S len fun A outer s H vs Q E hr hsp=>?_
 obtain⟨t,h,q⟩:=hbody cdv A outer s H vs Q E hr hsp
 exact⟨t,h.nox,q⟩
theorem Fun.binds{x qual:Str}{st:Stmt}{f:Addr}{fd:FuncData}{ps:List Str}(F:Fun K x qual st f fd)
  (h:∀(kV doc pm:Value) (an:Option Addr) (cdv ct:Value) (us:List Value),us.length=ps.length->bindArgs (PySem.W.fnOf x qual (defArgs st) (defBody st) (defScope st) .none kV doc pm an cdv ct) ⟨us,[]⟩=pure (ps.zip us)):Binds K fd ps []:=by
 obtain⟨oc,od,kV,doc,pm,an,cdv,ct,osl,rfl,lk,hcd⟩:=F.ex
 exact .all (h kV doc pm an cdv ct)
end
theorem hu_of{A:Around}{k:Nat}(hr:Room k A):A.units+1<cLine:=Nat.lt_of_le_of_lt (Nat.add_le_add_left (by decide:1<=64) _) hr.units
theorem small1000{n:Nat}(h:n<=1000):n<sizeLine:=Nat.lt_of_le_of_lt h (by decide)
section
variable {X:Cx}
theorem pv(i:Nat){x:Str}{pos:Pos}(hN:X.N[i]?=some x:=by rfl)(hv:Vis X.env.scope x:=by first|exact Or.inl rfl|exact Or.inr (Or.inl rfl)|exact Or.inr (Or.inr rfl))(hd:(x == ("__debug__":Str))=false:=by decide)
  (hcd:(x == ("__classdict__":Str))=false:=by decide):PE X (.Name x pos) (tVar i):=pe_var hN hv hd hcd
end
theorem ite2{c A B:Prop}[Decidable c](h1:c->A)(h2:¬c->B):if c then A else B:=by
 by_cases h:c
 ·rw[if_pos h]
  exact h1 h
 ·rw[if_neg h]
  exact h2 h
def Same(H H':Hp):Prop:=∀b o,H b=some o->H' b=some o
theorem Same.refl(H:Hp):Same H H:=fun _ _ h=>h
theorem Same.trans{H H1 H2:Hp}(a:Same H H1)(b:Same H1 H2):Same H H2:=fun c o h=>b c o (a c o h)
theorem Same.free{H H':Hp}(e:Same H H'){l:Addr}(h:H' l=Option.none):H l=Option.none:=by
 cases q:H l with
 |none=>rfl
 |some o =>
  rw[e l o q]at h
  cases h
theorem Same.seq{K:PySem.W.Frag}{H H':Hp}{a:Addr}{xs:List V}(e:Same H H')(h:SqL K H a xs):SqL K H' a xs:=by
 rcases h with(h|⟨o,h⟩)|h
 ·exact .inl (.inl (e _ _ h))
 ·exact .inl (.inr ⟨o,e _ _ h⟩)
 ·exact .inr h
section
variable {κ:Type} [DecidableEq κ]
def valV(kvs:List (κ×V))(k:κ):Option V:=(kvs.find? fun kv=>decide (kv.1=k)).map (·.2)
def putK(kvs:List (κ×V))(k:κ)(v:V):List (κ×V) :=
 if(kvs.any fun kv=>decide (kv.1=k))=true then kvs.map (fun kv=>if kv.1=k then(kv.1,v)else kv)else kvs++[(k,v)]
theorem valV_pos{p:κ×V}{r:List (κ×V)}{k:κ}(e:p.1=k):valV (p::r) k=some p.2:=by simp[valV,List.find?_cons,e]
theorem valV_neg{p:κ×V}{r:List (κ×V)}{k:κ}(e:¬p.1=k):valV (p::r) k=valV r k:=by simp[valV,List.find?_cons,e]
theorem length_putK(kvs:List (κ×V))(k:κ)(v:V):(putK kvs k v).length<=kvs.length+1:=by
 unfold putK
 split
 ·rw[List.length_map];omega
 ·rw[List.length_append,List.length_cons,List.length_nil];omega
theorem KV.val{kvs:List (κ×V)}{vs:List (κ×Value)}(r:KV kvs vs)(k:κ):RelO (valV kvs k) (valueAt vs k):=by
 unfold KV at r
 induction r with
 |nil=>exact True.intro
 |@cons p q ps qs h t ih =>
  obtain⟨h1,h2⟩:=h
  by_cases e:p.1=k
  ·have e':q.1=k:=h1.symm.trans e
   have b:valueAt (q::qs) k=some q.2:=by simp[valueAt,List.find?_cons,e']
   rw[valV_pos e,b];exact h2
  ·have e':¬q.1=k:=fun z=>e (h1.trans z)
   have b:valueAt (q::qs) k=valueAt qs k:=by simp[valueAt,List.find?_cons,e']
   rw[valV_neg e,b];exact ih
theorem KV.any{kvs:List (κ×V)}{vs:List (κ×Value)}(r:KV kvs vs)(k:κ):(kvs.any fun kv=>decide (kv.1=k))=vs.any fun kv=>decide (kv.1=k):=by
 unfold KV at r
 induction r with
 |nil=>rfl
 |cons h t ih=>rw[List.any_cons,List.any_cons,ih,h.1]
theorem KV.repl{kvs:List (κ×V)}{vs:List (κ×Value)}(r:KV kvs vs)(k:κ){y:V}{u:Value}(ry:RelV y u) :
  KV (kvs.map fun kv=>if kv.1=k then(kv.1,y)else kv) (vs.map fun kv=>if kv.1=k then(kv.1,u)else kv):=by
 unfold KV at r⊢
 induction r with
 |nil=>exact .nil
 |@cons p q ps qs h t ih =>
  rw[List.map_cons,List.map_cons]
  refine .cons ?_ ih
  obtain⟨h1,h2⟩:=h
  by_cases e:p.1=k
  ·rw[if_pos e,if_pos (h1.symm.trans e)];exact⟨h1,ry⟩
  ·rw[if_neg e,if_neg (fun z=>e (h1.trans z))];exact⟨h1,h2⟩
theorem KV.put{kvs:List (κ×V)}{vs:List (κ×Value)}(r:KV kvs vs)(k:κ){y:V}{u:Value}(ry:RelV y u):KV (putK kvs k y) (stored vs k u):=by
 unfold putK stored
 rw[r.any k]
 by_cases e:(vs.any fun kv=>decide (kv.1=k))=true
 ·rw[if_pos e,if_pos e];exact r.repl k ry
 ·rw[if_neg e,if_neg e];exact Paired.snoc r ⟨rfl,ry⟩
theorem KV.length{kvs:List (κ×V)}{vs:List (κ×Value)}(r:KV kvs vs):kvs.length=vs.length:=Paired.length r
end
theorem kV_is{P:Program}{w:World}{k:Key}{u:Value}(r:RelV (kV k) u):(mixKind P w).is k u=true:=by
 cases k with
 |inl i=>obtain⟨t,e⟩:=(show ∃t,u=Value.int i t from r);subst e;exact mixKind_int P w i t
 |inr x=>obtain⟨t,e⟩:=(show ∃t,u=Value.str x t from r);subst e;exact mixKind_str P w x t
theorem items_are{P:Program}{w:World}:∀{ks:List Key}{us:List Value},Vals (ks.map kV) us->ItemsAre (mixKind P w) ks us
 | [],_,r=>by rw[List.map_nil]at r;cases r;exact .nil
 |k::ks,_,r=>by
  rw[List.map_cons]at r
  cases r with
  |cons h t=>exact .cons (kV_is h) (items_are t)
abbrev KT(H:Hp):List (List Key×V)->List (List Key×Addr×Value)->Prop:=Paired fun p q=>p.1=q.1/\H q.2.1=some (.tup (p.1.map kV))/\RelV p.2 q.2.2
theorem KT.val{H:Hp}{kvs:List (List Key×V)}{xs:List (List Key×Addr×Value)}(r:KT H kvs xs)(k:List Key):RelO (valV kvs k) ((atKey xs k).map (·.2)):=by
 induction r with
 |nil=>exact True.intro
 |@cons p q ps qs h t ih =>
  obtain⟨h1,_,h2⟩:=h
  by_cases e:p.1=k
  ·have e':q.1=k:=h1.symm.trans e
   have b:atKey (q::qs) k=some q.2:=by simp[atKey,List.find?_cons,e']
   rw[valV_pos e,b];exact h2
  ·have e':¬q.1=k:=fun z=>e (h1.trans z)
   have b:atKey (q::qs) k=atKey qs k:=by simp[atKey,List.find?_cons,e']
   rw[valV_neg e,b];exact ih
theorem KT.repl{H:Hp}{kvs:List (List Key×V)}{xs:List (List Key×Addr×Value)}(r:KT H kvs xs)(k:List Key){y:V}{u:Value}(ry:RelV y u) :
  KT H (kvs.map fun kv=>if kv.1=k then(kv.1,y)else kv) (xs.map (putAt k u)):=by
 induction r with
 |nil=>exact .nil
 |@cons p q ps qs h t ih =>
  rw[List.map_cons,List.map_cons]
  refine .cons ?_ ih
  obtain⟨h1,h2,h3⟩:=h
  unfold putAt
  by_cases e:p.1=k
  ·rw[if_pos e,if_pos (h1.symm.trans e)];exact⟨h1,h2,ry⟩
  ·rw[if_neg e,if_neg (fun z=>e (h1.trans z))];exact⟨h1,h2,h3⟩
section
variable {P:Program}{w:World}{H:Hp}{h:Heap}{a:Addr}
theorem rd_of{u:HO}(ok:HOk P w H h)(e:Rd H a u):ObjOk P w H h a u:=e.ok ok
theorem dk_rd{kvs:List (Key×V)}(ok:HOk P w H h)(e:Rd H a (.dK kvs)):kvs.length<=sizeLine/\(a == sysModules)=false/\∃vs,KV kvs vs/\h.DictOf (mixKind P w) a vs :=
 show ObjOk P w H h a (.dK kvs)from rd_of ok e
theorem dk_of{kvs:List (Key×V)}(ok:HOk P w H h)(e:H a=some (.dK kvs)):kvs.length<=sizeLine/\(a == sysModules)=false/\∃vs,KV kvs vs/\h.DictOf (mixKind P w) a vs:=dk_rd ok (.inl e)
theorem key_of{ks:List Key}(ok:HOk P w H h)(e:H a=some (.tup (ks.map kV))):(tupleKind (mixKind P w)).is h ks a:=by
 obtain⟨_,its,r,⟨o,h1,h2,n,h3⟩,_⟩:=(show ObjOk P w H h a (.tup (ks.map kV))from ok a _ e)
 exact⟨o,its.toArray,n,h1,h2,h3,by simpa using items_are r⟩
theorem dt_rd{kvs:List (List Key×V)}(ok:HOk P w H h)(e:Rd H a (.dT kvs)):kvs.length<=sizeLine/\(a == sysModules)=false /\
  ∃xs,KT H kvs xs/\h.DictOfH (tupleKind (mixKind P w)) a xs:=by
 obtain⟨z,y,xs,r,o,es,ep,h1,h2,h3,h4,h5⟩:=(show ObjOk P w H h a (.dT kvs)from rd_of ok e)
 refine⟨z,y,xs,r,o,es,ep,h1,h2,h3,h4,fun x hx=>?_,h5⟩
 have all:∀{l:List (List Key×V)}{m:List (List Key×Addr×Value)},KT H l m->∀x∈m,(tupleKind (mixKind P w)).is h x.1 x.2.1:=by
  intro l m q
  induction q with
  |nil=>intro x hx;exact nomatch hx
  |@cons p q ps qs hq t ih =>
   intro x hx
   rcases List.mem_cons.mp hx with e|hx
   ·subst e
    exact key_of ok (by rw[←hq.1];exact hq.2.1)
   ·exact ih x hx
 exact all r x hx
end
def DGet(H:Hp)(a:Addr)(y:V)(r:Option V):Prop :=
 (∃kvs k,Rd H a (.dK kvs)/\y=kV k/\r=valV kvs k)\/∃kvs k b,Rd H a (.dT kvs)/\y=.ref b/\H b=some (.tup (k.map kV))/\r=valV kvs k
def DPut(H:Hp)(a:Addr)(y v:V)(H':Hp):Prop :=
 (∃kvs k,H a=some (.dK kvs)/\y=kV k/\kvs.length<sizeLine/\H'=upd H a (.dK (putK kvs k v))) \/
 ∃kvs k b,H a=some (.dT kvs)/\y=.ref b/\H b=some (.tup (k.map kV))/\kvs.length<sizeLine/\H'=upd H a (.dT (putK kvs k v))
theorem DGet.k{H:Hp}{a:Addr}{kvs:List (Key×V)}{k:Key}(e:H a=some (.dK kvs)):DGet H a (kV k) (valV kvs k):=.inl ⟨kvs,k,.inl e,rfl,rfl⟩
theorem DGet.t{H:Hp}{a b:Addr}{kvs:List (List Key×V)}{k:List Key}(e:H a=some (.dT kvs))(eb:H b=some (.tup (k.map kV))):DGet H a (.ref b) (valV kvs k):=.inr ⟨kvs,k,b,.inl e,rfl,eb,rfl⟩
theorem DPut.k{H:Hp}{a:Addr}{kvs:List (Key×V)}{k:Key}{v:V}(e:H a=some (.dK kvs))(hl:kvs.length<sizeLine):DPut H a (kV k) v (upd H a (.dK (putK kvs k v))):=.inl ⟨kvs,k,e,rfl,hl,rfl⟩
theorem DPut.t{H:Hp}{a b:Addr}{kvs:List (List Key×V)}{k:List Key}{v:V}(e:H a=some (.dT kvs))(eb:H b=some (.tup (k.map kV)))(hl:kvs.length<sizeLine) :
  DPut H a (.ref b) v (upd H a (.dT (putK kvs k v))):=.inr ⟨kvs,k,b,e,rfl,eb,hl,rfl⟩
section
variable {X:Cx}{pins:List (Addr×Obj)}{σ:St}{H:Hp}{s:Shared}{a:Addr}{y v:V}{u r:Value}{o:Option V}{A:Around}{E:Value->Shared->Prop}
theorem Inv.big(I:Inv X pins σ H s):sysModules<s.heap.objs.size:=by
 have h:mainGlobals<s.heap.objs.size:=(I.mod.glob.keeps I.bk).lt
 exact Nat.lt_trans (by decide) h
theorem d_getItem{Q:Value->Shared->Prop}(hu:A.units+1<cLine)(I:Inv X pins σ H s)(g:DGet H a y (some v))(ry:RelV y u)(h:∀w' s',Inv X pins σ H s'->RelV v w'->Q w' s') :
  wpAny (model X.prog X.w) A (getItem (.ref a) u) Q E s:=by
 rcases g with⟨kvs,k,e,ey,l⟩|⟨kvs,k,b,e,ey,eb,l⟩
 ·subst ey
  obtain⟨z,hd,vs,rel,dd⟩:=dk_rd I.hok e
  obtain⟨w',hw,rw'⟩:=RelO.some_of (v:=v) (o:=valueAt vs k) (by rw[l];exact rel.val k)
  exact wpAny_getItem_of (kV_is ry) dd.mapOf hw (h w' _ (I.tok _) rw')
 ·subst ey
  cases(show u=Value.ref b from ry)
  obtain⟨z,hd,xs,rel,dd⟩:=dt_rd I.hok e
  obtain⟨w',hw,rw'⟩:=RelO.some_of (v:=v) (o:=(atKey xs k).map (·.2)) (by rw[l];exact rel.val k)
  obtain⟨p,hp,hp2⟩:=Option.map_eq_some_iff.mp hw
  refine wpAny_getItem_heap (tupleKind_room_in1 hu) (key_of I.hok eb) dd hp ?_
  rw[hp2]
  exact h w' _ (I.tok _) rw'
theorem d_write{h':Heap}{t':Nat}{ob:HO}(I:Inv X pins σ H s)(mu:Mut (H a))(hs:Heap.SameBut a s.heap h')(he:∃q,h'.get? a=some q)(new:ObjOk X.prog X.w (upd H a ob) h' a ob) :
  Inv X pins σ (upd H a ob) {s with heap:=h',toks:=t'} :=
 I.write (x:=a) (e:=a) mu (.inl rfl) (fun b q hb z=>(hs.2 b hb).trans z) he new
theorem dk_new{P:Program}{w:World}{H':Hp}{h':Heap}{kvs:List (Key×V)}{vs:List (Key×Value)}(z:kvs.length<=sizeLine)(hd:(a == sysModules)=false)(rel:KV kvs vs)(dd:h'.DictOf (mixKind P w) a vs) :
  ObjOk P w H' h' a (.dK kvs):=⟨z,hd,vs,rel,dd⟩
end
section
variable {X:Cx}{pins:List (Addr×Obj)}{σ:St}{H:Hp}{s:Shared}{a:Addr}{kvs:List (Key×V)}{k:Key}{u:Value}{A:Around}{E:Value->Shared->Prop}
end
def NoSl(i:Expr):Prop:=∀ov iv,subscripted i false ov iv=operate [ov,iv] (getItem ov iv)
theorem subD_of{prog:Program}{w:World}{A:Around}{E:Value->Shared->Prop}{s:Shared}{env:Env}{value slice:Expr}{pos:Pos}{T id:String}{Q:Value->Shared->Prop}
  (hl:typeLookup (.type T) "__getitem__"=pure (some (.builtin id))) (hs:NoSl slice)
  (h:wpAny (model prog w) A (eval value env) (fun o s₁=>wpAny (model prog w) A (eval slice env) (fun i s₂=>s₂.TypeIs o T/\wpAny (model prog w) A (getItem o i) Q E s₂) E s₁) E s) :
  wpAny (model prog w) A (eval (.Subscript value slice pos) env) Q E s:=by
 refine Subscript_ (wpAny_mono h (fun o s₁ h₁=>wpAny_mono h₁ (fun i s₂ h₂=>?_) fun _ _ x=>x) fun _ _ x=>x)
 obtain⟨hT,h₂⟩:=h₂
 unfold subscriptTail
 refine wpAny_bind ?_
 rw[getitemInPython_of_ne hT.not_modules]
 refine wpAny_bind (wpAny_specialOf hT hl ?_)
 have fin:wpAny (model prog w) A (subscripted slice false o i) (fun r s₃=>wpAny (model prog w) A (letTemporaryGo value o r>>=fun _=>pure r) Q E s₃) E s₂:=by
  rw[hs o i]
  exact wpAny_operating (wpAny_mono h₂ (fun r s₃ h₃=>wpAny_bind (wpAny_letTemporaryGo (wpAny_pure h₃))) fun _ _ x=>x)
 first
  |exact wpAny_pure (wpAny_bind fin)
  |exact wpAny_bind (wpAny_pure (wpAny_bind fin))
  |exact wpAny_bind fin
theorem dict_typeIs{X:Cx}{pins:List (Addr×Obj)}{σ:St}{H:Hp}{s:Shared}{a:Addr}{y:V}{o:Option V}(I:Inv X pins σ H s)(g:DGet H a y o):s.TypeIs (.ref a) "dict":=by
 rcases g with⟨kvs,k,e,_,_⟩|⟨kvs,k,b,e,_,_,_⟩
 ·obtain⟨_,_,vs,_,dd⟩:=dk_rd I.hok e
  exact dd.typeIs
 ·obtain⟨_,_,xs,_,dd⟩:=dt_rd I.hok e
  exact dd.typeIs
def tDGet(td ty:TE):TE:=fun σ H Q=>td σ H fun x H1=>ty σ H1 fun y H2=>∃a v,x=.ref a/\DGet H2 a y (some v)/\Q v H2
section
variable {X:Cx}{o i e value:Expr}{pos pos' tpos:Pos}{td ty tv:TE}
theorem pe_dget(hu:X.A.units+1<cLine)(ho:PE X o td)(hi:PE X i ty)(hs:NoSl i):PE X (.Subscript o i pos) (tDGet td ty):=by
 intro pins s σ H Q I h
 refine subD_of PySem.F.slot_dict_getitem.lookup hs (thn (ho pins s σ H _ I h) fun u s1 ⟨x,H1,I1,rx,q1⟩=>thn (hi pins s1 σ H1 _ I1 q1) fun iv s2 ⟨y,H2,I2,ry,a,v,ex,g,q2⟩=>?_)
 subst ex
 obtain rfl:u=Value.ref a:=rx
 exact⟨dict_typeIs I2 g,d_getItem hu I2 g ry fun w' s3 I3 rw'=>⟨v,H2,I3,rw',q2⟩⟩
end
theorem dk_empty{P:Program}{w:World}{H:Hp}(h:Heap)(hb:sysModules<h.objs.size):ObjOk P w H (h.push {cls:=.type "dict",data:=.dict #[]}) h.objs.size (.dK []) :=
 ⟨Nat.zero_le _,beq_eq_false_iff_ne.mpr (Ne.symm (Nat.ne_of_lt hb)),[],.nil,Heap.DictOf.new h⟩
section
variable {X:Cx}{pos:Pos}
end
def tPairs:List (TE×TE)->St->Hp->(List (V×V)->Hp->Prop)->Prop
 | [],_,H,Q=>Q [] H
 |(tk,tv)::r,σ,H,Q=>tk σ H fun x H1=>tv σ H1 fun y H2=>tPairs r σ H2 fun ps H3=>Q ((x,y)::ps) H3
abbrev VV:List (V×V)->List (Value×Value)->Prop:=Paired fun p q=>RelV p.1 q.1/\RelV p.2 q.2
def PPs(X:Cx)(pos:Pos)(keys:List (Option Expr))(values:List Expr)(trs:List (TE×TE)):Prop :=
 ∀(pins:List (Addr×Obj)) (s:Shared) (σ:St) (H:Hp) (Q:List (V×V)->Hp->Prop),Inv X pins σ H s->tPairs trs σ H Q ->
  wpAny (model X.prog X.w) X.A (evalPairs (pairTrees keys values X.env pos)) (fun vs s'=>∃ps H',Inv X pins σ H' s'/\VV ps vs/\Q ps H') X.xe s
theorem pps_nil{X:Cx}{pos:Pos}:PPs X pos [] [] []:=fun pins s σ H Q I h=>pairTrees_nil_walk ⟨[],H,I,.nil,h⟩
theorem pps_cons{X:Cx}{pos:Pos}{k v:Expr}{ks:List (Option Expr)}{vs:List Expr}{tk tv:TE}{trs:List (TE×TE)}(hk:PE X k tk)(hv:PE X v tv)(hr:PPs X pos ks vs trs) :
  PPs X pos (some k::ks) (v::vs) ((tk,tv)::trs):=fun pins s σ H Q I h =>
 pairTrees_cons_walk (thn (hk pins s σ H _ I h) fun u s1 ⟨x,H1,I1,rx,q1⟩=>thn (hv pins s1 σ H1 _ I1 q1) fun w2 s2 ⟨y,H2,I2,ry,q2⟩ =>
  thn (hr pins s2 σ H2 _ I2 q2) fun ws s3 ⟨ps,H3,I3,rel,q3⟩=>⟨(x,y)::ps,H3,I3,.cons ⟨rx,ry⟩ rel,q3⟩)
def mergeK(kvs more:List (Key×V)):List (Key×V):=more.foldl (fun acc kv=>putK acc kv.1 kv.2) kvs
theorem KV.merge:∀{more:List (Key×V)}{rs:List (Key×Value)}{kvs:List (Key×V)}{vs:List (Key×Value)},KV more rs->KV kvs vs->KV (mergeK kvs more) (merged vs rs):=by
 intro more rs kvs vs r
 unfold KV at r
 induction r generalizing kvs vs with
 |nil=>intro q;exact q
 |@cons p q ps qs h t ih =>
  intro r0
  have e:KV (putK kvs p.1 p.2) (stored vs q.1 q.2):=by
   have:=r0.put p.1 h.2
   rw[←h.1];exact this
  exact ih e
theorem length_mergeK:∀(more kvs:List (Key×V)),(mergeK kvs more).length<=kvs.length+more.length
 | [],kvs=>by show kvs.length<=kvs.length+0;omega
 |p::r,kvs=>by
  have h1:=length_mergeK r (putK kvs p.1 p.2)
  have h2:=length_putK kvs p.1 p.2
  show(mergeK (putK kvs p.1 p.2) r).length<=_
  rw[List.length_cons];omega
theorem carries_of{P:Program}{w:World}:∀{kvs:List (Key×V)}{ws:List (Value×Value)},VV (kvs.map fun kv=>(kV kv.1,kv.2)) ws->∃rs,Carries (mixKind P w) ws rs/\KV kvs rs
 | [],_,r=>by rw[List.map_nil]at r;cases r;exact⟨[],True.intro,.nil⟩
 |p::kvs,_,r=>by
  rw[List.map_cons]at r
  cases r with
  |@cons a b as bs h t =>
   obtain⟨rs,c,q⟩:=carries_of (P:=P) (w:=w) t
   obtain⟨b1,b2⟩:=b
   exact⟨(p.1,b2)::rs,⟨kV_is h.1,rfl,c⟩,.cons ⟨rfl,h.2⟩ q⟩
def tDisp(trs:List (TE×TE)):TE:=fun σ H Q=>∀p,H p=none->tPairs trs σ (upd H p (.dK [])) fun ps H2=>H2 p=some (.dK [])/\∃kvs:List (Key×V),ps=kvs.map (fun kv=>(kV kv.1,kv.2))/\kvs.length<=15/\Q (.ref p) (upd H2 p (.dK (mergeK [] kvs)))
theorem pe_disp{X:Cx}{pos:Pos}{keys:List (Option Expr)}{values:List Expr}{trs:List (TE×TE)}(h:PPs X pos keys values trs)(hall:keys.all (·.isSome)=true)(hl:keys.length=values.length)(h0:keys≠[])
  (h15:keys.length<=15):PE X (.Dict keys values pos) (tDisp trs):=by
 intro pins s σ H Q I q
 have hn:=I.hok.fresh (Nat.le_refl s.heap.objs.size)
 have I1:=I.laid (a:=s.heap.objs.size) (o:=.dK []) (h':=s.heap.push {cls:=.type "dict",data:=.dict #[]}) (t':=s.toks) (fun _ _ q=>Heap.get?_push_of_some _ q) (Nat.le_refl _) (dk_empty s.heap I.big)
 refine wpAny_Dict_walk (knd:=mixKind X.prog X.w) hall hl h0 h15 (thn (h pins _ σ _ _ I1 (q _ hn)) fun ws s2 ⟨ps,H2,I2,rel,e,kvs,ep,lk,q2⟩=>?_)
 subst ep
 obtain⟨rs,c,rk⟩:=carries_of (P:=X.prog) (w:=X.w) rel
 obtain⟨z,hd,vs0,r0,dd⟩:=dk_of I2.hok e
 cases r0
 refine⟨rs,c,dd,fun h' dd' hs=>⟨.ref s.heap.objs.size,_,?_,rfl,q2⟩⟩
 have hz:(mergeK [] kvs).length<=sizeLine:=by
  have h1:=length_mergeK kvs []
  rw[List.length_nil]at h1
  rw[sizeLine_eq];omega
 have he:∃q,h'.get? s.heap.objs.size=some q:=let⟨q,_,_,hq,_⟩:=dd';⟨q,hq⟩
 exact d_write I2 (by rw[e];exact True.intro) hs he (dk_new hz hd (rk.merge .nil) dd')
section
variable {X:Cx}{pins:List (Addr×Obj)}{σ:St}{H:Hp}{s:Shared}{a:Addr}{y d:V}{u r:Value}{o:Option V}{A:Around}{E:Value->Shared->Prop}
end
section
variable {X:Cx}{o e f:Expr}{apos cpos:Pos}{td ty tx:TE}
end
section
variable {X:Cx}{pins:List (Addr×Obj)}{σ:St}{H:Hp}{s:Shared}{a:Addr}{kvs:List (Key×V)}{A:Around}{E:Value->Shared->Prop}
end
section
variable {X:Cx}{pins:List (Addr×Obj)}{σ:St}{H:Hp}{s:Shared}{a:Addr}{y:V}{u:Value}{A:Around}{E:Value->Shared->Prop}
end
end L2
set_option maxHeartbeats 4000000
namespace L2
open PySem
inductive T where
 |s (x:Str)|i (n:Int)|n|t (xs:List T)
theorem T.induct{P:T->Prop}(hs:∀x,P (.s x))(hi:∀n,P (.i n))(hn:P .n)(ht:∀xs,(∀x∈xs,P x)->P (.t xs))(a:T):P a :=
 T.rec (motive_1:=P) (motive_2:=fun xs=>∀x∈xs,P x) hs hi hn ht (fun _ h=>nomatch h) (fun _ _ h1 h2 y hy=>by
  cases hy with
  |head=>exact h1
  |tail _ h=>exact h2 y h) a
mutual
def T.dep:T->Nat
 |.t xs=>T.deps xs+1
 |_=>0
def T.deps:List T->Nat
 | []=>0
 |x::r=>max x.dep (T.deps r)
end
theorem T.deps_mem{xs:List T}{x:T}(h:x∈xs):x.dep<=T.deps xs:=by
 induction xs with
 |nil=>cases h
 |cons y r ih =>
  unfold T.deps
  cases h with
  |head=>exact Nat.le_max_left _ _
  |tail _ h=>exact Nat.le_trans (ih h) (Nat.le_max_right _ _)
end L2
namespace L2
open PySem PySem.Spec PyProof.Rows
def cellsFor(env:Env):List (Str×NameKind)->List (Str×Addr)->List (Str×Addr)
 | [],cs=>cs
 |(n,k)::r,cs=>cellsFor env r (if k == .free then(n,(env.cells.lookup n).getD 0)::cs else cs)
theorem closureFor_eq{scope:Scope}{env:Env}(h:∀x∈scope.names,x.2=.free->∃c,env.cells.lookup x.1=some c):closureFor scope env=pure (cellsFor env scope.names []):=by
 have go:∀(l:List (Str×NameKind)) (cs:List (Str×Addr)),(∀x∈l,x.2=.free->∃c,env.cells.lookup x.1=some c) ->
   (forIn l cs fun x r=>if(x.2 == NameKind.free)=true then do let a ←cellOf env x.1;pure (ForInStep.yield ((x.1,a)::r))else pure (ForInStep.yield r):Sem (List (Str×Addr)))=pure (cellsFor env l cs):=by
  intro l
  induction l with
  |nil=>intro cs _;rfl
  |cons x r ih =>
   intro cs hx
   obtain⟨n,k⟩:=x
   rw[List.forIn_cons]
   by_cases hk:k=.free
   ·subst hk
    obtain⟨c,hc⟩:=hx (n,.free) List.mem_cons_self rfl
    have e:cellOf env n=pure c:=by unfold cellOf;rw[show env.cells.lookup n=some c from hc]
    simp only[beq_self_eq_true,if_true,e,pure_bind]
    rw[ih _ fun y hy=>hx y (List.mem_cons_of_mem _ hy)]
    unfold cellsFor
    rw[show env.cells.lookup n=some c from hc]
    cases r<;>rfl
   ·have hb:(k == NameKind.free)=false:=by simpa using hk
    simp only[hb,Bool.false_eq_true,if_false,pure_bind]
    rw[ih _ fun y hy=>hx y (List.mem_cons_of_mem _ hy)]
    conv=>rhs;unfold cellsFor
    simp only[hb,Bool.false_eq_true,if_false]
 simp only[closureFor]
 have g:=go scope.names [] h
 simp only[g]
 rfl
theorem cellsFor_sub{env:Env}:∀(l:List (Str×NameKind)) (cs:List (Str×Addr)),(∀x∈l,x.2=.free->∃c,env.cells.lookup x.1=some c)->(∀y c,cs.lookup y=some c->env.cells.lookup y=some c) ->
  ∀y c,(cellsFor env l cs).lookup y=some c->env.cells.lookup y=some c
 | [],_,_,hc=>hc
 |(n,k)::r,cs,hl,hc=>by
  refine cellsFor_sub r _ (fun x hx=>hl x (List.mem_cons_of_mem _ hx)) fun y c e=>?_
  by_cases hk:(k == NameKind.free)=true
  ·rw[if_pos hk]at e
   rw[List.lookup_cons]at e
   by_cases hy:y=n
   ·subst hy
    simp only[beq_self_eq_true]at e
    obtain⟨c',hc'⟩:=hl (y,k) List.mem_cons_self (by simpa using hk)
    have hc'':env.cells.lookup y=some c':=hc'
    rw[hc'']at e⊢
    exact e
   ·have hb:(y == n)=false:=beq_eq_false_iff_ne.mpr hy
    rw[hb]at e
    exact hc y c e
  ·rw[if_neg hk]at e
   exact hc y c e
theorem cellsFor_keep{env:Env}:∀(l:List (Str×NameKind)) (cs:List (Str×Addr)) (y:Str),(∃c,cs.lookup y=some c)->∃c,(cellsFor env l cs).lookup y=some c
 | [],_,_,h=>h
 |(n,k)::r,cs,y,h=>by
  refine cellsFor_keep r _ y ?_
  by_cases hk:(k == NameKind.free)=true
  ·rw[if_pos hk,List.lookup_cons]
   cases hb:(y == n)with
   |true=>exact⟨_,rfl⟩
   |false=>exact h
  ·rw[if_neg hk];exact h
theorem cellsFor_has{env:Env}:∀(l:List (Str×NameKind)) (cs:List (Str×Addr)) (y:Str),(y,NameKind.free)∈l->∃c,(cellsFor env l cs).lookup y=some c
 | [],_,_,h=>nomatch h
 |(n,k)::r,cs,y,h=>by
  rcases List.mem_cons.mp h with e|h
  ·have e1:y=n:=congrArg Prod.fst e
   have e2:NameKind.free=k:=congrArg Prod.snd e
   subst e1
   subst e2
   refine cellsFor_keep r _ y ⟨(env.cells.lookup y).getD 0,?_⟩
   rw[if_pos (by rfl),List.lookup_cons,beq_self_eq_true]
  ·exact cellsFor_has r _ y h
theorem relabel_shape{env:Env}:∀{names:List (Str×NameKind)}{x:Str}{k':NameKind},(names.map fun(n,k)=>if(k == NameKind.free&&env.scope.kind == .function&&env.kindOf n == some .cell)then(n,NameKind.cell)else(n,k)).lookup x=some k' ->
  names.lookup x=some k'\/(k'=.cell/\names.lookup x=some .free)
 | [],_,_,h=>by simp at h
 |(n,k)::r,x,k',h=>by
  have ih:=@relabel_shape env r x k'
  change List.lookup x ((if(k == NameKind.free&&env.scope.kind == .function&&env.kindOf n == some .cell)=true then(n,NameKind.cell)else(n,k))::_)=_ at h
  cases hx:x == n with
  |true =>
   by_cases hc:(k == NameKind.free&&env.scope.kind == .function&&env.kindOf n == some .cell)=true
   ·rw[if_pos hc]at h
    simp only[List.lookup_cons,hx]at h
    cases h
    have hk:k=.free:=by simp at hc;exact hc.1.1
    subst hk
    exact .inr ⟨rfl,by simp only[List.lookup_cons,hx]⟩
   ·rw[if_neg hc]at h
    simp only[List.lookup_cons,hx]at h
    cases h
    exact .inl (by simp only[List.lookup_cons,hx])
  |false =>
   by_cases hc:(k == NameKind.free&&env.scope.kind == .function&&env.kindOf n == some .cell)=true
   ·rw[if_pos hc]at h
    simp only[List.lookup_cons,hx]at h⊢
    exact ih h
   ·rw[if_neg hc]at h
    simp only[List.lookup_cons,hx]at h⊢
    exact ih h
theorem relabel_free{env:Env}:∀{names:List (Str×NameKind)}{x:Str},names.lookup x=some .free ->
  (names.map fun(n,k)=>if(k == NameKind.free&&env.scope.kind == .function&&env.kindOf n == some .cell)then(n,NameKind.cell)else(n,k)).lookup x=some .cell \/
  (names.map fun(n,k)=>if(k == NameKind.free&&env.scope.kind == .function&&env.kindOf n == some .cell)then(n,NameKind.cell)else(n,k)).lookup x=some .free
 | [],_,h=>by simp at h
 |(n,k)::r,x,h=>by
  have ih:=@relabel_free env r x
  show List.lookup x ((if(k == NameKind.free&&env.scope.kind == .function&&env.kindOf n == some .cell)=true then(n,NameKind.cell)else(n,k))::_)=_\/List.lookup x ((if(k == NameKind.free&&env.scope.kind == .function&&env.kindOf n == some .cell)=true then(n,NameKind.cell)else(n,k))::_)=_
  cases hx:x == n with
  |true =>
   simp only[List.lookup_cons,hx]at h
   cases h
   by_cases hc:(NameKind.free == NameKind.free&&env.scope.kind == .function&&env.kindOf n == some .cell)=true
   ·rw[if_pos hc];exact .inl (by simp only[List.lookup_cons,hx])
   ·rw[if_neg hc];exact .inr (by simp only[List.lookup_cons,hx])
  |false =>
   simp only[List.lookup_cons,hx]at h
   by_cases hc:(k == NameKind.free&&env.scope.kind == .function&&env.kindOf n == some .cell)=true
   ·rw[if_pos hc];simp only[List.lookup_cons,hx];exact ih h
   ·rw[if_neg hc];simp only[List.lookup_cons,hx];exact ih h
section
variable {prog:Program}{w:World}{A:Around}{R:Result->Shared->Prop}{s:Shared}
theorem codeAny_compLoop_any{elt target iter:Expr}{ifs:List Expr}{scope:Scope}{pos:Pos}{it acc:Value}{env:Env}{E:Value->Shared->Prop}(I:Nat->Shared->Prop)
  (turn:∀n s,I n s->wpAny (model prog w) A (pyNext it) (fun r s₁=>match r with
   |none=>R (.ok .next) s₁
   |some v=>wpAny (model prog w) A (letOwnedTupleGo target it v) (fun _ s₁'=>wpAny (model prog w) A (assign target env v) (fun _ s₂ =>
     wpAny (model prog w) A (forIn ifs true fun c r=>if r=true then do let ok ←isTrue c env (eval c env);pure (ForInStep.yield ok)else pure (ForInStep.yield r)) (fun ok s₃ =>
      if ok=true then wpAny (model prog w) A (eval elt env) (fun x s₄ =>
       wpAny (model prog w) A (call (.builtin "list.append") [acc,x]) (fun _ s₅=>∃m,m<n/\I m s₅) E s₄) E s₃
      else ∃m,m<n/\I m s₃) E s₂) E s₁') E s₁) E s)
  (hE:∀e s',E e s'->notedBy (model prog w) A env (fun e s'=>R (.error e) s') e s')
  (n:Nat) (h:I n s) :
  codeAny (model prog w) A (.compLoop (.ListComp elt [⟨target,iter,ifs,0⟩] scope pos) 0 it acc env) R s:=by
 refine codeAny_loop rfl I (fun n s hI=>?_) n h
 show wpAny _ A ((compTurn (.ListComp elt [⟨target,iter,ifs,0⟩] scope pos) 0 it acc env).onRaise (fun x=>do noteFrame x env;theTreesLotGoes x)) _ _ s
 refine wpAny_noted ?_
 rw[compTurn_list]
 refine wpAny_bind (wpAny_standAt (wpAny_bind (wpAny_mono (turn n s hI) (fun r s₁ h₁=>?_) hE)))
 cases r with
 |none=>exact wpAny_pure h₁
 |some v =>
  refine wpAny_bind (wpAny_mono h₁ (fun _ s₁' h₁'=>?_) hE)
  refine wpAny_bind (wpAny_mono h₁' (fun _ s₂ h₂=>wpAny_bind (wpAny_mono h₂ (fun ok s₃ h₃=>?_) hE)) hE)
  cases ok with
  |false=>exact wpAny_pure ⟨rfl,h₃⟩
  |true =>
   exact wpAny_bind (wpAny_bind (wpAny_mono h₃ (fun x s₄ h₄=>wpAny_bind (wpAny_mono h₄ (fun _ s₅ h₅=>wpAny_pure (wpAny_pure ⟨rfl,h₅⟩)) hE)) hE))
end
def cxComp(X:Cx)(scope:Scope)(N':List Str)(fp:List Addr)(C:Addr)(s₂:Shared)(H₂:Hp):Cx where
 prog:=X.prog
 w:=X.w
 K:=X.K
 mg:=X.mg
 base:=X.base
 A:=X.A
 N:=N'
 s₀:=s₂
 H₀:=H₂
 env:=compEnvC scope (cellsFor X.env scope.names []) C X.env
 outer:=X.stack
 stack:=X.stack
 ex:=fp
 fn:=fun _=>false
 calm:=X.calm
 pn:=[]
 xe:=fun _ _=>False
def PIfs(X:Cx)(ifs:List Expr)(t:TT):Prop :=
 ∀(pins:List (Addr×Obj)) (s:Shared) (σ:St) (H:Hp) (Q:Bool->Hp->Prop),Inv X pins σ H s->t σ H Q ->
  wpAny (model X.prog X.w) X.A (forIn ifs true fun c r=>if r=true then do let ok ←isTrue c X.env (eval c X.env);pure (ForInStep.yield ok)else pure (ForInStep.yield r)) (TP X pins σ Q) X.xe s
def tNoIf:TT:=fun _ H Q=>Q true H
theorem pifs_nil{X:Cx}:PIfs X [] tNoIf:=fun pins s σ H Q I h=>by
 rw[List.forIn_nil]
 exact wpAny_pure ⟨H,I,h⟩
theorem pifs_one{X:Cx}{c:Expr}{t:TT}(hc:PT X c t):PIfs X [c] t:=fun pins s σ H Q I h=>by
 simp only[List.forIn_cons,List.forIn_nil,if_true]
 exact wpAny_bind (wpAny_bind (wpAny_mono (hc pins s σ H Q I h) (fun b s' hb=>wpAny_pure (wpAny_pure hb)) fun _ _ x=>x))
def innerSt(own:Nat)(fr:List Nat)(σ:St):St:=List.replicate own none++fr.map fun j=>(σ[j]?).join
def CompW(J:It)(g:TG)(tt:TT)(te:TE)(Q:VK)(σ0:St)(H0:Hp):Prop:=∃W:Nat->Nat->St->List V->Hp->Prop,(∃m,W 0 m σ0 [] H0)/\∀i m σ' vs H,W i m σ' vs H ->
 (J.stop i H/\vs.length<=sizeLine/\∀p,H p=none->Q (.ref p) (upd H p (.lst vs))) \/
 (J.go i H/\vs.length<sizeLine/\∃N:St->List V->Hp->Prop,(∀σ2 vs2 H2,N σ2 vs2 H2->∃m',m' < m/\W (i+1) m' σ2 vs2 H2)/\∀x H',J.yld i H x H'->g x σ' H' fun σ2 H2=>tt σ2 H2 fun ok H3 =>
  if ok=true then te σ2 H3 fun v H4=>N σ2 (vs++[v]) H4 else N σ2 vs H3)
def tComp(own:Nat)(fr:List Nat)(wi:TI)(g:TG)(tt:TT)(te:TE):TE:=fun σ H Q=>wi σ H fun J H1=>CompW J g tt te Q (innerSt own fr σ) H1
section
variable {X:Cx}{pins:List (Addr×Obj)}{σ:St}{H:Hp}{s:Shared}
theorem inner_ok{own:List Str}{fr:List Nat}(hl:σ.length=X.N.length){i:Nat}{x:Str}{v:V}(h1:(own++fr.map fun j=>X.N.getD j Str.empty)[i]?=some x)(h2:(innerSt own.length fr σ)[i]?=some (some v)) :
  ∃j∈fr,X.N[j]?=some x/\X.N.getD j Str.empty=x/\σ[j]?=some (some v):=by
 unfold innerSt at h2
 by_cases hi:i<own.length
 ·rw[List.getElem?_append_left (by simpa using hi),List.getElem?_replicate,if_pos hi]at h2
  cases h2
 ·rw[List.getElem?_append_right (by simpa using hi),List.length_replicate,List.getElem?_map]at h2
  rw[List.getElem?_append_right (by omega),List.getElem?_map]at h1
  cases e:fr[i-own.length]? with
  |none=>rw[e]at h2;cases h2
  |some j =>
   rw[e]at h1 h2
   simp only[Option.map_some,Option.some.injEq]at h1 h2
   have hj:σ[j]?=some (some v):=by
    cases q:σ[j]? with
    |none=>rw[q]at h2;cases h2
    |some o=>rw[q]at h2;exact congrArg some h2
   have hjl:j<X.N.length:=by rw[←hl];exact(List.getElem?_eq_some_iff.mp hj).1
   refine⟨j,List.mem_of_getElem? e,?_,h1,hj⟩
   rw[←h1,List.getD_eq_getElem?_getD,List.getElem?_eq_getElem hjl]
   rfl
theorem comp_enter{scope:Scope}{own:List Str}{fr:List Nat}{fp:List Addr}{C:Addr}{h₁:Heap}{tk:Nat}{m:Str->Option Value}(I:Inv X pins σ H s)
  (hkind:scope.kind=.function) (hcell:∀x∈scope.names,x.2≠.cell) (hfr:∀x∈scope.names,x.2=.free->X.env.scope.names.lookup x.1=some .cell\/X.env.scope.names.lookup x.1=some .free)
  (hin:∀j∈fr,scope.names.lookup (X.N.getD j Str.empty)=some .free) (hC:s.heap.objs.size<=C) (hf:∀b∈fp,FpOk X pins H b) (hfo:∀b∈fp,b<s.heap.objs.size)
  (old:∀b o,s.heap.get? b=some o->h₁.get? b=some o) (hn:h₁.Ns C m) :
  Inv (cxComp X scope (own++fr.map fun j=>X.N.getD j Str.empty) fp C s H) [] (innerSt own.length fr σ) H {s with heap:=h₁,toks:=tk}:=by
 have hfree:∀x∈scope.names,x.2=.free->∃c,X.env.cells.lookup x.1=some c:=fun x hx e=>I.ok.has x.1 (hfr x hx e)
 have sub:∀y c,(cellsFor X.env scope.names []).lookup y=some c->X.env.cells.lookup y=some c:=cellsFor_sub _ _ hfree (by intro y c e;simp at e)
 have hasF:∀y,scope.names.lookup y=some .free->∃c,(cellsFor X.env scope.names []).lookup y=some c:=fun y e=>cellsFor_has _ _ _ (PySem.mem_of_lookup e)
 refine⟨⟨I.ok.mod,?_,I.ok.glob,I.ok.blt,hC,fun x y c h1 h2=>I.ok.inj x y c (sub x c h1) (sub y c h2),fun x hx=>?_,(fun x c hx=>nomatch hx),I.ok.hd,I.ok.frames,.inl rfl,fun b hb=>?_,I.bs,Nat.le_trans I.ok.bsz I.sz,fun b o e hb=>?_,fun b hb z=>?_,I.stack,I.stkFree⟩,
  rfl,I.bare,Un.kept old,⟨m,hn,fun i x v h1 h2 h3=>?_⟩,fun x c e=>?_,I.hok.fresh hC,fun x c e=>I.freeC x c (sub x c e),fun p hp=>absurd (show p∈([]:List (Addr×Obj))from hp) (by simp),I.hok.kept old,?_⟩
 ·exact hkind
 ·have hx':(relabel scope X.env).names.lookup x=some .cell\/(relabel scope X.env).names.lookup x=some .free:=hx
  have hx2:scope.names.lookup x=some .free:=by
   rcases hx' with e|e
   ·rcases relabel_shape e with e|⟨_,e⟩
    ·exact absurd rfl (hcell _ (PySem.mem_of_lookup e))
    ·exact e
   ·rcases relabel_shape e with e|⟨z,_⟩
    ·exact e
    ·cases z
  exact hasF x hx2
 ·refine⟨Nat.ne_of_lt (Nat.lt_of_lt_of_le (hfo b hb) hC),fun x c e=>(hf b hb).2.2.2.2.1 x c (sub x c e)⟩
 ·rcases(hf b hb).2.2.2.1 with z|z
  ·exact I.ok.noex b o e z
  ·exact absurd (Nat.lt_of_lt_of_le (Heap.lt_size e) (Nat.le_trans I.ok.bsz z)) (Nat.lt_irrefl _)
 ·have hb':b∈fp:=hb
  have z':b∈frs X.stack:=z
  rcases List.mem_cons.mp (I.stkSub b z')with e|e
  ·exact(hf b hb').2.1 e
  ·exact(hf b hb').2.2.1 e
 ·obtain⟨j,hj,e1,e2,e3⟩:=inner_ok (own:=own) I.len h1 h2
  have hxf:scope.names.lookup x=some .free:=by rw[←e2];exact hin j hj
  have hk:=hfr _ (PySem.mem_of_lookup hxf) rfl
  obtain⟨m0,hn0,hl0⟩:=I.loc
  obtain⟨u,r,l⟩:=hl0 j x v e1 e3 (.inr hk)
  refine⟨u,r,?_⟩
  rcases l with⟨k,_⟩|⟨_,c,ec,z⟩
  ·have k':X.env.scope.names.lookup x=some .local:=k
   rcases hk with q|q<;>(rw[show X.env.scope.names.lookup x=_ from q]at k';cases k')
  ·obtain⟨c',ec'⟩:=hasF x hxf
   have:=sub x c' ec'
   rw[ec]at this
   cases this
   obtain⟨o,ho,hd⟩:=z
   exact .inr ⟨relabel_free hxf,c,ec',o,old c o ho,hd⟩
 ·obtain⟨v,o,ho,hd⟩:=I.cell x c (sub x c e)
  exact⟨v,o,old c o ho,hd⟩
 ·show(innerSt own.length fr σ).length=(own++fr.map fun j=>X.N.getD j Str.empty).length
  simp[innerSt]
theorem comp_leave{scope:Scope}{N':List Str}{fp:List Addr}{C D:Addr}{s':Shared}{H':Hp}{σ':St}{pins':List (Addr×Obj)}{vs:List V}{ys:Array Value}{h'':Heap}(I:Inv X pins σ H s)(hf:∀b∈fp,FpOk X pins H b)
  (I':Inv (cxComp X scope N' fp C s H) pins' σ' H' s') (hC:s.heap.objs.size<=C) (hD:s.heap.objs.size<=D) (hDC:D≠C) (hDn:H' D=none) (pl:s'.heap.PlainList D ys) (rv:Vals vs ys.toList) (hz:vs.length<=sizeLine) (hs:Heap.SameBut C s'.heap h'') :
  Inv X pins σ (upd H' D (.lst vs)) {s' with heap:=h''}:=by
 have un:Un (frs X.stack) fp H H' s.heap s'.heap:=I'.base
 have hCn:H' C=none:=I'.free
 have at':∀b,b≠C->h''.get? b=s'.heap.get? b:=fun b hb=>hs.2 b hb
 have neC:∀b o,s.heap.get? b=some o->b≠C:=fun b o e=>Nat.ne_of_lt (Nat.lt_of_lt_of_le (Heap.lt_size e) hC)
 have neD:∀b o,s.heap.get? b=some o->b≠D:=fun b o e=>Nat.ne_of_lt (Nat.lt_of_lt_of_le (Heap.lt_size e) hD)
 have okHD:∀b u,H b=some u->b≠D:=fun b u e=>Nat.ne_of_lt (Nat.lt_of_lt_of_le (I.hok.lt e) hD)
 have un':Un (frs X.stack) fp H (upd H' D (.lst vs)) s.heap h'':=by
  refine⟨fun b o e n h1 h2=>?_,fun b o e n h1 h2=>?_,fun b o e n h2=>?_,fun b o e h2=>?_,fun b xs e=>?_,fun b o u e=>?_,fun b ps e=>?_⟩
  ·rw[at' b (neC b o e)];exact un.keep b o e n h1 h2
  ·rw[at' b (neC b o e)];exact un.slot b o e n h1 h2
  ·rw[upd_ne (neD b o e)];exact un.free b o e n h2
  ·rw[at' b (neC b o e)];exact un.there b o e h2
  ·rw[upd_ne (okHD b _ e)];exact un.tups b xs e
  ·rw[upd_ne (okHD b _ e)];exact un.frzs b o u e
  ·rw[upd_ne (okHD b _ e)];exact un.tbls b ps e
 have hok:HOk X.prog X.w (upd H' D (.lst vs)) h'':=fun b u e=>by
  by_cases hb:b=D
  ·subst hb
   rw[upd_same]at e
   cases e
   obtain⟨n,ho⟩:=pl
   refine⟨hz,ys.toList,n,rv,?_⟩
   rw[at' b hDC]
   simpa using ho
  ·rw[upd_ne hb]at e
   refine(I'.hok b u e).stay (fun c v hc q=>?_) (fun c q=>?_) fun c xs q=>?_
   ·rw[at' c ?_];exact q
    rintro rfl
    rcases hc with z|z
    ·rw[←z,hCn]at e;cases e
    ·rw[hCn]at z;cases z
   ·rw[upd_ne (fun z=>by rw[z,hDn]at q;cases q)];exact q
   ·rw[upd_ne (fun z=>by rw[z,hDn]at q;cases q)];exact q
 exact I.call' (s':={s' with heap:=h''}) (ch:=fp) I'.os un' hok I'.bare fun b hb=>⟨(hf b hb).2.2.2.1,(hf b hb).2.1,(hf b hb).2.2.2.2.1,(hf b hb).2.2.2.2.2⟩
end
section
variable {X:Cx}
theorem pe_comp{elt iter tg:Expr}{ifs:List Expr}{scope:Scope}{pos:Pos}{wi:TI}{g:TG}{tt:TT}{te:TE}(own:List Str)(fr:List Nat)(hc:X.calm=true)
  (hkind:scope.kind=.function) (hcell:∀x∈scope.names,x.2≠.cell) (hnames:∀x∈scope.names,x.2=.local->scope.names.lookup x.1=some .local)
  (hfr:∀x∈scope.names,x.2=.free->X.env.scope.names.lookup x.1=some .cell\/X.env.scope.names.lookup x.1=some .free)
  (hin:∀j∈fr,scope.names.lookup (X.N.getD j Str.empty)=some .free)
  (hi:PI X tg iter wi) (hg:∀fp C s H,PG (cxComp X scope (own++fr.map fun j=>X.N.getD j Str.empty) fp C s H) tg g)
  (ht:∀fp C s H,PIfs (cxComp X scope (own++fr.map fun j=>X.N.getD j Str.empty) fp C s H) ifs tt)
  (he:∀fp C s H,PE (cxComp X scope (own++fr.map fun j=>X.N.getD j Str.empty) fp C s H) elt te)
  (hs:∀x,foldedSetIterable iter X.env x=pure x:=by intro _;rfl):PE X (.ListComp elt [⟨tg,iter,ifs,0⟩] scope pos) (tComp own.length fr wi g tt te):=by
 intro pins s σ H Q I h
 rw[eval_ListComp]
 have hfree:∀x∈scope.names,x.2=.free->∃c,X.env.cells.lookup x.1=some c:=fun x hx e=>I.ok.has x.1 (hfr x hx e)
 refine wpAny_comprehension_free (use:=none) rfl hs (closureFor_eq hfree) hkind hnames ?_
 refine thn (hi pins s σ H _ I h) fun v s1 h1=>thn h1 fun itv s2 h2=>?_
 obtain⟨it,fp,tn,J,H2,e,I2,T,st2,f2,W,⟨m0,w0⟩,turn⟩:=h2
 subst e
 have hfo:∀b∈fp,b<s2.heap.objs.size:=fun b hb=>by obtain⟨o,e,_⟩:=T.obj 0 _ st2 b hb;exact Heap.lt_size e
 refine wpAny_newObj_type (wpAny_newFunctionEnv hcell (by intro y hy;simp at hy) (fun h₁ hns₁ hsb₁=>?_) hkind)
 dsimp only at hns₁ hsb₁⊢
 generalize hH2:s2.heap.push {cls:=.type "list",dict:=none,data:=.seq ([]:List Value).toArray}=G2 at hns₁ hsb₁⊢
 have hC:G2.objs.size=s2.heap.objs.size+1:=by rw[←hH2,Heap.size_push]
 have hDC:s2.heap.objs.size≠G2.objs.size:=by rw[hC];exact Nat.ne_of_lt (Nat.lt_succ_self _)
 have hCle:s2.heap.objs.size<=G2.objs.size:=by rw[hC];exact Nat.le_succ _
 have old:∀b o,s2.heap.get? b=some o->h₁.get? b=some o:=fun b o e=>hsb₁.extBut b o (by rw[hC];exact Nat.ne_of_lt (Nat.lt_succ_of_lt (Heap.lt_size e))) (Heap.get?_push_of_some _ (hH2▸Heap.get?_push_of_some _ e))
 have hacc:h₁.PlainList s2.heap.objs.size #[]:=⟨_,hsb₁.extBut _ _ hDC (Heap.get?_push_of_some _ (hH2▸Heap.get?_push_size _ rfl))⟩
 have I3:Inv (cxComp X scope (own++fr.map fun j=>X.N.getD j Str.empty) fp G2.objs.size s2 H2) [] (innerSt own.length fr σ) H2 {s2 with heap:=h₁,toks:=s2.toks+([]:List (Str×Value)).length} :=
  comp_enter I2 hkind hcell hfr hin hCle f2 hfo old hns₁
 have st3:tn 0 h₁:=T.keep 0 _ _ st2 fun b _ o e=>old b o e
 have hDf:s2.heap.objs.size∉fp:=fun hm=>Nat.lt_irrefl _ (hfo _ hm)
 have hDn2:H2 s2.heap.objs.size=none:=I2.hok.fresh (Nat.le_refl _)
 have sub:∀y c,(cellsFor X.env scope.names []).lookup y=some c->X.env.cells.lookup y=some c:=cellsFor_sub _ _ hfree (by intro y c e;simp at e)
 have cellD:∀y c,(cellsFor X.env scope.names []).lookup y=some c->c≠s2.heap.objs.size:=fun y c e=>by
  obtain⟨_,o,ho,_⟩:=I2.cell y c (sub y c e)
  exact Nat.ne_of_lt (Heap.lt_size ho)
 have Dfs:s2.heap.objs.size∉frs X.stack:=fun z=>by
  rcases List.mem_cons.mp (I2.stkSub _ z)with e|e
  ·exact absurd I2.lt (by rw[←e];exact Nat.lt_irrefl _)
  ·exact I2.nofs (Nat.le_refl _) e
 -- the iterator's records,in the block's context
 have stat:∀{H':Hp}{pl:List (Addr×Obj)},(∀b∈fp,H' b=none)->(∀p∈pl,p.1=s2.heap.objs.size)->∀b∈fp,FpOk (cxComp X scope (own++fr.map fun j=>X.N.getD j Str.empty) fp G2.objs.size s2 H2) pl H' b:=fun{H' pl} hn hp b hb=>by
  refine⟨hn b hb,(I3.ok.exf b hb).1,I3.ok.exfs b hb,.inl hb,(I3.ok.exf b hb).2,fun p hpp z=>?_⟩
  have hpp':p∈pl:=by simpa[cxComp]using hpp
  exact hDf (by rw[←hp p hpp',z];exact hb)
 have pinD:∀{σ':St}{H':Hp}{s':Shared}{ys:Array Value}{n:Nat},Inv (cxComp X scope (own++fr.map fun j=>X.N.getD j Str.empty) fp G2.objs.size s2 H2) [] σ' H' s'->H' s2.heap.objs.size=none->s'.heap.get? s2.heap.objs.size=some {cls:=.type "list",data:=.seq ys n} ->
   Inv (cxComp X scope (own++fr.map fun j=>X.N.getD j Str.empty) fp G2.objs.size s2 H2) [(s2.heap.objs.size,{cls:=.type "list",data:=.seq ys n})] σ' H' s':=fun{σ' H' s' ys n} J hn e=>J.pins_of fun p hp=>by
  have e':p=(s2.heap.objs.size,{cls:=.type "list",data:=.seq ys n}):=by simpa using hp
  subst e'
  exact⟨e,hn,hDC,Dfs,fun v z=>nomatch z⟩
 have loop:codeAny (model X.prog X.w) X.A (.compLoop (.ListComp elt [⟨tg,iter,ifs,0⟩] scope pos) 0 (.ref it) (.ref s2.heap.objs.size) (compEnvC scope (cellsFor X.env scope.names []) G2.objs.size X.env))
   (compPost (model X.prog X.w) X.A X.xe none (EP X pins σ Q) (.ref s2.heap.objs.size) G2.objs.size) {s2 with heap:=h₁,toks:=s2.toks+([]:List (Str×Value)).length}:=by
  refine codeAny_compLoop_any (E:=fun _ _=>False) (fun n s'=>∃i σ' H' vs ys,Inv (cxComp X scope (own++fr.map fun j=>X.N.getD j Str.empty) fp G2.objs.size s2 H2) [] σ' H' s'/\tn i s'.heap/\(∀b∈fp,H' b=none)/\H' s2.heap.objs.size=none/\s'.heap.PlainList s2.heap.objs.size ys/\Vals vs ys.toList/\W i n σ' vs H')
   ?_ (fun _ _ z=>z.elim) m0 ⟨0,_,H2,[],#[],I3,st3,fun b hb=>(f2 b hb).1,hDn2,hacc,.nil,w0⟩
  rintro n s3 ⟨i,σ3,H3,vs,ys,J3,st3,fr3,dn3,⟨pn,pl3⟩,rv,w3⟩
  have J3':=pinD J3 dn3 pl3
  have hpins:∀p∈[(s2.heap.objs.size,({cls:=.type "list",data:=.seq ys pn}:Obj))],p.1=s2.heap.objs.size:=fun p hp=>by
   have e':p=(s2.heap.objs.size,{cls:=.type "list",data:=.seq ys pn}):=by simpa using hp
   rw[e']
  rcases turn i n σ3 vs H3 w3 with⟨stop,hz,q⟩|⟨go,hz,N,hN,step⟩
  ·refine thn (T.done (cxComp X scope (own++fr.map fun j=>X.N.getD j Str.empty) fp G2.objs.size s2 H2) rfl rfl rfl hc i _ s3 σ3 H3 (fun _ _=>False) J3' (stat fr3 hpins) st3 stop) fun r s4 ⟨hr,J4⟩=>?_
   subst hr
   obtain⟨m4,hn4,_⟩:=id J4.loc
   refine⟨m4,hn4,fun h' hs'=>?_⟩
   have e4:s4.heap.get? s2.heap.objs.size=some {cls:=.type "list",data:=.seq ys pn}:=(J4.pin (s2.heap.objs.size,{cls:=.type "list",data:=.seq ys pn}) (List.mem_append_right _ (by simp))).1
   exact⟨.ref s2.heap.objs.size,_,comp_leave I2 f2 J4 hCle (Nat.le_refl _) hDC dn3 ⟨pn,e4⟩ rv hz hs',rfl,q _ dn3⟩
  ·refine thn (T.item (cxComp X scope (own++fr.map fun j=>X.N.getD j Str.empty) fp G2.objs.size s2 H2) rfl rfl rfl hc i _ s3 σ3 H3 (fun _ _=>False) J3' (stat fr3 hpins) st3 go) fun r s4 ⟨u,hr,h4⟩=>?_
   subst hr
   refine thn h4 fun _ s5 ⟨x,H5,J5,r5,y5,st5,fr5⟩=>?_
   have J5':=J5.pinned (stat fr5 hpins) (T.obj _ _ st5)
   refine thn (hg fp _ s2 H2 _ s5 σ3 H5 x u _ J5' r5 (step x H5 y5)) fun _ s6 ⟨σ6,H6,J6,q6⟩=>?_
   refine thn (ht fp _ s2 H2 _ s6 σ6 H6 _ J6 q6) fun ok s7 ⟨H7,J7,q7⟩=>?_
   -- what stood pinned through the turn
   have after:∀{s8:Shared}{H8:Hp},Inv (cxComp X scope (own++fr.map fun j=>X.N.getD j Str.empty) fp G2.objs.size s2 H2) ([(s2.heap.objs.size,({cls:=.type "list",data:=.seq ys pn}:Obj))]++pinsAt fp s5.heap) σ6 H8 s8 ->
     tn (i+1) s8.heap/\(∀b∈fp,H8 b=none)/\H8 s2.heap.objs.size=none/\s8.heap.get? s2.heap.objs.size=some {cls:=.type "list",data:=.seq ys pn}:=fun{s8 H8} J8=>by
    refine⟨T.keep _ _ _ st5 fun b hb o e=>(J8.pin (b,o) (List.mem_append_right _ (List.mem_append_right _ (mem_pinsAt hb e)))).1,fun b hb=>?_,?_,?_⟩
    ·obtain⟨o,e,d⟩:=T.obj _ _ st5 b hb
     exact(J8.pin (b,o) (List.mem_append_right _ (List.mem_append_right _ (mem_pinsAt hb e)))).2.1
    ·exact(J8.pin (s2.heap.objs.size,{cls:=.type "list",data:=.seq ys pn}) (List.mem_append_right _ (List.mem_append_left _ (by simp)))).2.1
    ·exact(J8.pin (s2.heap.objs.size,{cls:=.type "list",data:=.seq ys pn}) (List.mem_append_right _ (List.mem_append_left _ (by simp)))).1
   cases ok with
   |false =>
    obtain⟨m',hm,w7⟩:=hN _ _ _ q7
    obtain⟨a1,a2,a3,a4⟩:=after J7
    exact⟨m',hm,i+1,σ6,H7,vs,ys,J7.pins_of (fun p hp=>absurd hp (by simp)),a1,a2,a3,⟨pn,a4⟩,rv,w7⟩
   |true =>
    refine thn (he fp _ s2 H2 _ s7 σ6 H7 _ J7 q7) fun y s8 ⟨v8,H8,J8,r8,n8⟩=>?_
    obtain⟨m',hm,w8⟩:=hN _ _ _ n8
    obtain⟨a1,a2,a3,a4⟩:=after J8
    have J9:Inv (cxComp X scope (own++fr.map fun j=>X.N.getD j Str.empty) fp G2.objs.size s2 H2) [] σ6 H8 s8:=J8.pins_of (fun p hp=>absurd hp (by simp))
    have hys:ys.size<=sizeLine:=by
     have e1:vs.length=ys.toList.length:=rv.length
     have e2:ys.toList.length=ys.size:=by simp
     omega
    refine wpAny_list_append_plain (hsz:=hys) ⟨pn,a4⟩ fun h₅ hl₅ hs₅=>?_
    refine⟨m',hm,i+1,σ6,H8,vs++[v8],ys.push y,J9.turned (t':=s8.toks) (it:=s2.heap.objs.size) (fun b o hb e=>by rw[hs₅.2 b hb];exact e) a3 hDC (.inr (Nat.le_refl _)) cellD (fun p hp=>absurd (show p∈([]:List (Addr×Obj))from hp) (by simp)),
     T.keep _ _ _ a1 fun b hb o e=>(hs₅.2 b (fun z=>hDf (z▸hb))).trans e,a2,a3,hl₅,?_,w8⟩
    have:Vals (vs++[v8]) (ys.toList++[y]):=rv.append (.cons r8 .nil)
    simpa using this
 exact codeAny_compStart_list loop (T.self X.A 0 _ _ _ st3 loop)
end
def compOk(scope sc:Scope)(N0:List Str)(fr:List Nat):Bool :=
 scope.kind == .function&&scope.names.all (fun x=>x.2 != .cell&&(x.2 != .local||scope.names.lookup x.1 == some .local)&&(x.2 != .free||sc.names.lookup x.1 == some .cell||sc.names.lookup x.1 == some .free)) &&
  fr.all (fun j=>scope.names.lookup (N0.getD j Str.empty) == some .free)
theorem pe_compC{X:Cx}{elt iter tg:Expr}{ifs:List Expr}{scope:Scope}{pos:Pos}{wi:TI}{g:TG}{tt:TT}{te:TE}(sc:Scope)(N0 own:List Str)(fr:List Nat)(hc:X.calm=true)(hsc:X.env.scope=sc)(hN:X.N=N0)
  (ok:compOk scope sc N0 fr=true) (hi:PI X tg iter wi) (hg:∀fp C s H,PG (cxComp X scope (own++fr.map fun j=>N0.getD j Str.empty) fp C s H) tg g)
  (ht:∀fp C s H,PIfs (cxComp X scope (own++fr.map fun j=>N0.getD j Str.empty) fp C s H) ifs tt)
  (he:∀fp C s H,PE (cxComp X scope (own++fr.map fun j=>N0.getD j Str.empty) fp C s H) elt te)
  (hs:∀x,foldedSetIterable iter X.env x=pure x:=by intro _;rfl):PE X (.ListComp elt [⟨tg,iter,ifs,0⟩] scope pos) (tComp own.length fr wi g tt te):=by
 subst hsc hN
 unfold compOk at ok
 simp only[Bool.and_eq_true,List.all_eq_true,bne_iff_ne,beq_iff_eq,Bool.or_eq_true]at ok
 obtain⟨⟨k1,k2⟩,k3⟩:=ok
 refine pe_comp own fr hc k1 (fun x hx=>(k2 x hx).1.1) (fun x hx e=>?_) (fun x hx e=>?_) (fun j hj=>k3 j hj) hi hg ht he hs
 ·rcases(k2 x hx).1.2 with z|z
  ·exact absurd e z
  ·exact z
 ·rcases(k2 x hx).2 with(z|z)|z
  ·exact absurd e z
  ·exact .inl z
  ·exact .inr z
section
variable {g:TG}{tt:TT}{te:TE}{Q:VK}{σ0:St}{H0:Hp}
theorem comp_by{J:It}(n:Nat)(Pv:Nat->St->List V->Hp->Prop)(h0:Pv 0 σ0 [] H0)(hlen:∀i σ vs H,i<=n->Pv i σ vs H->vs.length<=i)(hn:n<=sizeLine)(hgo:∀i σ vs H,i<n->Pv i σ vs H->J.go i H)(hst:∀σ vs H,Pv n σ vs H->J.stop n H)
  (hs:∀i σ vs H x H',i<n->Pv i σ vs H->J.yld i H x H'->g x σ H' fun σ2 H2=>tt σ2 H2 fun ok H3=>if ok=true then te σ2 H3 fun v H4=>Pv (i+1) σ2 (vs++[v]) H4 else Pv (i+1) σ2 vs H3)
  (hd:∀σ vs H,Pv n σ vs H->∀p,H p=none->Q (.ref p) (upd H p (.lst vs))):CompW J g tt te Q σ0 H0:=by
 refine⟨fun i m σ vs H=>m=n-i/\i<=n/\Pv i σ vs H,⟨n,by simp,Nat.zero_le _,h0⟩,?_⟩
 rintro i m σ vs H ⟨rfl,hi,p⟩
 have hv:=hlen i σ vs H hi p
 by_cases hlt:i<n
 ·exact .inr ⟨hgo i σ vs H hlt p,by omega,Pv (i+1),fun σ2 vs2 H2 q=>⟨n - (i+1),by omega,rfl,hlt,q⟩,fun x H' y=>hs i σ vs H x H' hlt p y⟩
 ·have e:i=n:=by omega
  subst e
  exact .inl ⟨hst σ vs H p,by omega,hd σ vs H p⟩
theorem comp_range{lo:Int}{n:Nat}(Pv:Nat->St->List V->Hp->Prop)(h0:Pv 0 σ0 [] H0)(hlen:∀i σ vs H,i<=n->Pv i σ vs H->vs.length<=i)(hn:n<=sizeLine)
  (hs:∀i σ vs H,i<n->Pv i σ vs H->g (.int (lo+i)) σ H fun σ2 H2=>tt σ2 H2 fun ok H3=>if ok=true then te σ2 H3 fun v H4=>Pv (i+1) σ2 (vs++[v]) H4 else Pv (i+1) σ2 vs H3)
  (hd:∀σ vs H,Pv n σ vs H->∀p,H p=none->Q (.ref p) (upd H p (.lst vs))):CompW (Itr lo n) g tt te Q σ0 H0 :=
 comp_by n Pv h0 hlen hn (fun _ _ _ _ h _=>h) (fun _ _ _ _=>Nat.le_refl _) (fun i σ vs H x H' hi p y=>by obtain⟨rfl,rfl⟩:=y;exact hs i σ vs _ hi p) hd
theorem comp_list{K:PySem.W.Frag}{a:Addr}{xs:List V}(Pv:Nat->St->List V->Hp->Prop)(h0:Pv 0 σ0 [] H0)(hlen:∀i σ vs H,i<=xs.length->Pv i σ vs H->vs.length<=i)(hn:xs.length<=sizeLine)(hl:∀i σ vs H,i<=xs.length->Pv i σ vs H->SqL K H a xs)
  (hs:∀i x σ vs H,xs[i]?=some x->Pv i σ vs H->g x σ H fun σ2 H2=>tt σ2 H2 fun ok H3=>if ok=true then te σ2 H3 fun v H4=>Pv (i+1) σ2 (vs++[v]) H4 else Pv (i+1) σ2 vs H3)
  (hd:∀σ vs H,Pv xs.length σ vs H->∀p,H p=none->Q (.ref p) (upd H p (.lst vs))):CompW (Itl K a) g tt te Q σ0 H0:=by
 refine comp_by xs.length Pv h0 hlen hn (fun i σ vs H hi p=>⟨xs,xs[i],hl i σ vs H (Nat.le_of_lt hi) p,by simp[hi]⟩) (fun σ vs H p=>⟨xs,hl _ σ vs H (Nat.le_refl _) p,Nat.le_refl _⟩) (fun i σ vs H x H' hi p y=>?_) hd
 obtain⟨rfl,y⟩:=y
 exact hs i x σ vs _ (y xs (hl i σ vs _ (Nat.le_of_lt hi) p)) p
end
section
variable {prog:Program}{w:World}{A:Around}{E:Value->Shared->Prop}{s:Shared}
end
structure ZTold(h:Heap) (lo:Nat) (xs ys:Array Value) (as:List Nat):Prop where
 rise:as.Pairwise (· < ·)
 low:∀a∈as,lo<=a
 pairs:∀(j:Nat) (a:Nat),as[j]?=some a->∃x y,xs[j]?=some x/\ys[j]?=some y/\IsPair h a x y
theorem ZTold.lt{h:Heap}{lo:Nat}{xs ys:Array Value}{as:List Nat}(g:ZTold h lo xs ys as){a:Nat}(ha:a∈as):a<h.objs.size:=by
 obtain⟨j,hj⟩:=List.mem_iff_getElem?.mp ha
 obtain⟨_,_,_,_,e⟩:=g.pairs j a hj
 exact Heap.lt_size e
theorem ZTold.keep{h h':Heap}{lo:Nat}{xs ys:Array Value}{as:List Nat}(g:ZTold h lo xs ys as)(k:∀c o,lo<=c->h.get? c=some o->h'.get? c=some o):ZTold h' lo xs ys as :=
 ⟨g.rise,g.low,fun j a e=>by
  obtain⟨x,y,e1,e2,e3⟩:=g.pairs j a e
  exact⟨x,y,e1,e2,k a _ (g.low a (List.mem_of_getElem? e)) e3⟩⟩
theorem ZTold.snoc{h h':Heap}{lo:Nat}{xs ys:Array Value}{as:List Nat}{n:Nat}{x y:Value}(g:ZTold h lo xs ys as)(k:∀c o,lo<=c->h.get? c=some o->h'.get? c=some o)(hn:lo<=n)(hn2:h.objs.size<=n)(hx:xs[as.length]?=some x)(hy:ys[as.length]?=some y)(hp:IsPair h' n x y) :
  ZTold h' lo xs ys (as++[n]):=by
 have g':=g.keep k
 refine⟨List.pairwise_append.mpr ⟨g.rise,List.pairwise_singleton _ _,fun a ha b hb=>?_⟩,fun a ha=>?_,fun j a e=>?_⟩
 ·rw[List.mem_singleton.mp hb];exact Nat.lt_of_lt_of_le (g.lt ha) hn2
 ·rcases List.mem_append.mp ha with h|h
  ·exact g.low a h
  ·rw[List.mem_singleton.mp h];exact hn
 ·rcases Nat.lt_trichotomy j as.length with hj|hj|hj
  ·rw[List.getElem?_append_left hj]at e;exact g'.pairs j a e
  ·subst hj
   rw[List.getElem?_append_right (Nat.le_refl _),Nat.sub_self]at e
   cases e
   exact⟨x,y,hx,hy,hp⟩
  ·rw[List.getElem?_eq_none (by rw[List.length_append,List.length_singleton];omega)]at e;cases e
section
variable {prog:Program}{w:World}{A:Around}{R:Result->Shared->Prop}{s:Shared}
end
section
variable {prog:Program}{w:World}{A:Around}{E:Value->Shared->Prop}{s:Shared}
end
section
variable {X:Cx}{pins:List (Addr×Obj)}{σ:St}{H H':Hp}{s:Shared}{h':Heap}
end
section
variable {X:Cx}{a b:Expr}{t:TA}{p1 p2 p3 p4:Pos}
end
def Its(x:Str):It:=⟨fun i _=>i<x.cps.size,fun i H v H'=>H'=H/\∃c,x.cps[i]?=some c/\v=.str ⟨#[c]⟩,fun i _=>i=x.cps.size⟩
theorem turn_str{P:Program}{w:World}{K:PySem.W.Frag}{tg:Expr}(it:Addr)(x:Str)(t:Tok)(ty:String)
  (W:∀A':Around,A'.handled=none->Walks P w A' it [it] [it] x.cps.size (SignAt x) (fun i h=>h.IsStrIter it ty x t i))
  (hty:["enumerate","zip","dict_itemiterator","dict_reverseitemiterator","odict_iterator","itertools.zip_longest","itertools.pairwise"].contains ty=false)
  (hself:∀(A:Around) (i:Nat) (s:Shared) (Q:Value->Shared->Prop) (E:Value->Shared->Prop),s.heap.IsStrIter it ty x t i->Q (.ref it) s->wpAny (model P w) A (pyIter (.ref it)) Q E s):Turn P w K tg (Its x) [it] it (fun i h=>h.IsStrIter it ty x t i) where
 mem:=by simp
 obj:=fun i h st b hb=>by
  have e:b=it:=by simpa using hb
  subst e
  obtain⟨o,e,c,d⟩:=st
  exact⟨o,e,fun v z=>by rw[d]at z;cases z⟩
 keep:=fun i h h' st k=>let⟨o,e,r⟩:=st;⟨o,k it (by simp) o e,r⟩
 item:=by
  intro X hP hw hK hc i pins s σ H E I hf st hg
  subst hP hw hK
  obtain⟨f0,f1,f2,f3,f4,f5⟩:=hf it (by simp)
  refine(W X.A (I.ok.hd hc)).item i s _ _ hg st fun v h' tk hv st' kk=>?_
  obtain⟨c,u,hcu,rfl⟩:=hv
  have I1:Inv X pins σ H {s with heap:=h',toks:=tk}:=I.turned (fun b o hb e=>kk b o (by simpa using hb) e) f0 f1 f3 f4 f5
  obtain⟨o,e,cl,d⟩:=id st'
  exact⟨_,rfl,go_of (s:={s with heap:=h',toks:=tk}) (n:=ty) e cl d hty ⟨.str ⟨#[c]⟩,H,I1,⟨u,rfl⟩,⟨rfl,c,hcu,rfl⟩,st',fun b hb=>(hf b hb).1⟩⟩
 done:=by
  intro X hP hw hK hc i pins s σ H E I hf st hg
  subst hP hw hK
  obtain⟨f0,f1,f2,f3,f4,f5⟩:=hf it (by simp)
  have hi:i=x.cps.size:=hg
  subst hi
  exact(W X.A (I.ok.hd hc)).done s _ _ st fun h' tk kk=>⟨rfl,I.turned (fun b o hb e=>kk b o (by simpa using hb) e) f0 f1 f3 f4 f5⟩
 self:=fun A i s Q E st h=>hself A i s Q E st h
section
variable {X:Cx}{tg:Expr}
def iStr(te:TE):TI:=fun σ H R=>te σ H fun v H1=>∃x,v=.str x/\R (Its x) H1
theorem pi_str{e:Expr}{te:TE}(he:PE X e te):PI X tg e (iStr te):=by
 intro pins s σ H R I h
 refine thn (he pins s σ H _ I h) fun v s1 ⟨y,H1,I1,r1,x,e1,q⟩=>?_
 subst e1
 obtain⟨t,rfl⟩:=r1
 have fin:∀b∈[s1.heap.objs.size],FpOk X pins H1 b:=fun b hb=>by
  have e:b=s1.heap.objs.size:=by simpa using hb
  subst e
  exact I1.fpOk (Nat.le_refl _) (I1.hok.fresh (Nat.le_refl _))
 cases ha:x.cps.all (· < 128)
 ·exact wpAny_pyIter_wide ha ⟨s1.heap.objs.size,[s1.heap.objs.size],_,_,H1,rfl,I1.kept (t':=s1.toks) fun b o e=>Heap.get?_push_of_some _ e,
   turn_str _ x t "str_iterator" (fun A' hA=>Walks.strWide hA _ x t) (by decide) (fun A i s Q E st h=>wpAny_pyIter_striter_wide st h),⟨_,Heap.get?_push_size _ rfl,rfl,rfl⟩,fin,q⟩
 ·exact wpAny_pyIter_ascii ha ⟨s1.heap.objs.size,[s1.heap.objs.size],_,_,H1,rfl,I1.kept (t':=s1.toks) fun b o e=>Heap.get?_push_of_some _ e,
   turn_str _ x t "str_ascii_iterator" (fun A' hA=>Walks.strAscii hA _ x t) (by decide) (fun A i s Q E st h=>wpAny_pyIter_striter_ascii st h),⟨_,Heap.get?_push_size _ rfl,rfl,rfl⟩,fin,q⟩
end
section
variable {X:Cx}
theorem strs_of:∀{ys:List Str}{us:List Value},Vals (ys.map V.str) us->StrsAre us ys
 | [],_,.nil=>.nil
 |_::_,_,.cons ⟨t,e⟩ r=>by subst e;exact .cons _ t (strs_of r)
def rJoin(K:PySem.W.Frag):V->List V->Hp->VK->Prop:=fun x vs H Q=>∃z p ys,x=.str z/\vs=[.ref p]/\SqL K H p (ys.map V.str)/\(ys.map (·.length)).sum+ys.length*z.length<=16777216/\Q (.str (Txt.join z ys)) H
theorem mt_join:MtR X "str.join" (rJoin X.K):=by
 intro pins s σ H x xs v us Q I rx rs h
 obtain⟨z,p,ys,rfl,rfl,hq,hb,q⟩:=h
 obtain⟨t,rfl⟩:=rx
 obtain⟨u,rfl,ru⟩:=vals1 rs
 cases ru
 obtain⟨its,rv,pl,hz⟩:=I.list hq
 exact join_list pl.isList (by simpa using strs_of rv) hb fun t' k=>⟨.str _,H,I.tok _,⟨_,rfl⟩,q⟩
theorem bools_of:∀{bs:List Bool}{us:List Value},Vals (bs.map V.bl) us->LSm.BoolsAre us bs
 | [],_,.nil=>.nil
 |_::_,_,.cons e r=>by cases e;exact .cons _ (bools_of r)
theorem call_all(hc:X.calm=true):CallR X (.builtin "all") (fun xs H Q=>∃(p:Addr) (bs:List Bool),xs=[.ref p]/\SqL X.K H p (bs.map V.bl)/\Q (.bl (bs.all id)) H):=by
 intro pins s σ H xs us Q I r h
 obtain⟨p,bs,rfl,hq,q⟩:=h
 obtain⟨u,rfl,ru⟩:=vals1 r
 cases ru
 obtain⟨its,rv,pl,hz⟩:=I.list hq
 have hb:=bools_of rv
 have hl:=pl.isList
 have hlt:p<s.heap.objs.size:=by obtain⟨_,e,_⟩:=hl;exact Heap.lt_size e
 refine call_all_walk (wpAny_pyIter_list hl ?_)
 refine⟨s.heap.objs.size,[s.heap.objs.size,p],[s.heap.objs.size],its.toArray.size,_,_,fun i=>(bs[i]?).getD true,rfl,Walks.list (A:=X.A.in1) (I.ok.hd hc) _ p (Nat.ne_of_lt hlt) its.toArray,
  ⟨⟨_,Heap.get?_push_size _ rfl,rfl,rfl⟩,hl.push _⟩,fun i v s' Q' E' hP hQ=>?_,fun h' tk hk=>?_⟩
 ·obtain⟨b,e,rfl⟩:=hb.get i v (by simpa using hP)
  simp only[e,Option.getD_some]at hQ
  exact wpAny_truthy_bool hQ
 ·have e:((List.range its.toArray.size).all fun i=>(bs[i]?).getD true)=bs.all id:=by
   rw[List.size_toArray,hb.length];exact LSm.range_all bs
  rw[e]
  exact⟨.bl _,H,I.kept (LSm.kept_iter hk),rfl,q⟩
def isB:V->String->Option Bool
 |.bl _,"bool"=>some true
 |.bl _,"int"=>some true
 |.int _,"int"=>some true
 |.int _,"bool"=>some false
 |_,_=>none
theorem call_isB:CallR X (.builtin "isinstance") (fun xs H Q=>∃x T r,xs=[x,.ty T]/\isB x T=some r/\Q (.bl r) H):=by
 intro pins s σ H xs us Q I r h
 obtain⟨x,T,b,rfl,e,q⟩:=h
 obtain⟨u,w',rfl,r1,r2⟩:=vals2 r
 obtain rfl:w'=Value.type T:=r2
 unfold isB at e
 split at e
 ·cases e;obtain rfl:u=Value.bool _:=r1;exact IsiPair.bool_bool ⟨.bl _,H,I,rfl,q⟩
 ·cases e;obtain rfl:u=Value.bool _:=r1;exact IsiPair.bool_int ⟨.bl _,H,I,rfl,q⟩
 ·cases e;obtain⟨t,rfl⟩:=r1;exact IsiPair.int_int ⟨.bl _,H,I,rfl,q⟩
 ·cases e;obtain⟨t,rfl⟩:=r1;exact IsiPair.int_bool ⟨.bl _,H,I.tok _,rfl,q⟩
 ·cases e
def rSlS:V->Option Int->Option Int->Hp->VK->Prop:=fun x lo hi H Q=>∃z,x=.str z/\z.length<=sizeLine/\Q (.str (Txt.slice z lo hi)) H
theorem part_of{v:Value}{o:Option Int}(h:IsPart v o):∃p:Option (Int×Tok),v=partValue p/\p.map (·.1)=o:=by
 cases h with
 |none=>exact⟨none,rfl,rfl⟩
 |int i t=>exact⟨some (i,t),rfl,rfl⟩
theorem sl_str:SlR X rSlS:=by
 intro pins s σ H x v vl vu lo hi sl Q I rx hs pl pu h
 obtain⟨z,rfl,hz,q⟩:=h
 obtain⟨t,rfl⟩:=rx
 obtain⟨p1,rfl,e1⟩:=part_of pl
 obtain⟨p2,rfl,e2⟩:=part_of pu
 refine⟨"str",_,PySem.F.slot_str_getitem.lookup,typeIs_str s z t,?_⟩
 refine wpAny_getItem_str_slice (l:=p1) (u:=p2) (st:=none) hs rfl ?_
 subst e1 e2
 cases p1<;>cases p2<;>exact post_val_or_str ⟨Nat.le_trans (Txt.slice_le z _ _) hz,fun t' k=>⟨.str _,H,I.tok _,⟨_,rfl⟩,q⟩⟩
end
def pickV(xs:List V)(lo hi st:Option Int):List V:=(sliceRange (sliceBounds lo hi st xs.length).1 (sliceBounds lo hi st xs.length).2.1 (sliceBounds lo hi st xs.length).2.2).filterMap (xs[·]?)
theorem vals_pick{xs:List V}{us:List Value}(r:Vals xs us):∀ix:List Nat,Vals (ix.filterMap (xs[·]?)) (ix.filterMap (us[·]?))
 | []=>.nil
 |i::ix=>by
  rw[List.filterMap_cons,List.filterMap_cons]
  cases e:xs[i]? with
  |none=>rw[r.none_of e];exact vals_pick r ix
  |some x =>
   obtain⟨u,e2,rx⟩:=r.get e
   rw[e2]
   exact .cons rx (vals_pick r ix)
section
variable {X:Cx}{e st:Expr}{lo hi:Option Expr}{te:TE}{tl th tk:TO}{p2 pos:Pos}
def tSl3(K:PySem.W.Frag)(te:TE)(tl th tk:TO):TE:=fun σ H Q=>te σ H fun x H1=>tl σ H1 fun l H2=>th σ H2 fun u H3=>tk σ H3 fun k H4=>∃a xs,x=.ref a/\SqL K H4 a xs/\k≠some 0/\(pickV xs l u k).length<=sizeLine /\
 ∀p,H4 p=none->Q (.ref p) (upd H4 p (.lst (pickV xs l u k)))
theorem pe_slice3(he:PE X e te)(hl:PO X lo tl)(hu:PO X hi th)(hk:PO X (some st) tk):PE X (.Subscript e (.Slice lo hi (some st) p2) pos) (tSl3 X.K te tl th tk):=by
 intro pins s σ H Q I h
 refine Subscript_ (thn (he pins s σ H _ I h) fun v s1 ⟨x,H1,I1,r1,q1⟩=>?_)
 refine wpAny_Slice (thn (hl pins s1 σ H1 _ I1 q1) fun vl s2 ⟨l,H2,I2,pl,q2⟩=>thn (hu pins s2 σ H2 _ I2 q2) fun vu s3 ⟨u,H3,I3,pu,q3⟩=>thn (hk pins s3 σ H3 _ I3 q3) fun vk s4 ⟨k,H4,I4,pk,q4⟩=>?_)
 obtain⟨a,xs,rfl,hx,k0,hz2,q⟩:=q4
 cases r1
 have I5:Inv X pins σ H4 {s4 with heap:=s4.heap.push {cls:=.type "slice",data:=.fields #[vl,vu,vk]}}:=I4.kept (t':=s4.toks) fun b ob q=>Heap.get?_push_of_some _ q
 obtain⟨its,r,ht,hz⟩:=I5.list hx
 have hlen:=r.length
 refine tail_any (T:="list") (ops:=[.ref a,.ref s4.heap.objs.size]) ht.isList.typeIs slot_list_getitem.lookup ?_ (by with_unfolding_all rfl)
 refine wpAny_getItem_list_slice ht.isList (Heap.IsSliceOf.new ..) pl pu pk k0 ?_ (by rw[List.size_toArray]<;>omega)
 have ep:slicePick its.toArray l u k=((sliceRange (sliceBounds l u k xs.length).1 (sliceBounds l u k xs.length).2.1 (sliceBounds l u k xs.length).2.2).filterMap (its[·]?)).toArray:=by
  unfold slicePick
  rw[List.size_toArray,←hlen]
  simp
 rw[ep]
 refine⟨.ref _,_,I5.laid (t':=s4.toks) (o:=.lst (pickV xs l u k)) (fun b ob q=>Heap.get?_push_of_some _ q) (Nat.le_refl _) ?_,rfl,q _ (I5.hok.fresh (Nat.le_refl _))⟩
 exact⟨hz2,_,0,vals_pick r _,Heap.get?_push_size _ rfl⟩
end
theorem pick_of{xs:List V}{lo hi st:Option Int}{ix:List Nat}(h:sliceRange (sliceBounds lo hi st xs.length).1 (sliceBounds lo hi st xs.length).2.1 (sliceBounds lo hi st xs.length).2.2=ix):pickV xs lo hi st=ix.filterMap (xs[·]?):=by
 unfold pickV
 rw[h]
def strE:Expr->Option Str
 |.Constant (.str x) _ _=>some x
 |_=>none
def strsOf:List Expr->Option (List Str)
 | []=>some []
 |e::r=>(strE e).bind fun x=>(strsOf r).map (x::·)
def tStrs(xs:List Str):TA:=fun _ H Q=>Q (xs.map V.str) H
theorem strE_eq{e:Expr}{x:Str}(h:strE e=some x):∃j p,e=.Constant (.str x) j p:=by
 unfold strE at h
 split at h
 ·cases h;exact⟨_,_,rfl⟩
 ·cases h
theorem pa_strs{X:Cx}{es:List Expr}:∀{xs:List Str},strsOf es=some xs->PA X es (tStrs xs):=by
 induction es with
 |nil=>intro xs h;cases h;exact pa_nil
 |cons e r ih =>
  intro xs h
  unfold strsOf at h
  cases h1:strE e with
  |none=>rw[h1]at h;cases h
  |some x =>
   cases h2:strsOf r with
   |none=>rw[h1,h2]at h;cases h
   |some ys =>
    rw[h1,h2]at h
    cases h
    obtain⟨j,p,rfl⟩:=strE_eq h1
    exact pa_cons pe_str (ih h2) rfl
end L2
namespace L2
open PySem PySem.Spec PyProof.Rows PySem.SeqAt
section
variable {X:Cx}
end
mutual
def Rp(K:PySem.W.Frag)(H:Hp):T->V->Prop
 |.s x,v=>v=.str x
 |.i n,v=>v=.int n
 |.n,v=>v=.non
 |.t xs,v=>∃a vs,v=.ref a/\SqT K H a vs/\Rps K H xs vs
def Rps(K:PySem.W.Frag)(H:Hp):List T->List V->Prop
 | [],vs=>vs=[]
 |x::r,vs=>∃v q,vs=v::q/\Rp K H x v/\Rps K H r q
end
def Kt(H H':Hp):Prop:=∀a xs,Rd H a (.tup xs)->Rd H' a (.tup xs)
theorem Kt.refl{H:Hp}:Kt H H:=fun _ _ h=>h
theorem Kt.trans{H H1 H2:Hp}(a:Kt H H1)(b:Kt H1 H2):Kt H H2:=fun c xs h=>b c xs (a c xs h)
theorem Kt.same{H H':Hp}(s:Same H H'):Kt H H':=fun a xs h=>h.elim (fun e=>.inl (s _ _ e)) fun⟨o,e⟩=>.inr ⟨o,s _ _ e⟩
theorem Kt.new{H:Hp}{p:Addr}(h:H p=none)(o:HO):Kt H (upd H p o):=fun a xs r=>r.elim (fun e=>.inl (by rw[upd_ne (ne_of_none e h)];exact e)) fun⟨u,e⟩=>.inr ⟨u,by rw[upd_ne (ne_of_none e h)];exact e⟩
theorem Kt.upd{H:Hp}{l:Addr}{u:HO}(h:H l=some u)(h1:∀xs,u≠.tup xs)(h2:∀o xs,u≠.frz o (.tup xs))(o:HO):Kt H (upd H l o):=fun a xs r=>by
 rcases r with e|⟨p,e⟩
 ·exact .inl (by rw[upd_ne (ne_of e h fun z=>h1 _ z.symm)];exact e)
 ·exact .inr ⟨p,by rw[upd_ne (ne_of e h fun z=>h2 _ _ z.symm)];exact e⟩
theorem Kt.lst{H:Hp}{l:Addr}{xs:List V}(h:H l=some (.lst xs))(o:HO):Kt H (L2.upd H l o):=Kt.upd h (fun _ z=>nomatch z) (fun _ _ z=>nomatch z) o
section
variable {K:PySem.W.Frag}{H H':Hp}
theorem SqT.kt(k:Kt H H'){a:Addr}{xs:List V}(h:SqT K H a xs):SqT K H' a xs:=h.elim (fun e=>.inl (k _ _ e)) .inr
theorem Rps.all(f:∀{x v},Rp K H x v->Rp K H' x v):∀{xs:List T}{vs:List V},Rps K H xs vs->Rps K H' xs vs
 | [],vs,h=>by unfold Rps at h⊢;exact h
 |x::r,vs,h=>by
  unfold Rps at h⊢
  obtain⟨v,q,e,h1,h2⟩:=h
  exact⟨v,q,e,f h1,Rps.all f h2⟩
theorem Rps.nil:Rps K H [] []:=by unfold Rps;rfl
theorem Rps.cons{x:T}{v:V}{r:List T}{q:List V}(h:Rp K H x v)(t:Rps K H r q):Rps K H (x::r) (v::q):=by unfold Rps;exact⟨v,q,rfl,h,t⟩
theorem Rps.inv{x:T}{r:List T}{vs:List V}(h:Rps K H (x::r) vs):∃v q,vs=v::q/\Rp K H x v/\Rps K H r q:=by unfold Rps at h;exact h
theorem Rps.inv0{vs:List V}(h:Rps K H [] vs):vs=[]:=by unfold Rps at h;exact h
theorem Rp.s{x:Str}:Rp K H (.s x) (.str x):=by unfold Rp;rfl
theorem Rp.i{n:Int}:Rp K H (.i n) (.int n):=by unfold Rp;rfl
theorem Rp.non:Rp K H .n .non:=by unfold Rp;rfl
theorem Rp.t{xs:List T}{vs:List V}{a:Addr}(h:SqT K H a vs)(r:Rps K H xs vs):Rp K H (.t xs) (.ref a):=by unfold Rp;exact⟨a,vs,rfl,h,r⟩
theorem Rp.inv_s{x:Str}{v:V}(h:Rp K H (.s x) v):v=.str x:=by unfold Rp at h;exact h
theorem Rp.inv_i{n:Int}{v:V}(h:Rp K H (.i n) v):v=.int n:=by unfold Rp at h;exact h
theorem Rp.inv_t{xs:List T}{v:V}(h:Rp K H (.t xs) v):∃a vs,v=.ref a/\SqT K H a vs/\Rps K H xs vs:=by unfold Rp at h;exact h
theorem Rp.kt(k:Kt H H'){x:T}:∀{v:V},Rp K H x v->Rp K H' x v:=by
 induction x using T.induct with
 |hs x=>intro v h;rw[h.inv_s];exact .s
 |hi x=>intro v h;rw[h.inv_i];exact .i
 |hn=>intro v h;unfold Rp at h;rw[h];exact .non
 |ht xs ih =>
  intro v h
  obtain⟨a,vs,rfl,hs,hr⟩:=h.inv_t
  refine .t (hs.kt k) ?_
  clear hs h
  induction xs generalizing vs with
  |nil=>rw[hr.inv0];exact .nil
  |cons x r ih2 =>
   obtain⟨v,q,rfl,h1,h2⟩:=hr.inv
   exact .cons (ih x (.head _) h1) (ih2 (fun y hy=>ih y (.tail _ hy)) _ h2)
theorem Rps.kt(k:Kt H H'){xs:List T}{vs:List V}(h:Rps K H xs vs):Rps K H' xs vs:=Rps.all (fun h=>h.kt k) h
theorem Rps.length:∀{xs:List T}{vs:List V},Rps K H xs vs->vs.length=xs.length
 | [],vs,h=>by rw[h.inv0];rfl
 |x::r,vs,h=>by
  obtain⟨v,q,rfl,_,h2⟩:=h.inv
  rw[List.length_cons,List.length_cons,Rps.length h2]
theorem Rps.get:∀{xs:List T}{vs:List V}{i:Nat}{x:T},Rps K H xs vs->xs[i]?=some x->∃v,vs[i]?=some v/\Rp K H x v
 | [],vs,i,x,h,e=>by simp at e
 |x::r,vs,0,y,h,e=>by
  obtain⟨v,q,rfl,h1,_⟩:=h.inv
  simp at e;subst e
  exact⟨v,rfl,h1⟩
 |x::r,vs,i+1,y,h,e=>by
  obtain⟨v,q,rfl,_,h2⟩:=h.inv
  obtain⟨w,h3,h4⟩:=Rps.get (i:=i) h2 (by simpa using e)
  exact⟨w,by simpa using h3,h4⟩
theorem Rps.get':∀{xs:List T}{vs:List V}{i:Nat}{v:V},Rps K H xs vs->vs[i]?=some v->∃x,xs[i]?=some x/\Rp K H x v:=fun{xs vs i v} h e=>by
 have l:=h.length
 have hi:i<xs.length:=by
  rcases Nat.lt_or_ge i vs.length with z|z
  ·omega
  ·rw[List.getElem?_eq_none_iff.mpr z]at e;cases e
 obtain⟨w,h1,h2⟩:=h.get (List.getElem?_eq_getElem hi)
 rw[e]at h1;cases h1
 exact⟨_,List.getElem?_eq_getElem hi,h2⟩
theorem Rps.append:∀{xs ys:List T}{vs ws:List V},Rps K H xs vs->Rps K H ys ws->Rps K H (xs++ys) (vs++ws)
 | [],ys,vs,ws,h,g=>by rw[h.inv0];exact g
 |x::r,ys,vs,ws,h,g=>by
  obtain⟨v,q,rfl,h1,h2⟩:=h.inv
  exact .cons h1 (Rps.append h2 g)
theorem Rps.one{x:T}{v:V}(h:Rp K H x v):Rps K H [x] [v]:=.cons h .nil
theorem Rps.snoc{xs:List T}{vs:List V}{x:T}{v:V}(h:Rps K H xs vs)(g:Rp K H x v):Rps K H (xs++[x]) (vs++[v]):=h.append (.one g)
theorem Rps.split:∀{xs ys:List T}{vs:List V},Rps K H (xs++ys) vs->∃ws us,vs=ws++us/\Rps K H xs ws/\Rps K H ys us
 | [],ys,vs,h=>⟨[],vs,rfl,.nil,h⟩
 |x::r,ys,vs,h=>by
  obtain⟨v,q,rfl,h1,h2⟩:=Rps.inv h
  obtain⟨ws,us,rfl,h3,h4⟩:=Rps.split h2
  exact⟨v::ws,us,rfl,.cons h1 h3,h4⟩
end
section
variable {X:Cx}{pins:List (Addr×Obj)}{σ:St}{H:Hp}{s:Shared}
theorem isTuple_of{h:Heap}{a:Addr}{its:Array Value}(p:IsTup h a its):h.IsTuple a its:=p
theorem Room.u150{k:Nat}{A:Around}(r:Room k A):A.units+150<cLine:=by have:=r.un;omega
end
end L2
namespace L2
open PySem PySem.Spec PyProof.Rows
theorem ifT{b:Bool}{A B:Prop}(e:b=true)(h:A):if b=true then A else B:=by rw[if_pos e];exact h
theorem ifF{b:Bool}{A B:Prop}(e:b=false)(h:B):if b=true then A else B:=by rw[if_neg (by rw[e];exact Bool.false_ne_true)];exact h
section
variable {X:Cx}
theorem pg_tupK{pos:Pos}{es:List Expr}{k:Nat}{t:TGs}{n:Nat}(K:PySem.W.Frag)(hK:X.K=K)(hc:X.calm=true)(h:PGs X es t)(hn:(assignEach es X.env).length=n:=by rfl)(hst:(assignEach es X.env).findIdx? (·.1)=none:=by rfl):PG X (.Tuple es k pos) (gTup K n t):=by
 subst hK
 exact pg_tup hc h hn hst
theorem op_in_seqK(K:PySem.W.Frag)(hK:X.K=K):OpR X (compareOp .In) (rIn K false):=by subst hK;exact op_in_seq
def KDs(w:World):List DictEntry->List (Str×V)->Prop
 | [],kvs=>kvs=[]
 |e::r,kvs=>∃x v q,kvs=(x,v)::q/\(∃t,e.key=.str x t)/\e.hash=hashStr w x/\RelV v e.val/\KDs w r q
def KD(K:PySem.W.Frag)(w:World)(d:Addr)(kvs:List (Str×V)):Prop :=
 ∃(es:Array DictEntry) (n:Nat),K.lookup d=some {cls:=.type "dict",dict:=none,data:=.dict es n,slots:=#[]}/\KDs w es.toList kvs/\(kvs.map (·.1)).Nodup/\(d == sysModules)=false
theorem KDs.keys{w:World}{P:Program}:∀{es:List DictEntry}{kvs:List (Str×V)},KDs w es kvs->∃vs:List (Str×Value),Pairs (PySem.strKind P w) es vs/\(∀e∈es,∃k,(PySem.strKind P w).is k e.key=true/\e.hash=(PySem.strKind P w).hash k)/\vs.map (·.1)=kvs.map (·.1) /\
  ∀k,RelO (kvs.lookup k) (valueAt vs k)
 | [],kvs,h=>by
  obtain rfl:kvs=[]:=h
  exact⟨[],.nil,(fun _ h=>nomatch h),rfl,fun _=>trivial⟩
 |e::r,kvs,h=>by
  obtain⟨x,v,q,rfl,⟨t,hk⟩,hh,rv,hr⟩:=h
  obtain⟨vs,h1,h2,h3,h4⟩:=KDs.keys (P:=P) hr
  have ek:(PySem.strKind P w).is x e.key=true:=by rw[hk];exact(by simp[PySem.strKind,Value.isStrOf]:(PySem.strKind P w).is x (.str x t)=true)
  refine⟨(x,e.val)::vs,.cons ek rfl h1,fun e' he=>?_,by rw[List.map_cons,List.map_cons,h3],fun k=>?_⟩
  ·cases he with
   |head=>exact⟨x,ek,hh⟩
   |tail _ he=>exact h2 e' he
  ·rw[List.lookup_cons]
   by_cases c:k=x
   ·subst c
    rw[beq_self_eq_true]
    simp only[valueAt,List.find?_cons,decide_true,Option.map_some]
    exact rv
   ·rw[beq_false_of_ne c]
    have z:=h4 k
    have e1:valueAt ((x,e.val)::vs) k=valueAt vs k:=by
     simp only[valueAt,List.find?_cons]
     rw[decide_eq_false (fun q=>c q.symm)]
    rw[e1]
    exact z
theorem KD.dict{K:PySem.W.Frag}{P:Program}{w:World}{d:Addr}{kvs:List (Str×V)}(D:KD K w d kvs){h:Heap}(X:K.In h):∃vs,h.DictOf (PySem.strKind P w) d vs/\(d == sysModules)=false/\∀k,RelO (kvs.lookup k) (valueAt vs k):=by
 obtain⟨es,n,e,hs,nd,hd⟩:=D
 obtain⟨vs,h1,h2,h3,h4⟩:=KDs.keys (P:=P) hs
 exact⟨vs,⟨_,es,n,X _ _ e,⟨rfl,rfl,rfl⟩,rfl,fun e' he=>h2 e' (by simpa using he),h1,by rw[h3];exact nd⟩,hd,h4⟩
theorem strK_is{P:Program}{w:World}{x:Str}{t:Tok}:(PySem.strKind P w).is x (.str x t)=true:=by simp[PySem.strKind,Value.isStrOf]
def rKIn(K:PySem.W.Frag)(w:World):R2:=fun x y H Q=>∃k d kvs,x=.str k/\y=.ref d/\KD K w d kvs/\Q (.bl (kvs.lookup k).isSome) H
theorem RelO.isSome'{a:Option V}{b:Option Value}(r:RelO a b):b.isSome=a.isSome:=by
 cases a<;>cases b<;>first|rfl|exact r.elim
theorem op_inKD:OpR X (compareOp .In) (rKIn X.K X.w):=by
 intro pins s σ H x y v u Q I rx ry h
 obtain⟨k,d,kvs,rfl,rfl,D,q⟩:=h
 obtain⟨t,rfl⟩:=rx
 obtain rfl:u=Value.ref d:=ry
 obtain⟨vs,dd,hd,rel⟩:=D.dict (P:=X.prog) I.kIn
 refine wpAny_in_of strK_is hd dd.mapOf ?_
 rw[(rel k).isSome']
 exact⟨.bl _,H,I.tok _,rfl,q⟩
def tKGet(K:PySem.W.Frag)(w:World)(td ty:TE):TE:=fun σ H Q=>td σ H fun x H1=>ty σ H1 fun y H2=>∃d kvs k v,x=.ref d/\y=.str k/\KD K w d kvs/\kvs.lookup k=some v/\Q v H2
theorem pe_kget{o i:Expr}{pos:Pos}{td ty:TE}(ho:PE X o td)(hi:PE X i ty)(hs:NoSl i):PE X (.Subscript o i pos) (tKGet X.K X.w td ty):=by
 intro pins s σ H Q I h
 refine subD_of PySem.F.slot_dict_getitem.lookup hs (thn (ho pins s σ H _ I h) fun u s1 ⟨x,H1,I1,rx,q1⟩=>thn (hi pins s1 σ H1 _ I1 q1) fun iv s2 ⟨y,H2,I2,ry,d,kvs,k,v,ex,ey,D,lk,q2⟩=>?_)
 subst ex ey
 obtain rfl:u=Value.ref d:=rx
 obtain⟨t,rfl⟩:=ry
 obtain⟨vs,dd,hd,rel⟩:=D.dict (P:=X.prog) I2.kIn
 obtain⟨w',hw,rw'⟩:=RelO.some_of (v:=v) (o:=valueAt vs k) (by rw[←lk];exact rel k)
 exact⟨dd.typeIs,wpAny_getItem_of strK_is dd.mapOf hw ⟨v,H2,I2.tok _,rw',q2⟩⟩
end
section
variable {g:TG}{tt:TT}{te:TE}{Q:VK}{σ0:St}{H0:Hp}
theorem comp_tup{K:PySem.W.Frag}{a:Addr}{xs:List V}(Pv:Nat->St->List V->Hp->Prop)(h0:Pv 0 σ0 [] H0)(hlen:∀i σ vs H,i<=xs.length->Pv i σ vs H->vs.length<=i)(hn:xs.length<=sizeLine)(hl:∀i σ vs H,i<=xs.length->Pv i σ vs H->SqT K H a xs)
  (hs:∀i x σ vs H,xs[i]?=some x->Pv i σ vs H->g x σ H fun σ2 H2=>tt σ2 H2 fun ok H3=>if ok=true then te σ2 H3 fun v H4=>Pv (i+1) σ2 (vs++[v]) H4 else Pv (i+1) σ2 vs H3)
  (hd:∀σ vs H,Pv xs.length σ vs H->∀p,H p=none->Q (.ref p) (upd H p (.lst vs))):CompW (Itt K a) g tt te Q σ0 H0:=by
 refine comp_by xs.length Pv h0 hlen hn (fun i σ vs H hi p=>⟨xs,xs[i],hl i σ vs H (Nat.le_of_lt hi) p,by simp[hi]⟩) (fun σ vs H p=>⟨xs,hl _ σ vs H (Nat.le_refl _) p,Nat.le_refl _⟩) (fun i σ vs H x H' hi p y=>?_) hd
 obtain⟨rfl,y⟩:=y
 exact hs i x σ vs _ (y xs (hl i σ vs _ (Nat.le_of_lt hi) p)) p
end
section
variable {X:Cx}{pins:List (Addr×Obj)}{σ:St}{H:Hp}{s:Shared}
end
theorem atS{z:Str}{r:Int}(h0:0<=r)(h:r<(z.length:Int)):∃c,atI z.cps.toList r=some c/\c∈z.cps.toList:=by
 have e:z.cps.toList.length=z.length:=by simp[Str.length]
 have hk:r.toNat<z.cps.toList.length:=by rw[e];omega
 have ek:r=((r.toNat:Nat):Int):=by omega
 have q:atI z.cps.toList ((r.toNat:Nat):Int)=some z.cps.toList[r.toNat]:=atI_nat (List.getElem?_eq_getElem hk)
 rw[←ek]at q
 exact⟨_,q,List.getElem_mem hk⟩
theorem join_cs(cs:List Nat):Txt.join "" (cs.map fun c=>(⟨#[c]⟩:Str))=⟨cs.toArray⟩:=by
 show Builtin.Str.glued (Str.ofString "") _=_
 rw[StrLaws.glued_eq_join]
 exact PyProof.Rows.join_ones cs
theorem sum_ones(l:List Nat):((l.map fun c=>(⟨#[c]⟩:Str)).map (·.length)).sum=l.length:=by
 induction l with
 |nil=>rfl
 |cons c r ih=>rw[List.map_cons,List.map_cons,List.sum_cons,ih,List.length_cons];show 1+_=_;omega
theorem empty_app{z:Str}:Str.empty++z=z:=by
 cases z with|mk c=>show(⟨#[]++c⟩:Str)=⟨c⟩;rw[Array.empty_append]
def fmtV(v:V)(Q:Str->Prop):Prop:=(∃x,v=.str x/\x.length<=65535/\Q x)\/∃i:Int,v=.int i/\i.natAbs<1000000/\Q (Str.ofString (toString i))
section
variable {X:Cx}{e:Expr}{te:TE}{z z':Str}{k k':Nat}{p1 p2 p3 p4:Pos}
theorem fv_ok{pins:List (Addr×Obj)}{σ:St}{H:Hp}{s:Shared}{R:Str->Hp->Prop}(he:PE X e te)(I:Inv X pins σ H s)(h:te σ H fun v H1=>fmtV v fun y=>R y H1){Q:Value->Shared->Prop}
  (hq:∀s' H' y t,Inv X pins σ H' s'->R y H'->y.length<=sizeLine->Q (.str y t) s'):wpAny (model X.prog X.w) X.A (eval (.FormattedValue e (-1) none p1) X.env) Q X.xe s:=by
 refine wpAny_FormattedValue_plain (thn (he pins s σ H _ I h) fun u s1 ⟨v,H1,I1,r1,q1⟩=>?_)
 rcases q1 with⟨x,rfl,hx,q⟩|⟨i,rfl,hi,q⟩
 ·obtain⟨t,rfl⟩:=r1
  have hx':x.length<=sizeLine:=by rw[sizeLine_eq];omega
  exact wpAny_formatField_str (hq _ _ _ _ I1 q hx') (hq _ _ _ _ (I1.tok _) q hx') hx'
 ·obtain⟨t,rfl⟩:=r1
  have hl:i.natAbs.log2<1920:=by
   have:i.natAbs.log2<=i.natAbs:=Nat.log2_le_self _
   by_cases h0:i.natAbs=0
   ·rw[h0];decide
   ·exact(Nat.log2_lt h0).mpr (Nat.lt_of_lt_of_le hi (Nat.le_trans (by decide:1000000<=2 ^ 20) (Nat.pow_le_pow_right (by decide) (by decide))))
  exact wpAny_formatField_int hl (hq _ _ _ _ (I1.tok _) q (int_text_fits hl))
def tFB(z z':Str)(te:TE):TE:=fun σ H Q=>te σ H fun v H1=>fmtV v fun y=>z.length+y.length+z'.length<=100000/\Q (.str (z++y++z')) H1
theorem pe_fB(he:PE X e te)(hz:z.length<=1000:=by decide):PE X (.JoinedStr [.Constant (.str z) k p1,.FormattedValue e (-1) none p2,.Constant (.str z') k' p3] p4) (tFB z z' te):=by
 intro pins s σ H Q I h
 have hz1:(Str.empty++z).length<=sizeLine:=by rw[empty_app,sizeLine_eq];omega
 refine wpAny_JoinedStr (v₁:=.Constant (.str z) k p1) (v₂:=.FormattedValue e (-1) none p2) (rest:=[.Constant (.str z') k' p3]) ?_
 refine Calls.Constant_str ⟨_,_,rfl,hz1,?_⟩
 refine fv_ok (R:=fun y H1=>z.length+y.length+z'.length<=100000/\Q (.str (z++y++z')) H1) he (I.tok _) h fun s' H' y t I' ⟨hl,q⟩ hy=>?_
 have e1:Str.empty++z++y=z++y:=by rw[empty_app]
 have hl2:(Str.empty++z++y).length<=sizeLine:=by rw[e1,strLen_append,sizeLine_eq];omega
 have hl3:(Str.empty++z++y++z').length<=sizeLine:=by rw[e1,strLen_append,strLen_append,sizeLine_eq];omega
 exact⟨_,_,rfl,hl2,Calls.Constant_str ⟨_,_,rfl,hl3,hl3,.str (z++y++z'),H',(I'.tok _),⟨_,by rw[e1]⟩,q⟩⟩
theorem mt_startswith:MtR X "str.startswith" (fun x vs H Q=>∃z y,x=.str z/\vs=[.str y]/\Q (.bl (Txt.startswith z y)) H):=by
 intro pins s σ H x xs v us Q I rx rs h
 obtain⟨z,y,rfl,rfl,q⟩:=h
 obtain⟨t,rfl⟩:=rx
 obtain⟨u,rfl,t',rfl⟩:=vals1 rs
 exact call_gives F.slot_str_startswith (typeIs_str _ _ _) F.entry_str_startswith (F.args_str_startswith_2 _ _) (gives_str_startswith z y t t') ⟨.bl _,H,I,rfl,q⟩
theorem vals_strs:∀(l:List (Str×Tok)),Vals ((l.map (·.1)).map V.str) (strValues l)
 | []=>.nil
 |(x,t)::r=>.cons ⟨t,rfl⟩ (vals_strs r)
theorem mt_split:MtR X "str.split" (fun x vs H Q=>∃z y,x=.str z/\vs=[.str y]/\(y.length == 0)=false/\z.length<=100000/\∀p,H p=none->Q (.ref p) (upd H p (.lst ((Txt.split z y).map V.str)))):=by
 intro pins s σ H x xs v us Q I rx rs h
 obtain⟨z,y,rfl,rfl,hy,hz,q⟩:=h
 obtain⟨t,rfl⟩:=rx
 obtain⟨u,rfl,t',rfl⟩:=vals1 rs
 have hn:(Builtin.Str.partsBetween z (Builtin.Str.occurrences z y 0 z.length (z.length+1)) y.length).length<=sizeLine:=by
  have e1:=StrLaws.occ_length_le z y 0 z.length (z.length+1)
  rw[length_partsBetween,sizeLine_eq]
  omega
 have fin:∀(l:List (Str×Tok)) (k:Nat),l.map (·.1)=Txt.split z y->l.length<=sizeLine->EP X pins σ Q (.ref s.heap.objs.size) {s with toks:=k,heap:=s.heap.push {cls:=.type "list",data:=.seq (strValues l).toArray}}:=fun l k el hl=>by
  refine⟨.ref s.heap.objs.size,upd H s.heap.objs.size (.lst ((Txt.split z y).map V.str)),I.laid (t':=k) (fun b o e=>Heap.get?_push_of_some _ e) (Nat.le_refl _) ?_,rfl,q _ (I.hok.fresh (Nat.le_refl _))⟩
  refine⟨by rw[List.length_map,←el,List.length_map];exact hl,strValues l,0,?_,Heap.get?_push_size _ rfl⟩
  rw[←el]
  exact vals_strs l
 cases h1:(decide (z.length<y.length)||decide (Builtin.Str.strKind z<Builtin.Str.strKind y))
 ·cases hf:(Builtin.Str.occurrences z y 0 z.length (z.length+1)).isEmpty
  ·refine call_meets F.slot_str_split (typeIs_str _ _ _) F.entry_str_split (F.args_str_split_2 _ _) (meets_str_split_sep z y t t' h1 hy hf (by rw[sizeLine_eq];omega) hn) ?_
   show wants _ _ _ {s with toks:=_,heap:=s.heap.push {cls:=.type "list",data:=.seq (strsFrom s.toks (Builtin.Str.partsBetween z (Builtin.Str.occurrences z y 0 z.length (z.length+1)) y.length)).toArray}}
   rw[strsFrom_eq]
   have e:(numbered s.toks (Builtin.Str.partsBetween z (Builtin.Str.occurrences z y 0 z.length (z.length+1)) y.length)).map (·.1)=Txt.split z y:=((numbered_texts s.toks (Builtin.Str.partsBetween z (Builtin.Str.occurrences z y 0 z.length (z.length+1)) y.length)).trans ((if_neg (ne_true_of_eq_false h1)).trans (if_neg (ne_true_of_eq_false hf))).symm)
   refine fin (numbered s.toks _) _ e ?_
   have e2:=congrArg List.length (numbered_texts s.toks (Builtin.Str.partsBetween z (Builtin.Str.occurrences z y 0 z.length (z.length+1)) y.length))
   rw[List.length_map]at e2
   rw[e2]
   exact hn
  ·exact call_meets F.slot_str_split (typeIs_str _ _ _) F.entry_str_split (F.args_str_split_2 _ _) (meets_str_split_not_found z y t t' h1 hy hf)
    (fin [(z,t)] s.toks ((if_neg (ne_true_of_eq_false h1)).trans (if_pos hf)).symm (by show 1<=sizeLine;decide))
 ·exact call_meets F.slot_str_split (typeIs_str _ _ _) F.entry_str_split (F.args_str_split_2 _ _) (meets_str_split_cannot_occur z y t t' h1)
   (fin [(z,t)] s.toks (if_pos h1).symm (by show 1<=sizeLine;decide))
theorem call_intS:CallR X (.type "int") (fun xs H Q=>∃n:Int,xs=[.str (Str.ofString (toString n))]/\0<=n/\n<1000000/\Q (.int n) H):=by
 intro pins s σ H xs us Q I r h
 obtain⟨n,rfl,h0,h1,q⟩:=h
 obtain⟨u,rfl,t,rfl⟩:=vals1 r
 exact PySem.W.KIN.call_num h0 (by omega) ⟨.int n,H,I.tok _,⟨_,rfl⟩,q⟩
theorem call_strV:CallR X (.type "str") (fun xs H Q=>(∃x,xs=[.str x]/\Q (.str x) H)\/∃i:Int,xs=[.int i]/\i.natAbs<1000000/\Q (.str (Str.ofString (toString i))) H):=by
 intro pins s σ H xs us Q I r h
 rcases h with⟨x,rfl,q⟩|⟨i,rfl,hi,q⟩
 ·obtain⟨u,rfl,t,rfl⟩:=vals1 r
  exact PySem.P.str_of_str ⟨.str x,H,I,⟨_,rfl⟩,q⟩
 ·obtain⟨u,rfl,t,rfl⟩:=vals1 r
  have hl:i.natAbs.log2<1920:=by
   by_cases h0:i.natAbs=0
   ·rw[h0];decide
   ·exact(Nat.log2_lt h0).mpr (Nat.lt_of_lt_of_le hi (Nat.le_trans (by decide:1000000<=2 ^ 20) (Nat.pow_le_pow_right (by decide) (by decide))))
  exact PySem.P.str_of_int hl ⟨.str _,H,I.tok _,⟨_,rfl⟩,q⟩
end
section
variable {X:Cx}{pins:List (Addr×Obj)}{σ:St}{H:Hp}{s:Shared}
theorem store_exact{M:Model}{A:Around}{E:Value->Shared->Prop}{i:Nat}{x:Str}{v:V}{u:Value}{Q:Unit->Shared->Prop}(I:Inv X pins σ H s)(hN:X.N.Nodup)(hi:X.N[i]?=some x)(hk:X.env.scope.names.lookup x=some .local)(r:RelV v u)
  (h:∀h' m,Inv X pins (σ.set i (some v)) H {s with heap:=h',toks:=s.toks+1}->h'.Ns X.env.locals m->m x=some u->Heap.SameBut X.env.locals s.heap h'->Q () {s with heap:=h',toks:=s.toks+1}):wpAny M A (storeName X.env x u) Q E s:=by
 obtain⟨m,hn,hl⟩:=id I.loc
 obtain⟨oL,_,_,hoL,_⟩:=id hn
 have hiσ:i<σ.length:=by rw[I.len];exact(List.getElem?_eq_some_iff.mp hi).1
 refine wpAny_storeName_local hk hn (fun h' hn' hs=>h h' _ ?_ hn' (by simp) hs) (by rw[I.ok.kind];rfl)
 have old:∀b o,X.s₀.heap.get? b=some o->h'.get? b=s.heap.get? b:=fun b o e=>hs.2 b (Nat.ne_of_lt (Nat.lt_of_lt_of_le (Heap.lt_size e) I.ok.above))
 exact{
  ok:=I.ok
  os:=I.os
  bare:=I.bare
  base:={
   keep:=fun b o e n hb hx=>(old b o e).trans (I.base.keep b o e n hb hx)
   slot:=fun b o e n hb hx=>let⟨sl,q⟩:=I.base.slot b o e n hb hx;⟨sl,(old b o e).trans q⟩
   free:=I.base.free
   there:=fun b o e hx=>let⟨o',q⟩:=I.base.there b o e hx;⟨o',(old b o e).trans q⟩
   tups:=I.base.tups
   frzs:=I.base.frzs
   tbls:=I.base.tbls}
  loc:=⟨_,hn',fun j y v' e1 e2 e3=>by
   by_cases hj:j=i
   ·subst hj
    rw[hi]at e1
    cases e1
    rw[List.getElem?_set_self hiσ]at e2
    cases e2
    exact⟨u,r,.inl ⟨hk,by simp⟩⟩
   ·rw[List.getElem?_set_ne (Ne.symm hj)]at e2
    obtain⟨u',r',q⟩:=hl j y v' e1 e2 e3
    refine⟨u',r',?_⟩
    rcases q with⟨k,e⟩|⟨k,c,e,z⟩
    ·have ne:y≠x:=fun e=>hj (nodup_ix hN e1 (e▸hi))
     exact .inl ⟨k,by simp[ne,e]⟩
    ·exact .inr ⟨k,c,e,z.sameBut hs (I.cne y c e)⟩⟩
  cell:=fun y c e=>let⟨w',z⟩:=I.cell y c e;⟨w',z.sameBut hs (I.cne y c e)⟩
  free:=I.free
  freeC:=I.freeC
  pin:=fun p hp=>let⟨e,n,ne,nf,d⟩:=I.pin p hp;⟨(hs.2 p.1 ne).trans e,n,ne,nf,d⟩
  hok:=fun b ob e=>by
   refine(I.hok b ob e).stay (fun c w' hc q=>(hs.2 c ?_).trans q) (fun _ q=>q) fun _ _ q=>q
   rintro rfl
   rcases hc with rfl|hc
   ·rw[I.free]at e;cases e
   ·rw[I.free]at hc;cases hc
  len:=by simpa using I.len}
def Jo(X:Cx)(sg:Str)(jo:Expr)(g:Nat->Str):Prop:=∀(s:Shared) (m:Str->Option Value) (c:Nat) (t:Tok) (Q E:Value->Shared->Prop),X.env.scope.kind=.function->s.heap.Ns X.env.locals m->m sg=some (.str ⟨#[c]⟩ t) ->
 (∀(v k:Nat),s.toks<=v->v<k->Q (.str (g c) v) {s with toks:=k})->wpAny (model X.prog X.w) X.A (eval jo X.env) Q E s
theorem jo_behind{sg z:Str}{p1 p2 p3 p4:Pos}{k:Nat}(hk:X.env.scope.names.lookup sg=some .local)(hz:z.length<=1000)(hd:(sg == ("__debug__":Str))=false:=by decide) :
  Jo X sg (.JoinedStr [.FormattedValue (.Name sg p1) (-1) none p2,.Constant (.str z) k p3] p4) (fun c=>Str.empty++⟨#[c]⟩++z):=by
 intro s m c t Q E hf hn hm h
 have hs1:(Str.empty++(⟨#[c]⟩:Str)).length<=sizeLine:=by rw[strLen_append];show 0+1<=sizeLine;decide
 have hs2:(Str.empty++(⟨#[c]⟩:Str)++z).length<=sizeLine:=by
  rw[strLen_append,strLen_append]
  show 0+1+z.length<=sizeLine
  have:(1001:Nat)<=sizeLine:=by decide
  omega
 refine wpAny_JoinedStr (v₁:=.FormattedValue (.Name sg p1) (-1) none p2) (v₂:=.Constant (.str z) k p3) (rest:=[]) ?_
 refine wpAny_FormattedValue_plain (wpAny_Name (wpAny_loadName_local hf hk hn hm ?_) hd)
 refine wpAny_formatField_str ?_ ?_ (by show 1<=sizeLine;decide)
 ·exact⟨_,_,rfl,hs1,Calls.Constant_str ⟨_,_,rfl,hs2,hs2,h _ _ (Nat.le_succ _) (Nat.lt_succ_self _)⟩⟩
 ·exact⟨_,_,rfl,hs1,Calls.Constant_str ⟨_,_,rfl,hs2,hs2,h _ _ (Nat.le_trans (Nat.le_succ _) (Nat.le_succ _)) (Nat.lt_succ_self _)⟩⟩
theorem jo_ahead{sg z:Str}{p1 p2 p3 p4:Pos}{k:Nat}(hk:X.env.scope.names.lookup sg=some .local)(hz:z.length<=1000)(hd:(sg == ("__debug__":Str))=false:=by decide) :
  Jo X sg (.JoinedStr [.Constant (.str z) k p3,.FormattedValue (.Name sg p1) (-1) none p2] p4) (fun c=>Str.empty++z++⟨#[c]⟩):=by
 intro s m c t Q E hf hn hm h
 have hs1:(Str.empty++z).length<=sizeLine:=by
  rw[strLen_append]
  show 0+z.length<=sizeLine
  have:(1000:Nat)<=sizeLine:=by decide
  omega
 have hs2:(Str.empty++z++(⟨#[c]⟩:Str)).length<=sizeLine:=by
  rw[strLen_append,strLen_append]
  show 0+z.length+1<=sizeLine
  have:(1001:Nat)<=sizeLine:=by decide
  omega
 refine wpAny_JoinedStr (v₁:=.Constant (.str z) k p3) (v₂:=.FormattedValue (.Name sg p1) (-1) none p2) (rest:=[]) ?_
 refine Calls.Constant_str ⟨_,_,rfl,hs1,?_⟩
 refine wpAny_FormattedValue_plain (wpAny_Name (wpAny_loadName_local hf hk hn hm ?_) hd)
 refine wpAny_formatField_str ?_ ?_ (by show 1<=sizeLine;decide)
 ·exact⟨_,_,rfl,hs2,hs2,h _ _ (Nat.le_succ _) (Nat.lt_succ_self _)⟩
 ·exact⟨_,_,rfl,hs2,hs2,h _ _ (Nat.le_trans (Nat.le_succ _) (Nat.le_succ _)) (Nat.lt_succ_self _)⟩
end
def repl(g:Nat->Str)(x:Str)(cs:List Nat):Str:=cs.foldl (fun x c=>Txt.replace x ⟨#[c]⟩ (g c)) x
def tRepl(i j:Nat)(g:Nat->Str)(cs:Str):TS:=fun D σ H=>∃x,σ[i]?=some (some (.str x))/\(∀k,(repl g x (cs.cps.toList.take k)).length<=65535)/\D.nx ((σ.set i (some (.str (repl g x cs.cps.toList)))).set j none) H
section
variable {X:Cx}
theorem ps_repl{i j:Nat}{sg tx cs:Str}{jo:Expr}{g:Nat->Str}{k:Nat}{p0 p1 p2 p3 p4 p5 p6 p7 p8:Pos}(hc:X.calm=true)(hN:X.N.Nodup)(hi:X.N[i]?=some tx)(hj:X.N[j]?=some sg)
  (ht:X.env.scope.names.lookup tx=some .local) (hg:X.env.scope.names.lookup sg=some .local) (hjo:Jo X sg jo g) (hgl:∀c,(g c).length<=100) (hgn:∀c,((⟨#[c]⟩:Str) == g c)=false) (hij:i≠j) (hascii:cs.cps.all (· < 128)=true)
  (hd:(tx == ("__debug__":Str))=false:=by decide) (hd2:(sg == ("__debug__":Str))=false:=by decide)
  (hbase:attributeBase (.Name tx p3) "replace" X.env (eval (.Name tx p3) X.env)=eval (.Name tx p3) X.env:=by rfl)
  (hfew:((backTo p6 (starEach [.Name sg p5,jo] X.env)).all (fun x=>!x.1)&&(backToKw p6 (keywordEach [] X.env)).all (fun x=>x.1.isSome)
   && decide (([.Name sg p5,jo]:List Expr).length+([]:List Keyword).length+(if([]:List Keyword).isEmpty then 0 else 1)<30))=true:=by rfl)
  (hline:(p4.endLine == p6.line)=true:=by rfl)
  (hs1:starEach [.Name sg p5,jo] X.env=[(false,eval (.Name sg p5) X.env),(false,eval jo X.env)]:=by rfl)
  (hbt:backTo p6 [(false,eval (.Name sg p5) X.env),(false,eval jo X.env)]=[(false,eval (.Name sg p5) X.env),(false,eval jo X.env)]:=by rfl)
  (hsw:swapsWith (.Call (.Attribute (.Name tx p3) "replace" p4) [.Name sg p5,jo] [] p6) (some (.Name tx p2)) p7.line X.env=pure false:=by rfl)
  (hfs:∀x,foldedSetIterable (.Constant (.str cs) k p1) X.env x=pure x:=by intro _;rfl) :
  PS X (.For (.Name sg p0) (.Constant (.str cs) k p1) [.Assign [.Name tx p2] (.Call (.Attribute (.Name tx p3) "replace" p4) [.Name sg p5,jo] [] p6) p7] [] p8) (tRepl i j g cs):=by
 intro pins s σ H D I h
 obtain⟨x,hx,hlen,hq⟩:=h
 have hiσ:i<σ.length:=by rw[I.len];exact(List.getElem?_eq_some_iff.mp hi).1
 have hjσ:j<σ.length:=by rw[I.len];exact(List.getElem?_eq_some_iff.mp hj).1
 refine wpAny_For (Calls.Constant_str (wpAny_pyIter_ascii hascii ?_)) hfs
 have hb:s.heap.objs.size<=s.heap.objs.size:=Nat.le_refl _
 have hn0:H s.heap.objs.size=none:=I.hok.fresh hb
 have fpk:FpOk X pins H s.heap.objs.size:=I.fpOk hb hn0
 obtain⟨f0,f1,f2,f3,f4,f5⟩:=fpk
 refine codeAny_forLoop_any (fun n s'=>∃a,n=cs.cps.size-a/\a<=cs.cps.size/\1<=s'.toks/\s'.heap.IsStrIter s.heap.objs.size "str_ascii_iterator" cs s.toks a /\
  Inv X pins ((σ.set i (some (.str (repl g x (cs.cps.toList.take a))))).set j none) H s') ?_ cs.cps.size ⟨0,rfl,Nat.zero_le _,Nat.le_add_left 1 s.toks,⟨_,Heap.get?_push_size _ rfl,rfl,rfl⟩,?_⟩
 ·rintro n s3 ⟨a,rfl,ha,ht3,st3,I3⟩
  by_cases hlt:a<cs.cps.size
  ·-- a sign
   have hgc:cs.cps[a]?=some cs.cps[a]:=Array.getElem?_eq_getElem hlt
   refine wpAny_pyNext_ascii_item st3 hgc fun h' st4 sb=>?_
   have I4:Inv X pins ((σ.set i (some (.str (repl g x (cs.cps.toList.take a))))).set j none) H {s3 with heap:=h',toks:=s3.toks+1} :=
    I3.turned (fun b o hb e=>(sb.2 b hb).trans e) f0 f1 f3 f4 f5
   obtain⟨o4,e4,c4,d4⟩:=id st4
   refine go_of (s:={s3 with heap:=h',toks:=s3.toks+1}) (n:="str_ascii_iterator") e4 c4 d4 (by decide) ?_
   refine wpAny_assign_Name (store_exact I4 hN hj hg (v:=.str ⟨#[cs.cps[a]]⟩) ⟨_,rfl⟩ fun h5 m5 I5 n5 m5e sb5=>?_)
   have st5:h5.IsStrIter s.heap.objs.size "str_ascii_iterator" cs s.toks (a+1):=⟨o4,(sb5.2 _ f1).trans e4,c4,d4⟩
   rw[List.set_set]at I5
   refine wpAny_execs_cons (wpAny_Assign_Name ?_ hsw)
   -- the text
   obtain⟨m6,n6,l6⟩:=I5.loc
   obtain⟨u6,⟨t6,rfl⟩,k6⟩:=l6 i tx (.str (repl g x (cs.cps.toList.take a))) hi (by rw[List.getElem?_set_ne (Ne.symm hij),List.getElem?_set_self hiσ]) (.inl ht)
   have k6':m6 tx=some (.str (repl g x (cs.cps.toList.take a)) t6):=by
    rcases k6 with⟨_,e⟩|⟨z,_⟩
    ·exact e
    ·have z':X.env.scope.names.lookup tx=some .cell\/X.env.scope.names.lookup tx=some .free:=z
     rw[ht]at z'
     rcases z' with z'|z'<;>cases z'
   refine wpAny_Call_method_late hbase hfew hline rfl (wpAny_Name (wpAny_loadName_local I5.ok.kind ht n6 k6' ?_) hd)
   refine⟨"str","str.replace",F.plainAttrs_str,F.slot_str_replace,F.type_str_replace,typeIs_str _ _ _,fun a e=>(by cases e),?_⟩
   rw[hs1,hbt]
   refine Calls.callWith_builtin rfl (Calls.evalArgs_plain ?_)
   refine Calls.spliced_cons (wpAny_Name (wpAny_loadName_local I5.ok.kind hg n5 m5e ?_) hd2)
   refine Calls.spliced_cons (hjo _ m5 _ _ _ _ I5.ok.kind n5 m5e fun v kk hv1 hv2=>?_)
   refine Calls.spliced_nil ?_
   have hv1':s3.toks+1+1<=v:=hv1
   have hl:=hlen a
   have hgb:=hgl cs.cps[a]
   refine SC.replace (u:=s3.toks) (v:=v) (by show(s3.toks:Nat)≠0;omega) (by show(v:Nat)≠0;omega) (by show(s3.toks:Nat)≠v;omega) (hgn _) ?_ fun t' k'=>?_
   ·have h1:((repl g x (cs.cps.toList.take a)).length+1)*(g cs.cps[a]).length<=65536*100:=Nat.mul_le_mul (by omega) hgb
    omega
   -- the text is stored
   have tk:cs.cps.toList.take (a+1)=cs.cps.toList.take a++[cs.cps[a]]:=by
    have hla:a<cs.cps.toList.length:=by simpa using hlt
    rw[List.take_succ,List.getElem?_eq_getElem hla]
    simp
   have rp:repl g x (cs.cps.toList.take (a+1))=Txt.replace (repl g x (cs.cps.toList.take a)) ⟨#[cs.cps[a]]⟩ (g cs.cps[a]):=by
    rw[tk]
    unfold repl
    rw[List.foldl_append]
    rfl
   refine store_exact (I5.tok k') hN hi ht (v:=.str (repl g x (cs.cps.toList.take (a+1)))) ⟨t',by rw[rp]⟩ fun h8 m8 I8 n8 m8e sb8=>?_
   refine wpAny_execs_nil ⟨cs.cps.size - (a+1),by omega,a+1,rfl,hlt,Nat.le_add_left 1 _,⟨o4,(sb8.2 _ f1).trans ((sb5.2 _ f1).trans e4),c4,d4⟩,I8.weak ?_ ?_⟩
   ·simp
   ·intro q v hv
    by_cases hqj:q=j
    ·subst hqj
     rw[List.getElem?_set_self (by simpa using hjσ)]at hv
     cases hv
    ·rw[List.getElem?_set_ne (Ne.symm hqj)]at hv
     by_cases hqi:q=i
     ·subst hqi
      rw[List.getElem?_set_self (by simpa using hiσ)]at hv⊢
      exact hv
     ·rw[List.getElem?_set_ne (Ne.symm hqi)]at hv⊢
      rw[List.getElem?_set_ne (Ne.symm hqj),List.getElem?_set_ne (Ne.symm hqi)]
      exact hv
  ·have ea:a=cs.cps.size:=by omega
   subst ea
   refine wpAny_pyNext_ascii_end (I.ok.hd hc) st3 (by simp) fun h' he=>?_
   have I4:Inv X pins ((σ.set i (some (.str (repl g x (cs.cps.toList.take cs.cps.size))))).set j none) H {s3 with heap:=h'} :=
    I3.turned (t':=s3.toks) (fun b o hb e=>he b o hb e) f0 f1 f3 f4 f5
   refine wpAny_execs_nil ⟨_,H,I4,?_⟩
   have e:cs.cps.toList.take cs.cps.size=cs.cps.toList:=by rw[List.take_of_length_le];simp
   rw[e]
   exact hq
 ·have I1:Inv X pins σ H {s with heap:=s.heap.push {cls:=.type "str_ascii_iterator",data:=.fields #[.str cs s.toks,.int 0 0]},toks:=s.toks+1}:=I.kept (t':=s.toks+1) fun b o e=>Heap.get?_push_of_some _ e
  refine I1.weak (by simp) fun q v hv=>?_
  by_cases hqj:q=j
  ·subst hqj
   rw[List.getElem?_set_self (by simpa using hjσ)]at hv
   cases hv
  ·rw[List.getElem?_set_ne (Ne.symm hqj)]at hv
   by_cases hqi:q=i
   ·subst hqi
    rw[List.getElem?_set_self (by simpa using hiσ)]at hv
    rw[hx]
    exact hv
   ·rw[List.getElem?_set_ne (Ne.symm hqi)]at hv
    exact hv
end
def subst1(c:Nat)(z:List Nat)(a:Nat):List Nat:=if a=c then z else [a]
theorem flat_free{c:Nat}{z:List Nat}:∀{l:List Nat},c∉l->l.flatMap (subst1 c z)=l
 | [],_=>rfl
 |a::r,h=>by
  have e:subst1 c z a=[a]:=by unfold subst1;rw[if_neg];intro e;exact h (by rw[e];exact List.mem_cons_self)
  rw[List.flatMap_cons,e,flat_free fun m=>h (List.mem_cons_of_mem _ m)]
  rfl
theorem flat_join{c:Nat}{z:Str}:∀{ps:List Str},(∀p∈ps,c∉p.cps.toList)->(Str.join ⟨#[c]⟩ ps).cps.toList.flatMap (subst1 c z.cps.toList)=(Str.join z ps).cps.toList
 | [],_=>rfl
 | [p],h=>flat_free (h p (List.mem_singleton.mpr rfl))
 |p::q::r,h=>by
  have ih:=flat_join (z:=z) (ps:=q::r) fun a ha=>h a (List.mem_cons_of_mem _ ha)
  show(p++⟨#[c]⟩++Str.join ⟨#[c]⟩ (q::r)).cps.toList.flatMap _=(p++z++Str.join z (q::r)).cps.toList
  simp only[Str.cps_append,Array.toList_append,List.flatMap_append]
  rw[ih,flat_free (h p List.mem_cons_self)]
  simp[subst1]
theorem rep_flat(x z:Str)(c:Nat):(Txt.replace x ⟨#[c]⟩ z).cps.toList=x.cps.toList.flatMap (subst1 c z.cps.toList):=by
 rw[StrLaws.replace_one,←flat_join (StrLaws.split_free x c),StrLaws.join_split]
def sp(c:Nat):List Nat->List (List Nat)
 | []=>[[]]
 |a::l=>if a=c then []::sp c l else match sp c l with
  |p::r=>(a::p)::r
  | []=>[[a]]
theorem sp_app{c:Nat}:∀{p l:List Nat},c∉p->sp c (p++c::l)=p::sp c l
 | [],l,_=>by show(if c=c then _ else _)=_;rw[if_pos rfl]
 |a::p,l,h=>by
  have ne:a≠c:=fun e=>h (by rw[e];exact List.mem_cons_self)
  have ih:=sp_app (p:=p) (l:=l) fun m=>h (List.mem_cons_of_mem _ m)
  show(if a=c then _ else match sp c (p++c::l)with|p::r=>(a::p)::r|[]=>[[a]])=_
  rw[if_neg ne,ih]
theorem sp_free{c:Nat}:∀{p:List Nat},c∉p->sp c p=[p]
 | [],_=>rfl
 |a::p,h=>by
  have ne:a≠c:=fun e=>h (by rw[e];exact List.mem_cons_self)
  show(if a=c then _ else match sp c p with|p::r=>(a::p)::r|[]=>[[a]])=_
  rw[if_neg ne,sp_free fun m=>h (List.mem_cons_of_mem _ m)]
theorem sp_join{c:Nat}:∀{ps:List Str},ps≠[]->(∀p∈ps,c∉p.cps.toList)->sp c (Str.join ⟨#[c]⟩ ps).cps.toList=ps.map fun p=>p.cps.toList
 | [],h,_=>absurd rfl h
 | [p],_,h=>sp_free (h p (List.mem_singleton.mpr rfl))
 |p::q::r,_,h=>by
  have ih:=sp_join (ps:=q::r) (by simp) fun a ha=>h a (List.mem_cons_of_mem _ ha)
  show sp c (p++⟨#[c]⟩++Str.join ⟨#[c]⟩ (q::r)).cps.toList=_
  simp only[Str.cps_append,Array.toList_append,List.append_assoc]
  show sp c (p.cps.toList++c::(Str.join ⟨#[c]⟩ (q::r)).cps.toList)=_
  rw[sp_app (h p List.mem_cons_self),ih]
  rfl
theorem split_sp(x:Str)(c:Nat):(Txt.split x ⟨#[c]⟩).map (fun p=>p.cps.toList)=sp c x.cps.toList:=by
 have h:=sp_join (c:=c) (ps:=Txt.split x ⟨#[c]⟩) (fun e=>by have:=split_pos x ⟨#[c]⟩;rw[e]at this;cases this) (StrLaws.split_free x c)
 rw[StrLaws.join_split]at h
 exact h.symm
def ofL(l:List Nat):Str:=⟨l.toArray⟩
theorem ofL_toList(x:Str):ofL x.cps.toList=x:=by cases x with|mk c=>rfl
theorem toList_ofL(l:List Nat):(ofL l).cps.toList=l:=by unfold ofL;simp
theorem ofL_len(l:List Nat):(ofL l).length=l.length:=by unfold ofL;show l.toArray.size=_;simp
theorem str_ofL{x:Str}{l:List Nat}(h:x.cps.toList=l):x=ofL l:=by rw[←h,ofL_toList]
theorem split_ofL(l:List Nat)(c:Nat):Txt.split (ofL l) ⟨#[c]⟩=(sp c l).map ofL:=by
 have h:=split_sp (ofL l) c
 rw[toList_ofL]at h
 rw[←h,List.map_map]
 conv=>lhs;rw[←List.map_id (Txt.split (ofL l) ⟨#[c]⟩)]
 exact List.map_congr_left fun p _=>(ofL_toList p).symm
theorem rep_ofL(l:List Nat)(z:Str)(c:Nat):Txt.replace (ofL l) ⟨#[c]⟩ z=ofL (l.flatMap (subst1 c z.cps.toList)):=by
 have h:=rep_flat (ofL l) z c
 rw[toList_ofL]at h
 exact str_ofL h
def wd(l:List Nat):List (List Nat):=(sp 32 l).filter fun p=>!p.isEmpty
theorem wd_one{w:List Nat}(h:32∉w)(h0:w≠[]):wd w=[w]:=by
 unfold wd
 rw[sp_free h]
 cases w with
 |nil=>exact absurd rfl h0
 |cons a r=>rfl
theorem wd_word{w l:List Nat}(h:32∉w)(h0:w≠[]):wd (w++32::l)=w::wd l:=by
 unfold wd
 rw[sp_app h]
 cases w with
 |nil=>exact absurd rfl h0
 |cons a r=>rfl
theorem wd_blank{l:List Nat}:wd (32::l)=wd l:=by
 unfold wd
 rw[show(32::l)=[]++32::l from rfl,sp_app (by simp)]
 rfl
theorem app_ofL(a b:List Nat):ofL a++ofL b=ofL (a++b):=str_ofL (by rw[Str.cps_append,Array.toList_append,toList_ofL,toList_ofL])
end L2
namespace G12
open PySem L2
abbrev letS:Str:="abcdefghijklmnopqrstuvwxyz"
abbrev figS:Str:="0123456789"
def keptS:List Str:=["num","row","kind","def","more","first","others","long","match","if","let","fold","call","gap","in","world","fault","left"]
abbrev keptV:List V:=keptS.map V.str
def digs(n:Int):List Nat:=(Str.ofString (toString n)).cps.toList
def low(c:Nat):Prop:=97<=c/\c<=122
def nmOk(x:Str):Prop:=1<=x.length/\x.length<=6/\(∀c∈x.cps.toList,low c)/\x∉keptS
def dig(c:Nat):Bool:=decide (c∈figS.cps.toList)
def figB(l:List Nat)(m:Int):Bool:=if 1<=l.length/\(l.length:Int)<=m then(if(l.map dig).all id=true then(decide (l.length=1)||decide (l[0]?≠some 48))else false)else false
theorem fig_in:∀c:Nat,48<=c/\c<=57->c∈figS.cps.toList:=by
 intro c h
 rw[show figS.cps.toList=(List.range 10).map (·+48) by decide +kernel]
 exact List.mem_map.mpr ⟨c-48,List.mem_range.mpr (by omega),by omega⟩
theorem fig_out:∀c:Nat,c∈figS.cps.toList->48<=c/\c<=57:=by
 intro c h
 rw[show figS.cps.toList=(List.range 10).map (·+48) by decide +kernel]at h
 obtain⟨i,hi,rfl⟩:=List.mem_map.mp h
 have:=List.mem_range.mp hi
 omega
theorem not_kept{x:Str}(h:x∉keptS):inV (.str x) keptV=false:=by
 unfold inV
 rw[List.any_eq_false]
 intro y hy e
 obtain⟨z,hz,rfl⟩:=List.mem_map.mp hy
 have:z=x:=eq_of_beq (show(z == x)=true from e)
 exact h (this▸hz)
theorem kept_flat:keptV.all flatV=true:=by decide +kernel
theorem all_true{f:Nat->Bool}:∀{l:List Nat},(∀a∈l,f a=true)->(l.map f).all id=true
 | [],_=>rfl
 |a::r,h=>by
  rw[List.map_cons,List.all_cons,all_true fun b hb=>h b (.tail _ hb),Bool.and_true]
  exact h a (.head _)
end G12
namespace L2
open PySem PySem.Spec PyProof.Rows
inductive Bw where
 |a (w:List Nat)
 |g (o:Nat) (ws:List Bw)
theorem Bw.induct{P:Bw->Prop}(ha:∀w,P (.a w))(hg:∀o ws,(∀x∈ws,P x)->P (.g o ws))(b:Bw):P b :=
 Bw.rec (motive_1:=P) (motive_2:=fun xs=>∀x∈xs,P x) ha (fun o ws h=>hg o ws h) (fun _ h=>nomatch h) (fun _ _ h1 h2 y hy=>by
  cases hy with
  |head=>exact h1
  |tail _ h=>exact h2 y h) b
def clo(o:Nat):Nat:=if o=40 then 41 else 93
mutual
def Bw.toks:Bw->List (List Nat)
 |.a w=>[w]
 |.g o ws=>[o]::(Bw.tokss ws++[[clo o]])
def Bw.tokss:List Bw->List (List Nat)
 | []=>[]
 |x::r=>x.toks++Bw.tokss r
end
mutual
def Bw.txt:Bw->List Nat
 |.a w=>w
 |.g o ws=>o::(Bw.txts ws++[clo o])
def Bw.txts:List Bw->List Nat
 | []=>[]
 |x::r=>x.txt++Bw.txtr r
def Bw.txtr:List Bw->List Nat
 | []=>[]
 |x::r=>32::(x.txt++Bw.txtr r)
end
def wsg(c:Nat):Prop:=c≠32/\c≠40/\c≠41/\c≠91/\c≠93
mutual
def Bw.ok:Bw->Prop
 |.a w=>w≠[]/\∀c∈w,wsg c
 |.g o ws=>(o=40\/o=91)/\Bw.oks ws
def Bw.oks:List Bw->Prop
 | []=>True
 |x::r=>x.ok/\Bw.oks r
end
def Rp1(l:List Nat):List Nat:=(l.flatMap (subst1 40 [40,32])).flatMap (subst1 91 [91,32])
def Rp2(l:List Nat):List Nat:=(l.flatMap (subst1 41 [32,41])).flatMap (subst1 93 [32,93])
def Rb(l:List Nat):List Nat:=Rp2 (Rp1 l)
theorem Rb_app(a b:List Nat):Rb (a++b)=Rb a++Rb b:=by unfold Rb Rp1 Rp2;simp only[List.flatMap_append]
theorem Rb_free{l:List Nat}(h:∀a∈l,wsg a):Rb l=l:=by
 unfold Rb Rp1 Rp2
 rw[flat_free (fun m=>(h _ m).2.1 rfl),flat_free (fun m=>(h _ m).2.2.2.1 rfl),flat_free (fun m=>(h _ m).2.2.1 rfl),flat_free (fun m=>(h _ m).2.2.2.2 rfl)]
theorem Rb_o{o:Nat}(h:o=40\/o=91):Rb [o]=[o,32]:=by rcases h with rfl|rfl<;>rfl
theorem Rb_c{o:Nat}(h:o=40\/o=91):Rb [clo o]=[32,clo o]:=by rcases h with rfl|rfl<;>rfl
theorem Rb_32:Rb [32]=[32]:=rfl
def Tl(t:List Nat):Prop:=t=[]\/∃r,t=32::r
theorem wd_Rb(b:Bw):b.ok->∀tl,Tl tl->wd (Rb b.txt++tl)=b.toks++wd tl:=by
 refine Bw.induct (P:=fun b=>b.ok->∀tl,Tl tl->wd (Rb b.txt++tl)=b.toks++wd tl) (fun w h tl ht=>?_) (fun o ws ih h tl ht=>?_) b
 ·unfold Bw.ok at h
  unfold Bw.txt Bw.toks
  have n32:32∉w:=fun m=>(h.2 _ m).1 rfl
  rw[Rb_free h.2]
  rcases ht with rfl|⟨t,rfl⟩
  ·rw[List.append_nil,wd_one n32 h.1]
   rfl
  ·rw[wd_word n32 h.1,wd_blank]
   rfl
 ·unfold Bw.ok at h
  obtain⟨ho,hw⟩:=h
  have hr:∀ws:List Bw,(∀x∈ws,x.ok->∀tl,Tl tl->wd (Rb x.txt++tl)=x.toks++wd tl)->Bw.oks ws->∀t,wd (Rb (Bw.txtr ws)++32::t)=Bw.tokss ws++wd t:=by
   intro ws
   induction ws with
   |nil=>intro _ _ t;unfold Bw.txtr Bw.tokss;exact wd_blank
   |cons x r ihr =>
    intro hx hw t
    unfold Bw.oks at hw
    unfold Bw.txtr Bw.tokss
    rw[show 32::(x.txt++Bw.txtr r)=[32]++(x.txt++Bw.txtr r)from rfl,Rb_app,Rb_app,Rb_32]
    show wd (32::((Rb x.txt++Rb (Bw.txtr r))++32::t))=_
    rw[wd_blank,List.append_assoc]
    have ht':Tl (Rb (Bw.txtr r)++32::t):=by
     cases r with
     |nil=>exact .inr ⟨t,rfl⟩
     |cons y q =>
      refine .inr ?_
      unfold Bw.txtr
      rw[show 32::(y.txt++Bw.txtr q)=[32]++(y.txt++Bw.txtr q)from rfl,Rb_app,Rb_32]
      exact⟨_,rfl⟩
    rw[hx x (.head _) hw.1 _ ht',ihr (fun z hz=>hx z (.tail _ hz)) hw.2 t,List.append_assoc]
  have hs:wd (Rb (Bw.txts ws)++32::(clo o::tl))=Bw.tokss ws++wd (clo o::tl):=by
   cases ws with
   |nil=>unfold Bw.txts Bw.tokss;exact wd_blank
   |cons x r =>
    unfold Bw.oks at hw
    have z:=hr (x::r) (fun y hy hk=>ih y hy hk) (by unfold Bw.oks;exact hw) (clo o::tl)
    unfold Bw.txtr at z
    rw[show 32::(x.txt++Bw.txtr r)=[32]++(x.txt++Bw.txtr r)from rfl,Rb_app,Rb_32]at z
    rw[show([32]++Rb (x.txt++Bw.txtr r))++32::clo o::tl=32::(Rb (x.txt++Bw.txtr r)++32::clo o::tl)from rfl,wd_blank]at z
    unfold Bw.txts
    exact z
  unfold Bw.txt Bw.toks
  rw[show o::(Bw.txts ws++[clo o])=[o]++(Bw.txts ws++[clo o])from rfl,Rb_app,Rb_app,Rb_o ho,Rb_c ho]
  have e1:[o,32]++(Rb (Bw.txts ws)++[32,clo o])++tl=[o]++32::(Rb (Bw.txts ws)++32::clo o::tl):=by simp
  have no:32∉[o]:=by rcases ho with rfl|rfl<;>decide
  have nc:32∉[clo o]:=by rcases ho with rfl|rfl<;>decide
  have e2:wd (clo o::tl)=[clo o]::wd tl:=by
   rcases ht with rfl|⟨t,rfl⟩
   ·exact wd_one nc (by simp)
   ·rw[wd_blank]
    exact wd_word nc (by simp)
  rw[e1,wd_word no (by simp),hs,e2]
  simp
abbrev BSt:=List (Nat×List Bw)
def stp:BSt->List Nat->Option BSt
 |(o,xs)::st,w =>
  if w=[40]\/w=[91]then some ((w.headD 0,[])::(o,xs)::st)
  else if w=[41]\/w=[93]then(match st with
   |(o',ys)::st'=>if w=[clo o]then some ((o',ys++[.g o xs])::st')else none
   | []=>none)
  else some ((o,xs++[.a w])::st)
 | [],_=>none
theorem stp_open{o:Nat}{xs:List Bw}{st:BSt}{w:List Nat}(h:w=[40]\/w=[91]):stp ((o,xs)::st) w=some ((w.headD 0,[])::(o,xs)::st):=by
 show(if w=[40]\/w=[91]then _ else _)=_
 rw[if_pos h]
theorem stp_atom{o:Nat}{xs:List Bw}{st:BSt}{w:List Nat}(h:¬(w=[40]\/w=[91]))(h2:¬(w=[41]\/w=[93])):stp ((o,xs)::st) w=some ((o,xs++[.a w])::st):=by
 show(if w=[40]\/w=[91]then _ else if w=[41]\/w=[93]then _ else _)=_
 rw[if_neg h,if_neg h2]
theorem stp_close{c o:Nat}{ws xs:List Bw}{st:BSt}(hc:c=40\/c=91):stp ((c,ws)::(o,xs)::st) [clo c]=some ((o,xs++[.g c ws])::st):=by
 rw[stp,if_neg (by rcases hc with rfl|rfl<;>decide),if_pos (by rcases hc with rfl|rfl<;>decide)]
 exact if_pos rfl
def brun:BSt->List (List Nat)->Option BSt
 |st,[]=>some st
 |st,w::r=>(stp st w).bind fun st'=>brun st' r
theorem brun_app:∀(l r:List (List Nat)) (st:BSt),brun st (l++r)=(brun st l).bind fun st'=>brun st' r
 | [],r,st=>rfl
 |w::l,r,st=>by
  show(stp st w).bind (fun st'=>brun st' (l++r))=((stp st w).bind fun st'=>brun st' l).bind _
  cases stp st w with
  |none=>rfl
  |some st'=>exact brun_app l r st'
theorem brun_w(b:Bw):b.ok->∀(o:Nat) (xs:List Bw) (st:BSt),brun ((o,xs)::st) b.toks=some ((o,xs++[b])::st):=by
 refine Bw.induct (P:=fun b=>b.ok->∀(o:Nat) (xs:List Bw) (st:BSt),brun ((o,xs)::st) b.toks=some ((o,xs++[b])::st)) (fun w h o xs st=>?_) (fun c ws ih h o xs st=>?_) b
 ·unfold Bw.ok at h
  have n:∀k,(k=40\/k=41\/k=91\/k=93)->w≠[k]:=fun k hk e=>by
   have:=h.2 k (by rw[e];exact .head _)
   unfold wsg at this
   omega
  unfold Bw.toks
  show(stp ((o,xs)::st) w).bind _=_
  rw[stp_atom (by rintro(e|e);exact n 40 (by simp) e;exact n 91 (by simp) e) (by rintro(e|e);exact n 41 (by simp) e;exact n 93 (by simp) e)]
  rfl
 ·unfold Bw.ok at h
  obtain⟨hc,hw⟩:=h
  have all:∀(l:List Bw),(∀x∈l,x.ok->∀(o:Nat) (xs:List Bw) (st:BSt),brun ((o,xs)::st) x.toks=some ((o,xs++[x])::st))->Bw.oks l->∀(o:Nat) (ys:List Bw) (st:BSt),brun ((o,ys)::st) (Bw.tokss l)=some ((o,ys++l)::st):=by
   intro l
   induction l with
   |nil=>intro _ _ o ys st;unfold Bw.tokss;rw[List.append_nil];rfl
   |cons x r ihr =>
    intro hx hk o ys st
    unfold Bw.oks at hk
    unfold Bw.tokss
    rw[brun_app,hx x (.head _) hk.1,Option.bind_some,ihr (fun z hz=>hx z (.tail _ hz)) hk.2,List.append_assoc]
    rfl
  unfold Bw.toks
  show(stp ((o,xs)::st) [c]).bind _=_
  have e1:stp ((o,xs)::st) [c]=some ((c,[])::(o,xs)::st):=stp_open (by rcases hc with rfl|rfl<;>simp)
  rw[e1,Option.bind_some,brun_app,all ws (fun x hx hk=>ih x hx hk) hw,Option.bind_some,List.nil_append]
  show(stp ((c,ws)::(o,xs)::st) [clo c]).bind _=_
  have e2:stp ((c,ws)::(o,xs)::st) [clo c]=some ((o,xs++[.g c ws])::st):=stp_close hc
  rw[e2]
  rfl
end L2
namespace L2
open PySem PySem.Spec PyProof.Rows
def srtB(c:Nat):Str:=if c=32 then "blank" else if c=40\/c=91 then "start" else if c=41\/c=93 then "end" else "word"
def folVB(a:Str):List V:=if a="blank" then [.str "start",.str "word"]else if a="start" then [.str "start",.str "word",.str "end"]else if a="word" then [.str "word",.str "blank",.str "end"]else [.str "end",.str "blank"]
def folB(a b:Str):Bool:=inV (.str b) (folVB a)
def AdB(l:List Nat):Prop:=(List.zipWith (fun a b=>folB (srtB a) (srtB b)) l (l.drop 1)).all id=true
theorem srtB_w{a:Nat}(h:wsg a):srtB a="word":=by
 unfold srtB
 unfold wsg at h
 rw[if_neg h.1,if_neg (by omega),if_neg (by omega)]
theorem srtB_o{o:Nat}(h:o=40\/o=91):srtB o="start":=by rcases h with rfl|rfl<;>decide +kernel
theorem srtB_c{o:Nat}(h:o=40\/o=91):srtB (clo o)="end":=by rcases h with rfl|rfl<;>decide +kernel
theorem adB_cons{a b:Nat}{l:List Nat}(h1:folB (srtB a) (srtB b)=true)(h2:AdB (b::l)):AdB (a::b::l):=by
 unfold AdB at h2⊢
 show(List.zipWith _ (a::b::l) (b::l)).all id=true
 rw[List.zipWith_cons_cons,List.all_cons,Bool.and_eq_true]
 exact⟨h1,h2⟩
def Eb(l:List Nat):Prop:=∃h tl,l=h::tl/\(srtB h="end"\/srtB h="blank")
def Sb(l:List Nat):Prop:=∃h tl,l=h::tl/\(srtB h="start"\/srtB h="word")
theorem adB_word:∀(l:List Nat),(∀a∈l,wsg a)->∀(m:List Nat),Eb m->AdB m->AdB (l++m)
 | [],_,_,_,ad=>ad
 | [a],hl,m,⟨h,tl,e,hf⟩,ad=>by
  subst e
  exact adB_cons (by rw[srtB_w (hl a (.head _))];rcases hf with e|e<;>rw[e]<;>decide +kernel) ad
 |a::b::l,hl,m,hm,ad=>adB_cons (by rw[srtB_w (hl a (.head _)),srtB_w (hl b (.tail _ (.head _)))];decide +kernel) (adB_word (b::l) (fun x hx=>hl x (.tail _ hx)) m hm ad)
theorem Bw.sb{b:Bw}(h:b.ok)(m:List Nat):Sb (b.txt++m):=by
 cases b with
 |a w =>
  unfold Bw.ok at h
  unfold Bw.txt
  cases w with
  |nil=>exact absurd rfl h.1
  |cons c r=>exact⟨c,r++m,rfl,.inr (srtB_w (h.2 c (.head _)))⟩
 |g o ws =>
  unfold Bw.ok at h
  unfold Bw.txt
  exact⟨o,_,rfl,.inl (srtB_o h.1)⟩
theorem adB_in{a:Nat}{l:List Nat}(ha:srtB a="start"\/srtB a="blank")(h:Sb l)(ad:AdB l):AdB (a::l):=by
 obtain⟨c,tl,rfl,hc⟩:=h
 refine adB_cons ?_ ad
 rcases ha with e|e<;>rcases hc with e2|e2<;>rw[e,e2]<;>decide +kernel
theorem adB_Bw(b:Bw):b.ok->∀m,Eb m->AdB m->AdB (b.txt++m):=by
 refine Bw.induct (P:=fun b=>b.ok->∀m,Eb m->AdB m->AdB (b.txt++m)) (fun w h m hm ad=>?_) (fun o ws ih h m hm ad=>?_) b
 ·unfold Bw.ok at h
  unfold Bw.txt
  exact adB_word w h.2 m hm ad
 ·unfold Bw.ok at h
  obtain⟨ho,hw⟩:=h
  have hcl:AdB (clo o::m):=by
   obtain⟨c,tl,rfl,hc⟩:=hm
   refine adB_cons ?_ ad
   rw[srtB_c ho]
   rcases hc with e|e<;>rw[e]<;>decide +kernel
  have all:∀(l:List Bw),(∀x∈l,x.ok->∀m,Eb m->AdB m->AdB (x.txt++m))->Bw.oks l->∀m,Eb m->AdB m->Eb (Bw.txtr l++m)/\AdB (Bw.txtr l++m):=by
   intro l
   induction l with
   |nil=>intro _ _ m hm ad;unfold Bw.txtr;exact⟨hm,ad⟩
   |cons x r ihr =>
    intro hx hk m hm ad
    unfold Bw.oks at hk
    obtain⟨e1,a1⟩:=ihr (fun z hz=>hx z (.tail _ hz)) hk.2 m hm ad
    unfold Bw.txtr
    show Eb (32::((x.txt++Bw.txtr r)++m))/\AdB (32::((x.txt++Bw.txtr r)++m))
    rw[List.append_assoc]
    exact⟨⟨32,_,rfl,.inr (by decide +kernel)⟩,adB_in (.inr (by decide +kernel)) (x.sb hk.1 _) (hx x (.head _) hk.1 _ e1 a1)⟩
  have ec:Eb (clo o::m):=⟨_,_,rfl,.inl (srtB_c ho)⟩
  unfold Bw.txt
  show AdB (o::((Bw.txts ws++[clo o])++m))
  rw[List.append_assoc]
  show AdB (o::(Bw.txts ws++(clo o::m)))
  cases ws with
  |nil =>
   unfold Bw.txts
   refine adB_cons ?_ hcl
   rw[srtB_o ho,srtB_c ho]
   decide +kernel
  |cons x r =>
   unfold Bw.oks at hw
   unfold Bw.txts
   rw[List.append_assoc]
   obtain⟨e1,a1⟩:=all r (fun y hy=>ih y (.tail _ hy)) hw.2 _ ec hcl
   exact adB_in (.inl (srtB_o ho)) (x.sb hw.1 _) (ih x (.head _) hw.1 _ e1 a1)
theorem fmB_le{c:Nat}{z:List Nat}(hz:z.length<=2):∀l:List Nat,(l.flatMap (subst1 c z)).length<=2*l.length
 | []=>Nat.le_refl _
 |a::l=>by
  have:=fmB_le (c:=c) hz l
  have h1:(subst1 c z a).length<=2:=by
   unfold subst1
   split
   ·exact hz
   ·show 1<=2;decide
  rw[List.flatMap_cons,List.length_append,List.length_cons]
  omega
theorem Rp1_le(l:List Nat):(Rp1 l).length<=4*l.length:=by
 have h1:=fmB_le (c:=40) (z:=[40,32]) (by decide) l
 have h2:=fmB_le (c:=91) (z:=[91,32]) (by decide) (l.flatMap (subst1 40 [40,32]))
 unfold Rp1
 omega
theorem Rp2_le(l:List Nat):(Rp2 l).length<=4*l.length:=by
 have h1:=fmB_le (c:=41) (z:=[32,41]) (by decide) l
 have h2:=fmB_le (c:=93) (z:=[32,93]) (by decide) (l.flatMap (subst1 41 [32,41]))
 unfold Rp2
 omega
end L2
namespace L2
open PySem
inductive Hd where
 |num (n:Int)|name (x:Str)|gap (n:Int)|op (s:Str)|row|more|first|others|long|tag (t:Str)|call (f:Str)|mat (arms:List (Str×List Str))|ife|lt (x:Str)|fold (x y:Str)
inductive Tm where
 |mk (h:Hd) (ks:List Tm)
def Tm.hd:Tm->Hd|.mk h _=>h
def Tm.ks:Tm->List Tm|.mk _ ks=>ks
def FeedAt(H:Hp)(f:Addr):Prop:=∃p q:Int,H f=some (.lst [.int p,.int q])
def Ext(f:Addr)(H H':Hp):Prop:=(∀b o,b≠f->H b=some o->H' b=some o)/\FeedAt H' f
theorem Ext.refl{f:Addr}{H:Hp}(h:FeedAt H f):Ext f H H:=⟨fun _ _ _ e=>e,h⟩
theorem Ext.trans{f:Addr}{H H1 H2:Hp}(a:Ext f H H1)(b:Ext f H1 H2):Ext f H H2:=⟨fun c o n e=>b.1 c o n (a.1 c o n e),b.2⟩
theorem Ext.same{f:Addr}{H H1 H2:Hp}(a:Ext f H H1)(s:Same H1 H2):Ext f H H2:=⟨fun c o n e=>s c o (a.1 c o n e),let⟨p,q,e⟩:=a.2;⟨p,q,s f _ e⟩⟩
theorem same_new{H:Hp}{p:Addr}(h:H p=none)(o:HO):Same H (upd H p o):=fun b u q=>by rw[upd_ne (ne_of_none q h)];exact q
theorem FeedAt.same{f:Addr}{H H':Hp}(h:FeedAt H f)(s:Same H H'):FeedAt H' f:=let⟨p,q,e⟩:=h;⟨p,q,s f _ e⟩
theorem Ext.tup{f:Addr}{H H':Hp}(e:Ext f H H')(hf:FeedAt H f){a:Addr}{xs:List V}(h:H a=some (.tup xs)):H' a=some (.tup xs):=by
 refine e.1 a _ ?_ h
 obtain⟨p,q,hf⟩:=hf
 exact ne_of h hf (by intro z;cases z)
def spTake:Sp:=fun vs H Q _=>∃(f:Addr) (m:Int),vs=[.ref f,.int m]/\0<m/\m<1073741824/\FeedAt H f/\∀(r:Int) (H':Hp),0<=r->r<m->Ext f H H'->Q (.int r) H'
def spFeed(K:PySem.W.Frag):Sp:=fun vs H Q _=>∃(a:Addr) (ns:List Int) (k:Int),vs=[.ref a,.int k]/\SqL K H a (ns.map V.int)/\ns.length<=63/\0<=k/\k<=100 /\
 ∀(r:Addr) (H':Hp),Same H H'->H r=none->FeedAt H' r->Q (.ref r) H'
theorem small{n:Nat}(h:n<=1000):n<=sizeLine:=Nat.le_of_lt (small1000 h)
theorem atI_int{ns:List Int}{k:Int}(h0:0<=k)(h:k<(ns.length:Int)):∃v:Int,atI (ns.map V.int) k=some (.int v):=by
 have hk:k.toNat<ns.length:=by omega
 have ek:k=((k.toNat:Nat):Int):=by omega
 have q:atI (ns.map V.int) ((k.toNat:Nat):Int)=some (.int ns[k.toNat]):=atI_nat (by rw[List.getElem?_map,List.getElem?_eq_getElem hk]<;>rfl)
 rw[←ek]at q
 exact⟨_,q⟩
theorem atI_of{α:Type}{xs:List α}{k:Int}(h0:0<=k)(h:k<(xs.length:Int)):∃v:α,atI xs k=some v/\v∈xs:=by
 have hk:k.toNat<xs.length:=by omega
 have ek:k=((k.toNat:Nat):Int):=by omega
 have q:atI xs ((k.toNat:Nat):Int)=some xs[k.toNat]:=atI_nat (List.getElem?_eq_getElem hk)
 rw[←ek]at q
 exact⟨_,q,List.getElem_mem hk⟩
theorem Ext.kt{f:Addr}{H H':Hp}(e:Ext f H H')(hf:FeedAt H f):Kt H H':=fun a xs r=>by
 obtain⟨p,q,hf⟩:=hf
 rcases r with h|⟨o,h⟩
 ·exact .inl (e.1 a _ (ne_of h hf (by intro z;cases z)) h)
 ·exact .inr ⟨o,e.1 a _ (ne_of h hf (by intro z;cases z)) h⟩
theorem Ext.lst{f:Addr}{H H':Hp}(e:Ext f H H'){l:Addr}{xs:List V}(n:l≠f)(h:H l=some (.lst xs)):H' l=some (.lst xs):=e.1 l _ n h
theorem Ext.new{f:Addr}{H H':Hp}(e:Ext f H H'){p:Addr}(h:H' p=none)(o:HO):Ext f H (L2.upd H' p o):=e.same (same_new h o)
structure Has(P:Program) (w:World) (K:PySem.W.Frag) (mg:Str->Option Value) (base:Heap) (x:Str) (k:Nat) (ps:List Str) (sp:Sp) (f:Addr) (fd:FuncData):Prop where
 ok:FnOk P w K mg base CX0 k f fd ps sp
 at':mg x=some (.ref f)
 kp:PySem.W.keepIn K (.ref f)=true
 bd:Binds K fd ps []
theorem fn_none{P:Program}{w:World}{K:PySem.W.Frag}{mg:Str->Option Value}{base:Heap}{k:Nat}{f:Addr}{fd:FuncData}{ps:List Str}{sp:Sp}(h:∀vs H Q E,¬sp vs H Q E):FnOk P w K mg base CX0 k f fd ps sp :=
 ⟨fun vs H Q E z=>(h vs H Q E z).elim,fun _ _ _ _ _ _ _ _ _ _ _ _ _ z=>(h _ _ _ _ z).elim⟩
end L2
namespace L2
open PySem PySem.Spec PyProof.Rows
theorem SqT.same{K:PySem.W.Frag}{H H':Hp}(e:Same H H'){a:Addr}{xs:List V}(h:SqT K H a xs):SqT K H' a xs:=h.kt (Kt.same e)
theorem Rp.same{K:PySem.W.Frag}{H H':Hp}(e:Same H H'){x:T}{v:V}(h:Rp K H x v):Rp K H' x v:=h.kt (Kt.same e)
theorem Rps.same{K:PySem.W.Frag}{H H':Hp}(e:Same H H'){x:List T}{v:List V}(h:Rps K H x v):Rps K H' x v:=h.kt (Kt.same e)
theorem Rp.new{K:PySem.W.Frag}{H:Hp}{p:Addr}(hp:H p=none){xs:List T}{vs:List V}(h:Rps K H xs vs):Rp K (upd H p (.tup vs)) (.t xs) (.ref p):=.t (.of upd_same) (h.same (same_new hp _))
section
variable {K:PySem.W.Frag}{Q:VK}{H0:Hp}
end
theorem filterMap_somes{α β:Type}(f:α->Option β)(g:α->β):∀(l:List α),(∀a∈l,f a=some (g a))->l.filterMap f=l.map g
 | [],_=>rfl
 |a::r,h=>by rw[List.filterMap_cons,h a (.head _),List.map_cons,filterMap_somes f g r fun b hb=>h b (.tail _ hb)]
theorem range_rev{α:Type}(xs:List α):((List.range xs.length).map fun k=>xs.length-1-k).filterMap (xs[·]?)=xs.reverse:=by
 cases xs with
 |nil=>rfl
 |cons x r =>
  rw[List.filterMap_map,filterMap_somes _ (fun k=>(x::r).reverse.getD k x)]
  ·apply List.ext_getElem
   ·simp
   ·intro i h1 h2
    simp only[List.getElem_map,List.getElem_range]
    simp at h1
    simp only[List.getD_eq_getElem?_getD]
    rw[List.getElem?_eq_getElem h2]
    rfl
  ·intro k hk
   have hk':=List.mem_range.mp hk
   show(x::r)[(x::r).length-1-k]?=_
   have h2:k<(x::r).reverse.length:=by simpa using hk'
   simp only[List.getD_eq_getElem?_getD]
   rw[List.getElem?_eq_getElem h2,List.getElem_reverse,List.getElem?_eq_getElem (by omega)]
   rfl
theorem rev_range(n:Nat):sliceRange (sliceBounds none none (some (-1)) n).1 (sliceBounds none none (some (-1)) n).2.1 (sliceBounds none none (some (-1)) n).2.2=(List.range n).map fun k=>n-1-k:=by
 show sliceRange ((n:Int) - 1) (-1) (-1)=_
 unfold sliceRange
 have c:(if(-1:Int)>0 then(if(n:Int) - 1 < -1 then(-1 - ((n:Int) - 1)+-1-1) / -1 else 0)else(if(n:Int) - 1 > -1 then((n:Int) - 1 - -1 - -1-1) / (- -1)else 0))=(n:Int):=by
  rw[if_neg (by decide)]
  split
  ·rw[show(- -1:Int)=1 from rfl,Int.ediv_one];omega
  ·omega
 simp only[c,Int.toNat_natCast]
 refine List.map_congr_left fun k hk=>?_
 have:=List.mem_range.mp hk
 omega
theorem pick_rev(xs:List V):pickV xs none none (some (-1))=xs.reverse:=by
 rw[pick_of (rev_range xs.length)]
 exact range_rev xs
section
variable {K:PySem.W.Frag}{Q:VK}{H0:Hp}
end
end L2
namespace L2
open PySem
theorem Same.updF{H H1:Hp}{l:Addr}(s:Same H H1)(h:H l=none)(o:HO):Same H (upd H1 l o):=fun b o' e=>by rw[upd_ne (ne_of_none e h)];exact s b o' e
structure MSt(K:PySem.W.Frag) (Ps:St->Prop) (H2:Hp) (us:List V) (ys:List T) (σ:St) (H5:Hp):Prop where
 p:Ps σ
 s:Same H2 H5
 r:Rps K H5 ys us
section
variable {K:PySem.W.Frag}{σ0:St}{H0:Hp}{g:TG}{tt:TT}{te:TE}{Q:VK}
theorem fm1_le{α β:Type}{φ:α->List β}(h1:∀p,(φ p).length<=1):∀ps:List α,(ps.flatMap φ).length<=ps.length
 | []=>Nat.zero_le _
 |x::r=>by
  rw[List.flatMap_cons,List.length_append,List.length_cons]
  have:=h1 x
  have:=fm1_le h1 r
  omega
theorem fm_one{α β:Type}(f:α->β):∀l:List α,(l.flatMap fun p=>[f p])=l.map f
 | []=>rfl
 |x::r=>by rw[List.flatMap_cons,fm_one f r];rfl
theorem comp_mapT{α:Type}{e:α->T}{φ:α->List T}{ps:List α}{vs:List V}{a:Addr}(Ps:St->Prop)(hS:SqT K H0 a vs)(hr:Rps K H0 (ps.map e) vs)(hl:ps.length<=900)(h1:∀p,(φ p).length<=1)(h0:Ps σ0)
  (hs:∀p∈ps,∀x σ H2 (N:List V->St->Hp->Prop),Same H0 H2->Ps σ->Rp K H2 (e p) x->(∀us σ2 H5,MSt K Ps H2 us (φ p) σ2 H5->N us σ2 H5)->g x σ H2 fun σ2 H3=>tt σ2 H3 fun ok H4=>if ok=true then te σ2 H4 fun v H5=>N [v] σ2 H5 else N [] σ2 H4)
  (k:∀l H' ws,Same H0 H'->H0 l=none->H' l=some (.lst ws)->Rps K H' (ps.flatMap φ) ws->Q (.ref l) H'):CompW (Itt K a) g tt te Q σ0 H0:=by
 have l:=hr.length
 rw[List.length_map]at l
 refine comp_tup (xs:=vs) (fun i σ us H2=>Ps σ/\Same H0 H2/\Rps K H2 ((ps.take i).flatMap φ) us) ⟨h0,Same.refl _,.nil⟩ ?_ (small (by omega)) ?_ ?_ ?_
 ·rintro i σ us H2 hi ⟨_,_,r⟩
  rw[r.length]
  exact Nat.le_trans (fm1_le h1 _) (by rw[List.length_take];exact Nat.min_le_left _ _)
 ·rintro i σ us H2 hi ⟨_,s,_⟩
  exact hS.same s
 ·rintro i x σ us H2 hx ⟨p,s,r⟩
  obtain⟨y,hy,ry⟩:=hr.get' hx
  rw[List.getElem?_map]at hy
  obtain⟨q,hq,rfl⟩:=Option.map_eq_some_iff.mp hy
  have hil:i<ps.length:=(List.getElem?_eq_some_iff.mp hq).1
  have ep:ps[i]=q:=(List.getElem?_eq_some_iff.mp hq).2
  have z:=hs q (List.mem_of_getElem? hq) x σ H2 (fun ws σ2 H5=>Ps σ2/\Same H0 H5/\Rps K H5 ((ps.take (i+1)).flatMap φ) (us++ws)) s p (ry.same s) fun ws σ2 H5 m=>by
   refine⟨m.p,s.trans m.s,?_⟩
   rw[List.take_succ_eq_append_getElem hil,ep,List.flatMap_append]
   exact(r.same m.s).append (by rw[List.flatMap_cons,List.flatMap_nil,List.append_nil];exact m.r)
  simp only[List.append_nil]at z
  exact z
 ·rintro σ us H2 ⟨_,s,r⟩ p hp
  rw[l,List.take_length]at r
  exact k p _ us (s.trans (same_new hp _)) (s.free hp) upd_same (r.same (same_new hp _))
theorem Rps.strs_inv{H:Hp}:∀{ns:List Str}{vs:List V},Rps K H (ns.map .s) vs->vs=ns.map V.str
 | [],_,h=>h.inv0
 |n::r,_,h=>by
  obtain⟨v,us,rfl,g,h⟩:=Rps.inv (K:=K) (x:=.s n) h
  rw[g.inv_s,strs_inv h]
  rfl
end
end L2
namespace L2
open PySem PySem.Spec PyProof.Rows
def Vls(Vl:Bw->T->Prop):List Bw->List T->Prop
 | [],ts=>ts=[]
 |b::r,ts=>∃t q,ts=t::q/\Vl b t/\Vls Vl r q
theorem Vls.snoc{Vl:Bw->T->Prop}{b:Bw}{t:T}(h:Vl b t):∀{xs:List Bw}{ts:List T},Vls Vl xs ts->Vls Vl (xs++[b]) (ts++[t])
 | [],ts,e=>by
  have e:ts=[]:=e
  subst e
  exact⟨t,[],rfl,h,rfl⟩
 |x::r,ts,⟨u,q,e,h1,h2⟩=>by
  subst e
  exact⟨u,q++[t],rfl,h1,h2.snoc h⟩
section
variable {Gd:Bw->Prop}
def AllG(Gd:Bw->Prop)(st:BSt):Prop:=∀f∈st,∀x∈f.2,Gd x
theorem stp_inv {st st' : BSt} {w : List Nat} (h : stp st w = some st') : ∃ o xs s, st = (o, xs) :: s ∧
    (((w = [40] ∨ w = [91]) ∧ st' = (w.headD 0, []) :: st) ∨
     (¬ (w = [40] ∨ w = [91]) ∧ (w = [41] ∨ w = [93]) ∧ ∃ o' ys s', s = (o', ys) :: s' ∧ w = [clo o] ∧ st' = (o', ys ++ [.g o xs]) :: s') ∨
     (¬ (w = [40] ∨ w = [91]) ∧ ¬ (w = [41] ∨ w = [93]) ∧ st' = (o, xs ++ [.a w]) :: s)) := by
  cases st with
  | nil => cases h
  | cons f s =>
    obtain ⟨o, xs⟩ := f
    refine ⟨o, xs, s, rfl, ?_⟩
    by_cases h1 : w = [40] ∨ w = [91]
    · rw [stp_open h1] at h
      exact .inl ⟨h1, (Option.some.inj h).symm⟩
    · by_cases h2 : w = [41] ∨ w = [93]
      · refine .inr (.inl ⟨h1, h2, ?_⟩)
        cases s with
        | nil =>
          have h' : (if w = [40] ∨ w = [91] then some ((w.headD 0, []) :: (o, xs) :: []) else if w = [41] ∨ w = [93] then none else some ((o, xs ++ [.a w]) :: [])) = some st' := h
          rw [if_neg h1, if_pos h2] at h'
          cases h'
        | cons f2 s' =>
          obtain ⟨o', ys⟩ := f2
          have h' : (if w = [40] ∨ w = [91] then some ((w.headD 0, []) :: (o, xs) :: (o', ys) :: s') else if w = [41] ∨ w = [93] then (if w = [clo o] then some ((o', ys ++ [Bw.g o xs]) :: s') else none) else some ((o, xs ++ [.a w]) :: (o', ys) :: s')) = some st' := h
          rw [if_neg h1, if_pos h2] at h'
          by_cases h3 : w = [clo o]
          · rw [if_pos h3] at h'
            exact ⟨o', ys, s', rfl, h3, (Option.some.inj h').symm⟩
          · rw [if_neg h3] at h'
            cases h'
      · rw [stp_atom h1 h2] at h
        exact .inr (.inr ⟨h1, h2, (Option.some.inj h).symm⟩)
theorem stp_back(hG:∀o ws,Gd (.g o ws)->∀x∈ws,Gd x){st st':BSt}{w:List Nat}(h:stp st w=some st')(g:AllG Gd st'):AllG Gd st:=by
 obtain⟨o,xs,s,rfl,c⟩:=stp_inv h
 rcases c with⟨_,rfl⟩|⟨_,_,o',ys,s',rfl,_,rfl⟩|⟨_,_,rfl⟩
 ·exact fun f hf=>g f (.tail _ hf)
 ·intro f hf x hx
  rcases List.mem_cons.mp hf with rfl|hf
  ·exact hG o xs (g _ (.head _) _ (List.mem_append_right _ (.head _))) x hx
  rcases List.mem_cons.mp hf with rfl|hf
  ·exact g _ (.head _) x (List.mem_append_left _ hx)
  ·exact g f (.tail _ hf) x hx
 ·intro f hf x hx
  rcases List.mem_cons.mp hf with rfl|hf
  ·exact g _ (.head _) x (List.mem_append_left _ hx)
  ·exact g f (.tail _ hf) x hx
theorem brun_back(hG:∀o ws,Gd (.g o ws)->∀x∈ws,Gd x):∀{r:List (List Nat)}{st fin:BSt},brun st r=some fin->AllG Gd fin->AllG Gd st
 | [],st,fin,h,g=>by cases h;exact g
 |w::r,st,fin,h,g=>by
  have h:(stp st w).bind (fun st'=>brun st' r)=some fin:=h
  cases e:stp st w with
  |none=>rw[e]at h;cases h
  |some st' =>
   rw[e]at h
   exact stp_back hG e (brun_back hG h g)
end
section
variable {K:PySem.W.Frag}{Vl:Bw->T->Prop}
def FrsAt(K:PySem.W.Frag)(Vl:Bw->T->Prop)(H:Hp):BSt->List Addr->Prop
 | [],hs=>hs=[]
 |f::st,hs=>∃h r vs ts,hs=h::r/\H h=some (.lst vs)/\Rps K H ts vs/\Vls Vl f.2 ts/\vs.length<=100000/\FrsAt K Vl H st r
theorem FrsAt.keep{H H':Hp}(k:Kt H H'):∀{st:BSt}{hs:List Addr},FrsAt K Vl H st hs->(∀h∈hs,∀vs,H h=some (.lst vs)->H' h=some (.lst vs))->FrsAt K Vl H' st hs
 | [],_,h,_=>h
 |_::_,_,⟨h,r,vs,ts,e,h1,h2,h3,h4,h5⟩,hk=>by
  subst e
  exact⟨h,r,vs,ts,rfl,hk h (.head _) vs h1,h2.kt k,h3,h4,h5.keep k fun x hx=>hk x (.tail _ hx)⟩
theorem FrsAt.some{H:Hp}:∀{st:BSt}{hs:List Addr},FrsAt K Vl H st hs->∀h∈hs,∃vs,H h=some (.lst vs)
 | [],_,e,x,hx=>by
  have e:_=[]:=e
  subst e
  cases hx
 |_::_,_,⟨h,r,vs,ts,e,h1,_,_,_,h5⟩,x,hx=>by
  subst e
  cases hx with
  |head=>exact⟨vs,h1⟩
  |tail _ hx=>exact h5.some x hx
def opsV(st:BSt):List V:=(st.dropLast.map fun f=>V.str ⟨#[f.1]⟩).reverse
structure StAt(K:PySem.W.Frag) (Vl:Bw->T->Prop) (B:Hp) (o hl:Addr) (hs:List Addr) (st:BSt) (H:Hp):Prop where
 same:Same B H
 new:∀x∈o::hl::hs,B x=none
 nd:(o::hl::hs).Nodup
 op:H o=some (.lst (opsV st))
 hd:H hl=some (.lst (hs.reverse.map V.ref))
 fr:FrsAt K Vl H st hs
 ok:∀f∈st.dropLast,f.1=40\/f.1=91
variable {B H H':Hp}{o hl:Addr}{hs:List Addr}{st:BSt}
theorem nd3(nd:(o::hl::hs).Nodup):o≠hl/\(∀x∈hs,o≠x)/\(∀x∈hs,hl≠x)/\hs.Nodup:=by
 obtain⟨h1,h2⟩:=List.nodup_cons.mp nd
 obtain⟨h3,h4⟩:=List.nodup_cons.mp h2
 exact⟨fun e=>h1 (by rw[e];exact .head _),fun x hx e=>h1 (by rw[e];exact .tail _ hx),fun x hx e=>h3 (by rw[e];exact hx),h4⟩
theorem StAt.up(p:StAt K Vl B o hl hs st H)(s:Same H H'):StAt K Vl B o hl hs st H' :=
 ⟨p.same.trans s,p.new,p.nd,s _ _ p.op,s _ _ p.hd,p.fr.keep (Kt.same s) fun h _ vs e=>s _ _ e,p.ok⟩
end
def Ad(p:Str):List Nat->Prop
 | []=>folB p "blank"=true
 |c::l=>folB p (srtB c)=true/\Ad (srtB c) l
theorem ad_of:∀(l:List Nat) (a:Nat),AdB (a::(l++[32]))->Ad (srtB a) l
 | [],a,h=>by
  have h:(folB (srtB a) (srtB 32)&&true)=true:=h
  rw[Bool.and_true]at h
  exact h
 |c::l,a,h=>by
  have h:(folB (srtB a) (srtB c)&&(List.zipWith (fun a b=>folB (srtB a) (srtB b)) (c::(l++[32])) (l++[32])).all id)=true:=h
  rw[Bool.and_eq_true]at h
  exact⟨h.1,ad_of l c h.2⟩
def opT(t:List Nat):Bool:=decide (t=[40]\/t=[91])
def clT(t:List Nat):Bool:=decide (t=[41]\/t=[93])
def ren:Bool->List (List Nat)->List Nat
 |_,[]=>[]
 |b,t::ts=>(if b=true\/clT t=true then t else 32::t)++ren (opT t) ts
def TkOk(t:List Nat):Prop:=(∃c,t=[c]/\(c=40\/c=91\/c=41\/c=93))\/(t≠[]/\∀a∈t,wsg a)
theorem srt_cases(c:Nat):(c=32/\srtB c="blank")\/((c=40\/c=91)/\srtB c="start")\/((c=41\/c=93)/\srtB c="end")\/(wsg c/\srtB c="word"):=by
 unfold srtB
 by_cases h1:c=32
 ·exact .inl ⟨h1,if_pos h1⟩
 by_cases h2:c=40\/c=91
 ·exact .inr (.inl ⟨h2,by rw[if_neg h1,if_pos h2]⟩)
 by_cases h3:c=41\/c=93
 ·exact .inr (.inr (.inl ⟨h3,by rw[if_neg h1,if_neg h2,if_pos h3]⟩))
 ·exact .inr (.inr (.inr ⟨by unfold wsg;omega,by rw[if_neg h1,if_neg h2,if_neg h3]⟩))
theorem Rb_cons(c:Nat)(l:List Nat):Rb (c::l)=Rb [c]++Rb l:=Rb_app [c] l
theorem Rb_cl{c:Nat}(h:c=41\/c=93):Rb [c]=[32,c]:=by rcases h with rfl|rfl<;>rfl
theorem op_one{c:Nat}(h:c=40\/c=91):opT [c]=true/\clT [c]=false:=by rcases h with rfl|rfl<;>decide
theorem cl_one{c:Nat}(h:c=41\/c=93):opT [c]=false/\clT [c]=true:=by rcases h with rfl|rfl<;>decide
theorem wd_ok{c:Nat}{v:List Nat}(h:wsg c):opT (c::v)=false/\clT (c::v)=false:=by
 unfold wsg at h
 constructor
 ·refine decide_eq_false fun z=>?_
  rcases z with z|z<;>(injection z with z _;omega)
 ·refine decide_eq_false fun z=>?_
  rcases z with z|z<;>(injection z with z _;omega)
structure Bh(l:List Nat):Prop where
 tl:Tl (Rb l)
 e:l=ren false (wd (Rb l))
 o:∀t∈wd (Rb l),TkOk t
structure Fr(l:List Nat):Prop where
 e:l=ren true (wd (Rb l))
 o:∀t∈wd (Rb l),TkOk t
theorem wd_put{w r:List Nat}(h:32∉w)(h0:w≠[])(ht:Tl r):wd (w++r)=w::wd r:=by
 rcases ht with rfl|⟨t,rfl⟩
 ·rw[List.append_nil,wd_one h h0];rfl
 ·rw[wd_word h h0,wd_blank]
theorem ren_bl{ts:List (List Nat)}{t:List Nat}(h:clT t=false):ren false (t::ts)=32::ren true (t::ts):=by
 show(if false=true\/clT t=true then t else 32::t)++_=32::((if true=true\/clT t=true then t else 32::t)++_)
 rw[if_neg (by rw[h];simp),if_pos (.inl rfl)]
 rfl
theorem ren_t{ts:List (List Nat)}{t:List Nat}:ren true (t::ts)=t++ren (opT t) ts:=by
 show(if true=true\/clT t=true then t else 32::t)++_=_
 rw[if_pos (.inl rfl)]
theorem ren_c{ts:List (List Nat)}{t:List Nat}(h:clT t=true):ren false (t::ts)=t++ren (opT t) ts:=by
 show(if false=true\/clT t=true then t else 32::t)++_=_
 rw[if_pos (.inr h)]
theorem parted:∀l:List Nat,
  (Ad "blank" l->Fr l/\∃t ts,wd (Rb l)=t::ts/\clT t=false)/\(Ad "start" l->Fr l)/\(Ad "end" l->Bh l)/\(Ad "word" l->∃v r,l=v++r/\(∀a∈v,wsg a)/\Bh r)
 | []=>by
  refine⟨fun h=>?_,fun h=>?_,fun _=>⟨.inl rfl,rfl,(fun _ h=>nomatch h)⟩,fun _=>⟨[],[],rfl,(fun _ h=>nomatch h),⟨.inl rfl,rfl,(fun _ h=>nomatch h)⟩⟩⟩
  ·have h:folB "blank" "blank"=true:=h
   exact absurd h (by decide +kernel)
  ·have h:folB "start" "blank"=true:=h
   exact absurd h (by decide +kernel)
 |c::l=>by
  obtain⟨ib,is,ie,iw⟩:=parted l
  -- a bracket opens
  have hs:(c=40\/c=91)->Ad "start" l->Fr (c::l)/\wd (Rb (c::l))=[c]::wd (Rb l):=fun hc h=>by
   have f:=is h
   have e:wd (Rb (c::l))=[c]::wd (Rb l):=by
    rw[Rb_cons,Rb_o hc]
    exact wd_word (w:=[c]) (l:=Rb l) (by rcases hc with rfl|rfl<;>decide) (by simp)
   refine⟨⟨?_,fun t ht=>?_⟩,e⟩
   ·rw[e,ren_t,(op_one hc).1,←f.e];rfl
   ·rw[e]at ht
    rcases List.mem_cons.mp ht with rfl|ht
    ·exact .inl ⟨c,rfl,by omega⟩
    ·exact f.o t ht
  -- a bracket closes
  have he:(c=41\/c=93)->Ad "end" l->Bh l/\wd (Rb (c::l))=[c]::wd (Rb l):=fun hc h=>by
   have b:=ie h
   refine⟨b,?_⟩
   rw[Rb_cons,Rb_cl hc]
   show wd (32::([c]++Rb l))=_
   rw[wd_blank]
   exact wd_put (by rcases hc with rfl|rfl<;>decide) (by simp) b.tl
  have heo:(c=41\/c=93)->Bh l->wd (Rb (c::l))=[c]::wd (Rb l)->∀t∈wd (Rb (c::l)),TkOk t:=fun hc b e t ht=>by
   rw[e]at ht
   rcases List.mem_cons.mp ht with rfl|ht
   ·exact .inl ⟨c,rfl,by omega⟩
   ·exact b.o t ht
  have heb:(c=41\/c=93)->Ad "end" l->Bh (c::l):=fun hc h=>by
   obtain⟨b,e⟩:=he hc h
   refine⟨.inr ⟨c::Rb l,by rw[Rb_cons,Rb_cl hc];rfl⟩,?_,heo hc b e⟩
   rw[e,ren_c (cl_one hc).2,(cl_one hc).1,←b.e];rfl
  -- a blank
  have hb:c=32->Ad "blank" l->Bh (c::l):=fun hc h=>by
   obtain⟨f,t,ts,et,nt⟩:=ib h
   have e:wd (Rb (c::l))=wd (Rb l):=by
    rw[hc,Rb_cons,Rb_32]
    exact wd_blank
   refine⟨.inr ⟨Rb l,by rw[hc,Rb_cons,Rb_32];rfl⟩,?_,fun t ht=>f.o t (by rw[←e];exact ht)⟩
   have fe:=f.e
   rw[et]at fe
   rw[e,et,ren_bl nt,←fe,hc]
  -- a word
  have hw:wsg c->Ad "word" l->Fr (c::l)/\(∃t ts,wd (Rb (c::l))=t::ts/\clT t=false)/\∃v r,c::l=v++r/\(∀a∈v,wsg a)/\Bh r:=fun hc h=>by
   obtain⟨v,r,rfl,hv,b⟩:=iw h
   have hcv:∀a∈c::v,wsg a:=fun a ha=>(List.mem_cons.mp ha).elim (fun z=>by rw[z];exact hc) (hv a)
   have e:wd (Rb (c::(v++r)))=(c::v)::wd (Rb r):=by
    rw[show c::(v++r)=(c::v)++r from rfl,Rb_app,Rb_free hcv]
    exact wd_put (fun m=>(hcv _ m).1 rfl) (by simp) b.tl
   refine⟨⟨?_,fun t ht=>?_⟩,⟨_,_,e,(wd_ok hc).2⟩,c::v,r,rfl,hcv,b⟩
   ·rw[e,ren_t,(wd_ok hc).1,←b.e];rfl
   ·rw[e]at ht
    rcases List.mem_cons.mp ht with rfl|ht
    ·exact .inr ⟨by simp,hcv⟩
    ·exact b.o t ht
  refine⟨fun h=>?_,fun h=>?_,fun h=>?_,fun h=>?_⟩
  ·obtain⟨h1,h2⟩:=h
   rcases srt_cases c with⟨hc,es⟩|⟨hc,es⟩|⟨hc,es⟩|⟨hc,es⟩<;>rw[es]at h1 h2
   ·exact absurd h1 (by decide +kernel)
   ·obtain⟨f,e⟩:=hs hc h2
    exact⟨f,_,_,e,(op_one hc).2⟩
   ·exact absurd h1 (by decide +kernel)
   ·obtain⟨f,e,_⟩:=hw hc h2
    exact⟨f,e⟩
  ·obtain⟨h1,h2⟩:=h
   rcases srt_cases c with⟨hc,es⟩|⟨hc,es⟩|⟨hc,es⟩|⟨hc,es⟩<;>rw[es]at h1 h2
   ·exact absurd h1 (by decide +kernel)
   ·exact(hs hc h2).1
   ·obtain⟨b,e⟩:=he hc h2
    refine⟨?_,heo hc b e⟩
    rw[e,ren_t,(cl_one hc).1,←b.e];rfl
   ·exact(hw hc h2).1
  ·obtain⟨h1,h2⟩:=h
   rcases srt_cases c with⟨hc,es⟩|⟨hc,es⟩|⟨hc,es⟩|⟨hc,es⟩<;>rw[es]at h1 h2
   ·exact hb hc h2
   ·exact absurd h1 (by decide +kernel)
   ·exact heb hc h2
   ·exact absurd h1 (by decide +kernel)
  ·obtain⟨h1,h2⟩:=h
   rcases srt_cases c with⟨hc,es⟩|⟨hc,es⟩|⟨hc,es⟩|⟨hc,es⟩<;>rw[es]at h1 h2
   ·exact⟨[],_,rfl,(fun _ h=>nomatch h),hb hc h2⟩
   ·exact absurd h1 (by decide +kernel)
   ·exact⟨[],_,rfl,(fun _ h=>nomatch h),heb hc h2⟩
   ·exact(hw hc h2).2.2
theorem adB_ren{l:List Nat}(h:AdB (32::(l++[32]))):l=ren true (wd (Rb l))/\∀t∈wd (Rb l),TkOk t :=
 let f:=((parted l).1 (ad_of l 32 h)).1
 ⟨f.e,f.o⟩
theorem adB_r:∀(l:List Bw),Bw.oks l->∀m,Eb m->AdB m->Eb (Bw.txtr l++m)/\AdB (Bw.txtr l++m)
 | [],_,m,hm,ad=>by unfold Bw.txtr;exact⟨hm,ad⟩
 |x::r,hk,m,hm,ad=>by
  unfold Bw.oks at hk
  obtain⟨e1,a1⟩:=adB_r r hk.2 m hm ad
  unfold Bw.txtr
  show Eb (32::((x.txt++Bw.txtr r)++m))/\AdB (32::((x.txt++Bw.txtr r)++m))
  rw[List.append_assoc]
  exact⟨⟨32,_,rfl,.inr (by decide +kernel)⟩,adB_in (.inr (by decide +kernel)) (x.sb hk.1 _) (adB_Bw x hk.1 _ e1 a1)⟩
theorem adB_txts{l:List Bw}(h:Bw.oks l)(hn:l≠[]):AdB (32::(Bw.txts l++[32])):=by
 cases l with
 |nil=>exact absurd rfl hn
 |cons x r =>
  unfold Bw.oks at h
  unfold Bw.txts
  rw[List.append_assoc]
  obtain⟨e1,a1⟩:=adB_r r h.2 [32] ⟨32,[],rfl,.inr (by decide +kernel)⟩ rfl
  exact adB_in (.inr (by decide +kernel)) (x.sb h.1 _) (adB_Bw x h.1 _ e1 a1)
theorem wd_r:∀(l:List Bw),Bw.oks l->Tl (Rb (Bw.txtr l))/\wd (Rb (Bw.txtr l))=Bw.tokss l
 | [],_=>⟨.inl rfl,rfl⟩
 |x::r,h=>by
  unfold Bw.oks at h
  obtain⟨t1,e1⟩:=wd_r r h.2
  unfold Bw.txtr Bw.tokss
  rw[show 32::(x.txt++Bw.txtr r)=[32]++(x.txt++Bw.txtr r)from rfl,Rb_app,Rb_32,Rb_app]
  exact⟨.inr ⟨_,rfl⟩,by show wd (32::(Rb x.txt++Rb (Bw.txtr r)))=_;rw[wd_blank,wd_Rb x h.1 _ t1,e1]⟩
theorem wd_txts{l:List Bw}(h:Bw.oks l):wd (Rb (Bw.txts l))=Bw.tokss l:=by
 cases l with
 |nil=>rfl
 |cons x r =>
  unfold Bw.oks at h
  obtain⟨t1,e1⟩:=wd_r r h.2
  unfold Bw.txts Bw.tokss
  rw[Rb_app,wd_Rb x h.1 _ t1,e1]
theorem brun_ws:∀(l:List Bw),Bw.oks l->∀(o:Nat) (ys:List Bw) (st:BSt),brun ((o,ys)::st) (Bw.tokss l)=some ((o,ys++l)::st)
 | [],_,o,ys,st=>by unfold Bw.tokss;rw[List.append_nil];rfl
 |x::r,hk,o,ys,st=>by
  unfold Bw.oks at hk
  unfold Bw.tokss
  rw[brun_app,brun_w x hk.1,Option.bind_some,brun_ws r hk.2,List.append_assoc]
  rfl
abbrev RvT:=List Addr->Hp->Bw->V->Prop
structure Kl2(M:List Addr) (H H':Hp):Prop where
 kt:Kt H H'
 l:∀a vs,a∉M->H a=some (.lst vs)->H' a=some (.lst vs)
theorem Kl2.trans{M:List Addr}{H H1 H2:Hp}(a:Kl2 M H H1)(b:Kl2 M H1 H2):Kl2 M H H2:=⟨a.kt.trans b.kt,fun x vs n e=>b.l x vs n (a.l x vs n e)⟩
theorem Kl2.same{M:List Addr}{H H':Hp}(s:Same H H'):Kl2 M H H':=⟨Kt.same s,fun a vs _ e=>s _ _ e⟩
theorem Kl2.upd{M:List Addr}{H:Hp}{l:Addr}{us:List V}{o:HO}(h:H l=some (.lst us))(m:l∈M):Kl2 M H (upd H l o):=⟨Kt.lst h o,fun a vs n e=>by rw[upd_ne (fun z=>n (by rw[z];exact m))];exact e⟩
theorem Kl2.new{M:List Addr}{H:Hp}{q:Addr}{o:HO}(h:H q=none):Kl2 M H (L2.upd H q o):=Kl2.same (same_new h o)
structure RvOk(R:RvT):Prop where
 keep:∀{M H H' b v},R M H b v->Kl2 M H H'->R M H' b v
 sub:∀{M M' H b v},R M H b v->(∀a∈M',a∈M\/H a=none)->R M' H b v
 word:∀M H w,R M H (.a w) (.str (ofL w))
def Rvs(R:RvT)(M:List Addr)(H:Hp):List Bw->List V->Prop
 | [],vs=>vs=[]
 |b::r,vs=>∃v q,vs=v::q/\R M H b v/\Rvs R M H r q
section
variable {R:RvT}{M M':List Addr}{H H':Hp}
theorem Rvs.snoc{b:Bw}{v:V}(h:R M H b v):∀{xs:List Bw}{vs:List V},Rvs R M H xs vs->Rvs R M H (xs++[b]) (vs++[v])
 | [],vs,e=>by
  have e:vs=[]:=e
  subst e
  exact⟨v,[],rfl,h,rfl⟩
 |x::r,vs,⟨u,q,e,h1,h2⟩=>by
  subst e
  exact⟨u,q++[v],rfl,h1,h2.snoc h⟩
theorem Rvs.len:∀{xs:List Bw}{vs:List V},Rvs R M H xs vs->vs.length=xs.length
 | [],vs,e=>by
  have e:vs=[]:=e
  subst e
  rfl
 |x::r,vs,⟨u,q,e,h1,h2⟩=>by
  subst e
  rw[List.length_cons,h2.len,List.length_cons]
theorem Rvs.imp{R':RvT}(f:∀b v,R M H b v->R' M' H' b v):∀{xs:List Bw}{vs:List V},Rvs R M H xs vs->Rvs R' M' H' xs vs
 | [],_,e=>e
 |x::r,vs,⟨u,q,e,h1,h2⟩=>⟨u,q,e,f _ _ h1,h2.imp f⟩
theorem Rvs.get:∀{xs:List Bw}{vs:List V},Rvs R M H xs vs->∀{i:Nat}{v:V},vs[i]?=some v->∃b,xs[i]?=some b/\R M H b v
 | [],vs,e,i,v,h=>by
  have e:vs=[]:=e
  subst e
  simp at h
 |x::r,vs,⟨u,q,e,h1,h2⟩,i,v,h=>by
  subst e
  cases i with
  |zero=>cases Option.some.inj h;exact⟨x,rfl,h1⟩
  |succ i=>exact h2.get h
def FrG(R:RvT)(M:List Addr)(H:Hp):BSt->List Addr->Prop
 | [],hs=>hs=[]
 |f::st,hs=>∃h r vs,hs=h::r/\H h=some (.lst vs)/\Rvs R M H f.2 vs/\vs.length<=100000/\FrG R M H st r
theorem FrG.keep(O:RvOk R)(k:Kl2 M H H'):∀{st:BSt}{hs:List Addr},FrG R M H st hs->(∀h∈hs,∀vs,H h=some (.lst vs)->H' h=some (.lst vs))->FrG R M H' st hs
 | [],_,h,_=>h
 |_::_,_,⟨h,r,vs,e,h1,h2,h4,h5⟩,hk=>by
  subst e
  exact⟨h,r,vs,rfl,hk h (.head _) vs h1,h2.imp fun _ _ z=>O.keep z k,h4,h5.keep O k fun x hx=>hk x (.tail _ hx)⟩
theorem FrG.sub(O:RvOk R)(k:∀a∈M',a∈M\/H a=none):∀{st:BSt}{hs:List Addr},FrG R M H st hs->FrG R M' H st hs
 | [],_,h=>h
 |_::_,_,⟨h,r,vs,e,h1,h2,h4,h5⟩=>⟨h,r,vs,e,h1,h2.imp fun _ _ z=>O.sub z k,h4,h5.sub O k⟩
theorem FrG.some:∀{st:BSt}{hs:List Addr},FrG R M H st hs->∀h∈hs,∃vs,H h=some (.lst vs)
 | [],_,e,x,hx=>by
  have e:_=[]:=e
  subst e
  cases hx
 |_::_,_,⟨h,r,vs,e,h1,_,_,h5⟩,x,hx=>by
  subst e
  cases hx with
  |head=>exact⟨vs,h1⟩
  |tail _ hx=>exact h5.some x hx
theorem FrG.len:∀{st:BSt}{hs:List Addr},FrG R M H st hs->hs.length=st.length
 | [],_,e=>by
  have e:_=[]:=e
  subst e
  rfl
 |_::_,_,⟨h,r,vs,e,_,_,_,h5⟩=>by
  subst e
  rw[List.length_cons,h5.len,List.length_cons]
structure StG(R:RvT) (B:Hp) (o hl:Addr) (hs:List Addr) (st:BSt) (H:Hp):Prop where
 same:Same B H
 new:∀x∈o::hl::hs,B x=none
 nd:(o::hl::hs).Nodup
 op:H o=some (.lst (opsV st))
 hd:H hl=some (.lst (hs.reverse.map V.ref))
 fr:FrG R (o::hl::hs) H st hs
 ok:∀f∈st.dropLast,f.1=40\/f.1=91
variable {B:Hp}{o hl:Addr}{hs:List Addr}{st:BSt}
theorem StG.up(O:RvOk R)(p:StG R B o hl hs st H)(s:Same H H'):StG R B o hl hs st H' :=
 ⟨p.same.trans s,p.new,p.nd,s _ _ p.op,s _ _ p.hd,p.fr.keep O (Kl2.same s) fun h _ vs e=>s _ _ e,p.ok⟩
theorem StG.opn(O:RvOk R)(p:StG R B o hl hs st H)(hst:st≠[]){c:Nat}(hc:c=40\/c=91){q:Addr}(hq:H q=none) :
  StG R B o hl (q::hs) ((c,[])::st) (upd (upd (upd H o (.lst (opsV st++[.str ⟨#[c]⟩]))) q (.lst [])) hl (.lst (hs.reverse.map V.ref++[.ref q]))):=by
 obtain⟨n1,n2,n3,n4⟩:=nd3 p.nd
 have qo:q≠o:=fun e=>by rw[e,p.op]at hq;cases hq
 have ql:q≠hl:=fun e=>by rw[e,p.hd]at hq;cases hq
 have qs:∀x∈hs,q≠x:=fun x hx e=>by
  obtain⟨vs,hv⟩:=p.fr.some x hx
  rw[e,hv]at hq
  cases hq
 have q0:B q=none:=by
  cases e:B q with
  |none=>rfl
  |some u=>rw[p.same _ _ e]at hq;cases hq
 have hqo:upd H o (.lst (opsV st++[.str ⟨#[c]⟩])) q=none:=by rw[upd_ne qo];exact hq
 have k1:Kl2 (o::hl::q::hs) H (upd H o (.lst (opsV st++[.str ⟨#[c]⟩]))):=Kl2.upd p.op (.head _)
 have k2:Kl2 (o::hl::q::hs) _ (upd (upd H o (.lst (opsV st++[.str ⟨#[c]⟩]))) q (.lst [])):=Kl2.new hqo
 have hl2:upd (upd H o (.lst (opsV st++[.str ⟨#[c]⟩]))) q (.lst []) hl=some (.lst (hs.reverse.map V.ref)):=by rw[upd_ne (Ne.symm ql),upd_ne (Ne.symm n1)];exact p.hd
 have k3:Kl2 (o::hl::q::hs) _ (upd (upd (upd H o (.lst (opsV st++[.str ⟨#[c]⟩]))) q (.lst [])) hl (.lst (hs.reverse.map V.ref++[.ref q]))):=Kl2.upd hl2 (.tail _ (.head _))
 have ed:((c,[])::st).dropLast=(c,[])::st.dropLast:=by cases st with|nil=>exact absurd rfl hst|cons=>rfl
 refine⟨((p.same.updF (p.new o (.head _)) _).updF q0 _).updF (p.new hl (.tail _ (.head _))) _,?_,?_,?_,?_,?_,?_⟩
 ·intro x hx
  rcases List.mem_cons.mp hx with rfl|hx
  ·exact p.new _ (.head _)
  rcases List.mem_cons.mp hx with rfl|hx
  ·exact p.new _ (.tail _ (.head _))
  rcases List.mem_cons.mp hx with rfl|hx
  ·exact q0
  ·exact p.new _ (.tail _ (.tail _ hx))
 ·refine List.nodup_cons.mpr ⟨fun h=>?_,List.nodup_cons.mpr ⟨fun h=>?_,List.nodup_cons.mpr ⟨fun h=>qs _ h rfl,n4⟩⟩⟩
  ·rcases List.mem_cons.mp h with h|h
   ·exact n1 h
   rcases List.mem_cons.mp h with h|h
   ·exact qo h.symm
   ·exact n2 _ h rfl
  ·rcases List.mem_cons.mp h with h|h
   ·exact ql h.symm
   ·exact n3 _ h rfl
 ·rw[upd_ne n1,upd_ne (Ne.symm qo),upd_same]
  unfold opsV
  rw[ed,List.map_cons,List.reverse_cons]
 ·rw[upd_same,List.reverse_cons,List.map_append]
  rfl
 ·refine⟨q,hs,[],rfl,by rw[upd_ne ql,upd_same],rfl,Nat.zero_le _,(p.fr.sub O (M':=o::hl::q::hs) fun a ha=>?_).keep O ((k1.trans k2).trans k3) fun x hx vs e=>?_⟩
  ·rcases List.mem_cons.mp ha with rfl|ha
   ·exact .inl (.head _)
   rcases List.mem_cons.mp ha with rfl|ha
   ·exact .inl (.tail _ (.head _))
   rcases List.mem_cons.mp ha with rfl|ha
   ·exact .inr hq
   ·exact .inl (.tail _ (.tail _ ha))
  ·rw[upd_ne (Ne.symm (n3 x hx)),upd_ne (Ne.symm (qs x hx)),upd_ne (Ne.symm (n2 x hx))]
   exact e
 ·rw[ed]
  intro f hf
  rcases List.mem_cons.mp hf with rfl|hf
  ·exact hc
  ·exact p.ok f hf
theorem StG.app(O:RvOk R){c:Nat}{xs:List Bw}{h:Addr}(p:StG R B o hl (h::hs) ((c,xs)::st) H){b:Bw}{v:V}{vs:List V}(hv:H h=some (.lst vs))(r:R (o::hl::h::hs) H b v)(hn:vs.length<100000) :
  StG R B o hl (h::hs) ((c,xs++[b])::st) (upd H h (.lst (vs++[v]))):=by
 obtain⟨n1,n2,n3,n4⟩:=nd3 p.nd
 obtain⟨h',r',vs',e,h1,h2,h4,h5⟩:=p.fr
 cases e
 rw[hv]at h1
 cases h1
 have k1:Kl2 (o::hl::h::hs) H (upd H h (.lst (vs++[v]))):=Kl2.upd hv (.tail _ (.tail _ (.head _)))
 have ed:∀x:List Bw,opsV ((c,x)::st)=opsV ((c,xs)::st):=fun x=>by unfold opsV;cases st<;>rfl
 refine⟨p.same.updF (p.new h (.tail _ (.tail _ (.head _)))) _,p.new,p.nd,?_,by rw[upd_ne (n3 h (.head _))];exact p.hd,?_,?_⟩
 ·rw[upd_ne (n2 h (.head _)),ed]
  exact p.op
 ·refine⟨h,hs,vs++[v],rfl,upd_same,(h2.snoc r).imp fun _ _ z=>O.keep z k1,by rw[List.length_append];exact hn,h5.keep O k1 fun x hx ws e=>?_⟩
  rw[upd_ne (fun z=>(List.nodup_cons.mp n4).1 (by rw[←z];exact hx))]
  exact e
 ·intro f hf
  cases st with
  |nil=>cases hf
  |cons f2 st2 =>
   rcases List.mem_cons.mp hf with rfl|hf
   ·exact p.ok (c,xs) (.head _)
   ·exact p.ok f (.tail _ hf)
theorem StG.pop(O:RvOk R){c:Nat}{xs:List Bw}{h:Addr}(p:StG R B o hl (h::hs) ((c,xs)::st) H)(hst:st≠[]) :
  StG R B o hl hs st (upd (upd H hl (.lst (hs.reverse.map V.ref))) o (.lst (opsV st)))/\∃vs,H h=some (.lst vs)/\upd (upd H hl (.lst (hs.reverse.map V.ref))) o (.lst (opsV st)) h=some (.lst vs)/\h∉o::hl::hs/\Rvs R (o::hl::hs) (upd (upd H hl (.lst (hs.reverse.map V.ref))) o (.lst (opsV st))) xs vs:=by
 obtain⟨n1,n2,n3,n4⟩:=nd3 p.nd
 obtain⟨h',r',vs',e,h1,h2,h4,h5⟩:=p.fr
 cases e
 have k1:Kl2 (o::hl::hs) H (upd H hl (.lst (hs.reverse.map V.ref))):=Kl2.upd p.hd (.tail _ (.head _))
 have ho:upd H hl (.lst (hs.reverse.map V.ref)) o=some (.lst (opsV ((c,xs)::st))):=by rw[upd_ne n1];exact p.op
 have k2:Kl2 (o::hl::hs) _ (upd (upd H hl (.lst (hs.reverse.map V.ref))) o (.lst (opsV st))):=Kl2.upd ho (.head _)
 have ed:((c,xs)::st).dropLast=(c,xs)::st.dropLast:=by cases st with|nil=>exact absurd rfl hst|cons=>rfl
 have sb:∀a∈o::hl::hs,a∈o::hl::h::hs\/H a=none:=fun a ha=>by
  rcases List.mem_cons.mp ha with rfl|ha
  ·exact .inl (.head _)
  rcases List.mem_cons.mp ha with rfl|ha
  ·exact .inl (.tail _ (.head _))
  ·exact .inl (.tail _ (.tail _ (.tail _ ha)))
 refine⟨⟨(p.same.updF (p.new hl (.tail _ (.head _))) _).updF (p.new o (.head _)) _,?_,?_,upd_same,by rw[upd_ne (Ne.symm n1),upd_same],?_,?_⟩,vs',h1,?_,?_,?_⟩
 ·intro x hx
  rcases List.mem_cons.mp hx with rfl|hx
  ·exact p.new _ (.head _)
  rcases List.mem_cons.mp hx with rfl|hx
  ·exact p.new _ (.tail _ (.head _))
  ·exact p.new _ (.tail _ (.tail _ (.tail _ hx)))
 ·refine List.nodup_cons.mpr ⟨fun z=>?_,List.nodup_cons.mpr ⟨fun z=>n3 _ (.tail _ z) rfl,(List.nodup_cons.mp n4).2⟩⟩
  rcases List.mem_cons.mp z with z|z
  ·exact n1 z
  ·exact n2 _ (.tail _ z) rfl
 ·refine(h5.sub O sb).keep O (k1.trans k2) fun x hx ws e=>?_
  rw[upd_ne (Ne.symm (n2 x (.tail _ hx))),upd_ne (Ne.symm (n3 x (.tail _ hx)))]
  exact e
 ·intro f hf
  exact p.ok f (by rw[ed];exact .tail _ hf)
 ·rw[upd_ne (Ne.symm (n2 h (.head _))),upd_ne (Ne.symm (n3 h (.head _)))]
  exact h1
 ·intro z
  rcases List.mem_cons.mp z with z|z
  ·exact n2 h (.head _) z.symm
  rcases List.mem_cons.mp z with z|z
  ·exact n3 h (.head _) z.symm
  ·exact(List.nodup_cons.mp n4).1 z
 ·exact h2.imp fun _ _ z=>O.keep (O.sub z sb) (k1.trans k2)
end
theorem tokss_app:∀(a b:List Bw),Bw.tokss (a++b)=Bw.tokss a++Bw.tokss b
 | [],b=>by unfold Bw.tokss;rfl
 |x::r,b=>by
  show Bw.tokss (x::(r++b))=_
  rw[Bw.tokss,Bw.tokss,tokss_app r b,List.append_assoc]
theorem tokss_one(b:Bw):Bw.tokss [b]=b.toks:=by rw[Bw.tokss,Bw.tokss,List.append_nil]
def flat:BSt->List (List Nat)
 | []=>[]
 |(o,xs)::st=>flat st++((if st.isEmpty then []else [[o]])++Bw.tokss xs)
theorem stp_flat{st st':BSt}{w:List Nat}(h:stp st w=some st'):flat st++[w]=flat st':=by
 obtain⟨o,xs,s,rfl,c⟩:=stp_inv h
 rcases c with⟨hw,rfl⟩|⟨_,_,o',ys,s',rfl,rfl,rfl⟩|⟨_,_,rfl⟩
 ·show _=flat ((o,xs)::s)++((if(((o,xs)::s):BSt).isEmpty then []else [[w.headD 0]])++Bw.tokss [])
  rw[show((((o,xs)::s):BSt).isEmpty)=false from rfl,Bw.tokss]
  rcases hw with rfl|rfl<;>simp
 ·show(flat ((o',ys)::s')++((if(((o',ys)::s'):BSt).isEmpty then []else [[o]])++Bw.tokss xs))++[[clo o]]=flat s'++((if s'.isEmpty then []else [[o']])++Bw.tokss (ys++[.g o xs]))
  rw[show((((o',ys)::s'):BSt).isEmpty)=false from rfl,tokss_app,tokss_one,Bw.toks,flat]
  simp
 ·show(flat s++((if s.isEmpty then []else [[o]])++Bw.tokss xs))++[w]=flat s++((if s.isEmpty then []else [[o]])++Bw.tokss (xs++[.a w]))
  rw[tokss_app,tokss_one,Bw.toks]
  simp
theorem brun_flat:∀{r:List (List Nat)}{st fin:BSt},brun st r=some fin->flat st++r=flat fin
 | [],st,fin,h=>by cases h;rw[List.append_nil]
 |w::r,st,fin,h=>by
  have h:(stp st w).bind (fun st'=>brun st' r)=some fin:=h
  cases e:stp st w with
  |none=>rw[e]at h;cases h
  |some st' =>
   rw[e]at h
   rw[show w::r=[w]++r from rfl,←List.append_assoc,stp_flat e]
   exact brun_flat h
theorem tk_word{w:List Nat}(h:TkOk w)(h1:¬(w=[40]\/w=[91]))(h2:¬(w=[41]\/w=[93])):w≠[]/\∀a∈w,wsg a:=by
 rcases h with⟨c,rfl,hc⟩|h
 ·rcases hc with rfl|rfl|rfl|rfl
  ·exact absurd (.inl rfl) h1
  ·exact absurd (.inr rfl) h1
  ·exact absurd (.inl rfl) h2
  ·exact absurd (.inr rfl) h2
 ·exact h
structure StOk(st:BSt):Prop where
 t:∀f∈st,∀x∈f.2,x.ok
 o:∀f∈st.dropLast,f.1=40\/f.1=91
theorem oks_of:∀{ws:List Bw},(∀x∈ws,x.ok)->Bw.oks ws
 | [],_=>by unfold Bw.oks;trivial
 |x::r,h=>by
  unfold Bw.oks
  exact⟨h x (.head _),oks_of fun y hy=>h y (.tail _ hy)⟩
theorem stp_ok{st st':BSt}{w:List Nat}(h:stp st w=some st')(hw:TkOk w)(k:StOk st):StOk st':=by
 obtain⟨o,xs,s,rfl,c⟩:=stp_inv h
 rcases c with⟨hw',rfl⟩|⟨_,_,o',ys,s',rfl,_,rfl⟩|⟨h1,h2,rfl⟩
 ·refine⟨fun f hf x hx=>?_,fun f hf=>?_⟩
  ·rcases List.mem_cons.mp hf with rfl|hf
   ·cases hx
   ·exact k.t f hf x hx
  ·rw[List.dropLast_cons_of_ne_nil (by simp)]at hf
   rcases List.mem_cons.mp hf with rfl|hf
   ·rcases hw' with rfl|rfl
    ·exact .inl rfl
    ·exact .inr rfl
   ·exact k.o f hf
 ·have ho:o=40\/o=91:=k.o (o,xs) (.head _)
  refine⟨fun f hf x hx=>?_,fun f hf=>?_⟩
  ·rcases List.mem_cons.mp hf with rfl|hf
   ·rcases List.mem_append.mp hx with hx|hx
    ·exact k.t (o',ys) (.tail _ (.head _)) x hx
    ·rw[List.mem_singleton.mp hx,Bw.ok]
     exact⟨ho,oks_of fun y hy=>k.t (o,xs) (.head _) y hy⟩
   ·exact k.t f (.tail _ (.tail _ hf)) x hx
  ·have ko:=k.o
   rw[List.dropLast_cons_of_ne_nil (by simp)]at ko
   cases s' with
   |nil=>cases hf
   |cons f2 s2 =>
    rw[List.dropLast_cons_of_ne_nil (by simp)]at hf ko
    rcases List.mem_cons.mp hf with rfl|hf
    ·exact ko (o',ys) (.tail _ (.head _))
    ·exact ko f (.tail _ (.tail _ hf))
 ·refine⟨fun f hf x hx=>?_,fun f hf=>?_⟩
  ·rcases List.mem_cons.mp hf with rfl|hf
   ·rcases List.mem_append.mp hx with hx|hx
    ·exact k.t (o,xs) (.head _) x hx
    ·rw[List.mem_singleton.mp hx,Bw.ok]
     exact tk_word hw h1 h2
   ·exact k.t f (.tail _ hf) x hx
  ·cases s with
   |nil=>cases hf
   |cons f2 s2 =>
    rw[List.dropLast_cons_of_ne_nil (by simp)]at hf
    rcases List.mem_cons.mp hf with rfl|hf
    ·exact k.o (o,xs) (.head _)
    ·exact k.o f (by rw[List.dropLast_cons_of_ne_nil (by simp)];exact .tail _ hf)
theorem brun_ok:∀{r:List (List Nat)}{st fin:BSt},brun st r=some fin->(∀t∈r,TkOk t)->StOk st->StOk fin
 | [],st,fin,h,_,k=>by cases h;exact k
 |w::r,st,fin,h,ht,k=>by
  have h:(stp st w).bind (fun st'=>brun st' r)=some fin:=h
  cases e:stp st w with
  |none=>rw[e]at h;cases h
  |some st' =>
   rw[e]at h
   exact brun_ok h (fun t m=>ht t (.tail _ m)) (stp_ok e (ht w (.head _)) k)
theorem ren_f{ts:List (List Nat)}{t:List Nat}(h:clT t=false):ren false (t::ts)=32::(t++ren (opT t) ts):=by rw[ren_bl h,ren_t]
theorem ren_Bw(b:Bw):b.ok->∀(p:Bool) (ts:List (List Nat)),ren p (b.toks++ts)=(if p=true then b.txt else 32::b.txt)++ren false ts:=by
 refine Bw.induct (P:=fun b=>b.ok->∀(p:Bool) (ts:List (List Nat)),ren p (b.toks++ts)=(if p=true then b.txt else 32::b.txt)++ren false ts) (fun w h p ts=>?_) (fun o ws ih h p ts=>?_) b
 ·unfold Bw.ok at h
  unfold Bw.toks Bw.txt
  cases w with
  |nil=>exact absurd rfl h.1
  |cons c v =>
   obtain⟨e1,e2⟩:=wd_ok (v:=v) (h.2 c (.head _))
   cases p with
   |true=>show ren true ((c::v)::ts)=_;rw[ren_t,e1];rfl
   |false=>show ren false ((c::v)::ts)=_;rw[ren_f e2,e1];rfl
 ·unfold Bw.ok at h
  obtain⟨ho,hw⟩:=h
  have hc:clo o=41\/clo o=93:=by rcases ho with rfl|rfl<;>decide
  have all:∀(l:List Bw),(∀x∈l,x.ok->∀(p:Bool) (ts:List (List Nat)),ren p (x.toks++ts)=(if p=true then x.txt else 32::x.txt)++ren false ts)->Bw.oks l->∀ts,ren false (Bw.tokss l++ts)=Bw.txtr l++ren false ts:=by
   intro l
   induction l with
   |nil=>intro _ _ ts;unfold Bw.tokss Bw.txtr;rfl
   |cons x r ihr =>
    intro hx hk ts
    unfold Bw.oks at hk
    unfold Bw.tokss Bw.txtr
    rw[List.append_assoc,hx x (.head _) hk.1,ihr (fun y hy=>hx y (.tail _ hy)) hk.2]
    simp
  have inn:ren true (Bw.tokss ws++([clo o]::ts))=Bw.txts ws++(clo o::ren false ts):=by
   cases ws with
   |nil =>
    unfold Bw.tokss Bw.txts
    show ren true ([clo o]::ts)=_
    rw[ren_t,(cl_one hc).1];rfl
   |cons x r =>
    unfold Bw.oks at hw
    unfold Bw.tokss Bw.txts
    rw[List.append_assoc,ih x (.head _) hw.1,all r (fun y hy=>ih y (.tail _ hy)) hw.2,ren_c (cl_one hc).2,(cl_one hc).1]
    simp
  unfold Bw.toks Bw.txt
  have e0:([o]::(Bw.tokss ws++[[clo o]]))++ts=[o]::(Bw.tokss ws++([clo o]::ts)):=by simp
  rw[e0]
  cases p with
  |true=>rw[ren_t,(op_one ho).1,inn];simp
  |false=>rw[ren_f (op_one ho).2,(op_one ho).1,inn];simp
theorem ren_all:∀{l:List Bw},Bw.oks l->∀ts,ren false (Bw.tokss l++ts)=Bw.txtr l++ren false ts
 | [],_,ts=>by unfold Bw.tokss Bw.txtr;rfl
 |x::r,hk,ts=>by
  unfold Bw.oks at hk
  unfold Bw.tokss Bw.txtr
  rw[List.append_assoc,ren_Bw x hk.1,ren_all hk.2]
  simp
theorem ren_txts{l:List Bw}(h:Bw.oks l):ren true (Bw.tokss l)=Bw.txts l:=by
 cases l with
 |nil=>unfold Bw.tokss Bw.txts;rfl
 |cons x r =>
  unfold Bw.oks at h
  unfold Bw.tokss Bw.txts
  have e:=ren_all h.2 []
  rw[List.append_nil]at e
  rw[ren_Bw x h.1,e,if_pos rfl]
  show x.txt++(Bw.txtr r++[])=_
  rw[List.append_nil]
theorem read_txt{l:List Nat}{bs:List Bw}(h:AdB (32::(l++[32])))(hr:brun [(0,[])] (wd (Rb l))=some [(0,bs)]):l=Bw.txts bs/\Bw.oks bs:=by
 obtain⟨e,o⟩:=adB_ren h
 have k:StOk [(0,bs)]:=brun_ok hr o ⟨(fun f hf x hx=>by rw[List.mem_singleton.mp hf]at hx;cases hx),(fun f hf=>nomatch hf)⟩
 have ob:Bw.oks bs:=oks_of fun x hx=>k.t (0,bs) (.head _) x hx
 have f:=brun_flat hr
 have f:wd (Rb l)=Bw.tokss bs:=by
  have e1:flat [(0,([]:List Bw))]=[]:=by show []++([]++Bw.tokss [])=_;unfold Bw.tokss;rfl
  have e2:flat [(0,bs)]=Bw.tokss bs:=by show []++([]++Bw.tokss bs)=_;simp
  rw[e1,e2]at f
  exact f
 rw[f,ren_txts ob]at e
 exact⟨e,ob⟩
theorem dig_char:∀d:Nat,d<10->(Nat.digitChar d).toNat=d+48:=by decide
theorem fig_snoc:∀(r:List Nat) (a:Nat),(48<a/\a<=57)->(∀c∈r,48<=c/\c<=57)->∃n:Nat,0<n/\(Nat.toDigits 10 n).map Char.toNat=a::r/\n<10 ^ (r.length+1):=by
 intro r
 have h:∀(k:Nat) (r:List Nat) (a:Nat),r.length=k->(48<a/\a<=57)->(∀c∈r,48<=c/\c<=57)->∃n:Nat,0<n/\(Nat.toDigits 10 n).map Char.toNat=a::r/\n<10 ^ (r.length+1):=by
  intro k
  induction k with
  |zero =>
   intro r a hl ha _
   obtain rfl:=List.length_eq_zero_iff.mp hl
   refine⟨a-48,by omega,?_,by show a-48<10 ^ 1;omega⟩
   rw[Nat.toDigits_of_lt_base (by omega),List.map_cons,dig_char _ (by omega)]
   show [a-48+48]=[a]
   congr 1
   omega
  |succ k ih =>
   intro r a hl ha hr
   rcases List.eq_nil_or_concat r with rfl|⟨q,c,rfl⟩
   ·cases hl
   ·rw[List.concat_eq_append]at hl hr⊢
    have hq:q.length=k:=by rw[List.length_append]at hl;simpa using hl
    obtain⟨n,n0,e,hn⟩:=ih q a hq ha fun x hx=>hr x (List.mem_append_left _ hx)
    have hc:=hr c (List.mem_append_right _ (.head _))
    refine⟨10*n+(c-48),by omega,?_,?_⟩
    ·rw[←Nat.toDigits_append_toDigits (by decide) n0 (by omega),List.map_append,e,Nat.toDigits_of_lt_base (by omega),List.map_cons,dig_char _ (by omega)]
     show a::q++[c-48+48]=a::(q++[c])
     rw[show c-48+48=c by omega]
     rfl
    ·rw[List.length_append]
     show 10*n+(c-48)<10 ^ (q.length+1+1)
     rw[Nat.pow_succ]
     omega
 exact fun a=>h r.length r a rfl
theorem fig_num{a:Nat}{r:List Nat}(ha:48<=a/\a<=57)(hr:∀c∈r,48<=c/\c<=57)(h0:r=[]\/a≠48)(hl:r.length<=5):∃n:Int,0<=n/\n<1000000/\(Str.ofString (toString n)).cps.toList=a::r:=by
 by_cases h:a=48
 ·rcases h0 with rfl|h0
  ·subst h
   exact⟨0,by decide,by decide,by decide +kernel⟩
  ·exact absurd h h0
 ·obtain⟨n,_,e,hn⟩:=fig_snoc r a (by omega) hr
  refine⟨(n:Int),by omega,?_,by rw[PySem.W.KIN.signs_num];exact e⟩
  have:10 ^ (r.length+1)<=10 ^ 6:=Nat.pow_le_pow_right (by decide) (by omega)
  have e6:(10:Nat) ^ 6=1000000:=by decide
  omega
end L2
namespace G12
open PySem L2
inductive Th|num (n:Int)|left (n:Int)|row (l:List Th)|tag (t:Str) (l:List Th)
mutual
def thT:Th->T
 |.num n=>.t [.s "num",.i n]
 |.left n=>.t [.s "left",.i n]
 |.row l=>.t [.s "row",.t (thTs l)]
 |.tag t l=>.t [.s "tag",.s t,.t (thTs l)]
def thTs:List Th->List T
 | []=>[]
 |x::r=>thT x::thTs r
end
mutual
def thB:Th->Bw
 |.num n=>.a (digs n)
 |.left n=>.a (60::(digs n++[62]))
 |.row l=>.g 91 (thBs l)
 |.tag t l=>.g 40 (.a t.cps.toList::thBs l)
def thBs:List Th->List Bw
 | []=>[]
 |x::r=>thB x::thBs r
end
mutual
def ThOk:Th->Prop
 |.num n=>0<=n/\n<1000000
 |.left n=>0<=n/\n<1000000
 |.row l=>ThOks l
 |.tag t l=>nmOk t/\ThOks l
def ThOks:List Th->Prop
 | []=>True
 |x::r=>ThOk x/\ThOks r
end
def nmB(l:List Nat):Bool:=decide (1<=l.length)&&(decide (l.length<=6)&&(!decide (ofL l∈keptS)&&l.all fun c=>decide (97<=c/\c<=122)))
theorem nmB_ok{l:List Nat}(h:nmB l=true):nmOk (ofL l):=by
 unfold nmB at h
 simp only[Bool.and_eq_true,decide_eq_true_eq,Bool.not_eq_true',decide_eq_false_iff_not,List.all_eq_true]at h
 obtain⟨h1,h2,h3,h4⟩:=h
 exact⟨by rw[ofL_len];exact h1,by rw[ofL_len];exact h2,by rw[toList_ofL];exact h4,h3⟩
theorem nmB_of{x:Str}(h:nmOk x):nmB x.cps.toList=true:=by
 unfold nmB
 simp only[Bool.and_eq_true,decide_eq_true_eq,Bool.not_eq_true',decide_eq_false_iff_not,List.all_eq_true]
 have e:x.cps.toList.length=x.length:=by show _=x.cps.size;simp
 exact⟨by rw[e];exact h.1,by rw[e];exact h.2.1,by rw[ofL_toList];exact h.2.2.2,h.2.2.1⟩
theorem fig_of{l:List Nat}(h:figB l 6=true):∃n:Int,(0<=n/\n<1000000)/\digs n=l:=by
 unfold figB at h
 split at h
 ·rename_i hl
  split at h
  ·rename_i hd
   cases l with
   |nil=>simp at hl
   |cons a r =>
    have dg:∀c∈a::r,48<=c/\c<=57:=fun c hc=>by
     have z:=List.all_eq_true.mp hd (dig c) (List.mem_map_of_mem hc)
     exact fig_out c (of_decide_eq_true z)
    have h0:r=[]\/a≠48:=by
     rw[Bool.or_eq_true,decide_eq_true_eq,decide_eq_true_eq]at h
     rcases h with h|h
     ·exact .inl (List.length_eq_zero_iff.mp (by simpa using h))
     ·exact .inr fun z=>h (by rw[z];rfl)
    obtain⟨n,n0,n1,e⟩:=fig_num (dg a (.head _)) (fun c hc=>dg c (.tail _ hc)) h0 (by have:=hl.2;simp only[List.length_cons]at this;omega)
    exact⟨n,⟨n0,n1⟩,e⟩
  ·cases h
 ·cases h
end G12
namespace G12
open PySem L2
theorem dchar:∀d:Nat,d<10->(Nat.digitChar d).toNat=48+d:=by decide
theorem dgt(m:Nat):∃a r,(Nat.toDigits 10 m).map Char.toNat=a::r/\(48<=a/\a<=57)/\(∀c∈r,48<=c/\c<=57)/\(m≠0->a≠48)/\(m<10->r=[])/\∀k,1<=k->m<10 ^ k->r.length+1<=k:=by
 induction m using Nat.strongRecOn with
 |_ m ih =>
  by_cases h:m<10
  ·rw[Nat.toDigits_of_lt_base h]
   have e:=dchar m h
   refine⟨_,[],rfl,?_,(fun c hc=>nomatch hc),fun hm=>?_,fun _=>rfl,fun k hk _=>hk⟩
   ·rw[e];omega
   ·rw[e];omega
  ·obtain⟨a,r,e,h1,h2,h3,_,h4⟩:=ih (m / 10) (by omega)
   have hm:m % 10<10:=Nat.mod_lt m (by decide)
   have t:Nat.toDigits 10 (m / 10)++Nat.toDigits 10 (m % 10)=Nat.toDigits 10 (10*(m / 10)+m % 10):=Nat.toDigits_append_toDigits (by decide) (by omega) hm
   rw[Nat.div_add_mod]at t
   have ed:=dchar (m % 10) hm
   refine⟨a,r++[48+m % 10],?_,h1,fun c hc=>?_,fun _=>h3 (by omega),fun z=>absurd z h,fun k hk hlt=>?_⟩
   ·rw[←t,List.map_append,e,Nat.toDigits_of_lt_base hm]
    show a::r++[(Nat.digitChar (m % 10)).toNat]=_
    rw[ed]
    rfl
   ·rcases List.mem_append.mp hc with hc|hc
    ·exact h2 c hc
    ·rw[List.mem_singleton.mp hc];omega
   ·rw[List.length_append]
    cases k with
    |zero=>omega
    |succ k =>
     cases k with
     |zero=>have:m<10 ^ 1:=hlt;omega
     |succ k =>
      have:m / 10<10 ^ (k+1):=by
       rw[Nat.pow_succ]at hlt
       exact Nat.div_lt_of_lt_mul (by rw[Nat.mul_comm];exact hlt)
      have:=h4 (k+1) (by omega) this
      show r.length+1+1<=_
      omega
theorem digs_big{n:Int}(h:0<=n/\n<1000000):∃a r,digs n=a::r/\(48<=a/\a<=57)/\(∀c∈r,48<=c/\c<=57)/\(r=[]\/a≠48)/\r.length<=5:=by
 obtain⟨m,rfl⟩:=Int.eq_ofNat_of_zero_le h.1
 obtain⟨a,r,e,h1,h2,h3,h4,h5⟩:=dgt m
 unfold digs
 rw[PySem.W.KIN.signs_num]
 refine⟨a,r,e,h1,h2,?_,?_⟩
 ·by_cases z:m<10
  ·exact .inl (h4 z)
  ·exact .inr (h3 (by omega))
 ·have:=h5 6 (by decide) (by have:=h.2;omega)
  omega
theorem figB_num{n:Int}(h:0<=n/\n<1000000):figB (digs n) 6=true:=by
 obtain⟨a,r,e,h1,h2,h3,h4⟩:=digs_big h
 rw[e]
 unfold figB
 have ha:∀c∈a::r,dig c=true:=fun c hc=>decide_eq_true (fig_in c (by
  rcases List.mem_cons.mp hc with rfl|hc
  ·exact h1
  ·exact h2 c hc))
 rw[if_pos (by rw[List.length_cons];omega),if_pos (all_true ha)]
 rcases h3 with rfl|h3
 ·rfl
 ·have:decide ((a::r)[0]?≠some 48)=true:=decide_eq_true (by simpa using h3)
  rw[this,Bool.or_true]
theorem nm_wsg{x:Str}(h:nmOk x):∀c∈x.cps.toList,wsg c:=fun c hc=>by
 have:=h.2.2.1 c hc
 unfold low at this
 unfold wsg
 omega
def good(b:Bw):Prop:=∃t,ThOk t/\b=thB t
def gd(b:Bw):Prop:=(∃w,b=.a w/\w.length<=3000)\/good b
theorem goods:∀{xs:List Bw},(∀x∈xs,good x)->∃l,ThOks l/\xs=thBs l
 | [],_=>⟨[],by unfold ThOks;trivial,by unfold thBs;rfl⟩
 |x::r,h=>by
  obtain⟨t,k,rfl⟩:=h x (.head _)
  obtain⟨l,ks,rfl⟩:=goods fun y hy=>h y (.tail _ hy)
  exact⟨t::l,by unfold ThOks;exact⟨k,ks⟩,by rw[thBs]⟩
theorem goods_of:∀{l:List Th},ThOks l->∀x∈thBs l,good x
 | [],_,x,hx=>by unfold thBs at hx;cases hx
 |t::r,k,x,hx=>by
  unfold ThOks at k
  unfold thBs at hx
  rcases List.mem_cons.mp hx with rfl|hx
  ·exact⟨t,k.1,rfl⟩
  ·exact goods_of k.2 x hx
def lefB(w:List Nat):Bool:=decide (w[0]?=some 60)&&(decide (w.getLast?=some 62)&&figB (w.tail.dropLast) 6)
theorem lefB_of{n:Int}(h:0<=n/\n<1000000):lefB (60::(digs n++[62]))=true:=by
 unfold lefB
 have e:(60::(digs n++[62])).getLast?=some 62:=by rw[show 60::(digs n++[62])=(60::digs n)++[62]from rfl,List.getLast?_append];rfl
 rw[show(60::(digs n++[62])).tail=digs n++[62]from rfl,List.dropLast_concat,figB_num h,e]
 rfl
theorem lefB_inv{w:List Nat}(h:lefB w=true):∃n:Int,(0<=n/\n<1000000)/\w=60::(digs n++[62]):=by
 unfold lefB at h
 simp only[Bool.and_eq_true,decide_eq_true_eq]at h
 obtain⟨h1,h2,h3⟩:=h
 cases w with
 |nil=>cases h1
 |cons a r =>
  obtain rfl:a=60:=Option.some.inj h1
  obtain⟨n,hn,e⟩:=fig_of h3
  refine⟨n,hn,?_⟩
  have e:digs n=r.dropLast:=e
  cases r with
  |nil=>cases h2
  |cons b q =>
   have h2:(b::q).getLast?=some 62:=by rw[←h2];simp
   rw[e,show [62]=[(b::q).getLast (by simp)]from by rw[List.getLast?_eq_some_getLast (by simp)]at h2;rw[Option.some.inj h2],List.dropLast_concat_getLast]
theorem good_a{w:List Nat}:good (.a w)↔figB w 6=true\/lefB w=true:=by
 constructor
 ·rintro⟨t,k,e⟩
  cases t with
  |num n=>unfold ThOk at k;unfold thB at e;cases e;exact .inl (figB_num k)
  |left n=>unfold ThOk at k;unfold thB at e;cases e;exact .inr (lefB_of k)
  |row l=>unfold thB at e;cases e
  |tag t l=>unfold thB at e;cases e
 ·rintro(h|h)
  ·obtain⟨n,hn,rfl⟩:=fig_of h
   exact⟨.num n,by unfold ThOk;exact hn,by rw[thB]⟩
  ·obtain⟨n,hn,rfl⟩:=lefB_inv h
   exact⟨.left n,by unfold ThOk;exact hn,by rw[thB]⟩
theorem good_row{xs:List Bw}:good (.g 91 xs)↔∀x∈xs,good x:=by
 constructor
 ·rintro⟨t,k,e⟩
  cases t with
  |num n=>unfold thB at e;cases e
  |left n=>unfold thB at e;cases e
  |row l=>unfold ThOk at k;unfold thB at e;cases e;exact goods_of k
  |tag t l=>unfold thB at e;cases e
 ·intro h
  obtain⟨l,k,rfl⟩:=goods h
  exact⟨.row l,by unfold ThOk;exact k,by rw[thB]⟩
theorem good_tag{xs:List Bw}:good (.g 40 xs)↔∃w r,xs=.a w::r/\nmB w=true/\∀x∈r,good x:=by
 constructor
 ·rintro⟨t,k,e⟩
  cases t with
  |num n=>unfold thB at e;cases e
  |left n=>unfold thB at e;cases e
  |row l=>unfold thB at e;cases e
  |tag t l=>unfold ThOk at k;unfold thB at e;cases e;exact⟨_,_,rfl,nmB_of k.1,goods_of k.2⟩
 ·rintro⟨w,r,rfl,hw,h⟩
  obtain⟨l,k,rfl⟩:=goods h
  exact⟨.tag (ofL w) l,by unfold ThOk;exact⟨nmB_ok hw,k⟩,by rw[thB,toList_ofL]⟩
theorem good_g{o:Nat}{xs:List Bw}(h:good (.g o xs)):o=40\/o=91:=by
 obtain⟨t,k,e⟩:=h
 cases t with
 |num n=>unfold thB at e;cases e
 |left n=>unfold thB at e;cases e
 |row l=>unfold thB at e;cases e;exact .inr rfl
 |tag t l=>unfold thB at e;cases e;exact .inl rfl
theorem gd_sub(o:Nat)(ws:List Bw)(h:gd (.g o ws)):∀x∈ws,gd x:=by
 rcases h with⟨w,e,_⟩|h
 ·cases e
 ·intro x hx
  rcases good_g h with rfl|rfl
  ·obtain⟨w,r,rfl,hw,hr⟩:=good_tag.mp h
   rcases List.mem_cons.mp hx with rfl|hx
   ·exact .inl ⟨w,rfl,by have:=(nmB_ok hw).2.1;rw[ofL_len]at this;omega⟩
   ·exact .inr (hr x hx)
  ·exact .inr (good_row.mp h x hx)
theorem gd_len{w:List Nat}(h:gd (.a w)):w.length<=3000:=by
 rcases h with⟨w',e,h⟩|h
 ·cases e;exact h
 ·have d6:∀{n:Int},(0<=n/\n<1000000)->(digs n).length<=6:=fun hn=>by
   obtain⟨a,r,e,_,_,_,l⟩:=digs_big hn
   rw[e,List.length_cons];omega
  rcases good_a.mp h with h|h
  ·obtain⟨n,hn,rfl⟩:=fig_of h
   have:=d6 hn
   omega
  ·obtain⟨n,hn,rfl⟩:=lefB_inv h
   have:=d6 hn
   rw[List.length_cons,List.length_append]
   simp only[List.length_cons,List.length_nil]
   omega
theorem digs_wsg{n:Int}(h:0<=n/\n<1000000):digs n≠[]/\∀c∈digs n,wsg c:=by
 obtain⟨a,r,e,h1,h2,_⟩:=digs_big h
 rw[e]
 refine⟨by simp,fun c hc=>?_⟩
 have:48<=c/\c<=57:=by
  rcases List.mem_cons.mp hc with rfl|hc
  ·exact h1
  ·exact h2 c hc
 unfold wsg
 omega
mutual
theorem thB_ok:∀{t:Th},ThOk t->(thB t).ok
 |.num n,h=>by unfold ThOk at h;unfold thB Bw.ok;exact digs_wsg h
 |.left n,h=>by
  unfold ThOk at h
  unfold thB Bw.ok
  refine⟨by simp,fun c hc=>?_⟩
  rcases List.mem_cons.mp hc with rfl|hc
  ·unfold wsg;omega
  rcases List.mem_append.mp hc with hc|hc
  ·exact(digs_wsg h).2 c hc
  ·rw[List.mem_singleton.mp hc];unfold wsg;omega
 |.row l,h=>by unfold ThOk at h;unfold thB Bw.ok;exact⟨.inr rfl,thBs_ok h⟩
 |.tag t l,h=>by
  unfold ThOk at h
  unfold thB Bw.ok Bw.oks Bw.ok
  refine⟨.inl rfl,⟨fun e=>?_,nm_wsg h.1⟩,thBs_ok h.2⟩
  have:=h.1.1
  have e2:t.cps.toList.length=t.length:=by show _=t.cps.size;simp
  rw[e]at e2
  simp at e2
  omega
theorem thBs_ok:∀{l:List Th},ThOks l->Bw.oks (thBs l)
 | [],_=>by unfold thBs Bw.oks;trivial
 |t::r,h=>by unfold ThOks at h;unfold thBs Bw.oks;exact⟨thB_ok h.1,thBs_ok h.2⟩
end
theorem thing_read{t:Th}(k:ThOk t):AdB (32::((thB t).txt++[32]))/\brun [(0,[])] (wd (Rb (thB t).txt))=some [(0,[thB t])]:=by
 have o:Bw.oks [thB t]:=by unfold Bw.oks Bw.oks;exact⟨thB_ok k,trivial⟩
 have e:Bw.txts [thB t]=(thB t).txt:=by rw[Bw.txts,Bw.txtr,List.append_nil]
 have a:=adB_txts o (by simp)
 have w:=wd_txts o
 rw[e]at a w
 refine⟨a,?_⟩
 rw[w]
 exact brun_ws [thB t] o 0 [] []
end G12
namespace L2
open PySem PySem.Spec PyProof.Rows
def visB(sc:Scope)(y:Str):Bool:=(sc.names.lookup y == some .local||sc.names.lookup y == some .cell||sc.names.lookup y == some .free)&&!(y == ("__debug__":Str))&&!(y == ("__classdict__":Str))
abbrev Nm(N:List Str)(sc:Scope):Prop:=N.all (visB sc)=true
def locB(sc:Scope)(y:Str):Bool:=sc.names.lookup y == some .local||sc.names.lookup y == some .cell
abbrev Lm(N:List Str)(sc:Scope):Prop:=N.all (locB sc)=true
theorem Nm.get{N:List Str}{sc:Scope}(h:Nm N sc){i:Nat}{x:Str}(e:N[i]?=some x):Vis sc x/\(x == ("__debug__":Str))=false/\(x == ("__classdict__":Str))=false:=by
 have z:=List.all_eq_true.mp h x (List.mem_of_getElem? e)
 unfold visB at z
 simp only[Bool.and_eq_true,Bool.or_eq_true,Bool.not_eq_true']at z
 obtain⟨⟨z1,z2⟩,z3⟩:=z
 refine⟨?_,z2,z3⟩
 rcases z1 with(z1|z1)|z1
 ·exact Or.inl (eq_of_beq z1)
 ·exact Or.inr (Or.inl (eq_of_beq z1))
 ·exact Or.inr (Or.inr (eq_of_beq z1))
theorem Lm.get{N:List Str}{sc:Scope}(h:Lm N sc){i:Nat}{x:Str}(e:N[i]?=some x):Loc sc x:=by
 have z:=List.all_eq_true.mp h x (List.mem_of_getElem? e)
 unfold locB at z
 simp only[Bool.or_eq_true]at z
 rcases z with z|z
 ·exact Or.inl (eq_of_beq z)
 ·exact Or.inr (eq_of_beq z)
section
variable {X:Cx}
theorem va{x:Str}{pos:Pos}(h:Nm X.N X.env.scope)(i:Nat)(hN:X.N[i]?=some x:=by rfl):PE X (.Name x pos) (tVar i):=pe_var hN (h.get hN).1 (h.get hN).2.1 (h.get hN).2.2
theorem sa{x:Str}{e:Expr}{te:TE}{pos pos':Pos}(hN:X.N.Nodup)(h:Lm X.N X.env.scope)(i:Nat)(he:PE X e te)(hi:X.N[i]?=some x:=by rfl)(hs:swapsWith e (some (.Name x pos')) pos.line X.env=pure false:=by kernel_rfl)
  (hf:X.fn x=true\/X.env.scope.names.lookup x=some .local:=by exact .inl rfl):PS X (.Assign [.Name x pos'] e pos) (tAsg te (gName i)):=ps_set hN hi (h.get hi) he hs hf
theorem ga{x:Str}{pos:Pos}(hN:X.N.Nodup)(h:Lm X.N X.env.scope)(i:Nat)(hi:X.N[i]?=some x:=by rfl)(hf:X.fn x=true\/X.env.scope.names.lookup x=some .local:=by first|exact .inl rfl|exact .inr (by kernel_rfl)):PG X (.Name x pos) (gName i):=pg_name hN hi (h.get hi) hf
end
section
variable {X:Cx}
theorem ps_comp{y:Str}{posn posa:Pos}{gg:TG}{elt iter tg:Expr}{ifs:List Expr}{scope:Scope}{pos:Pos}{wi:TI}{g:TG}{tt:TT}{te:TE}(own:List Str)(fr:List Nat)(hc:X.calm=true)
  (hkind:scope.kind=.function) (hcell:∀x∈scope.names,x.2≠.cell) (hnames:∀x∈scope.names,x.2=.local->scope.names.lookup x.1=some .local)
  (hfr:∀x∈scope.names,x.2=.free->X.env.scope.names.lookup x.1=some .cell\/X.env.scope.names.lookup x.1=some .free)
  (hin:∀j∈fr,scope.names.lookup (X.N.getD j Str.empty)=some .free)
  (hi:PI X tg iter wi) (hg:∀fp C s H,PG (cxComp X scope (own++fr.map fun j=>X.N.getD j Str.empty) fp C s H) tg g)
  (ht:∀fp C s H,PIfs (cxComp X scope (own++fr.map fun j=>X.N.getD j Str.empty) fp C s H) ifs tt)
  (he:∀fp C s H,PE (cxComp X scope (own++fr.map fun j=>X.N.getD j Str.empty) fp C s H) elt te)
  (hgg:PG X (.Name y posn) gg) (hsw:swapsWith (.ListComp elt [⟨tg,iter,ifs,0⟩] scope pos) (some (.Name y posn)) posa.line X.env=pure true)
  (hs:∀x,foldedSetIterable iter X.env x=pure x:=by intro _;rfl):PS X (.Assign [.Name y posn] (.ListComp elt [⟨tg,iter,ifs,0⟩] scope pos) posa) (tAsg (tComp own.length fr wi g tt te) gg):=by
 intro pins s σ H D0 I h
 rw[exec_Assign_Name_used _ _ _ _ hsw,arm_evalThenUse_ListComp]
 refine wpAny_bind (wpAny_standAt (wpAny_bind (wpAny_bind ?_)))
 have hfree:∀x∈scope.names,x.2=.free->∃c,X.env.cells.lookup x.1=some c:=fun x hx e=>I.ok.has x.1 (hfr x hx e)
 refine thn (wpAny_comprehension_free (use:=some (assign (.Name y posn) X.env)) (Q:=fun _ s'=>SP X pins D0 .next s') rfl hs (closureFor_eq hfree) hkind hnames ?_) fun _ _ q=>wpAny_pure (wpAny_pure q)
 refine thn (hi pins s σ H _ I h) fun v s1 h1=>thn h1 fun itv s2 h2=>?_
 obtain⟨it,fp,tn,J,H2,e,I2,T,st2,f2,W,⟨m0,w0⟩,turn⟩:=h2
 subst e
 have hfo:∀b∈fp,b<s2.heap.objs.size:=fun b hb=>by obtain⟨o,e,_⟩:=T.obj 0 _ st2 b hb;exact Heap.lt_size e
 refine wpAny_newObj_type (wpAny_newFunctionEnv hcell (by intro y hy;simp at hy) (fun h₁ hns₁ hsb₁=>?_) hkind)
 dsimp only at hns₁ hsb₁⊢
 generalize hH2:s2.heap.push {cls:=.type "list",dict:=none,data:=.seq ([]:List Value).toArray}=G2 at hns₁ hsb₁⊢
 have hC:G2.objs.size=s2.heap.objs.size+1:=by rw[←hH2,Heap.size_push]
 have hDC:s2.heap.objs.size≠G2.objs.size:=by rw[hC];exact Nat.ne_of_lt (Nat.lt_succ_self _)
 have hCle:s2.heap.objs.size<=G2.objs.size:=by rw[hC];exact Nat.le_succ _
 have old:∀b o,s2.heap.get? b=some o->h₁.get? b=some o:=fun b o e=>hsb₁.extBut b o (by rw[hC];exact Nat.ne_of_lt (Nat.lt_succ_of_lt (Heap.lt_size e))) (Heap.get?_push_of_some _ (hH2▸Heap.get?_push_of_some _ e))
 have hacc:h₁.PlainList s2.heap.objs.size #[]:=⟨_,hsb₁.extBut _ _ hDC (Heap.get?_push_of_some _ (hH2▸Heap.get?_push_size _ rfl))⟩
 have I3:Inv (cxComp X scope (own++fr.map fun j=>X.N.getD j Str.empty) fp G2.objs.size s2 H2) [] (innerSt own.length fr σ) H2 {s2 with heap:=h₁,toks:=s2.toks+([]:List (Str×Value)).length} :=
  comp_enter I2 hkind hcell hfr hin hCle f2 hfo old hns₁
 have st3:tn 0 h₁:=T.keep 0 _ _ st2 fun b _ o e=>old b o e
 have hDf:s2.heap.objs.size∉fp:=fun hm=>Nat.lt_irrefl _ (hfo _ hm)
 have hDn2:H2 s2.heap.objs.size=none:=I2.hok.fresh (Nat.le_refl _)
 have sub:∀y c,(cellsFor X.env scope.names []).lookup y=some c->X.env.cells.lookup y=some c:=cellsFor_sub _ _ hfree (by intro y c e;simp at e)
 have cellD:∀y c,(cellsFor X.env scope.names []).lookup y=some c->c≠s2.heap.objs.size:=fun y c e=>by
  obtain⟨_,o,ho,_⟩:=I2.cell y c (sub y c e)
  exact Nat.ne_of_lt (Heap.lt_size ho)
 have Dfs:s2.heap.objs.size∉frs X.stack:=fun z=>by
  rcases List.mem_cons.mp (I2.stkSub _ z)with e|e
  ·exact absurd I2.lt (by rw[←e];exact Nat.lt_irrefl _)
  ·exact I2.nofs (Nat.le_refl _) e
 -- the iterator's records,in the block's context
 have stat:∀{H':Hp}{pl:List (Addr×Obj)},(∀b∈fp,H' b=none)->(∀p∈pl,p.1=s2.heap.objs.size)->∀b∈fp,FpOk (cxComp X scope (own++fr.map fun j=>X.N.getD j Str.empty) fp G2.objs.size s2 H2) pl H' b:=fun{H' pl} hn hp b hb=>by
  refine⟨hn b hb,(I3.ok.exf b hb).1,I3.ok.exfs b hb,.inl hb,(I3.ok.exf b hb).2,fun p hpp z=>?_⟩
  have hpp':p∈pl:=by simpa[cxComp]using hpp
  exact hDf (by rw[←hp p hpp',z];exact hb)
 have pinD:∀{σ':St}{H':Hp}{s':Shared}{ys:Array Value}{n:Nat},Inv (cxComp X scope (own++fr.map fun j=>X.N.getD j Str.empty) fp G2.objs.size s2 H2) [] σ' H' s'->H' s2.heap.objs.size=none->s'.heap.get? s2.heap.objs.size=some {cls:=.type "list",data:=.seq ys n} ->
   Inv (cxComp X scope (own++fr.map fun j=>X.N.getD j Str.empty) fp G2.objs.size s2 H2) [(s2.heap.objs.size,{cls:=.type "list",data:=.seq ys n})] σ' H' s':=fun{σ' H' s' ys n} J hn e=>J.pins_of fun p hp=>by
  have e':p=(s2.heap.objs.size,{cls:=.type "list",data:=.seq ys n}):=by simpa using hp
  subst e'
  exact⟨e,hn,hDC,Dfs,fun v z=>nomatch z⟩
 have loop:codeAny (model X.prog X.w) X.A (.compLoop (.ListComp elt [⟨tg,iter,ifs,0⟩] scope pos) 0 (.ref it) (.ref s2.heap.objs.size) (compEnvC scope (cellsFor X.env scope.names []) G2.objs.size X.env))
   (compPost (model X.prog X.w) X.A X.xe (some (assign (.Name y posn) X.env)) (fun _ s'=>SP X pins D0 .next s') (.ref s2.heap.objs.size) G2.objs.size) {s2 with heap:=h₁,toks:=s2.toks+([]:List (Str×Value)).length}:=by
  refine codeAny_compLoop_any (E:=fun _ _=>False) (fun n s'=>∃i σ' H' vs ys,Inv (cxComp X scope (own++fr.map fun j=>X.N.getD j Str.empty) fp G2.objs.size s2 H2) [] σ' H' s'/\tn i s'.heap/\(∀b∈fp,H' b=none)/\H' s2.heap.objs.size=none/\s'.heap.PlainList s2.heap.objs.size ys/\Vals vs ys.toList/\W i n σ' vs H')
   ?_ (fun _ _ z=>z.elim) m0 ⟨0,_,H2,[],#[],I3,st3,fun b hb=>(f2 b hb).1,hDn2,hacc,.nil,w0⟩
  rintro n s3 ⟨i,σ3,H3,vs,ys,J3,st3,fr3,dn3,⟨pn,pl3⟩,rv,w3⟩
  have J3':=pinD J3 dn3 pl3
  have hpins:∀p∈[(s2.heap.objs.size,({cls:=.type "list",data:=.seq ys pn}:Obj))],p.1=s2.heap.objs.size:=fun p hp=>by
   have e':p=(s2.heap.objs.size,{cls:=.type "list",data:=.seq ys pn}):=by simpa using hp
   rw[e']
  rcases turn i n σ3 vs H3 w3 with⟨stop,hz,q⟩|⟨go,hz,N,hN,step⟩
  ·refine thn (T.done (cxComp X scope (own++fr.map fun j=>X.N.getD j Str.empty) fp G2.objs.size s2 H2) rfl rfl rfl hc i _ s3 σ3 H3 (fun _ _=>False) J3' (stat fr3 hpins) st3 stop) fun r s4 ⟨hr,J4⟩=>?_
   subst hr
   obtain⟨m4,hn4,_⟩:=id J4.loc
   have e4:s4.heap.get? s2.heap.objs.size=some {cls:=.type "list",data:=.seq ys pn}:=(J4.pin (s2.heap.objs.size,{cls:=.type "list",data:=.seq ys pn}) (List.mem_append_right _ (by simp))).1
   obtain⟨oC,es,ep,eC,dC,kC,fC⟩:=hn4
   have I4:Inv X pins σ (upd H3 s2.heap.objs.size (.lst vs)) s4:=comp_leave (h'':=s4.heap) I2 f2 J4 hCle (Nat.le_refl _) hDC dn3 ⟨pn,e4⟩ rv hz ⟨rfl,fun _ _=>rfl⟩
   have cL:G2.objs.size≠X.env.locals:=fun z=>absurd I2.lt (by rw[←z];exact Nat.not_lt.mpr hCle)
   have I5:Inv X (pins++[(G2.objs.size,oC)]) σ (upd H3 s2.heap.objs.size (.lst vs)) s4:=I4.pins_of fun p hp=>by
    rcases List.mem_append.mp hp with z|z
    ·exact I4.pin p (List.mem_append_right _ z)
    ·have z:p=(G2.objs.size,oC):=by simpa using z
     subst z
     exact⟨eC,by rw[upd_ne hDC.symm];exact J4.free,cL,I2.nofs hCle,fun v zv=>by rw[dC]at zv;cases zv⟩
   show wpAny _ _ (assign (.Name y posn) X.env (.ref s2.heap.objs.size)) _ _ _
   refine thn (hgg _ s4 σ _ (.ref s2.heap.objs.size) _ _ I5 rfl (q _ dn3)) fun _ s5 ⟨σ5,H5,I6,q6⟩=>?_
   have pC:=I6.pin (G2.objs.size,oC) (List.mem_append_right _ (List.mem_append_right _ (by simp)))
   refine⟨m4,⟨oC,es,ep,pC.1,dC,kC,fC⟩,fun h' hs'=>?_⟩
   have I7:Inv X pins σ5 H5 s5:=I6.pins_of fun p hp=>I6.pin p (List.mem_append_right _ (List.mem_append_left _ hp))
   refine⟨σ5,H5,I7.turned (t':=s5.toks) (it:=G2.objs.size) (fun b o hb e=>(hs'.2 b hb).trans e) pC.2.1 cL (.inr (Nat.le_trans I2.sz hCle)) (fun x c e z=>?_) (fun p hp z=>?_),q6⟩
   ·obtain⟨_,o,ho,_⟩:=I2.cell x c e
    exact absurd (Heap.lt_size ho) (by rw[z];exact Nat.not_lt.mpr hCle)
   ·exact absurd (Heap.lt_size (I2.pin p hp).1) (by rw[z];exact Nat.not_lt.mpr hCle)
  ·refine thn (T.item (cxComp X scope (own++fr.map fun j=>X.N.getD j Str.empty) fp G2.objs.size s2 H2) rfl rfl rfl hc i _ s3 σ3 H3 (fun _ _=>False) J3' (stat fr3 hpins) st3 go) fun r s4 ⟨u,hr,h4⟩=>?_
   subst hr
   refine thn h4 fun _ s5 ⟨x,H5,J5,r5,y5,st5,fr5⟩=>?_
   have J5':=J5.pinned (stat fr5 hpins) (T.obj _ _ st5)
   refine thn (hg fp _ s2 H2 _ s5 σ3 H5 x u _ J5' r5 (step x H5 y5)) fun _ s6 ⟨σ6,H6,J6,q6⟩=>?_
   refine thn (ht fp _ s2 H2 _ s6 σ6 H6 _ J6 q6) fun ok s7 ⟨H7,J7,q7⟩=>?_
   -- what stood pinned through the turn
   have after:∀{s8:Shared}{H8:Hp},Inv (cxComp X scope (own++fr.map fun j=>X.N.getD j Str.empty) fp G2.objs.size s2 H2) ([(s2.heap.objs.size,({cls:=.type "list",data:=.seq ys pn}:Obj))]++pinsAt fp s5.heap) σ6 H8 s8 ->
     tn (i+1) s8.heap/\(∀b∈fp,H8 b=none)/\H8 s2.heap.objs.size=none/\s8.heap.get? s2.heap.objs.size=some {cls:=.type "list",data:=.seq ys pn}:=fun{s8 H8} J8=>by
    refine⟨T.keep _ _ _ st5 fun b hb o e=>(J8.pin (b,o) (List.mem_append_right _ (List.mem_append_right _ (mem_pinsAt hb e)))).1,fun b hb=>?_,?_,?_⟩
    ·obtain⟨o,e,d⟩:=T.obj _ _ st5 b hb
     exact(J8.pin (b,o) (List.mem_append_right _ (List.mem_append_right _ (mem_pinsAt hb e)))).2.1
    ·exact(J8.pin (s2.heap.objs.size,{cls:=.type "list",data:=.seq ys pn}) (List.mem_append_right _ (List.mem_append_left _ (by simp)))).2.1
    ·exact(J8.pin (s2.heap.objs.size,{cls:=.type "list",data:=.seq ys pn}) (List.mem_append_right _ (List.mem_append_left _ (by simp)))).1
   cases ok with
   |false =>
    obtain⟨m',hm,w7⟩:=hN _ _ _ q7
    obtain⟨a1,a2,a3,a4⟩:=after J7
    exact⟨m',hm,i+1,σ6,H7,vs,ys,J7.pins_of (fun p hp=>absurd hp (by simp)),a1,a2,a3,⟨pn,a4⟩,rv,w7⟩
   |true =>
    refine thn (he fp _ s2 H2 _ s7 σ6 H7 _ J7 q7) fun y s8 ⟨v8,H8,J8,r8,n8⟩=>?_
    obtain⟨m',hm,w8⟩:=hN _ _ _ n8
    obtain⟨a1,a2,a3,a4⟩:=after J8
    have J9:Inv (cxComp X scope (own++fr.map fun j=>X.N.getD j Str.empty) fp G2.objs.size s2 H2) [] σ6 H8 s8:=J8.pins_of (fun p hp=>absurd hp (by simp))
    have hys:ys.size<=sizeLine:=by
     have e1:vs.length=ys.toList.length:=rv.length
     have e2:ys.toList.length=ys.size:=by simp
     omega
    refine wpAny_list_append_plain (hsz:=hys) ⟨pn,a4⟩ fun h₅ hl₅ hs₅=>?_
    refine⟨m',hm,i+1,σ6,H8,vs++[v8],ys.push y,J9.turned (t':=s8.toks) (it:=s2.heap.objs.size) (fun b o hb e=>by rw[hs₅.2 b hb];exact e) a3 hDC (.inr (Nat.le_refl _)) cellD (fun p hp=>absurd (show p∈([]:List (Addr×Obj))from hp) (by simp)),
     T.keep _ _ _ a1 fun b hb o e=>(hs₅.2 b (fun z=>hDf (z▸hb))).trans e,a2,a3,hl₅,?_,w8⟩
    have:Vals (vs++[v8]) (ys.toList++[y]):=rv.append (.cons r8 .nil)
    simpa using this
 exact codeAny_compStart_list loop (T.self X.A 0 _ _ _ st3 loop)
end
theorem ps_compC{X:Cx}{y:Str}{posn posa:Pos}{gg:TG}{elt iter tg:Expr}{ifs:List Expr}{scope:Scope}{pos:Pos}{wi:TI}{g:TG}{tt:TT}{te:TE}(sc:Scope)(N0 own:List Str)(fr:List Nat)(hc:X.calm=true)(hsc:X.env.scope=sc)(hN:X.N=N0)
  (ok:compOk scope sc N0 fr=true) (hi:PI X tg iter wi) (hg:∀fp C s H,PG (cxComp X scope (own++fr.map fun j=>N0.getD j Str.empty) fp C s H) tg g)
  (ht:∀fp C s H,PIfs (cxComp X scope (own++fr.map fun j=>N0.getD j Str.empty) fp C s H) ifs tt)
  (he:∀fp C s H,PE (cxComp X scope (own++fr.map fun j=>N0.getD j Str.empty) fp C s H) elt te)
  (hgg:PG X (.Name y posn) gg) (hsw:swapsWith (.ListComp elt [⟨tg,iter,ifs,0⟩] scope pos) (some (.Name y posn)) posa.line X.env=pure true:=by kernel_rfl)
  (hs:∀x,foldedSetIterable iter X.env x=pure x:=by intro _;rfl):PS X (.Assign [.Name y posn] (.ListComp elt [⟨tg,iter,ifs,0⟩] scope pos) posa) (tAsg (tComp own.length fr wi g tt te) gg):=by
 subst hsc hN
 unfold compOk at ok
 simp only[Bool.and_eq_true,List.all_eq_true,bne_iff_ne,beq_iff_eq,Bool.or_eq_true]at ok
 obtain⟨⟨k1,k2⟩,k3⟩:=ok
 refine ps_comp own fr hc k1 (fun x hx=>(k2 x hx).1.1) (fun x hx e=>?_) (fun x hx e=>?_) (fun j hj=>k3 j hj) hi hg ht he hgg hsw hs
 ·rcases(k2 x hx).1.2 with z|z
  ·exact absurd e z
  ·exact z
 ·rcases(k2 x hx).2 with(z|z)|z
  ·exact absurd e z
  ·exact .inl z
  ·exact .inr z
end L2
namespace G12
open PySem L2
def top(i:Nat):Stmt:=PySem.Challenge.pw_gapwork_k12_things_as_texts.main.body.getD i (.Pass ⟨0,0,0,0⟩)
abbrev s_BadText:Stmt:=top 2
abbrev s_bracketed:Stmt:=top 14
abbrev s_written:Stmt:=top 15
abbrev s_sort_of:Stmt:=top 16
abbrev s_well_parted:Stmt:=top 17
abbrev s_split_words:Stmt:=top 18
abbrev s_scanned:Stmt:=top 19
abbrev s_scanned_one:Stmt:=top 20
abbrev s_is_name:Stmt:=top 25
abbrev s_is_figures:Stmt:=top 26
abbrev s_spell_thing:Stmt:=top 28
abbrev s_thing_text:Stmt:=top 29
abbrev s_thing_of:Stmt:=top 30
abbrev s_things_of:Stmt:=top 31
abbrev s_close_thing:Stmt:=top 32
abbrev s_read_thing:Stmt:=top 33
abbrev s_L_feed:Stmt:=top 35
abbrev s_L_take:Stmt:=top 36
abbrev s_L_number:Stmt:=top 37
abbrev s_L_kept:Stmt:=top 38
abbrev s_L_word:Stmt:=top 39
abbrev s_L_alike:Stmt:=top 40
abbrev s_L_refusal:Stmt:=top 41
abbrev s_L_thing:Stmt:=top 42
abbrev s_L_thing_text:Stmt:=top 43
abbrev s_L_is_name:Stmt:=top 44
abbrev s_L_figures:Stmt:=top 45
abbrev s_L_tree:Stmt:=top 46
abbrev s_L_thing_of:Stmt:=top 47
abbrev s_L_due:Stmt:=top 48
abbrev s_L_heard:Stmt:=top 49
abbrev s_L_signs:Stmt:=top 50
abbrev s_L_spoilt:Stmt:=top 51
abbrev s_law:Stmt:=top 52
section
variable {P:Program}{w:World}{K:PySem.W.Frag}{mg:Str->Option Value}{base:Heap}
theorem scTake:FnScope ["_law_feed_here","_law_many","_law_digit","_law_one"] ["_law_feed_here","_law_many"] (defScope s_L_take):=⟨rfl,rfl,rfl,by decide +kernel,rfl,by decide +kernel,by decide +kernel⟩
theorem ok_take{f:Addr}{fd:FuncData}(F:Fun K "_law_take" "_law_take" s_L_take f fd):FnOk P w K mg base CX0 1 f fd ["_law_feed_here","_law_many"] spTake:=by
 refine F.ok scTake (fun vs H Q E h=>?_) (fun cdv A outer s H vs Q E hr h=>?_)
 ·obtain⟨a,m,rfl,_⟩:=h
  rfl
 obtain⟨a,m,rfl,m0,m1,⟨p,q,hf⟩,k⟩:=h
 refine⟨_,pss_cons (ps_if (pt_cmpR op_gt (pe_ix ix_list (pv 0) pe_int (fun _ _=>rfl)) pe_int (nomark _))
   (pss_cons (ps_set (i:=2) scTake.nd rfl (Or.inl rfl) (pe_op op_mod (pe_ix ix_list (pv 0) pe_int (fun _ _=>rfl)) (pv 1)))
   (pss_cons (ps_asg (pe_op op_fdiv (pe_ix ix_list (pv 0) pe_int (fun _ _=>rfl)) (pv 1)) (pg_sub (pv 0) pe_int set_list))
   (pss_one (ps_ret (pv 2))))) pss_nil)
  (pss_cons (ps_set (i:=3) scTake.nd rfl (Or.inl rfl) (pe_op op_mod (pe_op op_mul (pe_ix ix_list (pv 0) pe_int (fun _ _=>rfl)) pe_int) pe_int))
  (pss_cons (ps_asg (pe_op op_add (pe_op op_mod (pe_op op_add (pe_op op_mul (pv 3) pe_int) pe_int) pe_int) pe_int) (pg_sub (pv 0) pe_int set_list))
  (pss_one (ps_ret (pe_op op_mod (pe_op op_fdiv (pe_op op_add (pe_op op_mul (pv 3) pe_int) (pe_ix ix_list (pv 0) pe_int (fun _ _=>rfl))) pe_int) (pv 1)))))),?_⟩
 have ext:∀p' q':Int,Ext a H (upd H a (.lst [.int p',.int q'])):=fun p' q'=>⟨fun b o n e=>by rw[upd_ne n];exact e,p',q',upd_same⟩
 refine⟨_,rfl,a,_,0,_,rfl,rfl,SqL.of hf,rfl,_,_,rfl,rfl,_,rfl,?_⟩
 refine ite2 (fun _=>?_) (fun _=>?_)
 ·refine⟨_,rfl,a,_,0,_,rfl,rfl,SqL.of hf,rfl,_,rfl,_,_,rfl,rfl,m0,?_⟩
  refine⟨_,rfl,a,_,0,_,rfl,rfl,SqL.of hf,rfl,_,rfl,_,_,rfl,rfl,⟨m0,m1⟩,?_⟩
  refine⟨_,rfl,a,_,0,0,rfl,rfl,hf,rfl,?_⟩
  refine⟨_,rfl,?_⟩
  exact k _ _ (Int.emod_nonneg _ (by omega)) (Int.emod_lt_of_pos _ m0) (ext _ _)
 ·refine⟨_,rfl,a,_,1,_,rfl,rfl,SqL.of hf,rfl,_,_,rfl,rfl,.inr ⟨by decide,by decide⟩,_,_,rfl,rfl,(by show(0:Int)<2147483647;decide),?_⟩
  refine⟨_,rfl,_,_,rfl,rfl,.inr ⟨by decide,by decide⟩,_,_,rfl,rfl,_,_,rfl,rfl,(by show(0:Int)<2147483399;decide),_,_,rfl,rfl,?_⟩
  refine⟨_,rfl,a,_,1,1,rfl,rfl,hf,rfl,?_⟩
  refine⟨_,rfl,_,_,rfl,rfl,.inr ⟨by decide,by decide⟩,_,rfl,a,_,1,_,rfl,rfl,SqL.of upd_same,rfl,_,_,rfl,rfl,_,_,rfl,rfl,⟨by decide,by decide⟩,_,rfl,_,_,rfl,rfl,m0,?_⟩
  exact k _ _ (Int.emod_nonneg _ (by omega)) (Int.emod_lt_of_pos _ m0) (ext _ _)
end
section
variable {P:Program}{w:World}{K:PySem.W.Frag}{mg:Str->Option Value}{base:Heap}
theorem scFeed:FnScope ["_law_script","_law_k","_law_cell","_law_own"] ["_law_script","_law_k"] (defScope s_L_feed):=⟨rfl,rfl,rfl,by decide +kernel,rfl,by decide +kernel,by decide +kernel⟩
theorem ok_feed{f:Addr}{fd:FuncData}(F:Fun K "_law_feed" "_law_feed" s_L_feed f fd)(ml:mg "len"=none):FnOk P w K mg base CX0 1 f fd ["_law_script","_law_k"] (spFeed K):=by
 refine F.ok scFeed (fun vs H Q E h=>?_) (fun cdv A outer s H vs Q E hr h=>?_)
 ·obtain⟨a,ns,m,rfl,_⟩:=h
  rfl
 obtain⟨a,ns,k,rfl,hS,hn,k0,k1,kk⟩:=h
 refine⟨_,pss_cons (ps_set (i:=2) scFeed.nd rfl (Or.inl rfl) (pe_op op_add (pe_op op_mul pe_int (pv 1)) pe_int))
  (pss_cons (ps_if (pt_cmpR op_lt (pv 1) (pe_callB call_len_seq (by rfl) ml PySem.boot_len (pa_cons (pv 0) pa_nil)) (nomark _))
   (pss_one (ps_set (i:=2) scFeed.nd rfl (Or.inl rfl) (pe_ix ix_list (pv 0) (pv 1) (fun _ _=>rfl))))
   (pss_one (ps_if (pt_cmpR op_gt (pe_callB call_len_seq (by rfl) ml PySem.boot_len (pa_cons (pv 0) pa_nil)) pe_int (nomark _))
    (pss_one (ps_set (i:=2) scFeed.nd rfl (Or.inl rfl) (pe_op op_add (pe_op op_mul (pe_op op_mod (pe_ix ix_list (pv 0) (pe_op op_mod (pv 1) (pe_callB call_len_seq (by rfl) ml PySem.boot_len (pa_cons (pv 0) pa_nil))) (fun _ _=>rfl)) pe_int) pe_int) (pe_op op_mul pe_int (pv 1)))))
    pss_nil)))
  (pss_cons (ps_set (i:=3) scFeed.nd rfl (Or.inl rfl) pe_int)
  (pss_cons (ps_if (pt_cmpR op_ge (pv 2) (pe_op op_pow pe_int pe_int) (nomark _)) (pss_one (ps_set (i:=3) scFeed.nd rfl (Or.inl rfl) (pv 2))) pss_nil)
  (pss_one (ps_ret (pe_lst (pa_cons (pv 3) (pa_cons (pe_op op_add (pe_op op_mod (pe_op op_add (pe_op op_mul (pe_op op_mod (pv 2) pe_int) pe_int) (pe_op op_mul pe_int (pv 1))) pe_int) pe_int) pa_nil)))))))),?_⟩
 have hl:(ns.map V.int).length=ns.length:=List.length_map _
 refine⟨_,rfl,_,_,rfl,rfl,.inl ⟨by decide,by decide⟩,_,_,rfl,rfl,?_⟩
 refine⟨_,rfl,_,rfl,a,_,rfl,.inl hS,_,_,rfl,rfl,_,rfl,?_⟩
 refine ite2 (fun c=>?_) (fun c=>?_)
 ·have c':k<((ns.map V.int).length:Int):=of_decide_eq_true c
  rw[hl]at c'
  obtain⟨v,hv⟩:=atI_int (ns:=ns) k0 c'
  refine⟨_,rfl,_,rfl,a,_,_,_,rfl,rfl,hS,hv,?_⟩
  refine⟨_,rfl,_,_,rfl,rfl,⟨by decide,by decide,by decide⟩,_,_,rfl,rfl,_,rfl,ite2 (fun _=>?_) (fun _=>?_)⟩
  ·refine⟨_,rfl,_,rfl,_,rfl,_,_,rfl,rfl,(by show(0:Int)<2147483629;decide),_,_,rfl,rfl,.inr ⟨by decide,by decide⟩,_,rfl,_,_,rfl,rfl,.inl ⟨by decide,by decide⟩,_,_,rfl,rfl,_,_,rfl,rfl,(by show(0:Int)<2147483629;decide),_,_,rfl,rfl,(by show 2<=sizeLine;decide),fun l hl=>?_⟩
   exact kk l _ (same_new hl _) hl ⟨_,_,upd_same⟩
  ·refine⟨_,rfl,_,rfl,_,_,rfl,rfl,(by show(0:Int)<2147483629;decide),_,_,rfl,rfl,.inr ⟨by decide,by decide⟩,_,rfl,_,_,rfl,rfl,.inl ⟨by decide,by decide⟩,_,_,rfl,rfl,_,_,rfl,rfl,(by show(0:Int)<2147483629;decide),_,_,rfl,rfl,(by show 2<=sizeLine;decide),fun l hl=>?_⟩
   exact kk l _ (same_new hl _) hl ⟨_,_,upd_same⟩
 ·refine⟨_,rfl,a,_,rfl,.inl hS,_,_,rfl,rfl,_,rfl,?_⟩
  refine ite2 (fun d=>?_) (fun d=>?_)
  ·have d':(0:Int)<((ns.map V.int).length:Int):=of_decide_eq_true d
   have d2:(0:Int)<(ns.length:Int):=by rw[hl]at d';exact d'
   obtain⟨v,hv⟩:=atI_int (ns:=ns) (k:=k % (((ns.map V.int).length:Nat):Int)) (Int.emod_nonneg _ (by omega)) (by rw[hl];exact Int.emod_lt_of_pos _ d2)
   refine⟨_,rfl,_,rfl,_,rfl,a,_,rfl,.inl hS,_,_,rfl,rfl,d',a,_,_,_,rfl,rfl,hS,hv,_,_,rfl,rfl,(by show(0:Int)<2147483629;decide),_,_,rfl,rfl,.inr ⟨by decide,by decide⟩,_,rfl,_,_,rfl,rfl,.inl ⟨by decide,by decide⟩,_,_,rfl,rfl,?_⟩
   refine⟨_,rfl,_,_,rfl,rfl,⟨by decide,by decide,by decide⟩,_,_,rfl,rfl,_,rfl,ite2 (fun _=>?_) (fun _=>?_)⟩
   ·refine⟨_,rfl,_,rfl,_,rfl,_,_,rfl,rfl,(by show(0:Int)<2147483629;decide),_,_,rfl,rfl,.inr ⟨by decide,by decide⟩,_,rfl,_,_,rfl,rfl,.inl ⟨by decide,by decide⟩,_,_,rfl,rfl,_,_,rfl,rfl,(by show(0:Int)<2147483629;decide),_,_,rfl,rfl,(by show 2<=sizeLine;decide),fun l hl=>?_⟩
    exact kk l _ (same_new hl _) hl ⟨_,_,upd_same⟩
   ·refine⟨_,rfl,_,rfl,_,_,rfl,rfl,(by show(0:Int)<2147483629;decide),_,_,rfl,rfl,.inr ⟨by decide,by decide⟩,_,rfl,_,_,rfl,rfl,.inl ⟨by decide,by decide⟩,_,_,rfl,rfl,_,_,rfl,rfl,(by show(0:Int)<2147483629;decide),_,_,rfl,rfl,(by show 2<=sizeLine;decide),fun l hl=>?_⟩
    exact kk l _ (same_new hl _) hl ⟨_,_,upd_same⟩
  ·refine⟨_,rfl,_,_,rfl,rfl,⟨by decide,by decide,by decide⟩,_,_,rfl,rfl,_,rfl,ite2 (fun _=>?_) (fun _=>?_)⟩
   ·refine⟨_,rfl,_,rfl,_,rfl,_,_,rfl,rfl,(by show(0:Int)<2147483629;decide),_,_,rfl,rfl,.inr ⟨by decide,by decide⟩,_,rfl,_,_,rfl,rfl,.inl ⟨by decide,by decide⟩,_,_,rfl,rfl,_,_,rfl,rfl,(by show(0:Int)<2147483629;decide),_,_,rfl,rfl,(by show 2<=sizeLine;decide),fun l hl=>?_⟩
    exact kk l _ (same_new hl _) hl ⟨_,_,upd_same⟩
   ·refine⟨_,rfl,_,rfl,_,_,rfl,rfl,(by show(0:Int)<2147483629;decide),_,_,rfl,rfl,.inr ⟨by decide,by decide⟩,_,rfl,_,_,rfl,rfl,.inl ⟨by decide,by decide⟩,_,_,rfl,rfl,_,_,rfl,rfl,(by show(0:Int)<2147483629;decide),_,_,rfl,rfl,(by show 2<=sizeLine;decide),fun l hl=>?_⟩
    exact kk l _ (same_new hl _) hl ⟨_,_,upd_same⟩
end
end G12
namespace L2
open PySem PySem.Spec PyProof.Rows
section
variable {X:Cx}
theorem op_in_sign:OpR X (compareOp .In) (fun x y H Q=>∃c j,x=.str ⟨#[c]⟩/\y=.str j/\Q (.bl (decide (c∈j.cps.toList))) H):=by
 intro pins s σ H x y v u Q I rx ry h
 obtain⟨c,j,rfl,rfl,q⟩:=h
 refine op_in_str pins s σ H (.str ⟨#[c]⟩) (.str j) v u Q I rx ry ⟨_,_,rfl,rfl,?_⟩
 rw[StrLaws.found_one]
 exact q
theorem pt_truthK{a:Expr}{ta:TE}(K:PySem.W.Frag)(hK:X.K=K)(ha:PE X a ta)(he:∀whole,isTrue a X.env whole=(do let v ←whole;standAt a.pos;holding [v] (truthy v))) :
  PT X a (fun σ H Q=>ta σ H fun x H'=>∃k,TruV K x H' k/\Q k H'):=by
 subst hK
 exact pt_truth ha he
theorem pe_kgetK{o i:Expr}{pos:Pos}{td ty:TE}(K:PySem.W.Frag)(w:World)(hK:X.K=K)(hw:X.w=w)(ho:PE X o td)(hi:PE X i ty)(hs:NoSl i):PE X (.Subscript o i pos) (tKGet K w td ty):=by
 subst hK hw
 exact pe_kget ho hi hs
end
theorem comp_mapS{t:Str}{f:Nat->V}{g:TG}{te:TE}{Q:VK}{σ0:St}{H0:Hp}(hg:∀(v:V) (σ:St) (H:Hp) K,g v σ H K=K (σ.set 0 (some v)) H)
  (ht:∀c∈t.cps.toList,∀(H:Hp) (K:VK),Same H0 H->K (f c) H->te [some (.str ⟨#[c]⟩)] H K) (hl:σ0.length=1) (hn:t.cps.size<=sizeLine)
  (hd:∀p,H0 p=none->Q (.ref p) (upd H0 p (.lst (t.cps.toList.map f)))):CompW (Its t) g tNoIf te Q σ0 H0:=by
 refine comp_by t.cps.size (fun i σ vs H1=>σ.length=1/\H1=H0/\vs=(t.cps.toList.take i).map f) ⟨hl,rfl,rfl⟩ (fun i σ vs H1 hi ⟨_,_,e⟩=>by rw[e,List.length_map,List.length_take];omega) hn (fun _ _ _ _ h _=>h) (fun _ _ _ _=>rfl) ?_ ?_
 ·rintro i σ vs H1 x H' hi ⟨hσ,rfl,rfl⟩ ⟨rfl,c,hc,rfl⟩
  obtain⟨o,rfl⟩:∃o,σ=[o]:=by
   match σ,hσ with
   | [o],_=>exact⟨o,rfl⟩
  have hc':t.cps.toList[i]?=some c:=by simpa using hc
  rw[hg]
  refine ht c (List.mem_of_getElem? hc') _ _ (Same.refl _) ?_
  refine⟨rfl,rfl,?_⟩
  rw[List.take_add_one,hc',List.map_append]
  rfl
 ·rintro σ vs H1 ⟨_,rfl,rfl⟩ p hp
  have e:t.cps.toList.take t.cps.size=t.cps.toList:=List.take_of_length_le (by simp)
  rw[e]
  exact hd p hp
end L2
namespace L2
open PySem
theorem putF_lt'{f:Str}{v:V}{n:Nat}(k:Nat):∀{fs:List (Str×V)},fs.length+(k+1)<n->(putF f v fs).length+k<n
 | [],h=>by show 1+k<n;simp at h;omega
 |(g,x)::r,h=>by
  unfold putF
  split
  ·rw[List.length_cons]at h⊢;omega
  ·rw[List.length_cons]at h⊢
   have:=putF_lt' (f:=f) (v:=v) (n:=n) (k+1) (fs:=r) (by omega)
   omega
theorem putF_lt0{f:Str}{v:V}{n:Nat}{fs:List (Str×V)}(h:fs.length+1<n):(putF f v fs).length<n:=putF_lt' 0 h
theorem cx_K{X0:CXT}{P:Program}{w:World}{K:PySem.W.Frag}{mg:Str->Option Value}{base:Heap}{N:List Str}{nm:Str}{sc:Scope}{f:Addr}{cdv:Value}{A:Around}{outer:List PySem.Env}{s:Shared}{H:Hp}{E:XK}:(cxOf X0 P w K mg base N nm sc f cdv A outer s H E).nox.K=K:=rfl
def Cut(b:TS)(D:Ends)(N:St->Hp->Prop):Prop:=∀σ H,b D σ H->N σ H
theorem Cut.go{b:TS}{D:Ends}{N:St->Hp->Prop}{σ:St}{H:Hp}(h:Cut b D N)(g:b D σ H):N σ H:=h σ H g
theorem seq_cut{a b:TS}{D:Ends}{σ:St}{H:Hp}(h:∀N:St->Hp->Prop,Cut b D N->a {D with nx:=N} σ H):tSeq a b D σ H:=h (b D) (fun _ _ x=>x)
theorem next_of{D:Ends}{σ:St}{H:Hp}(h:D.nx σ H):tNext D σ H:=h
theorem asgc_of{D:Ends}{σ:St}{H:Hp}{v:V}{i:Nat}(h:D.nx (σ.set i (some v)) H):tAsg (tC v) (gName i) D σ H:=h
theorem seq_cut2{t0 t1 t2:TS}{D:Ends}{σ:St}{H:Hp}(h:∀N1 N2:St->Hp->Prop,Cut t1 {D with nx:=N2} N1->Cut t2 D N2->t0 {D with nx:=N1} σ H):tSeq t0 (tSeq t1 t2) D σ H:=h (tSeq t1 t2 D) (t2 D) (fun _ _ x=>x) (fun _ _ x=>x)
theorem seq_cut3{t0 t1 t2 t3:TS}{D:Ends}{σ:St}{H:Hp}(h:∀N1 N2 N3:St->Hp->Prop,Cut t1 {D with nx:=N2} N1->Cut t2 {D with nx:=N3} N2->Cut t3 D N3->t0 {D with nx:=N1} σ H):tSeq t0 (tSeq t1 (tSeq t2 t3)) D σ H:=h (tSeq t1 (tSeq t2 t3) D) (tSeq t2 t3 D) (t3 D) (fun _ _ x=>x) (fun _ _ x=>x) (fun _ _ x=>x)
theorem seq_cut4{t0 t1 t2 t3 t4:TS}{D:Ends}{σ:St}{H:Hp}(h:∀N1 N2 N3 N4:St->Hp->Prop,Cut t1 {D with nx:=N2} N1->Cut t2 {D with nx:=N3} N2->Cut t3 {D with nx:=N4} N3->Cut t4 D N4->t0 {D with nx:=N1} σ H):tSeq t0 (tSeq t1 (tSeq t2 (tSeq t3 t4))) D σ H:=h (tSeq t1 (tSeq t2 (tSeq t3 t4)) D) (tSeq t2 (tSeq t3 t4) D) (tSeq t3 t4 D) (t4 D) (fun _ _ x=>x) (fun _ _ x=>x) (fun _ _ x=>x) (fun _ _ x=>x)
theorem seq_cut5{t0 t1 t2 t3 t4 t5:TS}{D:Ends}{σ:St}{H:Hp}(h:∀N1 N2 N3 N4 N5:St->Hp->Prop,Cut t1 {D with nx:=N2} N1->Cut t2 {D with nx:=N3} N2->Cut t3 {D with nx:=N4} N3->Cut t4 {D with nx:=N5} N4->Cut t5 D N5->t0 {D with nx:=N1} σ H):tSeq t0 (tSeq t1 (tSeq t2 (tSeq t3 (tSeq t4 t5)))) D σ H:=h (tSeq t1 (tSeq t2 (tSeq t3 (tSeq t4 t5))) D) (tSeq t2 (tSeq t3 (tSeq t4 t5)) D) (tSeq t3 (tSeq t4 t5) D) (tSeq t4 t5 D) (t5 D) (fun _ _ x=>x) (fun _ _ x=>x) (fun _ _ x=>x) (fun _ _ x=>x) (fun _ _ x=>x)
theorem seq_cut6{t0 t1 t2 t3 t4 t5 t6:TS}{D:Ends}{σ:St}{H:Hp}(h:∀N1 N2 N3 N4 N5 N6:St->Hp->Prop,Cut t1 {D with nx:=N2} N1->Cut t2 {D with nx:=N3} N2->Cut t3 {D with nx:=N4} N3->Cut t4 {D with nx:=N5} N4->Cut t5 {D with nx:=N6} N5->Cut t6 D N6->t0 {D with nx:=N1} σ H):tSeq t0 (tSeq t1 (tSeq t2 (tSeq t3 (tSeq t4 (tSeq t5 t6))))) D σ H:=h (tSeq t1 (tSeq t2 (tSeq t3 (tSeq t4 (tSeq t5 t6)))) D) (tSeq t2 (tSeq t3 (tSeq t4 (tSeq t5 t6))) D) (tSeq t3 (tSeq t4 (tSeq t5 t6)) D) (tSeq t4 (tSeq t5 t6) D) (tSeq t5 t6 D) (t6 D) (fun _ _ x=>x) (fun _ _ x=>x) (fun _ _ x=>x) (fun _ _ x=>x) (fun _ _ x=>x) (fun _ _ x=>x)
theorem seq_cut7{t0 t1 t2 t3 t4 t5 t6 t7:TS}{D:Ends}{σ:St}{H:Hp}(h:∀N1 N2 N3 N4 N5 N6 N7:St->Hp->Prop,Cut t1 {D with nx:=N2} N1->Cut t2 {D with nx:=N3} N2->Cut t3 {D with nx:=N4} N3->Cut t4 {D with nx:=N5} N4->Cut t5 {D with nx:=N6} N5->Cut t6 {D with nx:=N7} N6->Cut t7 D N7->t0 {D with nx:=N1} σ H):tSeq t0 (tSeq t1 (tSeq t2 (tSeq t3 (tSeq t4 (tSeq t5 (tSeq t6 t7)))))) D σ H:=h (tSeq t1 (tSeq t2 (tSeq t3 (tSeq t4 (tSeq t5 (tSeq t6 t7))))) D) (tSeq t2 (tSeq t3 (tSeq t4 (tSeq t5 (tSeq t6 t7)))) D) (tSeq t3 (tSeq t4 (tSeq t5 (tSeq t6 t7))) D) (tSeq t4 (tSeq t5 (tSeq t6 t7)) D) (tSeq t5 (tSeq t6 t7) D) (tSeq t6 t7 D) (t7 D) (fun _ _ x=>x) (fun _ _ x=>x) (fun _ _ x=>x) (fun _ _ x=>x) (fun _ _ x=>x) (fun _ _ x=>x) (fun _ _ x=>x)
theorem seq_cut8{t0 t1 t2 t3 t4 t5 t6 t7 t8:TS}{D:Ends}{σ:St}{H:Hp}(h:∀N1 N2 N3 N4 N5 N6 N7 N8:St->Hp->Prop,Cut t1 {D with nx:=N2} N1->Cut t2 {D with nx:=N3} N2->Cut t3 {D with nx:=N4} N3->Cut t4 {D with nx:=N5} N4->Cut t5 {D with nx:=N6} N5->Cut t6 {D with nx:=N7} N6->Cut t7 {D with nx:=N8} N7->Cut t8 D N8->t0 {D with nx:=N1} σ H):tSeq t0 (tSeq t1 (tSeq t2 (tSeq t3 (tSeq t4 (tSeq t5 (tSeq t6 (tSeq t7 t8))))))) D σ H:=h (tSeq t1 (tSeq t2 (tSeq t3 (tSeq t4 (tSeq t5 (tSeq t6 (tSeq t7 t8)))))) D) (tSeq t2 (tSeq t3 (tSeq t4 (tSeq t5 (tSeq t6 (tSeq t7 t8))))) D) (tSeq t3 (tSeq t4 (tSeq t5 (tSeq t6 (tSeq t7 t8)))) D) (tSeq t4 (tSeq t5 (tSeq t6 (tSeq t7 t8))) D) (tSeq t5 (tSeq t6 (tSeq t7 t8)) D) (tSeq t6 (tSeq t7 t8) D) (tSeq t7 t8 D) (t8 D) (fun _ _ x=>x) (fun _ _ x=>x) (fun _ _ x=>x) (fun _ _ x=>x) (fun _ _ x=>x) (fun _ _ x=>x) (fun _ _ x=>x) (fun _ _ x=>x)
theorem dpn{d:Nat}:T.deps []<=d:=by rw[T.deps];exact Nat.zero_le _
theorem dpc{x:T}{xs:List T}{d:Nat}(h:x.dep<=d)(r:T.deps xs<=d):T.deps (x::xs)<=d:=by rw[T.deps];exact Nat.max_le.mpr ⟨h,r⟩
theorem dpt{xs:List T}{d:Nat}(h:T.deps xs<=d):T.dep (.t xs)<=d+1:=by rw[T.dep];exact Nat.succ_le_succ h
theorem dps{x:Str}{d:Nat}:T.dep (.s x)<=d:=by simp[T.dep]
theorem dpi{x:Int}{d:Nat}:T.dep (.i x)<=d:=by simp[T.dep]
end L2
open L2 in
local macro_rules | `(tactic| fail "Z") => `(tactic| first | exact SqL.of (by first | assumption | exact upd_same) | exact SqT.of (by first | assumption | exact upd_same) | omega | (dsimp only [List.length_cons, List.length_nil]; decide) | decide | exact Nat.zero_le _ | (refine putF_lt0 ?_; (repeat with_reducible refine putF_lt' _ ?_); decide))
open L2 in
local macro_rules | `(tactic| fail "S") => `(tactic| first
  | ((with_reducible change @Eq _ _ _); (first | exact rfl | assumption | exact upd_same | (rw [upd_ne (by assumption)]; first | exact upd_same | assumption | (rw [upd_ne (by assumption)]; first | exact upd_same | assumption)) | omega))
  | ((with_reducible first | change @LT.lt _ _ _ _ | change @LE.le _ _ _ _); (first | omega | with_reducible assumption | fail "Z"))
  | assumption
  | ((with_reducible refine And.intro ?_ ?_) <;> fail "S")
  | ((with_reducible refine Or.inl ?_); fail "S")
  | ((with_reducible refine Or.inr ?_); fail "S")
  | ((with_reducible apply Exists.intro); fail "S")
  | ((with_reducible first | change tyV _ _ _ _ | change TruV _ _ _ _ | change CDiv _ _ | change CMul _ _ | change CPow _ _); first | ((first | refine (?_ : @Eq _ _ _) | refine (?_ : And _ _) | refine (?_ : Or _ _) | refine (?_ : Exists _)); fail "S") | exact True.intro)
  | fail "Z")
open L2 in
local macro_rules | `(tactic| fail "T") => `(tactic| first
  | ((with_reducible first | refine seq_cut8 ?_ | refine seq_cut6 ?_ | refine seq_cut5 ?_ | refine seq_cut4 ?_ | refine seq_cut3 ?_ | refine seq_cut2 ?_ | refine seq_cut ?_); intros)
  | (refine (?_ : Exists _); first
     | with_reducible first | apply @Exists.intro Hp | apply @Exists.intro Sp
     | ((fail_if_success (with_reducible apply @Exists.intro (_ → _))); apply Exists.intro))
  | (refine And.intro ?_ ?_; fail "S")
  | ((try with_reducible first | refine next_of ?_ | refine asgc_of ?_); refine (by with_reducible assumption : Cut _ _ _) _ _ ?_))
local macro_rules | `(tactic| fail "R") => `(tactic| first | (fail "T"; fail "R") | refine And.intro ?_ ?_ | refine (?_ : @ite _ _ _ _ _) | skip)
local macro_rules | `(tactic| fail "F") => `(tactic| first | ((with_reducible apply Exists.intro); fail "F") | ((with_reducible refine And.intro ?_ ?_); fail "S"))
local macro_rules | `(tactic| fail "O") => `(tactic| first | (fail "T"; fail "O") | refine And.intro ?_ ?_ | ((first | (refine Or.inl ?_; fail "F") | (refine Or.inr ?_; fail "F")); fail "O") | refine (?_ : @ite _ _ _ _ _) | skip)
open L2 in
local macro_rules | `(tactic| fail "D") => `(tactic| repeat' first | exact dpn | exact dps | exact dpi | assumption | exact Nat.le_trans (by assumption) (by decide) | refine dpt ?_ | refine dpc ?_ ?_)
namespace L2
open PySem
@[irreducible] def tBlk (X:Cx) (st:List Stmt):TS:=fun D σ H=>∃u,PSs X st u/\u D σ H
theorem pss_blk{X:Cx}{st:List Stmt}:PSs X st (tBlk X st):=fun pins s σ H D I h=>by
 unfold tBlk at h
 obtain⟨u,hu,q⟩:=h
 exact hu pins s σ H D I q
theorem blk_of{X:Cx}{st:List Stmt}{D:Ends}{σ:St}{H:Hp}{u:TS}(h:PSs X st u)(q:u D σ H):tBlk X st D σ H:=by
 unfold tBlk
 exact⟨u,h,q⟩
def ifB:List Stmt->List Stmt
 |.If _ _ b _::_=>b
 |_=>[]
def forA:List Stmt->List Stmt
 |.For _ _ a _ _::_=>a
 |_=>[]
def isStar:Expr->Bool
 |.Starred _ _=>true
 |_=>false
theorem star_all{e:Expr}{es:List Expr}{env:PySem.Env}(h:isStar e=false):starEach (e::es) env=(false,eval e env)::starEach es env:=by
 cases e<;>first|rfl|cases h
theorem pa_c{X:Cx}{e:Expr}{es:List Expr}{te:TE}{t:TA}(ha:PE X e te)(hr:PA X es t)(hs:isStar e=false:=by rfl):PA X (e::es) (tCons te t):=pa_cons ha hr (star_all hs)
end L2
namespace L2
open PySem PySem.Spec PyProof.Rows
section
variable {prog:Program}{w:World}{A:Around}{E:Value->Shared->Prop}{s:Shared}
end
section
variable {prog:Program}{w:World}{A:Around}{R:Result->Shared->Prop}{s:Shared}
end
section
variable {prog:Program}{w:World}{A:Around}{E:Value->Shared->Prop}{s:Shared}
end
section
variable {prog:Program}{w:World}{A:Around}{E:Value->Shared->Prop}{s:Shared}
end
section
variable {X:Cx}{a b:Expr}{t:TA}{p1 p2 p3 p4:Pos}
end
def Isq(b:Bool)(h:Heap)(l:Addr)(xs:Array Value):Prop:=match b with|false=>h.IsList l xs|true=>h.IsTuple l xs
def Itq(b:Bool)(h:Heap)(i l:Addr)(k:Nat):Prop:=match b with|false=>h.IsListIter i l k|true=>h.IsTupleIter i l k
theorem Isq.at{b:Bool}{h h':Heap}{l:Addr}{xs:Array Value}(x:Isq b h l xs)(k:∀o,h.get? l=some o->h'.get? l=some o):Isq b h' l xs:=by
 cases b with
 |false=>exact Heap.IsList.at (show h.IsList l xs from x) k
 |true=>obtain⟨o,e,r⟩:=(show h.IsTuple l xs from x);exact⟨o,k o e,r⟩
theorem Itq.at{b:Bool}{h h':Heap}{i l:Addr}{n:Nat}(x:Itq b h i l n)(k:∀o,h.get? i=some o->h'.get? i=some o):Itq b h' i l n:=by
 cases b with
 |false=>exact Heap.IsListIter.at (show h.IsListIter i l n from x) k
 |true=>obtain⟨o,e,r⟩:=(show h.IsTupleIter i l n from x);exact⟨o,k o e,r⟩
theorem Isq.extBut{b:Bool}{h h':Heap}{l c:Addr}{xs:Array Value}(x:Isq b h l xs)(hs:Heap.ExtBut c h h')(hc:l≠c):Isq b h' l xs:=x.at fun o e=>hs l o hc e
theorem Itq.extBut{b:Bool}{h h':Heap}{i l c:Addr}{n:Nat}(x:Itq b h i l n)(hs:Heap.ExtBut c h h')(hc:i≠c):Itq b h' i l n:=x.at fun o e=>hs i o hc e
theorem Isq.got{b:Bool}{h:Heap}{l:Addr}{xs:Array Value}(x:Isq b h l xs):∃o,h.get? l=some o:=by
 cases b with
 |false=>obtain⟨o,e,_⟩:=(show h.IsList l xs from x);exact⟨o,e⟩
 |true=>obtain⟨o,e,_⟩:=(show h.IsTuple l xs from x);exact⟨o,e⟩
theorem Itq.got{b:Bool}{h:Heap}{i l:Addr}{n:Nat}(x:Itq b h i l n):∃o,h.get? i=some o:=by
 cases b with
 |false=>obtain⟨o,e,_⟩:=(show h.IsListIter i l n from x);exact⟨o,e⟩
 |true=>obtain⟨o,e,_⟩:=(show h.IsTupleIter i l n from x);exact⟨o,e⟩
section
variable {prog:Program}{w:World}{A:Around}{E:Value->Shared->Prop}{s:Shared}
theorem tup_next_item{it t:Addr}{i:Nat}{items:Array Value}{x:Value}{Q:Value->Shared->Prop}(hit:s.heap.IsTupleIter it t i)(ht:s.heap.IsTuple t items)(hx:items[i]?=some x)
  (hQ:∀h',h'.IsTupleIter it t (i+1)->Heap.SameBut it s.heap h'->Q x {s with heap:=h'}):wpAny (model prog w) A (Builtin.SmallTypes.nextOf (.ref it)) Q E s:=by
 obtain⟨o,ho,hc,hd⟩:=id hit
 obtain⟨ol,hol,_,nl,hdl⟩:=ht
 have hT:=hit.typeIs
 unfold Builtin.SmallTypes.nextOf
 refine wpAny_bind (wpAny_callSpecial?_slot (name:=Str.ofString "__next__") hT PySem.F.slot_tuple_iterator_next (wpAny_call_entry PySem.F.slot_tuple_iterator_next hT PySem.F.entry_tuple_iterator_next ?_ (PySem.F.args_tuple_iterator_next_1 _)))
 show wpAny _ _ (field (.ref it) 0>>=_) _ _ s
 refine wpAny_bind (wpAny_field ho hd (x:=.ref t) rfl ?_)
 show wpAny _ _ (if(Value.ref t == Value.none)=true then _ else _) _ _ s
 rw[if_neg (show ¬((Value.ref t == Value.none)=true)from Bool.false_ne_true)]
 show wpAny _ _ (field (.ref it) 1>>=_) _ _ s
 refine wpAny_bind (wpAny_field ho hd (x:=.int i 0) rfl ?_)
 show wpAny _ _ (seqItems? (.ref t)>>=_) _ _ s
 refine wpAny_bind (wpAny_seqItems hol hdl ?_)
 simp only[Int.toNat_natCast,hx]
 refine wpAny_bind (wpAny_setField ho hd (by simp) (wpAny_pure ⟨x,rfl,wpAny_pure (hQ _ ⟨_,Heap.get?_update_self _ ho (Obj.isFreed_of_fields (Obj.data_mapFields hd _)),(Obj.cls_mapFields ..).trans hc,?_⟩ (Heap.SameBut.update ..))⟩))
 rw[Obj.data_mapFields hd];simp[rawInt]
theorem tup_next_end{it t:Addr}{i:Nat}{items:Array Value}{Q:Value->Shared->Prop}(hh:A.handled=none)(hit:s.heap.IsTupleIter it t i)(ht:s.heap.IsTuple t items)(hx:items[i]?=none)
  (hE:∀h' e,Heap.ExtBut it s.heap h'->(∃o,h'.get? e=some o/\o.cls=.type "StopIteration")->E (.ref e) {s with heap:=h'}):wpAny (model prog w) A (Builtin.SmallTypes.nextOf (.ref it)) Q E s:=by
 obtain⟨o,ho,hc,hd⟩:=id hit
 obtain⟨ol,hol,_,nl,hdl⟩:=ht
 have hT:=hit.typeIs
 unfold Builtin.SmallTypes.nextOf
 refine wpAny_bind (wpAny_callSpecial?_slot (name:=Str.ofString "__next__") hT PySem.F.slot_tuple_iterator_next (wpAny_call_entry PySem.F.slot_tuple_iterator_next hT PySem.F.entry_tuple_iterator_next ?_ (PySem.F.args_tuple_iterator_next_1 _)))
 show wpAny _ _ (field (.ref it) 0>>=_) _ _ s
 refine wpAny_bind (wpAny_field ho hd (x:=.ref t) rfl ?_)
 show wpAny _ _ (if(Value.ref t == Value.none)=true then _ else _) _ _ s
 rw[if_neg (show ¬((Value.ref t == Value.none)=true)from Bool.false_ne_true)]
 show wpAny _ _ (field (.ref it) 1>>=_) _ _ s
 refine wpAny_bind (wpAny_field ho hd (x:=.int i 0) rfl ?_)
 show wpAny _ _ (seqItems? (.ref t)>>=_) _ _ s
 refine wpAny_bind (wpAny_seqItems hol hdl ?_)
 simp only[Int.toNat_natCast,hx]
 refine wpAny_bind (wpAny_rule (wpAny_bind (wpAny_setField ho hd (by simp) ?_)))
 show wpAny _ _ (newExc (.type "StopIteration") []>>=_) _ _ _
 refine wpAny_bind ?_
 simp only[newExc,newTuple]
 refine wpAny_bind (wpAny_newObj_type ?_ (by size_fits))
 refine wpAny_bind (m:=firstArgMember _ _) (wpAny_of_eq (a:=Value.none) (by first|rfl|(simp only[firstArgMember];rfl)) ?_)
 refine wpAny_newObj_type ?_ (by size_fits)
 simp only[raiseNew]
 refine wpAny_bind (wpAny_handled ?_)
 first|rw[show A.in1.handled=none from hh]|rw[hh]
 refine wpAny_bind (wpAny_pure (wpAny_throw ?_))
 exact hE _ _ (((Heap.SameBut.update ..).extBut.push _).push _) ⟨_,Heap.get?_push_size _ rfl,rfl⟩
theorem nxq_item{b:Bool}{it l:Addr}{i:Nat}{items:Array Value}{x:Value}{Q:Value->Shared->Prop}(hit:Itq b s.heap it l i)(hl:Isq b s.heap l items)(hx:items[i]?=some x)
  (hQ:∀h',Itq b h' it l (i+1)->Heap.SameBut it s.heap h'->Q x {s with heap:=h'}):wpAny (model prog w) A (Builtin.SmallTypes.nextOf (.ref it)) Q E s:=by
 cases b with
 |false=>exact wpAny_nextOf_list_item hit hl hx hQ
 |true=>exact tup_next_item hit hl hx hQ
theorem nxq_end{b:Bool}{it l:Addr}{i:Nat}{items:Array Value}{Q:Value->Shared->Prop}(hh:A.handled=none)(hit:Itq b s.heap it l i)(hl:Isq b s.heap l items)(hx:items[i]?=none)
  (hE:∀h' e,Heap.ExtBut it s.heap h'->(∃o,h'.get? e=some o/\o.cls=.type "StopIteration")->E (.ref e) {s with heap:=h'}):wpAny (model prog w) A (Builtin.SmallTypes.nextOf (.ref it)) Q E s:=by
 cases b with
 |false=>exact wpAny_nextOf_list_end hh hit hl hx hE
 |true=>exact tup_next_end hh hit hl hx hE
abbrev itObj(b:Bool)(l:Addr):Obj:={cls:=.type (cond b "tuple_iterator" "list_iterator"),data:=.fields #[.ref l,.int 0 0]}
theorem iterQ{b:Bool}{l:Addr}{items:Array Value}{Q:Value->Shared->Prop}(hl:Isq b s.heap l items)(hQ:Q (.ref s.heap.objs.size) {s with heap:=s.heap.push (itObj b l)}):wpAny (model prog w) A (pyIter (.ref l)) Q E s:=by
 cases b with
 |false=>exact wpAny_pyIter_list hl hQ
 |true=>exact wpAny_pyIter_tuple hl hQ
end
abbrev zq1(b1:Bool)(h:Heap)(l1:Addr):Heap:=h.push (itObj b1 l1)
abbrev zq2(b1 b2:Bool)(h:Heap)(l1 l2:Addr):Heap:=(zq1 b1 h l1).push (itObj b2 l2)
abbrev zq3(b1 b2:Bool)(h:Heap)(l1 l2:Addr):Heap:=(zq2 b1 b2 h l1 l2).push {cls:=.type "tuple",data:=.seq #[.ref h.objs.size,.ref (zq1 b1 h l1).objs.size]}
abbrev zq4(b1 b2:Bool)(h:Heap)(l1 l2:Addr):Heap:=(zq3 b1 b2 h l1 l2).push {cls:=.type "tuple",data:=.seq #[.none,.none]}
abbrev zq5(b1 b2:Bool)(h:Heap)(l1 l2:Addr):Heap:=(zq4 b1 b2 h l1 l2).push {cls:=.type "zip",data:=.fields #[.none,.bool false,.bool false,.ref (zq2 b1 b2 h l1 l2).objs.size,.ref (zq3 b1 b2 h l1 l2).objs.size]}
theorem zq_new(b1 b2:Bool)(l1 l2:Addr)(xs ys:Array Value) :
  Meets (Builtin.«zip.__new__» ⟨[.type "zip",.ref l1,.ref l2],[]⟩) (fun _ R s=>Isq b1 s.heap l1 xs/\Isq b2 s.heap l2 ys/\R (.ok (.ret (.ref (zq4 b1 b2 s.heap l1 l2).objs.size))) {s with heap:=zq5 b1 b2 s.heap l1 l2}) :=
 .of_wp fun prog w A R s h=>by
  obtain⟨hp,g,d,tk,os⟩:=s
  obtain⟨hl1,hl2,h⟩:=h
  have hsub:=sub_zip
  have hL1:Isq b1 (Shared.heap ⟨hp,g,d,tk,os⟩) l1 xs:=hl1
  have hL2:Isq b2 (Shared.heap ⟨hp.push (itObj b1 l1),g,d,tk,os⟩) l2 ys:=hl2.at fun o e=>Heap.get?_push_of_some _ e
  wp_walk using iterQ hL1,iterQ hL2
  exact⟨_,rfl,h⟩
section
variable {prog:Program}{w:World}{A:Around}{E:Value->Shared->Prop}{s:Shared}{b1 b2:Bool}
theorem it_of{b:Bool}{h:Heap}{i l:Addr}(e:h.get? i=some (itObj b l)):Itq b h i l 0:=by
 cases b with
 |false=>exact⟨_,e,rfl,rfl⟩
 |true=>exact⟨_,e,rfl,rfl⟩
theorem zq_call{l1 l2:Addr}{xs ys:Array Value}{Q:Value->Shared->Prop}(hl1:Isq b1 s.heap l1 xs)(hl2:Isq b2 s.heap l2 ys)
  (h:∀h',IsZip h' (s.heap.objs.size+4) (s.heap.objs.size+2) (s.heap.objs.size+3) .none->IsPair h' (s.heap.objs.size+2) (.ref s.heap.objs.size) (.ref (s.heap.objs.size+1)) ->
   IsPair h' (s.heap.objs.size+3) .none .none->Itq b1 h' s.heap.objs.size l1 0->Itq b2 h' (s.heap.objs.size+1) l2 0->h'.objs.size=s.heap.objs.size+5 ->
   (∀c o,s.heap.get? c=some o->h'.get? c=some o)->Q (.ref (s.heap.objs.size+4)) {s with heap:=h'}) :
  wpAny (model prog w) A (call (.type "zip") [.ref l1,.ref l2]) Q E s:=by
 refine callType_new PySem.F.called_zip (by decide) (PySem.F.typeCall_zip_2 _ _) (PySem.F.newCall_zip_2 _ _) (fun obj=>PySem.F.args_object_init_3 obj _ _) PySem.F.entry_zip_new (zq_new b1 b2 l1 l2 xs ys) ⟨hl1,hl2,?_⟩
 have z1:(zq1 b1 s.heap l1).objs.size=s.heap.objs.size+1:=Heap.size_push ..
 have z2:(zq2 b1 b2 s.heap l1 l2).objs.size=s.heap.objs.size+2:=by rw[Heap.size_push,z1]
 have z3:(zq3 b1 b2 s.heap l1 l2).objs.size=s.heap.objs.size+3:=by rw[Heap.size_push,z2]
 have z4:(zq4 b1 b2 s.heap l1 l2).objs.size=s.heap.objs.size+4:=by rw[Heap.size_push,z3]
 have z5:(zq5 b1 b2 s.heap l1 l2).objs.size=s.heap.objs.size+5:=by rw[Heap.size_push,z4]
 have up:∀{h:Heap}{c:Addr}{o:Obj}(x:Obj),h.get? c=some o->(h.push x).get? c=some o:=fun x e=>Heap.get?_push_of_some _ e
 have g5:(zq5 b1 b2 s.heap l1 l2).get? (zq4 b1 b2 s.heap l1 l2).objs.size=some _:=Heap.get?_push_size _ rfl
 have g4:(zq5 b1 b2 s.heap l1 l2).get? (zq3 b1 b2 s.heap l1 l2).objs.size=some _:=up _ (Heap.get?_push_size _ rfl)
 have g3:(zq5 b1 b2 s.heap l1 l2).get? (zq2 b1 b2 s.heap l1 l2).objs.size=some _:=up _ (up _ (Heap.get?_push_size _ rfl))
 have g2:(zq5 b1 b2 s.heap l1 l2).get? (zq1 b1 s.heap l1).objs.size=some (itObj b2 l2):=up _ (up _ (up _ (Heap.get?_push_size _ rfl)))
 have g1:(zq5 b1 b2 s.heap l1 l2).get? s.heap.objs.size=some (itObj b1 l1):=up _ (up _ (up _ (up _ (Heap.get?_push_size _ rfl))))
 show _/\_
 rw[z2,z3,z4]at g5
 rw[z1,z2]at g3
 rw[z3]at g4
 rw[z1]at g2
 rw[z4]
 exact⟨⟨_,g5,rfl⟩,h _ g5 g3 g4 (it_of g1) (it_of g2) z5 fun c o x=>up _ (up _ (up _ (up _ (up _ x))))⟩
theorem zq_item{z TI TO i1 i2 l1 l2:Addr}{k1 k2:Nat}{xs ys:Array Value}{x y a b:Value}{Q:Option Value->Shared->Prop}(D:ZipApart z TI TO i1 i2 l1 l2)(hz:IsZip s.heap z TI TO .none)(hTI:IsPair s.heap TI (.ref i1) (.ref i2))(hTO:IsPair s.heap TO a b)
  (h1:Itq b1 s.heap i1 l1 k1) (h2:Itq b2 s.heap i2 l2 k2) (hl1:Isq b1 s.heap l1 xs) (hl2:Isq b2 s.heap l2 ys) (hx:xs[k1]?=some x) (hy:ys[k2]?=some y)
  (hQ:∀h',IsZip h' z TI TO (rawInt s.heap.objs.size)->IsPair h' TO x y->Itq b1 h' i1 l1 (k1+1)->Itq b2 h' i2 l2 (k2+1)->IsPair h' s.heap.objs.size x y->h'.objs.size=s.heap.objs.size+1 ->
   (∀c o,c≠z->c≠TO->c≠i1->c≠i2->s.heap.get? c=some o->h'.get? c=some o)->Q (some (.ref s.heap.objs.size)) {s with heap:=h'}) :
  wpAny (model prog w) A (pyNext (.ref z)) Q E s:=by
 have hTy:s.TypeIs (.ref z) "zip":=⟨_,hz,rfl⟩
 unfold pyNext
 refine wpAny_bind (wpAny_attempt (wpAny_callSpecial?_slot (name:=Str.ofString "__next__") hTy PySem.F.slot_zip_next (wpAny_call_entry PySem.F.slot_zip_next hTy PySem.F.entry_zip_next ?_ (PySem.F.args_zip_next_1 _))))
 show wpAny _ _ (field (.ref z) 2>>=_) _ _ _
 refine wpAny_bind (wpAny_field hz rfl (x:=.bool false) rfl ?_)
 show wpAny _ _ (field (.ref z) 3>>=_) _ _ _
 refine wpAny_bind (wpAny_field hz rfl (x:=.ref TI) rfl (wpAny_bind (wpAny_seqItems hTI rfl ?_)))
 show wpAny _ _ (Builtin.SmallTypes.ownedTupleIsFree (.ref z)>>=_) _ _ _
 refine wpAny_bind ?_
 unfold Builtin.SmallTypes.ownedTupleIsFree
 refine wpAny_bind (wpAny_field hz rfl (x:=.none) rfl (wpAny_pure ?_))
 simp only[if_true]
 refine wpAny_bind (wpAny_rule (wpAny_bind (wpAny_field hz rfl (x:=.ref TO) rfl ?_)))
 refine wpAny_bind (wpAny_setField_rec hz (by simp) fun h₁ hz₁ hs₁=>?_)
 replace hz₁:IsZip h₁ z TI TO .ellipsis:=hz₁
 refine wpAny_bind ?_
 simp only[List.zipIdx_cons,List.zipIdx_nil,List.forIn_cons,List.forIn_nil]
 refine wpAny_bind (wpAny_bind (wpAny_onRaise ?_))
 show wpAny _ _ (Builtin.SmallTypes.nextOf (.ref i1)>>=_) _ _ _
 refine wpAny_bind (nxq_item (h1.extBut hs₁.extBut D.i1z) (hl1.extBut hs₁.extBut D.l1z) hx fun h₂ h1₂ hs₂=>wpAny_pure ?_)
 have hTO₂:IsPair h₂ TO a b:=hs₂.extBut _ _ D.TOi1 (hs₁.extBut _ _ D.TOz hTO)
 refine wpAny_bind (wpAny_seqItems hTO₂ rfl (wpAny_bind (wpAny_updateSeq_pair hTO₂ fun h₃ hTO₃ hs₃=>?_)))
 replace hTO₃:IsPair h₃ TO x b:=hTO₃
 refine wpAny_bind (wpAny_letGo (wpAny_pure ?_))
 refine wpAny_bind (wpAny_bind (wpAny_onRaise ?_))
 show wpAny _ _ (Builtin.SmallTypes.nextOf (.ref i2)>>=_) _ _ _
 refine wpAny_bind (nxq_item (((h2.extBut hs₁.extBut D.i2z).extBut hs₂.extBut D.i12.symm).extBut hs₃.extBut D.TOi2.symm) (((hl2.extBut hs₁.extBut D.l2z).extBut hs₂.extBut D.l2i1).extBut hs₃.extBut D.l2TO) hy fun h₄ h2₄ hs₄=>wpAny_pure ?_)
 have hTO₄:IsPair h₄ TO x b:=hs₄.extBut _ _ D.TOi2 hTO₃
 refine wpAny_bind (wpAny_seqItems hTO₄ rfl (wpAny_bind (wpAny_updateSeq_pair hTO₄ fun h₅ hTO₅ hs₅=>?_)))
 replace hTO₅:IsPair h₅ TO x y:=hTO₅
 refine wpAny_bind (wpAny_letGo (wpAny_pure (wpAny_pure (wpAny_bind (wpAny_seqItems hTO₅ rfl (wpAny_bind (wpAny_newTuple ?_)))))))
 have hsz:h₅.objs.size=s.heap.objs.size:=by rw[hs₅.1,hs₄.1,hs₃.1,hs₂.1,hs₁.1]
 have hz₅:IsZip h₅ z TI TO .ellipsis:=hs₅.extBut _ _ D.TOz.symm (hs₄.extBut _ _ D.i2z.symm (hs₃.extBut _ _ D.TOz.symm (hs₂.extBut _ _ D.i1z.symm hz₁)))
 have hk₅:∀c o,c≠z->c≠TO->c≠i1->c≠i2->s.heap.get? c=some o->h₅.get? c=some o:=fun c o c1 c2 c3 c4 e=>hs₅.extBut _ _ c2 (hs₄.extBut _ _ c4 (hs₃.extBut _ _ c2 (hs₂.extBut _ _ c3 (hs₁.extBut _ _ c1 e))))
 have h1₅:Itq b1 h₅ i1 l1 (k1+1):=((h1₂.extBut hs₃.extBut D.TOi1.symm).extBut hs₄.extBut D.i12).extBut hs₅.extBut D.TOi1.symm
 have h2₅:Itq b2 h₅ i2 l2 (k2+1):=h2₄.extBut hs₅.extBut D.TOi2.symm
 have hzlt:z<h₅.objs.size:=Heap.lt_size hz₅
 show wpAny _ _ (Builtin.SmallTypes.ownedTupleHandOut (.ref z) (.ref h₅.objs.size)>>=_) _ _ _
 refine wpAny_bind ?_
 unfold Builtin.SmallTypes.ownedTupleHandOut
 have hz₆:IsZip (h₅.push {cls:=.type "tuple",data:=.seq #[x,y]}) z TI TO .ellipsis:=Heap.get?_push_of_some _ hz₅
 refine wpAny_bind (wpAny_setField_rec hz₆ (by simp) fun h₇ hz₇ hs₇=>?_)
 replace hz₇:IsZip h₇ z TI TO (rawInt h₅.objs.size):=hz₇
 refine wpAny_setField_rec hz₇ (by simp) fun h₈ hz₈ hs₈=>?_
 replace hz₈:IsZip h₈ z TI TO (rawInt h₅.objs.size):=hz₈
 have up:∀c o,c≠z->h₅.get? c=some o->h₈.get? c=some o:=fun c o c1 e=>hs₈.extBut _ _ c1 (hs₇.extBut _ _ c1 (Heap.get?_push_of_some _ e))
 have hT₈:IsPair h₈ h₅.objs.size x y:=hs₈.extBut _ _ (Nat.ne_of_gt hzlt) (hs₇.extBut _ _ (Nat.ne_of_gt hzlt) (Heap.get?_push_size _ rfl))
 have hz8:h₈.objs.size=h₅.objs.size+1:=by rw[hs₈.1,hs₇.1,Heap.size_push]
 rw[hsz]at hz₈ hT₈ hz8
 refine wpAny_pure ⟨_,rfl,wpAny_pure ?_⟩
 show Q (some (.ref h₅.objs.size)) _
 rw[hsz]
 exact hQ h₈ hz₈ (up _ _ D.TOz hTO₅) (h1₅.at fun o e=>up _ o D.i1z e) (h2₅.at fun o e=>up _ o D.i2z e) hT₈ hz8 fun c o c1 c2 c3 c4 e=>up c o c1 (hk₅ c o c1 c2 c3 c4 e)
theorem zq_end{z TI TO i1 i2 l1 l2:Addr}{k1 k2:Nat}{xs ys:Array Value}{a b:Value}{Q:Option Value->Shared->Prop}(hh:A.handled=none)(D:ZipApart z TI TO i1 i2 l1 l2)(hz:IsZip s.heap z TI TO .none)(hTI:IsPair s.heap TI (.ref i1) (.ref i2))(hTO:IsPair s.heap TO a b)
  (h1:Itq b1 s.heap i1 l1 k1) (h2:Itq b2 s.heap i2 l2 k2) (hl1:Isq b1 s.heap l1 xs) (hl2:Isq b2 s.heap l2 ys) (hend:xs[k1]?=none\/ys[k2]?=none)
  (hQ:∀h',(∀c o,c≠z->c≠TO->c≠i1->c≠i2->s.heap.get? c=some o->h'.get? c=some o)->Q none {s with heap:=h'}):wpAny (model prog w) A (pyNext (.ref z)) Q E s:=by
 have hTy:s.TypeIs (.ref z) "zip":=⟨_,hz,rfl⟩
 have stop:∀(h':Heap) (e:Addr),(∀c o,c≠z->c≠TO->c≠i1->c≠i2->s.heap.get? c=some o->h'.get? c=some o)->(∃o,h'.get? e=some o/\o.cls=.type "StopIteration") ->
   wpAny (model prog w) A (do if(←isInstance (.ref e) (.type "StopIteration"))then pure none else throw (.ref e)) Q E {s with heap:=h'}:=fun h' e hk ⟨o,ho,hc⟩ =>
  wpAny_bind (wpAny_isInstance (T:="StopIteration") (b:=true) ⟨o,ho,hc⟩ isSubtype_stop (wpAny_pure (hQ _ hk)))
 unfold pyNext
 refine wpAny_bind (wpAny_attempt (wpAny_callSpecial?_slot (name:=Str.ofString "__next__") hTy PySem.F.slot_zip_next (wpAny_call_entry PySem.F.slot_zip_next hTy PySem.F.entry_zip_next ?_ (PySem.F.args_zip_next_1 _))))
 show wpAny _ _ (field (.ref z) 2>>=_) _ _ _
 refine wpAny_bind (wpAny_field hz rfl (x:=.bool false) rfl ?_)
 show wpAny _ _ (field (.ref z) 3>>=_) _ _ _
 refine wpAny_bind (wpAny_field hz rfl (x:=.ref TI) rfl (wpAny_bind (wpAny_seqItems hTI rfl ?_)))
 show wpAny _ _ (Builtin.SmallTypes.ownedTupleIsFree (.ref z)>>=_) _ _ _
 refine wpAny_bind ?_
 unfold Builtin.SmallTypes.ownedTupleIsFree
 refine wpAny_bind (wpAny_field hz rfl (x:=.none) rfl (wpAny_pure ?_))
 simp only[if_true]
 refine wpAny_bind (wpAny_rule (wpAny_bind (wpAny_field hz rfl (x:=.ref TO) rfl ?_)))
 refine wpAny_bind (wpAny_setField_rec hz (by simp) fun h₁ hz₁ hs₁=>?_)
 replace hz₁:IsZip h₁ z TI TO .ellipsis:=hz₁
 refine wpAny_bind ?_
 simp only[List.zipIdx_cons,List.zipIdx_nil,List.forIn_cons,List.forIn_nil]
 refine wpAny_bind (wpAny_bind (wpAny_onRaise ?_))
 show wpAny _ _ (Builtin.SmallTypes.nextOf (.ref i1)>>=_) _ _ _
 cases hx:xs[k1]? with
 |none =>
  refine wpAny_bind (nxq_end hh (h1.extBut hs₁.extBut D.i1z) (hl1.extBut hs₁.extBut D.l1z) hx fun h₂ e hs₂ he=>?_)
  obtain⟨oe,hoe,hce⟩:=he
  have hz₂:IsZip h₂ z TI TO .ellipsis:=hs₂ _ _ D.i1z.symm hz₁
  have hez:e≠z:=fun x=>by subst x;rw[hz₂]at hoe;cases hoe;simp at hce
  exact wpAny_setField_rec hz₂ (by simp) fun h₃ _ hs₃=>stop h₃ e (fun c o c1 _ c3 _ x=>hs₃.extBut _ _ c1 (hs₂ _ _ c3 (hs₁.extBut _ _ c1 x))) ⟨oe,hs₃.extBut _ _ hez hoe,hce⟩
 |some x =>
  have hy:ys[k2]?=none:=by
   rcases hend with h|h
   ·rw[hx]at h;cases h
   ·exact h
  refine wpAny_bind (nxq_item (h1.extBut hs₁.extBut D.i1z) (hl1.extBut hs₁.extBut D.l1z) hx fun h₂ h1₂ hs₂=>wpAny_pure ?_)
  have hTO₂:IsPair h₂ TO a b:=hs₂.extBut _ _ D.TOi1 (hs₁.extBut _ _ D.TOz hTO)
  refine wpAny_bind (wpAny_seqItems hTO₂ rfl (wpAny_bind (wpAny_updateSeq_pair hTO₂ fun h₃ hTO₃ hs₃=>?_)))
  refine wpAny_bind (wpAny_letGo (wpAny_pure ?_))
  refine wpAny_bind (wpAny_bind (wpAny_onRaise ?_))
  show wpAny _ _ (Builtin.SmallTypes.nextOf (.ref i2)>>=_) _ _ _
  refine wpAny_bind (nxq_end hh (((h2.extBut hs₁.extBut D.i2z).extBut hs₂.extBut D.i12.symm).extBut hs₃.extBut D.TOi2.symm) (((hl2.extBut hs₁.extBut D.l2z).extBut hs₂.extBut D.l2i1).extBut hs₃.extBut D.l2TO) hy fun h₄ e hs₄ he=>?_)
  obtain⟨oe,hoe,hce⟩:=he
  have hz₄:IsZip h₄ z TI TO .ellipsis:=hs₄ _ _ D.i2z.symm (hs₃.extBut _ _ D.TOz.symm (hs₂.extBut _ _ D.i1z.symm hz₁))
  have hez:e≠z:=fun x=>by subst x;rw[hz₄]at hoe;cases hoe;simp at hce
  exact wpAny_setField_rec hz₄ (by simp) fun h₅ _ hs₅=>stop h₅ e (fun c o c1 c2 c3 c4 x=>hs₅.extBut _ _ c1 (hs₄ _ _ c4 (hs₃.extBut _ _ c2 (hs₂.extBut _ _ c3 (hs₁.extBut _ _ c1 x))))) ⟨oe,hs₅.extBut _ _ hez hoe,hce⟩
end
section
variable {prog:Program}{w:World}{A:Around}{E:Value->Shared->Prop}{s:Shared}{b1 b2:Bool}
end
section
variable {prog:Program}{w:World}{A:Around}{R:Result->Shared->Prop}{s:Shared}{b1 b2:Bool}
end
section
variable {prog:Program}{w:World}{A:Around}{E:Value->Shared->Prop}{s:Shared}{b1 b2:Bool}
end
def SqB(K:PySem.W.Frag)(b:Bool)(H:Hp)(p:Addr)(xs:List V):Prop:=match b with|false=>SqL K H p xs|true=>SqT K H p xs
section
variable {X:Cx}{a b:Expr}{t:TA}{p1 p2 p3 p4:Pos}
theorem isq_of{c:Bool}{pins:List (Addr×Obj)}{σ:St}{H:Hp}{s:Shared}{p:Addr}{xs:List V}(I:Inv X pins σ H s)(h:SqB X.K c H p xs):∃its:List Value,Vals xs its/\Isq c s.heap p its.toArray/\xs.length<=sizeLine:=by
 cases c with
 |false =>
  obtain⟨its,rv,pl,hz⟩:=I.list h
  exact⟨its,rv,pl.isList,hz⟩
 |true =>
  obtain⟨its,rv,pl,hz⟩:=I.tuple h
  exact⟨its,rv,(show Heap.IsTuple _ _ _ by obtain⟨o,e,r⟩:=pl;exact⟨o,e,r⟩),hz⟩
end
section
variable {X:Cx}{pins:List (Addr×Obj)}{σ:St}{H:Hp}{s:Shared}{h':Heap}
theorem Inv.turnedL{t':Nat}{fp:List Addr}(I:Inv X pins σ H s)(hf:∀b∈fp,FpOk X pins H b)(k:∀b o,b∉fp->s.heap.get? b=some o->h'.get? b=some o):Inv X pins σ H {s with heap:=h',toks:=t'}:=by
 have nit:∀b u,H b=some u->b∉fp:=fun b u e z=>by rw[(hf b z).1]at e;cases e
 have hL:X.env.locals∉fp:=fun z=>(hf _ z).2.1 rfl
 refine I.step (g':=s.gens) (d':=s.drawn) (ch:=fp) (fun b hb=>?_) (fun b o _ _ hc e _=>k b o hc e) (fun b o _ _ hc e _=>⟨o.slots,k b o hc e⟩) (fun _ _ _ _ n=>n)
  (fun b o hc e=>⟨o,k b o hc e⟩) (fun _ _ e=>e) (fun _ _ _ e=>e) (fun b ps e=>⟨#[],by rw[e];simp⟩) (fun m hm=>?_) (fun b u e=>?_) I.bare
 ·obtain⟨_,f1,_,f3,f4,f5⟩:=hf b hb
  exact⟨f3,f1,f4,f5⟩
 ·obtain⟨o,es,ep,ho,r⟩:=hm
  exact⟨o,es,ep,k _ o hL ho,r⟩
 ·refine(I.hok b u e).stay (fun c v hc q=>k c v ?_ q) (fun _ q=>q) fun _ _ q=>q
  rcases hc with z|z
  ·rw[z];exact nit b u e
  ·exact nit c _ z
theorem Inv.turnedN{t':Nat}{fp:List Addr}{a:Addr}{o:HO}(I:Inv X pins σ H s)(hf:∀b∈fp,FpOk X pins H b)(k:∀b o,b∉fp->s.heap.get? b=some o->h'.get? b=some o)(ha:s.heap.objs.size<=a)(new:ObjOk X.prog X.w (upd H a o) h' a o) :
  Inv X pins σ (upd H a o) {s with heap:=h',toks:=t'}:=by
 have nit:∀b u,H b=some u->b∉fp:=fun b u e z=>by rw[(hf b z).1]at e;cases e
 have hL:X.env.locals∉fp:=fun z=>(hf _ z).2.1 rfl
 have hn:H a=none:=I.hok.fresh ha
 have up:∀b u,H b=some u->upd H a o b=some u:=fun b u e=>by rw[upd_ne (ne_of_none e hn)];exact e
 refine I.step (g':=s.gens) (d':=s.drawn) (ch:=fp) (fun b hb=>?_) (fun b o _ _ hc e _=>k b o hc e) (fun b o _ _ hc e _=>⟨o.slots,k b o hc e⟩) (fun b ob _ e n=>?_)
  (fun b o hc e=>⟨o,k b o hc e⟩) (fun b _ e=>up b _ e) (fun b _ _ e=>up b _ e) (fun b ps e=>⟨#[],by rw[up b _ e];simp⟩) (fun m hm=>?_) (fun b u e=>?_) I.bare
 ·obtain⟨_,f1,_,f3,f4,f5⟩:=hf b hb
  exact⟨f3,f1,f4,f5⟩
 ·rw[upd_ne (Nat.ne_of_lt (Nat.lt_of_lt_of_le (Heap.lt_size e) ha))];exact n
 ·obtain⟨o,es,ep,ho,r⟩:=hm
  exact⟨o,es,ep,k _ o hL ho,r⟩
 ·by_cases hb:b=a
  ·subst hb;rw[upd_same]at e;cases e;exact new
  ·rw[upd_ne hb]at e
   refine(I.hok b u e).stay (fun c v hc q=>k c v ?_ q) (fun c q=>up c _ q) fun c _ q=>up c _ q
   rcases hc with z|z
   ·rw[z];exact nit b u e
   ·exact nit c _ z
end
def Itz (K : PySem.W.Frag) (b1 : Bool) (l1 : Addr) (b2 : Bool) (l2 : Addr) : It :=
  ⟨fun i H => ∃ xs ys x y, SqB K b1 H l1 xs ∧ SqB K b2 H l2 ys ∧ xs[i]? = some x ∧ ys[i]? = some y,
   fun i H v H' => ∃ p x y, H p = none ∧ v = .ref p ∧ H' = upd H p (.tup [x, y]) ∧ (∀ xs, SqB K b1 H l1 xs → xs[i]? = some x) ∧ ∀ ys, SqB K b2 H l2 ys → ys[i]? = some y,
   fun i H => ∃ xs ys, SqB K b1 H l1 xs ∧ SqB K b2 H l2 ys ∧ (xs.length ≤ i ∨ ys.length ≤ i)⟩
theorem SqB.inj{X:Cx}{pins:List (Addr×Obj)}{σ:St}{H:Hp}{s:Shared}{b:Bool}{a:Addr}{xs ys:List V}(I:Inv X pins σ H s)(h:SqB X.K b H a xs)(h2:SqB X.K b H a ys):xs=ys:=by
 cases b with
 |false=>exact I.list_inj h h2
 |true=>exact I.tuple_inj h h2
theorem turn_zip{P:Program}{w:World}{K:PySem.W.Frag}{elts:List Expr}{x1:Nat}{pos:Pos}{b1 b2:Bool}(z TI TO i1 i2 l1 l2:Addr)(D:ZipApart z TI TO i1 i2 l1 l2):Turn P w K (.Tuple elts x1 pos) (Itz K b1 l1 b2 l2) [z,TI,TO,i1,i2] z
  (fun i h=>IsZip h z TI TO .none/\IsPair h TI (.ref i1) (.ref i2)/\(∃a b,IsPair h TO a b)/\Itq b1 h i1 l1 i/\Itq b2 h i2 l2 i) where
 mem:=by simp
 obj:=fun i h st b hb=>by
  obtain⟨hz,hTI,⟨a,c,hTO⟩,h1,h2⟩:=st
  have itc:∀{b:Bool}{i l:Addr}{k:Nat},Itq b h i l k->∃o,h.get? i=some o/\∀v,o.data≠.cell v:=fun{b i l k} q=>by
   cases b with
   |false=>obtain⟨o,e,_,d⟩:=(show h.IsListIter i l k from q);exact⟨o,e,fun v z=>by rw[d]at z;cases z⟩
   |true=>obtain⟨o,e,_,d⟩:=(show h.IsTupleIter i l k from q);exact⟨o,e,fun v z=>by rw[d]at z;cases z⟩
  simp only[List.mem_cons,List.not_mem_nil,or_false]at hb
  rcases hb with rfl|rfl|rfl|rfl|rfl
  ·exact⟨_,hz,fun v z=>by cases z⟩
  ·exact⟨_,hTI,fun v z=>by cases z⟩
  ·exact⟨_,hTO,fun v z=>by cases z⟩
  ·exact itc h1
  ·exact itc h2
 keep:=fun i h h' st k=>by
  obtain⟨hz,hTI,⟨a,c,hTO⟩,h1,h2⟩:=st
  exact⟨k z (by simp) _ hz,k TI (by simp) _ hTI,⟨a,c,k TO (by simp) _ hTO⟩,h1.at fun o e=>k i1 (by simp) o e,h2.at fun o e=>k i2 (by simp) o e⟩
 item:=by
  intro X hP hw hK hc i pins s σ H E I hf st hg
  subst hP hw hK
  obtain⟨xs,ys,x,y,hq1,hq2,hx,hy⟩:=hg
  obtain⟨hz,hTI,⟨a,c,hTO⟩,h1,h2⟩:=st
  obtain⟨its,rv,p1,_⟩:=isq_of I hq1
  obtain⟨jts,rw',p2,_⟩:=isq_of I hq2
  obtain⟨u,hu,ru⟩:=rv.get hx
  obtain⟨v,hv,rv2⟩:=rw'.get hy
  refine zq_item D hz hTI hTO h1 h2 p1 p2 (x:=u) (y:=v) (by simpa using hu) (by simpa using hv) fun h' a1 a2 a3 a4 a5 a6 hk=>?_
  refine⟨.ref s.heap.objs.size,rfl,wpAny_letOwnedTupleGo_zip (s:={s with heap:=h'}) a1 fun h2' hz' hs'=>?_⟩
  have np:∀b∈[z,TI,TO,i1,i2],b≠s.heap.objs.size:=fun b hb e=>by
   obtain⟨o,e2⟩:∃o,s.heap.get? b=some o:=by
    simp only[List.mem_cons,List.not_mem_nil,or_false]at hb
    rcases hb with rfl|rfl|rfl|rfl|rfl
    ·exact⟨_,hz⟩
    ·exact⟨_,hTI⟩
    ·exact⟨_,hTO⟩
    ·exact h1.got
    ·exact h2.got
   have:=Heap.lt_size e2
   rw[e]at this
   exact Nat.lt_irrefl _ this
  have kk:∀b o,b∉[z,TI,TO,i1,i2]->s.heap.get? b=some o->h2'.get? b=some o:=fun b o hb e=>by
   simp only[List.mem_cons,List.not_mem_nil,or_false,not_or]at hb
   obtain⟨n1,n2,n3,n4,n5⟩:=hb
   exact hs'.extBut _ _ n1 (hk b o n1 n3 n4 n5 e)
  have a5':IsPair h2' s.heap.objs.size u v:=hs'.extBut _ _ (np z (by simp)).symm a5
  refine⟨.ref s.heap.objs.size,upd H s.heap.objs.size (.tup [x,y]),I.turnedN (t':=s.toks) hf kk (Nat.le_refl _) ⟨(by show 2<=sizeLine;decide),_,.cons ru (.cons rv2 .nil),⟨_,a5',rfl,_,rfl⟩,_,a5',rfl⟩,rfl,
   ⟨_,x,y,I.hok.fresh (Nat.le_refl _),rfl,rfl,fun zs hz2=>by rw[SqB.inj I hz2 hq1];exact hx,fun zs hz2=>by rw[SqB.inj I hz2 hq2];exact hy⟩,?_,fun b hb=>?_⟩
  ·exact⟨hz',hs'.extBut _ _ D.TIz (hk TI _ D.TIz D.TITO D.TIi1 D.TIi2 hTI),⟨u,v,hs'.extBut _ _ D.TOz a2⟩,a3.extBut hs'.extBut D.i1z,a4.extBut hs'.extBut D.i2z⟩
  ·rw[upd_ne (np b hb)];exact(hf b hb).1
 done:=by
  intro X hP hw hK hc i pins s σ H E I hf st hg
  subst hP hw hK
  obtain⟨xs,ys,hq1,hq2,hl⟩:=hg
  obtain⟨hz,hTI,⟨a,c,hTO⟩,h1,h2⟩:=st
  obtain⟨its,rv,p1,_⟩:=isq_of I hq1
  obtain⟨jts,rw',p2,_⟩:=isq_of I hq2
  have e1:=rv.length
  have e2:=rw'.length
  refine zq_end (I.ok.hd hc) D hz hTI hTO h1 h2 p1 p2 ?_ fun h' hk=>⟨rfl,I.turnedL (t':=s.toks) hf fun b o hb e=>?_⟩
  ·rcases hl with hl|hl
   ·left;simp;omega
   ·right;simp;omega
  ·simp only[List.mem_cons,List.not_mem_nil,or_false,not_or]at hb
   exact hk b o hb.1 hb.2.2.1 hb.2.2.2.1 hb.2.2.2.2 e
 self:=fun _ _ _ _ _ st h=>wpAny_pyIter_zip st.1 h
def iZip(K:PySem.W.Frag)(t:TA):TI:=fun σ H R=>t σ H fun vs H2=>∃b1 b2 p q xs ys,vs=[.ref p,.ref q]/\SqB K b1 H2 p xs/\SqB K b2 H2 q ys/\R (Itz K b1 p b2 q) H2
theorem pi_zip{X:Cx}{a b:Expr}{t:TA}{p1 p2 pos:Pos}{elts:List Expr}{x1:Nat}(K:PySem.W.Frag)(hK:X.K=K)(hg:Gl X "zip")(hm:X.mg "zip"=none)(ha:PA X [a,b] t)
  (he:starEach [a,b] X.env=(false,eval a X.env)::starEach [b] X.env:=by rfl) (hpl:(backTo p2 (starEach [b] X.env)).any (·.1)=false:=by rfl):PI X (.Tuple elts x1 pos) (.Call (.Name "zip" p1) [a,b] [] p2) (iZip K t):=by
 subst hK
 intro pins s σ H R I h
 refine wpAny_Call_Name_kw (ld_blt I hg hm boot_zip ?_ (by decide) (by decide))
 refine PyProof.Rows.callWith_type1 ?_ he hpl
 refine thn (ha p2 pins s σ H _ I h) fun us s1 ⟨vs,H1,I1,r1,q1⟩=>?_
 obtain⟨c1,c2,p,q,xs,ys,rfl,hx,hy,hq⟩:=q1
 obtain⟨u,w',rfl,r1,r2⟩:=vals2 r1
 cases r1
 cases r2
 obtain⟨its,rv,pl,_⟩:=isq_of I1 hx
 obtain⟨jts,rw',pm,_⟩:=isq_of I1 hy
 have lt1:@LT.lt Nat _ p s1.heap.objs.size:=by obtain⟨_,e⟩:=pl.got;exact Heap.lt_size e
 have lt2:@LT.lt Nat _ q s1.heap.objs.size:=by obtain⟨_,e⟩:=pm.got;exact Heap.lt_size e
 refine zq_call pl pm fun g hz hTI hTO h1 h2 hsz hk=>?_
 have D:ZipApart (s1.heap.objs.size+4) (s1.heap.objs.size+2) (s1.heap.objs.size+3) s1.heap.objs.size (s1.heap.objs.size+1) p q:=by
  refine⟨?_,?_,?_,?_,?_,?_,?_,?_,?_,?_,?_,?_,?_,?_,?_,?_,?_,?_⟩<;>(show @Ne Nat _ _;omega)
 refine wpAny_pyIter_zip (s:={s1 with heap:=g}) hz ?_
 refine⟨s1.heap.objs.size+4,[s1.heap.objs.size+4,s1.heap.objs.size+2,s1.heap.objs.size+3,s1.heap.objs.size,s1.heap.objs.size+1],_,_,H1,rfl,I1.kept (t':=s1.toks) hk,turn_zip _ _ _ _ _ p q D,⟨hz,hTI,⟨_,_,hTO⟩,h1,h2⟩,fun b hb=>?_,hq⟩
 have hb':s1.heap.objs.size<=b:=by
  simp only[List.mem_cons,List.not_mem_nil,or_false]at hb
  rcases hb with rfl|rfl|rfl|rfl|rfl
  ·exact Nat.le_add_right _ 4
  ·exact Nat.le_add_right _ 2
  ·exact Nat.le_add_right _ 3
  ·exact Nat.le_refl _
  ·exact Nat.le_add_right _ 1
 exact I1.fpOk hb' (I1.hok.fresh hb')
section
variable {g:TG}{tt:TT}{te:TE}{Q:VK}{σ0:St}{H0:Hp}
theorem comp_zip{K:PySem.W.Frag}{b1 b2:Bool}{a b:Addr}{xs ys:List V}(Pv:Nat->St->List V->Hp->Prop)(h0:Pv 0 σ0 [] H0)(hlen:∀i σ vs H,i<=min xs.length ys.length->Pv i σ vs H->vs.length<=i)(hn:min xs.length ys.length<=sizeLine)
  (hl1:∀i σ vs H,i<=min xs.length ys.length->Pv i σ vs H->SqB K b1 H a xs) (hl2:∀i σ vs H,i<=min xs.length ys.length->Pv i σ vs H->SqB K b2 H b ys)
  (hs:∀i x y σ vs H p,xs[i]?=some x->ys[i]?=some y->Pv i σ vs H->H p=none->g (.ref p) σ (upd H p (.tup [x,y])) fun σ2 H2=>tt σ2 H2 fun ok H3=>if ok=true then te σ2 H3 fun v H4=>Pv (i+1) σ2 (vs++[v]) H4 else Pv (i+1) σ2 vs H3)
  (hd:∀σ vs H,Pv (min xs.length ys.length) σ vs H->∀p,H p=none->Q (.ref p) (upd H p (.lst vs))):CompW (Itz K b1 a b2 b) g tt te Q σ0 H0:=by
 refine comp_by (min xs.length ys.length) Pv h0 hlen hn (fun i σ vs H hi p=>?_) (fun σ vs H p=>⟨xs,ys,hl1 _ σ vs H (Nat.le_refl _) p,hl2 _ σ vs H (Nat.le_refl _) p,by omega⟩) (fun i σ vs H x H' hi p y=>?_) hd
 ·have k1:i<xs.length:=by omega
  have k2:i<ys.length:=by omega
  exact⟨xs,ys,xs[i],ys[i],hl1 i σ vs H (Nat.le_of_lt hi) p,hl2 i σ vs H (Nat.le_of_lt hi) p,by simp[k1],by simp[k2]⟩
 ·obtain⟨pp,x',y',hp,rfl,rfl,e1,e2⟩:=y
  exact hs i x' y' σ vs H pp (e1 xs (hl1 i σ vs H (Nat.le_of_lt hi) p)) (e2 ys (hl2 i σ vs H (Nat.le_of_lt hi) p)) p hp
end
end L2
namespace L2
open PySem
structure Frm(M:List Addr) (f:Addr) (H H':Hp):Prop where
 oth:∀b o,b∉M->b≠f->H b=some o->H' b=some o
 kt:Kt H H'
 ff:FeedAt H' f
section
variable {M:List Addr}{f:Addr}{H H1 H2:Hp}
theorem Frm.refl(hf:FeedAt H f):Frm M f H H:=⟨fun _ _ _ _ e=>e,Kt.refl,hf⟩
theorem Frm.ext(a:Frm M f H H1)(e:Ext f H1 H2):Frm M f H H2:=⟨fun b o n1 n2 h=>e.1 b o n2 (a.oth b o n1 n2 h),a.kt.trans (e.kt a.ff),e.2⟩
theorem Frm.same(a:Frm M f H H1)(e:Same H1 H2):Frm M f H H2:=⟨fun b o n1 n2 h=>e b o (a.oth b o n1 n2 h),a.kt.trans (Kt.same e),let⟨p,q,h⟩:=a.ff;⟨p,q,e _ _ h⟩⟩
theorem Frm.trans(a:Frm M f H H1)(b:Frm M f H1 H2):Frm M f H H2:=⟨fun c o n1 n2 h=>b.oth c o n1 n2 (a.oth c o n1 n2 h),a.kt.trans b.kt,b.ff⟩
theorem Frm.upd{l:Addr}{us:List V}{o:HO}(a:Frm M f H H1)(hm:l∈M)(n:l≠f)(h:H1 l=some (.lst us)):Frm M f H (upd H1 l o):=⟨fun b o' n1 n2 e=>by have z:b≠l:=(fun z=>n1 (by rw[z];exact hm));rw[upd_ne z];exact a.oth b o' n1 n2 e,a.kt.trans (Kt.lst h o),let⟨p,q,e⟩:=a.ff;⟨p,q,by rw[upd_ne n.symm];exact e⟩⟩
theorem Frm.updN{l:Addr}{us:List V}{o:HO}(a:Frm M f H H1)(hn:H l=none)(n:l≠f)(h:H1 l=some (.lst us)):Frm M f H (L2.upd H1 l o):=⟨fun b o' n1 n2 e=>by rw[upd_ne (ne_of_none e hn)];exact a.oth b o' n1 n2 e,a.kt.trans (Kt.lst h o),let⟨p,q,e⟩:=a.ff;⟨p,q,by rw[upd_ne n.symm];exact e⟩⟩
theorem Frm.drop{l:Addr}(a:Frm (l::M) f H H1)(hn:H l=none):Frm M f H H1:=⟨fun b o n1 n2 h=>a.oth b o (fun z=>(List.mem_cons.mp z).elim (fun z=>by subst z;rw[hn]at h;cases h) n1) n2 h,a.kt,a.ff⟩
theorem Frm.more{l:Addr}(a:Frm M f H H1):Frm (l::M) f H H1:=⟨fun b o n1 n2 h=>a.oth b o (fun z=>n1 (.tail _ z)) n2 h,a.kt,a.ff⟩
theorem Frm.sub{M':List Addr}(a:Frm M f H H1)(h:∀z∈M,z∈M'):Frm M' f H H1:=⟨fun b o n1 n2 e=>a.oth b o (fun z=>n1 (h b z)) n2 e,a.kt,a.ff⟩
theorem Frm.ex(a:Frm [] f H H1):Ext f H H1:=⟨fun b o n h=>a.oth b o (fun z=>nomatch z) n h,a.ff⟩
theorem Ext.frm(hf:FeedAt H f)(e:Ext f H H1):Frm M f H H1:=(Frm.refl hf).ext e
theorem Frm.free(a:Frm M f H H1){p:Addr}(hp:H1 p=none)(hm:p∉M):H p=none:=by
 cases e:H p with
 |none=>rfl
 |some o =>
  by_cases c:p=f
  ·subst c;obtain⟨x,y,z⟩:=a.ff;rw[z]at hp;cases hp
  ·rw[a.oth p o hm c e]at hp;cases hp
end
theorem cut_takeL(xs:List V)(n:Nat):cutV xs none (some (n:Int))=xs.take n:=by
 unfold cutV
 rw[HT.sIx_nat,HT.sIx_none,List.drop_zero,Nat.sub_zero]
 rcases Nat.le_total n xs.length with h|h
 ·rw[Nat.min_eq_left h]
 ·rw[Nat.min_eq_right h,List.take_of_length_le (Nat.le_refl _),List.take_of_length_le h]
theorem cut_fromL(xs:List V)(j:Nat):cutV xs (some (j:Int)) none=xs.drop j:=by
 unfold cutV
 rw[HT.sIx_nat,HT.sIx_none]
 rcases Nat.le_total j xs.length with h|h
 ·rw[Nat.min_eq_left h,List.take_of_length_le (by rw[List.length_drop];omega)]
 ·rw[Nat.min_eq_right h,List.drop_of_length_le h,List.drop_of_length_le (Nat.le_refl _)];simp
theorem cut_midL(xs:List V)(a b:Nat)(h:b<=xs.length)(hab:a<=b):cutV xs (some (a:Int)) (some (b:Int))=(xs.drop a).take (b-a):=by
 unfold cutV
 rw[HT.sIx_nat,HT.sIx_nat,Nat.min_eq_left h,Nat.min_eq_left (by omega)]
section
variable {K:PySem.W.Frag}{σ0:St}{H0:Hp}{g:TG}{tt:TT}{te:TE}{Q:VK}
theorem comp_mapLz{α:Type}{e:α->T}{φ:α->List T}{ps:List α}{vs:List V}{a:Addr}(Ps:St->Prop)(hS:H0 a=some (.lst vs))(hr:Rps K H0 (ps.map e) vs)(hl:ps.length<=sizeLine)(h1:∀p,(φ p).length<=1)(h0:Ps σ0)
  (hs:∀p∈ps,∀x σ H2 (N:List V->St->Hp->Prop),Same H0 H2->Ps σ->Rp K H2 (e p) x->(∀us σ2 H5,MSt K Ps H2 us (φ p) σ2 H5->N us σ2 H5)->g x σ H2 fun σ2 H3=>tt σ2 H3 fun ok H4=>if ok=true then te σ2 H4 fun v H5=>N [v] σ2 H5 else N [] σ2 H4)
  (k:∀l H' ws,Same H0 H'->H0 l=none->H' l=some (.lst ws)->Rps K H' (ps.flatMap φ) ws->Q (.ref l) H'):CompW (Itl K a) g tt te Q σ0 H0:=by
 have l:=hr.length
 rw[List.length_map]at l
 refine comp_list (xs:=vs) (fun i σ us H2=>Ps σ/\Same H0 H2/\Rps K H2 ((ps.take i).flatMap φ) us) ⟨h0,Same.refl _,.nil⟩ ?_ (by omega) ?_ ?_ ?_
 ·rintro i σ us H2 hi ⟨_,_,r⟩
  rw[r.length]
  exact Nat.le_trans (fm1_le h1 _) (by rw[List.length_take];exact Nat.min_le_left _ _)
 ·rintro i σ us H2 hi ⟨_,s,_⟩
  exact SqL.of (s _ _ hS)
 ·rintro i x σ us H2 hx ⟨p,s,r⟩
  obtain⟨y,hy,ry⟩:=hr.get' hx
  rw[List.getElem?_map]at hy
  obtain⟨q,hq,rfl⟩:=Option.map_eq_some_iff.mp hy
  have hil:i<ps.length:=(List.getElem?_eq_some_iff.mp hq).1
  have ep:ps[i]=q:=(List.getElem?_eq_some_iff.mp hq).2
  have z:=hs q (List.mem_of_getElem? hq) x σ H2 (fun ws σ2 H5=>Ps σ2/\Same H0 H5/\Rps K H5 ((ps.take (i+1)).flatMap φ) (us++ws)) s p (ry.same s) fun ws σ2 H5 m=>by
   refine⟨m.p,s.trans m.s,?_⟩
   rw[List.take_succ_eq_append_getElem hil,ep,List.flatMap_append]
   exact(r.same m.s).append (by rw[List.flatMap_cons,List.flatMap_nil,List.append_nil];exact m.r)
  simp only[List.append_nil]at z
  exact z
 ·rintro σ us H2 ⟨_,s,r⟩ p hp
  rw[l,List.take_length]at r
  exact k p _ us (s.trans (same_new hp _)) (s.free hp) upd_same (r.same (same_new hp _))
theorem big{n:Nat}(h:n<=1000000):n<=sizeLine:=by rw[sizeLine_eq];omega
end
end L2
namespace G12
open PySem L2
def spSort:Sp:=fun vs H Q _=>∃c:Nat,vs=[.str ⟨#[c]⟩]/\Q (.str (srtB c)) H
def adb(l:List Nat):Bool:=(List.zipWith (fun a b=>folB (srtB a) (srtB b)) l (l.drop 1)).all id
def spWell:Sp:=fun vs H Q _=>∃b:List Nat,vs=[.str (ofL b)]/\b.length<=3000/\∀H',Same H H'->Q (.bl (adb (32::(b++[32])))) H'
theorem sgn_eq{c k:Nat}:(V.str ⟨#[c]⟩=V.str ⟨#[k]⟩)↔c=k:=⟨fun h=>by injection h with h;injection h with h;simpa using h,fun h=>by rw[h]⟩
theorem in_open{c:Nat}:c∈("([":Str).cps.toList↔(c=40\/c=91):=by
 rw[show("([":Str).cps.toList=[40,91] by decide +kernel]
 simp
theorem in_close{c:Nat}:c∈(")]":Str).cps.toList↔(c=41\/c=93):=by
 rw[show(")]":Str).cps.toList=[41,93] by decide +kernel]
 simp
section
variable {P:Program}{w:World}{K:PySem.W.Frag}{mg:Str->Option Value}{base:Heap}{gS:Addr}{sfd:FuncData}
theorem nm_sort_of:Nm ["sign"] (defScope s_sort_of):=by decide +kernel
theorem sc_sort_of:FnScope ["sign"] ["sign"] (defScope s_sort_of):=⟨rfl,rfl,rfl,by decide +kernel,rfl,by decide +kernel,by decide +kernel⟩
theorem ok_sort{f:Addr}{fd:FuncData}(F:Fun K "sort_of" "sort_of" s_sort_of f fd):FnOk P w K mg base CX0 1 f fd ["sign"] spSort:=by
 refine F.ok sc_sort_of (fun vs H Q E h=>?_) (fun cdv A outer s H vs Q E hr h=>?_)
 ·obtain⟨_,rfl,_⟩:=h
  rfl
 obtain⟨c,rfl,k⟩:=h
 refine⟨_,(@pss_cons _ _ _ _ _ (@ps_if _ _ _ _ _ _ _ _ (pt_cmpR op_eq (va nm_sort_of 0) pe_str (nomark _)) (pss_one (ps_ret pe_str)) pss_nil) (@pss_cons _ _ _ _ _ (@ps_if _ _ _ _ _ _ _ _ (pt_cmpR op_in_sign (va nm_sort_of 0) pe_str (by with_unfolding_all rfl)) (pss_one (ps_ret pe_str)) pss_nil) (@pss_cons _ _ _ _ _ (@ps_if _ _ _ _ _ _ _ _ (pt_cmpR op_in_sign (va nm_sort_of 0) pe_str (by with_unfolding_all rfl)) (pss_one (ps_ret pe_str)) pss_nil) (pss_one (ps_ret pe_str))))),?_⟩
 try dsimp only[cx_K]
 try dsimp only[cx_K]
 unfold srtB at k
 fail "R"
 refine ite2 (fun c1=>?_) (fun c1=>?_)
 ·have e:c=32:=sgn_eq.mp (of_decide_eq_true c1)
  rw[if_pos e]at k
  fail "R"
  exact k
 have ne:¬c=32:=fun e=>c1 (decide_eq_true (sgn_eq.mpr e))
 rw[if_neg ne]at k
 fail "R"
 refine ite2 (fun c2=>?_) (fun c2=>?_)
 ·rw[if_pos (in_open.mp (of_decide_eq_true c2))]at k
  fail "R"
  exact k
 rw[if_neg (fun e=>c2 (decide_eq_true (in_open.mpr e)))]at k
 fail "R"
 refine ite2 (fun c3=>?_) (fun c3=>?_)
 ·rw[if_pos (in_close.mp (of_decide_eq_true c3))]at k
  fail "R"
  exact k
 rw[if_neg (fun e=>c3 (decide_eq_true (in_close.mpr e)))]at k
 fail "R"
 exact k
theorem nm_well_parted:Nm ["text","sorts"] (defScope s_well_parted):=by decide +kernel
theorem lm_well_parted:Lm ["text","sorts"] (defScope s_well_parted):=by decide +kernel
theorem sc_well_parted:FnScope ["text","sorts"] ["text"] (defScope s_well_parted):=⟨rfl,rfl,rfl,by decide +kernel,rfl,by decide +kernel,by decide +kernel⟩
theorem ok_well{f aF aB aS aW aE:Addr}{fd:FuncData}(F:Fun K "well_parted" "well_parted" s_well_parted f fd)(SO:Has P w K mg base "sort_of" 1 ["sign"] spSort gS sfd)(z_all:mg "all"=none)(z_zip:mg "zip"=none)(mF:mg "FOLLOWERS"=some (.ref aF))
  (dF:KD K w aF [("blank",.ref aB),("start",.ref aS),("word",.ref aW),("end",.ref aE)]) (hB:∀H,SqT K H aB (folVB "blank")) (hS:∀H,SqT K H aS (folVB "start")) (hW:∀H,SqT K H aW (folVB "word")) (hE:∀H,SqT K H aE (folVB "end")):FnOk P w K mg base CX0 2 f fd ["text"] spWell:=by
 refine F.ok sc_well_parted (fun vs H Q E h=>?_) (fun cdv A outer s H vs Q E hr h=>?_)
 ·obtain⟨_,rfl,_⟩:=h
  rfl
 obtain⟨bb,rfl,hlen,k⟩:=h
 refine⟨_,(@pss_cons _ _ _ _ _ (@ps_compC _ _ _ _ _ _ _ _ _ _ _ _ _ _ _ (defScope s_well_parted) ["text","sorts"] ["sign"] [] rfl rfl rfl (by decide +kernel) (pi_str (pe_fB (va nm_well_parted 0))) (fun _ _ _ _=>(pg_name (i:=0) (show(["sign"]:List Str).Nodup by decide +kernel) rfl (Or.inl (by kernel_rfl)) (by first|exact .inl rfl|exact .inr (by kernel_rfl)))) (fun _ _ _ _=>pifs_nil) (fun _ _ _ _=>(@pe_call _ _ _ _ _ _ _ _ _ _ _ _ _ _ _ _ SO.ok (hr.mono (by omega)) (by show _=_;kernel_rfl) SO.at' SO.kp SO.bd .nil pass0 (pa_c (va (show Nm ["sign"] _ by show _=_;kernel_rfl) 0) pa_nil) (by decide) (by rfl) (by rfl))) (ga sc_well_parted.nd lm_well_parted 1) (by kernel_rfl) (by intro _;rfl)) (@pss_one _ _ _ (@ps_ret _ _ _ _ (@pe_callB _ _ _ _ _ _ _ _ _ (call_all rfl) (by show _=_;kernel_rfl) z_all PyProof.Rows.boot_all (@pa_c _ _ _ _ _ (@pe_compC _ _ _ _ _ _ _ _ _ _ _ (defScope s_well_parted) ["text","sorts"] ["left","right"] [] rfl rfl rfl (by decide +kernel) (pi_zip K rfl (by show _=_;kernel_rfl) z_zip (@pa_c _ _ _ _ _ (va nm_well_parted 1) (@pa_c _ _ _ _ _ (pe_slice sl_list (va nm_well_parted 1) (po_some pe_int) po_none) pa_nil (by rfl)) (by rfl))) (fun _ _ _ _=>(@pg_tupK _ _ _ _ _ (2) K rfl rfl (@pgs_cons _ _ _ _ _ (pg_name (i:=0) (show(["left","right"]:List Str).Nodup by decide +kernel) rfl (Or.inl (by kernel_rfl)) (by first|exact .inl rfl|exact .inr (by kernel_rfl))) (pgs_cons (pg_name (i:=1) (show(["left","right"]:List Str).Nodup by decide +kernel) rfl (Or.inl (by kernel_rfl)) (by first|exact .inl rfl|exact .inr (by kernel_rfl))) pgs_nil) (by rfl)) (by rfl) (by rfl))) (fun _ _ _ _=>pifs_nil) (fun _ _ _ _=>(pe_cmpR (op_in_seqK K rfl) (va (show Nm ["left","right"] _ by show _=_;kernel_rfl) 1) (pe_kgetK K w rfl rfl (pe_glob (v:=.ref aF) (by show _=_;kernel_rfl) mF rfl) (va (show Nm ["left","right"] _ by show _=_;kernel_rfl) 0) (fun _ _=>rfl)) (by with_unfolding_all rfl))) (by intro _;rfl)) pa_nil (by rfl)) (by decide) (by decide) (by rfl) (by rfl))))),?_⟩
 try dsimp only[cx_K]
 try dsimp only[cx_K]
 have hl9:(ofL bb).length<=3000:=by rw[ofL_len];omega
 refine seq_cut ?_
 intro N1 c1
 fail "R"
 refine .inl ⟨_,rfl,by omega,(by show 1+(ofL bb).length+1<=100000;omega),_,rfl,?_⟩
 have et:(" ":Str)++ofL bb++(" ":Str)=ofL (32::(bb++[32])):=by
  show ofL [32]++ofL (bb)++ofL [32]=_
  rw[app_ofL,app_ofL]
  rfl
 rw[et]
 refine comp_mapS (f:=fun a=>.str (srtB a)) (fun _ _ _ _=>rfl) (fun a ha H1 K1 s1 q=>?_) rfl (by show(ofL _).length<=sizeLine;rw[ofL_len];exact big (by simp;omega)) (fun p hp=>?_)
 ·fail "R"
  exact q
 rw[toList_ofL]
 generalize hL:32::(bb++[32])=L
 have hLl:L.length<=4000:=by rw[←hL];simp;omega
 have s1:=same_new hp (.lst (L.map fun a=>V.str (srtB a)))
 have h1:upd H p (.lst (L.map fun a=>V.str (srtB a))) p=some (.lst (L.map fun a=>V.str (srtB a))):=upd_same
 generalize upd H p (.lst (L.map fun a=>V.str (srtB a)))=H1 at s1 h1⊢
 rw[hL]at k
 have e1:cutV (L.map fun a=>V.str (srtB a)) (some 1) none=(L.drop 1).map fun a=>V.str (srtB a):=by rw[show(some (1:Int))=some ((1:Nat):Int)from rfl,cut_fromL,List.map_drop]
 fail "R"
 intro p2 hp2
 rw[e1]
 have s2:=same_new hp2 (.lst ((L.drop 1).map fun a=>V.str (srtB a)))
 have h2:upd H1 p2 (.lst ((L.drop 1).map fun a=>V.str (srtB a))) p2=some (.lst ((L.drop 1).map fun a=>V.str (srtB a))):=upd_same
 have h2p:=s2 _ _ h1
 generalize upd H1 p2 (.lst ((L.drop 1).map fun a=>V.str (srtB a)))=H2 at s2 h2 h2p⊢
 have hb1:SqB K false H2 p (L.map fun a=>V.str (srtB a)):=SqL.of h2p
 have hb2:SqB K false H2 p2 ((L.drop 1).map fun a=>V.str (srtB a)):=SqL.of h2
 have s02:=s1.trans s2
 have hm:min (L.map fun a=>V.str (srtB a)).length ((L.drop 1).map fun a=>V.str (srtB a)).length=(List.zipWith (fun a b=>folB (srtB a) (srtB b)) L (L.drop 1)).length:=by
  rw[List.length_map,List.length_map,List.length_zipWith]
 have hml:(List.zipWith (fun a b=>folB (srtB a) (srtB b)) L (L.drop 1)).length<=4000:=by rw[List.length_zipWith];omega
 fail "R"
 refine comp_zip (K:=K) (xs:=L.map fun a=>V.str (srtB a)) (ys:=(L.drop 1).map fun a=>V.str (srtB a)) (fun i σ us H5=>(∃x y,σ=[x,y])/\Same H2 H5/\us=((List.zipWith (fun a b=>folB (srtB a) (srtB b)) L (L.drop 1)).take i).map V.bl) ⟨⟨_,_,rfl⟩,Same.refl _,rfl⟩ ?_ (big (by rw[hm];omega)) ?_ ?_ ?_ ?_
 ·rintro i σ us H5 hi ⟨_,_,rfl⟩
  rw[List.length_map,List.length_take]
  exact Nat.min_le_left _ _
 ·rintro i σ us H5 hi ⟨_,s5,_⟩
  exact SqL.of (s5 _ _ h2p)
 ·rintro i σ us H5 hi ⟨_,s5,_⟩
  exact SqL.of (s5 _ _ h2)
 ·rintro i x y σ us H5 p6 hx hy ⟨⟨_,_,rfl⟩,s5,rfl⟩ hp6
  rw[List.getElem?_map]at hx hy
  obtain⟨a6,ha6,rfl⟩:=Option.map_eq_some_iff.mp hx
  obtain⟨b6,hb6,rfl⟩:=Option.map_eq_some_iff.mp hy
  have s6:=same_new hp6 (.tup [.str (srtB a6),.str (srtB b6)])
  have h6:upd H5 p6 (.tup [.str (srtB a6),.str (srtB b6)]) p6=some (.tup [.str (srtB a6),.str (srtB b6)]):=upd_same
  generalize upd H5 p6 (.tup [.str (srtB a6),.str (srtB b6)])=H6 at s6 h6⊢
  have hz:(List.zipWith (fun a b=>folB (srtB a) (srtB b)) L (L.drop 1))[i]?=some (folB (srtB a6) (srtB b6)):=by rw[List.getElem?_zipWith,ha6,hb6]
  have hfin:((List.zipWith (fun a b=>folB (srtB a) (srtB b)) L (L.drop 1)).take (i+1)).map V.bl=((List.zipWith (fun a b=>folB (srtB a) (srtB b)) L (L.drop 1)).take i).map V.bl++[V.bl (folB (srtB a6) (srtB b6))]:=by
   rw[List.take_add_one,hz,List.map_append]
   rfl
  obtain⟨af,xf,hlk,hsq,hxf⟩:∃af xf,([("blank",V.ref aB),("start",.ref aS),("word",.ref aW),("end",.ref aE)]:List (Str×V)).lookup (srtB a6)=some (.ref af)/\SqT K H6 af xf/\xf=folVB (srtB a6):=by
   unfold srtB
   split
   ·exact⟨aB,_,rfl,hB _,rfl⟩
   ·split
    ·exact⟨aS,_,rfl,hS _,rfl⟩
    ·split
     ·exact⟨aE,_,rfl,hE _,rfl⟩
     ·exact⟨aW,_,rfl,hW _,rfl⟩
  subst hxf
  have hfl:(folVB (srtB a6)).all flatV=true:=by
   unfold srtB
   split
   ·decide +kernel
   ·split
    ·decide +kernel
    ·split<;>decide +kernel
  fail "R"
  ·exact s5.trans s6
  ·exact hfin.symm
 ·rintro σ us H5 ⟨_,s5,rfl⟩ p6 hp6
  rw[hm,List.take_length]
  fail "R"
  exact k _ ((s02.trans s5).trans (same_new hp6 _))
end
abbrev opn1:Nat->Str:=fun c=>Str.empty++⟨#[c]⟩++" "
abbrev cls1:Nat->Str:=fun c=>Str.empty++" "++⟨#[c]⟩
theorem opn1_len(c:Nat):(opn1 c).length<=100:=by show 2<=100;decide
theorem cls1_len(c:Nat):(cls1 c).length<=100:=by show 2<=100;decide
theorem opn1_ne(c:Nat):((⟨#[c]⟩:Str) == opn1 c)=false:=by
 apply beq_eq_false_iff_ne.mpr
 intro e
 have e2:(1:Nat)=2:=congrArg Str.length e
 cases e2
theorem cls1_ne(c:Nat):((⟨#[c]⟩:Str) == cls1 c)=false:=by
 apply beq_eq_false_iff_ne.mpr
 intro e
 have e2:(1:Nat)=2:=congrArg Str.length e
 cases e2
def wV(l:List (List Nat)):List V:=l.map fun w=>V.str (ofL w)
def spSplit:Sp:=fun vs H Q _=>∃b:List Nat,vs=[.str (ofL b)]/\b.length<=3000/\∀(p:Addr) (H':Hp),Same H H'->H p=none->H' p=some (.lst (wV (wd (Rb b))))->Q (.ref p) H'
theorem wd_flat(l:List (List Nat)):(l.flatMap fun p=>if p.isEmpty then []else [T.s (ofL p)])=(l.filter fun p=>!p.isEmpty).map fun p=>T.s (ofL p):=by
 induction l with
 |nil=>rfl
 |cons p r ih =>
  rw[List.flatMap_cons,ih]
  cases p with
  |nil=>rfl
  |cons a q=>rfl
theorem op1_l(c:Nat):(opn1 c).cps.toList=[c,32]:=rfl
theorem cl1_l(c:Nat):(cls1 c).cps.toList=[32,c]:=rfl
theorem repl1(l:List Nat):repl opn1 (ofL l) [40,91]=ofL (Rp1 l):=by
 unfold repl
 show Txt.replace (Txt.replace (ofL l) ⟨#[40]⟩ (opn1 40)) ⟨#[91]⟩ (opn1 91)=_
 rw[rep_ofL,rep_ofL,op1_l,op1_l]
 rfl
theorem repl2(l:List Nat):repl cls1 (ofL l) [41,93]=ofL (Rp2 l):=by
 unfold repl
 show Txt.replace (Txt.replace (ofL l) ⟨#[41]⟩ (cls1 41)) ⟨#[93]⟩ (cls1 93)=_
 rw[rep_ofL,rep_ofL,cl1_l,cl1_l]
 rfl
theorem repl1_len{l:List Nat}(h:l.length<=4000)(k:Nat):(repl opn1 (ofL l) (([40,91]:List Nat).take k)).length<=65535:=by
 match k with
 |0=>show(ofL l).length<=_;rw[ofL_len];omega
 |1 =>
  show(Txt.replace (ofL l) ⟨#[40]⟩ (opn1 40)).length<=_
  have:=fmB_le (c:=40) (z:=[40,32]) (by decide) l
  rw[rep_ofL,ofL_len,op1_l]
  omega
 |k+2 =>
  have e:([40,91]:List Nat).take (k+2)=[40,91]:=List.take_of_length_le (by show 2<=k+2;omega)
  have:=Rp1_le l
  rw[e,repl1,ofL_len]
  omega
theorem repl2_len{l:List Nat}(h:l.length<=16000)(k:Nat):(repl cls1 (ofL l) (([41,93]:List Nat).take k)).length<=65535:=by
 match k with
 |0=>show(ofL l).length<=_;rw[ofL_len];omega
 |1 =>
  show(Txt.replace (ofL l) ⟨#[41]⟩ (cls1 41)).length<=_
  have:=fmB_le (c:=41) (z:=[32,41]) (by decide) l
  rw[rep_ofL,ofL_len,cl1_l]
  omega
 |k+2 =>
  have e:([41,93]:List Nat).take (k+2)=[41,93]:=List.take_of_length_le (by show 2<=k+2;omega)
  have:=Rp2_le l
  rw[e,repl2,ofL_len]
  omega
theorem rps_strs{K:PySem.W.Frag}{H:Hp}:∀l:List (List Nat),Rps K H (l.map fun q=>T.s (ofL q)) (l.map (V.str ∘ ofL))
 | []=>.nil
 |_::r=>.cons .s (rps_strs r)
section
variable {P:Program}{w:World}{K:PySem.W.Frag}{mg:Str->Option Value}{base:Heap}{gS:Addr}{sfd:FuncData}
theorem nm_split_words:Nm ["text","sign"] (defScope s_split_words):=by decide +kernel
theorem sc_split_words:FnScope ["text","sign"] ["text"] (defScope s_split_words):=⟨rfl,rfl,rfl,by decide +kernel,rfl,by decide +kernel,by decide +kernel⟩
theorem ok_split{f:Addr}{fd:FuncData}(F:Fun K "split_words" "split_words" s_split_words f fd):FnOk P w K mg base CX0 1 f fd ["text"] spSplit:=by
 refine F.ok sc_split_words (fun vs H Q E h=>?_) (fun cdv A outer s H vs Q E hr h=>?_)
 ·obtain⟨_,rfl,_⟩:=h
  rfl
 obtain⟨bb,rfl,hlen,k⟩:=h
 refine⟨_,(@pss_cons _ _ _ _ _ (ps_repl (i:=0) (j:=1) (g:=opn1) rfl sc_split_words.nd rfl rfl rfl rfl (jo_behind rfl (by decide)) opn1_len opn1_ne (by decide) (by decide +kernel)) (@pss_cons _ _ _ _ _ (ps_repl (i:=0) (j:=1) (g:=cls1) rfl sc_split_words.nd rfl rfl rfl rfl (jo_ahead rfl (by decide)) cls1_len cls1_ne (by decide) (by decide +kernel)) (@pss_one _ _ _ (@ps_ret _ _ _ _ (@pe_compC _ _ _ _ _ _ _ _ _ _ _ (defScope s_split_words) ["text","sign"] ["word"] [] rfl rfl rfl (by decide +kernel) (pi_list (by exact pe_bm PySem.F.plainAttrs_str PySem.F.slot_str_split PySem.F.type_str_split mt_split (va nm_split_words 0) (pa_c pe_str pa_nil) (hbase:=by kernel_rfl) (hfew:=by kernel_rfl) (hline:=by kernel_rfl) (hs:=by kernel_rfl) (hplain:=by kernel_rfl))) (fun _ _ _ _=>(pg_name (i:=0) (show(["word"]:List Str).Nodup by decide +kernel) rfl (Or.inl (by kernel_rfl)) (by first|exact .inl rfl|exact .inr (by kernel_rfl)))) (fun _ _ _ _=>(pifs_one (pt_truthK K rfl (va (show Nm ["word"] _ by show _=_;kernel_rfl) 0) (fun _=>rfl)))) (fun _ _ _ _=>(va (show Nm ["word"] _ by show _=_;kernel_rfl) 0)) (by intro _;rfl)))))),?_⟩
 try dsimp only[cx_K]
 try dsimp only[cx_K]
 have hR1:=Rp1_le bb
 have hR2:=Rp2_le (Rp1 bb)
 refine seq_cut2 ?_
 intro N1 N2 c1 c2
 have e1:("([":Str).cps.toList=[40,91]:=by decide +kernel
 have e2:(")]":Str).cps.toList=[41,93]:=by decide +kernel
 refine⟨ofL bb,rfl,fun j=>by rw[e1];exact repl1_len (by omega) j,?_⟩
 rw[e1,repl1]
 refine c1 _ _ ?_
 refine⟨_,rfl,fun j=>by rw[e2];exact repl2_len (by omega) j,?_⟩
 rw[e2,repl2]
 refine c2 _ _ ?_
 rw[show Rp2 (Rp1 bb)=Rb bb from rfl]
 have hF:(Rb bb).length<=48000:=by show(Rp2 (Rp1 bb)).length<=_;omega
 have hsl:(ofL (Rb bb)).length<=100000:=by rw[ofL_len];omega
 have esp:=split_ofL (Rb bb) 32
 have espl:(sp 32 (Rb bb)).length<=sizeLine:=by
  refine big ?_
  have:=PyProof.Rows.split_le (ofL (Rb bb)) ⟨#[32]⟩
  rw[esp,List.length_map,ofL_len]at this
  omega
 fail "R"
 intro p hp
 rw[show(" ":Str)=⟨#[32]⟩from rfl,esp,List.map_map]
 have s1:=same_new hp (.lst ((sp 32 (Rb bb)).map (V.str ∘ ofL)))
 have h1:upd H p (.lst ((sp 32 (Rb bb)).map (V.str ∘ ofL))) p=some (.lst ((sp 32 (Rb bb)).map (V.str ∘ ofL))):=upd_same
 generalize upd H p (.lst ((sp 32 (Rb bb)).map (V.str ∘ ofL)))=H1 at s1 h1⊢
 fail "R"
 refine comp_mapLz (K:=K) (e:=fun q=>T.s (ofL q)) (φ:=fun q=>if q.isEmpty then []else [T.s (ofL q)]) (ps:=sp 32 (Rb bb)) (fun σ=>∃x,σ=[x]) h1 (rps_strs _) espl ?_ ⟨_,rfl⟩ ?_ ?_
 ·intro q
  cases q<;>simp
 ·rintro q hq x σ H2 N s2 ⟨y,rfl⟩ rx kN
  obtain rfl:=rx.inv_s
  have hql:(ofL q).length<=sizeLine:=by
   have hm:ofL q∈Txt.split (ofL (Rb bb)) ⟨#[32]⟩:=by rw[esp];exact List.mem_map_of_mem hq
   have:=PyProof.Rows.part_short hm
   rw[ofL_len (Rb bb)]at this
   exact big (by omega)
  refine⟨_,rfl,_,⟨hql,rfl⟩,?_⟩
  cases q with
  |nil=>exact kN [] _ _ ⟨⟨_,rfl⟩,Same.refl _,.nil⟩
  |cons a r=>exact⟨_,rfl,kN _ _ _ ⟨⟨_,rfl⟩,Same.refl _,.one .s⟩⟩
 ·intro l H' us s3 hl h3 r3
  rw[wd_flat]at r3
  have e3:us=wV (wd (Rb bb)):=by
   have z:Rps K H' ((((sp 32 (Rb bb)).filter fun p=>!p.isEmpty).map ofL).map T.s) us:=by rw[List.map_map];exact r3
   rw[z.strs_inv,List.map_map]
   rfl
  rw[e3]at h3
  exact k l H' (s1.trans s3) (s1.free hl) h3
end
def spIsName:Sp:=fun vs H Q _=>∃l:List Nat,vs=[.str (ofL l)]/\l.length<=3000/\∀H',Same H H'->Q (.bl (nmB l)) H'
def spIsFig:Sp:=fun vs H Q _=>∃(x:Str) (m:Int),vs=[.str x,.int m]/\x.length<=3000/\∀H',Same H H'->Q (.bl (figB x.cps.toList m)) H'
theorem inV_kept(x:Str):inV (.str x) keptV=decide (x∈keptS):=by
 by_cases hx:x∈keptS
 ·rw[decide_eq_true hx]
  unfold inV
  rw[List.any_eq_true]
  exact⟨.str x,List.mem_map_of_mem hx,show(x == x)=true from beq_self_eq_true x⟩
 ·rw[not_kept hx,decide_eq_false hx]
section
variable {P:Program}{w:World}{K:PySem.W.Frag}{mg:Str->Option Value}{base:Heap}{aK:Addr}{tkL tkF:Tok}
theorem nm_is_name:Nm ["text"] (defScope s_is_name):=by decide +kernel
theorem sc_is_name:FnScope ["text"] ["text"] (defScope s_is_name):=⟨rfl,rfl,rfl,by decide +kernel,rfl,by decide +kernel,by decide +kernel⟩
theorem ok_isname{f:Addr}{fd:FuncData}(F:Fun K "is_name" "is_name" s_is_name f fd)(z_len:mg "len"=none)(z_all:mg "all"=none)(mK:mg "KEPT"=some (.ref aK))(hK:∀H,SqT K H aK keptV)(mL:mg "SMALL_LETTERS"=some (.str letS tkL)):FnOk P w K mg base CX0 1 f fd ["text"] spIsName:=by
 refine F.ok sc_is_name (fun vs H Q E h=>?_) (fun cdv A outer s H vs Q E hr h=>?_)
 ·obtain⟨_,rfl,_⟩:=h
  rfl
 obtain⟨l,rfl,hll,k⟩:=h
 refine⟨_,(@pss_one _ _ _ (@ps_ret _ _ _ _ (@pe_and _ _ _ _ _ _ _ (@pe_chain _ _ _ _ _ _ _ _ _ _ _ _ op_le op_le pe_int (@pe_callB _ _ _ _ _ _ _ _ _ call_len_str (by show _=_;kernel_rfl) z_len PySem.boot_len (pa_c (va nm_is_name 0) pa_nil) (by decide) (by decide) (by rfl) (by rfl)) pe_int (by with_unfolding_all rfl)) (@pe_and _ _ _ _ _ _ _ (pe_cmpR op_notIn_seq (va nm_is_name 0) (pe_glob (v:=.ref aK) (by show _=_;kernel_rfl) mK rfl) (by with_unfolding_all rfl)) (@pe_one _ _ _ _ _ (@pe_callB _ _ _ _ _ _ _ _ _ (call_all rfl) (by show _=_;kernel_rfl) z_all PyProof.Rows.boot_all (@pa_c _ _ _ _ _ (@pe_compC _ _ _ _ _ _ _ _ _ _ _ (defScope s_is_name) ["text"] ["sign"] [] rfl rfl rfl (by decide +kernel) (pi_str (va nm_is_name 0)) (fun _ _ _ _=>(pg_name (i:=0) (show(["sign"]:List Str).Nodup by decide +kernel) rfl (Or.inl (by kernel_rfl)) (by first|exact .inl rfl|exact .inr (by kernel_rfl)))) (fun _ _ _ _=>pifs_nil) (fun _ _ _ _=>(pe_cmpR op_in_sign (va (show Nm ["sign"] _ by show _=_;kernel_rfl) 0) (pe_glob (v:=.str letS) (by show _=_;kernel_rfl) mL ⟨_,rfl⟩) (by with_unfolding_all rfl))) (by intro _;rfl)) pa_nil (by rfl)) (by decide) (by decide) (by rfl) (by rfl))))))),?_⟩
 try dsimp only[cx_K]
 try dsimp only[cx_K]
 have hl:=ofL_len l
 have hz:(ofL l).length<=sizeLine:=big (by omega)
 have b3:=inV_kept (ofL l)
 have b4:=hK H
 have b5:=kept_flat
 unfold nmB at k
 fail "R"
 refine ite2 (fun b1=>?_) (fun b1=>?_)
 rotate_left
 ·rw[decide_eq_false (p:=1<=l.length) (fun z=>b1 (decide_eq_true (by omega)))]at k
  fail "R"
  exact k _ (Same.refl _)
 rw[decide_eq_true (p:=1<=l.length) (by have:=of_decide_eq_true b1;omega),Bool.true_and]at k
 fail "R"
 refine ite2 (fun b2=>?_) (fun b2=>?_)
 rotate_left
 ·rw[decide_eq_false (p:=l.length<=6) (fun z=>b2 (decide_eq_true (by omega)))]at k
  fail "R"
  exact k _ (Same.refl _)
 rw[decide_eq_true (p:=l.length<=6) (by have:=of_decide_eq_true b2;omega),Bool.true_and]at k
 fail "R"
 refine ite2 (fun b6=>?_) (fun b6=>?_)
 rotate_left
 ·rw[b3]at b6
  have z:decide (ofL l∈keptS)=true:=by simpa using b6
  rw[z]at k
  fail "R"
  exact k _ (Same.refl _)
 rw[b3]at b6
 have z:decide (ofL l∈keptS)=false:=by simpa using b6
 rw[z,Bool.not_false,Bool.true_and]at k
 fail "R"
 refine comp_mapS (f:=fun c=>.bl (decide (c∈letS.cps.toList))) (fun _ _ _ _=>rfl) (fun a ha H1 K1 s1 q=>?_) rfl hz (fun p hp=>?_)
 ·fail "R"
  exact q
 have e:((ofL l).cps.toList.map fun c=>V.bl (decide (c∈letS.cps.toList)))=((ofL l).cps.toList.map fun c=>decide (c∈letS.cps.toList)).map V.bl:=by rw[List.map_map];rfl
 rw[e]
 fail "R"
 have e2:((ofL l).cps.toList.map fun c=>decide (c∈letS.cps.toList)).all id=l.all fun c=>decide (97<=c/\c<=122):=by
  rw[toList_ofL,List.all_map]
  congr 1
  funext c
  show decide (c∈letS.cps.toList)=_
  rw[show letS.cps.toList=(List.range 26).map (·+97) by decide +kernel]
  refine decide_eq_decide.mpr ⟨fun h=>?_,fun h=>?_⟩
  ·obtain⟨i,hi,rfl⟩:=List.mem_map.mp h
   have:=List.mem_range.mp hi
   omega
  ·exact List.mem_map.mpr ⟨c-97,List.mem_range.mpr (by omega),by omega⟩
 rw[e2]
 exact k _ (same_new hp _)
theorem nm_is_figures:Nm ["text","most"] (defScope s_is_figures):=by decide +kernel
theorem sc_is_figures:FnScope ["text","most"] ["text","most"] (defScope s_is_figures):=⟨rfl,rfl,rfl,by decide +kernel,rfl,by decide +kernel,by decide +kernel⟩
theorem ok_isfig{f:Addr}{fd:FuncData}(F:Fun K "is_figures" "is_figures" s_is_figures f fd)(z_len:mg "len"=none)(z_all:mg "all"=none)(mFi:mg "FIGURES"=some (.str figS tkF)):FnOk P w K mg base CX0 1 f fd ["text","most"] spIsFig:=by
 refine F.ok sc_is_figures (fun vs H Q E h=>?_) (fun cdv A outer s H vs Q E hr h=>?_)
 ·obtain⟨_,_,rfl,_⟩:=h
  rfl
 obtain⟨x,m,rfl,hll,k⟩:=h
 obtain⟨l,rfl⟩:∃l,x=ofL l:=⟨x.cps.toList,(ofL_toList x).symm⟩
 rw[toList_ofL]at k
 refine⟨_,(@pss_cons _ _ _ _ _ (@ps_if _ _ _ _ _ _ _ _ (PW.pt (@pw_or _ _ _ _ _ _ _ (@pt_not _ _ _ _ (@pt_chain _ _ _ _ _ _ _ _ _ _ _ _ op_le op_le pe_int (@pe_callB _ _ _ _ _ _ _ _ _ call_len_str (by show _=_;kernel_rfl) z_len PySem.boot_len (pa_c (va nm_is_figures 0) pa_nil) (by decide) (by decide) (by rfl) (by rfl)) (va nm_is_figures 1) (by with_unfolding_all rfl))) (@pw_or1 _ _ _ _ (@pt_not _ _ _ _ (@pt_val _ _ _ (@pe_callB _ _ _ _ _ _ _ _ _ (call_all rfl) (by show _=_;kernel_rfl) z_all PyProof.Rows.boot_all (@pa_c _ _ _ _ _ (@pe_compC _ _ _ _ _ _ _ _ _ _ _ (defScope s_is_figures) ["text","most"] ["sign"] [] rfl rfl rfl (by decide +kernel) (pi_str (va nm_is_figures 0)) (fun _ _ _ _=>(pg_name (i:=0) (show(["sign"]:List Str).Nodup by decide +kernel) rfl (Or.inl (by kernel_rfl)) (by first|exact .inl rfl|exact .inr (by kernel_rfl)))) (fun _ _ _ _=>pifs_nil) (fun _ _ _ _=>(pe_cmpR op_in_sign (va (show Nm ["sign"] _ by show _=_;kernel_rfl) 0) (pe_glob (v:=.str figS) (by show _=_;kernel_rfl) mFi ⟨_,rfl⟩) (by with_unfolding_all rfl))) (by intro _;rfl)) pa_nil (by rfl)) (by decide) (by decide) (by rfl) (by rfl)) (by intro _;rfl)))))) (pss_one (ps_ret pe_bl)) pss_nil) (@pss_one _ _ _ (@ps_ret _ _ _ _ (@pe_or _ _ _ _ _ _ _ (@pe_cmpR _ _ _ _ _ _ _ _ op_eq (@pe_callB _ _ _ _ _ _ _ _ _ call_len_str (by show _=_;kernel_rfl) z_len PySem.boot_len (pa_c (va nm_is_figures 0) pa_nil) (by decide) (by decide) (by rfl) (by rfl)) pe_int (nomark _)) (@pe_one _ _ _ _ _ (@pe_cmpR _ _ _ _ _ _ _ _ op_ne (pe_ix ix_str (va nm_is_figures 0) pe_int (fun _ _=>rfl)) pe_str (nomark _))))))),?_⟩
 try dsimp only[cx_K]
 try dsimp only[cx_K]
 have hl:=ofL_len l
 have hz:(ofL l).length<=sizeLine:=big (by omega)
 unfold figB at k
 refine seq_cut ?_
 intro N1 c1
 fail "R"
 refine ite2 (fun b1=>?_) (fun b1=>?_)
 ·have b1':(1:Int)<=((ofL l).length:Int):=of_decide_eq_true b1
  fail "R"
  refine ite2 (fun b2=>?_) (fun b2=>?_)
  ·have b2':¬((ofL l).length:Int)<=m:=fun z=>by rw[decide_eq_true z]at b2;cases b2
   rw[if_neg (by omega)]at k
   fail "R"
   exact k _ (Same.refl _)
  have b2':((ofL l).length:Int)<=m:=by
   by_cases z:((ofL l).length:Int)<=m
   ·exact z
   ·rw[decide_eq_false z]at b2;exact absurd rfl b2
  rw[if_pos (by omega)]at k
  fail "R"
  refine comp_mapS (f:=fun c=>.bl (dig c)) (fun _ _ _ _=>rfl) (fun a ha H1 K1 s1 q=>?_) rfl hz (fun p hp=>?_)
  ·fail "R"
   exact q
  rw[toList_ofL]
  have e:(l.map fun c=>V.bl (dig c))=(l.map dig).map V.bl:=by rw[List.map_map];rfl
  rw[e]
  have s1:=same_new hp (.lst ((l.map dig).map V.bl))
  have h1:upd H p (.lst ((l.map dig).map V.bl)) p=some (.lst ((l.map dig).map V.bl)):=upd_same
  generalize upd H p (.lst ((l.map dig).map V.bl))=H1 at s1 h1⊢
  fail "R"
  refine ite2 (fun b3=>?_) (fun b3=>?_)
  ·have b3':¬(l.map dig).all id=true:=fun z=>by rw[z]at b3;cases b3
   rw[if_neg b3']at k
   fail "R"
   exact k _ s1
  have b3':(l.map dig).all id=true:=by
   cases z:(l.map dig).all id with
   |true=>rfl
   |false=>rw[z]at b3;exact absurd rfl b3
  rw[if_pos b3']at k
  fail "R"
  refine ite2 (fun cn=>?_) (fun cn=>?_)
  ·have e1:l.length=1:=by
    have z:=of_decide_eq_true cn
    injection z with z
    omega
   rw[decide_eq_true e1]at k
   exact k _ s1
  have e1:¬l.length=1:=fun z=>cn (decide_eq_true (by rw[hl,z];rfl))
  rw[decide_eq_false e1]at k
  obtain⟨a,r,ea⟩:∃a r,l=a::r:=by
   cases e:l with
   |nil=>rw[e]at hl b1';have:(ofL ([]:List Nat)).length=0:=hl;omega
   |cons a r=>exact⟨a,r,rfl⟩
  have hat:atI (ofL l).cps.toList 0=some a:=by rw[toList_ofL,ea];unfold atI ixN;simp
  have hq2:(!decide (V.str ⟨#[a]⟩=V.str "0"))=(false||decide (l[0]?≠some 48)):=by
   rw[ea,Bool.false_or]
   by_cases z:a=48
   ·subst z
    rfl
   ·have hne:¬(V.str ⟨#[a]⟩=V.str "0"):=fun e=>z (sgn_eq (k:=48).mp e)
    rw[decide_eq_false hne,decide_eq_true (by simpa using z)]
    rfl
  fail "R"
  rw[hq2]
  exact k _ s1
 ·have b1':¬(1:Int)<=((ofL l).length:Int):=fun z=>b1 (decide_eq_true z)
  rw[if_neg (by omega)]at k
  fail "R"
  exact k _ (Same.refl _)
end
end G12
namespace L2
open PySem PySem.Spec PyProof.Rows
section
variable {prog:Program}{w:World}{A:Around}{E:Value->Shared->Prop}{s:Shared}
end
section
variable {X:Cx}{pins:List (Addr×Obj)}{σ:St}{H:Hp}{s:Shared}
end
section
variable {prog:Program}{w:World}{A:Around}{R:Result->Shared->Prop}{s:Shared}
end
section
variable {X:Cx}{pins:List (Addr×Obj)}{σ:St}{H:Hp}{s:Shared}
end
section
variable {X:Cx}
end
section
variable {g:TG}{tt:TT}{tk tv:TE}{Q:VK}{σ0:St}{H0:Hp}
end
end L2
namespace L2
open PySem
section
variable {K:PySem.W.Frag}{H:Hp}{v:V}
theorem Rp.t1{x:T}(h:Rp K H (.t [x]) v):∃a u,v=.ref a/\SqT K H a [u]/\Rp K H x u:=by
 obtain⟨a,vs,rfl,sq,r⟩:=h.inv_t
 obtain⟨u,q,rfl,g,r2⟩:=r.inv
 obtain rfl:=r2.inv0
 exact⟨a,u,rfl,sq,g⟩
theorem Rp.t2{x y:T}(h:Rp K H (.t [x,y]) v):∃a u1 u2,v=.ref a/\SqT K H a [u1,u2]/\Rp K H x u1/\Rp K H y u2:=by
 obtain⟨a,vs,rfl,sq,r⟩:=h.inv_t
 obtain⟨u,q,rfl,g,r2⟩:=r.inv
 obtain⟨u2,q2,rfl,g2,r3⟩:=r2.inv
 obtain rfl:=r3.inv0
 exact⟨a,u,u2,rfl,sq,g,g2⟩
theorem Rp.t3{x y z:T}(h:Rp K H (.t [x,y,z]) v):∃a u1 u2 u3,v=.ref a/\SqT K H a [u1,u2,u3]/\Rp K H x u1/\Rp K H y u2/\Rp K H z u3:=by
 obtain⟨a,vs,rfl,sq,r⟩:=h.inv_t
 obtain⟨u,q,rfl,g,r2⟩:=r.inv
 obtain⟨u2,q2,rfl,g2,r3⟩:=r2.inv
 obtain⟨u3,q3,rfl,g3,r4⟩:=r3.inv
 obtain rfl:=r4.inv0
 exact⟨a,u,u2,u3,rfl,sq,g,g2,g3⟩
theorem Rp.t4{x y z x4:T}(h:Rp K H (.t [x,y,z,x4]) v):∃a u1 u2 u3 u4,v=.ref a/\SqT K H a [u1,u2,u3,u4]/\Rp K H x u1/\Rp K H y u2/\Rp K H z u3/\Rp K H x4 u4:=by
 obtain⟨a,vs,rfl,sq,r⟩:=h.inv_t
 obtain⟨u,q,rfl,g,r2⟩:=r.inv
 obtain⟨u2,q2,rfl,g2,r3⟩:=r2.inv
 obtain⟨u3,q3,rfl,g3,r4⟩:=r3.inv
 obtain⟨u4,q4,rfl,g4,r5⟩:=r4.inv
 obtain rfl:=r5.inv0
 exact⟨a,u,u2,u3,u4,rfl,sq,g,g2,g3,g4⟩
theorem Rp.t5{x y z x4 x5:T}(h:Rp K H (.t [x,y,z,x4,x5]) v):∃a u1 u2 u3 u4 u5,v=.ref a/\SqT K H a [u1,u2,u3,u4,u5]/\Rp K H x u1/\Rp K H y u2/\Rp K H z u3/\Rp K H x4 u4/\Rp K H x5 u5:=by
 obtain⟨a,vs,rfl,sq,r⟩:=h.inv_t
 obtain⟨u,q,rfl,g,r2⟩:=r.inv
 obtain⟨u2,q2,rfl,g2,r3⟩:=r2.inv
 obtain⟨u3,q3,rfl,g3,r4⟩:=r3.inv
 obtain⟨u4,q4,rfl,g4,r5⟩:=r4.inv
 obtain⟨u5,q5,rfl,g5,r6⟩:=r5.inv
 obtain rfl:=r6.inv0
 exact⟨a,u,u2,u3,u4,u5,rfl,sq,g,g2,g3,g4,g5⟩
end
end L2
namespace L2
open PySem PySem.Spec PyProof.Rows
section
variable {X:Cx}
def tCallV(T:Addr->Sp->Prop)(tf:TE)(t:TA):TE:=fun σ H Q=>tf σ H fun x H0=>∃f sp,x=.ref f/\T f sp/\t σ H0 fun vs H1=>sp vs H1 Q E0
theorem pe_callV{T:Addr->Sp->Prop}{x:Str}{p pos:Pos}{e:Expr}{es:List Expr}{tf:TE}{t:TA}
  (hT:∀f sp,T f sp->∃k fd ps,FnOk X.prog X.w X.K X.mg X.base CX0 k f fd ps sp/\Room k X.A/\PySem.W.keepIn X.K (.ref f)=true/\Binds X.K fd ps [])
  (hf:PE X (.Name x p) tf) (ha:PA X (e::es) t) (he:starEach (e::es) X.env=(false,eval e X.env)::starEach es X.env:=by rfl) (hpl:(backTo pos (starEach es X.env)).any (·.1)=false:=by rfl) :
  PE X (.Call (.Name x p) (e::es) [] pos) (tCallV T tf t):=by
 intro pins s σ H Q I h
 refine wpAny_Call_Name_kw (thn (hf pins s σ H _ I h) fun u s0 ⟨v,H0,I0,rx,f,sp,ev,hTf,q⟩=>?_)
 subst ev
 obtain rfl:u=Value.ref f:=rx
 obtain⟨k,fd,ps,F,hr,hk,hb⟩:=hT f sp hTf
 refine PySem.W.callWith_K (h₀:=X.base) I0.ok.mod.kin hk (thn (ha pos pins s0 σ H0 _ I0 q) fun us s1 ⟨vs,H1,I1,r,q⟩=>⟨I1.kIn,?_⟩) he hpl
 exact run_fn (E:=E0) (dvs:=[]) F hr hb .nil pass0 I1 r (by simpa using q)
theorem lst_iter:typeLookup (.type "list") (Str.ofString "__iter__")=pure (some (.builtin "list.__iter__")):=by rw[typeLookup_type,builtinLookup_eq_fast];kernel_rfl
section
variable {prog:Program}{w:World}{A:Around}{E:Value->Shared->Prop}{s:Shared}
theorem draw_list{l I:Addr}{items:Array Value}{Q:List Value->Shared->Prop}(hh:A.handled=none)(hI:l≠I) :
  ∀(n i:Nat) (s:Shared),i+n<=items.size->s.heap.IsListIter I l i->s.heap.IsList l items->(∀h' tk,(∀b o,b≠I->s.heap.get? b=some o->h'.get? b=some o)->h'.IsListIter I l (i+n)->Q ((items.toList.drop i).take n) {s with heap:=h',toks:=tk}) ->
   wpAny (model prog w) A (draw (.ref I) n) Q E s:=by
 intro n
 induction n generalizing Q with
 |zero =>
  intro i s hi h1 h2 hQ
  show wpAny _ _ (pure []) _ _ _
  exact wpAny_pure (by simpa using hQ s.heap s.toks (fun _ _ _ e=>e) h1)
 |succ n ih =>
  intro i s hi h1 h2 hQ
  unfold draw
  refine wpAny_bind ((Walks.list (A:=A) hh I l hI items).item i s _ _ (by omega) ⟨h1,h2⟩ fun v h' tk hv hst hk=>?_)
  refine wpAny_bind (wpAny_holding (ih (i+1) {s with heap:=h',toks:=tk} (by omega) hst.1 hst.2 fun h2 tk2 hk2 hst2=>wpAny_pure ?_))
  have e:v::(items.toList.drop (i+1)).take n=(items.toList.drop i).take (n+1):=by
   have hv':items.toList[i]?=some v:=by simpa using hv
   have hil:i<items.toList.length:=by simp;omega
   rw[List.drop_eq_getElem_cons hil,List.take_succ_cons]
   have e2:items.toList[i]=v:=(List.getElem?_eq_some_iff.mp hv').2
   rw[e2]
  rw[e]
  exact hQ h2 tk2 (fun b o hb q=>hk2 b o hb (hk b o (by simpa using hb) q)) (by rw[show i+(n+1)=i+1+n by omega];exact hst2)
theorem unpack_list{l:Addr}{items:Array Value}{Q:List Value->Shared->Prop}(hh:A.handled=none)(hl:s.heap.IsList l items)
  (hQ:∀h' tk,(∀b o,s.heap.get? b=some o->h'.get? b=some o)->Q items.toList {s with heap:=h',toks:=tk}):wpAny (model prog w) A (unpackItems (.ref l) items.size none) Q E s:=by
 have hlt:l<s.heap.objs.size:=by obtain⟨_,e,_⟩:=hl;exact Heap.lt_size e
 have hT:s.TypeIs (.ref l) "list":=by obtain⟨o,e,c,_⟩:=hl;exact⟨o,e,c⟩
 unfold unpackItems notIterableAtAll
 refine wpAny_bind (wpAny_bind (wpAny_specialOf hT lst_iter ?_))
 rw[if_pos (show(some (Value.builtin "list.__iter__")).isSome=true from rfl)]
 refine wpAny_pure ?_
 dsimp only
 rw[if_neg Bool.false_ne_true]
 refine wpAny_bind (wpAny_holding (wpAny_pyIter_list hl ?_))
 have hne:l≠s.heap.objs.size:=Nat.ne_of_lt hlt
 have h1:(s.heap.push {cls:=.type "list_iterator",data:=.fields #[.ref l,.int 0 0]}).IsListIter s.heap.objs.size l 0:=⟨_,Heap.get?_push_size _ rfl,rfl,rfl⟩
 have h2:=hl.push {cls:=.type "list_iterator",data:=.fields #[.ref l,.int 0 0]}
 refine wpAny_bind (wpAny_holding (draw_list (items:=items) hh hne items.size 0 {s with heap:=s.heap.push {cls:=.type "list_iterator",data:=.fields #[.ref l,.int 0 0]}} (by omega) h1 h2 fun g tk hk hst=>?_))
 rw[List.drop_zero,List.take_of_length_le (by simp)]
 have hlg:g.IsList l items:=h2.at fun o e=>hk _ o hne e
 dsimp only
 rw[if_neg (by simp)]
 refine wpAny_bind (wpAny_holding ((Walks.list (A:=A) hh s.heap.objs.size l hne items).done {s with heap:=g,toks:=tk} _ _ ⟨by simpa using hst,hlg⟩ fun h' tk' hk'=>?_))
 rw[if_neg (by simp)]
 exact wpAny_pure (hQ h' tk' fun b o e=>hk' b o (by simp;exact Nat.ne_of_lt (Heap.lt_size e)) (hk b o (Nat.ne_of_lt (Heap.lt_size e)) (Heap.get?_push_of_some _ e)))
theorem assign_Tuple_list{env:Env}{elts:List Expr}{x1:Nat}{pos:Pos}{l:Addr}{items:Array Value}{Q:Unit->Shared->Prop}(hh:A.handled=none)(hl:s.heap.IsList l items)(hn:(assignEach elts env).length=items.size)(hst:(assignEach elts env).findIdx? (·.1)=none)
  (hQ:∀h' tk,(∀b o,s.heap.get? b=some o->h'.get? b=some o)->wpAny (model prog w) A (assignInOrder ((assignEach elts env).map (·.2)) items.toList) Q E {s with heap:=h',toks:=tk}) :
  wpAny (model prog w) A (assign (.Tuple elts x1 pos) env (.ref l)) Q E s:=by
 rw[arm_assign_Tuple]
 refine wpAny_bind (wpAny_standAt ?_)
 unfold unpack
 rw[hn,hst]
 exact wpAny_bind (wpAny_holding (unpack_list hh hl hQ))
end
def gLst(K:PySem.W.Frag)(n:Nat)(t:TGs):TG:=fun v σ H Q=>∃a xs,v=.ref a/\SqL K H a xs/\xs.length=n/\t xs σ H Q
theorem pg_lstK{pos:Pos}{es:List Expr}{k:Nat}{t:TGs}{n:Nat}(K:PySem.W.Frag)(hK:X.K=K)(hc:X.calm=true)(h:PGs X es t)
  (hn:(assignEach es X.env).length=n:=by rfl) (hst:(assignEach es X.env).findIdx? (·.1)=none:=by rfl):PG X (.Tuple es k pos) (gLst K n t):=by
 subst hK
 intro pins s σ H v u Q I r hw
 obtain⟨a,xs,e1,hq,hl,hw⟩:=hw
 subst e1
 cases r
 obtain⟨its,rv,ht,hz⟩:=I.list hq
 refine assign_Tuple_list (I.ok.hd hc) ht.isList (by simp[hn,←hl,rv.length]) hst fun h' tk hx=>?_
 have I1:Inv X pins σ H {s with heap:=h',toks:=tk}:=I.kept (t':=tk) hx
 exact h pins _ σ H xs _ Q I1 (by simpa using rv) hw
end
section
variable {prog:Program}{w:World}{A:Around}{E:Value->Shared->Prop}{h:Heap}{g:Array GenState}{d:Drawn}{t:Nat}{os:OsState}
variable {nm q:Str}{C N:Addr}{bs bm bmB:List Value}{hdct:Bool}{sn:List Str}{sub:List Value}{ab:Bool}{col:Option Bool}{dd:Option Addr}{k0 k1 k2 k3 k5:Option Value}{B newId initId:String}
theorem type_call_initT(F:ExcBaseFacts B newId initId bmB)(T:OwnTail h bmB bm){mN:Str->Option Value}{rest:List Value}{fI:Addr}{oI:Obj}{Q:Fin->Shared->Prop}
  (hC:h.get? C=some (excClassObj nm q C N bs bm hdct sn sub ab col dd k0 k1 k2 k3 k5 newId)) (hn:h.Ns N mN) (hi:mN "__init__"=some (.ref fI))
  (hfI:h.get? fI=some oI) (hfc:oI.cls=.type "function")
  (hq:∀h' e,Heap.MadeExcOf h h' e (.ref C) rest->h.objs.size<=e ->
   wpAny (model prog w) A (call (.ref fI) (.ref e::rest)) (fun r s'=>r=.none/\Q (.done (.ret (.ref e))) s') E ⟨h',g,d,t,os⟩) (hrest:rest.length<=sizeLine) :
  wpAny (model prog w) A (Builtin.«type.__call__» ⟨.ref C::rest,[]⟩) Q E ⟨h,g,d,t,os⟩:=by
 repeat (first|with_reducible refine wpAny_loadPart_at hC ?_|with_reducible refine wpAny_madeBy_exc hC ?_|wp_step)
 refine codeAny_call_builtin_code (Code.quiet_builtin _ F.quiet) (wpAny_check_new_subT F T hC ?_)
 refine codeAny_exc_new_subT F T hC ?_ hrest
 show wpAny _ _ _ _ _ _
 generalize ee:({cls:=.ref C,data:=.fields #[.ref h.objs.size,.none,.none,.none,.bool false,.none]}:Obj)=oe
 have kp:∀b o,h.get? b=some o->((h.push {cls:=.type "tuple",data:=.seq rest.toArray}).push oe).get? b=some o:=fun b o e=>Heap.get?_push_of_some _ (Heap.get?_push_of_some _ e)
 have hC₁:=kp _ _ hC
 have hfI₁:=kp _ _ hfI
 have hn₁:=hn.keeps kp
 have T₁:=T.keeps kp
 have hget:((h.push {cls:=.type "tuple",data:=.seq rest.toArray}).push oe).get? (h.objs.size+1)=some oe:=by
  subst ee
  heap_get
 have hoc:oe.cls=.ref C:=by rw[←ee]
 have hcC:(Value.ref C::bm).contains (.ref C)=true:=by simp
 unfold isInstance
 repeat (first|(with_reducible refine wpAny_loadPart_at hget ?_;rw[hoc])|(with_reducible refine wpAny_isSubtype_exc hC₁ ?_;rw[hcC])|wp_step)
 show wpAny _ _ (typeLookup (.ref C) _) _ _ _
 refine wpAny_typeLookup_tail hC₁ hn₁ T₁ F.mroIs F.init.lookup ?_
 rw[hi]
 refine wpAny_holding (wpAny_bind ?_)
 unfold bindSpecial
 refine wpAny_bind (wpAny_typeOf (T:="function") ⟨_,hfI₁,hfc⟩ ?_)
 rw[if_pos (by decide)]
 refine wpAny_pure (wpAny_bind (wpAny_mono (hq _ (h.objs.size+1) ⟨kp,Heap.get?_none_of_le (Nat.le_succ _),h.objs.size,by rw[hget,←ee],Heap.get?_none_of_le (Nat.le_refl _),?_⟩ (Nat.le_succ _)) (fun r s' hr=>?_) fun _ _ x=>x))
 ·exact Heap.get?_push_of_some _ (Heap.get?_push_at rfl rfl)
 ·obtain⟨rfl,hQ⟩:=hr
  wp_walk
  exact hQ
theorem call_initT(F:ExcBaseFacts B newId initId bmB)(T:OwnTail h bmB bm){mN:Str->Option Value}{rest:List Value}{fI:Addr}{oI:Obj}{Q:Value->Shared->Prop}
  (hC:h.get? C=some (excClassObj nm q C N bs bm hdct sn sub ab col dd k0 k1 k2 k3 k5 newId)) (hn:h.Ns N mN) (hi:mN "__init__"=some (.ref fI))
  (hfI:h.get? fI=some oI) (hfc:oI.cls=.type "function")
  (hq:∀h' e,Heap.MadeExcOf h h' e (.ref C) rest->h.objs.size<=e ->
   wpAny (model prog w) (A.under (.builtin "type.__call__" ⟨.ref C::rest,[]⟩)) (call (.ref fI) (.ref e::rest)) (fun r s'=>r=.none/\Q (.ref e) s') E ⟨h',g,d,t,os⟩) (hrest:rest.length<=sizeLine) :
  wpAny (model prog w) A (call (.ref C) rest) Q E ⟨h,g,d,t,os⟩:=by
 have f1:=tc_lookup
 have f2:=tc_bind (.ref C)
 have hT:(⟨h,g,d,t,os⟩:Shared).TypeIs (.ref C) "type":=⟨_,hC,rfl⟩
 refine wpAny_call (codeAny_of_tree ?_)
 show wpAny _ _ (callAny (.ref C) _) _ _ _
 repeat (any_goals (first|assumption|with_reducible refine wpAny_loadPart_at hC ?_|wp_step))
 refine⟨rfl,?_⟩
 exact codeAny_call_builtin_at (Code.quiet_builtin _ (by decide +kernel)) entry_typeCall (wpAny_check_type_call_sub hC (type_call_initT F T hC hn hi hfI hfc (fun h' e hm hz=>hq h' e hm hz) hrest))
end
end L2
namespace L2
open PySem PySem.Spec PyProof.Rows PySem.W
abbrev valueMro:List Value:=[.type "ValueError",.type "Exception",.type "BaseException",.type "object"]
def excOver:List Value->Bool
 |.ref _::r=>excOver r
 |l=>l == valueMro
theorem excOver_ref{c:Addr}{r:List Value}:excOver (.ref c::r)=excOver r:=rfl
theorem refuse_exc(self:Value):∀{l:List Value},excOver l=true->refuseLoop self "__setattr__" l=pure ()
 |.ref c::r,e=>by rw[refuseLoop_ref];exact refuse_exc self (by rw[excOver_ref]at e;exact e)
 | [],e=>by cases e
 |.type n::r,e=>by
  have e':(.type n::r:List Value)=valueMro:=by unfold excOver at e;exact beq_iff_eq.mp e
  rw[e']
  exact PySem.F.store_ValueError.passes self
 |.none::r,e=>by unfold excOver at e;cases e
 |.bool _::r,e=>by unfold excOver at e;cases e
 |.int _ _::r,e=>by unfold excOver at e;cases e
 |.str _ _::r,e=>by unfold excOver at e;cases e
 |.bytes _ _::r,e=>by unfold excOver at e;cases e
 |.float _ _::r,e=>by unfold excOver at e;cases e
 |.builtin _::r,e=>by unfold excOver at e;cases e
 |.ellipsis::r,e=>by unfold excOver at e;cases e
end L2
namespace L2
open PySem PySem.Spec PyProof.Rows PySem.W Builtin Builtin.ObjectAttr
section
variable {prog:Program}{w:World}{A:Around}{K:Frag}{C x:Addr}{s:Shared}{R:Result->Shared->Prop}
theorem excOver_has:∀{l:List Value},excOver l=true->l.contains (.type "object")=true/\l.isEmpty=false
 |.ref c::r,e=>by rw[excOver_ref]at e;rw[List.contains_cons,(excOver_has e).1,Bool.or_true];exact⟨rfl,rfl⟩
 | [],e=>by cases e
 |.type n::r,e=>by
  have e':(.type n::r:List Value)=valueMro:=by unfold excOver at e;exact beq_iff_eq.mp e
  rw[e'];exact⟨by decide,rfl⟩
 |.none::r,e=>by unfold excOver at e;cases e
 |.bool _::r,e=>by unfold excOver at e;cases e
 |.int _ _::r,e=>by unfold excOver at e;cases e
 |.str _ _::r,e=>by unfold excOver at e;cases e
 |.bytes _ _::r,e=>by unfold excOver at e;cases e
 |.float _ _::r,e=>by unfold excOver at e;cases e
 |.builtin _::r,e=>by unfold excOver at e;cases e
 |.ellipsis::r,e=>by unfold excOver at e;cases e
def errOver(K:Frag)(C:Addr):Bool:=(clsIn K C).any fun cd=>excOver cd.mro&&cd.hasDict
def oneField(w:World)(name:Str)(tk:Tok)(v:Value):Obj:=Obj.putName name (PyData.keyHash w.params name) (.str name tk) v {cls:=.type "dict",data:=.dict #[]}
theorem oneField_eq(w:World)(name:Str)(tk:Tok)(v:Value):∃n,(oneField w name tk v).data=.dict #[⟨PyData.keyHash w.params name,.str name tk,v⟩] n/\(oneField w name tk v).cls=.type "dict"/\(oneField w name tk v).dict=none:=by
 refine⟨1,?_,?_,?_⟩<;>rfl
theorem err_osa{ox:Obj}{name:Str}{tk:Tok}{v:Value}(X:K.In s.heap)(I:InstAt s.heap x ox C none)(hp:errOver K C=true)(ht:takerIn K C name=some none)
  (go:∀h',h'.get? x=some {ox with dict:=some s.heap.objs.size}->h'.get? s.heap.objs.size=some (oneField w name s.toks v)->(∀b o,b≠x->s.heap.get? b=some o->h'.get? b=some o) ->
   s.heap.objs.size<h'.objs.size->R (.ok (.ret .none)) {s with heap:=h',toks:=s.toks+1}) :
  codeAny (model prog w) A (.call (.builtin "object.__setattr__") ⟨[.ref x,.str name tk,v],[]⟩) R s:=by
 obtain⟨hh,g,d,t,os⟩:=s
 dsimp only at X I go
 have B:=PySem.F.store_object
 obtain⟨cd,hc,ho'⟩:=any_some hp
 obtain⟨ho,hdc⟩:=Bool.and_eq_true_iff.mp ho'
 have hasO:=excOver_has ho
 have isO:Looks (model prog w) hh (isInstance (.ref x) (.type "object")) true :=
  I.type.andThen (looks_mroIn X (by unfold mroIn;rw[hc,Option.bind_some,if_neg (by rw[hasO.2];decide),hasO.1]))
 have chk:=@check_slot (model prog w) A.in1 (fun e s'=>R (.error e) s') ⟨hh,g,d,t,os⟩ "object.__setattr__" "object" "__setattr__" (.ref x) [.str name tk,v] []
 refine codeAny_call_builtin B.slot.plain B.entry (chk B.kind B.split isO (B.args (.ref x) (.str name tk) v) ?_)
 clear chk
 obtain⟨attr,ha,hr⟩:=Option.bind_eq_some_iff.mp ht
 have hm:Looks (model prog w) hh (mroOf (.ref C)) cd.mro:=(looks_clsIn X hc).andThen .now
 have tk0:Looks (model prog w) hh (storeTaker? attr) none:=by
  match attr,hr with
  |none,_=>exact .now
  |some a,hr =>
   obtain⟨b,hb,e⟩:=Option.map_eq_some_iff.mp hr
   refine(looks_takesIn X hb).andThen ?_
   cases b
   ·exact .now
   ·cases e
 rw[osa_eq,refuse_eq]
 refine wpAny_bind (wpAny_bind (I.type.here (wpAny_bind (hm.here ?_))))
 rw[refuse_exc _ ho]
 refine wpAny_pure (wpAny_bind (I.type.here (wpAny_bind ((looks_findIn X ha).here (wpAny_bind (tk0.here ?_))))))
 obtain⟨hx,hcl,hn,hdd⟩:=I
 obtain⟨oc,odi,oda,osl⟩:=ox
 dsimp only at hcl hdd
 subst hcl
 cases odi with
 |some _=>exact hdd.elim
 |none =>
 refine wpAny_bind (wpAny_pure (wpAny_bind (wpAny_bind (wpAny_loadPart hx (wpAny_bind ((looks_clsIn X hc).here ?_))))))
 rw[hdc]
 have nc:∀c,oda≠.cls c:=by intro c e;rw[e]at hn;cases hn
 generalize eD:({cls:=.type "dict",data:=.dict #[]}:Obj)=oD
 have x1:=Heap.get?_push_of_some oD hx
 have xs:x≠hh.objs.size:=Nat.ne_of_lt (Heap.lt_size hx)
 have fin:wpAny (model prog w) A.in1 (alloc oD>>=fun dx=>(update x fun o=>{o with dict:=some dx})>>=fun _=>pure (some dx)) (fun od s₁ =>
   wpAny (model prog w) A.in1 (match od with|some d=>storeInDict d (.str name tk) name v|none=>noDictFor (.ref x) (.ref C) name attr.isSome)
    (fun fin s'=>match fin with|.done f=>R (.ok f) s'|.again c'=>c'.quiet=true/\codeAny (model prog w) A c' R s') (fun e s'=>R (.error e) s') s₁) (fun e s'=>R (.error e) s') ⟨hh,g,d,t,os⟩:=by
  refine wpAny_bind (wpAny_alloc' ?_)
  refine wpAny_bind (wpAny_update' x1 ?_)
  refine wpAny_pure ?_
  have hgd:((hh.push oD).update x fun o=>{o with dict:=some hh.objs.size}).get? hh.objs.size=some oD :=
   (Heap.get?_update_ne _ _ _ _ xs.symm).trans (Heap.get?_push_at rfl (by rw[←eD];rfl))
  show wpAny _ _ (storeInDict hh.objs.size (.str name tk) name v) _ _ _
  refine wpAny_bind (wpAny_pure (wpAny_bind ?_))
  unfold nsSet
  refine wpAny_bind (wpAny_bind (wpAny_askSetting (wpAny_pure (wpAny_bind (wpAny_mkText (wpAny_bind (wpAny_loadPart hgd ?_)))))))
  rw[←eD]at hgd⊢
  dsimp only
  rw[aRefKeyMayBeTheName_at]
  rw[if_neg (by simp)]
  refine wpAny_updatePart' hgd ?_
  generalize eU:((hh.push {cls:=.type "dict",data:=.dict #[]}).update x fun o=>{o with dict:=some hh.objs.size})=h2
  rw[eU]at hgd
  have hf:(oneField w name t v).isFreed=false:=rfl
  have g1:(h2.update hh.objs.size (Obj.putName name (PyData.keyHash w.params name) (.str name t) v)).get? hh.objs.size=some (oneField w name t v):=Heap.get?_update_self _ hgd hf
  obtain⟨n,q1,-,-⟩:=oneField_eq w name t v
  refine wpAny_bind (wpAny_lookBehind g1 (by rw[q1];exact pastItsLine_dict (by rw[sizeLine_eq];exact Nat.le_add_left 1 _)) ?_)
  refine wpAny_pure (go _ ?_ g1 ?_ ?_)
  ·refine(Heap.get?_update_ne _ _ _ _ xs).trans ?_
   rw[←eU,eD]
   refine Heap.get?_update_self _ x1 ?_
   have hfr:=(Heap.get?_some_iff.mp hx).2
   cases oda<;>first|rfl|exact hfr
  ·intro b o hb e
   refine(Heap.get?_update_ne _ _ _ _ (Nat.ne_of_lt (Heap.lt_size e))).trans ?_
   rw[←eU,eD]
   exact(Heap.get?_update_ne _ _ _ _ hb).trans (Heap.get?_push_of_some _ e)
  ·exact Heap.lt_size g1
 cases oda with
 |cls c=>exact absurd rfl (nc c)
 |_=>exact fin
theorem err_set{E:Value->Shared->Prop}{ox:Obj}{name:Str}{v:Value}{Q:Unit->Shared->Prop}(X:K.In s.heap)(I:InstAt s.heap x ox C none)(hp:errOver K C=true)(ht:takerIn K C name=some none)
  (hs:findIn K (.ref C) "__setattr__"=some (some (.builtin "object.__setattr__")))
  (go:∀h',h'.get? x=some {ox with dict:=some s.heap.objs.size}->h'.get? s.heap.objs.size=some (oneField w name (s.toks+1) v)->(∀b o,b≠x->s.heap.get? b=some o->h'.get? b=some o) ->
   s.heap.objs.size<h'.objs.size->Q () {s with heap:=h',toks:=s.toks+1+1}) :
  wpAny (model prog w) A (setAttr (.ref x) name v) Q E s :=
 set_plain X I hs (err_osa (s:={s with toks:=s.toks+1}) X I hp ht go)
end
end L2
namespace L2
open PySem PySem.Spec PyProof.Rows PySem.W
def errObj(C ta:Addr)(od:Option Addr):Obj:={cls:=.ref C,dict:=od,data:=.fields #[.ref ta,.none,.none,.none,.bool false,.none]}
def errPhi(x C:Addr)(od:Option Addr):Heap->Prop:=fun h=>∃ta,h.get? x=some (errObj C ta od)
theorem err_ok{P:Program}{w:World}{H:Hp}{h:Heap}{x C:Addr}{od:Option Addr}(e:errPhi x C od h):ObjOk P w H h x (.ext (errPhi x C od)) :=
 ⟨e,e.elim fun _ q=>⟨_,q⟩,fun _ _ ⟨ta,q⟩ k=>⟨ta,k _ q⟩⟩
structure ErrK(K:Frag) (C f:Addr):Prop where
 cls:∀h,K.In h->∃nm q N bs bm hdct sn sub ab col dd k0 k1 k2 k3 k5 mN oI,h.get? C=some (excClassObj nm q C N bs bm hdct sn sub ab col dd k0 k1 k2 k3 k5 "ValueError.__new__") /\
  h.Ns N mN/\mN "__init__"=some (.ref f)/\OwnTail h valueMro bm/\h.get? f=some oI/\oI.cls=.type "function"
 kp:keepIn K (.ref C)=true
structure ErrF(K:Frag) (C:Addr) (n:Str):Prop where
 over:errOver K C=true
 sa:findIn K (.ref C) "__setattr__"=some (some (.builtin "object.__setattr__"))
 no:takerIn K C n=some none
def sErr(K:Frag)(ta tv:TE)(f:Str):TS:=fun D σ H=>tv σ H fun y H1=>ta σ H1 fun x H2=>∃a C,x=.ref a/\H2 a=some (.ext (errPhi a C none))/\ErrF K C f /\
 ∀dx,H2 dx=none->dx≠a->D.nx σ (upd (upd H2 dx (.xd [(f,y)])) a (.ext (errPhi a C (some dx))))
section
variable {X:Cx}{CX:CXT}{k:Nat}{f C:Addr}{fd:FuncData}{ps:List Str}{sp:Sp}{dvs:List V}{ds:List Value}{E:XK}{x m:Str}{p pos apos:Pos}{e o:Expr}{es:List Expr}{ta:TE}{t:TA}
theorem one_ns{w:World}{n:Str}{tk:Tok}{v:Value}{h:Heap}{dx:Addr}(e:h.get? dx=some (oneField w n tk v)):h.Ns1 dx fun y=>if y=n then some v else none:=by
 obtain⟨c,q1,-,-⟩:=oneField_eq w n tk v
 refine⟨_,_,c,e,q1,?_,?_,?_⟩
 ·intro a ha
  have z:a=⟨PyData.keyHash w.params n,.str n tk,v⟩:=by simpa using ha
  rw[z]
  exact⟨n,tk,rfl⟩
 ·exact List.pairwise_singleton _ _
 ·intro y
  show _=if y=n then some v else none
  by_cases q:y=n
  ·subst q;rw[if_pos rfl];simp[nsFind,findBy,Value.isStr]
  ·rw[if_neg q]
   have q':(n == y)=false:=beq_false_of_ne fun z=>q z.symm
   simp[nsFind,findBy,Value.isStr,q']
theorem errset_ok{A:Around}{E:Value->Shared->Prop}{a:Addr}{n:Str}{y:V}{u:Value}{pins:List (Addr×Obj)}{σ:St}{H:Hp}{s:Shared}{Q:Unit->Shared->Prop}(I:Inv X pins σ H s)(e:H a=some (.ext (errPhi a C none)))(c:ErrF X.K C n)(ry:RelV y u)
  (go:∀dx s',H dx=none->dx≠a->Inv X pins σ (upd (upd H dx (.xd [(n,y)])) a (.ext (errPhi a C (some dx)))) s'->Q () s'):wpAny (model X.prog X.w) A (setAttr (.ref a) n u) Q E s:=by
 obtain⟨⟨ta,ea⟩,-,-⟩:=I.hok a _ e
 refine err_set (ox:=errObj C ta none) I.kIn ⟨ea,rfl,rfl,trivial⟩ c.over c.no c.sa fun h' hx hd hk hz=>go s.heap.objs.size _ (I.hok.fresh (Nat.le_refl _)) (Nat.ne_of_gt (Heap.lt_size ea)) ?_
 have fr:=Heap.get?_push_size s.heap (o:=oneField X.w n (s.toks+1) u) rfl
 have I1:=I.laid (a:=s.heap.objs.size) (o:=.xd [(n,y)]) (t':=s.toks) (h':=s.heap.push (oneField X.w n (s.toks+1) u)) (fun b o q=>Heap.get?_push_of_some _ q) (Nat.le_refl _) ⟨_,one_ns fr,fun z=>by
  by_cases q:z=n
  ·subst q;rw[if_pos rfl,List.lookup_cons,beq_self_eq_true];exact ry
  ·rw[if_neg q,List.lookup_cons,beq_false_of_ne q];exact True.intro⟩
 have na:a≠s.heap.objs.size:=Nat.ne_of_lt (Heap.lt_size ea)
 refine I1.write (x:=a) (e:=a) (t':=s.toks+1+1) (by rw[upd_ne na,e];exact True.intro) (.inl rfl) (fun b o hb q=>?_) ⟨_,hx⟩ (err_ok ⟨ta,hx⟩)
 rcases Heap.get?_push_cases q with⟨rfl,rfl⟩|q
 ·exact hd
 ·exact hk b o hb q
theorem ps_err{o value:Expr}{n:Str}{pos pos':Pos}{tv:TE}(ha:PE X o ta)(hv:PE X value tv)(hs:swapsWith value (some (.Attribute o n pos')) pos.line X.env=pure false:=by rfl):PS X (.Assign [.Attribute o n pos'] value pos) (sErr X.K ta tv n):=by
 intro pins s σ H D I h
 refine plainObj_wpAny_Assign_Attribute (thn (hv pins s σ H _ I h) fun u s1 ⟨y,H1,I1,ry,q⟩=>thn (ha pins s1 σ H1 _ I1 q) fun ov s2 ⟨x,H2,I2,rx,a,C,ex,ea,c,q2⟩=>?_) hs
 subst ex
 obtain rfl:ov=Value.ref a:=rx
 exact errset_ok I2 ea c ry fun dx s3 hn hne I3=>⟨σ,_,I3,q2 dx hn hne⟩
end
end L2
namespace L2
open PySem PySem.Spec PyProof.Rows PySem.W Builtin Builtin.ObjectAttr
section
variable {prog:Program}{w:World}{A:Around}{E:Value->Shared->Prop}{s:Shared}{K:Frag}{x C:Addr}{ox:Obj}{od:Option Obj}{name:Str}{expr fill:Bool}{Q:Value->Shared->Prop}
structure BexG(K:Frag) (C:Addr):Prop where
 ga:findIn K (.ref C) "__getattribute__"=some (some (.builtin "BaseException.__getattribute__"))
 gn:findIn K (.ref C) "__getattr__"=some none
 mro:mroIn K C (.type "BaseException")=some true
theorem bex_check{M:Model}{nameV:Value}{Q:Unit->Shared->Prop}(X:K.In s.heap)(I:InstAt s.heap x ox C od)(G:BexG K C)(hq:Q () s):wpAny M A (checkBuiltinCall "BaseException.__getattribute__" ⟨[.ref x,nameV],[]⟩) Q E s:=by
 have hk:builtinKind "BaseException.__getattribute__"=some .slot:=by decide +kernel
 have hsplit:splitId "BaseException.__getattribute__"=some ("BaseException","__getattribute__"):=by decide +kernel
 have isB:Looks M s.heap (isInstance (.ref x) (.type "BaseException")) true:=I.type.andThen (looks_mroIn X G.mro)
 have ha:=PySem.F.args_bexc_ga (.ref x) nameV
 have chk:=@check_slot M A E s "BaseException.__getattribute__" "BaseException" "__getattribute__" (.ref x) [nameV] [] Q
 exact chk hk hsplit isB ha hq
theorem bex_by{tk:Tok}(X:K.In s.heap)(I:InstAt s.heap x ox C od)(G:BexG K C)
  (h:wpAny (model prog w) A.in1 (Builtin.«object.__getattribute__» ⟨[.ref x,.str name tk],[]⟩) (fun fin s'=>match fin with
   |.done (.ret v)=>wpAny (model prog w) A (handedOut v) Q E s'
   |.again c=>c.quiet=true/\codeAny (model prog w) A c (fun r s''=>match r with|.ok (.ret v)=>wpAny (model prog w) A (handedOut v) Q E s''|_=>False) s'
   |_=>False) (fun _ _=>False) s):wpAny (model prog w) A (getAttrBy (.ref x) (.str name tk) fill expr) Q E s:=by
 have L0:=I.type (M:=model prog w)
 have L1:=looks_findIn (M:=model prog w) X G.ga
 have L2:=looks_findIn (M:=model prog w) X G.gn
 have f3:=PySem.F.attr_ValueError.ga.bind (.ref x)
 have hx0:(expr&&onTheHeap (Value.builtin "BaseException.__getattribute__"))=false:=by cases expr<;>rfl
 have hx2:(Value.builtin "BaseException.__getattribute__" == Value.builtin "object.__getattribute__")=false:=by decide +kernel
 obtain⟨hh,g,d,t,os⟩:=s
 unfold getAttrBy
 refine wpAny_holding (wpAny_bind (L0.at (wpAny_bind (L1.at ?_))))
 dsimp only
 rw[hx2,Bool.and_false,if_neg (by decide)]
 unfold getAttrByItsOwn hookBefore
 refine wpAny_bind ?_
 rw[show onTheHeap (Value.ref C)=true from rfl,if_pos rfl]
 refine L2.at (wpAny_bind (wpAny_attempt (wpAny_holding ?_)))
 unfold callGetattribute
 rw[hx0,if_neg (by decide)]
 unfold boundAndCalled
 refine wpAny_bind (wpAny_of_eq f3 ?_)
 refine wpAny_call (codeAny_call_builtin PySem.F.attr_ValueError.ga.plain PySem.F.entry_bexc_ga (bex_check X I G ?_))
 refine wpAny_mono h (fun fin s' z=>?_) fun _ _ z=>z.elim
 rcases fin with(_|_|_|_)|c
 case again=>
  refine⟨z.1,codeAny_mono z.2 fun r s'' q=>?_⟩
  rcases r with e|(_|_|_|_)<;>first|exact q|exact q.elim
 all_goals first|exact z|exact z.elim
theorem bex_value{v:Value}(X:K.In s.heap)(I:InstAt s.heap x ox C od)(G:BexG K C)(hf:findObj K C od name=some (.value v))(hh:handedIn v=true)(h:Q v {s with toks:=s.toks+1}) :
  wpAny (model prog w) A (getAttr (.ref x) name expr) Q E s:=by
 unfold getAttr
 refine wpAny_bind (wpAny_mkText ?_)
 refine bex_by (s:={s with toks:=s.toks+1}) X I G ?_
 obtain⟨hh',g,d,t,os⟩:=s
 have L0:=I.type (M:=model prog w)
 have L1:=looks_find (M:=model prog w) X I hf
 refine wpAny_bind (wpAny_pure (wpAny_bind (wpAny_pure (wpAny_bind (L0.at (wpAny_bind (L1.at ?_)))))))
 refine wpAny_pure ?_
 show wpAny _ _ (handedOut v) _ _ _
 rw[handedOut_of hh];exact wpAny_pure h
theorem bex_class{Q:Option Value->Shared->Prop}(X:K.In s.heap)(I:InstAt s.heap x ox C od)(G:BexG K C)(hf:findObj K C od "__class__"=some (.bind (.builtin "getset_descriptor.__get__") (.builtin "object.__class__")))(hm:mroIn K C (.type "object")=some true)
  (h:Q (some (.ref C)) {s with toks:=s.toks+1}):wpAny (model prog w) A (getAttr? (.ref x) "__class__") Q E s:=by
 unfold getAttr? getAttrBy?
 refine wpAny_bind (wpAny_mkText (wpAny_bind (wpAny_attempt ?_)))
 refine bex_by (s:={s with toks:=s.toks+1}) X I G ?_
 obtain⟨hh',g,d,t,os⟩:=s
 have I':InstAt (⟨hh',g,d,t+1,os⟩:Shared).heap x ox C od:=I
 have L0:=I.type (M:=model prog w)
 have L1:=looks_find (M:=model prog w) X I hf
 refine wpAny_bind (wpAny_pure (wpAny_bind (wpAny_pure (wpAny_bind (L0.at (wpAny_bind (L1.at ?_)))))))
 show wpAny _ _ (holding [_] (call (.builtin "getset_descriptor.__get__") [.builtin "object.__class__",.ref x,.ref C])>>=ret) _ _ _
 refine wpAny_bind (wpAny_holding (wpAny_call (class_get (s:=⟨hh',g,d,t+1,os⟩) X I' hm ?_)))
 refine wpAny_pure ?_
 refine handed_on rfl ?_
 exact wpAny_pure h
end
end L2
namespace L2
open PySem PySem.Spec PyProof.Rows PySem.W PySem.Calls
structure ErrG(K:Frag) (C:Addr):Prop where
 hg:BexG K C
 hd:hasDictIn K C=true
 ha:findIn K (.ref C) "__class__"=some (some (.builtin "object.__class__"))
 hn:specialIn K (.builtin "object.__class__") "__get__"=some (some (.builtin "getset_descriptor.__get__"))
 tk:takesIn K (.builtin "object.__class__")=some true
 hm:mroIn K C (.type "object")=some true
def ErrIn(x C:Addr)(h:Heap):Prop:=∃ox od,InstAt h x ox C od
theorem err_kit{K:Frag}{x C:Addr}(G:ErrG K C):KitX K (.ref x) (.ref C) (ErrIn x C) where
 ty:=fun _ _ _ ⟨_,_,I⟩=>I.type
 it:=fun _ _ X _=>by
  obtain⟨cd,hc,-⟩:=any_some G.hd
  unfold clsIn at hc
  split at hc
  ·rename_i c' d' cd' sl' ho
   intro A' Q' E' s' k q
   unfold isType loadHead
   exact wpAny_bind (wpAny_loadPart (k _ _ (X _ _ ho)) (wpAny_pure q))
  ·cases hc
 ne:=fun h tp dd its n sl X htp=>by
  obtain⟨cd,hc,-⟩:=any_some G.hd
  refine Bool.eq_false_iff.mpr fun q=>?_
  obtain rfl:C=tp:=Value.ref.inj (beq_iff_eq.mp q)
  unfold clsIn at hc
  split at hc
  ·rename_i c' d' cd' sl' ho
   cases(X _ _ ho).symm.trans htp
  ·cases hc
 ca:=fun{prog w A E Q s} X ⟨ox,od,I⟩ go=>by
  have hf:findObj K C od "__class__"=some (.bind (.builtin "getset_descriptor.__get__") (.builtin "object.__class__")):=by
   obtain⟨cd,hc,-⟩:=any_some G.hd
   unfold findObj
   rw[hc,Option.bind_some,G.ha,Option.bind_some]
   dsimp only
   rw[G.hn,Option.bind_some]
   dsimp only
   rw[G.tk,Option.bind_some]
  exact bex_class X I G.hg hf G.hm go
section
variable {X:Cx}
theorem vals_clss:∀{ds:List Addr}{us:List Value},Vals (ds.map V.ref) us->us=ds.map Value.ref
 | [],us,r=>by cases r;rfl
 |d::ds,us,r=>by
  cases r with
  |cons a b =>
   have z:=vals_clss b
   subst z
   exact congrArg (·::_) a
structure ErrR(K:Frag) (C:Addr) (n:Str):Prop where
 hg:BexG K C
 hd:hasDictIn K C=true
 no:∃attr,findIn K (.ref C) n=some attr/\noGet K attr=true
end
end L2
namespace L2
open PySem PySem.Spec PyProof.Rows
theorem dict_mapF(o:Obj)(g):(o.mapFields g).dict=o.dict:=by
 obtain⟨c,d,dt,sl⟩:=o
 cases dt<;>rfl
structure Fl(H:Hp) (h:Heap) (n:Nat) (x C:Addr) (od:Option Addr) (fl:Value):Prop where
 ob:∃oe vs,h.get? x=some oe/\oe.cls=.ref C/\oe.dict=od/\oe.data=.fields vs/\1<vs.size /\
  ((vs[1]?=some .none/\fl=.none)\/∃T oT ts,vs[1]?=some (.ref T)/\T≠x/\n<=T/\H T=none/\h.get? T=some oT/\oT.data=.fields ts/\ts[3]?=some fl)
 nx:n<=x
 hx:H x=none
structure Rest(fs ch:List Addr) (h h':Heap):Prop where
 keep:∀b o,b∉ch->b∉fs->h.get? b=some o->h'.get? b=some o
 slot:∀b o,b∉ch->h.get? b=some o->∃sl,h'.get? b=some {o with slots:=sl}
 sz:h.objs.size<=h'.objs.size
theorem Rest.trans{fs ch:List Addr}{h h1 h2:Heap}(a:Rest fs ch h h1)(b:Rest fs ch h1 h2):Rest fs ch h h2 :=
 ⟨fun c o n1 n2 e=>b.keep c o n1 n2 (a.keep c o n1 n2 e),fun c o n1 e=>by
  obtain⟨s1,e1⟩:=a.slot c o n1 e
  obtain⟨s2,e2⟩:=b.slot c _ n1 e1
  exact⟨s2,e2⟩,Nat.le_trans a.sz b.sz⟩
theorem Rest.more{fs ch ch':List Addr}{h h1:Heap}(a:Rest fs ch h h1)(k:∀b∈ch,b∈ch'):Rest fs ch' h h1 :=
 ⟨fun c o n1 n2 e=>a.keep c o (fun z=>n1 (k c z)) n2 e,fun c o n1 e=>a.slot c o (fun z=>n1 (k c z)) e,a.sz⟩
theorem rest_set{fs:List Addr}{h:Heap}{a:Addr}{g:Obj->Obj}:Rest fs [a] h (h.update a g):=by
 have k:∀b o,b∉([a]:List Addr)->h.get? b=some o->(h.update a g).get? b=some o:=fun b o n e=>by
  rw[Heap.get?_update_other _ _ (fun z=>n (by rw[z];exact List.mem_singleton.mpr rfl))]
  exact e
 refine⟨fun b o n _ e=>k b o n e,fun b o n e=>⟨o.slots,k b o n e⟩,?_⟩
 rw[Heap.size_update]
 exact Nat.le_refl _
section
variable {M:Model}{A:Around}{E:Value->Shared->Prop}{s:Shared}
theorem entry_new{base:Heap}{env:Env}{outer:List Env}{L x:Addr}{oe:Obj}{vs:Array Value}{head:Value}{had:Bool}{Q:Unit->Shared->Prop}
  (hfr:A.frames=some (env::outer)) (hl:s.heap.FunFrames base (env::outer)) (hf:env.frame=some L) (hxf:x∉frs (env::outer))
  (he:s.heap.get? x=some oe) (hd:oe.data=.fields vs) (hsz:1<vs.size)
  (go:∀(h':Heap) (T:Addr) (oe' oT:Obj) (ts:Array Value),Rest (frs (env::outer)) [x] s.heap h'->s.heap.objs.size<=T->h'.get? x=some oe'->oe'.cls=oe.cls->oe'.dict=oe.dict->oe'.data=.fields (vs.setIfInBounds 1 (.ref T)) ->
   h'.get? T=some oT->oT.data=.fields ts->ts[3]?=some (rawInt L)->Q () {s with heap:=h'}) :
  wpAny M A (do let a ←frameOf env;let pl ←entryPlaceOf L had;let b ←EntryCells.newEntry head a .none (rawInt L) .none pl;setField (.ref x) 1 b) Q E s:=by
 refine wpAny_bind (wpAny_frameOf_fun hfr hl hf fun k1 c1=>?_)
 refine wpAny_bind (wpAny_entryPlaceOf fun pl hpl=>?_)
 unfold EntryCells.newEntry newFields
 refine wpAny_bind (wpAny_newObj_type ?_ (hpl.sizeOk5 _ _ _ _ _))
 generalize hO:({cls:=.type "traceback",dict:=none,data:=.fields ([head,.ref L,.none,rawInt L,.none]++(if pl.isEmpty then List.replicate 6 Value.none else pl)).toArray}:Obj)=oT
 have hT3:∃ts,oT.data=.fields ts/\ts[3]?=some (rawInt L):=by
  subst hO
  exact⟨_,rfl,by simp⟩
 have hTn:oT.isFreed=false:=by subst hO;rfl
 obtain⟨ts,hdT,ht3⟩:=hT3
 have ex1:k1.get? x=some oe:=(c1.2.1 x hxf).trans he
 have ex2:(k1.push oT).get? x=some oe:=Heap.get?_push_of_some oT ex1
 refine wpAny_setField ex2 hd hsz ?_
 have hxT:k1.objs.size≠x:=Nat.ne_of_gt (Heap.lt_size ex1)
 have d3:=Obj.data_mapFields hd (·.setIfInBounds 1 (Value.ref k1.objs.size))
 have e3:=Heap.get?_update_self (Obj.mapFields (·.setIfInBounds 1 (Value.ref k1.objs.size))) ex2 (Obj.isFreed_of_fields d3)
 have eT:((k1.push oT).update x (Obj.mapFields (·.setIfInBounds 1 (Value.ref k1.objs.size)))).get? k1.objs.size=some oT:=by
  rw[Heap.get?_update_other _ _ (Ne.symm hxT)]
  exact Heap.get?_push_size k1 hTn
 have r1:Rest (frs (env::outer)) [x] s.heap (k1.push oT):=by
  refine⟨fun b o _ nb e=>Heap.get?_push_of_some oT ((c1.2.1 b nb).trans e),fun b o _ e=>?_,?_⟩
  ·obtain⟨sl,q⟩:=c1.2.2 b o e
   exact⟨sl,Heap.get?_push_of_some oT q⟩
  ·rw[Heap.size_push,c1.1]
   exact Nat.le_succ _
 exact go _ _ _ _ ts (r1.trans rest_set) (Nat.le_of_eq c1.1.symm) e3 (Obj.cls_mapFields _ _) (dict_mapF _ _) d3 eT hdT ht3
end
section
variable {X:Cx}{pins:List (Addr×Obj)}{σ:St}{H:Hp}{s:Shared}
theorem Inv.rest{ch:List Addr}{h':Heap}(I:Inv X pins σ H s)(r:Rest (frs X.stack) ch s.heap h')(hc:∀b∈ch,H b=none/\X.s₀.heap.objs.size<=b/\b≠X.env.locals/\(∀x c,X.env.cells.lookup x=some c->c≠b)/\∀p∈X.pn++pins,p.1≠b):Inv X pins σ H {s with heap:=h'}:=by
 have tr:∀b u,H b=some u->b∉ch/\b∉frs X.stack:=fun b u e=>⟨fun z=>by(rw[(hc b z).1]at e;cases e),fun z=>by(rw[I.stkFree b z]at e;cases e)⟩
 have u:Un (frs X.stack) ch H H s.heap h':={
  keep:=fun b o e _ nf nc=>r.keep b o nc nf e
  slot:=fun b o e _ _ nc=>r.slot b o nc e
  free:=fun _ _ _ n _=>n
  there:=fun b o e nc=>(r.slot b o nc e).elim fun _ q=>⟨_,q⟩
  tups:=fun _ _ e=>e
  frzs:=fun _ _ _ e=>e
  tbls:=fun _ ps e=>⟨#[],by rw[e];simp⟩}
 have hok:HOk X.prog X.w H h':=fun b u e=>by
  refine(I.hok b u e).stay (fun c v hv q=>?_) (fun _ q=>q) fun _ _ q=>q
  rcases hv with z|z
  ·rw[z]at q⊢
   exact r.keep _ _ (tr b u e).1 (tr b u e).2 q
  ·exact r.keep _ _ (tr c _ z).1 (tr c _ z).2 q
 exact I.call (g':=s.gens) (t':=s.toks) (d':=s.drawn) (ch:=ch) u hok I.bare fun b hb=>⟨.inr (hc b hb).2.1,(hc b hb).2.2.1,(hc b hb).2.2.2.1,(hc b hb).2.2.2.2⟩
theorem Inv.fld_ne(I:Inv X pins σ H s){a:Addr}{o:Obj}{vs:Array Value}(e:s.heap.get? a=some o)(d:o.data=.fields vs):a≠X.env.locals/\(∀x c,X.env.cells.lookup x=some c->c≠a)/\a∉frs X.stack:=by
 refine⟨fun z=>?_,fun x c hc z=>?_,fun z=>?_⟩
 ·obtain⟨m,⟨o',es,ep,ho,hd,_⟩,_⟩:=I.loc
  rw[←z,e]at ho
  cases ho
  rw[d]at hd
  cases hd
 ·obtain⟨v,o',ho,hd⟩:=I.cell x c hc
  rw[z,e]at ho
  cases ho
  rw[d]at hd
  cases hd
 ·obtain⟨_,o',ho,hn⟩:=I.stack.mem z
  rw[e]at ho
  cases ho
  exact hn vs d
theorem fl_note{x C:Addr}{od:Option Addr}{fl:Value}{E:Value->Shared->Prop}{Q:Unit->Shared->Prop}(I:Inv X [] σ H s)(hpn:X.pn=[])(hst:X.stack=X.env::X.outer)(hf:X.env.frame=some X.env.locals)(F:Fl H s.heap X.s₀.heap.objs.size x C od fl)
  (go:∀s',s'.os=s.os->Inv X [] σ H s'->Fl H s'.heap X.s₀.heap.objs.size x C od (rawInt X.env.locals)->Q () s'):wpAny (model X.prog X.w) X.A (noteFrame (.ref x) X.env) Q E s:=by
 obtain⟨⟨oe,vs,he,hcl,hdi,hd,hsz,hh⟩,nx,hx⟩:=F
 have hfr:X.A.frames=some (X.env::X.outer):=by rw[←hst];exact I.ok.frames
 have hpx:∀(a:Addr),∀p∈X.pn++[],p.1≠a:=fun a p hp=>by rw[hpn]at hp;cases hp
 obtain⟨n1,n2,n3⟩:=I.fld_ne he hd
 have chx:∀b∈[x],H b=none/\X.s₀.heap.objs.size<=b/\b≠X.env.locals/\(∀y c,X.env.cells.lookup y=some c->c≠b)/\∀p∈X.pn++[],p.1≠b:=fun b hb=>by
  rw[List.mem_singleton.mp hb]
  exact⟨hx,nx,n1,n2,hpx x⟩
 have fin:∀(s1:Shared),s1.os=s.os->Inv X [] σ H s1->∀(h':Heap) (T:Addr) (oe' oT:Obj) (ts:Array Value),Rest (frs (X.env::X.outer)) [x] s1.heap h'->s1.heap.objs.size<=T->h'.get? x=some oe'->oe'.cls=oe.cls->oe'.dict=oe.dict->oe'.data=.fields (vs.setIfInBounds 1 (.ref T)) ->
   s1.heap.get? x=some oe->h'.get? T=some oT->oT.data=.fields ts->ts[3]?=some (rawInt X.env.locals)->Q () {s1 with heap:=h'}:=fun s1 ho1 I1 h' T oe' oT ts r hT e1 e2 e3 e4 ex e5 e6 e7=>by
  rw[←hst]at r
  refine go _ ho1 (I1.rest r chx) ⟨⟨oe',_,e1,e2.trans hcl,e3.trans hdi,e4,?_,.inr ⟨T,oT,ts,?_,?_,?_,I1.hok.fresh hT,e5,e6,e7⟩⟩,nx,hx⟩
  ·rw[Array.size_setIfInBounds];exact hsz
  ·rw[Array.getElem?_setIfInBounds_self_of_lt hsz]
  ·exact Nat.ne_of_gt (Nat.lt_of_lt_of_le (Heap.lt_size ex) hT)
  ·exact Nat.le_trans I1.sz hT
 unfold noteFrame
 simp only[hf]
 rcases hh with⟨h1,rfl⟩|⟨T,oT,ts,h1,hTx,hTn,hTH,hT,hdT,h3⟩
 ·refine wpAny_bind (wpAny_field he hd h1 ?_)
  rw[if_neg (by decide)]
  exact entry_new hfr (by rw[←hst];exact I.stack) hf (by rw[←hst];exact n3) he hd hsz fun h' T oe' oT ts r a1 a2 a3 a4 a5 a6 a7 a8=>fin s rfl I h' T oe' oT ts r a1 a2 a3 a4 a5 he a6 a7 a8
 ·refine wpAny_bind (wpAny_field he hd h1 ?_)
  rw[if_pos (show(Value.ref T != Value.none)=true from by simp)]
  refine wpAny_bind (wpAny_field hT hdT h3 ?_)
  obtain⟨t1,t2,t3⟩:=I.fld_ne hT hdT
  by_cases c:(fl == rawInt X.env.locals)=true
  ·rw[if_pos c]
   have ef:fl=rawInt X.env.locals:=eq_of_beq c
   subst ef
   exact wpAny_pure (go s rfl I ⟨⟨oe,vs,he,hcl,hdi,hd,hsz,.inr ⟨T,oT,ts,h1,hTx,hTn,hTH,hT,hdT,h3⟩⟩,nx,hx⟩)
  ·rw[if_neg c]
   refine wpAny_bind (wpAny_setField hT hdT (Array.getElem?_eq_some_iff.mp h3).1 ?_)
   have I1:=I.rest (rest_set (fs:=frs X.stack) (a:=T) (g:=Obj.mapFields (·.setIfInBounds 3 Value.none))) fun b hb=>by
    rw[List.mem_singleton.mp hb]
    exact⟨hTH,hTn,t1,t2,hpx T⟩
   have ex1:(s.heap.update T (Obj.mapFields (·.setIfInBounds 3 Value.none))).get? x=some oe:=by rw[Heap.get?_update_other _ _ hTx];exact he
   exact entry_new hfr (by rw[←hst];exact I1.stack) hf (by rw[←hst];exact n3) ex1 hd hsz fun h' T2 oe' oT2 ts2 r a1 a2 a3 a4 a5 a6 a7 a8=>fin {s with heap:=s.heap.update T (Obj.mapFields (·.setIfInBounds 3 Value.none))} rfl I1 h' T2 oe' oT2 ts2 r a1 a2 a3 a4 a5 ex1 a6 a7 a8
end
section
variable {X:Cx}{pins:List (Addr×Obj)}{σ:St}{H:Hp}{s:Shared}
theorem fl_flight{x C:Addr}{od:Option Addr}{fl:Value}{E:Value->Shared->Prop}{Q:Unit->Shared->Prop}{fr:Option Addr}(I:Inv X [] σ H s)(hpn:X.pn=[])(F:Fl H s.heap X.s₀.heap.objs.size x C od fl)
  (go:∀s' fl',s'.os=s.os->Inv X [] σ H s'->Fl H s'.heap X.s₀.heap.objs.size x C od fl'->Q () s'):wpAny (model X.prog X.w) X.A (setFlight (.ref x) fr) Q E s:=by
 obtain⟨⟨oe,vs,he,hcl,hdi,hd,hsz,hh⟩,nx,hx⟩:=F
 unfold setFlight
 rcases hh with⟨h1,rfl⟩|⟨T,oT,ts,h1,hTx,hTn,hTH,hT,hdT,h3⟩
 ·refine wpAny_bind (wpAny_field he hd h1 ?_)
  rw[if_neg (by decide)]
  exact wpAny_pure (go s .none rfl I ⟨⟨oe,vs,he,hcl,hdi,hd,hsz,.inl ⟨h1,rfl⟩⟩,nx,hx⟩)
 ·refine wpAny_bind (wpAny_field he hd h1 ?_)
  rw[if_pos (show(Value.ref T != Value.none)=true from by simp)]
  obtain⟨t1,t2,t3⟩:=I.fld_ne hT hdT
  have l3:=(Array.getElem?_eq_some_iff.mp h3).1
  refine wpAny_setField hT hdT l3 ?_
  generalize fr.elim Value.none (fun f=>rawInt f)=w
  have I1:=I.rest (rest_set (fs:=frs X.stack) (a:=T) (g:=Obj.mapFields (·.setIfInBounds 3 w))) fun b hb=>by
   rw[List.mem_singleton.mp hb]
   exact⟨hTH,hTn,t1,t2,fun p hp=>by(rw[hpn]at hp;cases hp)⟩
  have d3:=Obj.data_mapFields hdT (·.setIfInBounds 3 w)
  have ex1:(s.heap.update T (Obj.mapFields (·.setIfInBounds 3 w))).get? x=some oe:=by rw[Heap.get?_update_other _ _ hTx];exact he
  have eT:=Heap.get?_update_self (Obj.mapFields (·.setIfInBounds 3 w)) hT (Obj.isFreed_of_fields d3)
  exact go _ w rfl I1 ⟨⟨oe,vs,ex1,hcl,hdi,hd,hsz,.inr ⟨T,_,_,h1,hTx,hTn,hTH,eT,d3,by rw[Array.getElem?_setIfInBounds_self_of_lt l3]⟩⟩,nx,hx⟩
end
def CXE(P:Program)(w:World):CXT:=fun outer H s E e s'=>∃(x C:Addr) (od:Option Addr) (fl:Value) (H':Hp),e=.ref x/\s'.os=s.os/\AllBare s'.gens/\Un (frs outer) [] H H' s.heap s'.heap/\HOk P w H' s'.heap/\Fl H' s'.heap s.heap.objs.size x C od fl/\E (.ref C) od H'
def xeE(X:Cx)(E:XK):Value->Shared->Prop:=fun e s'=>∃(x C:Addr) (od:Option Addr) (fl:Value) (σ:St) (H':Hp),e=.ref x/\Inv X [] σ H' s'/\Fl H' s'.heap X.s₀.heap.objs.size x C od fl/\E (.ref C) od H'
theorem Fl.young{H:Hp}{h:Heap}{n m:Nat}{x C:Addr}{od:Option Addr}{fl:Value}(f:Fl H h n x C od fl)(hm:m<=n):Fl H h m x C od fl:=by
 obtain⟨⟨oe,vs,he,hcl,hdi,hd,hsz,hh⟩,nx,hx⟩:=f
 refine⟨⟨oe,vs,he,hcl,hdi,hd,hsz,?_⟩,Nat.le_trans hm nx,hx⟩
 rcases hh with h|⟨T,oT,ts,h1,h2,h3,h4⟩
 ·exact .inl h
 ·exact .inr ⟨T,oT,ts,h1,h2,Nat.le_trans hm h3,h4⟩
theorem PSs.wished{X:Cx}{W W':Value->Shared->Prop}{st:List Stmt}{t:TS}(k:∀e s,W e s->W' e s)(h:PSs (X.wish W) st t):PSs (X.wish W') st t:=fun pins s σ H D I hw =>
 wpAny_mono (h pins s σ H D (I.unwish.wish _) hw) (fun f s' q=>by
  cases f with
  |next=>obtain⟨σ',H',I',q⟩:=q;exact⟨σ',H',I'.unwish.wish _,q⟩
  |brk=>obtain⟨σ',H',I',q⟩:=q;exact⟨σ',H',I'.unwish.wish _,q⟩
  |cont=>obtain⟨σ',H',I',q⟩:=q;exact⟨σ',H',I'.unwish.wish _,q⟩
  |ret u=>obtain⟨v,σ',H',I',r,q⟩:=q;exact⟨v,σ',H',I'.unwish.wish _,r,q⟩) k
theorem passE{X:Cx}{E:XK}:Passes (CXE X.prog X.w) (X.wish (xeE X E)) E:=by
 intro pins σ H s e s' I h
 obtain⟨x,C,od,fl,H',rfl,os,bare,un,hok,F,q⟩:=h
 have I0:Inv X [] σ H s:=I.unwish.pins_of fun p hp=>nomatch hp
 obtain⟨hh,g,d,t,os'⟩:=s'
 obtain rfl:os'=s.os:=os
 exact⟨x,C,od,fl,σ,H',rfl,I0.call (h':=hh) (g':=g) (d':=d) (t':=t) (ch:=[]) un hok bare (fun b z=>nomatch z),F.young I0.sz,q⟩
theorem passOwnE{X:Cx}{E:XK}(hpn:X.pn=[])(hst:X.stack=X.env::X.outer)(hf:X.env.frame=some X.env.locals):PassesOwn (model X.prog X.w) X.A X.env (xeE X E):=by
 intro e s' h
 obtain⟨x,C,od,fl,σ,H',rfl,I,F,q⟩:=h
 show wpAny _ _ (noteFrame _ _) _ _ _
 refine fl_note I hpn hst hf F fun s1 o1 I1 F1=>?_
 show wpAny _ _ _ _ _ _
 obtain⟨oe,vs,he,hcl,hdi,hd,hsz,hh⟩:=id F1.ob
 rcases hh with⟨h1,z⟩|⟨T,oT,ts,h1,_⟩
 ·exact absurd z (by unfold rawInt;intro z;cases z)
 ·refine wpAny_bind (wpAny_field he hd h1 ?_)
  rw[if_neg (by simp)]
  exact fl_flight I1 hpn F1 fun s2 fl2 o2 I2 F2=>⟨x,C,od,fl2,σ,H',rfl,I2,F2,q⟩
section
variable {P:Program}{w:World}{K:PySem.W.Frag}{mg:Str->Option Value}{base:Heap}
theorem leaveE{N:List Str}{qual:Str}{scope:Scope}{f:Addr}{cd:Value}{A:Around}{outer:List Env}{s:Shared}{H:Hp}{E:XK}{e:Value}{s':Shared}(h:xeE (cxOf (CXE P w) P w K mg base N qual scope f cd A outer s H E) E e s'):(cxOf (CXE P w) P w K mg base N qual scope f cd A outer s H E).xe e s':=by
 obtain⟨x,C,od,fl,σ,H',rfl,I,F,q⟩:=h
 show wpAny _ _ (leaving _ _) _ _ _
 unfold leaving
 refine wpAny_bind (fl_note I rfl rfl rfl F fun s1 o1 I1 F1=>?_)
 refine fl_flight I1 rfl F1 fun s2 fl2 o2 I2 F2=>?_
 exact⟨x,C,od,fl2,H',rfl,I2.os,I2.bare,I2.base,I2.hok,F2,q⟩
end
end L2
namespace L2
open PySem PySem.Spec PyProof.Rows PySem.W
def drp(x:Addr)(H:Hp):Hp:=fun b=>if b=x then none else H b
theorem drp_same{x:Addr}{H:Hp}:drp x H x=none:=by unfold drp;rw[if_pos rfl]
theorem drp_ne{x b:Addr}{H:Hp}(n:b≠x):drp x H b=H b:=by unfold drp;rw[if_neg n]
theorem drp_none{x b:Addr}{H:Hp}(e:H b=none):drp x H b=none:=by
 unfold drp
 split
 ·rfl
 ·exact e
section
variable {X:Cx}{pins:List (Addr×Obj)}{σ:St}{H:Hp}{s:Shared}
theorem Inv.drp{x:Addr}{φ:Heap->Prop}(I:Inv X pins σ H s)(hx:H x=some (.ext φ))(hn:X.s₀.heap.objs.size<=x):Inv X pins σ (L2.drp x H) s:=by
 have ne:∀b u,H b=some u->(∀ψ,u≠.ext ψ)->b≠x:=fun b u e n z=>by
  rw[z,hx]at e
  cases e
  exact n φ rfl
 have old:∀b o,X.s₀.heap.get? b=some o->b≠x:=fun b o e z=>Nat.lt_irrefl _ (Nat.lt_of_lt_of_le (Heap.lt_size e) (by rw[z];exact hn))
 refine⟨I.ok,I.os,I.bare,⟨I.base.keep,I.base.slot,fun b o e n hc=>?_,I.base.there,fun b xs e=>?_,fun b o u e=>?_,fun b ps e=>?_⟩,I.loc,I.cell,drp_none I.free,fun y c h=>drp_none (I.freeC y c h),fun p hp=>?_,fun b u e=>?_,I.len⟩
 ·exact drp_none (I.base.free b o e n hc)
 ·have q:=I.base.tups b xs e
  rw[drp_ne (ne b _ q (fun _ z=>nomatch z))]
  exact q
 ·have q:=I.base.frzs b o u e
  rw[drp_ne (ne b _ q (fun _ z=>nomatch z))]
  exact q
 ·obtain⟨m,q⟩:=I.base.tbls b ps e
  exact⟨m,by rw[drp_ne (ne b _ q (fun _ z=>nomatch z))];exact q⟩
 ·obtain⟨a1,a2,a3⟩:=I.pin p hp
  exact⟨a1,drp_none a2,a3⟩
 ·have hb:b≠x:=fun z=>by(rw[z,drp_same]at e;cases e)
  rw[drp_ne hb]at e
  exact(I.hok b u e).stay (fun _ _ _ q=>q) (fun c q=>by rw[drp_ne (ne c _ q (fun _ z=>nomatch z))];exact q) fun c xs q=>by rw[drp_ne (ne c _ q (fun _ z=>nomatch z))];exact q
end
structure ErrC(K:Frag) (C:Addr):Prop where
 cls:∀h,K.In h->∃nm q N bs bm hdct sn sub ab col dd k0 k1 k2 k3 k5 nw,h.get? C=some (excClassObj nm q C N bs bm hdct sn sub ab col dd k0 k1 k2 k3 k5 nw)/\bm.contains (.type "BaseException")=true
theorem raise_own{M:Model}{A:Around}{E:Value->Shared->Prop}{env:Env}{s:Shared}{y:Sem Value}{Q:Flow->Shared->Prop}(hh:A.handled=none)
  (go:wpAny M A y (fun v s1=>∃x C ta od nm q N bs bm hdct sn sub ab col dd k0 k1 k2 k3 k5 nw,v=.ref x/\s1.heap.get? C=some (excClassObj nm q C N bs bm hdct sn sub ab col dd k0 k1 k2 k3 k5 nw)/\bm.contains (.type "BaseException")=true/\s1.heap.get? x=some (errObj C ta od)/\E (.ref x) s1) E s) :
  wpAny M A (raiseStmt env (some y) none) Q E s:=by
 unfold raiseStmt
 refine wpAny_bind (wpAny_mono go (fun v s1 q1=>?_) fun _ _ z=>z)
 obtain⟨x,C,ta,od,nm,q,N,bs,bm,hdct,sn,sub,ab,col,dd,k0,k1,k2,k3,k5,nw,rfl,hC,hb,hx,hE⟩:=q1
 have cB:(Value.ref C::bm).contains (.type "BaseException")=true:=by rw[List.contains_cons,hb,Bool.or_true]
 obtain⟨h9,g9,d9,t9,o9⟩:=s1
 unfold errObj at hx
 repeat (first|(with_reducible refine wpAny_loadPart_at hx ?_)|(with_reducible refine wpAny_loadPart_at hC ?_)|(with_reducible refine wpAny_isSubtype_exc hC ?_;rw[cB])|wp_step)
 exact wpAny_raiseNew_none hh hE
def sRaise(K:Frag)(n:Nat)(te:TE)(E:XK):TS:=fun _ σ H=>te σ H fun v H1=>∃x C od,v=.ref x/\n<=x/\H1 x=some (.ext (errPhi x C od))/\ErrC K C/\E (.ref C) od (drp x H1)
theorem ps_raise{X:Cx}{E:XK}{exc:Expr}{te:TE}{pos:Pos}(hc:X.calm=true)(he:PE (X.wish (xeE X E)) exc te):PS (X.wish (xeE X E)) (.Raise (some exc) none pos) (sRaise X.K X.s₀.heap.objs.size te E):=by
 intro pins s σ H D I h
 have hh:(X.wish (xeE X E)).A.handled=none:=I.ok.hd hc
 rw[arm_exec_Raise]
 refine wpAny_bind (wpAny_standAt (raise_own hh ?_))
 refine wpAny_bind (wpAny_mono (he pins s σ H _ I h) (fun v s1 q=>wpAny_bind (wpAny_standAt (wpAny_pure ?_))) fun _ _ z=>z)
 obtain⟨u,H1,I1,r1,x,C,od,rfl,hn,hx,hcl,q⟩:=q
 cases r1
 have I0:Inv X [] σ H1 s1:=I1.unwish.pins_of fun p hp=>nomatch hp
 obtain⟨nm,q',N,bs,bm,hdct,sn,sub,ab,col,dd,k0,k1,k2,k3,k5,nw,hC,hb⟩:=hcl.cls _ I0.kIn
 obtain⟨⟨ta,e⟩,_⟩:=(show ObjOk X.prog X.w H1 s1.heap x (.ext (errPhi x C od))from I0.hok x _ hx)
 exact⟨x,C,ta,od,nm,q',N,bs,bm,hdct,sn,sub,ab,col,dd,k0,k1,k2,k3,k5,nw,rfl,hC,hb,e,⟨x,C,od,.none,σ,L2.drp x H1,rfl,I0.drp hx hn,⟨⟨errObj C ta od,_,e,rfl,rfl,rfl,(by show 1<6;decide),.inl ⟨rfl,rfl⟩⟩,hn,drp_same⟩,q⟩⟩
def tErrY(n:Nat)(C:Addr)(sp:Sp)(dvs:List V)(E:XK)(t:TA):TE:=fun σ H Q=>t σ H fun vs H1=>vs.length<=1000/\∀x,n<=x->H1 x=none ->
 sp (.ref x::(vs++dvs)) (upd H1 x (.ext (errPhi x C none))) (fun v H2=>v=.non/\Q (.ref x) H2) E
section
variable {X:Cx}{CX:CXT}{k:Nat}{f C:Addr}{fd:FuncData}{ps:List Str}{sp:Sp}{dvs:List V}{ds:List Value}{E:XK}{x m:Str}{p pos apos:Pos}{e o:Expr}{es:List Expr}{ta:TE}{t:TA}
theorem run_errY{pins:List (Addr×Obj)}{σ:St}{H:Hp}{s:Shared}{Q:VK}{us:List Value}{vs:List V}(M:ErrK X.K C f)(F:FnOk X.prog X.w X.K X.mg X.base CX k f fd ps sp)(hr:Room (k+1) X.A)(hb:Binds X.K fd ps ds)(hd:Vals dvs ds)
  (hx:Passes CX X E) (I:Inv X pins σ H s) (r:Vals vs us) (hl:vs.length<=1000)
  (go:∀x,X.s₀.heap.objs.size<=x->H x=none->sp (.ref x::(vs++dvs)) (upd H x (.ext (errPhi x C none))) (fun v H2=>v=.non/\Q (.ref x) H2) E) :
  wpAny (model X.prog X.w) X.A (call (.ref C) us) (EP X pins σ Q) X.xe s:=by
 obtain⟨nm,q,N,bs,bm,hdct,sn,sub,ab,col,dd,k0,k1,k2,k3,k5,mN,oI,hC,hn,hi,T,hfI,hfc⟩:=M.cls _ I.kIn
 have hul:us.length<=sizeLine:=by rw[←r.length];exact Nat.le_of_lt (small1000 hl)
 have hsz:=I.sz
 obtain⟨hh,g,d,tk,os⟩:=s
 refine call_initT PySem.F.excBase_ValueError T hC hn hi hfI hfc (fun h' x made hz=>?_) hul
 obtain⟨kp,-,tup,ex,-,-⟩:=made
 have I2:Inv X pins σ (upd H x (.ext (errPhi x C none))) ⟨h',g,d,tk,os⟩:=I.laid (a:=x) (o:=.ext (errPhi x C none)) (t':=tk) kp hz (err_ok ⟨tup,ex⟩)
 have q1:=go x (Nat.le_trans hsz hz) (I.hok.fresh hz)
 have r2:Vals (V.ref x::(vs++dvs)) (Value.ref x::(us++ds)):=.cons rfl (r.append hd)
 have len:(Value.ref x::us++ds).length=ps.length:=by
  have z:=r2.length
  rw[F.len _ _ _ _ q1]at z
  exact z.symm
 have run:=F.run _ X.stack _ _ ⟨Value.ref x::us,[]⟩ (Value.ref x::(us++ds)) _ _ E (hr.make C us []) (I2.env0.make C us []) (hb _ (Value.ref x::us) I2.kIn len) r2 q1
 refine wpAny_call (codeAny_mono run fun res s' back=>?_)
 match res,back with
 |.error e,back=>exact hx pins σ _ _ e s' I2 back
 |.ok (.ret u),back =>
  obtain⟨v,H',I3,rv,rfl,q3⟩:=I2.after back
  exact⟨rv,⟨V.ref x,H',I3,rfl,q3⟩⟩
 |.ok .next,back=>exact False.elim back
 |.ok .brk,back=>exact False.elim back
 |.ok .cont,back=>exact False.elim back
theorem pe_errY(M:ErrK X.K C f)(F:FnOk X.prog X.w X.K X.mg X.base CX k f fd ps sp)(hr:Room (k+1) X.A)(hg:Gl X x)(hm:X.mg x=some (.ref C))(hb:Binds X.K fd ps ds)(hd:Vals dvs ds)(hx:Passes CX X E)
  (ha:PA X (e::es) t) (hdb:(x == ("__debug__":Str))=false:=by decide) (he:starEach (e::es) X.env=(false,eval e X.env)::starEach es X.env:=by rfl) (hpl:(backTo pos (starEach es X.env)).any (·.1)=false:=by rfl) :
  PE X (.Call (.Name x p) (e::es) [] pos) (tErrY X.s₀.heap.objs.size C sp dvs E t):=by
 intro pins s σ H Q I h
 refine wpAny_Call_Name_kw (ld_glob I hg hm ?_ hdb)
 exact callWith_K (h₀:=X.base) I.ok.mod.kin M.kp (thn (ha pos pins s σ H _ I h) fun us s1 ⟨vs,H1,I1,r,hl,q⟩=>⟨I1.kIn,run_errY M F hr hb hd hx I1 r hl q⟩) he hpl
end
section
variable {X:Cx}{pins:List (Addr×Obj)}{σ:St}{H:Hp}{s:Shared}
theorem Inv.names{σ':St}{h':Heap}{m':Str->Option Value}{t':Nat}(I:Inv X pins σ H s)(hs:Heap.SameBut X.env.locals s.heap h')(hn':h'.Ns X.env.locals m')(hl:σ'.length=σ.length)
  (k:∀(i:Nat) (x:Str) (v:V),X.N[i]?=some x->σ'[i]?=some (some v)->Vis X.env.scope x->∃u,RelV v u/\Look X.env h' m' x u):Inv X pins σ' H {s with heap:=h',toks:=t'}:=by
 have young:∀b o,X.s₀.heap.get? b=some o->b≠X.env.locals:=fun b o e=>Nat.ne_of_lt (Nat.lt_of_lt_of_le (Heap.lt_size e) I.ok.above)
 have cne:∀x c,X.env.cells.lookup x=some c->c≠X.env.locals:=fun x c hc z=>by
  obtain⟨m,⟨o',es,ep,ho,hd,_⟩,_⟩:=I.loc
  obtain⟨v,o2,h2,d2⟩:=I.cell x c hc
  rw[z,ho]at h2
  cases h2
  rw[hd]at d2
  cases d2
 refine⟨I.ok,I.os,I.bare,⟨fun b o e n hb hx=>?_,fun b o e n hb hx=>?_,I.base.free,fun b o e hx=>?_,I.base.tups,I.base.frzs,I.base.tbls⟩,⟨m',hn',k⟩,fun y c e=>?_,I.free,I.freeC,fun p hp=>?_,fun b u e=>?_,hl.trans I.len⟩
 ·rw[hs.2 b (young b o e)]
  exact I.base.keep b o e n hb hx
 ·rw[hs.2 b (young b o e)]
  exact I.base.slot b o e n hb hx
 ·rw[hs.2 b (young b o e)]
  exact I.base.there b o e hx
 ·obtain⟨v,o2,h2,d2⟩:=I.cell y c e
  exact⟨v,o2,(hs.2 c (cne y c e)).trans h2,d2⟩
 ·obtain⟨a1,a2,a3,a4⟩:=I.pin p hp
  exact⟨(hs.2 _ a3).trans a1,a2,a3,a4⟩
 ·refine(I.hok b u e).stay (fun c v hv q=>(hs.2 c ?_).trans q) (fun _ q=>q) fun _ _ q=>q
  rintro rfl
  rcases hv with z|z
  ·rw[←z,I.free]at e
   cases e
  ·rw[I.free]at z
   cases z
theorem gone_ok{M:Model}{A:Around}{E:Value->Shared->Prop}{i:Nat}{n:Str}{pos:Pos}{Q:Unit->Shared->Prop}(I:Inv X pins σ H s)(hN:X.N.Nodup)(hi:X.N[i]?=some n)(hk:X.env.scope.names.lookup n=some .local)
  (go:∀s',Inv X pins (σ.set i none) H s'->Q () s'):wpAny M A (do bindName X.env n .none;unbindBehindTheSuite X.env n pos) Q E s:=by
 have hp:(X.env.scope.kind == .class||(X.env.scope.kind == .module&&X.env.locals != X.env.globals))=false:=by rw[I.ok.kind];rfl
 have hkk:X.env.kindOf n=some .local:=hk
 refine wpAny_bind (wpAny_bindName (store_ok I hN hi (.inl hk) (show RelV .non Value.none from rfl) (fun s1 I1=>?_) (.inr hk)))
 obtain⟨m,hn,hl⟩:=id I1.loc
 unfold unbindBehindTheSuite
 refine wpAny_onRaise ?_
 unfold unbindName
 refine wpAny_bind (wpAny_point (wpAny_bind ?_))
 unfold deleteName
 simp only[hkk,hp]
 rw[if_neg (by decide)]
 refine wpAny_bind (wpAny_nsDel_keeps hn fun h2 v2 hn2 hs2=>?_)
 have hm:(m n).isSome=true:=by
  obtain⟨u,r,q⟩:=hl i n .non hi (by rw[List.getElem?_set_self (by rw[I.len];exact(List.getElem?_eq_some_iff.mp hi).1)]) (.inl hk)
  rcases q with⟨_,q⟩|⟨q,_⟩
  ·rw[q];rfl
  ·rw[hkk]at q
   rcases q with q|q<;>cases q
 simp only[hm,Bool.not_true,Bool.false_eq_true,if_false]
 refine wpAny_pure (wpAny_point (go _ ?_))
 refine I1.names (σ':=σ.set i none) (t':=s1.toks) hs2 hn2 (by simp) fun j y v e1 e2 e3=>?_
 have hj:j≠i:=fun z=>by
  subst z
  rw[List.getElem?_set_self (by rw[I.len];exact(List.getElem?_eq_some_iff.mp hi).1)]at e2
  cases e2
 rw[List.getElem?_set_ne (Ne.symm hj)]at e2
 obtain⟨u,r,q⟩:=hl j y v e1 (by rw[List.getElem?_set_ne (Ne.symm hj)];exact e2) e3
 refine⟨u,r,?_⟩
 rcases q with⟨q1,q2⟩|⟨q1,c,q2,q3⟩
 ·refine .inl ⟨q1,?_⟩
  have:y≠n:=fun z=>hj (nodup_ix hN (by rw[e1,z]) hi)
  show(if y=n then v2 else m y)=some u
  rw[if_neg this]
  exact q2
 ·obtain⟨o2,h2',d2⟩:=q3
  refine .inr ⟨q1,c,q2,o2,(hs2.2 c ?_).trans h2',d2⟩
  intro z
  obtain⟨m',⟨o',es,ep,ho,hd,_⟩,_⟩:=I1.loc
  rw[z,ho]at h2'
  cases h2'
  rw[hd]at d2
  cases d2
end
def errX(x C:Addr)(od:Option Addr):Heap->Prop:=fun h=>∃oe vs,h.get? x=some oe/\oe.cls=.ref C/\oe.dict=od/\oe.data=.fields vs
theorem errX_ok{P:Program}{w:World}{H:Hp}{h:Heap}{x C:Addr}{od:Option Addr}(e:errX x C od h):ObjOk P w H h x (.ext (errX x C od)) :=
 ⟨e,e.elim fun _ q=>q.elim fun _ q=>⟨_,q.1⟩,fun _ _ ⟨oe,vs,q,r⟩ k=>⟨oe,vs,k _ q,r⟩⟩
structure ErrSub(K:Frag) (C G:Addr):Prop where
 cls:∀h,K.In h->∃nm q N bs bm hdct sn sub ab col dd k0 k1 k2 k3 k5 nw,h.get? C=some (excClassObj nm q C N bs bm hdct sn sub ab col dd k0 k1 k2 k3 k5 nw)/\(Value.ref C::bm).contains (.ref G)=true
 top:ErrC K G
theorem match_own{M:Model}{A:Around}{E:Value->Shared->Prop}{s:Shared}{K:Frag}{x C G:Addr}{oe:Obj}{Q:Bool->Shared->Prop}(hK:K.In s.heap)(S:ErrSub K C G)(he:s.heap.get? x=some oe)(hcl:oe.cls=.ref C)(go:Q true s):wpAny M A (excMatches (.ref x) (.ref G)) Q E s:=by
 obtain⟨nm,q,N,bs,bm,hdct,sn,sub,ab,col,dd,k0,k1,k2,k3,k5,nw,hC,hin⟩:=S.cls _ hK
 obtain⟨nm',q',N',bs',bm',hdct',sn',sub',ab',col',dd',k0',k1',k2',k3',k5',nw',hG,hb⟩:=S.top.cls _ hK
 have gB:(Value.ref G::bm').contains (.type "BaseException")=true:=by rw[List.contains_cons,hb,Bool.or_true]
 have f:=tc_notTuple
 obtain⟨h9,g9,d9,t9,o9⟩:=s
 unfold excMatches
 repeat (first|(with_reducible refine wpAny_loadPart_at he ?_;rw[hcl])|(with_reducible refine wpAny_loadPart_at hG ?_)|(with_reducible refine wpAny_isSubtype_exc hG ?_;rw[gB])|(with_reducible refine wpAny_isSubtype_exc hC ?_;rw[hin])|wp_step)
 exact go
def Cx.inH(X:Cx)(x:Addr):Cx:={X with A:=X.A.mark (some (.ref x)),calm:=false,xe:=fun _ _=>False}
section
variable {X:Cx}{pins:List (Addr×Obj)}{σ:St}{H:Hp}{s:Shared}
theorem Inv.inH(I:Inv X pins σ H s)(x:Addr):Inv (X.inH x) pins σ H s :=
 ⟨⟨I.ok.mod,I.ok.kind,I.ok.glob,I.ok.blt,I.ok.above,I.ok.inj,I.ok.has,I.ok.cab,(fun z=>nomatch z),I.ok.frames,I.ok.stk,I.ok.exf,I.ok.bs,I.ok.bsz,I.ok.noex,I.ok.exfs,I.ok.funs,I.ok.frf⟩,I.os,I.bare,I.base,I.loc,I.cell,I.free,I.freeC,I.pin,I.hok,I.len⟩
theorem Inv.outH{x:Addr}(I:Inv (X.inH x) pins σ H s)(ok:X.Ok):Inv X pins σ H s:=⟨ok,I.os,I.bare,I.base,I.loc,I.cell,I.free,I.freeC,I.pin,I.hok,I.len⟩
end
section
variable {X:Cx}{σ:St}{H:Hp}{s:Shared}
theorem Inv.track{x C:Addr}{od:Option Addr}{fl:Value}(I:Inv X [] σ H s)(hpn:X.pn=[])(F:Fl H s.heap X.s₀.heap.objs.size x C od fl):Inv X [] σ (upd H x (.ext (errX x C od))) s:=by
 obtain⟨⟨oe,vs,he,hcl,hdi,hd,hsz,hh⟩,nx,hx⟩:=F
 obtain⟨n1,n2,n3⟩:=I.fld_ne he hd
 have ne:∀b u,H b=some u->b≠x:=fun b u e z=>by(rw[z,hx]at e;cases e)
 have old:∀b o,X.s₀.heap.get? b=some o->b≠x:=fun b o e z=>Nat.lt_irrefl _ (Nat.lt_of_lt_of_le (Heap.lt_size e) (by rw[z];exact nx))
 refine⟨I.ok,I.os,I.bare,⟨I.base.keep,I.base.slot,fun b o e n hc=>?_,I.base.there,fun b xs e=>?_,fun b o u e=>?_,fun b ps e=>?_⟩,I.loc,I.cell,?_,fun y c h=>?_,fun p hp=>?_,fun b u e=>?_,I.len⟩
 ·rw[upd_ne (old b o e)]
  exact I.base.free b o e n hc
 ·have q:=I.base.tups b xs e
  rw[upd_ne (ne b _ q)]
  exact q
 ·have q:=I.base.frzs b o u e
  rw[upd_ne (ne b _ q)]
  exact q
 ·obtain⟨m,q⟩:=I.base.tbls b ps e
  exact⟨m,by rw[upd_ne (ne b _ q)];exact q⟩
 ·rw[upd_ne (Ne.symm n1)]
  exact I.free
 ·rw[upd_ne (n2 y c h)]
  exact I.freeC y c h
 ·rw[hpn]at hp
  cases hp
 ·by_cases hb:b=x
  ·subst hb
   rw[upd_same]at e
   cases e
   exact errX_ok ⟨oe,vs,he,hcl,hdi,hd⟩
  ·rw[upd_ne hb]at e
   exact(I.hok b u e).stay (fun _ _ _ q=>q) (fun c q=>by rw[upd_ne (ne c _ q)];exact q) fun c xs q=>by rw[upd_ne (ne c _ q)];exact q
end
def PS0(X:Cx)(st:Stmt)(t:TS):Prop :=
 ∀(s:Shared) (σ:St) (H:Hp) (D:Ends),Inv X [] σ H s->t D σ H->wpAny (model X.prog X.w) X.A (exec st X.env) (SP X [] D) X.xe s
def PSs0(X:Cx)(st:List Stmt)(t:TS):Prop :=
 ∀(s:Shared) (σ:St) (H:Hp) (D:Ends),Inv X [] σ H s->t D σ H->wpAny (model X.prog X.w) X.A (execs st X.env) (SP X [] D) X.xe s
theorem PSs.top{X:Cx}{st:List Stmt}{t:TS}(h:PSs X st t):PSs0 X st t:=fun s σ H D I q=>h [] s σ H D I q
def behind(i:Nat)(D:Ends):Ends:={nx:=fun σ H=>D.nx (σ.set i none) H,rt:=D.rt,bk:=fun σ H=>D.bk (σ.set i none) H,ct:=fun σ H=>D.ct (σ.set i none) H}
def sTry(K:Frag)(G:Addr)(nl i:Nat)(E':XK)(tb:TS)(th:TS):TS:=fun D σ H=>tb D σ H/\∀cls od H',E' cls od H'->∃C,cls=.ref C/\ErrSub K C G/\∀x,H' x=none->th (behind i D) ((List.replicate nl none).set i (some (.ref x))) (upd H' x (.ext (errX x C od)))
theorem ps_try{X:Cx}{body:List Stmt}{tb th:TS}{E':XK}{g n:Str}{G:Addr}{gp hp pos:Pos}{b0:Stmt}{suite:List Stmt}{i:Nat}(hpn:X.pn=[])(hst:X.stack=X.env::X.outer)(hf:X.env.frame=some X.env.locals)
  (hb:PSs (X.wish (xeE X E')) body tb) (hg:Gl X g) (hm:X.mg g=some (.ref G)) (hN:X.N.Nodup) (hi:X.N[i]?=some n) (hk:X.env.scope.names.lookup n=some .local)
  (hs:∀x,PSs (X.inH x) (b0::suite) th) (hdb:(g == ("__debug__":Str))=false:=by decide) :
  PS0 X (.Try body [.ExceptHandler (some (.Name g gp)) (some n) (b0::suite) hp] [] [] pos) (sTry X.K G X.N.length i E' tb th):=by
 intro s σ H D I h
 obtain⟨h1,h2⟩:=h
 refine wpAny_Try_except (wpAny_mono (hb [] s σ H D (I.wish _) h1) (fun f s1 q=>?_) fun e s1 q=>?_)
 ·cases f with
  |next=>exact wpAny_pure q.unwish
  |brk=>exact q.unwish
  |cont=>exact q.unwish
  |ret u=>exact q.unwish
 ·obtain⟨x,C,od,fl,σ1,H1,rfl,I1,F1,q1⟩:=q
  obtain⟨C',ec,S,q2⟩:=h2 _ _ _ q1
  cases ec
  have q3:=q2 x F1.hx
  refine fl_note I1 hpn hst hf F1 fun s2 o2 I2 F2=>?_
  refine fl_flight I2 hpn F2 fun s3 fl3 o3 I3 F3=>?_
  refine wpAny_handleBy_cons (codeAny_handlers_test ?_) (by intro z;cases z)
  have J3:=I3.inH x
  refine ld_glob J3 hg hm ?_ hdb
  obtain⟨oe,vs,he,hcl,_⟩:=F3.ob
  refine match_own J3.kIn S he hcl ?_
  refine codeAny_handlers_suite_as ?_
  refine fl_flight (X:=X.inH x) J3 hpn F3 fun s4 fl4 o4 J4 F4=>?_
  have J5:=Inv.track J4 hpn F4
  have J6:Inv (X.inH x) [] (List.replicate X.N.length none) (upd H1 x (.ext (errX x C od))) s4:=J5.weak (by rw[List.length_replicate];exact J5.len.symm) fun j v e=>by
   rw[List.getElem?_replicate]at e
   split at e<;>cases e
  refine store_ok (X:=X.inH x) J6 hN hi (.inl hk) (show RelV (.ref x) (Value.ref x)from rfl) (fun s5 J7=>?_) (.inr hk)
  refine wpAny_mono (hs x [] s5 _ _ _ J7 q3) (fun f s6 q6=>?_) fun _ _ z=>z.elim
  have fin:∀{σ':St}{H':Hp}{Φ:Flow->Shared->Prop},Inv (X.inH x) [] σ' H' s6->(∀s7,Inv X [] (σ'.set i none) H' s7->Φ f s7)->wpAny (model X.prog X.w) X.A (do bindName X.env n .none;unbindBehindTheSuite X.env n hp) (fun _ s7=>Φ f s7) X.xe s6:=fun{σ' H' Φ} J go =>
   gone_ok (J.outH I.ok) hN hi hk fun s7 I7=>go s7 I7
  cases f with
  |next =>
   obtain⟨σ',H',J,q⟩:=q6
   exact fin J fun s7 I7=>⟨_,H',I7,q⟩
  |brk =>
   obtain⟨σ',H',J,q⟩:=q6
   exact fin J fun s7 I7=>⟨_,H',I7,q⟩
  |cont =>
   obtain⟨σ',H',J,q⟩:=q6
   exact fin J fun s7 I7=>⟨_,H',I7,q⟩
  |ret u =>
   obtain⟨v,σ',H',J,r,q⟩:=q6
   exact fin J fun s7 I7=>⟨v,_,H',I7,r,q⟩
def ErrAtX(H:Hp)(x C:Addr)(fs:List (Str×V)):Prop:=(fs=[]/\H x=some (.ext (errX x C none)))\/∃dx,H x=some (.ext (errX x C (some dx)))/\H dx=some (.xd fs)
theorem ErrAtX.inH{P:Program}{w:World}{H:Hp}{h:Heap}{x C:Addr}{fs:List (Str×V)}(e:ErrAtX H x C fs)(ok:HOk P w H h):ErrIn x C h:=by
 rcases e with⟨-,e⟩|⟨dx,e,ed⟩
 ·obtain⟨⟨oe,vs,ea,ec,ed',edt⟩,-,-⟩:=ok x _ e
  exact⟨oe,none,ea,ec,by(unfold notCls;rw[edt]),by(rw[ed'];trivial)⟩
 ·obtain⟨⟨oe,vs,ea,ec,ed',edt⟩,-,-⟩:=ok x _ e
  obtain⟨mA,⟨o,es,ep,eo,-⟩,-⟩:=ok dx _ ed
  exact⟨oe,some o,ea,ec,by(unfold notCls;rw[edt]),by(rw[ed'];exact eo)⟩
section
variable {X:Cx}
theorem call_isErrX:CallR X (.builtin "isinstance") (fun xs H Q=>∃x C fs D r,xs=[.ref x,.ref D]/\ErrAtX H x C fs/\ErrG X.K C/\kitOne X.K (.ref C) (.ref D)=some r/\Q (.bl r) H):=by
 intro pins s σ H xs us Q I r h
 obtain⟨x,C,fs,D,b,rfl,e,G,k,q⟩:=h
 obtain⟨u,u',rfl,r1,r2⟩:=vals2 r
 obtain rfl:u=Value.ref x:=r1
 obtain rfl:u'=Value.ref D:=r2
 exact kia_one (err_kit G) I.kIn (e.inH I.hok) k (fun z=>nomatch z) fun tk=>⟨.bl b,H,I.tok _,rfl,q⟩
theorem call_isErrTX:CallR X (.builtin "isinstance") (fun xs H Q=>∃x C fs T r,xs=[.ref x,.ty T]/\ErrAtX H x C fs/\ErrG X.K C/\kitOne X.K (.ref C) (.type T)=some r/\Q (.bl r) H):=by
 intro pins s σ H xs us Q I r h
 obtain⟨x,C,fs,T,b,rfl,e,G,k,q⟩:=h
 obtain⟨u,u',rfl,r1,r2⟩:=vals2 r
 obtain rfl:u=Value.ref x:=r1
 obtain rfl:u'=Value.type T:=r2
 exact kia_one (err_kit G) I.kIn (e.inH I.hok) k (fun z=>nomatch z) fun tk=>⟨.bl b,H,I.tok _,rfl,q⟩
theorem call_isErrsX:CallR X (.builtin "isinstance") (fun xs H Q=>∃x C fs tp,∃ds:List Addr,∃r,xs=[.ref x,.ref tp]/\ErrAtX H x C fs/\ErrG X.K C/\SqT X.K H tp (ds.map V.ref)/\kitAny X.K (.ref C) (ds.map Value.ref)=some r/\Q (.bl r) H):=by
 intro pins s σ H xs us Q I r h
 obtain⟨x,C,fs,tp,ds,b,rfl,e,G,sq,k,q⟩:=h
 obtain⟨u,u',rfl,r1,r2⟩:=vals2 r
 obtain rfl:u=Value.ref x:=r1
 obtain rfl:u'=Value.ref tp:=r2
 obtain⟨its,rv,it,-⟩:=I.tuple sq
 have z:=vals_clss rv
 subst z
 obtain⟨⟨oc,odd,oda,osl⟩,eo,rfl,n,rfl⟩:=it
 exact kia_tup (err_kit G) I.kIn (e.inH I.hok) eo k (fun z=>nomatch z) fun tk=>⟨.bl b,H,I.tok _,rfl,q⟩
def tErrFX(K:Frag)(ta:TE)(n:Str):TE:=fun σ H Q=>ta σ H fun x H1=>∃a C fs v,x=.ref a/\ErrAtX H1 a C fs/\ErrR K C n/\fs.lookup n=some v/\Q v H1
theorem pe_errfX{e:Expr}{ta:TE}{n:Str}{pos:Pos}(he:PE X e ta)(hb:attributeBase e n X.env (eval e X.env)=eval e X.env:=by rfl):PE X (.Attribute e n pos) (tErrFX X.K ta n):=by
 intro pins s σ H Q I h
 refine attr_of hb (thn (he pins s σ H _ I h) fun u s1 ⟨x,H1,I1,rx,a,C,fs,v,ex,ea,R,l,q⟩=>?_)
 subst ex
 obtain rfl:u=Value.ref a:=rx
 rcases ea with⟨rfl,-⟩|⟨dx,ea,ed⟩
 ·cases l
 obtain⟨⟨oe,vs,e1,ec,ed',edt⟩,-,-⟩:=I1.hok a _ ea
 obtain⟨mA,⟨o,es,ep,eo,eda,sk,uk,nf⟩,rel⟩:=I1.hok dx _ ed
 obtain⟨u,hu,ru⟩:=RelO.some_of (v:=v) (o:=mA n) (by rw[←l];exact rel n)
 obtain⟨attr,fa,ng⟩:=R.no
 have lk:lookIn n o=some (some u):=by
  have z:=nf n
  rw[hu]at z
  unfold nsFind findBy at z
  obtain⟨en,q1,q2⟩:=Option.map_eq_some_iff.mp z
  unfold lookIn
  rw[eda]
  dsimp only
  rw[←Array.find?_toList]at q1
  rw[q1]
  exact congrArg (fun z=>some (some z)) q2
 exact bex_value (ox:=oe) (od:=some o) I1.kIn ⟨e1,ec,by(unfold notCls;rw[edt]),by(rw[ed'];exact eo)⟩ R.hg (findObj_own R.hd fa ng lk) (handed_of ru) ⟨v,H1,I1.tok _,ru,q⟩
end
section
variable {X:Cx}{st:Stmt}{rest:List Stmt}{t u:TS}
theorem pss0_cons(h1:PS0 X st t)(h2:PSs0 X rest u):PSs0 X (st::rest) (tSeq t u):=by
 intro s σ H D I h
 refine wpAny_execs_cons (thn (h1 s σ H {D with nx:=u D} I h) fun f s1 q=>?_)
 cases f with
 |next =>
  obtain⟨σ',H',I',q⟩:=q
  exact h2 s1 σ' H' D I' q
 |ret v=>exact q
 |brk=>exact q
 |cont=>exact q
end
section
variable {P:Program}{w:World}{K:PySem.W.Frag}{mg:Str->Option Value}{base:Heap}
theorem Fun.okE{x qual:Str}{st:Stmt}{f:Addr}{fd:FuncData}{N ps:List Str}{k:Nat}{sp:Sp}(F:Fun K x qual st f fd)(S:FnScope N ps (defScope st))(len:∀vs H Q E,sp vs H Q E->vs.length=ps.length)
  (hbody:∀(cdv:Value) (A:Around) (outer:List Env) (s:Shared) (H:Hp) (vs:List V) (Q:VK) (E:XK),Room k (A.deeper (envOfC qual (defScope st) s.heap.objs.size f cdv))->sp vs H Q E ->
   ∃t,PSs ((cxOf (CXE P w) P w K mg base N qual (defScope st) f cdv A outer s H E).wish (xeE (cxOf (CXE P w) P w K mg base N qual (defScope st) f cdv A outer s H E) E)) (defBody st) t/\t {nx:=fun _ H'=>Q .non H',rt:=Q} (start N vs) H):FnOk P w K mg base (CXE P w) (k+1) f fd ps sp:=by
 obtain⟨oc,od,kV,doc,pm,an,cdv,ct,osl,rfl,lk,hcd⟩:=F.ex
 refine fn_of lk hcd S len fun A outer s H vs Q E hr hsp=>?_
 obtain⟨t,h,q⟩:=hbody cdv A outer s H vs Q E hr hsp
 exact⟨t,PSs.wished (fun e s' z=>leaveE z) h,q⟩
end
end L2
namespace L2
open PySem PySem.Spec PyProof.Rows
theorem PSs0.nox{X:Cx}{st:List Stmt}{t:TS}(h:PSs0 X.nox st t):PSs0 X st t:=fun s σ H D I hw =>
 wpAny_mono (h s σ H D (I.wish _) hw) (fun _ _ q=>q.unwish) fun _ _ z=>False.elim z
theorem fn_of0{CX:CXT}{P:Program}{w:World}{K:PySem.W.Frag}{mg:Str->Option Value}{base:Heap}{k:Nat}{f:Addr}{name qual:Str}{params:Arguments}{body:List Stmt}{scope:Scope}{dV kV doc pm cdv ct oc:Value}{an od:Option Addr}
  {osl:Array (Option Value)}{N ps:List Str}{sp:Sp}(lk:K.lookup f=some ⟨oc,od,.func (PySem.W.fnOf name qual params body scope dV kV doc pm an cdv ct),osl⟩) (hcd:PySem.W.codeIn K cdv qual=true) (S:FnScope N ps scope)
  (len:∀vs H Q E,sp vs H Q E->vs.length=ps.length)
  (hbody:∀(A:Around) (outer:List Env) (s:Shared) (H:Hp) (vs:List V) (Q:VK) (E:XK),Room k (A.deeper (envOfC qual scope s.heap.objs.size f cdv))->sp vs H Q E ->
   ∃t,PSs0 (cxOf CX P w K mg base N qual scope f cdv A outer s H E) body t/\t {nx:=fun _ H'=>Q .non H',rt:=Q} (start N vs) H) :
  FnOk P w K mg base CX (k+1) f (PySem.W.fnOf name qual params body scope dV kV doc pm an cdv ct) ps sp:=by
 refine⟨len,fun A outer s H args us vs Q E hr e0 hb r hsp=>?_⟩
 have hl:=len _ _ _ _ hsp
 have KX:K.In s.heap:=e0.mod.kin.keeps fun b o e=>(e0.bs b o e).1
 have lim:s.heap.NoLimit:=e0.mod.nolimit.keeps fun b o e=>(e0.bs b o e).1
 have hkind:∀y∈ps.zip us,scope.names.lookup y.1=some .local\/(scope.names.lookup y.1=some .cell/\((cellsFrom (s.heap.objs.size+1) scope.names []).lookup y.1).isSome=true):=fun⟨n,v⟩ hy=>by
  rcases S.par n (List.of_mem_zip hy).1 with q|q
  ·exact .inl q
  ·exact .inr ⟨q,PySem.W.cellsFrom_some _ _ _ (.inl q)⟩
 refine codeAny_call_function hr.depth (KX _ _ lk) rfl S.co S.gen rfl (PySem.W.codeRec_of KX hcd) (hb _ _ _ _ ?_)
 refine wpAny_newFunctionEnv_cells S.kind hkind fun env he s1 x=>?_
 subst he
 refine⟨lim.keeps x.toInCall.keep,codeAny_func ?_⟩
 obtain⟨t,ht,hq⟩:=hbody A outer s H vs Q E (hr.deeper _) hsp
 have I:Inv (cxOf CX P w K mg base N qual scope f cdv A outer s H E) [] (start N vs) H s1:=inv_start S hr.hd e0 hl r x
 refine wpAny_mono (ht s1 (start N vs) H _ I hq) (fun fl s' hs=>?_) fun e s' hs=>hs
 have fin:∀{σ':St}{H':Hp}{v:V}{u:Value},Inv (cxOf CX P w K mg base N qual scope f cdv A outer s H E) [] σ' H' s'->RelV v u->Q v H'->CE outer P w H s Q u s' :=
  fun{σ' H' v u} J rv q=>⟨v,H',J.os,J.bare,J.base,J.hok,rv,q⟩
 cases fl with
 |ret u =>
  obtain⟨v,σ',H',J,rv,q⟩:=hs
  exact fin J rv q
 |next =>
  obtain⟨σ',H',J,q⟩:=hs
  exact fin (v:=V.non) (u:=Value.none) J rfl q
 |brk =>
  obtain⟨_,_,_,q⟩:=hs
  exact False.elim q
 |cont =>
  obtain⟨_,_,_,q⟩:=hs
  exact False.elim q
section
variable {P:Program}{w:World}{K:PySem.W.Frag}{mg:Str->Option Value}{base:Heap}
theorem Fun.ok0{x qual:Str}{st:Stmt}{f:Addr}{fd:FuncData}{N ps:List Str}{k:Nat}{sp:Sp}(F:Fun K x qual st f fd)(S:FnScope N ps (defScope st))(len:∀vs H Q E,sp vs H Q E->vs.length=ps.length)
  (hbody:∀(cdv:Value) (A:Around) (outer:List Env) (s:Shared) (H:Hp) (vs:List V) (Q:VK) (E:XK),Room k (A.deeper (envOfC qual (defScope st) s.heap.objs.size f cdv))->sp vs H Q E ->
   ∃t,PSs0 (cxOf CX0 P w K mg base N qual (defScope st) f cdv A outer s H E).nox (defBody st) t/\t {nx:=fun _ H'=>Q .non H',rt:=Q} (start N vs) H):FnOk P w K mg base CX0 (k+1) f fd ps sp:=by
 obtain⟨oc,od,kV,doc,pm,an,cdv,ct,osl,rfl,lk,hcd⟩:=F.ex
 refine fn_of0 lk hcd S len fun A outer s H vs Q E hr hsp=>?_
 obtain⟨t,h,q⟩:=hbody cdv A outer s H vs Q E hr hsp
 exact⟨t,h.nox,q⟩
end
end L2
namespace L2
open PySem PySem.Spec PyProof.Rows PySem.W
def spIni(C:Addr)(n:Str):Sp:=fun vs H Q _=>∃(x:Addr) (y:V),vs=[.ref x,y]/\H x=some (.ext (errPhi x C none))/\∀dx,H dx=none->dx≠x->Q .non (upd (upd H dx (.xd [(n,y)])) x (.ext (errPhi x C (some dx))))
structure HasE(P:Program) (w:World) (K:Frag) (mg:Str->Option Value) (base:Heap) (x:Str) (k:Nat) (ps:List Str) (sp:Sp) (f:Addr) (fd:FuncData):Prop where
 ok:FnOk P w K mg base (CXE P w) k f fd ps sp
 at':mg x=some (.ref f)
 kp:keepIn K (.ref f)=true
 bd:Binds K fd ps []
structure Rsd(P:Program) (w:World) (K:Frag) (mg:Str->Option Value) (base:Heap) (x:Str) (n:Str) (C f:Addr) (fd:FuncData):Prop where
 k:ErrK K C f
 ok:FnOk P w K mg base CX0 1 f fd ["self",n] (spIni C n)
 m:mg x=some (.ref C)
 bd:Binds K fd ["self",n] []
 c:ErrC K C
def Told(E:XK)(H:Hp)(C:Addr)(n:Str)(y:V):Prop:=∀(dx:Addr) (H':Hp),Same H H'->H dx=none->H' dx=some (.xd [(n,y)])->E (.ref C) (some dx) H'
theorem Told.same{E:XK}{H H1:Hp}{C:Addr}{n:Str}{y:V}(t:Told E H C n y)(s:Same H H1):Told E H1 C n y:=fun dx H' s' h1 h2=>t dx H' (s.trans s') (s.free h1) h2
theorem raise_at{K:Frag}{m:Nat}{C:Addr}{n:Str}{E:XK}{y:V}{H:Hp}(c:ErrC K C)(h:Told E H C n y):∀x,m<=x->H x=none->spIni C n (.ref x::([y]++[])) (upd H x (.ext (errPhi x C none))) (fun v H2=>v=.non/\∃x' C' od,V.ref x=.ref x'/\m<=x'/\H2 x'=some (.ext (errPhi x' C' od))/\ErrC K C'/\E (.ref C') od (drp x' H2)) E0:=by
 intro x hm hx
 refine⟨x,y,rfl,upd_same,fun dx hd ne=>⟨rfl,x,C,some dx,rfl,hm,upd_same,c,h dx _ (fun b u q=>?_) ?_ ?_⟩⟩
 ·have nx:b≠x:=ne_of_none q hx
  have nd:b≠dx:=by
   intro z
   subst z
   rw[upd_ne nx]at hd
   rw[hd]at q
   cases q
  rw[drp_ne nx,upd_ne nx,upd_ne nd,upd_ne nx]
  exact q
 ·rw[upd_ne ne]at hd
  exact hd
 ·rw[drp_ne ne,upd_ne ne]
  exact upd_same
end L2
namespace L2
open PySem PySem.Spec PyProof.Rows
def tCallVE(E:XK)(T:Addr->Sp->Prop)(tf:TE)(t:TA):TE:=fun σ H Q=>tf σ H fun x H0=>∃f sp,x=.ref f/\T f sp/\t σ H0 fun vs H1=>sp vs H1 Q E
theorem pe_callVE{X:Cx}{X0:CXT}{E:XK}{T:Addr->Sp->Prop}{x:Str}{p pos:Pos}{e:Expr}{es:List Expr}{tf:TE}{t:TA}(hp:Passes X0 X E)
  (hT:∀f sp,T f sp->∃k fd ps,FnOk X.prog X.w X.K X.mg X.base X0 k f fd ps sp/\Room k X.A/\PySem.W.keepIn X.K (.ref f)=true/\Binds X.K fd ps [])
  (hf:PE X (.Name x p) tf) (ha:PA X (e::es) t) (he:starEach (e::es) X.env=(false,eval e X.env)::starEach es X.env:=by rfl) (hpl:(backTo pos (starEach es X.env)).any (·.1)=false:=by rfl) :
  PE X (.Call (.Name x p) (e::es) [] pos) (tCallVE E T tf t):=by
 intro pins s σ H Q I h
 refine wpAny_Call_Name_kw (thn (hf pins s σ H _ I h) fun u s0 ⟨v,H0,I0,rx,f,sp,ev,hTf,q⟩=>?_)
 subst ev
 obtain rfl:u=Value.ref f:=rx
 obtain⟨k,fd,ps,F,hr,hk,hb⟩:=hT f sp hTf
 refine PySem.W.callWith_K (h₀:=X.base) I0.ok.mod.kin hk (thn (ha pos pins s0 σ H0 _ I0 q) fun us s1 ⟨vs,H1,I1,r,q⟩=>⟨I1.kIn,?_⟩) he hpl
 exact run_fn (E:=E) (dvs:=[]) F hr hb .nil hp I1 r (by simpa using q)
end L2
namespace G12
open PySem L2
theorem cx_w{X0:CXT}{P:Program}{w:World}{K:PySem.W.Frag}{mg:Str->Option Value}{base:Heap}{N:List Str}{nm:Str}{sc:Scope}{f:Addr}{cdv:Value}{A:Around}{outer:List PySem.Env}{s:Shared}{H:Hp}{E:XK}:(cxOf X0 P w K mg base N nm sc f cdv A outer s H E).w=w:=rfl
theorem at_last{α:Type}{l:List α}{x:α}{n:Nat}(hl:l.length=n+1)(h:l[n]?=some x):atI l (-1)=some x:=by
 unfold atI ixN
 rw[if_neg (by decide),if_pos (by omega)]
 show l[((-1:Int)+(l.length:Int)).toNat]?=some x
 rw[show((-1:Int)+(l.length:Int)).toNat=n by omega]
 exact h
abbrev cofV:List (Str×V):=[("(",.str ")"),("[",.str "]")]
def spClose(R:RvT)(Gd:Bw->Prop)(cB:Addr):Sp:=fun vs H Q E=>∃(c:Nat) (ws:List Bw) (p:Addr) (us:List V) (M:List Addr),vs=[.str ⟨#[c]⟩,.ref p]/\(c=40\/c=91)/\H p=some (.lst us)/\p∉M/\Rvs R M H ws us/\(∀b∈ws,Gd b)/\us.length<=3000 /\
 (¬Gd (.g c ws)->Told E H cB "at" (.int 0))/\∀(v:V) (H':Hp),Same H H'->Gd (.g c ws)->R M H' (.g c ws) v->Q v H'
def Reads(Gd:Bw->Prop)(l:List Nat)(bs:List Bw):Prop:=AdB (32::(l++[32]))/\brun [(0,[])] (wd (Rb l))=some [(0,bs)]/\∀b∈bs,Gd b
def spScan(R:RvT)(Gd:Bw->Prop)(cB gK:Addr):Sp:=fun vs H Q E=>∃l:List Nat,vs=[.str (ofL l),.ref gK]/\l.length<=2900/\((¬ ∃bs,Reads Gd l bs)->Told E H cB "at" (.int 0))/\∀(bs:List Bw) (p:Addr) (us:List V) (H':Hp),Same H H'->Reads Gd l bs->H' p=some (.lst us)->Rvs R [] H' bs us->Q (.ref p) H'
theorem ren_len:∀(ws:List (List Nat)) (b:Bool),(∀w∈ws,w≠[])->ws.length<=(ren b ws).length
 | [],_,_=>Nat.zero_le _
 |w::r,b,h=>by
  have h1:1<=w.length:=by have:=h w (.head _);cases w with|nil=>exact absurd rfl this|cons a q=>simp
  have h2:=fun b'=>ren_len r b' fun x hx=>h x (.tail _ hx)
  have:=h2 (opT w)
  unfold ren
  split
  ·simp only[List.length_append,List.length_cons];omega
  ·simp only[List.length_append,List.length_cons];omega
theorem ren_mem:∀(ws:List (List Nat)) (b:Bool) (w:List Nat),w∈ws->w.length<=(ren b ws).length
 |v::r,b,w,h=>by
  have h2:=fun h'=>ren_mem r (opT v) w h'
  unfold ren
  rcases List.mem_cons.mp h with rfl|h
  ·split
   ·rw[List.length_append];omega
   ·rw[List.length_append,List.length_cons];omega
  ·have:=h2 h
   rw[List.length_append]
   omega
theorem tk_ne{w:List Nat}(h:TkOk w):w≠[]:=by
 rcases h with⟨c,rfl,_⟩|h
 ·simp
 ·exact h.1
theorem wd_len{l:List Nat}(h:AdB (32::(l++[32]))):(wd (Rb l)).length<=l.length:=by
 obtain⟨e,o⟩:=adB_ren h
 have:=ren_len (wd (Rb l)) true fun w hw=>tk_ne (o w hw)
 exact Nat.le_trans this (Nat.le_of_eq (congrArg List.length e.symm))
theorem wd_mem{l:List Nat}(h:AdB (32::(l++[32]))){w:List Nat}(hw:w∈wd (Rb l)):w.length<=l.length :=
 Nat.le_trans (ren_mem _ true w hw) (Nat.le_of_eq (congrArg List.length (adB_ren h).1.symm))
def bot(st:BSt):Option Nat:=st.getLast?.map (·.1)
theorem stp_bot{st st':BSt}{w:List Nat}(h:stp st w=some st'):bot st'=bot st:=by
 obtain⟨o,xs,s,rfl,c⟩:=stp_inv h
 unfold bot
 rcases c with⟨_,rfl⟩|⟨_,_,o',ys,s',rfl,_,rfl⟩|⟨_,_,rfl⟩
 ·rw[List.getLast?_cons_cons]
 ·rw[List.getLast?_cons_cons]
  cases s' with
  |nil=>rfl
  |cons f s2=>rw[List.getLast?_cons_cons,List.getLast?_cons_cons]
 ·cases s with
  |nil=>rfl
  |cons f s2=>rw[List.getLast?_cons_cons,List.getLast?_cons_cons]
theorem brun_bot:∀{r:List (List Nat)}{st fin:BSt},brun st r=some fin->bot fin=bot st
 | [],st,fin,h=>by cases h;rfl
 |w::r,st,fin,h=>by
  have h:(stp st w).bind (fun st'=>brun st' r)=some fin:=h
  cases e:stp st w with
  |none=>rw[e]at h;cases h
  |some st' =>
   rw[e]at h
   rw[brun_bot (show brun st' r=some fin from h),stp_bot e]
theorem ofL_one{w:List Nat}{k:Nat}(h:w≠[k]):ofL w≠⟨#[k]⟩:=fun e=>h (by rw[←toList_ofL w,e])
theorem cof_none{w:List Nat}(h:¬(w=[40]\/w=[91])):cofV.lookup (ofL w)=none:=by
 have h1:(ofL w == ("(":Str))=false:=beq_eq_false_iff_ne.mpr (ofL_one fun e=>h (.inl e))
 have h2:(ofL w == ("[":Str))=false:=beq_eq_false_iff_ne.mpr (ofL_one fun e=>h (.inr e))
 rw[List.lookup_cons,h1,List.lookup_cons,h2]
 rfl
theorem end_none{w:List Nat}(h:¬(w=[41]\/w=[93])):inV (.str (ofL w)) [.str ")",.str "]"]=false:=by
 have h1:((")":Str) == ofL w)=false:=beq_eq_false_iff_ne.mpr (Ne.symm (ofL_one fun e=>h (.inl e)))
 have h2:(("]":Str) == ofL w)=false:=beq_eq_false_iff_ne.mpr (Ne.symm (ofL_one fun e=>h (.inr e)))
 show((")":Str) == ofL w||((("]":Str) == ofL w)||false))=false
 rw[h1,h2]
 rfl
structure ScI(R:RvT) (Gd:Bw->Prop) (ws:List (List Nat)) (B:Hp) (o hl:Addr) (i:Nat) (H:Hp):Prop where
 x:∃hs st,brun [(0,[])] ws=brun st (ws.drop i)/\(AllG Gd st/\st≠[])/\StG R B o hl hs st H/\st.length<=i+1/\∀f∈st,f.2.length<=i
theorem cxE_K{W:Value->Shared->Prop}{CX:CXT}{P:Program}{w:World}{K:PySem.W.Frag}{mg:Str->Option Value}{base:Heap}{N:List Str}{nm:Str}{sc:Scope}{f:Addr}{cdv:Value}{A:Around}{outer:List PySem.Env}{s:Shared}{H:Hp}{E:XK}:((cxOf CX P w K mg base N nm sc f cdv A outer s H E).wish W).K=K:=rfl
theorem cxE_w{W:Value->Shared->Prop}{CX:CXT}{P:Program}{w:World}{K:PySem.W.Frag}{mg:Str->Option Value}{base:Heap}{N:List Str}{nm:Str}{sc:Scope}{f:Addr}{cdv:Value}{A:Around}{outer:List PySem.Env}{s:Shared}{H:Hp}{E:XK}:((cxOf CX P w K mg base N nm sc f cdv A outer s H E).wish W).w=w:=rfl
theorem cxo_K{CX:CXT}{P:Program}{w:World}{K:PySem.W.Frag}{mg:Str->Option Value}{base:Heap}{N:List Str}{nm:Str}{sc:Scope}{f:Addr}{cdv:Value}{A:Around}{outer:List PySem.Env}{s:Shared}{H:Hp}{E:XK}:(cxOf CX P w K mg base N nm sc f cdv A outer s H E).K=K:=rfl
theorem cxo_w{CX:CXT}{P:Program}{w:World}{K:PySem.W.Frag}{mg:Str->Option Value}{base:Heap}{N:List Str}{nm:Str}{sc:Scope}{f:Addr}{cdv:Value}{A:Around}{outer:List PySem.Env}{s:Shared}{H:Hp}{E:XK}:(cxOf CX P w K mg base N nm sc f cdv A outer s H E).w=w:=rfl
section
variable {P:Program}{w:World}{K:PySem.W.Frag}{mg:Str->Option Value}{base:Heap}{gW gS gK gC cB fB:Addr}{wfd sfd kfd cfd dB:FuncData}{Gd:Bw->Prop}{R:RvT}
theorem nm_scanned:Nm ["text","close","openers","held","word","inner"] (defScope s_scanned):=by decide +kernel
theorem lm_scanned:Lm ["text","close","openers","held","word","inner"] (defScope s_scanned):=by decide +kernel
theorem sc_scanned:FnScope ["text","close","openers","held","word","inner"] ["text","close"] (defScope s_scanned):=⟨rfl,rfl,rfl,by decide +kernel,rfl,by decide +kernel,by decide +kernel⟩
theorem ok_scan{cn:Str}{f aC:Addr}{fd:FuncData}{jc:Nat}(hjc:4<=jc)(hA:∀w:List Nat,w.length<=2900->Gd (.a w))(hG:∀o ws,Gd (.g o ws)->∀x∈ws,Gd x)(O:RvOk R)(F:Fun K "scanned" "scanned" s_scanned f fd)(WE:Has P w K mg base "well_parted" 2 ["text"] spWell gW wfd)(SP:Has P w K mg base "split_words" 1 ["text"] spSplit gS sfd)(KL:HasE P w K mg base cn jc ["opener","items"] (spClose R Gd cB) gK kfd)(BadText:Rsd P w K mg base "BadText" "at" cB fB dB)
  (mC:mg "CLOSE_OF"=some (.ref aC)) (dC:KD K w aC [("(",.str ")"),("[",.str "]")]):FnOk P w K mg base (CXE P w) (jc+1) f fd ["text","close"] (spScan R Gd cB gK):=by
 refine F.okE sc_scanned (fun vs H Q E h=>?_) (fun cdv A outer s H vs Q E hr h=>?_)
 ·obtain⟨_,rfl,_⟩:=h
  rfl
 obtain⟨l,rfl,hlen,hE,k⟩:=h
 refine⟨_,(@pss_cons _ _ _ _ _ (@ps_if _ _ _ _ _ _ _ _ (@pt_not _ _ _ _ (@pt_val _ _ _ (@pe_call _ _ _ _ _ _ _ _ _ _ _ _ _ _ _ _ WE.ok (hr.mono (by omega)) (by show _=_;kernel_rfl) WE.at' WE.kp WE.bd .nil pass0 (pa_c (va nm_scanned 0) pa_nil) (by decide) (by rfl) (by rfl)) (by intro _;rfl))) (@pss_one _ _ _ (@ps_raise _ _ _ _ _ rfl (pe_errY BadText.k BadText.ok (hr.mono (by omega)) (by show _=_;kernel_rfl) BadText.m BadText.bd .nil pass0 (pa_c pe_int pa_nil)))) pss_nil) (@pss_cons _ _ _ _ _ (sa sc_scanned.nd lm_scanned 2 (pe_lst pa_nil)) (@pss_cons _ _ _ _ _ (@sa _ _ _ _ _ _ sc_scanned.nd lm_scanned 3 (@pe_lst _ _ _ _ (pa_c (pe_lst pa_nil) pa_nil)) (by rfl) (by kernel_rfl) (by exact .inl rfl)) (@pss_cons _ _ _ _ _ (@ps_for _ _ _ _ _ _ _ _ (passOwnE rfl rfl rfl) rfl (@pi_list _ _ _ _ (@pe_call _ _ _ _ _ _ _ _ _ _ _ _ _ _ _ _ SP.ok (hr.mono (by omega)) (by show _=_;kernel_rfl) SP.at' SP.kp SP.bd .nil pass0 (pa_c (va nm_scanned 0) pa_nil) (by decide) (by rfl) (by rfl))) (ga sc_scanned.nd lm_scanned 4) (@pss_one _ _ _ (@ps_if _ _ _ _ _ _ _ _ (pt_cmpR op_inKD (va nm_scanned 4) (pe_glob (v:=.ref aC) (by show _=_;kernel_rfl) mC rfl) (by with_unfolding_all rfl)) (@pss_cons _ _ _ _ _ (@ps_expr _ _ _ _ (@pe_bm _ _ _ _ _ _ _ _ _ _ _ _ PySem.F.plainAttrs_list PySem.F.slot_list_append PySem.F.type_list_append mt_append (va nm_scanned 2) (pa_c (va nm_scanned 4) pa_nil) (by rfl) (by rfl) (by rfl) (by rfl) (by rfl)) (by rfl)) (@pss_one _ _ _ (@ps_expr _ _ _ _ (@pe_bm _ _ _ _ _ _ _ _ _ _ _ _ PySem.F.plainAttrs_list PySem.F.slot_list_append PySem.F.type_list_append mt_append (va nm_scanned 3) (pa_c (pe_lst pa_nil) pa_nil) (by rfl) (by rfl) (by rfl) (by rfl) (by rfl)) (by rfl)))) (@pss_one _ _ _ (@ps_if _ _ _ _ _ _ _ _ (@pt_cmpR _ _ _ _ _ _ _ _ op_in_seq (va nm_scanned 4) (@pe_tup _ _ _ _ _ (pa_c pe_str (pa_c pe_str pa_nil))) (by with_unfolding_all rfl)) (@pss_cons _ _ _ _ _ (@ps_if _ _ _ _ _ _ _ _ (PW.pt (@pw_or _ _ _ _ _ _ _ (@pt_not _ _ _ _ (pt_truth (va nm_scanned 2) (fun _=>rfl))) (@pw_or1 _ _ _ _ (@pt_cmpR _ _ _ _ _ _ _ _ op_ne (@pe_kget _ _ _ _ _ _ (pe_glob (v:=.ref aC) (by show _=_;kernel_rfl) mC rfl) (pe_ix ix_list (va nm_scanned 2) (pe_un un_neg pe_int) (fun _ _=>rfl)) (fun _ _=>rfl)) (va nm_scanned 4) (nomark _))))) (@pss_one _ _ _ (@ps_raise _ _ _ _ _ rfl (pe_errY BadText.k BadText.ok (hr.mono (by omega)) (by show _=_;kernel_rfl) BadText.m BadText.bd .nil pass0 (pa_c pe_int pa_nil)))) pss_nil) (@pss_cons _ _ _ _ _ (@sa _ _ _ _ _ _ sc_scanned.nd lm_scanned 5 (pe_bm0 PySem.F.plainAttrs_list PySem.F.slot_list_pop PySem.F.type_list_pop mt_pop (va nm_scanned 3)) (by rfl) (by kernel_rfl) (by exact .inl rfl)) (@pss_one _ _ _ (@ps_expr _ _ _ _ (@pe_bm _ _ _ _ _ _ _ _ _ _ _ _ PySem.F.plainAttrs_list PySem.F.slot_list_append PySem.F.type_list_append mt_append (pe_ix ix_list (va nm_scanned 3) (pe_un un_neg pe_int) (fun _ _=>rfl)) (@pa_c _ _ _ _ _ (pe_callVE passE (T:=fun f sp=>f=gK/\sp=spClose R Gd cB) (fun f sp h=>by obtain⟨rfl,rfl⟩:=h;exact⟨jc,_,_,KL.ok,hr.mono (by omega),KL.kp,KL.bd⟩) (va nm_scanned 1) (@pa_c _ _ _ _ _ (pe_bm0 PySem.F.plainAttrs_list PySem.F.slot_list_pop PySem.F.type_list_pop mt_pop (va nm_scanned 2)) (pa_c (va nm_scanned 5) pa_nil) (by rfl))) pa_nil (by rfl)) (by rfl) (by rfl) (by rfl) (by rfl) (by rfl)) (by rfl))))) (@pss_one _ _ _ (@ps_expr _ _ _ _ (@pe_bm _ _ _ _ _ _ _ _ _ _ _ _ PySem.F.plainAttrs_list PySem.F.slot_list_append PySem.F.type_list_append mt_append (pe_ix ix_list (va nm_scanned 3) (pe_un un_neg pe_int) (fun _ _=>rfl)) (pa_c (va nm_scanned 4) pa_nil) (by rfl) (by rfl) (by rfl) (by rfl) (by rfl)) (by rfl))))))) (by intro _;rfl)) (@pss_cons _ _ _ _ _ (@ps_if _ _ _ _ _ _ _ _ (pt_truth (va nm_scanned 2) (fun _=>rfl)) (@pss_one _ _ _ (@ps_raise _ _ _ _ _ rfl (pe_errY BadText.k BadText.ok (hr.mono (by omega)) (by show _=_;kernel_rfl) BadText.m BadText.bd .nil pass0 (pa_c pe_int pa_nil)))) pss_nil) (@pss_one _ _ _ (@ps_ret _ _ _ _ (pe_ix ix_list (va nm_scanned 3) pe_int (fun _ _=>rfl))))))))),?_⟩
 try dsimp only[cx_K]
 try dsimp only[cxE_K,cxE_w,cxo_K,cxo_w]
 refine seq_cut5 ?_
 intro N1 N2 N3 N4 N5 c1 c2 c3 c4 c5
 fail "R"
 intro H1 s1
 have hE1:(¬ ∃bs,Reads Gd l bs)->Told E H1 cB "at" (.int 0):=fun z=>(hE z).same s1
 by_cases hW:adb (32::(l++[32]))=true
 rotate_left
 ·rw[show adb (32::(l++[32]))=false from Bool.eq_false_iff.mpr hW]
  have tt:=hE1 fun⟨bs,z,_⟩=>hW z
  fail "R"
  exact raise_at BadText.c tt
 rw[hW]
 have had:AdB (32::(l++[32])):=hW
 fail "R"
 intro o ho
 have s2:=same_new ho (.lst [])
 have h2o:upd H1 o (.lst []) o=some (.lst []):=upd_same
 generalize upd H1 o (.lst [])=H2 at s2 h2o⊢
 fail "R"
 intro h0 hh0
 have s3:=same_new hh0 (.lst [])
 have h3h:upd H2 h0 (.lst []) h0=some (.lst []):=upd_same
 have h3o:=s3 _ _ h2o
 generalize upd H2 h0 (.lst [])=H3 at s3 h3h h3o⊢
 fail "R"
 intro hl hhl
 have s4:=same_new hhl (.lst [.ref h0])
 have h4l:upd H3 hl (.lst [.ref h0]) hl=some (.lst [.ref h0]):=upd_same
 have h4h:=s4 _ _ h3h
 have h4o:=s4 _ _ h3o
 generalize upd H3 hl (.lst [.ref h0])=H4 at s4 h4l h4h h4o⊢
 fail "R"
 intro p H5 s5 hp h5
 have htl:(wd (Rb l)).length<=2900:=Nat.le_trans (wd_len had) hlen
 have hRd:∀bs,Reads Gd l bs↔brun [(0,[])] (wd (Rb l))=some [(0,bs)]/\∀b∈bs,Gd b:=fun bs=>⟨fun z=>z.2,fun z=>⟨had,z⟩⟩
 have hwl:∀w∈wd (Rb l),w.length<=2900:=fun w hw=>Nat.le_trans (wd_mem had hw) hlen
 generalize wd (Rb l)=ws at h5 htl hRd hwl
 have hp1:H1 p=none:=((s2.trans s3).trans s4).free hp
 have sB:Same H1 (upd H1 p (.lst (wV ws))):=same_new hp1 _
 have hBp:upd H1 p (.lst (wV ws)) p=some (.lst (wV ws)):=upd_same
 have hB5:Same (upd H1 p (.lst (wV ws))) H5:=fun b u e=>by
  by_cases hb:b=p
  ·subst hb
   rw[upd_same]at e
   cases e
   exact h5
  ·rw[upd_ne hb]at e
   exact s5 _ _ (s4 _ _ (s3 _ _ (s2 _ _ e)))
 have hBn:∀x u,H4 x=some u->H1 x=none->upd H1 p (.lst (wV ws)) x=none:=fun x u e1 e2=>by
  have hx:x≠p:=fun z=>by rw[z,hp]at e1;cases e1
  rw[upd_ne hx]
  exact e2
 generalize upd H1 p (.lst (wV ws))=B at sB hBp hB5 hBn
 have p1:StG R B o hl [h0] [(0,[])] H5:={
  same:=hB5
  new:=fun x hx=>by
   rcases List.mem_cons.mp hx with rfl|hx
   ·exact hBn _ _ h4o ho
   rcases List.mem_cons.mp hx with rfl|hx
   ·exact hBn _ _ h4l ((s2.trans s3).free hhl)
   ·rw[List.mem_singleton.mp hx];exact hBn _ _ h4h (s2.free hh0)
  nd:=by
   have n1:o≠hl:=fun e=>by rw[←e,h3o]at hhl;cases hhl
   have n2:o≠h0:=fun e=>by rw[←e,h2o]at hh0;cases hh0
   have n3:hl≠h0:=fun e=>by rw[e,h3h]at hhl;cases hhl
   simp[n1,n2,n3]
  op:=s5 _ _ h4o
  hd:=s5 _ _ h4l
  fr:=⟨h0,[],[],rfl,s5 _ _ h4h,rfl,Nat.zero_le _,rfl⟩
  ok:=fun f hf=>nomatch hf}
 have i0:ScI R Gd ws B o hl 0 H5:=⟨[h0],[(0,[])],by rw[List.drop_zero],⟨(fun f hf x hx=>by rw[List.mem_singleton.mp hf]at hx;cases hx),by simp⟩,p1,Nat.le_refl _,fun f hf=>by rw[List.mem_singleton.mp hf];exact Nat.le_refl _⟩
 fail "R"
 refine for_list (K:=K) (xs:=wV ws) (fun i σ H6=>(∃y z,σ=[some (.str (ofL l)),some (.ref gK),some (.ref o),some (.ref hl),y,z])/\ScI R Gd ws B o hl i H6) ⟨⟨_,_,rfl⟩,i0⟩ ?_ ?_ ?_
 ·rintro i σ H6 hi ⟨_,⟨_,_,_,_,p6,_⟩⟩
  exact SqL.of (p6.same _ _ hBp)
 ·rintro i x σ H6 hx ⟨⟨_,_,rfl⟩,⟨hs,st,hrun,hal,p6,hlst,hne⟩⟩
  unfold wV at hx
  rw[List.getElem?_map]at hx
  obtain⟨w6,hw6,rfl⟩:=Option.map_eq_some_iff.mp hx
  have hil:=(List.getElem?_eq_some_iff.mp hw6).1
  have hdr:ws.drop i=w6::ws.drop (i+1):=by rw[List.drop_eq_getElem_cons hil,(List.getElem?_eq_some_iff.mp hw6).2]
  rw[hdr]at hrun
  have hrun2:brun [(0,[])] ws=(stp st w6).bind (fun st'=>brun st' (ws.drop (i+1))):=hrun
  have hno:stp st w6=none->¬ ∃bs,Reads Gd l bs:=fun z ⟨bs,hb⟩=>by
   have:=((hRd bs).mp hb).1
   rw[hrun2,z]at this
   cases this
  have hbad:∀st',stp st w6=some st'->¬AllG Gd st'->¬ ∃bs,Reads Gd l bs:=fun st' z za ⟨bs,hb⟩=>by
   obtain⟨h1,h2⟩:=(hRd bs).mp hb
   rw[hrun2,z]at h1
   exact za (brun_back hG (show brun st' _=_ from h1) fun f hf x hx=>by rw[List.mem_singleton.mp hf]at hx;exact h2 x hx)
  obtain⟨o6,xs6,s6',rfl⟩:∃o6 xs6 s6',st=(o6,xs6)::s6':=by
   cases st with
   |nil=>exact absurd rfl hal.2
   |cons f s'=>exact⟨f.1,f.2,s',rfl⟩
  obtain⟨h6,hs6,vs6,rfl,f1,f2,f4,f5⟩:=p6.fr
  obtain⟨n1,n2,n3,n4⟩:=nd3 p6.nd
  have lhs:=f5.len
  by_cases hw:w6=[40]\/w6=[91]
  ·rw[stp_open hw]at hrun2
   have hal2:AllG Gd ((w6.headD 0,[])::(o6,xs6)::s6'):=fun f hf x hx=>by
    rcases List.mem_cons.mp hf with rfl|hf
    ·cases hx
    ·exact hal.1 f hf x hx
   obtain⟨c,hc,rfl⟩:∃c,(c=40\/c=91)/\w6=[c]:=by
    rcases hw with rfl|rfl
    ·exact⟨40,.inl rfl,rfl⟩
    ·exact⟨91,.inr rfl,rfl⟩
   have hlk:(cofV.lookup (ofL [c])).isSome=true:=by rcases hc with rfl|rfl<;>decide +kernel
   have h6o:=p6.op
   have h6h:=p6.hd
   have lo:(opsV ((o6,xs6)::s6')).length<sizeLine:=by
    have:(opsV ((o6,xs6)::s6')).length<=60001:=by unfold opsV;rw[List.length_reverse,List.length_map,List.length_dropLast];omega
    rw[sizeLine_eq]
    omega
   have lh:((h6::hs6).reverse.map V.ref).length<sizeLine:=by
    rw[List.length_map,List.length_reverse,List.length_cons,lhs,sizeLine_eq]
    have:=hlst
    rw[List.length_cons]at this
    omega
   have h7h:upd H6 o (.lst (opsV ((o6,xs6)::s6')++[.str (ofL [c])])) hl=some (.lst ((h6::hs6).reverse.map V.ref)):=by rw[upd_ne (Ne.symm n1)];exact h6h
   fail "R"
   refine ite2 (fun _=>?_) (fun z=>absurd hlk z)
   fail "R"
   intro q hq
   have qo:q≠o:=fun e=>by rw[e,upd_same]at hq;cases hq
   have hq6:H6 q=none:=by rw[upd_ne qo]at hq;exact hq
   have h8h:=same_new hq (.lst []) _ _ h7h
   fail "R"
   exact⟨q::h6::hs6,_,hrun2,⟨hal2,by simp⟩,p6.opn O (by simp) hc hq6,by rw[List.length_cons];omega,fun f hf=>(List.mem_cons.mp hf).elim (fun e=>by rw[e];exact Nat.zero_le _) fun h=>Nat.le_succ_of_le (hne f h)⟩
  by_cases hw2:w6=[41]\/w6=[93]
  ·have hin:inV (.str (ofL w6)) [.str ")",.str "]"]=true:=by rcases hw2 with rfl|rfl<;>decide +kernel
   have hlk:¬(cofV.lookup (ofL w6)).isSome=true:=by rw[cof_none hw];simp
   have sH6:Same H H6:=(s1.trans sB).trans p6.same
   cases s6' with
   |nil =>
    have tt:=(hE (hno (by
     show(if w6=[40]\/w6=[91]then _ else if w6=[41]\/w6=[93]then none else _)=none
     rw[if_neg hw,if_pos hw2]))).same sH6
    have h6o:H6 o=some (.lst []):=p6.op
    fail "R"
    refine ite2 (fun z=>absurd z hlk) (fun _=>?_)
    fail "R"
    intro t ht
    have s7:=same_new ht (.tup [.str ")",.str "]"])
    have h7:upd H6 t (.tup [.str ")",.str "]"]) t=some (.tup [.str ")",.str "]"]):=upd_same
    have h7o:=s7 _ _ h6o
    have tt7:=tt.same s7
    generalize upd H6 t (.tup [.str ")",.str "]"])=H7 at s7 h7 h7o tt7⊢
    fail "R"
    refine ite2 (fun _=>?_) (fun z=>absurd hin z)
    fail "R"
    exact raise_at BadText.c tt7
   |cons f7 s7' =>
   obtain⟨o7,ys7⟩:=f7
   have hc:=p6.ok (o6,xs6) (.head _)
   have hc:o6=40\/o6=91:=hc
   have hlk2:cofV.lookup (⟨#[o6]⟩:Str)=some (.str (ofL [clo o6])):=by rcases hc with rfl|rfl<;>decide +kernel
   fail "R"
   refine ite2 (fun z=>absurd z hlk) (fun _=>?_)
   fail "R"
   intro t ht
   have s7:=same_new ht (.tup [.str ")",.str "]"])
   have h7:upd H6 t (.tup [.str ")",.str "]"]) t=some (.tup [.str ")",.str "]"]):=upd_same
   have p7:=p6.up O s7
   generalize upd H6 t (.tup [.str ")",.str "]"])=H7 at s7 h7 p7⊢
   fail "R"
   refine ite2 (fun _=>?_) (fun z=>absurd hin z)
   have h7o:=p7.op
   have h7h:=p7.hd
   have eO:opsV ((o6,xs6)::(o7,ys7)::s7')=opsV ((o7,ys7)::s7')++[.str ⟨#[o6]⟩]:=by
    unfold opsV
    rw[List.dropLast_cons_of_ne_nil (by simp),List.map_cons,List.reverse_cons]
   have eH:(h6::hs6).reverse.map V.ref=hs6.reverse.map V.ref++[.ref h6]:=by rw[List.reverse_cons,List.map_append];rfl
   rw[eO]at h7o
   rw[eH]at h7h
   obtain⟨h8,hs8,vs8,rfl,g1,g2,g4,g5⟩:=f5
   have eH8:(h8::hs8).reverse.map V.ref=hs8.reverse.map V.ref++[.ref h8]:=by rw[List.reverse_cons,List.map_append];rfl
   have hla:atI (opsV ((o7,ys7)::s7')++[V.str ⟨#[o6]⟩]) (-1)=some (V.str ⟨#[o6]⟩):=at_last (n:=(opsV ((o7,ys7)::s7')).length) (by simp) (by simp)
   have hnem:(opsV ((o7,ys7)::s7')++[V.str ⟨#[o6]⟩]).isEmpty=false:=by simp
   have eD:(hs8.reverse.map V.ref++[V.ref h8])=(h8::hs8).reverse.map V.ref:=eH8.symm
   have eDl:((h8::hs8).reverse.map V.ref++[V.ref h6]).dropLast=hs8.reverse.map V.ref++[V.ref h8]:=by rw[List.dropLast_concat,eH8]
   have eOl:(opsV ((o7,ys7)::s7')++[V.str ⟨#[o6]⟩]).dropLast=opsV ((o7,ys7)::s7'):=List.dropLast_concat
   have q1:((h8::hs8).reverse.map V.ref++[V.ref h6])[((h8::hs8).reverse.map V.ref++[V.ref h6]).length-1]?=some (.ref h6):=by simp
   have q2:(opsV ((o7,ys7)::s7')++[V.str ⟨#[o6]⟩])[(opsV ((o7,ys7)::s7')++[V.str ⟨#[o6]⟩]).length-1]?=some (.str ⟨#[o6]⟩):=by simp
   have q3:atI ((h8::hs8).reverse.map V.ref++[V.ref h6]).dropLast (-1)=some (.ref h8):=by rw[eDl];exact at_last (n:=(hs8.reverse.map V.ref).length) (by simp) (by simp)
   have m6:h6∈h6::h8::hs8:=.head _
   have m8:h8∈h6::h8::hs8:=.tail _ (.head _)
   have q4:upd H7 hl (.lst ((h8::hs8).reverse.map V.ref++[V.ref h6]).dropLast) o=some (.lst (opsV ((o7,ys7)::s7')++[V.str ⟨#[o6]⟩])):=by rw[upd_ne n1];exact h7o
   have q5:upd H7 hl (.lst ((h8::hs8).reverse.map V.ref++[V.ref h6]).dropLast) h8=some (.lst vs8):=by rw[upd_ne (Ne.symm (n3 _ m8))];exact s7 _ _ g1
   obtain⟨pp,vs9,k9,k9',k10,r6⟩:=p7.pop O (by simp)
   obtain rfl:vs6=vs9:=by have z:=s7 _ _ f1;rw[k9]at z;cases z;rfl
   have u6:upd (upd H7 hl (.lst ((h8::hs8).reverse.map V.ref))) o (.lst (opsV ((o7,ys7)::s7'))) h6=some (.lst vs6):=by rw[upd_ne (Ne.symm (n2 _ m6)),upd_ne (Ne.symm (n3 _ m6))];exact s7 _ _ f1
   have u8:upd (upd H7 hl (.lst ((h8::hs8).reverse.map V.ref))) o (.lst (opsV ((o7,ys7)::s7'))) h8=some (.lst vs8):=by rw[upd_ne (Ne.symm (n2 _ m8)),upd_ne (Ne.symm (n3 _ m8))];exact s7 _ _ g1
   have eDl':((h8::hs8).reverse.map V.ref++[V.ref h6]).dropLast=(h8::hs8).reverse.map V.ref:=by rw[eDl,eH8]
   have sH7:Same H H7:=sH6.trans s7
   fail "R"
   refine ifF (by simp) ?_
   fail "R"
   by_cases he:w6=[clo o6]
   rotate_left
   ·have tt:=(hE (hno (by
     show(if w6=[40]\/w6=[91]then _ else if w6=[41]\/w6=[93]then(if w6=[clo o6]then _ else none)else _)=none
     rw[if_neg hw,if_pos hw2,if_neg he]))).same sH7
    refine ifT (by
     have z:¬(V.str (ofL [clo o6])=V.str (ofL w6)):=fun e=>he (by
      injection e with e
      rw[←toList_ofL w6,←e,toList_ofL])
     simpa using z) ?_
    fail "R"
    exact raise_at BadText.c tt
   subst he
   have est:stp ((o6,xs6)::(o7,ys7)::s7') [clo o6]=some ((o7,ys7++[.g o6 xs6])::s7'):=stp_close hc
   rw[est]at hrun2
   refine ifF (by simp) ?_
   fail "R"
   ·rw[eDl',eOl]
    exact u6
   refine⟨k10,by rw[eDl',eOl];exact r6,fun b hb=>hal.1 _ (.head _) b hb,by rw[f2.len];have:=hne (o6,xs6) (.head _);have:xs6.length<=i:=this;show xs6.length<=3000;omega,fun ng=>?_,fun v H8 s8 gg rt=>?_⟩
   ·rw[eDl',eOl]
    exact(hE (hbad _ est fun z=>ng (z _ (.head _) _ (List.mem_append_right _ (.head _))))).same ((s1.trans sB).trans pp.same)
   have hal2:AllG Gd ((o7,ys7++[.g o6 xs6])::s7'):=fun f hf x hx=>by
    rcases List.mem_cons.mp hf with rfl|hf
    ·rcases List.mem_append.mp hx with hx|hx
     ·exact hal.1 _ (.tail _ (.head _)) x hx
     ·rw[List.mem_singleton.mp hx];exact gg
    ·exact hal.1 f (.tail _ (.tail _ hf)) x hx
   rw[eDl',eOl]at s8
   have hv8:=s8 _ _ u8
   have l8:vs8.length<=i:=by rw[g2.len];exact hne (o7,ys7) (.tail _ (.head _))
   have l8s:vs8.length<sizeLine:=by rw[sizeLine_eq];omega
   have p8:=pp.up O s8
   fail "R"
   refine⟨h8::hs8,_,hrun2,⟨hal2,by simp⟩,p8.app O hv8 rt (by omega),?_,fun f hf=>?_⟩
   ·have:=hlst
    simp only[List.length_cons]at this⊢
    omega
   ·rcases List.mem_cons.mp hf with rfl|hf
    ·have:=hne (o7,ys7) (.tail _ (.head _))
     show(ys7++[Bw.g o6 xs6]).length<=i+1
     rw[List.length_append]
     exact Nat.succ_le_succ this
    ·exact Nat.le_succ_of_le (hne f (.tail _ (.tail _ hf)))
  ·rw[stp_atom hw hw2]at hrun2
   have hal2:AllG Gd ((o6,xs6++[.a w6])::s6'):=fun f hf x hx=>by
    rcases List.mem_cons.mp hf with rfl|hf
    ·rcases List.mem_append.mp hx with hx|hx
     ·exact hal.1 _ (.head _) x hx
     ·rw[List.mem_singleton.mp hx];exact hA _ (hwl w6 (List.mem_of_getElem? hw6))
    ·exact hal.1 f (.tail _ hf) x hx
   have hlk:¬(cofV.lookup (ofL w6)).isSome=true:=by rw[cof_none hw];simp
   have hin:=end_none hw2
   have h6h:=p6.hd
   have eH:(h6::hs6).reverse.map V.ref=hs6.reverse.map V.ref++[.ref h6]:=by rw[List.reverse_cons,List.map_append];rfl
   have hla:atI ((h6::hs6).reverse.map V.ref) (-1)=some (.ref h6):=by rw[eH];exact at_last (n:=(hs6.reverse.map V.ref).length) (by simp) (by simp)
   have l6:vs6.length<=i:=by rw[f2.len];exact hne (o6,xs6) (.head _)
   have l6s:vs6.length<sizeLine:=by rw[sizeLine_eq];omega
   fail "R"
   refine ite2 (fun z=>absurd z hlk) (fun _=>?_)
   fail "R"
   intro t ht
   have s7:=same_new ht (.tup [.str ")",.str "]"])
   have h7:upd H6 t (.tup [.str ")",.str "]"]) t=some (.tup [.str ")",.str "]"]):=upd_same
   have p7:=p6.up O s7
   have h7h:=s7 _ _ h6h
   have h7c:=s7 _ _ f1
   generalize upd H6 t (.tup [.str ")",.str "]"])=H7 at s7 h7 p7 h7h h7c⊢
   fail "R"
   refine ite2 (fun z=>absurd (show inV (.str (ofL w6)) [.str ")",.str "]"]=true from z) (by rw[hin];simp)) (fun _=>?_)
   fail "R"
   refine⟨h6::hs6,_,hrun2,⟨hal2,by simp⟩,p7.app O h7c (O.word _ _ w6) (by omega),?_,fun f hf=>?_⟩
   ·have:=hlst
    simp only[List.length_cons]at this⊢
    omega
   ·rcases List.mem_cons.mp hf with rfl|hf
    ·have:=hne (o6,xs6) (.head _)
     show(xs6++[Bw.a w6]).length<=i+1
     rw[List.length_append]
     exact Nat.succ_le_succ this
    ·exact Nat.le_succ_of_le (hne f (.tail _ hf))
 ·rintro σ H6 ⟨⟨_,_,rfl⟩,⟨hs,st,hrun,hal,p6,hlst,hne⟩⟩
  rw[show(wV ws).length=ws.length by unfold wV;rw[List.length_map],List.drop_length]at hrun
  have hrun:brun [(0,[])] ws=some st:=hrun
  have sH6:Same H H6:=(s1.trans sB).trans p6.same
  have h6o:=p6.op
  have h6h:=p6.hd
  obtain⟨o6,xs6,s6',rfl⟩:∃o6 xs6 s6',st=(o6,xs6)::s6':=by
   cases st with
   |nil=>exact absurd rfl hal.2
   |cons f s'=>exact⟨f.1,f.2,s',rfl⟩
  cases s6' with
  |cons f7 s7' =>
   have tt:=(hE fun⟨bs,hb⟩=>by
    have:=((hRd bs).mp hb).1
    rw[hrun]at this
    cases this).same sH6
   have eO:opsV ((o6,xs6)::f7::s7')=opsV (f7::s7')++[.str ⟨#[o6]⟩]:=by
    unfold opsV
    rw[List.dropLast_cons_of_ne_nil (by simp),List.map_cons,List.reverse_cons]
   rw[eO]at h6o
   fail "R"
   refine ifT (by simp) ?_
   fail "R"
   exact raise_at BadText.c tt
  |nil =>
   have hb:=brun_bot hrun
   obtain rfl:o6=0:=Option.some.inj hb
   obtain⟨h6,hs6,vs6,rfl,f1,f2,f4,f5⟩:=p6.fr
   obtain rfl:hs6=[]:=f5
   have h6o:H6 o=some (.lst []):=p6.op
   have h6h:H6 hl=some (.lst [.ref h6]):=p6.hd
   fail "R"
   exact k _ _ _ _ sH6 ((hRd _).mpr ⟨hrun,fun b hb=>hal.1 _ (.head _) b hb⟩) f1 (f2.imp (M':=[]) fun _ _ z=>O.sub z fun _ h=>absurd h List.not_mem_nil)
end
def spScan1(R:RvT)(Gd:Bw->Prop)(cB gK:Addr):Sp:=fun vs H Q E=>∃l:List Nat,vs=[.str (ofL l),.ref gK]/\l.length<=2900/\((¬ ∃b,Reads Gd l [b])->Told E H cB "at" (.int 0))/\∀(b:Bw) (v:V) (H':Hp),Same H H'->Reads Gd l [b]->R [] H' b v->Q v H'
theorem Reads.one{Gd:Bw->Prop}{l:List Nat}{a b:List Bw}(h1:Reads Gd l a)(h2:Reads Gd l b):a=b:=by
 have z:=h1.2.1
 rw[h2.2.1]at z
 cases z
 rfl
section
variable {P:Program}{w:World}{K:PySem.W.Frag}{mg:Str->Option Value}{base:Heap}{gK gC cB fB:Addr}{cfd dB:FuncData}{Gd:Bw->Prop}{R:RvT}
theorem nm_scanned_one:Nm ["text","close","found"] (defScope s_scanned_one):=by decide +kernel
theorem lm_scanned_one:Lm ["text","close","found"] (defScope s_scanned_one):=by decide +kernel
theorem sc_scanned_one:FnScope ["text","close","found"] ["text","close"] (defScope s_scanned_one):=⟨rfl,rfl,rfl,by decide +kernel,rfl,by decide +kernel,by decide +kernel⟩
theorem ok_scan1{f:Addr}{fd:FuncData}{jc:Nat}(hj:4<=jc)(F:Fun K "scanned_one" "scanned_one" s_scanned_one f fd)(SC:HasE P w K mg base "scanned" jc ["text","close"] (spScan R Gd cB gK) gC cfd)(BadText:Rsd P w K mg base "BadText" "at" cB fB dB)(z_len:mg "len"=none):FnOk P w K mg base (CXE P w) (jc+1) f fd ["text","close"] (spScan1 R Gd cB gK):=by
 refine F.okE sc_scanned_one (fun vs H Q E h=>?_) (fun cdv A outer s H vs Q E hr h=>?_)
 ·obtain⟨_,rfl,_⟩:=h
  rfl
 obtain⟨l,rfl,hlen,hE,k⟩:=h
 refine⟨_,(@pss_cons _ _ _ _ _ (@sa _ _ _ _ _ _ sc_scanned_one.nd lm_scanned_one 2 (@pe_call _ _ _ _ _ _ _ _ _ _ _ _ _ _ _ _ SC.ok (hr.mono (by omega)) (by show _=_;kernel_rfl) SC.at' SC.kp SC.bd .nil passE (@pa_c _ _ _ _ _ (va nm_scanned_one 0) (pa_c (va nm_scanned_one 1) pa_nil) (by rfl)) (by decide) (by rfl) (by rfl)) (by rfl) (by kernel_rfl) (by exact .inl rfl)) (@pss_cons _ _ _ _ _ (@ps_if _ _ _ _ _ _ _ _ (@pt_cmpR _ _ _ _ _ _ _ _ op_ne (@pe_callB _ _ _ _ _ _ _ _ _ call_len_seq (by show _=_;kernel_rfl) z_len PySem.boot_len (pa_c (va nm_scanned_one 2) pa_nil) (by decide) (by decide) (by rfl) (by rfl)) pe_int (nomark _)) (@pss_one _ _ _ (@ps_raise _ _ _ _ _ rfl (pe_errY BadText.k BadText.ok (hr.mono (by omega)) (by show _=_;kernel_rfl) BadText.m BadText.bd .nil pass0 (pa_c pe_int pa_nil)))) pss_nil) (@pss_one _ _ _ (@ps_ret _ _ _ _ (pe_ix ix_list (va nm_scanned_one 2) pe_int (fun _ _=>rfl)))))),?_⟩
 try dsimp only[cx_K]
 try dsimp only[cxE_K,cxE_w,cxo_K,cxo_w]
 have hE0:(¬ ∃bs,Reads Gd l bs)->Told E H cB "at" (.int 0):=fun z=>hE fun⟨b,hb⟩=>z ⟨_,hb⟩
 fail "R"
 intro bs p us H1 s1 hb h1 r1
 have lu:=r1.len
 by_cases hl:us.length=1
 ·obtain⟨b,rfl⟩:∃b,bs=[b]:=by
   rw[lu]at hl
   exact List.length_eq_one_iff.mp hl
  obtain⟨v,q,rfl,r2,e⟩:=r1
  have e:q=[]:=e
  subst e
  fail "R"
  exact k _ _ _ s1 hb r2
 ·have tt:=(hE fun⟨b,h2⟩=>hl (by rw[lu,hb.one h2];rfl)).same s1
  fail "R"
  refine ifT (by have z:¬((us.length:Int)=1):=(by omega);simpa using z) ?_
  fail "R"
  exact raise_at BadText.c tt
end
end G12
namespace L2
open PySem PySem.Spec PyProof.Rows
theorem starts_one(l:List Nat)(k:Nat):Txt.startswith (ofL l) ⟨#[k]⟩=decide (l[0]?=some k):=by
 have h:=StrLaws.subAt_one (ofL l) k 0
 rw[toList_ofL]at h
 unfold Txt.startswith
 by_cases e:l[0]?=some k
 ·have:=h.mpr e
  rw[decide_eq_true e,decide_eq_true this.1,this.2]
  rfl
 ·rw[decide_eq_false e]
  cases h1:decide (0+(⟨#[k]⟩:Str).length<=(ofL l).length)with
  |false=>rfl
  |true =>
   cases h2:Builtin.Str.subAt (ofL l) ⟨#[k]⟩ 0 with
   |false=>rfl
   |true=>exact absurd (h.mp ⟨of_decide_eq_true h1,h2⟩) e
theorem slice_init{l:List Nat}(h:l≠[]):Txt.slice (ofL l) none (some (-1))=ofL l.dropLast:=by
 have hl:1<=l.length:=by cases l with|nil=>exact absurd rfl h|cons=>exact Nat.le_add_left 1 _
 show StrLaws.sliceText (ofL l) none (some (-1))=_
 rw[StrLaws.sliceText_to_neg (by decide) (by rw[ofL_len];omega),toList_ofL,ofL_len]
 show ofL ((l.drop 0).take ((-1:Int)+(l.length:Int) - 0).toNat)=_
 rw[List.drop_zero,List.dropLast_eq_take,show((-1:Int)+(l.length:Int) - 0).toNat=l.length-1 by omega]
section
variable {X:Cx}
theorem call_isSl(K:PySem.W.Frag)(hK:X.K=K):CallR X (.builtin "isinstance") (fun xs H Q=>∃x,xs=[x,.ty "str"]/\((∃p ys,x=.ref p/\SqL K H p ys/\Q (.bl false) H)\/∃z,x=.str z/\Q (.bl true) H)):=by
 subst hK
 intro pins s σ H xs us Q I r h
 obtain⟨x,rfl,h⟩:=h
 obtain⟨u,w',rfl,r1,r2⟩:=vals2 r
 obtain rfl:w'=Value.type "str":=r2
 rcases h with⟨p,ys,rfl,hq,q⟩|⟨z,rfl,q⟩
 ·obtain rfl:u=Value.ref p:=r1
  obtain⟨its,rv,pl,hz⟩:=I.list hq
  obtain⟨o,ho,hc,hd⟩:=pl.isList
  exact IsiPair.list_str ho hc ⟨.bl false,H,I.tok _,rfl,q⟩
 ·obtain⟨t,rfl⟩:=r1
  exact IsiPair.str_str ⟨.bl true,H,I.tok _,rfl,q⟩
end
theorem pe_disp3{X:Cx}{pos:Pos}{k1 k2 k3 v1 v2 v3:Expr}{t1 t2 t3 s1 s2 s3:TE}(a1:PE X k1 t1)(b1:PE X v1 s1)(a2:PE X k2 t2)(b2:PE X v2 s2)(a3:PE X k3 t3)(b3:PE X v3 s3) :
  PE X (.Dict [some k1,some k2,some k3] [v1,v2,v3] pos) (tDisp [(t1,s1),(t2,s2),(t3,s3)]) :=
 pe_disp (pps_cons a1 b1 (pps_cons a2 b2 (pps_cons a3 b3 pps_nil))) rfl rfl (List.cons_ne_nil _ _) (by show 3<=15;decide)
theorem mt_endswith{X:Cx}:MtR X "str.endswith" (fun x vs H Q=>∃z y,x=.str z/\vs=[.str y]/\Q (.bl (Txt.endswith z y)) H):=by
 intro pins s σ H x xs v us Q I rx rs h
 obtain⟨z,y,rfl,rfl,q⟩:=h
 obtain⟨t,rfl⟩:=rx
 obtain⟨u,rfl,t',rfl⟩:=vals1 rs
 exact call_gives F.slot_str_endswith (typeIs_str _ _ _) F.entry_str_endswith (F.args_str_endswith_2 _ _) (gives_str_endswith z y t t') ⟨.bl _,H,I,rfl,q⟩
theorem ends_one(l:List Nat)(k:Nat):Txt.endswith (ofL l) ⟨#[k]⟩=decide (l.getLast?=some k):=by
 have h:=StrLaws.subAt_one (ofL l) k ((ofL l).length-1)
 rw[toList_ofL]at h
 have e0:l.getLast?=l[(ofL l).length-1]?:=by rw[List.getLast?_eq_getElem?,ofL_len]
 show(decide (0+1<=(ofL l).length)&&Builtin.Str.subAt (ofL l) ⟨#[k]⟩ ((ofL l).length-1))=_
 by_cases e:l[(ofL l).length-1]?=some k
 ·have h1:=h.mpr e
  have hl:0+1<=(ofL l).length:=by
   have:=h1.1
   have z:(ofL l).length-1+1<=(ofL l).length:=this
   omega
  rw[e0,decide_eq_true e,decide_eq_true hl,h1.2]
  rfl
 ·rw[e0,decide_eq_false e]
  by_cases hl:0+1<=(ofL l).length
  ·cases h2:Builtin.Str.subAt (ofL l) ⟨#[k]⟩ ((ofL l).length-1)with
   |false=>rw[Bool.and_false]
   |true=>exact absurd (h.mp ⟨by show(ofL l).length-1+1<=_;omega,h2⟩) e
  ·rw[decide_eq_false hl]
   rfl
section
variable {X:Cx}
theorem call_isSt(K:PySem.W.Frag)(hK:X.K=K):CallR X (.builtin "isinstance") (fun xs H Q=>∃x,xs=[x,.ty "str"]/\((∃p ys,x=.ref p/\SqT K H p ys/\Q (.bl false) H)\/(∃z,x=.str z/\Q (.bl true) H)\/∃z,x=.int z/\Q (.bl false) H)):=by
 subst hK
 intro pins s σ H xs us Q I r h
 obtain⟨x,rfl,h⟩:=h
 obtain⟨u,w',rfl,r1,r2⟩:=vals2 r
 obtain rfl:w'=Value.type "str":=r2
 rcases h with⟨p,ys,rfl,hq,q⟩|⟨z,rfl,q⟩|⟨z,rfl,q⟩
 ·obtain rfl:u=Value.ref p:=r1
  obtain⟨its,rv,pl,hz⟩:=I.tuple hq
  obtain⟨o,ho,hc,n,hd⟩:=pl
  exact IsiPair.tuple_str ho hc ⟨.bl false,H,I.tok _,rfl,q⟩
 ·obtain⟨t,rfl⟩:=r1
  exact IsiPair.str_str ⟨.bl true,H,I.tok _,rfl,q⟩
 ·obtain⟨t,rfl⟩:=r1
  exact IsiPair.int_str ⟨.bl false,H,I.tok _,rfl,q⟩
end
end L2
namespace G12
open PySem L2
def RTh(K:PySem.W.Frag):RvT:=fun _ H b v=>(∃w,b=.a w/\v=.str (ofL w))\/∃o ws t,b=.g o ws/\ThOk t/\b=thB t/\Rp K H (thT t) v
theorem rth_ok(K:PySem.W.Frag):RvOk (RTh K):=⟨fun h k=>h.imp id fun⟨o,ws,t,e,h1,h2,r⟩=>⟨o,ws,t,e,h1,h2,r.kt k.kt⟩,fun h _=>h,fun _ _ w=>.inl ⟨w,rfl,rfl⟩⟩
theorem slice_in{a:Nat}{l:List Nat}(h:l≠[]):Txt.slice (ofL (a::l)) (some 1) (some (-1))=ofL l.dropLast:=by
 have hl:1<=l.length:=by cases l with|nil=>exact absurd rfl h|cons=>exact Nat.le_add_left 1 _
 show StrLaws.sliceText (ofL (a::l)) (some 1) (some (-1))=_
 rw[StrLaws.sliceText_neg_hi _ _ (by decide) (by rw[ofL_len,List.length_cons];omega),StrLaws.sliceText_plain ⟨by decide,by rw[ofL_len,List.length_cons];omega,by rw[toList_ofL,ofL_len];omega⟩,toList_ofL,ofL_len,List.length_cons]
 show ofL (((a::l).drop 1).take _)=_
 rw[List.drop_one,List.tail_cons,List.dropLast_eq_take,show((-1:Int)+((l.length+1:Nat):Int) - 1).toNat=l.length-1 by omega]
theorem thT_t(t:Th):∃ts,thT t=.t ts:=by cases t<;>(unfold thT;exact⟨_,rfl⟩)
def spThing(K:PySem.W.Frag)(cB:Addr):Sp:=fun vs H Q E=>∃(v:V) (b:Bw) (M:List Addr),vs=[v]/\RTh K M H b v/\(∀w,b=.a w->w.length<=3000)/\(¬good b->Told E H cB "at" (.int 0))/\∀(t:Th) (v':V) (H':Hp),Same H H'->ThOk t->b=thB t->Rp K H' (thT t) v'->Q v' H'
section
variable {P:Program}{w:World}{K:PySem.W.Frag}{mg:Str->Option Value}{base:Heap}{gF cB fB:Addr}{ffd dB:FuncData}
theorem nm_thing_of:Nm ["item"] (defScope s_thing_of):=by decide +kernel
theorem sc_thing_of:FnScope ["item"] ["item"] (defScope s_thing_of):=⟨rfl,rfl,rfl,by decide +kernel,rfl,by decide +kernel,by decide +kernel⟩
theorem ok_thingof{f:Addr}{fd:FuncData}(F:Fun K "thing_of" "thing_of" s_thing_of f fd)(IFG:Has P w K mg base "is_figures" 1 ["text","most"] spIsFig gF ffd)(BadText:Rsd P w K mg base "BadText" "at" cB fB dB)(z_isinstance:mg "isinstance"=none)(z_str:mg "str"=none)(z_int:mg "int"=none):FnOk P w K mg base (CXE P w) 3 f fd ["item"] (spThing K cB):=by
 refine F.okE sc_thing_of (fun vs H Q E h=>?_) (fun cdv A outer s H vs Q E hr h=>?_)
 ·obtain⟨_,_,_,rfl,_⟩:=h
  rfl
 obtain⟨v,b,M,rfl,r,hlen,hE,k⟩:=h
 refine⟨_,(@pss_cons _ _ _ _ _ (@ps_if _ _ _ _ _ _ _ _ (@pt_not _ _ _ _ (@pt_val _ _ _ (@pe_callB _ _ _ _ _ _ _ _ _ (call_isSt K rfl) (by show _=_;kernel_rfl) z_isinstance PyProof.Rows.boot_isinstance (@pa_c _ _ _ _ _ (va nm_thing_of 0) (pa_c (pe_bltn (v:=.ty "str") (by show _=_;kernel_rfl) z_str (by decide +kernel) rfl) pa_nil) (by rfl)) (by decide) (by decide) (by rfl) (by rfl)) (by intro _;rfl))) (@pss_one _ _ _ (ps_ret (va nm_thing_of 0))) pss_nil) (@pss_cons _ _ _ _ _ (@ps_if _ _ _ _ _ _ _ _ (@pt_val _ _ _ (@pe_call _ _ _ _ _ _ _ _ _ _ _ _ _ _ _ _ IFG.ok (hr.mono (by omega)) (by show _=_;kernel_rfl) IFG.at' IFG.kp IFG.bd .nil pass0 (pa_c (va nm_thing_of 0) (pa_c pe_int pa_nil)) (by decide) (by rfl) (by rfl)) (by intro _;rfl)) (@pss_one _ _ _ (@ps_ret _ _ _ _ (@pe_tup _ _ _ _ _ (@pa_c _ _ _ _ _ pe_str (@pa_c _ _ _ _ _ (@pe_callTy _ _ _ _ _ _ _ _ _ call_intS (by show _=_;kernel_rfl) z_int PyProof.Rows.boot_int (pa_c (va nm_thing_of 0) pa_nil) (by decide) (by decide) (by rfl) (by rfl)) pa_nil (by rfl)) (by rfl))))) pss_nil) (@pss_cons _ _ _ _ _ (@ps_if _ _ _ _ _ _ _ _ (PW.pt (@pw_and _ _ _ _ _ _ _ (@pt_val _ _ _ (pe_bm PySem.F.plainAttrs_str PySem.F.slot_str_startswith PySem.F.type_str_startswith mt_startswith (va nm_thing_of 0) (pa_c pe_str pa_nil) (hbase:=by kernel_rfl) (hfew:=by kernel_rfl) (hline:=by kernel_rfl) (hs:=by kernel_rfl) (hplain:=by kernel_rfl)) (by intro _;rfl)) (@pw_and _ _ _ _ _ _ _ (@pt_val _ _ _ (pe_bm PySem.F.plainAttrs_str PySem.F.slot_str_endswith PySem.F.type_str_endswith mt_endswith (va nm_thing_of 0) (pa_c pe_str pa_nil) (hbase:=by kernel_rfl) (hfew:=by kernel_rfl) (hline:=by kernel_rfl) (hs:=by kernel_rfl) (hplain:=by kernel_rfl)) (by intro _;rfl)) (@pw_and1 _ _ _ _ (@pt_val _ _ _ (@pe_call _ _ _ _ _ _ _ _ _ _ _ _ _ _ _ _ IFG.ok (hr.mono (by omega)) (by show _=_;kernel_rfl) IFG.at' IFG.kp IFG.bd .nil pass0 (@pa_c _ _ _ _ _ (@pe_slice _ _ _ _ _ _ _ _ _ _ sl_str (va nm_thing_of 0) (po_some pe_int) (po_some (pe_un un_neg pe_int))) (pa_c pe_int pa_nil) (by rfl)) (by decide) (by rfl) (by rfl)) (by intro _;rfl)))))) (@pss_one _ _ _ (@ps_ret _ _ _ _ (@pe_tup _ _ _ _ _ (@pa_c _ _ _ _ _ pe_str (@pa_c _ _ _ _ _ (@pe_callTy _ _ _ _ _ _ _ _ _ call_intS (by show _=_;kernel_rfl) z_int PyProof.Rows.boot_int (@pa_c _ _ _ _ _ (@pe_slice _ _ _ _ _ _ _ _ _ _ sl_str (va nm_thing_of 0) (po_some pe_int) (po_some (pe_un un_neg pe_int))) pa_nil (by rfl)) (by decide) (by decide) (by rfl) (by rfl)) pa_nil (by rfl)) (by rfl))))) pss_nil) (@pss_one _ _ _ (@ps_raise _ _ _ _ _ rfl (pe_errY BadText.k BadText.ok (hr.mono (by omega)) (by show _=_;kernel_rfl) BadText.m BadText.bd .nil pass0 (pa_c pe_int pa_nil))))))),?_⟩
 try dsimp only[cx_K]
 try dsimp only[cxE_K,cxE_w,cxo_K,cxo_w]
 refine seq_cut3 ?_
 intro N1 N2 N3 c1 c2 c3
 rcases r with⟨l,rfl,rfl⟩|⟨o,ws,t,e,tk,e2,r⟩
 rotate_left
 ·obtain⟨ts,et⟩:=thT_t t
  have r0:=r
  rw[et]at r0
  obtain⟨a,us,rfl,sq,_⟩:=r0.inv_t
  fail "R"
  refine .inl ⟨_,_,rfl,sq,?_⟩
  fail "R"
  exact k t _ _ (Same.refl _) tk e2 r
 have l3:(ofL l).length<=3000:=by rw[ofL_len];exact hlen l rfl
 fail "R"
 refine .inr (.inl ⟨_,rfl,?_⟩)
 fail "R"
 intro H1 s1
 rw[toList_ofL]
 by_cases hf:figB l 6=true
 ·rw[hf]
  obtain⟨n,hn,rfl⟩:=fig_of hf
  have e2:ofL (digs n)=Str.ofString (toString n):=ofL_toList _
  fail "R"
  intro p hp
  exact k (.num n) _ _ (s1.trans (same_new hp _)) (by unfold ThOk;exact hn) (by rw[thB]) (by rw[thT];exact Rp.new (K:=K) hp (.cons .s (.one .i)))
 rw[show figB l 6=false from Bool.eq_false_iff.mpr hf]
 have s_60:Txt.startswith (ofL l) "<"=decide (l[0]?=some 60):=starts_one l 60
 have s_62:Txt.endswith (ofL l) ">"=decide (l.getLast?=some 62):=ends_one l 62
 have bad:lefB l=false->Told E H1 cB "at" (.int 0):=fun z=>(hE fun g=>(good_a.mp g).elim hf fun z2=>by rw[z]at z2;cases z2).same s1
 unfold lefB at bad
 fail "R"
 rw[s_60]
 by_cases h60:l[0]?=some 60
 rotate_left
 ·rw[decide_eq_false h60]at bad⊢
  have tt:=bad rfl
  fail "R"
  exact raise_at BadText.c tt
 rw[decide_eq_true h60]at bad⊢
 fail "R"
 rw[s_62]
 by_cases h62:l.getLast?=some 62
 rotate_left
 ·rw[decide_eq_false h62]at bad⊢
  have tt:=bad rfl
  fail "R"
  exact raise_at BadText.c tt
 rw[decide_eq_true h62]at bad⊢
 obtain⟨m,rfl⟩:∃m,l=60::m:=by
  cases l with
  |nil=>cases h60
  |cons a m=>exact⟨m,by rw[Option.some.inj h60]⟩
 have hm:m≠[]:=fun z=>by rw[z]at h62;cases h62
 have es:=slice_in (a:=60) hm
 have l4:(Txt.slice (ofL (60::m)) (some 1) (some (-1))).length<=3000:=by
  have:=hlen _ rfl
  rw[es,ofL_len,List.length_dropLast]
  rw[List.length_cons]at this
  omega
 have l5:(ofL (60::m)).length<=sizeLine:=big (by have:=hlen _ rfl;rw[ofL_len];omega)
 fail "R"
 intro H2 s2
 rw[es,toList_ofL]
 have bad:figB m.dropLast 6=false->Told E H1 cB "at" (.int 0):=bad
 by_cases hg:figB m.dropLast 6=true
 rotate_left
 ·have hg:figB m.dropLast 6=false:=Bool.eq_false_iff.mpr hg
  rw[hg]
  have tt:=(bad hg).same s2
  fail "R"
  exact raise_at BadText.c tt
 rw[hg]
 obtain⟨n,hn,en⟩:=fig_of hg
 have e2:Txt.slice (ofL (60::m)) (some 1) (some (-1))=Str.ofString (toString n):=by rw[es,←en];exact ofL_toList _
 have el:lefB (60::m)=true:=by
  unfold lefB
  rw[decide_eq_true h60,decide_eq_true h62]
  exact hg
 have em:60::m=60::(digs n++[62]):=by
  obtain⟨n',hn',e'⟩:=lefB_inv el
  have z:m=digs n'++[62]:=by injection e'
  rw[z,List.dropLast_concat]at en
  rw[z,en]
 fail "R"
 ·exact congrArg (fun x=>[V.str x]) e2
 refine⟨hn.1,hn.2,?_⟩
 fail "R"
 intro p hp
 exact k (.left n) _ _ ((s1.trans s2).trans (same_new hp _)) (by unfold ThOk;exact hn) (by rw[thB,em]) (by rw[thT];exact Rp.new (K:=K) hp (.cons .s (.one .i)))
end
def spThings(K:PySem.W.Frag)(cB:Addr):Sp:=fun vs H Q E=>∃(p:Addr) (us:List V) (ws:List Bw) (M:List Addr),vs=[.ref p]/\H p=some (.lst us)/\Rvs (RTh K) M H ws us/\us.length<=3000/\(∀b∈ws,gd b)/\((¬ ∀b∈ws,good b)->Told E H cB "at" (.int 0)) /\
 ∀(ts:List Th) (v':V) (H':Hp),Same H H'->ThOks ts->ws=thBs ts->Rp K H' (.t (thTs ts)) v'->Q v' H'
theorem gd_good{o:Nat}{ws:List Bw}(h:gd (.g o ws)):good (.g o ws):=h.elim (fun⟨_,e,_⟩=>nomatch e) id
section
variable {P:Program}{w:World}{K:PySem.W.Frag}{mg:Str->Option Value}{base:Heap}{gN gT cB fB:Addr}{nfd tfd dB:FuncData}
theorem nm_close_thing:Nm ["opener","items"] (defScope s_close_thing):=by decide +kernel
theorem sc_close_thing:FnScope ["opener","items"] ["opener","items"] (defScope s_close_thing):=⟨rfl,rfl,rfl,by decide +kernel,rfl,by decide +kernel,by decide +kernel⟩
theorem ok_closething{f:Addr}{fd:FuncData}(F:Fun K "close_thing" "close_thing" s_close_thing f fd)(IN:Has P w K mg base "is_name" 1 ["text"] spIsName gN nfd)(THS:HasE P w K mg base "things_of" 4 ["items"] (spThings K cB) gT tfd)(BadText:Rsd P w K mg base "BadText" "at" cB fB dB)(z_isinstance:mg "isinstance"=none)(z_str:mg "str"=none):FnOk P w K mg base (CXE P w) 5 f fd ["opener","items"] (spClose (RTh K) gd cB):=by
 refine F.okE sc_close_thing (fun vs H Q E h=>?_) (fun cdv A outer s H vs Q E hr h=>?_)
 ·obtain⟨_,_,_,_,_,rfl,_⟩:=h
  rfl
 obtain⟨c,ws,p,us,M,rfl,hc,hp,pM,rv,hgd,hlen,hE,k⟩:=h
 refine⟨_,(@pss_cons _ _ _ _ _ (@ps_if _ _ _ _ _ _ _ _ (pt_cmpR op_eq (va nm_close_thing 0) pe_str (nomark _)) (@pss_one _ _ _ (@ps_ret _ _ _ _ (@pe_tup _ _ _ _ _ (@pa_c _ _ _ _ _ pe_str (@pa_c _ _ _ _ _ (@pe_call _ _ _ _ _ _ _ _ _ _ _ _ _ _ _ _ THS.ok (hr.mono (by omega)) (by show _=_;kernel_rfl) THS.at' THS.kp THS.bd .nil passE (pa_c (va nm_close_thing 1) pa_nil) (by decide) (by rfl) (by rfl)) pa_nil (by rfl)) (by rfl))))) pss_nil) (@pss_cons _ _ _ _ _ (@ps_if _ _ _ _ _ _ _ _ (PW.pt (@pw_or _ _ _ _ _ _ _ (@pt_not _ _ _ _ (pt_truth (va nm_close_thing 1) (fun _=>rfl))) (@pw_or _ _ _ _ _ _ _ (@pt_not _ _ _ _ (@pt_val _ _ _ (@pe_callB _ _ _ _ _ _ _ _ _ (call_isSt K rfl) (by show _=_;kernel_rfl) z_isinstance PyProof.Rows.boot_isinstance (@pa_c _ _ _ _ _ (pe_ix ix_list (va nm_close_thing 1) pe_int (fun _ _=>rfl)) (pa_c (pe_bltn (v:=.ty "str") (by show _=_;kernel_rfl) z_str (by decide +kernel) rfl) pa_nil) (by rfl)) (by decide) (by decide) (by rfl) (by rfl)) (by intro _;rfl))) (@pw_or1 _ _ _ _ (@pt_not _ _ _ _ (@pt_val _ _ _ (@pe_call _ _ _ _ _ _ _ _ _ _ _ _ _ _ _ _ IN.ok (hr.mono (by omega)) (by show _=_;kernel_rfl) IN.at' IN.kp IN.bd .nil pass0 (@pa_c _ _ _ _ _ (pe_ix ix_list (va nm_close_thing 1) pe_int (fun _ _=>rfl)) pa_nil (by rfl)) (by decide) (by rfl) (by rfl)) (by intro _;rfl))))))) (@pss_one _ _ _ (@ps_raise _ _ _ _ _ rfl (pe_errY BadText.k BadText.ok (hr.mono (by omega)) (by show _=_;kernel_rfl) BadText.m BadText.bd .nil pass0 (pa_c pe_int pa_nil)))) pss_nil) (@pss_one _ _ _ (@ps_ret _ _ _ _ (@pe_tup _ _ _ _ _ (@pa_c _ _ _ _ _ pe_str (@pa_c _ _ _ _ _ (pe_ix ix_list (va nm_close_thing 1) pe_int (fun _ _=>rfl)) (@pa_c _ _ _ _ _ (@pe_call _ _ _ _ _ _ _ _ _ _ _ _ _ _ _ _ THS.ok (hr.mono (by omega)) (by show _=_;kernel_rfl) THS.at' THS.kp THS.bd .nil passE (@pa_c _ _ _ _ _ (pe_slice sl_list (va nm_close_thing 1) (po_some pe_int) po_none) pa_nil (by rfl)) (by decide) (by rfl) (by rfl)) pa_nil (by rfl)) (by rfl)) (by rfl))))))),?_⟩
 try dsimp only[cx_K]
 try dsimp only[cxE_K,cxE_w,cxo_K,cxo_w]
 refine seq_cut2 ?_
 intro N1 N2 c1 c2
 rcases hc with rfl|rfl
 rotate_left
 ·have bad:(¬ ∀b∈ws,good b)->Told E H cB "at" (.int 0):=fun z=>hE fun g=>z (good_row.mp (gd_good g))
  fail "R"
  intro ts v1 H1 s1 tk e r1
  fail "R"
  intro p2 hp2
  have g:good (.g 91 ws):=⟨.row ts,by unfold ThOk;exact tk,by rw[thB,e]⟩
  refine k _ _ (s1.trans (same_new hp2 _)) (.inr g) (.inr ⟨91,ws,.row ts,rfl,by unfold ThOk;exact tk,by rw[thB,e],?_⟩)
  rw[thT]
  exact Rp.new (K:=K) hp2 (.cons .s (.one r1))
 cases ws with
 |nil =>
  obtain rfl:us=[]:=rv
  have tt:=hE fun g=>by obtain⟨_,_,e,_⟩:=good_tag.mp (gd_good g);cases e
  fail "R"
  exact raise_at BadText.c tt
 |cons b r =>
  obtain⟨v,q,rfl,r1,r2⟩:=rv
  have a0:atI (v::q) 0=some v:=atI_nat (j:=0) rfl
  rcases r1 with⟨l,rfl,rfl⟩|⟨o,xs,t,e,tk,e2,r1⟩
  rotate_left
  ·obtain⟨ts,et⟩:=thT_t t
   rw[et]at r1
   obtain⟨a,us,rfl,sq,_⟩:=r1.inv_t
   have tt:=hE fun g=>by obtain⟨_,_,e',_⟩:=good_tag.mp (gd_good g);rw[e]at e';cases e'
   fail "R"
   refine .inl ⟨_,_,rfl,sq,?_⟩
   fail "R"
   exact raise_at BadText.c tt
  have ll:=gd_len (hgd _ (.head _))
  fail "R"
  refine .inr (.inl ⟨_,rfl,?_⟩)
  fail "R"
  intro H1 s1
  by_cases hn:nmB l=true
  rotate_left
  ·have tt:=(hE fun g=>by obtain⟨_,_,e',hw,_⟩:=good_tag.mp (gd_good g);cases e';exact hn hw).same s1
   rw[Bool.eq_false_iff.mpr hn]
   fail "R"
   exact raise_at BadText.c tt
  rw[hn]
  have hp1:=s1 _ _ hp
  have ec:cutV (.str (ofL l)::q) (some 1) none=q:=by rw[show(some (1:Int))=some ((1:Nat):Int)from rfl,cut_fromL];rfl
  have lq:q.length<=3000:=by rw[List.length_cons]at hlen;omega
  fail "R"
  intro p3 hp3
  rw[ec]
  have s3:=same_new hp3 (.lst q)
  have h3:upd H1 p3 (.lst q) p3=some (.lst q):=upd_same
  generalize upd H1 p3 (.lst q)=H3 at s3 h3⊢
  have r3:Rvs (RTh K) M H3 r q:=r2.imp fun _ _ z=>(rth_ok K).keep z (Kl2.same (s1.trans s3))
  have hg3:∀b∈r,gd b:=fun b hb=>hgd b (.tail _ hb)
  have bad:(¬ ∀b∈r,good b)->Told E H3 cB "at" (.int 0):=fun z=>(hE fun g=>z (by obtain⟨_,_,e',_,h'⟩:=good_tag.mp (gd_good g);cases e';exact h')).same (s1.trans s3)
  fail "R"
  intro ts v1 H4 s4 tk e r4
  fail "R"
  intro p5 hp5
  have tk2:ThOk (.tag (ofL l) ts):=by unfold ThOk;exact⟨nmB_ok hn,tk⟩
  have eb:Bw.g 40 (.a l::r)=thB (.tag (ofL l) ts):=by rw[thB,e,toList_ofL]
  refine k _ _ (((s1.trans s3).trans s4).trans (same_new hp5 _)) (.inr ⟨_,tk2,eb⟩) (.inr ⟨40,_,_,rfl,tk2,eb,?_⟩)
  rw[thT]
  exact Rp.new (K:=K) hp5 (.cons .s (.cons .s (.one r4)))
end
def spReadT(K:PySem.W.Frag)(cB:Addr):Sp:=fun vs H Q E=>∃l:List Nat,vs=[.str (ofL l)]/\l.length<=2900/\((¬ ∃t,ThOk t/\l=(thB t).txt)->Told E H cB "at" (.int 0))/\∀(t:Th) (v:V) (H':Hp),Same H H'->ThOk t->l=(thB t).txt->Rp K H' (thT t) v->Q v H'
theorem reads_t{t:Th}(k:ThOk t):Reads gd (thB t).txt [thB t]:=by
 obtain⟨a,b⟩:=thing_read k
 exact⟨a,b,fun x hx=>by rw[List.mem_singleton.mp hx];exact .inr ⟨t,k,rfl⟩⟩
section
variable {P:Program}{w:World}{K:PySem.W.Frag}{mg:Str->Option Value}{base:Heap}{gK gS gT cB:Addr}{kfd sfd tfd:FuncData}
theorem nm_read_thing:Nm ["text"] (defScope s_read_thing):=by decide +kernel
theorem sc_read_thing:FnScope ["text"] ["text"] (defScope s_read_thing):=⟨rfl,rfl,rfl,by decide +kernel,rfl,by decide +kernel,by decide +kernel⟩
theorem ok_readthing{f:Addr}{fd:FuncData}{jc js:Nat}(hj:3<=js)(F:Fun K "read_thing" "read_thing" s_read_thing f fd)(CLT:HasE P w K mg base "close_thing" jc ["opener","items"] (spClose (RTh K) gd cB) gK kfd)(SC1:HasE P w K mg base "scanned_one" js ["text","close"] (spScan1 (RTh K) gd cB gK) gS sfd)(THO:HasE P w K mg base "thing_of" 3 ["item"] (spThing K cB) gT tfd):FnOk P w K mg base (CXE P w) (js+1) f fd ["text"] (spReadT K cB):=by
 refine F.okE sc_read_thing (fun vs H Q E h=>?_) (fun cdv A outer s H vs Q E hr h=>?_)
 ·obtain⟨_,rfl,_⟩:=h
  rfl
 obtain⟨l,rfl,hlen,hE,k⟩:=h
 refine⟨_,(@pss_one _ _ _ (@ps_ret _ _ _ _ (@pe_call _ _ _ _ _ _ _ _ _ _ _ _ _ _ _ _ THO.ok (hr.mono (by omega)) (by show _=_;kernel_rfl) THO.at' THO.kp THO.bd .nil passE (@pa_c _ _ _ _ _ (@pe_call _ _ _ _ _ _ _ _ _ _ _ _ _ _ _ _ SC1.ok (hr.mono (by omega)) (by show _=_;kernel_rfl) SC1.at' SC1.kp SC1.bd .nil passE (@pa_c _ _ _ _ _ (va nm_read_thing 0) (pa_c (pe_glob (v:=.ref gK) (by show _=_;kernel_rfl) CLT.at' rfl) pa_nil) (by rfl)) (by decide) (by rfl) (by rfl)) pa_nil (by rfl)) (by decide) (by rfl) (by rfl)))),?_⟩
 try dsimp only[cx_K]
 try dsimp only[cxE_K,cxE_w,cxo_K,cxo_w]
 have hE0:(¬ ∃b,Reads gd l [b])->Told E H cB "at" (.int 0):=fun z=>hE fun⟨t,tk,e⟩=>z ⟨thB t,by rw[e];exact reads_t tk⟩
 fail "R"
 intro b v H1 s1 hrd r1
 have hE1:¬good b->Told E H1 cB "at" (.int 0):=fun z=>(hE fun⟨t,tk,e⟩=>z ⟨t,tk,by
  have z:=hrd.one (b:=[thB t]) (by rw[e];exact reads_t tk)
  injection z⟩).same s1
 have hl:∀w,b=.a w->w.length<=3000:=fun w e=>gd_len (by rw[←e];exact hrd.2.2 b (.head _))
 fail "R"
 intro t v' H2 s2 tk e r2
 refine k t _ _ (s1.trans s2) tk ?_ r2
 have z:=(read_txt hrd.1 hrd.2.1).1
 rw[Bw.txts,Bw.txtr,List.append_nil,e]at z
 exact z
end
end G12
namespace L2
open PySem PySem.Spec PyProof.Rows
open PySem.AutoSeq1 (wpAny_loadPart')
theorem drawsQ{prog:Program}{w:World}{A:Around}{b:Bool}(hh:A.handled=none)(it l:Addr)(hne:l≠it)(items:Array Value) :
  Draws prog w A it [it,l] items.size (fun i v=>items[i]?=some v) (fun i h=>Itq b h it l i/\Isq b h l items) where
 live:=fun _ _ st=>st.1.got
 frame:=fun _ _ _ st hk=>⟨st.1.at fun o e=>hk it (by simp) o e,st.2.at fun o e=>hk l (by simp) o e⟩
 item:=fun i s Q E hi st hQ=>by
  refine nxq_item st.1 st.2 (x:=items[i]) (by simp[hi]) fun h' hit' hs'=>?_
  exact hQ _ h' s.toks (by simp[hi]) ⟨hit',st.2.extBut hs'.extBut hne⟩ hs'
 done:=fun s Q E st hE=>nxq_end hh st.1 st.2 (by simp) hE
set_option maxRecDepth 100000 in
theorem enq_new(b:Bool)(l:Addr)(items:Array Value) :
  Meets (Builtin.«enumerate.__new__» ⟨[.type "enumerate",.ref l],[]⟩) (fun _ R s=>Isq b s.heap l items /\
   R (.ok (.ret (.ref (s.heap.push (itObj b l)).objs.size)))
    {s with heap:=(s.heap.push (itObj b l)).push {cls:=.type "enumerate",data:=.fields #[.none,.bool false,.ref s.heap.objs.size,rawInt 0,.none,.none]}}) :=
 .of_wp fun prog w A R s h=>by
  obtain⟨hp,g,d,tk,os⟩:=s
  obtain⟨hl0,h⟩:=h
  have hsub:=sub_enumerate
  have hL:Isq b (Shared.heap ⟨hp,g,d,tk,os⟩) l items:=hl0
  obtain⟨o,hl⟩:=hl0.got
  obtain⟨oc,od,odt,osl⟩:=o
  wp_walk using wpAny_loadPart' hl
  refine wpAny_stack_any fun st=>wpAny_pure ?_
  split
  ·rename_i c _ _ _ _ _
   cases(c == Value.type "enumerate")
   ·wp_walk using wpAny_loadPart' hl,iterQ hL
    exact⟨_,rfl,h⟩
   ·wp_walk using wpAny_loadPart' hl,iterQ hL
    exact⟨_,rfl,h⟩
  ·wp_walk using wpAny_loadPart' hl,iterQ hL
   exact⟨_,rfl,h⟩
end L2
namespace L2
open PySem PySem.Spec PyProof.Rows
section
variable {prog:Program}{w:World}{A:Around}{E:Value->Shared->Prop}{s:Shared}{b:Bool}
theorem enq_call{l:Addr}{items:Array Value}{Q:Value->Shared->Prop}(hl:Isq b s.heap l items)
  (h:∀h',IsEnum h' (s.heap.objs.size+1) s.heap.objs.size 0 .none->Itq b h' s.heap.objs.size l 0->h'.objs.size=s.heap.objs.size+2 ->
   (∀b o,s.heap.get? b=some o->h'.get? b=some o)->Q (.ref (s.heap.objs.size+1)) {s with heap:=h'}) :
  wpAny (model prog w) A (call (.type "enumerate") [.ref l]) Q E s:=by
 refine callType_new PySem.F.called_enumerate (by decide) (PySem.F.typeCall_enumerate_1 _) (PySem.F.newCall_enumerate_1 _) (fun obj=>PySem.F.args_object_init_2 obj _) PySem.F.entry_enumerate_new (enq_new b l items) ⟨hl,?_⟩
 have hz:(s.heap.push (itObj b l)).objs.size=s.heap.objs.size+1:=Heap.size_push ..
 have he:=Heap.get?_push_size (s.heap.push (itObj b l)) (o:={cls:=.type "enumerate",data:=.fields #[.none,.bool false,.ref s.heap.objs.size,rawInt 0,.none,.none]}) rfl
 show _/\_
 rw[hz]at he⊢
 exact⟨⟨_,he,rfl⟩,h _ he (it_of (Heap.get?_push_of_some _ (Heap.get?_push_size _ rfl))) (by rw[Heap.size_push,hz]) fun b o x=>Heap.get?_push_of_some _ (Heap.get?_push_of_some _ x)⟩
end
def Ite (K : PySem.W.Frag) (b : Bool) (l : Addr) : It :=
  ⟨fun i H => ∃ xs x, SqB K b H l xs ∧ xs[i]? = some x,
   fun i H v H' => ∃ p x, H p = none ∧ v = .ref p ∧ H' = upd H p (.tup [.int i, x]) ∧ ∀ xs, SqB K b H l xs → xs[i]? = some x,
   fun i H => ∃ xs, SqB K b H l xs ∧ xs.length = i⟩
theorem turn_enum{P:Program}{w:World}{K:PySem.W.Frag}{elts:List Expr}{x1:Nat}{pos:Pos}{b:Bool}(e it l:Addr)(d1:e≠it)(d2:l≠it)(d3:l≠e):Turn P w K (.Tuple elts x1 pos) (Ite K b l) [e,it] e
  (fun i h=>(∃old,IsEnum h e it i old)/\Itq b h it l i) where
 mem:=by simp
 obj:=fun i h st c hc=>by
  obtain⟨⟨old,he⟩,h1⟩:=st
  simp only[List.mem_cons,List.not_mem_nil,or_false]at hc
  rcases hc with rfl|rfl
  ·exact⟨_,he,fun v z=>by cases z⟩
  ·cases b with
   |false=>obtain⟨o,e,_,d⟩:=(show h.IsListIter _ l i from h1);exact⟨o,e,fun v z=>by rw[d]at z;cases z⟩
   |true=>obtain⟨o,e,_,d⟩:=(show h.IsTupleIter _ l i from h1);exact⟨o,e,fun v z=>by rw[d]at z;cases z⟩
 keep:=fun i h h' st k=>by
  obtain⟨⟨old,he⟩,h1⟩:=st
  exact⟨⟨old,k e (by simp) _ he⟩,h1.at fun o q=>k it (by simp) o q⟩
 item:=by
  intro X hP hw hK hc i pins s σ H E I hf st hg
  subst hP hw hK
  obtain⟨xs,x,hq,hx⟩:=hg
  obtain⟨⟨old,he⟩,h1⟩:=st
  obtain⟨its,rv,p1,_⟩:=isq_of I hq
  obtain⟨u,hu,ru⟩:=rv.get hx
  have hlt:i<its.toArray.size:=by
   have:=(List.getElem?_eq_some_iff.mp hu).1
   simpa using this
  refine wpAny_pyNext_enum_itemD (drawsQ (A:=X.A.in1) (b:=b) (I.ok.hd hc) it l d2 its.toArray) he ⟨h1,p1⟩ hlt d1 (by simp[d1,Ne.symm d3]) fun y h' tk hy ho hst hT hsz hk=>?_
  have hyu:y=u:=by
   have hy':its[i]?=some y:=by simpa using hy
   rw[hu]at hy'
   exact(Option.some.inj hy').symm
  subst hyu
  refine⟨.ref s.heap.objs.size,rfl,wpAny_letOwnedTupleGo_enum (s:={s with heap:=h',toks:=tk+1}) ho fun h2' he' hs'=>?_⟩
  have ne:∀c∈[e,it],c≠s.heap.objs.size:=fun c hc z=>by
   obtain⟨o,e2⟩:∃o,s.heap.get? c=some o:=by
    simp only[List.mem_cons,List.not_mem_nil,or_false]at hc
    rcases hc with rfl|rfl
    ·exact⟨_,he⟩
    ·exact h1.got
   have:=Heap.lt_size e2
   rw[z]at this
   exact Nat.lt_irrefl _ this
  have kk:∀c o,c∉[e,it]->s.heap.get? c=some o->h2'.get? c=some o:=fun c o hc q=>by
   simp only[List.mem_cons,List.not_mem_nil,or_false,not_or]at hc
   exact(hs'.2 c hc.1).trans (hk c o hc.1 hc.2 q)
  have hT':h2'.get? s.heap.objs.size=some {cls:=.type "tuple",data:=.seq #[.int i tk,y]}:=(hs'.2 _ (ne e (by simp)).symm).trans hT
  refine⟨.ref s.heap.objs.size,upd H s.heap.objs.size (.tup [.int i,x]),I.turnedN (t':=tk+1) hf kk (Nat.le_refl _) ⟨(by show 2<=sizeLine;decide),_,.cons ⟨tk,rfl⟩ (.cons ru .nil),⟨_,hT',rfl,_,rfl⟩,_,hT',rfl⟩,rfl,
   ⟨_,x,I.hok.fresh (Nat.le_refl _),rfl,rfl,fun zs hz2=>by rw[SqB.inj I hz2 hq];exact hx⟩,?_,fun c hc=>?_⟩
  ·exact⟨⟨_,by simpa using he'⟩,hst.1.at fun o q=>(hs'.2 it (Ne.symm d1)).trans q⟩
  ·rw[upd_ne (ne c hc)];exact(hf c hc).1
 done:=by
  intro X hP hw hK hc i pins s σ H E I hf st hg
  subst hP hw hK
  obtain⟨xs,hq,hl⟩:=hg
  obtain⟨⟨old,he⟩,h1⟩:=st
  obtain⟨its,rv,p1,_⟩:=isq_of I hq
  have e1:=rv.length
  have ei:i=its.toArray.size:=by simp;omega
  rw[ei]at h1
  refine wpAny_pyNext_enum_endD (drawsQ (A:=X.A.in1) (b:=b) (I.ok.hd hc) it l d2 its.toArray) he ⟨h1,p1⟩ fun h' hk=>⟨rfl,I.turnedL (t':=s.toks) hf fun c o hc q=>?_⟩
  simp only[List.mem_cons,List.not_mem_nil,or_false,not_or]at hc
  exact hk c o hc.2 q
 self:=fun _ _ _ _ _ st h=>let⟨_,he⟩:=st.1;wpAny_pyIter_enum he h
def iEnum(K:PySem.W.Frag)(t:TA):TI:=fun σ H R=>t σ H fun vs H2=>∃b p xs,vs=[.ref p]/\SqB K b H2 p xs/\R (Ite K b p) H2
theorem pi_enum{X:Cx}{a:Expr}{t:TA}{p1 p2 pos:Pos}{elts:List Expr}{x1:Nat}(K:PySem.W.Frag)(hK:X.K=K)(hg:Gl X "enumerate")(hm:X.mg "enumerate"=none)(ha:PA X [a] t)
  (he:starEach [a] X.env=(false,eval a X.env)::starEach [] X.env:=by rfl) (hpl:(backTo p2 (starEach [] X.env)).any (·.1)=false:=by rfl):PI X (.Tuple elts x1 pos) (.Call (.Name "enumerate" p1) [a] [] p2) (iEnum K t):=by
 subst hK
 intro pins s σ H R I h
 refine wpAny_Call_Name_kw (ld_blt I hg hm (u:=.type "enumerate") (by decide +kernel) ?_ (by decide) (by decide))
 refine PyProof.Rows.callWith_type1 ?_ he hpl
 refine thn (ha p2 pins s σ H _ I h) fun us s1 ⟨vs,H1,I1,r1,q1⟩=>?_
 obtain⟨c,p,xs,rfl,hx,hq⟩:=q1
 obtain⟨u,rfl,ru⟩:=vals1 r1
 obtain rfl:u=Value.ref p:=ru
 obtain⟨its,rv,pl,_⟩:=isq_of I1 hx
 have lt1:@LT.lt Nat _ p s1.heap.objs.size:=by obtain⟨_,e⟩:=pl.got;exact Heap.lt_size e
 refine enq_call pl fun g hz h1 hsz hk=>?_
 refine wpAny_pyIter_enum (s:={s1 with heap:=g}) hz ?_
 refine⟨s1.heap.objs.size+1,[s1.heap.objs.size+1,s1.heap.objs.size],_,_,H1,rfl,I1.kept (t':=s1.toks) hk,turn_enum _ _ p (by show @Ne Nat _ _;omega) (by show @Ne Nat _ _;omega) (by show @Ne Nat _ _;omega),⟨⟨_,hz⟩,h1⟩,fun b hb=>?_,hq⟩
 have hb':s1.heap.objs.size<=b:=by
  simp only[List.mem_cons,List.not_mem_nil,or_false]at hb
  rcases hb with rfl|rfl
  ·exact Nat.le_add_right _ 1
  ·exact Nat.le_refl _
 exact I1.fpOk hb' (I1.hok.fresh hb')
theorem for_enum{K:PySem.W.Frag}{b:Bool}{a:Addr}{xs:List V}{g:TG}{tb:TS}{D:Ends}{σ:St}{H:Hp}(Pv:Nat->St->Hp->Prop)(h0:Pv 0 σ H)(hl:∀i σ H,i<=xs.length->Pv i σ H->SqB K b H a xs)
  (hs:∀i x σ H p,xs[i]?=some x->Pv i σ H->H p=none->g (.ref p) σ (upd H p (.tup [.int i,x])) fun σ2 H2=>tb {D with nx:=Pv (i+1),ct:=Pv (i+1),bk:=D.nx} σ2 H2) (hd:∀σ H,Pv xs.length σ H->D.nx σ H) :
  ∃W:Nat->Nat->St->Hp->Prop,(∃m,W 0 m σ H)/\∀i m σ H,W i m σ H ->
   ((Ite K b a).stop i H/\D.nx σ H)\/((Ite K b a).go i H/\∃N:St->Hp->Prop,(∀σ' H',N σ' H'->∃m',m' < m/\W (i+1) m' σ' H')/\∀x H',(Ite K b a).yld i H x H'->g x σ H' fun σ2 H2=>tb {D with nx:=N,ct:=N,bk:=D.nx} σ2 H2):=by
 refine⟨fun i m σ H=>m=xs.length-i/\i<=xs.length/\Pv i σ H,⟨xs.length,by simp,Nat.zero_le _,h0⟩,?_⟩
 rintro i m σ H ⟨rfl,hi,p⟩
 have q1:=hl i σ H hi p
 by_cases hlt:i<xs.length
 ·refine .inr ⟨⟨xs,xs[i],q1,by simp[hlt]⟩,Pv (i+1),fun σ' H' p'=>⟨xs.length - (i+1),by omega,rfl,hlt,p'⟩,fun x H' y=>?_⟩
  obtain⟨pp,x',hp,rfl,rfl,e1⟩:=y
  exact hs i x' σ H pp (e1 xs q1) p hp
 ·have e:i=xs.length:=by omega
  subst e
  exact .inl ⟨⟨xs,q1,rfl⟩,hd σ H p⟩
section
variable {K:PySem.W.Frag}{σ0:St}{H0:Hp}{g:TG}{tt:TT}{te:TE}{Q:VK}
end
end L2
namespace G12
open PySem L2
def sepV:List V->List V
 | []=>[]
 |x::r=>x::r.flatMap fun y=>[.str " ",y]
theorem sepV_snoc:∀(l:List V) (x:V),sepV (l++[x])=sepV l++if l.isEmpty then [x]else [.str " ",x]
 | [],x=>rfl
 |y::r,x=>by
  show y::(r++[x]).flatMap _=(y::r.flatMap _)++[.str " ",x]
  rw[List.flatMap_append]
  rfl
theorem sepV_len:∀l:List V,(sepV l).length<=2*l.length
 | []=>Nat.le_refl _
 |y::r=>by
  have:(r.flatMap fun y=>[V.str " ",y]).length=2*r.length:=by
   induction r with
   |nil=>rfl
   |cons z q ih=>rw[List.flatMap_cons,List.length_append,ih];show 2+2*q.length=2*(q.length+1);omega
  show(r.flatMap fun y=>[V.str " ",y]).length+1<=2*(r.length+1)
  omega
def spBrk(K:PySem.W.Frag):Sp:=fun vs H Q _=>∃(c:Nat) (p:Addr) (us:List V),vs=[.str ⟨#[c]⟩,.ref p]/\(c=40\/c=91)/\SqT K H p us/\us.length<=1000/\∀(q:Addr) (H':Hp),Same H H'->H q=none->H' q=some (.lst (.str ⟨#[c]⟩::(sepV us++[.str (ofL [clo c])])))->Q (.ref q) H'
section
variable {P:Program}{w:World}{K:PySem.W.Frag}{mg:Str->Option Value}{base:Heap}{aC:Addr}
theorem nm_bracketed:Nm ["opener","words","pieces","at","word"] (defScope s_bracketed):=by decide +kernel
theorem lm_bracketed:Lm ["opener","words","pieces","at","word"] (defScope s_bracketed):=by decide +kernel
theorem sc_bracketed:FnScope ["opener","words","pieces","at","word"] ["opener","words"] (defScope s_bracketed):=⟨rfl,rfl,rfl,by decide +kernel,rfl,by decide +kernel,by decide +kernel⟩
theorem ok_brk{f:Addr}{fd:FuncData}(F:Fun K "bracketed" "bracketed" s_bracketed f fd)(z_enumerate:mg "enumerate"=none)(mC:mg "CLOSE_OF"=some (.ref aC))(dC:KD K w aC [("(",.str ")"),("[",.str "]")]):FnOk P w K mg base CX0 1 f fd ["opener","words"] (spBrk K):=by
 refine F.ok sc_bracketed (fun vs H Q E h=>?_) (fun cdv A outer s H vs Q E hr h=>?_)
 ·obtain⟨_,_,_,rfl,_⟩:=h
  rfl
 obtain⟨c0,p,us,rfl,hc0,hS,hn,k⟩:=h
 have hlk2:cofV.lookup (⟨#[c0]⟩:Str)=some (.str (ofL [clo c0])):=by rcases hc0 with rfl|rfl<;>decide +kernel
 refine⟨_,(@pss_cons _ _ _ _ _ (@sa _ _ _ _ _ _ sc_bracketed.nd lm_bracketed 2 (@pe_lst _ _ _ _ (pa_c (va nm_bracketed 0) pa_nil)) (by rfl) (by kernel_rfl) (by exact .inl rfl)) (@pss_cons _ _ _ _ _ (@ps_for _ _ _ _ _ _ _ _ PassesOwn.never rfl (pi_enum K rfl (by show _=_;kernel_rfl) z_enumerate (pa_c (va nm_bracketed 1) pa_nil)) (@pg_tupK _ _ _ _ _ (2) K rfl rfl (@pgs_cons _ _ _ _ _ (ga sc_bracketed.nd lm_bracketed 3) (pgs_cons (ga sc_bracketed.nd lm_bracketed 4) pgs_nil) (by rfl)) (by rfl) (by rfl)) (@pss_cons _ _ _ _ _ (@ps_if _ _ _ _ _ _ _ _ (pt_cmpR op_gt (va nm_bracketed 3) pe_int (nomark _)) (@pss_one _ _ _ (@ps_expr _ _ _ _ (pe_bm PySem.F.plainAttrs_list PySem.F.slot_list_append PySem.F.type_list_append mt_append (va nm_bracketed 2) (pa_c pe_str pa_nil)) (by rfl))) pss_nil) (@pss_one _ _ _ (@ps_expr _ _ _ _ (@pe_bm _ _ _ _ _ _ _ _ _ _ _ _ PySem.F.plainAttrs_list PySem.F.slot_list_append PySem.F.type_list_append mt_append (va nm_bracketed 2) (pa_c (va nm_bracketed 4) pa_nil) (by rfl) (by rfl) (by rfl) (by rfl) (by rfl)) (by rfl)))) (by intro _;rfl)) (@pss_cons _ _ _ _ _ (@ps_expr _ _ _ _ (@pe_bm _ _ _ _ _ _ _ _ _ _ _ _ PySem.F.plainAttrs_list PySem.F.slot_list_append PySem.F.type_list_append mt_append (va nm_bracketed 2) (@pa_c _ _ _ _ _ (pe_kget (pe_glob (v:=.ref aC) (by show _=_;kernel_rfl) mC rfl) (va nm_bracketed 0) (fun _ _=>rfl)) pa_nil (by rfl)) (by rfl) (by rfl) (by rfl) (by rfl) (by rfl)) (by rfl)) (@pss_one _ _ _ (ps_ret (va nm_bracketed 2)))))),?_⟩
 try dsimp only[cx_K]
 try dsimp only[cx_K,cx_w]
 refine seq_cut3 ?_
 intro N1 N2 N3 c1 c2 c3
 fail "R"
 intro q hq
 have s1:=same_new hq (.lst [.str ⟨#[c0]⟩])
 have h1:upd H q (.lst [.str ⟨#[c0]⟩]) q=some (.lst [.str ⟨#[c0]⟩]):=upd_same
 generalize upd H q (.lst [.str ⟨#[c0]⟩])=H1 at s1 h1⊢
 have hb1:SqB K true H1 p us:=hS.same s1
 fail "R"
 refine for_enum (K:=K) (xs:=us) (fun i σ H2=>(∃y z,σ=[some (.str ⟨#[c0]⟩),some (.ref p),some (.ref q),y,z])/\Same H H2/\H2 q=some (.lst (.str ⟨#[c0]⟩::sepV (us.take i)))) ⟨⟨_,_,rfl⟩,s1,h1⟩ ?_ ?_ ?_
 ·rintro i σ H2 hi ⟨_,s2,_⟩
  exact hS.same s2
 ·rintro i x σ H2 p3 hx ⟨⟨_,_,rfl⟩,s2,h2⟩ hp3
  have s3:=same_new hp3 (.tup [.int i,x])
  have h3:upd H2 p3 (.tup [.int i,x]) p3=some (.tup [.int i,x]):=upd_same
  have h3q:=s3 _ _ h2
  generalize upd H2 p3 (.tup [.int i,x])=H3 at s3 h3 h3q⊢
  have hil:=(List.getElem?_eq_some_iff.mp hx).1
  have etk:us.take (i+1)=us.take i++[x]:=by rw[List.take_succ_eq_append_getElem hil,(List.getElem?_eq_some_iff.mp hx).2]
  have lz:=sepV_len (us.take i)
  have l9:(V.str ⟨#[c0]⟩::sepV (us.take i)).length<10000:=by rw[List.length_cons];rw[List.length_take]at lz;omega
  have l9s:(V.str ⟨#[c0]⟩::sepV (us.take i)).length<sizeLine:=by rw[sizeLine_eq];omega
  have l9t:((V.str ⟨#[c0]⟩::sepV (us.take i))++[V.str " "]).length<sizeLine:=by rw[List.length_append,sizeLine_eq];show _+1<_;omega
  fail "R"
  refine ite2 (fun c=>?_) (fun c=>?_)
  ·have c':(0:Int)<(i:Int):=of_decide_eq_true c
   fail "R"
   ·exact((s2.trans s3).updF hq _).updF hq _
   ·rw[upd_same,etk,sepV_snoc]
    have:(us.take i).isEmpty=false:=by
     cases e:us.take i with
     |nil =>
      have:=congrArg List.length e
      rw[List.length_take]at this
      have:min i us.length=0:=this
      omega
     |cons=>rfl
    rw[this]
    simp
  ·have c':¬(0:Int)<(i:Int):=fun z=>c (decide_eq_true z)
   obtain rfl:i=0:=by omega
   fail "R"
   ·exact(s2.trans s3).updF hq _
   ·rw[upd_same,etk,sepV_snoc]
    rfl
 ·rintro σ H2 ⟨⟨_,_,rfl⟩,s2,h2⟩
  rw[List.take_length]at h2
  have lz:=sepV_len us
  have l9s:(V.str ⟨#[c0]⟩::sepV us).length<sizeLine:=by rw[List.length_cons,sizeLine_eq];omega
  fail "R"
  exact k _ _ (s2.updF hq _) hq (by rw[upd_same];rfl)
end
end G12
namespace L2
open PySem PySem.Spec PyProof.Rows
section
variable {X:Cx}{e:Expr}{te:TE}{z:Str}{k:Nat}{p2 p3 p4:Pos}
end
section
variable {X:Cx}
theorem op_catT0:OpR X (binaryOp .Add) (fun x y H Q=>∃a b ys,x=.ref a/\y=.ref b/\SqT X.K H a []/\SqT X.K H b ys/\Q (.ref b) H):=by
 intro pins s σ H x y u v Q I rx ry h
 obtain⟨a,b,ys,rfl,rfl,ha,hb,q⟩:=h
 cases rx
 cases ry
 obtain⟨its,r1,ht,_⟩:=I.tuple ha
 obtain⟨jts,r2,hb2,_⟩:=I.tuple hb
 cases r1
 obtain⟨⟨cls,dd,data,sl⟩,ho,hc,n,hd⟩:=id ht
 obtain⟨⟨cls2,dd2,data2,sl2⟩,ho2,hc2,n2,hd2⟩:=id hb2
 simp only at hc hd hc2 hd2
 subst hc hd hc2 hd2
 exact concat_meets ⟨_,ho,rfl⟩ ⟨_,ho2,rfl⟩ noFill_tuple_add seq_tuple_add PySem.F.slot_tuple_add PySem.F.entry_tuple_add (PySem.F.args_tuple_add_2 _ _)
   (tuple_addW0 a b _ jts.toArray n n2 dd dd2 sl sl2 (by simp)) ⟨ho,ho2,⟨.ref b,H,I,rfl,q⟩⟩
end
section
variable {X:Cx}
def rCatA(K:PySem.W.Frag):R2:=fun x y H Q=>∃a b xs ys,x=.ref a/\y=.ref b/\SqT K H a xs/\SqT K H b ys/\xs.length+ys.length<=sizeLine/\∀p H',Same H H'->SqT K H' p (xs++ys)->Q (.ref p) H'
theorem op_catTA:OpR X (binaryOp .Add) (rCatA X.K):=by
 intro pins s σ H x y u v Q I rx ry h
 obtain⟨a,b,xs,ys,rfl,rfl,ha,hb,hz,k⟩:=h
 cases xs with
 |nil=>exact op_catT0 pins s σ H _ _ u v Q I rx ry ⟨a,b,ys,rfl,rfl,ha,hb,k b H (Same.refl _) hb⟩
 |cons x r =>
  exact op_catT pins s σ H _ _ u v Q I rx ry ⟨a,b,_,ys,rfl,rfl,ha,hb,(by simp),hz,(fun z=>by subst z;have:=k a H (Same.refl _);rw[List.append_nil]at this;exact this ha),fun _ p hp=>k p _ (same_new hp _) (SqT.of upd_same)⟩
end
end L2
namespace G12
open PySem L2
abbrev Sx:=Th ⊕ Str
def resT:Sx->T
 |.inl t=>thT t
 |.inr s=>.s s
def sepX:List Sx->List Sx
 | []=>[]
 |x::r=>x::r.flatMap fun y=>[.inr " ",y]
def brk(c:Nat)(xs:List Sx):List Sx:=.inr ⟨#[c]⟩::(sepX xs++[.inr (ofL [clo c])])
def pcs:Th->List Sx
 |.num n=>[.inr (ofL (digs n))]
 |.left n=>[.inr (ofL (60::(digs n++[62])))]
 |.row l=>brk 91 (l.map .inl)
 |.tag t l=>brk 40 (.inr t::l.map .inl)
def kidsT:Th->List Th
 |.num _=>[]
 |.left _=>[]
 |.row l=>l
 |.tag _ l=>l
theorem thTs_map:∀l:List Th,thTs l=l.map thT
 | []=>by unfold thTs;rfl
 |x::r=>by unfold thTs;rw[thTs_map r];rfl
theorem sepV_map{K:PySem.W.Frag}{H:Hp}:∀{xs:List Sx}{us:List V},Rps K H (xs.map resT) us->Rps K H ((sepX xs).map resT) (sepV us)
 | [],us,h=>by
  obtain rfl:=h.inv0
  exact .nil
 |x::r,us,h=>by
  obtain⟨v,vs,rfl,g1,g2⟩:=L2.Rps.inv h
  refine .cons g1 ?_
  clear h g1
  induction r generalizing vs with
  |nil =>
   obtain rfl:=L2.Rps.inv0 g2
   exact .nil
  |cons y q ih =>
   obtain⟨v2,vs2,rfl,g3,g4⟩:=L2.Rps.inv g2
   exact .cons .s (.cons g3 (ih _ g4))
theorem brk_rps{K:PySem.W.Frag}{H:Hp}{c:Nat}{xs:List Sx}{us:List V}(h:Rps K H (xs.map resT) us):Rps K H ((brk c xs).map resT) (.str ⟨#[c]⟩::(sepV us++[.str (ofL [clo c])])):=by
 refine .cons .s ?_
 rw[List.map_append]
 exact(sepV_map h).append (.one .s)
def spSpell(K:PySem.W.Frag):Sp:=fun vs H Q _=>∃(v:V) (t:Th),vs=[v]/\Rp K H (thT t) v/\ThOk t/\(kidsT t).length<=900/\∀(q:Addr) (ws:List V) (H':Hp),Same H H'->H q=none->H' q=some (.lst ws)->Rps K H' ((pcs t).map resT) ws->Q (.ref q) H'
section
variable {P:Program}{w:World}{K:PySem.W.Frag}{mg:Str->Option Value}{base:Heap}{gB:Addr}{bfd:FuncData}
theorem nm_spell_thing:Nm ["thing","form"] (defScope s_spell_thing):=by decide +kernel
theorem lm_spell_thing:Lm ["thing","form"] (defScope s_spell_thing):=by decide +kernel
theorem sc_spell_thing:FnScope ["thing","form"] ["thing"] (defScope s_spell_thing):=⟨rfl,rfl,rfl,by decide +kernel,rfl,by decide +kernel,by decide +kernel⟩
theorem ok_spell{f:Addr}{fd:FuncData}(F:Fun K "spell_thing" "spell_thing" s_spell_thing f fd)(BR:Has P w K mg base "bracketed" 1 ["opener","words"] (spBrk K) gB bfd)(z_str:mg "str"=none):FnOk P w K mg base CX0 2 f fd ["thing"] (spSpell K):=by
 refine F.ok sc_spell_thing (fun vs H Q E h=>?_) (fun cdv A outer s H vs Q E hr h=>?_)
 ·obtain⟨_,_,rfl,_⟩:=h
  rfl
 obtain⟨v,t,rfl,r,tk,hw,k⟩:=h
 refine⟨_,(@pss_cons _ _ _ _ _ (@sa _ _ _ _ _ _ sc_spell_thing.nd lm_spell_thing 1 (pe_ix ix_tup (va nm_spell_thing 0) pe_int (fun _ _=>rfl)) (by rfl) (by kernel_rfl) (by exact .inl rfl)) (@pss_cons _ _ _ _ _ (@ps_if _ _ _ _ _ _ _ _ (pt_cmpR op_eq (va nm_spell_thing 1) pe_str (nomark _)) (@pss_one _ _ _ (@ps_ret _ _ _ _ (@pe_lst _ _ _ _ (@pa_c _ _ _ _ _ (@pe_callTy _ _ _ _ _ _ _ _ _ call_strV (by show _=_;kernel_rfl) z_str PyProof.Rows.boot_str (@pa_c _ _ _ _ _ (pe_ix ix_tup (va nm_spell_thing 0) pe_int (fun _ _=>rfl)) pa_nil (by rfl)) (by decide) (by decide) (by rfl) (by rfl)) pa_nil (by rfl))))) pss_nil) (@pss_cons _ _ _ _ _ (@ps_if _ _ _ _ _ _ _ _ (pt_cmpR op_eq (va nm_spell_thing 1) pe_str (nomark _)) (@pss_one _ _ _ (@ps_ret _ _ _ _ (@pe_lst _ _ _ _ (@pa_c _ _ _ _ _ (pe_fB (pe_ix ix_tup (va nm_spell_thing 0) pe_int (fun _ _=>rfl))) pa_nil (by rfl))))) pss_nil) (@pss_cons _ _ _ _ _ (@ps_if _ _ _ _ _ _ _ _ (pt_cmpR op_eq (va nm_spell_thing 1) pe_str (nomark _)) (@pss_one _ _ _ (@ps_ret _ _ _ _ (@pe_call _ _ _ _ _ _ _ _ _ _ _ _ _ _ _ _ BR.ok (hr.mono (by omega)) (by show _=_;kernel_rfl) BR.at' BR.kp BR.bd .nil pass0 (@pa_c _ _ _ _ _ pe_str (@pa_c _ _ _ _ _ (pe_ix ix_tup (va nm_spell_thing 0) pe_int (fun _ _=>rfl)) pa_nil (by rfl)) (by rfl)) (by decide) (by rfl) (by rfl)))) pss_nil) (@pss_one _ _ _ (@ps_ret _ _ _ _ (@pe_call _ _ _ _ _ _ _ _ _ _ _ _ _ _ _ _ BR.ok (hr.mono (by omega)) (by show _=_;kernel_rfl) BR.at' BR.kp BR.bd .nil pass0 (@pa_c _ _ _ _ _ pe_str (@pa_c _ _ _ _ _ (@pe_op _ _ _ _ _ _ _ _ op_catTA (@pe_tup _ _ _ _ _ (@pa_c _ _ _ _ _ (pe_ix ix_tup (va nm_spell_thing 0) pe_int (fun _ _=>rfl)) pa_nil (by rfl))) (pe_ix ix_tup (va nm_spell_thing 0) pe_int (fun _ _=>rfl))) pa_nil (by rfl)) (by rfl)) (by decide) (by rfl) (by rfl)))))))),?_⟩
 try dsimp only[cx_K]
 try dsimp only[cx_K,cx_w]
 refine seq_cut4 ?_
 intro N1 N2 N3 N4 c1 c2 c3 c4
 have kr:∀xs:List Th,(xs.map (Sum.inl:Th->Sx)).map resT=xs.map thT:=fun xs=>by rw[List.map_map];rfl
 cases t with
 |num n =>
  unfold ThOk at tk
  unfold thT at r
  obtain⟨a,v1,v2,rfl,sq,g1,g2⟩:=r.t2
  obtain rfl:=g1.inv_s
  obtain rfl:=g2.inv_i
  have a0:atI [V.str "num",.int n] 0=some (.str "num"):=atI_nat (j:=0) rfl
  have a1:atI [V.str "num",.int n] 1=some (.int n):=atI_nat (j:=1) rfl
  have en:ofL (digs n)=Str.ofString (toString n):=ofL_toList _
  fail "R"
  refine .inr ⟨n,rfl,by omega,?_⟩
  fail "R"
  intro q hq
  refine k q _ _ (same_new hq _) hq upd_same ?_
  show Rps K _ [.s (ofL (digs n))] _
  rw[en]
  exact .one .s
 |left n =>
  unfold ThOk at tk
  unfold thT at r
  obtain⟨a,v1,v2,rfl,sq,g1,g2⟩:=r.t2
  obtain rfl:=g1.inv_s
  obtain rfl:=g2.inv_i
  have a0:atI [V.str "left",.int n] 0=some (.str "left"):=atI_nat (j:=0) rfl
  have a1:atI [V.str "left",.int n] 1=some (.int n):=atI_nat (j:=1) rfl
  have en:ofL (digs n)=Str.ofString (toString n):=ofL_toList _
  have eg:ofL (60::(digs n++[62]))=("<":Str)++Str.ofString (toString n)++(">":Str):=by
   rw[←en]
   show _=ofL [60]++ofL (digs n)++ofL [62]
   rw[app_ofL,app_ofL]
   rfl
  have ld:(digs n).length<=6:=by
   obtain⟨a,r,e,_,_,_,l⟩:=digs_big tk
   rw[e,List.length_cons];omega
  have lq:("<":Str).length+(Str.ofString (toString n)).length+(">":Str).length<=100000:=by rw[←en,ofL_len];show 1+_+1<=_;omega
  fail "R"
  refine .inr ⟨n,rfl,by omega,lq,?_⟩
  fail "R"
  intro q hq
  refine k q _ _ (same_new hq _) hq upd_same ?_
  show Rps K _ [.s (ofL (60::(digs n++[62])))] _
  rw[eg]
  exact .one .s
 |row l =>
  unfold thT at r
  obtain⟨a,v1,v2,rfl,sq,g1,g2⟩:=r.t2
  obtain rfl:=g1.inv_s
  rw[thTs_map]at g2
  obtain⟨b,us,rfl,sqb,rb⟩:=g2.inv_t
  have lb:=rb.length
  rw[List.length_map]at lb
  have hw:l.length<=900:=hw
  have lu:us.length<=1000:=by omega
  have a0:atI [V.str "row",.ref b] 0=some (.str "row"):=atI_nat (j:=0) rfl
  have a1:atI [V.str "row",.ref b] 1=some (.ref b):=atI_nat (j:=1) rfl
  fail "R"
  intro q H' s' hq h'
  have h':H' q=some (.lst (.str ⟨#[91]⟩::(sepV us++[.str (ofL [clo 91])]))):=h'
  refine k q _ _ s' hq h' ?_
  exact brk_rps (c:=91) (by rw[kr];exact rb.same s')
 |tag x l =>
  unfold thT at r
  obtain⟨a,v1,v2,v3,rfl,sq,g1,g2,g3⟩:=r.t3
  obtain rfl:=g1.inv_s
  obtain rfl:=g2.inv_s
  rw[thTs_map]at g3
  obtain⟨b,us,rfl,sqb,rb⟩:=g3.inv_t
  have lb:=rb.length
  rw[List.length_map]at lb
  have hw:l.length<=900:=hw
  have a0:atI [V.str "tag",.str x,.ref b] 0=some (.str "tag"):=atI_nat (j:=0) rfl
  have a1:atI [V.str "tag",.str x,.ref b] 1=some (.str x):=atI_nat (j:=1) rfl
  have a2:atI [V.str "tag",.str x,.ref b] 2=some (.ref b):=atI_nat (j:=2) rfl
  fail "R"
  intro p1 hp1
  have s1:=same_new hp1 (.tup [.str x])
  have h1:SqT K (upd H p1 (.tup [.str x])) p1 [.str x]:=SqT.of upd_same
  have sq1:=sq.same s1
  have sqb1:=sqb.same s1
  have lc:([.str x]:List V).length+us.length<=sizeLine:=small (by show 1+us.length<=_;omega)
  generalize upd H p1 (.tup [.str x])=H1 at s1 h1 sq1 sqb1⊢
  fail "R"
  intro c2 H2 s2 sq2
  have lc2:([.str x]++us:List V).length<=1000:=by rw[List.length_append];show 1+_<=_;omega
  fail "R"
  intro q H' s' hq h'
  have h':H' q=some (.lst (.str ⟨#[40]⟩::(sepV ([.str x]++us)++[.str (ofL [clo 40])]))):=h'
  have s0:=(s1.trans s2).trans s'
  refine k q _ _ s0 ((s1.trans s2).free hq) h' ?_
  refine brk_rps (c:=40) (xs:=.inr x::l.map .inl) ?_
  simp only[List.map_cons,kr]
  exact .cons .s (rb.same s0)
end
end G12
namespace L2
open PySem PySem.Spec PyProof.Rows PySem.W
structure RoomH(k:Nat) (A:Around):Prop where
 dp:A.depth+2*k+5<recursionLimit
 un:A.units+16*k+200<cLine
 gd:A.guards=some []
theorem RoomH.deeper{k:Nat}{A:Around}(r:RoomH (k+1) A)(env:Env):RoomH k (A.deeper env) :=
 ⟨by have:=r.dp;show A.depth+1+2*k+5<_;omega,by have:=r.un;show A.units+3+16*k+200<_;omega,r.gd⟩
theorem Room.mark{k:Nat}{A:Around}(r:Room k A)(v:Option Value):RoomH k (A.mark v):=⟨r.dp,r.un,r.gd⟩
def unH(A:Around):Around:={A with handled:=none}
theorem RoomH.calm{k:Nat}{A:Around}(r:RoomH k A):Room k (unH A):=⟨rfl,r.dp,r.un,r.gd⟩
def Cx.uncalm(X:Cx):Cx:={X with calm:=false}
structure FnOkH(P:Program) (w:World) (K:PySem.W.Frag) (mg:Str->Option Value) (base:Heap) (k:Nat) (f:Addr) (fd:FuncData) (ps:List Str) (sp:Sp):Prop where
 len:∀vs H Q E,sp vs H Q E->vs.length=ps.length
 run:∀(A:Around) (outer:List Env) (s:Shared) (H:Hp) (args:Args) (us:List Value) (vs:List V) (Q:VK) (E:XK),RoomH k A->Env0 P w K mg base A outer s H->BindsTo s fd args (ps.zip us)->Vals vs us->sp vs H Q E ->
  codeAny (model P w) A (.call (.ref f) args) (CR CX0 outer P w H s Q E) s
section
variable {P:Program}{w:World}{K:PySem.W.Frag}{mg:Str->Option Value}{base:Heap}
theorem inv_uncalm{CX:CXT}{N:List Str}{qual:Str}{scope:Scope}{f:Addr}{cd:Value}{A:Around}{outer:List Env}{s s1:Shared}{H:Hp}{E:XK}{σ:St}{H1:Hp}(I:Inv (cxOf CX P w K mg base N qual scope f cd (unH A) outer s H E) [] σ H1 s1) :
  Inv (cxOf CX P w K mg base N qual scope f cd A outer s H E).uncalm [] σ H1 s1 :=
 ⟨⟨I.ok.mod,I.ok.kind,I.ok.glob,I.ok.blt,I.ok.above,I.ok.inj,I.ok.has,I.ok.cab,(fun z=>nomatch z),I.ok.frames,I.ok.stk,I.ok.exf,I.ok.bs,I.ok.bsz,I.ok.noex,I.ok.exfs,I.ok.funs,I.ok.frf⟩,I.os,I.bare,I.base,I.loc,I.cell,I.free,I.freeC,I.pin,I.hok,I.len⟩
theorem fn_ofH{k:Nat}{f:Addr}{name qual:Str}{params:Arguments}{body:List Stmt}{scope:Scope}{dV kV doc pm cdv ct oc:Value}{an od:Option Addr}
  {osl:Array (Option Value)}{N ps:List Str}{sp:Sp}(lk:K.lookup f=some ⟨oc,od,.func (PySem.W.fnOf name qual params body scope dV kV doc pm an cdv ct),osl⟩) (hcd:PySem.W.codeIn K cdv qual=true) (S:FnScope N ps scope)
  (len:∀vs H Q E,sp vs H Q E->vs.length=ps.length)
  (hbody:∀(A:Around) (outer:List Env) (s:Shared) (H:Hp) (vs:List V) (Q:VK) (E:XK),RoomH k (A.deeper (envOfC qual scope s.heap.objs.size f cdv))->sp vs H Q E ->
   ∃t,PSs0 (cxOf CX0 P w K mg base N qual scope f cdv A outer s H E).uncalm body t/\t {nx:=fun _ H'=>Q .non H',rt:=Q} (start N vs) H) :
  FnOkH P w K mg base (k+1) f (PySem.W.fnOf name qual params body scope dV kV doc pm an cdv ct) ps sp:=by
 refine⟨len,fun A outer s H args us vs Q E hr e0 hb r hsp=>?_⟩
 have hl:=len _ _ _ _ hsp
 have KX:K.In s.heap:=e0.mod.kin.keeps fun b o e=>(e0.bs b o e).1
 have lim:s.heap.NoLimit:=e0.mod.nolimit.keeps fun b o e=>(e0.bs b o e).1
 have hkind:∀y∈ps.zip us,scope.names.lookup y.1=some .local\/(scope.names.lookup y.1=some .cell/\((cellsFrom (s.heap.objs.size+1) scope.names []).lookup y.1).isSome=true):=fun⟨n,v⟩ hy=>by
  rcases S.par n (List.of_mem_zip hy).1 with q|q
  ·exact .inl q
  ·exact .inr ⟨q,PySem.W.cellsFrom_some _ _ _ (.inl q)⟩
 refine codeAny_call_function hr.calm.depth (KX _ _ lk) rfl S.co S.gen rfl (PySem.W.codeRec_of KX hcd) (hb _ _ _ _ ?_)
 refine wpAny_newFunctionEnv_cells S.kind hkind fun env he s1 x=>?_
 subst he
 refine⟨lim.keeps x.toInCall.keep,codeAny_func ?_⟩
 obtain⟨t,ht,hq⟩:=hbody A outer s H vs Q E (hr.deeper _) hsp
 have e0':Env0 P w K mg base (unH A) outer s H:=⟨e0.frames,e0.mod,e0.bs,e0.bsz,e0.funs,e0.frf,e0.hok,e0.bare⟩
 have I:Inv (cxOf CX0 P w K mg base N qual scope f cdv A outer s H E).uncalm [] (start N vs) H s1:=inv_uncalm (inv_start S rfl e0' hl r x)
 refine wpAny_mono (ht s1 (start N vs) H _ I hq) (fun fl s' hs=>?_) fun e s' hs=>hs
 have fin:∀{σ':St}{H':Hp}{v:V}{u:Value},Inv (cxOf CX0 P w K mg base N qual scope f cdv A outer s H E).uncalm [] σ' H' s'->RelV v u->Q v H'->CE outer P w H s Q u s' :=
  fun{σ' H' v u} J rv q=>⟨v,H',J.os,J.bare,J.base,J.hok,rv,q⟩
 cases fl with
 |ret u =>
  obtain⟨v,σ',H',J,rv,q⟩:=hs
  exact fin J rv q
 |next =>
  obtain⟨σ',H',J,q⟩:=hs
  exact fin (v:=V.non) (u:=Value.none) J rfl q
 |brk =>
  obtain⟨_,_,_,q⟩:=hs
  exact False.elim q
 |cont =>
  obtain⟨_,_,_,q⟩:=hs
  exact False.elim q
theorem Fun.okH{x qual:Str}{st:Stmt}{f:Addr}{fd:FuncData}{N ps:List Str}{k:Nat}{sp:Sp}(F:Fun K x qual st f fd)(S:FnScope N ps (defScope st))(len:∀vs H Q E,sp vs H Q E->vs.length=ps.length)
  (hbody:∀(cdv:Value) (A:Around) (outer:List Env) (s:Shared) (H:Hp) (vs:List V) (Q:VK) (E:XK),RoomH k (A.deeper (envOfC qual (defScope st) s.heap.objs.size f cdv))->sp vs H Q E ->
   ∃t,PSs (cxOf CX0 P w K mg base N qual (defScope st) f cdv A outer s H E).uncalm.nox (defBody st) t/\t {nx:=fun _ H'=>Q .non H',rt:=Q} (start N vs) H):FnOkH P w K mg base (k+1) f fd ps sp:=by
 obtain⟨oc,od,kV,doc,pm,an,cdv,ct,osl,rfl,lk,hcd⟩:=F.ex
 refine fn_ofH lk hcd S len fun A outer s H vs Q E hr hsp=>?_
 obtain⟨t,h,q⟩:=hbody cdv A outer s H vs Q E hr hsp
 exact⟨t,(PSs.top h).nox,q⟩
end
section
variable {X:Cx}{k:Nat}{f:Addr}{fd:FuncData}{ps:List Str}{sp:Sp}{x:Str}{p pos:Pos}{e:Expr}{es:List Expr}{t:TA}{E:XK}
theorem run_fnH{pins:List (Addr×Obj)}{σ:St}{H:Hp}{s:Shared}{Q:VK}{us:List Value}{vs:List V}(F:FnOkH X.prog X.w X.K X.mg X.base k f fd ps sp)(hr:RoomH k X.A)(hb:Binds X.K fd ps [])(hx:Passes CX0 X E)
  (I:Inv X pins σ H s) (r:Vals vs us) (h:sp (vs++[]) H Q E):wpAny (model X.prog X.w) X.A (call (.ref f) us) (EP X pins σ Q) X.xe s:=by
 have r2:Vals (vs++[]) (us++[]):=r.append .nil
 have hl:(us++[]).length=ps.length:=by rw[←r2.length];exact F.len _ _ _ _ h
 refine wpAny_call (codeAny_mono (F.run X.A X.stack s H ⟨us,[]⟩ (us++[]) (vs++[]) Q E hr I.env0 (hb s us I.kIn hl) r2 h) fun r s' hq=>?_)
 cases r with
 |error e=>exact hx pins σ H s e s' I hq
 |ok fl =>
  cases fl with
  |ret u=>exact I.after hq
  |next=>exact False.elim hq
  |brk=>exact False.elim hq
  |cont=>exact False.elim hq
theorem pe_callH(F:FnOkH X.prog X.w X.K X.mg X.base k f fd ps sp)(hr:RoomH k X.A)(hg:Gl X x)(hm:X.mg x=some (.ref f))(hk:PySem.W.keepIn X.K (.ref f)=true)(hb:Binds X.K fd ps [])(hx:Passes CX0 X E)
  (ha:PA X (e::es) t) (hdb:(x == ("__debug__":Str))=false:=by decide) (he:starEach (e::es) X.env=(false,eval e X.env)::starEach es X.env:=by rfl) (hpl:(backTo pos (starEach es X.env)).any (·.1)=false:=by rfl) :
  PE X (.Call (.Name x p) (e::es) [] pos) (tCall sp [] E t):=by
 intro pins s σ H Q I h
 refine wpAny_Call_Name_kw (ld_glob I hg hm ?_ hdb)
 refine PySem.W.callWith_K (h₀:=X.base) I.ok.mod.kin hk (thn (ha pos pins s σ H _ I h) fun us s1 ⟨vs,H1,I1,r,q⟩=>⟨I1.kIn,?_⟩) he hpl
 exact run_fnH F hr hb hx I1 r q
end
theorem cxH_K{CX:CXT}{P:Program}{w:World}{K:PySem.W.Frag}{mg:Str->Option Value}{base:Heap}{N:List Str}{qual:Str}{scope:Scope}{f:Addr}{cd:Value}{A:Around}{outer:List Env}{s:Shared}{H:Hp}{E:XK}:(cxOf CX P w K mg base N qual scope f cd A outer s H E).uncalm.nox.K=K:=rfl
structure HasH(P:Program) (w:World) (K:Frag) (mg:Str->Option Value) (base:Heap) (x:Str) (k:Nat) (ps:List Str) (sp:Sp) (f:Addr) (fd:FuncData):Prop where
 ok:FnOkH P w K mg base k f fd ps sp
 at':mg x=some (.ref f)
 kp:keepIn K (.ref f)=true
 bd:Binds K fd ps []
end L2
namespace L2
open PySem PySem.Spec PyProof.Rows
section
variable {prog:Program}{w:World}{A:Around}{E:Value->Shared->Prop}{h:Heap}{g:Array GenState}{d:Drawn}{t:Nat}{os:OsState}
variable {nm q:Str}{C N:Addr}{bs bm bmB:List Value}{hdct:Bool}{sn:List Str}{sub:List Value}{ab:Bool}{col:Option Bool}{dd:Option Addr}{k0 k1 k2 k3 k5:Option Value}{B newId initId:String}
end
end L2
namespace L2
open PySem PySem.Spec PyProof.Rows PySem.W PySem.Calls
structure ErrK0(K:Frag) (C:Addr):Prop where
 cls:∀h,K.In h->∃nm q N bs bm hdct sn sub ab col dd k0 k1 k2 k3 k5 mN,h.get? C=some (excClassObj nm q C N bs bm hdct sn sub ab col dd k0 k1 k2 k3 k5 "ValueError.__new__") /\
  h.Ns N mN/\mN "__init__"=none/\OwnTail h valueMro bm
 kp:keepIn K (.ref C)=true
section
variable {X:Cx}{C:Addr}{x:Str}{p pos:Pos}
end
def strKeysB(es:List DictEntry):Bool:=es.all fun e=>match e.key with|.str _ _=>true|_=>false
theorem ns_of{K:Frag}{h:Heap}(X:K.In h){N:Addr}{c:Value}{dd:Option Addr}{es:Array DictEntry}{n:Nat}{sl:Array (Option Value)}(e:K.lookup N=some ⟨c,dd,.dict es n,sl⟩)(hs:strKeysB es.toList=true) :
  h.Ns N (nsFind es):=by
 refine⟨_,es,n,X _ _ e,rfl,fun a ha=>?_,fun _=>rfl⟩
 have z:=List.all_eq_true.mp hs a (Array.mem_toList_iff.mpr ha)
 split at z
 ·rename_i y t q;exact⟨y,t,q⟩
 ·cases z
end L2
namespace L2
open PySem PySem.W
def bexB(K:Frag)(C:Addr):Bool:=(findIn K (.ref C) "__getattribute__" == some (some (.builtin "BaseException.__getattribute__")))&&(findIn K (.ref C) "__getattr__" == some none)&&(mroIn K C (.type "BaseException") == some true)
theorem bexB_G{K:Frag}{C:Addr}(h:bexB K C=true):BexG K C:=by
 unfold bexB at h
 simp only[Bool.and_eq_true,beq_iff_eq]at h
 exact⟨h.1.1,h.1.2,h.2⟩
def errB(K:Frag)(C b:Addr):Bool :=
 bexB K C&&hasDictIn K C&&(findIn K (.ref C) "__class__" == some (some (.builtin "object.__class__"))) &&
 (specialIn K (.builtin "object.__class__") "__get__" == some (some (.builtin "getset_descriptor.__get__")))&&(takesIn K (.builtin "object.__class__") == some true)&&(mroIn K C (.type "object") == some true) &&
 (kitOne K (.ref C) (.ref b) == some true)&&(kitOne K (.ref C) (.type "ValueError") == some true)&&keepIn K (.ref C)
def fieldB(K:Frag)(C:Addr)(n:Str):Bool :=
 errOver K C&&(findIn K (.ref C) "__setattr__" == some (some (.builtin "object.__setattr__")))&&(takerIn K C n == some none) &&
 bexB K C&&hasDictIn K C&&(findIn K (.ref C) n).any (noGet K)
theorem fieldB_F{K:Frag}{C:Addr}{n:Str}(h:fieldB K C n=true):ErrF K C n/\ErrR K C n:=by
 unfold fieldB at h
 simp only[Bool.and_eq_true,beq_iff_eq]at h
 obtain⟨⟨⟨⟨⟨h1,h2⟩,h3⟩,h4⟩,h5⟩,h6⟩:=h
 refine⟨⟨h1,h2,h3⟩,⟨bexB_G h4,h5,?_⟩⟩
 cases e:findIn K (.ref C) n with
 |none=>rw[e]at h6;cases h6
 |some a=>rw[e]at h6;exact⟨a,rfl,h6⟩
theorem errB_G{K:Frag}{C b:Addr}(h:errB K C b=true):ErrG K C/\kitOne K (.ref C) (.ref b)=some true/\kitOne K (.ref C) (.type "ValueError")=some true/\keepIn K (.ref C)=true:=by
 unfold errB at h
 simp only[Bool.and_eq_true,beq_iff_eq]at h
 obtain⟨⟨⟨⟨⟨⟨⟨⟨h1,h2⟩,h3⟩,h4⟩,h5⟩,h6⟩,h7⟩,h8⟩,h9⟩:=h
 exact⟨⟨bexB_G h1,h2,h3,h4,h5,h6⟩,h7,h8,h9⟩
structure ClsAt(K:Frag) (C b:Addr) (i:Option Value):Prop where
 ex:∃nm q N bs hdct sn sub ab col dd k0 k1 k2 k3 k5,K.lookup C=some (excClassObj nm q C N bs (.ref b::valueMro) hdct sn sub ab col dd k0 k1 k2 k3 k5 "ValueError.__new__") /\
  ∃c d es n sl,K.lookup N=some ⟨c,d,.dict es n,sl⟩/\strKeysB es.toList=true/\nsFind es "__init__"=i
structure BaseAt(K:Frag) (b:Addr):Prop where
 ex:∃nm q N bs hdct sn sub ab col dd k0 k1 k2 k3 k5,K.lookup b=some (excClassObj nm q b N bs valueMro hdct sn sub ab col dd k0 k1 k2 k3 k5 "ValueError.__new__") /\
  ∃c d es n sl,K.lookup N=some ⟨c,d,.dict es n,sl⟩/\strKeysB es.toList=true/\nsFind es "__init__"=none
theorem BaseAt.tail{K:Frag}{b:Addr}(B:BaseAt K b){h:Heap}(X:K.In h):OwnTail h valueMro (.ref b::valueMro):=by
 obtain⟨nm,q,N,bs,hdct,sn,sub,ab,col,dd,k0,k1,k2,k3,k5,e,c',d',es,n,sl',e',hs,hi⟩:=B.ex
 exact .own (X _ _ e) (ns_of X e' hs) hi .base
theorem bexMro:valueMro.contains (.type "BaseException")=true:=by decide +kernel
theorem BaseAt.c{K:Frag}{b:Addr}(B:BaseAt K b):ErrC K b:=by
 refine⟨fun h X=>?_⟩
 obtain⟨nm,q,N,bs,hdct,sn,sub,ab,col,dd,k0,k1,k2,k3,k5,e,_⟩:=B.ex
 exact⟨nm,q,N,bs,_,hdct,sn,sub,ab,col,dd,k0,k1,k2,k3,k5,_,X _ _ e,bexMro⟩
theorem ClsAt.c{K:Frag}{C b:Addr}{i:Option Value}(Z:ClsAt K C b i):ErrC K C:=by
 refine⟨fun h X=>?_⟩
 obtain⟨nm,q,N,bs,hdct,sn,sub,ab,col,dd,k0,k1,k2,k3,k5,e,_⟩:=Z.ex
 exact⟨nm,q,N,bs,_,hdct,sn,sub,ab,col,dd,k0,k1,k2,k3,k5,_,X _ _ e,by rw[List.contains_cons,bexMro,Bool.or_true]⟩
theorem ClsAt.sub{K:Frag}{C b:Addr}{i:Option Value}(Z:ClsAt K C b i)(B:BaseAt K b):ErrSub K C b:=by
 refine⟨fun h X=>?_,B.c⟩
 obtain⟨nm,q,N,bs,hdct,sn,sub,ab,col,dd,k0,k1,k2,k3,k5,e,_⟩:=Z.ex
 exact⟨nm,q,N,bs,_,hdct,sn,sub,ab,col,dd,k0,k1,k2,k3,k5,_,X _ _ e,by rw[List.contains_cons,List.contains_cons,beq_self_eq_true (Value.ref b),Bool.true_or,Bool.or_true]⟩
theorem ClsAt.k{K:Frag}{C b f:Addr}(Z:ClsAt K C b (some (.ref f)))(B:BaseAt K b){x q:Str}{st:Stmt}{fd:FuncData}(F:∃od osl,K.lookup f=some ⟨.type "function",od,.func fd,osl⟩)(kp:keepIn K (.ref C)=true):ErrK K C f:=by
 refine⟨fun h X=>?_,kp⟩
 obtain⟨nm,q,N,bs,hdct,sn,sub,ab,col,dd,k0,k1,k2,k3,k5,e,c,d,es,n,sl,e',hs,hi⟩:=Z.ex
 obtain⟨od,osl,ef⟩:=F
 exact⟨nm,q,N,bs,_,hdct,sn,sub,ab,col,dd,k0,k1,k2,k3,k5,_,_,X _ _ e,ns_of X e' hs,hi,B.tail X,X _ _ ef,rfl⟩
theorem ClsAt.k0{K:Frag}{C b:Addr}(Z:ClsAt K C b none)(B:BaseAt K b)(kp:keepIn K (.ref C)=true):ErrK0 K C:=by
 refine⟨fun h X=>?_,kp⟩
 obtain⟨nm,q,N,bs,hdct,sn,sub,ab,col,dd,k0,k1,k2,k3,k5,e,c,d,es,n,sl,e',hs,hi⟩:=Z.ex
 exact⟨nm,q,N,bs,_,hdct,sn,sub,ab,col,dd,k0,k1,k2,k3,k5,_,X _ _ e,ns_of X e' hs,hi,B.tail X⟩
end L2
namespace G12
open PySem L2 PyProof.Rows PySem.W
theorem errx_same{H H':Hp}{x C:Addr}{fs:List (Str×V)}(e:ErrAtX H x C fs)(s:Same H H'):ErrAtX H' x C fs:=by
 rcases e with⟨e,h⟩|⟨dx,h1,h2⟩
 ·exact .inl ⟨e,s _ _ h⟩
 ·exact .inr ⟨dx,s _ _ h1,s _ _ h2⟩
structure Cl1(K:PySem.W.Frag) (cB G:Addr) (oth:List Addr):Prop where
 sub:ErrSub K cB G
 g:ErrG K cB
 one:kitOne K (.ref cB) (.ref cB)=some true
 any:kitAny K (.ref cB) (oth.map Value.ref)=some false
 val:kitOne K (.ref cB) (.type "ValueError")=some true
 r:ErrR K cB "at"
def spRf(cB:Addr):Sp:=fun vs H Q _=>∃x,vs=[.ref x]/\ErrAtX H x cB [("at",.int 0)]/\∀H',Same H H'->Q (.int 0) H'
section
variable {P:Program}{w:World}{K:PySem.W.Frag}{mg:Str->Option Value}{base:Heap}{cB G o0 o1 o2 o3 o4 o5 o6 o7:Addr}
theorem nm_L_refusal:Nm ["_law_e","_law_others"] (defScope s_L_refusal):=by decide +kernel
theorem lm_L_refusal:Lm ["_law_e","_law_others"] (defScope s_L_refusal):=by decide +kernel
theorem sc_L_refusal:FnScope ["_law_e","_law_others"] ["_law_e"] (defScope s_L_refusal):=⟨rfl,rfl,rfl,by decide +kernel,rfl,by decide +kernel,by decide +kernel⟩
theorem ok_lrf{f:Addr}{fd:FuncData}(F:Fun K "_law_refusal" "_law_refusal" s_L_refusal f fd)(C:Cl1 K cB G [o0,o1,o2,o3,o4,o5,o6,o7])(m_BadText:mg "BadText"=some (.ref cB))(m_Twice:mg "Twice"=some (.ref o0))(m_NoName:mg "NoName"=some (.ref o1))(m_WrongCount:mg "WrongCount"=some (.ref o2))(m_Clash:mg "Clash"=some (.ref o3))(m_NoGap:mg "NoGap"=some (.ref o4))(m_TooLong:mg "TooLong"=some (.ref o5))(m_TooMany:mg "TooMany"=some (.ref o6))(m_NoRow:mg "NoRow"=some (.ref o7))
  (z_isinstance:mg "isinstance"=none) (z_ValueError:mg "ValueError"=none) (z_bool:mg "bool"=none):FnOkH P w K mg base 1 f fd ["_law_e"] (spRf cB):=by
 refine F.okH sc_L_refusal (fun vs H Q E h=>?_) (fun cdv A outer s H vs Q E hr h=>?_)
 ·obtain⟨_,rfl,_⟩:=h
  rfl
 obtain⟨x,rfl,ex,k⟩:=h
 refine⟨_,(@pss_cons _ _ _ _ _ (@sa _ _ _ _ _ _ sc_L_refusal.nd lm_L_refusal 1 (@pe_callB _ _ _ _ _ _ _ _ _ call_isErrsX (by show _=_;kernel_rfl) z_isinstance PyProof.Rows.boot_isinstance (@pa_c _ _ _ _ _ (va nm_L_refusal 0) (@pa_c _ _ _ _ _ (@pe_tup _ _ _ _ _ (@pa_c _ _ _ _ _ (pe_glob (v:=.ref o0) (by show _=_;kernel_rfl) m_Twice rfl) (@pa_c _ _ _ _ _ (pe_glob (v:=.ref o1) (by show _=_;kernel_rfl) m_NoName rfl) (@pa_c _ _ _ _ _ (pe_glob (v:=.ref o2) (by show _=_;kernel_rfl) m_WrongCount rfl) (@pa_c _ _ _ _ _ (pe_glob (v:=.ref o3) (by show _=_;kernel_rfl) m_Clash rfl) (@pa_c _ _ _ _ _ (pe_glob (v:=.ref o4) (by show _=_;kernel_rfl) m_NoGap rfl) (@pa_c _ _ _ _ _ (pe_glob (v:=.ref o5) (by show _=_;kernel_rfl) m_TooLong rfl) (@pa_c _ _ _ _ _ (pe_glob (v:=.ref o6) (by show _=_;kernel_rfl) m_TooMany rfl) (pa_c (pe_glob (v:=.ref o7) (by show _=_;kernel_rfl) m_NoRow rfl) pa_nil) (by rfl)) (by rfl)) (by rfl)) (by rfl)) (by rfl)) (by rfl)) (by rfl))) pa_nil (by rfl)) (by rfl)) (by decide) (by decide) (by rfl) (by rfl)) (by rfl) (by kernel_rfl) (by exact .inl rfl)) (@pss_cons _ _ _ _ _ (@ps_if _ _ _ _ _ _ _ _ (PW.pt (@pw_or _ _ _ _ _ _ _ (pt_val (va nm_L_refusal 1)) (@pw_or _ _ _ _ _ _ _ (@pt_not _ _ _ _ (@pt_val _ _ _ (@pe_callB _ _ _ _ _ _ _ _ _ call_isErrX (by show _=_;kernel_rfl) z_isinstance PyProof.Rows.boot_isinstance (@pa_c _ _ _ _ _ (va nm_L_refusal 0) (pa_c (pe_glob (v:=.ref cB) (by show _=_;kernel_rfl) m_BadText rfl) pa_nil) (by rfl)) (by decide) (by decide) (by rfl) (by rfl)) (by intro _;rfl))) (@pw_or _ _ _ _ _ _ _ (@pt_not _ _ _ _ (@pt_val _ _ _ (@pe_callB _ _ _ _ _ _ _ _ _ call_isErrTX (by show _=_;kernel_rfl) z_isinstance PyProof.Rows.boot_isinstance (@pa_c _ _ _ _ _ (va nm_L_refusal 0) (pa_c (pe_bltn (v:=.ty "ValueError") (by show _=_;kernel_rfl) z_ValueError (by decide +kernel) rfl) pa_nil) (by rfl)) (by decide) (by decide) (by rfl) (by rfl)) (by intro _;rfl))) (@pw_or1 _ _ _ _ (@pt_val _ _ _ (@pe_callB _ _ _ _ _ _ _ _ _ call_isB (by show _=_;kernel_rfl) z_isinstance PyProof.Rows.boot_isinstance (@pa_c _ _ _ _ _ (pe_errfX (va nm_L_refusal 0)) (pa_c (pe_bltn (v:=.ty "bool") (by show _=_;kernel_rfl) z_bool (by decide +kernel) rfl) pa_nil) (by rfl)) (by decide) (by decide) (by rfl) (by rfl)) (by intro _;rfl))))))) (@pss_one _ _ _ (ps_ret (pe_un un_neg pe_int))) pss_nil) (@pss_one _ _ _ (ps_ret (pe_errfX (va nm_L_refusal 0)))))),?_⟩
 try dsimp only[cx_K]
 try dsimp only[cxH_K]
 have g:=C.g
 have k1:=C.one
 have k4:=C.any
 have k5:=C.val
 have k6:=C.r
 fail "R"
 intro p3 hp3
 have s3:=same_new hp3 (.tup [.ref o0,.ref o1,.ref o2,.ref o3,.ref o4,.ref o5,.ref o6,.ref o7])
 have h3:SqT K (upd H p3 (.tup [.ref o0,.ref o1,.ref o2,.ref o3,.ref o4,.ref o5,.ref o6,.ref o7])) p3 ([o0,o1,o2,o3,o4,o5,o6,o7].map V.ref):=SqT.of upd_same
 have e3:=errx_same ex s3
 generalize upd H p3 _=H3 at s3 h3 e3⊢
 have lk:List.lookup ("at":Str) [(("at":Str),V.int 0)]=some (V.int 0):=by rfl
 fail "R"
 exact k _ s3
end
end G12
namespace L2
open PySem PySem.Spec PyProof.Rows PySem.NumText
section
variable {X:Cx}
theorem jo_mid{sg:Str}{k1 k2:Nat}{p1 p2 p3 p4 p5:Pos}(hk:X.env.scope.names.lookup sg=some .local)(hd:(sg == ("__debug__":Str))=false:=by decide) :
  Jo X sg (.BinOp (.BinOp (.Constant (.str " ") k1 p1) .Add (.Name sg p2) p3) .Add (.Constant (.str " ") k2 p4) p5) (fun c=>" "++⟨#[c]⟩++" "):=by
 intro s m c t Q E hf hn hm h
 have e1:(Str.ofString " ").length=1:=by decide
 have e2:((Str.ofString " ")++(⟨#[c]⟩:Str)).length=2:=by rw[strLen_append,e1];rfl
 have e3:((Str.ofString " ")++(⟨#[c]⟩:Str)++(Str.ofString " ")).length=3:=by rw[strLen_append,e2,e1]
 refine wpAny_BinOp (wpAny_BinOp (Calls.Constant_str (wpAny_Name (wpAny_loadName_local hf hk hn hm ?_) hd)))
 refine P.add_str ?_
 rw[if_neg (by rw[e1];decide),if_neg (by show ¬((1:Nat) == 0)=true;decide)]
 refine⟨by rw[e2];decide,Calls.Constant_str (P.add_str ?_)⟩
 rw[if_neg (by rw[e2];decide),if_neg (by rw[e1];decide)]
 refine⟨by rw[e3];decide,h _ _ ?_ (Nat.lt_succ_self _)⟩
 show s.toks<=s.toks+1+1+1
 omega
theorem call_intT:CallR X (.type "int") (fun xs H Q=>∃(x:Str) (n:Int),xs=[.str x]/\x.length<=640/\PySem.intText? x=some n/\Q (.int n) H):=by
 intro pins s σ H xs us Q I r h
 obtain⟨x,n,rfl,h0,h1,q⟩:=h
 obtain⟨u,rfl,t,rfl⟩:=vals1 r
 exact PySem.W.KIN.call_text h1 h0 ⟨.int n,H,I.tok _,⟨_,rfl⟩,q⟩
theorem mt_split0:MtR X "str.split" (fun x vs H Q=>∃z,x=.str z/\vs=[]/\z.length<=100000/\∀p,H p=none->Q (.ref p) (upd H p (.lst ((Txt.words z).map V.str)))):=by
 intro pins s σ H x xs v us Q I rx rs h
 obtain⟨z,rfl,rfl,hz,q⟩:=h
 obtain⟨t,rfl⟩:=rx
 cases rs
 have hn:(Builtin.Str.spaceWords z (z.length+1)).length<=sizeLine:=by
  have e1:=(StrLaws.sw_weight z).1
  have e2:=StrLaws.len_le_wsum (Builtin.Str.spaceWords z (z.length+1))
  rw[sizeLine_eq]
  omega
 have fin:∀(l:List (Str×Tok)) (k:Nat),l.map (·.1)=Txt.words z->l.length<=sizeLine->EP X pins σ Q (.ref s.heap.objs.size) {s with toks:=k,heap:=s.heap.push {cls:=.type "list",data:=.seq (strValues l).toArray}}:=fun l k el hl=>by
  refine⟨.ref s.heap.objs.size,upd H s.heap.objs.size (.lst ((Txt.words z).map V.str)),I.laid (t':=k) (fun b o e=>Heap.get?_push_of_some _ e) (Nat.le_refl _) ?_,rfl,q _ (I.hok.fresh (Nat.le_refl _))⟩
  refine⟨by rw[List.length_map,←el,List.length_map];exact hl,strValues l,0,?_,Heap.get?_push_size _ rfl⟩
  rw[←el]
  exact vals_strs l
 refine call_meets F.slot_str_split (typeIs_str _ _ _) F.entry_str_split (F.args_str_split_1 _) (meets_str_split_space z t (by rw[sizeLine_eq];omega) hn) ?_
 cases hw:Builtin.Str.spaceWords z (z.length+1) == [(0,z.length)]
 ·simp only[Bool.false_eq_true,if_false]
  rw[strsFrom_eq]
  refine fin (numbered s.toks (wordsOf z)) _ ((numbered_texts _ _).trans (if_neg (ne_true_of_eq_false hw)).symm) ?_
  have e2:=congrArg List.length (numbered_texts s.toks (wordsOf z))
  rw[List.length_map]at e2
  rw[e2]
  unfold wordsOf
  rw[List.length_map]
  exact hn
 ·simp only[if_true]
  exact fin [(z,t)] s.toks (if_pos hw).symm (by show 1<=sizeLine;decide)
end
theorem dv_lt:∀(n:Nat) (l:List Nat),l.length=n->(∀c∈l,48<=c/\c<=57)->digitsVal l<10 ^ n:=by
 intro n
 induction n with
 |zero=>intro l h _;rw[List.length_eq_zero_iff.mp h];decide
 |succ n ih =>
  intro l h hd
  have hne:l≠[]:=fun e=>by rw[e]at h;cases h
  have ed:l=l.dropLast++[l.getLast hne]:=(List.dropLast_concat_getLast hne).symm
  rw[ed]at hd
  have ev:digitsVal l=digitsVal l.dropLast*10+(l.getLast hne-48):=by rw[←digitsVal_snoc,←ed]
  rw[ev]
  have h1:=ih l.dropLast (by rw[List.length_dropLast,h];rfl) fun c hc=>hd c (List.mem_append_left _ hc)
  have h2:=hd (l.getLast hne) (List.mem_append_right _ (.head _))
  rw[Nat.pow_succ]
  omega
theorem int_figs{l:List Nat}(h0:l≠[])(h6:l.length<=6)(hd:∀c∈l,48<=c/\c<=57):∃n:Int,0<=n/\n<1000000/\PySem.intText? (ofL l)=some n:=by
 refine⟨_,?_,?_,intText_digits (x:=ofL l) (by rw[toList_ofL];exact hd) (by rw[toList_ofL];exact h0) (by rw[ofL_len];omega)⟩
 ·exact Int.natCast_nonneg _
 ·rw[toList_ofL]
  have:=dv_lt l.length l rfl hd
  have h:10 ^ l.length<=10 ^ 6:=Nat.pow_le_pow_right (by decide) h6
  have:digitsVal l<1000000:=Nat.lt_of_lt_of_le this (Nat.le_trans h (by decide))
  exact Int.ofNat_lt.mpr this
theorem int_digs{n:Int}(h0:0<=n)(h1:n<1000000):PySem.intText? (ofL (Str.ofString (toString n)).cps.toList)=some n:=by
 rw[ofL_toList]
 exact PySem.W.KIN.num_reads h0 (by omega)
def swg:List Nat->List Nat->List (List Nat)
 |cur,[]=>if cur=[]then []else [cur]
 |cur,c::r=>if Unicode.isSpace c=true then(if cur=[]then swg [] r else cur::swg [] r)else swg (cur++[c]) r
theorem swg_fold:∀(l cur:List Nat) (ws:List Str),KWd.fin (l.foldl KWd.step (ws,ofL cur))=ws++(swg cur l).map ofL
 | [],cur,ws=>by
  unfold swg KWd.fin
  cases cur with
  |nil=>rw[List.foldl_nil,if_pos rfl,if_pos (by rw[ofL_len];rfl)];exact(List.append_nil _).symm
  |cons a r=>rw[List.foldl_nil,if_neg (show ¬(ofL (a::r)).length=0 by rw[ofL_len];simp),if_neg (show ¬a::r=[] by simp)];rfl
 |c::l,cur,ws=>by
  rw[List.foldl_cons]
  unfold swg KWd.step
  by_cases hs:Unicode.isSpace c=true
  ·rw[if_pos hs,if_pos hs]
   cases cur with
   |nil=>rw[if_pos rfl,if_pos (by rw[ofL_len];rfl)];exact swg_fold l [] ws
   |cons a r =>
    rw[if_neg (show ¬a::r=[] by simp),if_neg (show ¬(ofL (a::r)).length=0 by rw[ofL_len];simp)]
    have z:=swg_fold l [] (ws++[ofL (a::r)])
    rw[List.append_assoc]at z
    exact z
  ·rw[if_neg hs,if_neg hs]
   have z:=swg_fold l (cur++[c]) ws
   rw[←app_ofL]at z
   exact z
theorem words_ofL(l:List Nat):Txt.words (ofL l)=(swg [] l).map ofL:=by
 rw[KWd.words_scan]
 unfold KWd.scan
 rw[toList_ofL]
 have z:=swg_fold l [] []
 rw[List.nil_append]at z
 exact z
theorem swg_len:∀(l cur:List Nat),(swg cur l).length<=cur.length+l.length
 | [],cur=>by unfold swg;cases cur with|nil=>exact Nat.zero_le _|cons a r=>rw[if_neg (by simp)];simp
 |c::l,cur=>by
  unfold swg
  split
  ·split
   ·have:=swg_len l [];simp at *;omega
   ·have:=swg_len l [];rename_i h;cases cur with|nil=>exact absurd rfl h|cons a r=>simp at *;omega
  ·have:=swg_len l (cur++[c]);simp at *;omega
theorem swg_few:∀(l cur:List Nat),(swg cur l).length<=l.countP (fun c=>Unicode.isSpace c)+1
 | [],cur=>by unfold swg;split<;>simp
 |c::l,cur=>by
  unfold swg
  rw[List.countP_cons]
  split
  ·split
   ·have:=swg_few l [];omega
   ·have:=swg_few l [];rw[List.length_cons];omega
  ·exact swg_few l (cur++[c])
def one1(p:Nat->Bool):List Nat->Bool
 | [c]=>p c
 |_=>false
theorem one_cnt(p:Nat->Bool):∀cur:List Nat,(if one1 p cur=true then 1 else 0)<=cur.countP p
 | []=>by simp[one1]
 | [a]=>by show(if p a=true then 1 else 0)<=_;rw[List.countP_cons];omega
 |a::b::r=>by simp[one1]
theorem swg_cnt(p:Nat->Bool):∀(l cur:List Nat),(swg cur l).countP (one1 p)<=(cur++l).countP p
 | [],cur=>by
  unfold swg
  match cur with
  | []=>exact Nat.zero_le _
  | [a]=>rw[if_neg (by simp)];have:=one_cnt p [a];rw[List.countP_cons,List.countP_nil,List.append_nil];omega
  |a::b::r=>rw[if_neg (by simp)];simp[one1]
 |c::l,cur=>by
  unfold swg
  split
  ·split
   ·rename_i h;subst h
    have:=swg_cnt p l []
    rw[List.nil_append]at this⊢
    rw[List.countP_cons]
    omega
   ·have:=swg_cnt p l []
    rw[List.nil_append]at this
    rw[List.countP_cons,List.countP_append,List.countP_cons]
    have hw:=one_cnt p cur
    omega
  ·have:=swg_cnt p l (cur++[c])
   rw[List.append_assoc]at this
   exact this
end L2
namespace G12
open PySem L2
def isOp(c:Nat):Bool:=decide (c=40)||(decide (c=91)||decide (c=60))
def isCl(c:Nat):Bool:=decide (c=41)||(decide (c=93)||decide (c=62))
def opOf(c:Nat):Nat:=if c=41 then 40 else if c=93 then 91 else 60
def six:List Nat:=[40,41,91,93,60,62]
def midS(c:Nat):Str:=" "++⟨#[c]⟩++" "
theorem mid_len(c:Nat):(midS c).length<=100:=by
 unfold midS
 rw[strLen_append,strLen_append]
 show 1+1+1<=100
 decide
theorem mid_list(c:Nat):(midS c).cps.toList=[32,c,32]:=by
 unfold midS
 rw[Str.cps_append,Array.toList_append,Str.cps_append,Array.toList_append]
 rfl
theorem mid_ne(c:Nat):((⟨#[c]⟩:Str) == midS c)=false:=by
 rw[beq_eq_false_iff_ne]
 intro h
 have z:=congrArg (fun x:Str=>x.cps.toList.length) h
 rw[show(midS c).cps.toList=[32,c,32]from mid_list c]at z
 cases z
def mk6(cs:List Nat)(a:Nat):List Nat:=if a∈cs then [32,a,32]else [a]
theorem repl_mk:∀(cs:List Nat),cs.Nodup->32∉cs->∀l,repl midS (ofL l) cs=ofL (l.flatMap (mk6 cs))
 | [],_,_,l=>by
  unfold repl
  rw[List.foldl_nil]
  congr 1
  rw[show mk6 []=fun a=>[a]from funext fun a=>if_neg (fun h=>nomatch h)]
  simp
 |c::cs,hn,h32,l=>by
  obtain⟨n1,n2⟩:=List.nodup_cons.mp hn
  have ih:=repl_mk cs n2 (fun h=>h32 (.tail _ h)) (l.flatMap (subst1 c (midS c).cps.toList))
  unfold repl at ih⊢
  rw[List.foldl_cons,rep_ofL,ih]
  congr 1
  rw[List.flatMap_assoc]
  congr 1
  funext a
  unfold subst1
  rw[mid_list]
  by_cases ha:a=c
  ·subst ha
   rw[if_pos rfl]
   have e1:mk6 cs 32=[32]:=if_neg fun h=>h32 (.tail _ h)
   have e2:mk6 cs a=[a]:=if_neg n1
   show mk6 cs 32++(mk6 cs a++(mk6 cs 32++[]))=_
   rw[e1,e2]
   exact(if_pos (.head _)).symm
  ·rw[if_neg ha]
   show mk6 cs a++[]=_
   rw[List.append_nil]
   unfold mk6
   by_cases hm:a∈cs
   ·rw[if_pos hm,if_pos (.tail _ hm)]
   ·rw[if_neg hm,if_neg fun h=>(List.mem_cons.mp h).elim ha hm]
theorem mk6_len(cs:List Nat):∀l:List Nat,(l.flatMap (mk6 cs)).length<=3*l.length
 | []=>Nat.zero_le _
 |a::l=>by
  rw[List.flatMap_cons,List.length_append,List.length_cons]
  have:=mk6_len cs l
  have:(mk6 cs a).length<=3:=by unfold mk6;split<;>simp
  omega
def R6(l:List Nat):List Nat:=l.flatMap (mk6 six)
theorem repl_R6(l:List Nat):repl midS (ofL l) (Str.ofString "()[]<>").cps.toList=ofL (R6 l):=by
 rw[show(Str.ofString "()[]<>").cps.toList=six by decide]
 exact repl_mk six (by decide) (by decide) l
theorem repl_len(l:List Nat)(k:Nat):(repl midS (ofL l) ((Str.ofString "()[]<>").cps.toList.take k)).length<=3*l.length:=by
 rw[show(Str.ofString "()[]<>").cps.toList=six by decide]
 rw[repl_mk (six.take k) ((by decide:six.Nodup).sublist (List.take_sublist k six)) (fun h=>absurd (List.mem_of_mem_take h) (by decide)) l,ofL_len]
 exact mk6_len _ l
theorem R6_len(l:List Nat):(R6 l).length<=3*l.length:=mk6_len _ l
theorem R6_cnt:∀l:List Nat,(R6 l).countP isOp=l.countP isOp
 | []=>rfl
 |a::l=>by
  unfold R6
  rw[List.flatMap_cons,List.countP_append,List.countP_cons]
  have:=R6_cnt l
  unfold R6 at this
  have:(mk6 six a).countP isOp=if isOp a=true then 1 else 0:=by
   unfold mk6
   split
   ·rw[List.countP_cons,List.countP_cons,List.countP_cons,List.countP_nil,if_neg (show ¬isOp 32=true by decide)]
    omega
   ·rw[List.countP_cons,List.countP_nil];omega
  omega
def lstp(st:BSt)(w:List Nat):Option BSt :=
 if one1 isOp w=true then some ((w.headD 0,[])::st)
 else if one1 isCl w=true then
  (match st with
  |(o,xs)::(p,ys)::r=>if o=opOf (w.headD 0)then some ((p,ys++[.g o xs])::r)else none
  |_=>none)
 else(match st with
  |(o,xs)::r=>some ((o,xs++[.a w])::r)
  | []=>none)
def lrun:BSt->List (List Nat)->Option BSt
 |st,[]=>some st
 |st,w::r=>(lstp st w).bind fun s=>lrun s r
def lend:Option BSt->Option Bw
 |some [(_,[b])]=>some b
 |_=>none
def ltree(l:List Nat):Option Bw:=lend (lrun [(0,[])] (swg [] (R6 l)))
mutual
def bd:Bw->Nat
 |.a _=>0
 |.g _ ws=>bds ws+1
def bds:List Bw->Nat
 | []=>0
 |b::r=>max (bd b) (bds r)
end
mutual
def bz:Bw->Nat
 |.a _=>1
 |.g _ ws=>bzs ws+1
def bzs:List Bw->Nat
 | []=>0
 |b::r=>bz b+bzs r
end
theorem bds_le{n:Nat}:∀{l:List Bw},(∀x∈l,bd x<=n)->bds l<=n
 | [],_=>by rw[bds];exact Nat.zero_le _
 |b::r,h=>by rw[bds];have:=h b (.head _);have:=bds_le (l:=r) fun x hx=>h x (.tail _ hx);omega
theorem bd_in:∀{l:List Bw},∀x∈l,bd x<=bds l
 |b::r,x,hx=>by
  rw[bds]
  rcases List.mem_cons.mp hx with rfl|hx
  ·omega
  ·have:=bd_in x hx;omega
theorem bzs_app:∀a b:List Bw,bzs (a++b)=bzs a+bzs b
 | [],b=>by rw[List.nil_append,bzs,Nat.zero_add]
 |x::a,b=>by rw[List.cons_append,bzs,bzs,bzs_app a b,Nat.add_assoc]
theorem bz_pos:∀b:Bw,1<=bz b
 |.a _=>by rw[bz];exact Nat.le_refl _
 |.g _ _=>by rw[bz];omega
theorem bzs_len:∀l:List Bw,l.length<=bzs l
 | []=>Nat.zero_le _
 |b::r=>by rw[bzs,List.length_cons];have:=bzs_len r;have:=bz_pos b;omega
theorem bz_in:∀{l:List Bw},∀x∈l,bz x<=bzs l
 |b::r,x,hx=>by
  rw[bzs]
  rcases List.mem_cons.mp hx with rfl|hx
  ·omega
  ·have:=bz_in x hx;omega
def DpS(c:Nat):BSt->Prop
 | []=>True
 |f::r=>(∀x∈f.2,bd x+r.length<=c)/\DpS c r
def zst:BSt->Nat
 | []=>0
 |f::r=>bzs f.2+zst r
structure SOk(c k:Nat) (st:BSt):Prop where
 d:DpS c st
 l:st.length<=c+1
 z:zst st+st.length<=k+1
theorem DpS.mono{c c':Nat}(h:c<=c'):∀{st:BSt},DpS c st->DpS c' st
 | [],_=>trivial
 |_::_,⟨a,b⟩=>⟨fun x hx=>Nat.le_trans (a x hx) h,b.mono h⟩
theorem lstp_ok{c k:Nat}{st st':BSt}{w:List Nat}(h:SOk c k st)(e:lstp st w=some st'):SOk (c+if one1 isOp w=true then 1 else 0) (k+1) st':=by
 obtain⟨hd,hl,hz⟩:=h
 unfold lstp at e
 split at e
 ·rename_i hw
  cases e
  rw[if_pos hw]
  exact⟨⟨fun _ h=>(nomatch h),hd.mono (Nat.le_succ c)⟩,by rw[List.length_cons];omega,by rw[zst,List.length_cons];show bzs []+_+_<=_;rw[bzs];omega⟩
 rename_i hw
 rw[if_neg hw]
 split at e
 ·split at e
  ·split at e
   ·cases e
    obtain⟨a1,a2,a3⟩:=hd
    simp only[zst,List.length_cons]at hl hz
    refine⟨⟨fun x hx=>?_,a3⟩,by rw[List.length_cons];omega,?_⟩
    ·rcases List.mem_append.mp hx with hx|hx
     ·exact a2 x hx
     ·rw[List.mem_singleton.mp hx,bd]
      rename_i o xs p ys r _ _
      have:bds xs<=c - (r.length+1):=bds_le fun y hy=>by have:bd y+(r.length+1)<=c:=a1 y hy;omega
      omega
    ·simp only[zst,List.length_cons,bzs_app,bzs,bz]
     omega
   ·cases e
  ·cases e
 ·split at e
  ·cases e
   obtain⟨a1,a2⟩:=hd
   simp only[zst,List.length_cons]at hl hz
   refine⟨⟨fun x hx=>?_,a2⟩,by rw[List.length_cons];omega,?_⟩
   ·rcases List.mem_append.mp hx with hx|hx
    ·exact a1 x hx
    ·rw[List.mem_singleton.mp hx,bd]
     omega
   ·simp only[zst,List.length_cons,bzs_app,bzs,bz]
    omega
  ·cases e
theorem lrun_ok:∀(ws:List (List Nat)) {c k:Nat}{st st':BSt},SOk c k st->lrun st ws=some st'->SOk (c+ws.countP (one1 isOp)) (k+ws.length) st'
 | [],c,k,st,st',h,e=>by
  cases e
  exact h
 |w::r,c,k,st,st',h,e=>by
  unfold lrun at e
  cases e1:lstp st w with
  |none=>rw[e1]at e;cases e
  |some s1 =>
   rw[e1]at e
   have z:=lrun_ok r (lstp_ok h e1) e
   rw[List.countP_cons,List.length_cons]
   rw[show c+(List.countP (one1 isOp) r+if one1 isOp w=true then 1 else 0)=c+(if one1 isOp w=true then 1 else 0)+List.countP (one1 isOp) r by omega,show k+(r.length+1)=k+1+r.length by omega]
   exact z
theorem st0:SOk 0 0 [(0,[])]:=⟨⟨fun _ h=>(nomatch h),trivial⟩,Nat.le_refl _,by simp[zst,bzs]⟩
theorem words_cnt(l:List Nat):(swg [] (R6 l)).countP (one1 isOp)<=l.countP isOp:=by
 rw[←R6_cnt l]
 exact swg_cnt isOp (R6 l) []
def sixB(c:Nat):Bool:=decide (c∈six)
def spB(c:Nat):Bool:=Unicode.isSpace c
theorem R6_sp:∀l:List Nat,(R6 l).countP spB=l.countP spB+2*l.countP sixB
 | []=>rfl
 |a::l=>by
  unfold R6
  rw[List.flatMap_cons,List.countP_append,List.countP_cons,List.countP_cons]
  have h1:=R6_sp l
  unfold R6 at h1
  rw[h1]
  have h2:(mk6 six a).countP spB=(if spB a=true then 1 else 0)+2*(if sixB a=true then 1 else 0):=by
   unfold mk6
   by_cases ha:a∈six
   ·rw[if_pos ha,if_pos (show sixB a=true from decide_eq_true ha),List.countP_cons,List.countP_cons,List.countP_cons,List.countP_nil,if_pos (show spB 32=true by decide)]
    omega
   ·rw[if_neg ha,if_neg (show ¬sixB a=true by unfold sixB;rw[decide_eq_false ha];decide),List.countP_cons,List.countP_nil]
    omega
  omega
theorem words_few(l:List Nat):(swg [] (R6 l)).length<=l.countP spB+2*l.countP sixB+1:=by
 rw[←R6_sp l]
 exact swg_few (R6 l) []
theorem ltree_ok{l:List Nat}{b:Bw}(e:ltree l=some b):bd b<=l.countP isOp/\bz b<=l.countP spB+2*l.countP sixB+1:=by
 unfold ltree at e
 cases e1:lrun [(0,[])] (swg [] (R6 l))with
 |none=>rw[e1]at e;cases e
 |some st =>
  rw[e1]at e
  have z:=lrun_ok _ st0 e1
  unfold lend at e
  split at e
  ·cases e
   rename_i o b' h
   cases h
   have h1:=z.d.1 b (.head _)
   have h2:=z.z
   have:=words_cnt l
   have:=words_few l
   simp only[zst,bzs,List.length_cons,List.length_nil]at h1 h2
   omega
  ·cases e
end G12
namespace G12
open PySem L2
def lfig(w:List Nat):Option Int:=if 1<=w.length/\w.length<7/\∀c∈w,48<=c/\c<=57 then PySem.intText? (ofL w)else none
theorem lfig_some{w:List Nat}(h:1<=w.length/\w.length<7/\∀c∈w,48<=c/\c<=57):∃n:Int,(0<=n/\n<1000000)/\PySem.intText? (ofL w)=some n/\lfig w=some n:=by
 obtain⟨n,n0,n1,e⟩:=int_figs (l:=w) (fun z=>by rw[z]at h;exact absurd h.1 (by decide)) (by omega) h.2.2
 exact⟨n,⟨n0,n1⟩,e,by unfold lfig;rw[if_pos h,e]⟩
theorem lfig_ok{w:List Nat}{n:Int}(h:lfig w=some n):0<=n/\n<1000000:=by
 by_cases hw:1<=w.length/\w.length<7/\∀c∈w,48<=c/\c<=57
 ·obtain⟨m,hm,_,e⟩:=lfig_some hw
  rw[e]at h
  cases h
  exact hm
 ·unfold lfig at h
  rw[if_neg hw]at h
  cases h
theorem lfig_digs{n:Int}(h:0<=n/\n<1000000):lfig (digs n)=some n:=by
 obtain⟨a,r,e,ha,hr,_,hl⟩:=digs_big h
 unfold lfig
 rw[if_pos]
 ·exact int_digs h.1 h.2
 ·rw[e]
  refine⟨by simp,by simp;omega,fun c hc=>?_⟩
  rcases List.mem_cons.mp hc with rfl|hc
  ·exact ha
  ·exact hr c hc
def lwd:Bw->Option (List Nat)
 |.a w=>some w
 |.g _ _=>none
def lfg(b:Bw):Option Int:=(lwd b).bind lfig
def lleft:List Bw->Option Th
 | [b]=>(lfg b).map .left
 |_=>none
def lhd:List Bw->Option (List Nat)
 |b::_=>lwd b
 | []=>none
def ltag:Option (List Nat)->Option (List Th)->Option Th
 |some w,some ts=>if nmB w=true then some (.tag (ofL w) ts)else none
 |_,_=>none
mutual
def lth:Bw->Option Th
 |.a w=>(lfig w).map .num
 |.g o ws=>if o=60 then lleft ws else if o=40 then ltag (lhd ws) (ltl ws)else(lths ws).map .row
def ltl:List Bw->Option (List Th)
 | []=>none
 |_::r=>lths r
def lths:List Bw->Option (List Th)
 | []=>some []
 |b::r=>match lth b,lths r with
  |some t,some ts=>some (t::ts)
  |_,_=>none
end
mutual
def tsz:Th->Nat
 |.num _=>1
 |.left _=>1
 |.row l=>tszs l+1
 |.tag _ l=>tszs l+1
def tszs:List Th->Nat
 | []=>0
 |x::r=>tsz x+tszs r
end
mutual
def tdp:Th->Nat
 |.num _=>0
 |.left _=>0
 |.row l=>tdps l+1
 |.tag _ l=>tdps l+1
def tdps:List Th->Nat
 | []=>0
 |x::r=>max (tdp x) (tdps r)
end
structure FdOk(t:Th) (d z:Nat):Prop where
 ok:ThOk t
 d:tdp t<=d
 z:tsz t<=z
structure FdOks(l:List Th) (d z n:Nat):Prop where
 ok:ThOks l
 d:tdps l<=d
 z:tszs l<=z
 n:l.length=n
theorem lths_ok{ws:List Bw}(ih:∀b∈ws,∀t,lth b=some t->FdOk t (bd b) (bz b)):∀ts,lths ws=some ts->FdOks ts (bds ws) (bzs ws) ws.length:=by
 induction ws with
 |nil=>intro ts e;rw[lths]at e;cases e;exact⟨by rw[ThOks];trivial,by rw[tdps];exact Nat.zero_le _,by rw[tszs];exact Nat.zero_le _,rfl⟩
 |cons b r ihr =>
  intro ts e
  rw[lths]at e
  split at e
  ·rename_i t us e1 e2
   cases e
   obtain⟨a1,a2,a3⟩:=ih b (.head _) t e1
   obtain⟨b1,b2,b3,b4⟩:=ihr (fun x hx=>ih x (.tail _ hx)) us e2
   exact⟨by rw[ThOks];exact⟨a1,b1⟩,by rw[tdps,bds];omega,by rw[tszs,bzs];omega,by rw[List.length_cons,b4,List.length_cons]⟩
  ·cases e
theorem lth_ok(b:Bw):∀t,lth b=some t->FdOk t (bd b) (bz b):=by
 refine Bw.induct (P:=fun b=>∀t,lth b=some t->FdOk t (bd b) (bz b)) (fun w t e=>?_) (fun o ws ih t e=>?_) b
 ·rw[lth]at e
  obtain⟨n,e1,rfl⟩:=Option.map_eq_some_iff.mp e
  exact⟨by rw[ThOk];exact lfig_ok e1,by rw[tdp];exact Nat.zero_le _,by rw[tsz,bz];exact Nat.le_refl _⟩
 ·rw[lth]at e
  rw[bd,bz]
  split at e
  ·unfold lleft at e
   split at e
   ·obtain⟨n,e1,rfl⟩:=Option.map_eq_some_iff.mp e
    obtain⟨w,e2,e3⟩:=Option.bind_eq_some_iff.mp e1
    exact⟨by rw[ThOk];exact lfig_ok e3,by rw[tdp];exact Nat.zero_le _,by rw[tsz];omega⟩
   ·cases e
  ·split at e
   ·unfold ltag at e
    split at e
    ·split at e
     ·rename_i w ts e0 e1 hn
      cases e
      cases ws with
      |nil=>rw[ltl]at e1;cases e1
      |cons b r =>
       rw[ltl]at e1
       obtain⟨a1,a2,a3,_⟩:=lths_ok (fun x hx=>ih x (.tail _ hx)) ts e1
       exact⟨by rw[ThOk];exact⟨nmB_ok hn,a1⟩,by rw[tdp,bds];omega,by rw[tsz,bzs];omega⟩
     ·cases e
    ·cases e
   ·obtain⟨ts,e1,rfl⟩:=Option.map_eq_some_iff.mp e
    obtain⟨a1,a2,a3,_⟩:=lths_ok ih ts e1
    exact⟨by rw[ThOk];exact a1,by rw[tdp];omega,by rw[tsz];omega⟩
mutual
def thL:Th->Bw
 |.num n=>.a (digs n)
 |.left n=>.g 60 [.a (digs n)]
 |.row l=>.g 91 (thLs l)
 |.tag t l=>.g 40 (.a t.cps.toList::thLs l)
def thLs:List Th->List Bw
 | []=>[]
 |x::r=>thL x::thLs r
end
mutual
theorem lth_thL:∀t:Th,ThOk t->lth (thL t)=some t
 |.num n,h=>by rw[ThOk]at h;rw[thL,lth,lfig_digs h];rfl
 |.left n,h=>by rw[ThOk]at h;rw[thL,lth,if_pos rfl];show(lfig (digs n)).map Th.left=_;rw[lfig_digs h];rfl
 |.row l,h=>by rw[ThOk]at h;rw[thL,lth,if_neg (by decide),if_neg (by decide),lths_thLs l h];rfl
 |.tag t l,h=>by
  rw[ThOk]at h
  rw[thL,lth,if_neg (by decide),if_pos rfl,ltl,lths_thLs l h.2]
  show(if nmB t.cps.toList=true then some (Th.tag (ofL t.cps.toList) l)else none)=_
  rw[if_pos (nmB_of h.1),ofL_toList]
theorem lths_thLs:∀l:List Th,ThOks l->lths (thLs l)=some l
 | [],_=>by rw[thLs,lths]
 |x::r,h=>by rw[ThOks]at h;rw[thLs,lths,lth_thL x h.1,lths_thLs r h.2]
end
mutual
def ltk:Th->List (List Nat)
 |.num n=>[digs n]
 |.left n=>[[60],digs n,[62]]
 |.row l=>[91]::(ltks l++[[93]])
 |.tag t l=>[40]::t.cps.toList::(ltks l++[[41]])
def ltks:List Th->List (List Nat)
 | []=>[]
 |x::r=>ltk x++ltks r
end
def psg(c:Nat):Prop:=33<=c/\c<=126/\c∉six
theorem psg_sp{c:Nat}(h:psg c):Unicode.isSpace c=false:=PySem.W.KWk.nosp h.1 h.2.1
theorem swg_sign{c:Nat}(h:Unicode.isSpace c=false)(cur r:List Nat):swg cur (c::r)=swg (cur++[c]) r:=by
 rw[swg,if_neg (by rw[h];decide)]
theorem swg_blank(r:List Nat):swg [] (32::r)=swg [] r:=by rw[swg,if_pos (by decide),if_pos rfl]
theorem swg_word:∀{w:List Nat},(∀c∈w,psg c)->∀cur tl,swg cur (w++tl)=swg (cur++w) tl
 | [],_,cur,tl=>by rw[List.nil_append,List.append_nil]
 |c::w,h,cur,tl=>by
  rw[List.cons_append,swg_sign (psg_sp (h c (.head _))),swg_word (fun x hx=>h x (.tail _ hx)),List.append_assoc]
  rfl
theorem swg_end{cur tl:List Nat}(h:Tl tl)(hc:cur≠[]):swg cur tl=cur::swg [] tl:=by
 rcases h with rfl|⟨r,rfl⟩
 ·rw[swg,if_neg hc,swg,if_pos rfl]
 ·rw[swg,if_pos (by decide),if_neg hc,swg_blank]
theorem swg_one{w tl:List Nat}(h:∀c∈w,psg c)(h0:w≠[])(ht:Tl tl):swg [] (w++tl)=w::swg [] tl:=by
 rw[swg_word h,List.nil_append,swg_end ht h0]
theorem six_sp:∀c∈six,Unicode.isSpace c=false:=by decide
theorem swg_br{c:Nat}(h:c∈six)(tl:List Nat):swg [] (32::c::32::tl)=[c]::swg [] tl:=by
 rw[swg_blank,swg_sign (six_sp c h),List.nil_append,swg_end (.inr ⟨_,rfl⟩) (by simp),swg_blank]
theorem R6_app(a b:List Nat):R6 (a++b)=R6 a++R6 b:=by unfold R6;rw[List.flatMap_append]
theorem R6_free:∀{w:List Nat},(∀c∈w,psg c)->R6 w=w
 | [],_=>rfl
 |c::w,h=>by
  have ih:=R6_free (w:=w) fun x hx=>h x (.tail _ hx)
  unfold R6 at ih⊢
  rw[List.flatMap_cons,ih,mk6,if_neg (h c (.head _)).2.2]
  rfl
theorem R6_br{c:Nat}(h:c∈six)(r:List Nat):R6 (c::r)=32::c::32::R6 r:=by
 unfold R6
 rw[List.flatMap_cons,mk6,if_pos h]
 rfl
theorem R6_32(r:List Nat):R6 (32::r)=32::R6 r:=by
 unfold R6
 rw[List.flatMap_cons,mk6,if_neg (by decide)]
 rfl
theorem R6_nil:R6 []=[]:=rfl
theorem digs_psg{n:Int}(h:0<=n/\n<1000000):digs n≠[]/\(digs n).length<=6/\∀c∈digs n,psg c:=by
 obtain⟨a,r,e,ha,hr,_,hl⟩:=digs_big h
 rw[e]
 have hc:∀c,48<=c/\c<=57->psg c:=fun c h=>⟨by omega,by omega,fun z=>by
  have:∀c∈six,c<48\/57<c:=by decide
  have:=this c z
  omega⟩
 refine⟨by simp,by simp;omega,fun c h=>?_⟩
 rcases List.mem_cons.mp h with rfl|h
 ·exact hc _ ha
 ·exact hc c (hr c h)
theorem name_psg{x:Str}(h:nmOk x):x.cps.toList≠[]/\x.cps.toList.length<=6/\∀c∈x.cps.toList,psg c:=by
 have e:x.cps.toList.length=x.length:=by show _=x.cps.size;simp
 refine⟨fun z=>?_,by rw[e];exact h.2.1,fun c hc=>?_⟩
 ·rw[z]at e
  have:=h.1
  rw[←e]at this
  exact absurd this (by decide)
 ·have h1:97<=c/\c<=122:=h.2.2.1 c hc
  refine⟨by omega,by omega,fun z=>?_⟩
  have:∀c∈six,c<97\/122<c:=by decide
  have:=this c z
  omega
theorem Tl.r6{l tl:List Nat}(h:∃r,l=32::r):Tl (R6 l++tl):=by
 obtain⟨r,rfl⟩:=h
 rw[R6_32]
 exact .inr ⟨_,rfl⟩
theorem tl_txtr(ws:List Bw)(tl:List Nat)(ht:Tl tl):Tl (R6 (Bw.txtr ws)++tl):=by
 cases ws with
 |nil=>unfold Bw.txtr;exact ht
 |cons x r=>unfold Bw.txtr;exact Tl.r6 ⟨_,rfl⟩
mutual
theorem ltk_of:∀t:Th,ThOk t->∀tl,Tl tl->swg [] (R6 (thB t).txt++tl)=ltk t++swg [] tl
 |.num n,h,tl,ht=>by
  rw[ThOk]at h
  obtain⟨h0,_,h1⟩:=digs_psg h
  rw[thB,Bw.txt,ltk,R6_free h1,swg_one h1 h0 ht]
  rfl
 |.left n,h,tl,ht=>by
  rw[ThOk]at h
  obtain⟨h0,_,h1⟩:=digs_psg h
  rw[thB,Bw.txt,ltk,R6_br (by decide),R6_app,R6_free h1,R6_br (by decide),R6_nil]
  show swg [] (32::60::32::((digs n++[32,62,32])++tl))=_
  rw[swg_br (by decide),List.append_assoc,swg_one h1 h0 (show Tl ([32,62,32]++tl)from .inr ⟨_,rfl⟩)]
  show [60]::digs n::swg [] (32::62::32::tl)=_
  rw[swg_br (by decide)]
  rfl
 |.row l,h,tl,ht=>by
  rw[ThOk]at h
  rw[thB,Bw.txt,ltk,R6_br (by decide),R6_app,show clo 91=93 from rfl,R6_br (by decide),R6_nil]
  show swg [] (32::91::32::((R6 (Bw.txts (thBs l))++[32,93,32])++tl))=_
  rw[swg_br (by decide),List.append_assoc,ltks_of l h _ (show Tl ([32,93,32]++tl)from .inr ⟨_,rfl⟩)]
  show [91]::(ltks l++swg [] (32::93::32::tl))=_
  rw[swg_br (by decide)]
  simp
 |.tag t l,h,tl,ht=>by
  rw[ThOk]at h
  obtain⟨h0,_,h1⟩:=name_psg h.1
  rw[thB,Bw.txt,ltk,R6_br (by decide),R6_app,show clo 40=41 from rfl,R6_br (by decide),R6_nil,Bw.txts,R6_app,Bw.txt,R6_free h1]
  show swg [] (32::40::32::(((t.cps.toList++R6 (Bw.txtr (thBs l)))++[32,41,32])++tl))=_
  rw[swg_br (by decide),List.append_assoc,List.append_assoc,swg_one h1 h0 (tl_txtr _ _ (show Tl ([32,41,32]++tl)from .inr ⟨_,rfl⟩)),ltkr_of l h.2 _ (show Tl ([32,41,32]++tl)from .inr ⟨_,rfl⟩)]
  show [40]::t.cps.toList::(ltks l++swg [] (32::41::32::tl))=_
  rw[swg_br (by decide)]
  simp
theorem ltks_of:∀l:List Th,ThOks l->∀tl,Tl tl->swg [] (R6 (Bw.txts (thBs l))++tl)=ltks l++swg [] tl
 | [],_,tl,_=>by rw[thBs,Bw.txts,ltks];rfl
 |x::r,h,tl,ht=>by
  rw[ThOks]at h
  rw[thBs,Bw.txts,ltks,R6_app,List.append_assoc,ltk_of x h.1 _ (tl_txtr _ _ ht),ltkr_of r h.2 tl ht,List.append_assoc]
theorem ltkr_of:∀l:List Th,ThOks l->∀tl,Tl tl->swg [] (R6 (Bw.txtr (thBs l))++tl)=ltks l++swg [] tl
 | [],_,tl,_=>by rw[thBs,Bw.txtr,ltks];rfl
 |x::r,h,tl,ht=>by
  rw[ThOks]at h
  rw[thBs,Bw.txtr,ltks,R6_32,R6_app,List.cons_append,swg_blank,List.append_assoc,ltk_of x h.1 _ (tl_txtr _ _ ht),ltkr_of r h.2 tl ht,List.append_assoc]
end
theorem psg_word{w:List Nat}(h:∀c∈w,psg c):one1 isOp w=false/\one1 isCl w=false:=by
 match w with
 | []=>exact⟨rfl,rfl⟩
 | [c] =>
  have hc:=(h c (.head _)).2.2
  have e:∀c,c∉six->isOp c=false/\isCl c=false:=fun c hc=>by
   simp only[six,List.mem_cons,List.not_mem_nil,or_false,not_or]at hc
   unfold isOp isCl
   simp[hc]
  exact e c hc
 |a::b::r=>exact⟨rfl,rfl⟩
theorem lstp_word{w:List Nat}(h:∀c∈w,psg c)(o:Nat)(xs:List Bw)(st:BSt):lstp ((o,xs)::st) w=some ((o,xs++[.a w])::st):=by
 obtain⟨h1,h2⟩:=psg_word h
 unfold lstp
 rw[if_neg (by rw[h1];decide),if_neg (by rw[h2];decide)]
theorem lrun_cons{st st':BSt}{w:List Nat}{r:List (List Nat)}(h:lstp st w=some st'):lrun st (w::r)=lrun st' r:=by rw[lrun,h];rfl
theorem lstp_op{c:Nat}(h:isOp c=true)(st:BSt):lstp st [c]=some ((c,[])::st):=by unfold lstp;rw[if_pos (show one1 isOp [c]=true from h)];rfl
mutual
theorem lrun_of:∀t:Th,ThOk t->∀(o:Nat) (ys:List Bw) (st:BSt) (r:List (List Nat)),lrun ((o,ys)::st) (ltk t++r)=lrun ((o,ys++[thL t])::st) r
 |.num n,h,o,ys,st,r=>by
  rw[ThOk]at h
  rw[ltk,thL]
  exact lrun_cons (lstp_word (digs_psg h).2.2 _ _ _)
 |.left n,h,o,ys,st,r=>by
  rw[ThOk]at h
  rw[ltk,thL]
  show lrun _ ([60]::digs n::[62]::r)=_
  rw[lrun_cons (lstp_op rfl _),lrun_cons (lstp_word (digs_psg h).2.2 _ _ _)]
  exact lrun_cons rfl
 |.row l,h,o,ys,st,r=>by
  rw[ThOk]at h
  rw[ltk,thL]
  show lrun _ ([91]::((ltks l++[[93]])++r))=_
  rw[lrun_cons (lstp_op rfl _),List.append_assoc,lruns_of l h]
  exact lrun_cons rfl
 |.tag t l,h,o,ys,st,r=>by
  rw[ThOk]at h
  rw[ltk,thL]
  show lrun _ ([40]::t.cps.toList::((ltks l++[[41]])++r))=_
  rw[lrun_cons (lstp_op rfl _),lrun_cons (lstp_word (name_psg h.1).2.2 _ _ _),List.append_assoc,lruns_of l h.2]
  exact lrun_cons rfl
theorem lruns_of:∀l:List Th,ThOks l->∀(o:Nat) (ys:List Bw) (st:BSt) (r:List (List Nat)),lrun ((o,ys)::st) (ltks l++r)=lrun ((o,ys++thLs l)::st) r
 | [],_,o,ys,st,r=>by rw[ltks,thLs,List.append_nil];rfl
 |x::l,h,o,ys,st,r=>by
  rw[ThOks]at h
  rw[ltks,thLs,List.append_assoc,lrun_of x h.1,lruns_of l h.2,List.append_assoc]
  rfl
end
theorem ltree_th{t:Th}(h:ThOk t):ltree (thB t).txt=some (thL t):=by
 have e:=ltk_of t h [] (.inl rfl)
 rw[List.append_nil]at e
 unfold ltree
 rw[e,lrun_of t h 0 [] [] (swg [] []),swg,if_pos rfl]
 rfl
def lfind(l:List Nat):Option Th:=(ltree l).bind lth
theorem lfind_th{t:Th}(h:ThOk t):lfind (thB t).txt=some t:=by
 unfold lfind
 rw[ltree_th h]
 exact lth_thL t h
theorem lfind_ok{l:List Nat}{t:Th}(h:lfind l=some t):FdOk t (l.countP isOp) (l.countP spB+2*l.countP sixB+1):=by
 obtain⟨b,e1,e2⟩:=Option.bind_eq_some_iff.mp h
 obtain⟨a1,a2⟩:=ltree_ok e1
 obtain⟨b1,b2,b3⟩:=lth_ok b t e2
 exact⟨b1,by omega,by omega⟩
mutual
theorem txt_len:∀t:Th,ThOk t->(thB t).txt.length+1<=10*tsz t
 |.num n,h=>by
  rw[ThOk]at h
  rw[thB,Bw.txt,tsz]
  have:=(digs_psg h).2.1
  omega
 |.left n,h=>by
  rw[ThOk]at h
  rw[thB,Bw.txt,tsz,List.length_cons,List.length_append]
  have:=(digs_psg h).2.1
  show _+1+1+1<=_
  omega
 |.row l,h=>by
  rw[ThOk]at h
  rw[thB,Bw.txt,tsz,List.length_cons,List.length_append]
  have:=txts_len l h
  show _+1+1+1<=_
  omega
 |.tag t l,h=>by
  rw[ThOk]at h
  rw[thB,Bw.txt,tsz,List.length_cons,List.length_append,Bw.txts,Bw.txt,List.length_append]
  have:=txtr_len l h.2
  have:=(name_psg h.1).2.1
  show _+1+1+1<=_
  omega
theorem txts_len:∀l:List Th,ThOks l->(Bw.txts (thBs l)).length<=10*tszs l
 | [],_=>by rw[thBs,Bw.txts];exact Nat.zero_le _
 |x::r,h=>by
  rw[ThOks]at h
  rw[thBs,Bw.txts,tszs,List.length_append]
  have:=txt_len x h.1
  have:=txtr_len r h.2
  omega
theorem txtr_len:∀l:List Th,ThOks l->(Bw.txtr (thBs l)).length<=10*tszs l
 | [],_=>by rw[thBs,Bw.txtr];exact Nat.zero_le _
 |x::r,h=>by
  rw[ThOks]at h
  rw[thBs,Bw.txtr,tszs,List.length_cons,List.length_append]
  have:=txt_len x h.1
  have:=txtr_len r h.2
  omega
theorem tsz_pos:∀t:Th,1<=tsz t
 |.num _=>by rw[tsz];exact Nat.le_refl _
 |.left _=>by rw[tsz];exact Nat.le_refl _
 |.row _=>by rw[tsz];omega
 |.tag _ _=>by rw[tsz];omega
end
end G12
namespace G12
open PySem L2 PyProof.Rows PySem.W
def dueO(l:List Nat):Option Th:=(lfind l).bind fun t=>if(thB t).txt=l then some t else none
theorem dueO_some{l:List Nat}{t:Th}(h:dueO l=some t):ThOk t/\l=(thB t).txt:=by
 obtain⟨t',e1,e2⟩:=Option.bind_eq_some_iff.mp h
 split at e2
 ·rename_i hl
  cases e2
  exact⟨(lfind_ok e1).ok,hl.symm⟩
 ·cases e2
theorem dueO_of{l:List Nat}{t:Th}(h:ThOk t)(e:l=(thB t).txt):dueO l=some t:=by
 subst e
 unfold dueO
 rw[lfind_th h]
 exact if_pos rfl
theorem dueO_none{l:List Nat}(h:¬ ∃t,ThOk t/\l=(thB t).txt):dueO l=none:=by
 cases e:dueO l with
 |none=>rfl
 |some t=>exact absurd ⟨t,dueO_some e⟩ h
def outT:Option Th->T
 |some t=>.t [.s "read",thT t]
 |none=>.t [.s "refused",.i 0]
def EH(cB:Addr)(H:Hp)(l:List Nat):XK:=fun cls od H'=>∃dx,cls=.ref cB/\od=some dx/\Same H H'/\H' dx=some (.xd [("at",.int 0)])/\¬ ∃t,ThOk t/\l=(thB t).txt
def spHd(K:PySem.W.Frag):Sp:=fun vs H Q _=>∃l:List Nat,vs=[.str (ofL l)]/\l.length<=2900/\∀(v:V) (H':Hp),Same H H'->Rp K H' (outT (dueO l)) v->Q v H'
section
variable {P:Program}{w:World}{K:PySem.W.Frag}{mg:Str->Option Value}{base:Heap}{cB G gR gF:Addr}{rfd ffd:FuncData}{oth:List Addr}
theorem nm_L_heard:Nm ["_law_text","_law_found","_law_e"] (defScope s_L_heard):=by decide +kernel
theorem lm_L_heard:Lm ["_law_text","_law_found","_law_e"] (defScope s_L_heard):=by decide +kernel
theorem sc_L_heard:FnScope ["_law_text","_law_found","_law_e"] ["_law_text"] (defScope s_L_heard):=⟨rfl,rfl,rfl,by decide +kernel,rfl,by decide +kernel,by decide +kernel⟩
theorem ok_heard{f:Addr}{fd:FuncData}{j:Nat}(hj:1<=j)(F:Fun K "_law_heard" "_law_heard" s_L_heard f fd)(RDG:HasE P w K mg base "read_thing" j ["text"] (spReadT K cB) gR rfd)(LRF:HasH P w K mg base "_law_refusal" 1 ["_law_e"] (spRf cB) gF ffd)(C:Cl1 K cB G oth)(m_GapError:mg "GapError"=some (.ref G)):FnOk P w K mg base CX0 (j+1) f fd ["_law_text"] (spHd K):=by
 refine F.ok0 sc_L_heard (fun vs H Q E h=>?_) (fun cdv A outer s H vs Q E hr h=>?_)
 ·obtain⟨_,rfl,_⟩:=h
  rfl
 obtain⟨l,rfl,hl,k⟩:=h
 refine⟨_,(pss0_cons (ps_try (E':=(EH cB H l)) (i:=2) rfl rfl rfl (@pss_one _ _ _ (@sa _ _ _ _ _ _ sc_L_heard.nd lm_L_heard 1 (@pe_tup _ _ _ _ _ (@pa_c _ _ _ _ _ pe_str (@pa_c _ _ _ _ _ (@pe_call _ _ _ _ _ _ _ _ _ _ _ _ _ _ _ _ RDG.ok (hr.mono (by omega)) (by show _=_;kernel_rfl) RDG.at' RDG.kp RDG.bd .nil passE (pa_c (va nm_L_heard 0) pa_nil) (by decide) (by rfl) (by rfl)) pa_nil (by rfl)) (by rfl))) (by rfl) (by kernel_rfl) (by exact .inl rfl))) (by show _=_;kernel_rfl) m_GapError sc_L_heard.nd rfl (by kernel_rfl) (fun _=>(@pss_one _ _ _ (@sa _ _ _ _ _ _ sc_L_heard.nd lm_L_heard 1 (@pe_tup _ _ _ _ _ (@pa_c _ _ _ _ _ pe_str (@pa_c _ _ _ _ _ (pe_callH LRF.ok ((hr.mono (by omega)).mark _) (by show _=_;kernel_rfl) LRF.at' LRF.kp LRF.bd pass0 (pa_c (va nm_L_heard 2) pa_nil)) pa_nil (by rfl)) (by rfl))) (by rfl) (by kernel_rfl) (by exact .inl rfl)))))
  (PSs.top (@pss_one _ _ _ (ps_ret (va nm_L_heard 1))))),?_⟩
 try dsimp only[cx_K]
 try dsimp only[cx_K]
 have tl:(¬ ∃t,ThOk t/\l=(thB t).txt)->Told (EH cB H l) H cB "at" (.int 0):=fun hn dx H' s' h0 h1=>⟨dx,rfl,rfl,s',h1,hn⟩
 fail "R"
 ·fail "R"
  intro t v H1 s1 tk e r1
  fail "R"
  intro p1 hp1
  have s2:=same_new hp1 (.tup [.str "read",v])
  have fin:=k (.ref p1) _ (s1.trans s2) (by rw[dueO_of tk e];exact Rp.t (SqT.of upd_same) (.cons .s (.one (r1.same s2))))
  fail "R"
  exact fin
 rintro cls od H1 ⟨dx,rfl,rfl,s1,hx,hn⟩
 refine⟨_,rfl,C.sub,fun x hxn=>?_⟩
 have nx:dx≠x:=ne_of_none hx hxn
 have s2:=same_new hxn (.ext (errX x cB (some dx)))
 have e2:ErrAtX (upd H1 x (.ext (errX x cB (some dx)))) x cB [("at",.int 0)]:=.inr ⟨dx,upd_same,s2 _ _ hx⟩
 generalize upd H1 x (.ext (errX x cB (some dx)))=H2 at s2 e2⊢
 fail "R"
 intro H3 s3
 fail "R"
 intro p4 hp4
 have s4:=same_new hp4 (.tup [.str "refused",.int 0])
 have fin:=k (.ref p4) _ (s1.trans (s2.trans (s3.trans s4))) (by rw[dueO_none hn];exact Rp.t (SqT.of upd_same) (.cons .s (.one .i)))
 fail "R"
 exact fin
end
end G12
namespace G12
open PySem L2
mutual
def RL(M:List Addr)(H:Hp):Bw->V->Prop
 |.a w,v=>v=.str (ofL w)/\w.length<=10000
 |.g o ws,v=>∃e k us,v=.ref e/\e∉M/\k∉M/\H e=some (.lst [.str ⟨#[o]⟩,.ref k])/\H k=some (.lst us)/\RLs M H ws us
def RLs(M:List Addr)(H:Hp):List Bw->List V->Prop
 | [],us=>us=[]
 |b::r,us=>∃v q,us=v::q/\RL M H b v/\RLs M H r q
end
def Kpl(M M':List Addr)(H H':Hp):Prop:=∀a vs,a∉M->H a=some (.lst vs)->a∉M'/\H' a=some (.lst vs)
theorem rls_imp{M M':List Addr}{H H':Hp}:∀{l:List Bw},(∀x∈l,∀v,RL M H x v->RL M' H' x v)->∀{us},RLs M H l us->RLs M' H' l us
 | [],_,us,h=>by rw[RLs]at h⊢;exact h
 |x::r,hx,us,h=>by
  rw[RLs]at h⊢
  obtain⟨v,q,e,h1,h2⟩:=h
  exact⟨v,q,e,hx x (.head _) v h1,rls_imp (fun y hy=>hx y (.tail _ hy)) h2⟩
theorem rl_keep{M M':List Addr}{H H':Hp}(k:Kpl M M' H H'):∀(b:Bw) (v:V),RL M H b v->RL M' H' b v:=by
 intro b
 refine Bw.induct (P:=fun b=>∀v,RL M H b v->RL M' H' b v) (fun w v h=>?_) (fun o ws ih v h=>?_) b
 ·rw[RL]at h⊢;exact h
 ·rw[RL]at h⊢
  obtain⟨e,a,us,ev,n1,n2,h1,h2,h3⟩:=h
  obtain⟨k1,k2⟩:=k e _ n1 h1
  obtain⟨k3,k4⟩:=k a _ n2 h2
  exact⟨e,a,us,ev,k1,k3,k2,k4,rls_imp ih h3⟩
theorem rls_keep{M M':List Addr}{H H':Hp}(k:Kpl M M' H H'){l:List Bw}{us:List V}(h:RLs M H l us):RLs M' H' l us:=rls_imp (fun x _ v=>rl_keep k x v) h
theorem Kpl.same{M:List Addr}{H H':Hp}(s:Same H H'):Kpl M M H H':=fun a vs n e=>⟨n,s _ _ e⟩
theorem rls_len{M:List Addr}{H:Hp}:∀{l:List Bw}{us:List V},RLs M H l us->us.length=l.length
 | [],us,h=>by rw[RLs]at h;rw[h];rfl
 |x::r,us,h=>by
  rw[RLs]at h
  obtain⟨v,q,rfl,_,h2⟩:=h
  rw[List.length_cons,rls_len h2,List.length_cons]
theorem rls_snoc{M:List Addr}{H:Hp}{b:Bw}{v:V}(hb:RL M H b v):∀{l:List Bw}{us:List V},RLs M H l us->RLs M H (l++[b]) (us++[v])
 | [],us,h=>by rw[RLs]at h;subst h;rw[List.nil_append,List.nil_append,RLs];exact⟨v,[],rfl,hb,by rw[RLs]⟩
 |x::r,us,h=>by
  rw[RLs]at h
  obtain⟨u,q,rfl,h1,h2⟩:=h
  rw[List.cons_append,List.cons_append,RLs]
  exact⟨u,q++[v],rfl,h1,rls_snoc hb h2⟩
theorem rls_get{M:List Addr}{H:Hp}:∀{l:List Bw}{us:List V},RLs M H l us->∀{i:Nat}{v:V},us[i]?=some v->∃b,l[i]?=some b/\RL M H b v
 | [],us,h,i,v,e=>by rw[RLs]at h;subst h;simp at e
 |x::r,us,h,i,v,e=>by
  rw[RLs]at h
  obtain⟨u,q,rfl,h1,h2⟩:=h
  cases i with
  |zero=>cases Option.some.inj e;exact⟨x,rfl,h1⟩
  |succ i=>exact rls_get h2 e
def thO:Option Th->T
 |some t=>thT t
 |none=>.n
theorem lths_none:∀{ws:List Bw},(∃b∈ws,lth b=none)->lths ws=none
 | [],⟨b,h,_⟩=>nomatch h
 |x::r,⟨b,h,e⟩=>by
  rw[lths]
  rcases List.mem_cons.mp h with rfl|h
  ·rw[e]
  ·rw[lths_none ⟨b,h,e⟩]
   cases lth x<;>rfl
theorem lths_some:∀{ws:List Bw},(∀b∈ws,lth b≠none)->∃ts,lths ws=some ts/\ws.map (fun b=>thO (lth b))=ts.map thT
 | [],_=>⟨[],by rw[lths],rfl⟩
 |x::r,h=>by
  obtain⟨ts,e1,e2⟩:=lths_some (ws:=r) fun b hb=>h b (.tail _ hb)
  cases ex:lth x with
  |none=>exact absurd ex (h x (.head _))
  |some t=>exact⟨t::ts,by rw[lths,ex,e1],by rw[List.map_cons,List.map_cons,e2,ex];rfl⟩
theorem thT_tup(t:Th):∃xs,thT t=.t xs:=by cases t<;>rw[thT]<;>exact⟨_,rfl⟩
theorem any_non{K:PySem.W.Frag}{H:Hp}:∀{ws:List Bw}{us:List V},Rps K H (ws.map fun b=>thO (lth b)) us->(us.any fun u=>decide (u=.non))=ws.any fun b=>(lth b).isNone
 | [],us,h=>by obtain rfl:=h.inv0;rfl
 |x::r,us,h=>by
  obtain⟨u,q,rfl,g0,rs⟩:=h.inv
  have g:Rp K H (thO (lth x)) u:=g0
  rw[List.any_cons,List.any_cons,any_non rs]
  congr 1
  cases ex:lth x with
  |none =>
   rw[ex]at g
   unfold thO Rp at g
   rw[g]
   rfl
  |some t =>
   rw[ex]at g
   obtain⟨xs,e⟩:=thT_tup t
   have g:Rp K H (thT t) u:=g
   rw[e]at g
   obtain⟨p,us,rfl,_,_⟩:=g.inv_t
   rfl
theorem each_non{K:PySem.W.Frag}{H:Hp}:∀{ws:List Bw}{us:List V},Rps K H (ws.map fun b=>thO (lth b)) us->∀u∈us,u=.non\/∃a xs,u=.ref a/\SqT K H a xs
 | [],us,h,u,hu=>by obtain rfl:=h.inv0;cases hu
 |x::r,us,h,u,hu=>by
  obtain⟨u',q,rfl,g0,rs⟩:=h.inv
  rcases List.mem_cons.mp hu with rfl|hu
  ·have g:Rp K H (thO (lth x)) u:=g0
   cases ex:lth x with
   |none =>
    rw[ex]at g
    unfold thO Rp at g
    exact .inl g
   |some t =>
    rw[ex]at g
    obtain⟨xs,e⟩:=thT_tup t
    have g:Rp K H (thT t) u:=g
    rw[e]at g
    obtain⟨p,us,e2,sq,_⟩:=g.inv_t
    exact .inr ⟨p,us,e2,sq⟩
  ·exact each_non rs u hu
end G12
namespace G12
open PySem L2
def opS(o:Nat):Str:=if o=0 then Str.ofString "" else⟨#[o]⟩
def LFr(M:List Addr)(H:Hp):BSt->List Addr->List Addr->Prop
 | [],es,ks=>es=[]/\ks=[]
 |f::st,es,ks=>∃e er k kr us,es=e::er/\ks=k::kr/\H e=some (.lst [.str (opS f.1),.ref k])/\H k=some (.lst us)/\RLs M H f.2 us/\LFr M H st er kr
theorem LFr.keep{M M':List Addr}{H H':Hp}(k:Kpl M M' H H'):∀{st:BSt}{es ks:List Addr},LFr M H st es ks->(∀a,a∈es\/a∈ks->∀v,H a=some v->H' a=some v)->LFr M' H' st es ks
 | [],_,_,h,_=>h
 |f::st,es,ks,⟨e,er,q,kr,us,e1,e2,h1,h2,h3,h4⟩,hk=>by
  subst e1
  subst e2
  exact⟨e,er,q,kr,us,rfl,rfl,hk e (.inl (.head _)) _ h1,hk q (.inr (.head _)) _ h2,rls_keep k h3,h4.keep k fun a ha=>hk a (ha.imp (.tail _) (.tail _))⟩
theorem LFr.len{M:List Addr}{H:Hp}:∀{st:BSt}{es ks:List Addr},LFr M H st es ks->es.length=st.length
 | [],_,_,⟨e,_⟩=>by rw[e];rfl
 |f::st,_,_,⟨e,er,q,kr,us,e1,e2,h1,h2,h3,h4⟩=>by subst e1;rw[List.length_cons,h4.len,List.length_cons]
theorem LFr.some{M:List Addr}{H:Hp}:∀{st:BSt}{es ks:List Addr},LFr M H st es ks->∀a,a∈es\/a∈ks->H a≠none
 | [],_,_,⟨e1,e2⟩,a,ha=>by subst e1;subst e2;rcases ha with ha|ha<;>cases ha
 |f::st,_,_,⟨e,er,q,kr,us,e1,e2,h1,h2,h3,h4⟩,a,ha=>by
  subst e1
  subst e2
  rcases ha with ha|ha
  ·rcases List.mem_cons.mp ha with rfl|ha
   ·rw[h1];exact fun z=>nomatch z
   ·exact h4.some a (.inl ha)
  ·rcases List.mem_cons.mp ha with rfl|ha
   ·rw[h2];exact fun z=>nomatch z
   ·exact h4.some a (.inr ha)
def mem3(sl:Addr)(es ks:List Addr):List Addr:=sl::(es++ks)
theorem mem3_iff{sl a:Addr}{es ks:List Addr}:a∈mem3 sl es ks↔a=sl\/a∈es\/a∈ks:=by
 unfold mem3
 rw[List.mem_cons,List.mem_append]
structure LSt(B:Hp) (p sl:Addr) (ws:List V) (es ks:List Addr) (st:BSt) (H:Hp):Prop where
 same:Same B H
 new:∀x∈mem3 sl es ks,B x=none
 n1:sl∉es
 n2:sl∉ks
 n3:es.Nodup
 n4:ks.Nodup
 n5:∀x∈es,x∉ks
 hs:H sl=some (.lst (es.reverse.map V.ref))
 fr:LFr (mem3 sl es ks) H st es ks
 pm:p∉mem3 sl es ks
 pw:H p=some (.lst ws)
variable {B H:Hp}{p sl:Addr}{ws:List V}{es ks:List Addr}{st:BSt}
theorem upd_in{M M':List Addr}{H:Hp}{a:Addr}{o:HO}(h:a∈M)(hm:∀x,x∈M'->x∈M):Kpl M M' H (upd H a o):=fun b vs n e=>⟨fun z=>n (hm b z),by rw[upd_ne (fun z=>n (by rw[z];exact h))];exact e⟩
theorem LSt.app{c:Nat}{xs:List Bw}{e k:Addr}{er kr:List Addr}{us:List V}(h:LSt B p sl ws (e::er) (k::kr) ((c,xs)::st) H)(hk:H k=some (.lst us)){b:Bw}{v:V}(r:RL (mem3 sl (e::er) (k::kr)) H b v) :
  LSt B p sl ws (e::er) (k::kr) ((c,xs++[b])::st) (upd H k (.lst (us++[v]))):=by
 obtain⟨e',er',k',kr',us',e1,e2,h1,h2,h3,h4⟩:=h.fr
 cases e1
 cases e2
 rw[hk]at h2
 cases h2
 have km:k∈mem3 sl (e::er) (k::kr):=mem3_iff.mpr (.inr (.inr (.head _)))
 have kp:Kpl (mem3 sl (e::er) (k::kr)) (mem3 sl (e::er) (k::kr)) H (upd H k (.lst (us++[v]))):=upd_in km fun _ z=>z
 have nek:e≠k:=fun z=>h.n5 e (.head _) (by rw[z];exact .head _)
 refine⟨h.same.updF (h.new k km) _,h.new,h.n1,h.n2,h.n3,h.n4,h.n5,?_,?_,h.pm,?_⟩
 ·rw[upd_ne (fun z=>h.n2 (by rw[z];exact .head _))]
  exact h.hs
 ·refine⟨e,er,k,kr,us++[v],rfl,rfl,by rw[upd_ne nek];exact h1,upd_same,rls_snoc (rl_keep kp b v r) (rls_keep kp h3),h4.keep kp fun a ha w q=>?_⟩
  rw[upd_ne]
  ·exact q
  ·intro z
   subst z
   rcases ha with ha|ha
   ·exact h.n5 a (.tail _ ha) (.head _)
   ·exact(List.nodup_cons.mp h.n4).1 ha
 ·rw[upd_ne (fun z=>h.pm (by rw[z];exact km))]
  exact h.pw
theorem opS_ne{c:Nat}(h:c≠0):opS c=⟨#[c]⟩:=if_neg h
theorem LSt.opn(h:LSt B p sl ws es ks st H){c:Nat}(hc:c≠0){q a:Addr}(hq:H q=none)(ha:upd H q (.lst []) a=none) :
  LSt B p sl ws (a::es) (q::ks) ((c,[])::st) (upd (upd (upd H q (.lst [])) a (.lst [.str ⟨#[c]⟩,.ref q])) sl (.lst (es.reverse.map V.ref++[.ref a]))):=by
 have naq:a≠q:=fun z=>by rw[z,upd_same]at ha;cases ha
 have ha0:H a=none:=by rw[upd_ne naq]at ha;exact ha
 have old:∀x,H x≠none->x≠q/\x≠a:=fun x hx=>⟨fun z=>hx (by rw[z];exact hq),fun z=>hx (by rw[z];exact ha0)⟩
 have hsl:sl≠q/\sl≠a:=old sl (by rw[h.hs];exact fun z=>nomatch z)
 have hfr:∀x,x∈es\/x∈ks->x≠q/\x≠a:=fun x hx=>old x (h.fr.some x hx)
 have hp:=old p (by rw[h.pw];exact fun z=>nomatch z)
 have hpm:=h.pm
 have hps:p≠sl:=fun z=>hpm (mem3_iff.mpr (.inl z))
 have kp:Kpl (mem3 sl es ks) (mem3 sl (a::es) (q::ks)) H (upd (upd (upd H q (.lst [])) a (.lst [.str ⟨#[c]⟩,.ref q])) sl (.lst (es.reverse.map V.ref++[.ref a]))):=fun b vs n e=>by
  have nb:b≠q/\b≠a:=old b (by rw[e];exact fun z=>nomatch z)
  have ns:b≠sl:=fun z=>n (mem3_iff.mpr (.inl z))
  refine⟨fun z=>?_,by rw[upd_ne ns,upd_ne nb.2,upd_ne nb.1];exact e⟩
  rcases mem3_iff.mp z with z|z|z
  ·exact ns z
  ·exact(List.mem_cons.mp z).elim nb.2 fun z=>n (mem3_iff.mpr (.inr (.inl z)))
  ·exact(List.mem_cons.mp z).elim nb.1 fun z=>n (mem3_iff.mpr (.inr (.inr z)))
 have slB:B sl=none:=h.new sl (mem3_iff.mpr (.inl rfl))
 have s1:Same B (upd (upd H q (.lst [])) a (.lst [.str ⟨#[c]⟩,.ref q])):=h.same.trans ((same_new hq _).trans (same_new ha _))
 refine⟨s1.updF slB _,?_,?_,?_,?_,?_,?_,?_,?_,?_,?_⟩
 ·intro x hx
  rcases mem3_iff.mp hx with rfl|hx|hx
  ·exact slB
  ·rcases List.mem_cons.mp hx with rfl|hx
   ·exact h.same.free ha0
   ·exact h.new x (mem3_iff.mpr (.inr (.inl hx)))
  ·rcases List.mem_cons.mp hx with rfl|hx
   ·exact h.same.free hq
   ·exact h.new x (mem3_iff.mpr (.inr (.inr hx)))
 ·exact fun z=>(List.mem_cons.mp z).elim hsl.2 h.n1
 ·exact fun z=>(List.mem_cons.mp z).elim hsl.1 h.n2
 ·exact List.nodup_cons.mpr ⟨fun z=>(hfr a (.inl z)).2 rfl,h.n3⟩
 ·exact List.nodup_cons.mpr ⟨fun z=>(hfr q (.inr z)).1 rfl,h.n4⟩
 ·intro x hx z
  rcases List.mem_cons.mp hx with rfl|hx
  ·exact(List.mem_cons.mp z).elim naq fun z=>(hfr x (.inr z)).2 rfl
  ·exact(List.mem_cons.mp z).elim (hfr x (.inl hx)).1 (h.n5 x hx)
 ·rw[upd_same,List.reverse_cons,List.map_append]
  rfl
 ·refine⟨a,es,q,ks,[],rfl,rfl,?_,?_,by rw[RLs],h.fr.keep kp fun x hx v e=>?_⟩
  ·rw[upd_ne hsl.2.symm,upd_same,opS_ne hc]
  ·rw[upd_ne hsl.1.symm,upd_ne naq.symm,upd_same]
  ·have:=hfr x hx
   rw[upd_ne,upd_ne this.2,upd_ne this.1]
   ·exact e
   ·intro z
    subst z
    exact hx.elim h.n1 h.n2
 ·intro z
  rcases mem3_iff.mp z with z|z|z
  ·exact hps z
  ·exact(List.mem_cons.mp z).elim hp.2 fun z=>hpm (mem3_iff.mpr (.inr (.inl z)))
  ·exact(List.mem_cons.mp z).elim hp.1 fun z=>hpm (mem3_iff.mpr (.inr (.inr z)))
 ·rw[upd_ne hps,upd_ne hp.2,upd_ne hp.1]
  exact h.pw
theorem LSt.pop{c:Nat}{xs:List Bw}{e k:Addr}{er kr:List Addr}(h:LSt B p sl ws (e::er) (k::kr) ((c,xs)::st) H)(hc:c≠0) :
  LSt B p sl ws er kr st (upd H sl (.lst (er.reverse.map V.ref)))/\RL (mem3 sl er kr) (upd H sl (.lst (er.reverse.map V.ref))) (.g c xs) (.ref e):=by
 obtain⟨e',er',k',kr',us',e1,e2,h1,h2,h3,h4⟩:=h.fr
 cases e1
 cases e2
 have sub:∀x,x∈mem3 sl er kr->x∈mem3 sl (e::er) (k::kr):=fun x hx=>mem3_iff.mpr ((mem3_iff.mp hx).imp id (.imp (.tail _) (.tail _)))
 have sm:sl∈mem3 sl (e::er) (k::kr):=mem3_iff.mpr (.inl rfl)
 have kp:Kpl (mem3 sl (e::er) (k::kr)) (mem3 sl er kr) H (upd H sl (.lst (er.reverse.map V.ref))):=upd_in sm sub
 have nse:e≠sl:=fun z=>h.n1 (by rw[←z];exact .head _)
 have nsk:k≠sl:=fun z=>h.n2 (by rw[←z];exact .head _)
 refine⟨⟨h.same.updF (h.new sl sm) _,fun x hx=>h.new x (sub x hx),fun z=>h.n1 (.tail _ z),fun z=>h.n2 (.tail _ z),(List.nodup_cons.mp h.n3).2,(List.nodup_cons.mp h.n4).2,fun x hx z=>h.n5 x (.tail _ hx) (.tail _ z),upd_same,h4.keep kp fun a ha w q=>?_,fun z=>h.pm (sub p z),?_⟩,?_⟩
 ·rw[upd_ne]
  ·exact q
  ·intro z
   subst z
   exact ha.elim (fun z=>h.n1 (.tail _ z)) (fun z=>h.n2 (.tail _ z))
 ·rw[upd_ne (fun z=>h.pm (by rw[z];exact sm))]
  exact h.pw
 ·rw[RL]
  refine⟨e,k,us',rfl,fun z=>?_,fun z=>?_,by rw[upd_ne nse,h1,opS_ne hc],by rw[upd_ne nsk];exact h2,rls_keep kp h3⟩
  ·rcases mem3_iff.mp z with z|z|z
   ·exact nse z
   ·exact(List.nodup_cons.mp h.n3).1 z
   ·exact h.n5 e (.head _) (.tail _ z)
  ·rcases mem3_iff.mp z with z|z|z
   ·exact nsk z
   ·exact h.n5 k (.tail _ z) (.head _)
   ·exact(List.nodup_cons.mp h.n4).1 z
theorem lrun_app:∀(a b:List (List Nat)) (st:BSt),lrun st (a++b)=(lrun st a).bind fun s=>lrun s b
 | [],b,st=>rfl
 |w::a,b,st=>by
  rw[List.cons_append,lrun,lrun]
  cases lstp st w with
  |none=>rfl
  |some s=>exact lrun_app a b s
theorem swg_wlen:∀(l cur:List Nat),∀w∈swg cur l,w.length<=cur.length+l.length
 | [],cur,w,h=>by
  unfold swg at h
  split at h
  ·cases h
  ·rw[List.mem_singleton.mp h];exact Nat.le_add_right _ _
 |c::l,cur,w,h=>by
  unfold swg at h
  rw[List.length_cons]
  split at h
  ·split at h
   ·have:=swg_wlen l [] w h;simp at this;omega
   ·rcases List.mem_cons.mp h with rfl|h
    ·omega
    ·have:=swg_wlen l [] w h;simp at this;omega
  ·have:=swg_wlen l (cur++[c]) w h;simp at this;omega
end G12
namespace L2
open PySem
theorem if_at{tt:TT}{ta tb:TS}{D:Ends}{σ:St}{H:Hp}(p:Prop)(ht:∀C:Bool->Hp->Prop,(p->C true H)->(¬p->C false H)->tt σ H C)(a:p->ta D σ H)(b:¬p->tb D σ H):tIfS tt ta tb D σ H:=ht _ (fun h=>by rw[if_pos rfl];exact a h) (fun h=>by rw[if_neg Bool.false_ne_true];exact b h)
theorem if_atX{tt:TT}{ta tb:TS}{D:Ends}{σ:St}{H:Hp}(R:Bool->Hp->Prop)(ht:∀C:Bool->Hp->Prop,(∀b H1,R b H1->C b H1)->tt σ H C)(a:∀H1,R true H1->ta D σ H1)(b:∀H1,R false H1->tb D σ H1):tIfS tt ta tb D σ H:=ht _ fun c H1 h=>by
 cases c with
 |true=>rw[if_pos rfl];exact a H1 h
 |false=>rw[if_neg Bool.false_ne_true];exact b H1 h
end L2
namespace L2
open PySem PySem.Spec PyProof.Rows
def Isd(ob:Obj)(es:Array DictEntry)(ep:Nat)(h:Heap)(l:Addr):Prop:=h.get? l=some ob/\ob.ExactDict/\ob.data=.dict es ep/\(l == sysModules)=false
def Itd(es:Array DictEntry)(ep:Nat)(h:Heap)(i l:Addr)(k:Nat):Prop:=h.IsKeyIter i l k es.size ep
section
variable {ob:Obj}{es:Array DictEntry}{ep:Nat}
theorem Isd.at{h h':Heap}{l:Addr}(x:Isd ob es ep h l)(k:∀o,h.get? l=some o->h'.get? l=some o):Isd ob es ep h' l:=⟨k _ x.1,x.2⟩
theorem Itd.at{h h':Heap}{i l:Addr}{n:Nat}(x:Itd es ep h i l n)(k:∀o,h.get? i=some o->h'.get? i=some o):Itd es ep h' i l n:=by
 obtain⟨o,e,r⟩:=x
 exact⟨o,k o e,r⟩
variable {prog:Program}{w:World}{A:Around}{E:Value->Shared->Prop}{s:Shared}
end
section
variable {prog:Program}{w:World}{A:Around}{E:Value->Shared->Prop}{s:Shared}{b2:Bool}{ob:Obj}{es:Array DictEntry}{ep:Nat}
end
section
variable {g:TG}{tt:TT}{te:TE}{Q:VK}{σ0:St}{H0:Hp}
end
section
variable {prog:Program}{w:World}{A:Around}{R:Result->Shared->Prop}{s:Shared}
end
section
variable {g:TG}{tt:TT}{tk tv:TE}{Q:VK}{σ0:St}{H0:Hp}
end
section
variable {X:Cx}
end
section
variable {X:Cx}
end
end L2
namespace G12
open PySem L2
def RLo(H:Hp):Option Bw->V->Prop
 |some b,v=>RL [] H b v
 |none,v=>v=.non
def spLTr:Sp:=fun vs H Q _=>∃l:List Nat,vs=[.str (ofL l)]/\l.length<=2900/\∀(v:V) (H':Hp),Same H H'->RLo H' (ltree l) v->Q v H'
def lastO:BSt->Nat
 | []=>0
 | [f]=>f.1
 |_::f::r=>lastO (f::r)
theorem lastO_stp{st st':BSt}{w:List Nat}(hn:st≠[])(h:lastO st=0)(e:lstp st w=some st'):lastO st'=0:=by
 unfold lstp at e
 split at e
 ·cases e
  cases st with
  |nil=>exact absurd rfl hn
  |cons f r=>exact h
 ·split at e
  ·split at e
   ·split at e
    ·cases e
     rename_i r _
     cases r with
     |nil=>exact h
     |cons g r=>exact h
    ·cases e
   ·cases e
  ·split at e
   ·cases e
    rename_i r
    cases r with
    |nil=>exact h
    |cons g r=>exact h
   ·cases e
abbrev kvB:List (Key×V):=[(.inr ")",.str "("),(.inr "]",.str "["),(.inr ">",.str "<")]
theorem mg_kvB:mergeK [] kvB=kvB:=by kernel_rfl
theorem opS_dec{c0 o:Nat}{x:Str}(hx:x=⟨#[o]⟩)(ho:o≠0):decide (V.str (opS c0)=V.str x)=decide (c0=o):=by
 subst hx
 by_cases h:c0=0
 ·rw[h,decide_eq_false (show ¬(0:Nat)=o from fun z=>ho z.symm)]
  refine decide_eq_false fun z=>?_
  injection z with z
  rw[show opS 0=Str.ofString "" from if_pos rfl]at z
  have z2:=congrArg Str.length z
  rw[show(Str.ofString "").length=0 by decide +kernel]at z2
  exact absurd z2 (show ¬(0=1) by decide)
 ·rw[opS_ne h]
  rw[Bool.eq_iff_iff]
  simp
structure TwI(B:Hp) (p sl:Addr) (l:List Nat) (i:Nat) (σ:St) (H:Hp):Prop where
 x:∃st es ks o3 o4,σ=[some (.str (ofL (R6 l))),some (.ref sl),none,o3,o4]/\lrun [(0,[])] ((swg [] (R6 l)).take i)=some st/\st≠[]/\lastO st=0/\LSt B p sl (((swg [] (R6 l)).map ofL).map V.str) es ks st H
theorem LSt.up{B H H':Hp}{p sl:Addr}{ws:List V}{es ks:List Addr}{st:BSt}(h:LSt B p sl ws es ks st H)(s:Same H H'):LSt B p sl ws es ks st H' :=
 ⟨h.same.trans s,h.new,h.n1,h.n2,h.n3,h.n4,h.n5,s _ _ h.hs,h.fr.keep (Kpl.same s) fun a _ v e=>s _ _ e,h.pm,s _ _ h.pw⟩
theorem ofL_inj{a b:List Nat}(h:ofL a=ofL b):a=b:=by rw[←toList_ofL a,h,toList_ofL]
theorem in3{w:List Nat}{a b c:Nat}{x y z:Str}(hx:x=ofL [a])(hy:y=ofL [b])(hz:z=ofL [c]):inV (.str (ofL w)) [.str x,.str y,.str z]=one1 (fun n=>decide (n=a)||(decide (n=b)||decide (n=c))) w:=by
 subst hx hy hz
 unfold inV
 rw[List.any_cons,List.any_cons,List.any_cons,List.any_nil,Bool.or_false]
 have e:∀u:List Nat,eqV (.str (ofL u)) (.str (ofL w))=decide (w=u):=fun u=>by
  show(ofL u == ofL w)=_
  rw[Bool.eq_iff_iff,beq_iff_eq,decide_eq_true_eq]
  exact⟨fun h=>(ofL_inj h).symm,fun h=>by rw[h]⟩
 rw[e,e,e]
 match w with
 | []=>rfl
 | [n]=>simp[one1]
 |n::m::r=>simp[one1]
section
variable {P:Program}{w:World}{K:PySem.W.Frag}{mg:Str->Option Value}{base:Heap}
theorem nm_L_tree:Nm ["_law_text","_law_stack","_law_sign","_law_word_here","_law_one"] (defScope s_L_tree):=by decide +kernel
theorem lm_L_tree:Lm ["_law_text","_law_stack","_law_sign","_law_word_here","_law_one"] (defScope s_L_tree):=by decide +kernel
theorem sc_L_tree:FnScope ["_law_text","_law_stack","_law_sign","_law_word_here","_law_one"] ["_law_text"] (defScope s_L_tree):=⟨rfl,rfl,rfl,by decide +kernel,rfl,by decide +kernel,by decide +kernel⟩
theorem tree_walk{f:Addr}{cdv:Value}{A:Around}{outer:List PySem.Env}{s:Shared}{H0:Hp}{E:XK}(z_len:mg "len"=none)(hr:Room 0 (A.deeper (PyProof.Rows.envOfC "_law_tree" (defScope s_L_tree) s.heap.objs.size f cdv)))
  {D:L2.Ends}{B H:Hp}{sl e0 k0:Addr}{o3 o4:Option V}{l:List Nat}(hl:l.length<=2900) (sb:Same B H) (b1:B sl=none) (b2:B e0=none) (b3:B k0=none) (n1:sl≠e0) (n2:sl≠k0) (n3:e0≠k0) (hs:H sl=some (.lst [.ref e0])) (he:H e0=some (.lst [.str "",.ref k0])) (hk:H k0=some (.lst []))
  (k:∀(v:V) (H':Hp),Same B H'->RLo H' (ltree l) v->D.rt v H') :
  tBlk (cxOf CX0 P w K mg base ["_law_text","_law_stack","_law_sign","_law_word_here","_law_one"] "_law_tree" (defScope s_L_tree) f cdv A outer s H0 E).nox ((defBody s_L_tree).drop 2) D [some (.str (ofL (R6 l))),some (.ref sl),none,o3,o4] H:=by
 refine blk_of ((@pss_cons _ _ _ _ _ (@ps_for _ _ _ _ _ _ _ _ PassesOwn.never rfl (@pi_list _ _ _ _ (pe_bm0 PySem.F.plainAttrs_str PySem.F.slot_str_split PySem.F.type_str_split mt_split0 (va nm_L_tree 0))) (ga sc_L_tree.nd lm_L_tree 3) (@pss_one _ _ _ (@ps_if _ _ _ _ _ _ _ _ (@pt_cmpR _ _ _ _ _ _ _ _ op_in_seq (va nm_L_tree 3) (@pe_tup _ _ _ _ _ (@pa_c _ _ _ _ _ pe_str (pa_c pe_str (pa_c pe_str pa_nil)) (by rfl))) (by with_unfolding_all rfl)) (@pss_one _ _ _ (@ps_expr _ _ _ _ (@pe_bm _ _ _ _ _ _ _ _ _ _ _ _ PySem.F.plainAttrs_list PySem.F.slot_list_append PySem.F.type_list_append mt_append (va nm_L_tree 1) (@pa_c _ _ _ _ _ (@pe_lst _ _ _ _ (@pa_c _ _ _ _ _ (va nm_L_tree 3) (pa_c (pe_lst pa_nil) pa_nil) (by rfl))) pa_nil (by rfl)) (by rfl) (by rfl) (by rfl) (by rfl) (by rfl)) (by rfl))) (@pss_one _ _ _ (@ps_if _ _ _ _ _ _ _ _ (@pt_cmpR _ _ _ _ _ _ _ _ op_in_seq (va nm_L_tree 3) (@pe_tup _ _ _ _ _ (@pa_c _ _ _ _ _ pe_str (pa_c pe_str (pa_c pe_str pa_nil)) (by rfl))) (by with_unfolding_all rfl)) (@pss_cons _ _ _ _ _ (@sa _ _ _ _ _ _ sc_L_tree.nd lm_L_tree 4 (pe_bm0 PySem.F.plainAttrs_list PySem.F.slot_list_pop PySem.F.type_list_pop mt_pop (va nm_L_tree 1)) (by rfl) (by kernel_rfl) (by exact .inl rfl)) (@pss_cons _ _ _ _ _ (@ps_if _ _ _ _ _ _ _ _ (@pt_cmpR _ _ _ _ _ _ _ _ op_ne (pe_ix ix_list (va nm_L_tree 4) pe_int (fun _ _=>rfl)) (pe_dget (hu_of hr) (pe_disp3 pe_str pe_str pe_str pe_str pe_str pe_str) (va nm_L_tree 3) (fun _ _=>rfl)) (nomark _)) (pss_one (ps_ret pe_non)) pss_nil) (@pss_one _ _ _ (@ps_expr _ _ _ _ (@pe_bm _ _ _ _ _ _ _ _ _ _ _ _ PySem.F.plainAttrs_list PySem.F.slot_list_append PySem.F.type_list_append mt_append (@pe_ix _ _ _ _ _ _ _ ix_list (pe_ix ix_list (va nm_L_tree 1) (pe_un un_neg pe_int) (fun _ _=>rfl)) pe_int (fun _ _=>rfl)) (pa_c (va nm_L_tree 4) pa_nil) (by rfl) (by rfl) (by rfl) (by rfl) (by rfl)) (by rfl))))) (@pss_one _ _ _ (@ps_expr _ _ _ _ (@pe_bm _ _ _ _ _ _ _ _ _ _ _ _ PySem.F.plainAttrs_list PySem.F.slot_list_append PySem.F.type_list_append mt_append (@pe_ix _ _ _ _ _ _ _ ix_list (pe_ix ix_list (va nm_L_tree 1) (pe_un un_neg pe_int) (fun _ _=>rfl)) pe_int (fun _ _=>rfl)) (pa_c (va nm_L_tree 3) pa_nil) (by rfl) (by rfl) (by rfl) (by rfl) (by rfl)) (by rfl))))))) (by intro _;rfl)) (@pss_cons _ _ _ _ _ (@ps_if _ _ _ _ _ _ _ _ (PW.pt (@pw_or _ _ _ _ _ _ _ (@pt_cmpR _ _ _ _ _ _ _ _ op_gt (@pe_callB _ _ _ _ _ _ _ _ _ call_len_seq (by show _=_;kernel_rfl) z_len PySem.boot_len (pa_c (va nm_L_tree 1) pa_nil) (by decide) (by decide) (by rfl) (by rfl)) pe_int (nomark _)) (@pw_or1 _ _ _ _ (@pt_cmpR _ _ _ _ _ _ _ _ op_ne (@pe_callB _ _ _ _ _ _ _ _ _ call_len_seq (by show _=_;kernel_rfl) z_len PySem.boot_len (@pa_c _ _ _ _ _ (@pe_ix _ _ _ _ _ _ _ ix_list (pe_ix ix_list (va nm_L_tree 1) pe_int (fun _ _=>rfl)) pe_int (fun _ _=>rfl)) pa_nil (by rfl)) (by decide) (by decide) (by rfl) (by rfl)) pe_int (nomark _))))) (pss_one (ps_ret pe_non)) pss_nil) (@pss_one _ _ _ (@ps_ret _ _ _ _ (@pe_ix _ _ _ _ _ _ _ ix_list (@pe_ix _ _ _ _ _ _ _ ix_list (pe_ix ix_list (va nm_L_tree 1) pe_int (fun _ _=>rfl)) pe_int (fun _ _=>rfl)) pe_int (fun _ _=>rfl))))))) ?_
 try dsimp only[cx_K]
 try dsimp only[cx_K]
 refine seq_cut2 ?_
 intro N1 N2 c1 c2
 have r6:=R6_len l
 have r6l:(ofL (R6 l)).length<=100000:=by rw[ofL_len];omega
 fail "R"
 intro p hp
 rw[words_ofL]
 have L0:LSt B p sl (((swg [] (R6 l)).map ofL).map V.str) [e0] [k0] [(0,[])] (upd H p (.lst (((swg [] (R6 l)).map ofL).map V.str))):=by
  have nn:∀x v,H x=some v->x≠p:=fun x v e z=>by rw[z,hp]at e;cases e
  have s1:=same_new hp (.lst (((swg [] (R6 l)).map ofL).map V.str))
  have inm:∀x,x∈mem3 sl [e0] [k0]->x=sl\/x=e0\/x=k0:=fun x hx=>by
   rcases mem3_iff.mp hx with h|h|h
   ·exact .inl h
   ·exact .inr (.inl (List.mem_singleton.mp h))
   ·exact .inr (.inr (List.mem_singleton.mp h))
  refine⟨sb.trans s1,fun x hx=>?_,fun z=>n1 (List.mem_singleton.mp z),fun z=>n2 (List.mem_singleton.mp z),List.nodup_cons.mpr ⟨(fun z=>nomatch z),List.nodup_nil⟩,List.nodup_cons.mpr ⟨(fun z=>nomatch z),List.nodup_nil⟩,fun x hx z=>n3 (by rw[←List.mem_singleton.mp hx];exact List.mem_singleton.mp z),s1 _ _ hs,⟨e0,[],k0,[],[],rfl,rfl,s1 _ _ he,s1 _ _ hk,by rw[RLs],rfl,rfl⟩,fun z=>?_,upd_same⟩
  ·rcases inm x hx with rfl|rfl|rfl
   ·exact b1
   ·exact b2
   ·exact b3
  ·rcases inm p z with z|z|z
   ·exact nn sl _ hs z.symm
   ·exact nn e0 _ he z.symm
   ·exact nn k0 _ hk z.symm
 generalize upd H p _=H1 at L0⊢
 have sq1:SqL K H1 p (((swg [] (R6 l)).map ofL).map V.str):=SqL.of L0.pw
 fail "R"
 have hwl:=words_few l
 have hwn:(swg [] (R6 l)).length<=8700:=by have:=swg_len (R6 l) [];simp at this;omega
 refine for_list (K:=K) (a:=p) (xs:=((swg [] (R6 l)).map ofL).map V.str) (fun i σ Hc=>TwI B p sl l i σ Hc) ⟨⟨[(0,[])],[e0],[k0],o3,o4,rfl,rfl,(fun z=>nomatch z),rfl,L0⟩⟩ (fun i σ Hc _ h=>?_) ?_ ?_
 ·obtain⟨st,es,ks,_,_,_,_,_,_,L⟩:=h.x
  exact SqL.of L.pw
 ·rintro i x σ Hc hx ⟨st,es,ks,q3,q4,rfl,er,hne,hla,L⟩
  rw[List.map_map,List.getElem?_map]at hx
  obtain⟨w,hw,rfl⟩:=Option.map_eq_some_iff.mp hx
  have hwm:=List.mem_of_getElem? hw
  have hwlen:w.length<=10000:=by have:=swg_wlen (R6 l) [] w hwm;simp at this;omega
  have hi:i<(swg [] (R6 l)).length:=(List.getElem?_eq_some_iff.mp hw).1
  have so:=lrun_ok _ st0 er
  rw[List.length_take]at so
  have snoc:∀st',lstp st w=some st'->lrun [(0,[])] ((swg [] (R6 l)).take (i+1))=some st':=fun st' e=>by
   rw[List.take_add_one,hw,lrun_app,er]
   show(lstp st w).bind (fun s=>lrun s [])=_
   rw[e]
   rfl
  have dead:lstp st w=none->ltree l=none:=fun e=>by
   unfold ltree
   have:swg [] (R6 l)=(swg [] (R6 l)).take i++w::(swg [] (R6 l)).drop (i+1):=by
    rw[←List.getElem?_eq_some_iff.mp hw|>.2,←List.drop_eq_getElem_cons hi,List.take_append_drop]
   rw[this,lrun_app,er]
   show lend ((lstp st w).bind _)=_
   rw[e]
   rfl
  cases st with
  |nil=>exact absurd rfl hne
  |cons f0 st =>
  obtain⟨c0,xs0⟩:=f0
  obtain⟨e1,er1,k1,kr1,us1,rfl,rfl,he1,hk1,rs1,fr1⟩:=L.fr
  have zz:=so.z
  simp only[zst,List.length_cons]at zz
  have lu1:us1.length=xs0.length:=rls_len rs1
  have lz1:=bzs_len xs0
  have les:=fr1.len
  have hu1:us1.length<sizeLine:=by rw[sizeLine_eq];omega
  have hes:((e1::er1).reverse.map V.ref).length<sizeLine:=by rw[List.length_map,List.length_reverse,List.length_cons,sizeLine_eq];omega
  have hsl:=L.hs
  fail "R"
  intro q hq
  have s1:=same_new hq (.tup [.str "(",.str "[",.str "<"])
  have hq1:upd Hc q (.tup [.str "(",.str "[",.str "<"]) q=some (.tup [.str "(",.str "[",.str "<"]):=upd_same
  generalize upd Hc q _=H2 at s1 hq1⊢
  have La:=L.up s1
  have hsl2:=La.hs
  have sqq:SqT K H2 q [.str "(",.str "[",.str "<"]:=SqT.of hq1
  have fl:∀x y z:Str,[V.str x,V.str y,V.str z].all flatV=true:=fun _ _ _=>rfl
  have fl1:flatV (V.str (ofL w))=true:=rfl
  fail "O"
  rw[if_neg Bool.false_ne_true]
  rw[show inV ((V.str ∘ ofL) w) [V.str "(",V.str "[",V.str "<"]=one1 isOp w from in3 (by decide +kernel) (by decide +kernel) (by decide +kernel)]
  cases hop:one1 isOp w with
  |true =>
   have g1:lstp ((c0,xs0)::st) w=some ((w.headD 0,[])::(c0,xs0)::st):=by unfold lstp;rw[if_pos hop]
   obtain⟨c,rfl,hc⟩:∃c,w=[c]/\isOp c=true:=by
    match w,hop with
    | [c],h=>exact⟨c,rfl,h⟩
   have hc0:c≠0:=fun z=>by rw[z]at hc;exact absurd hc (by decide)
   fail "R"
   intro a1 ha1
   fail "R"
   intro a2 ha2
   have Lb:=La.opn hc0 ha1 ha2
   have hs3:upd (upd H2 a1 (.lst [])) a2 (.lst [.str ⟨#[c]⟩,.ref a1]) sl=some (.lst ((e1::er1).reverse.map V.ref)):=same_new ha2 _ _ _ (same_new ha1 _ _ _ hsl2)
   fail "R"
   exact⟨⟨_,_,_,_,_,rfl,snoc _ g1,(fun z=>nomatch z),lastO_stp hne hla g1,Lb⟩⟩
  |false =>
   have n0:¬one1 isOp w=true:=by rw[hop];decide
   have eR:(e1::er1).reverse.map V.ref=er1.reverse.map V.ref++[V.ref e1]:=by rw[List.reverse_cons,List.map_append];rfl
   have lR:((e1::er1).reverse.map V.ref).length=(er1.reverse.map V.ref).length+1:=by rw[eR,List.length_append];rfl
   fail "R"
   intro q2 hq2
   have s2:=same_new hq2 (.tup [.str ")",.str "]",.str ">"])
   have hq3:upd H2 q2 (.tup [.str ")",.str "]",.str ">"]) q2=some (.tup [.str ")",.str "]",.str ">"]):=upd_same
   generalize upd H2 q2 _=H3 at s2 hq3⊢
   have Lb:=La.up s2
   have hsl3:=Lb.hs
   have sqq2:SqT K H3 q2 [.str ")",.str "]",.str ">"]:=SqT.of hq3
   fail "O"
   rw[if_neg Bool.false_ne_true]
   rw[show inV ((V.str ∘ ofL) w) [V.str ")",V.str "]",V.str ">"]=one1 isCl w from in3 (by decide +kernel) (by decide +kernel) (by decide +kernel)]
   cases hcl:one1 isCl w with
   |true =>
    have lst1:((e1::er1).reverse.map V.ref)[((e1::er1).reverse.map V.ref).length-1]?=some (.ref e1):=by
     rw[lR,eR]
     simp
    have eD:((e1::er1).reverse.map V.ref).dropLast=er1.reverse.map V.ref:=by rw[eR,List.dropLast_concat]
    obtain⟨c,rfl,hc⟩:∃c,w=[c]/\isCl c=true:=by
     match w,hcl with
     | [c],h=>exact⟨c,rfl,h⟩
    have he3:=s2 _ _ (s1 _ _ he1)
    have he4:upd H3 sl (.lst ((e1::er1).reverse.map V.ref).dropLast) e1=some (.lst [.str (opS c0),.ref k1]):=by rw[upd_ne (fun z=>L.n1 (by rw[←z];exact .head _))];exact he3
    have q0:atI [V.str (opS c0),V.ref k1] 0=some (.str (opS c0)):=rfl
    have Ld:c0≠0->LSt B p sl (((swg [] (R6 l)).map ofL).map V.str) er1 kr1 st (upd H3 sl (.lst ((e1::er1).reverse.map V.ref).dropLast))/\RL (mem3 sl er1 kr1) (upd H3 sl (.lst ((e1::er1).reverse.map V.ref).dropLast)) (.g c0 xs0) (.ref e1):=by rw[eD];exact Lb.pop
    have sB:Same B (upd H3 sl (.lst ((e1::er1).reverse.map V.ref).dropLast)):=Lb.same.updF (L.new sl (mem3_iff.mpr (.inl rfl))) _
    fail "R"
    intro pd hpd
    fail "R"
    ·exact(show _=List.map (fun kv=>(kV kv.1,kv.2)) kvB from rfl)
    refine⟨by decide,?_⟩
    rw[upd_upd,mg_kvB]
    have s5:=same_new hpd (.dK kvB)
    have h5:upd (upd H3 sl (.lst ((e1::er1).reverse.map V.ref).dropLast)) pd (.dK kvB) pd=some (.dK kvB):=upd_same
    generalize upd (upd H3 sl (.lst ((e1::er1).reverse.map V.ref).dropLast)) pd (.dK kvB)=H5 at s5 h5⊢
    generalize upd H3 sl (.lst ((e1::er1).reverse.map V.ref).dropLast)=H4 at he4 Ld sB s5
    obtain⟨x,hx,ho,dg⟩:∃x,x=(⟨#[opOf c]⟩:Str)/\opOf c≠0/\DGet H5 pd (.str (ofL [c])) (some (.str x)):=by
     have:c=41\/c=93\/c=62:=by
      unfold isCl at hc
      simpa using hc
     rcases this with rfl|rfl|rfl
     ·exact⟨"(",by decide +kernel,by decide,.inl ⟨kvB,.inr ")",.inl h5,by decide +kernel,by decide +kernel⟩⟩
     ·exact⟨"[",by decide +kernel,by decide,.inl ⟨kvB,.inr "]",.inl h5,by decide +kernel,by decide +kernel⟩⟩
     ·exact⟨"<",by decide +kernel,by decide,.inl ⟨kvB,.inr ">",.inl h5,by decide +kernel,by decide +kernel⟩⟩
    fail "R"
    rw[opS_dec hx ho]
    have n2:one1 isCl [c]=true:=hc
    by_cases hco:c0=opOf c
    ·rw[decide_eq_true hco]
     have hc0:c0≠0:=by rw[hco];exact ho
     cases st with
     |nil=>exact absurd hla hc0
     |cons f1 st =>
     obtain⟨c1',ys1⟩:=f1
     obtain⟨Le,rl⟩:=Ld hc0
     have Lf:=Le.up s5
     have rl5:=rl_keep (Kpl.same s5) _ _ rl
     have g1:lstp ((c0,xs0)::(c1',ys1)::st) [c]=some ((c1',ys1++[.g c0 xs0])::st):=by
      unfold lstp
      rw[if_neg n0,if_pos n2]
      exact if_pos hco
     obtain⟨e2,er2,k2,kr2,us2,rfl,rfl,he2,hk2,rs2,fr2⟩:=Lf.fr
     have eR2:(e2::er2).reverse.map V.ref=er2.reverse.map V.ref++[V.ref e2]:=by rw[List.reverse_cons,List.map_append];rfl
     have lR2:((e2::er2).reverse.map V.ref).length=(er2.reverse.map V.ref).length+1:=by rw[eR2,List.length_append];rfl
     have a1:atI ((e2::er2).reverse.map V.ref) (-1)=some (.ref e2):=at_last lR2 (by rw[eR2];simp)
     have a2:atI [V.str (opS c1'),V.ref k2] 1=some (.ref k2):=rfl
     have hs5:=Lf.hs
     have lu2:us2.length=ys1.length:=rls_len rs2
     have lz2:=bzs_len ys1
     simp only[zst]at zz
     have hu2:us2.length<sizeLine:=by rw[sizeLine_eq];omega
     have Lg:=Lf.app hk2 rl5
     fail "R"
     exact⟨⟨_,_,_,_,_,rfl,snoc _ g1,(fun z=>nomatch z),lastO_stp hne hla g1,Lg⟩⟩
    ·rw[decide_eq_false hco]
     have g1:lstp ((c0,xs0)::st) [c]=none:=by
      unfold lstp
      rw[if_neg n0,if_pos n2]
      cases st with
      |nil=>rfl
      |cons f1 st=>exact if_neg hco
     fail "R"
     refine k _ _ (sB.trans s5) ?_
     rw[dead g1]
     rfl
   |false =>
    have n1':¬one1 isCl w=true:=by rw[hcl];decide
    have e1':lstp ((c0,xs0)::st) w=some ((c0,xs0++[.a w])::st):=by unfold lstp;rw[if_neg n0,if_neg n1']
    have a1:atI ((e1::er1).reverse.map V.ref) (-1)=some (.ref e1):=at_last lR (by rw[eR];simp)
    have he3:=s2 _ _ (s1 _ _ he1)
    have hk3:=s2 _ _ (s1 _ _ hk1)
    have a2:atI [V.str (opS c0),V.ref k1] 1=some (.ref k1):=rfl
    have Lc:=Lb.app hk3 (b:=.a w) (v:=.str (ofL w)) (by rw[RL];exact⟨rfl,hwlen⟩)
    fail "R"
    exact⟨⟨_,_,_,_,_,rfl,snoc _ e1',(fun z=>nomatch z),lastO_stp hne hla e1',Lc⟩⟩
 ·rintro σ Hc ⟨st,es,ks,q3,q4,rfl,er,hne,hla,L⟩
  rw[List.length_map,List.length_map,List.take_length]at er
  have et:ltree l=lend (some st):=by unfold ltree;rw[er]
  rw[et]at k
  cases st with
  |nil=>exact absurd rfl hne
  |cons f0 st =>
  obtain⟨c0,xs0⟩:=f0
  obtain⟨e1,er1,k1,kr1,us1,rfl,rfl,he1,hk1,rs1,fr1⟩:=L.fr
  have lu1:us1.length=xs0.length:=rls_len rs1
  have les:=fr1.len
  have hsl:=L.hs
  refine c1 _ _ ?_
  cases st with
  |cons f1 st =>
   have hgt:(1:Int)<(((e1::er1).reverse.map V.ref).length:Int):=by rw[List.length_map,List.length_reverse,List.length_cons,les,List.length_cons];omega
   fail "O"
   rw[decide_eq_true hgt]
   fail "R"
   refine k _ _ L.same ?_
   cases xs0 with
   |nil=>rfl
   |cons a r=>cases r<;>rfl
  |nil =>
   obtain⟨rfl,rfl⟩:=fr1
   have hle:decide ((1:Int)<(([e1].reverse.map V.ref).length:Int))=false:=rfl
   have a0:atI ([e1].reverse.map V.ref) 0=some (.ref e1):=rfl
   have a2:atI [V.str (opS c0),V.ref k1] 1=some (.ref k1):=rfl
   have he1':Hc e1=some (.lst [.str (opS c0),.ref k1]):=he1
   fail "O"
   by_cases h1:xs0.length=1
   ·obtain⟨b,rfl⟩:=List.length_eq_one_iff.mp h1
    rw[RLs]at rs1
    obtain⟨v1,q,rfl,rb,rq⟩:=rs1
    rw[RLs]at rq
    subst rq
    have a3:atI [v1] 0=some v1:=rfl
    fail "R"
    exact k _ _ L.same (show RL [] Hc b v1 from rl_keep (M:=mem3 sl [e1] [k1]) (M':=[]) (fun a vs _ e=>⟨List.not_mem_nil,e⟩) b v1 rb)
   ·have ne:decide (V.int (us1.length:Int)=V.int 1)=false:=decide_eq_false fun z=>h1 (by injection z with z;omega)
    rw[ne]
    fail "R"
    refine k _ _ L.same ?_
    match xs0,h1 with
    | [],_=>rfl
    | [b],h=>exact absurd rfl h
    |a::b::r,_=>rfl
end
section
variable {P:Program}{w:World}{K:PySem.W.Frag}{mg:Str->Option Value}{base:Heap}
theorem ok_ltree{f:Addr}{fd:FuncData}(F:Fun K "_law_tree" "_law_tree" s_L_tree f fd)(z_len:mg "len"=none):FnOk P w K mg base CX0 1 f fd ["_law_text"] spLTr:=by
 refine F.ok sc_L_tree (fun vs H Q E h=>?_) (fun cdv A outer s H vs Q E hr h=>?_)
 ·obtain⟨_,rfl,_⟩:=h
  rfl
 obtain⟨l,rfl,hl,k⟩:=h
 refine⟨_,(@pss_cons _ _ _ _ _ (@sa _ _ _ _ _ _ sc_L_tree.nd lm_L_tree 1 (@pe_lst _ _ _ _ (@pa_c _ _ _ _ _ (@pe_lst _ _ _ _ (@pa_c _ _ _ _ _ pe_str (pa_c (pe_lst pa_nil) pa_nil) (by rfl))) pa_nil (by rfl))) (by rfl) (by kernel_rfl) (by exact .inl rfl)) (pss_cons (ps_repl (i:=0) (j:=2) (g:=midS) rfl sc_L_tree.nd rfl rfl rfl rfl (jo_mid rfl) mid_len mid_ne (by decide) (by decide +kernel))
  pss_blk)),?_⟩
 try dsimp only[cx_K]
 try dsimp only[cx_K]
 have hrl:∀k,(repl midS (ofL l) ((Str.ofString "()[]<>").cps.toList.take k)).length<=65535:=fun k=>Nat.le_trans (repl_len l k) (by omega)
 fail "R"
 intro p1 hp1
 fail "R"
 intro p2 hp2
 fail "R"
 intro p3 hp3
 fail "R"
 rw[repl_R6]
 have n12:p2≠p1:=fun z=>by rw[z,upd_same]at hp2;cases hp2
 have hp2':H p2=none:=by rw[upd_ne n12]at hp2;exact hp2
 have n32:p3≠p2:=fun z=>by rw[z,upd_same]at hp3;cases hp3
 rw[upd_ne n32]at hp3
 have n31:p3≠p1:=fun z=>by rw[z,upd_same]at hp3;cases hp3
 have hp3':H p3=none:=by rw[upd_ne n31]at hp3;exact hp3
 have s1:=same_new hp1 (.lst [])
 have s2:=same_new hp2 (.lst [.str "",.ref p1])
 have s3:Same _ (upd (upd (upd H p1 (.lst [])) p2 (.lst [.str "",.ref p1])) p3 (.lst [.ref p2])):=same_new (by rw[upd_ne n32];exact hp3) _
 have h1:=s3 _ _ (s2 _ _ (show upd H p1 (.lst []) p1=some (.lst [])from upd_same))
 have h2:=s3 _ _ (show upd (upd H p1 (.lst [])) p2 (.lst [.str "",.ref p1]) p2=some (.lst [.str "",.ref p1])from upd_same)
 refine tree_walk z_len (hr.mono (Nat.le_refl _)) hl (s1.trans (s2.trans s3)) hp3' hp2' hp1 n32 n31 n12 upd_same h2 h1 k
end
def spKeptW:Sp:=fun vs H Q _=>vs=[]/\∀(p:Addr) (H':Hp),Same H H'->H' p=some (.lst keptV)->Q (.ref p) H'
def spWord:Sp:=fun vs H Q _=>∃f:Addr,vs=[.ref f]/\FeedAt H f/\∀(x:Str) (H':Hp),Ext f H H'->nmOk x->Q (.str x) H'
@[irreducible] def esK1:List Expr:=match defBody s_L_kept with
 |.Assign _ (.List es _) _::_=>es
 |_=>[]
@[irreducible] def esK2:List Expr:=match defBody s_L_kept with
 | [_,.Return (some (.BinOp _ _ (.List es _) _)) _]=>es
 |_=>[]
@[irreducible] def posK (i:Nat):Pos:=match defBody s_L_kept with
 | [.Assign [.Name _ a] (.List _ b) c,.Return (some (.BinOp (.Name _ e) _ (.List _ f) g)) h]=>[a,b,c,e,f,g,h].getD i a
 |_=>⟨0,0,0,0⟩
def keptA:List Str:=["num","row","kind","def","more","first","others","long","match","if","let","fold","call"]
def keptB:List Str:=["gap","in","world","fault","left"]
theorem kept_body:defBody s_L_kept=[.Assign [.Name "_law_kept_here" (posK 0)] (.List esK1 (posK 1)) (posK 2),.Return (some (.BinOp (.Name "_law_kept_here" (posK 3)) .Add (.List esK2 (posK 4)) (posK 5))) (posK 6)]:=by unfold esK1 esK2 posK;kernel_rfl
theorem sK1:strsOf esK1=some keptA:=by unfold esK1;kernel_rfl
theorem sK2:strsOf esK2=some keptB:=by unfold esK2;kernel_rfl
theorem kept_cat:keptA.map V.str++keptB.map V.str=keptV:=rfl
theorem no_z:∀x∈keptS,x.cps.toList.getLast?≠some 122:=by decide +kernel
theorem inV_not{x:Str}(h:¬inV (.str x) keptV=true):x∉keptS:=fun hx=>h (by
 unfold inV
 rw[List.any_eq_true]
 exact⟨.str x,List.mem_map_of_mem hx,show(x == x)=true from beq_self_eq_true x⟩)
theorem lets_low:∀c∈("abcdefghijklmnopqrstuvwxyz":Str).cps.toList,low c:=by
 rw[show("abcdefghijklmnopqrstuvwxyz":Str).cps.toList=(List.range 26).map (·+97) by decide +kernel]
 intro c h
 obtain⟨i,hi,rfl⟩:=List.mem_map.mp h
 have:=List.mem_range.mp hi
 unfold low
 omega
theorem nm_mk{l:List Nat}(h1:1<=l.length)(h2:l.length<=6)(h3:∀a∈l,low a)(h4:ofL l∉keptS):nmOk (ofL l) :=
 ⟨by rw[ofL_len];exact h1,by rw[ofL_len];exact h2,by rw[toList_ofL];exact h3,h4⟩
theorem lst_ne_feed{f:Addr}{H:Hp}{l:Addr}(hf:FeedAt H f)(h:H l=none):l≠f:=fun z=>by
 obtain⟨p,q,e⟩:=hf
 rw[←z,h]at e
 cases e
section
variable {P:Program}{w:World}{K:PySem.W.Frag}{mg:Str->Option Value}{base:Heap}{gT gK:Addr}{tfd kfd:FuncData}
theorem nm_L_kept:Nm ["_law_kept_here"] (defScope s_L_kept):=by decide +kernel
theorem lm_L_kept:Lm ["_law_kept_here"] (defScope s_L_kept):=by decide +kernel
theorem sc_L_kept:FnScope ["_law_kept_here"] [] (defScope s_L_kept):=⟨rfl,rfl,rfl,by decide +kernel,rfl,by decide +kernel,by decide +kernel⟩
theorem ok_kept{f:Addr}{fd:FuncData}(F:Fun K "_law_kept" "_law_kept" s_L_kept f fd):FnOk P w K mg base CX0 1 f fd [] spKeptW:=by
 refine F.ok sc_L_kept (fun vs H Q E h=>?_) (fun cdv A outer s H vs Q E hr h=>?_)
 ·obtain⟨rfl,_⟩:=h
  rfl
 obtain⟨rfl,k⟩:=h
 rw[kept_body]
 refine⟨_,pss_cons (sa sc_L_kept.nd lm_L_kept 0 (pe_lst (pa_strs sK1))) (pss_one (ps_ret (pe_op op_cat (va nm_L_kept 0) (pe_lst (pa_strs sK2))))),?_⟩
 refine⟨(by show 13<=sizeLine;decide),fun l hl=>?_⟩
 refine⟨_,rfl,(by show 5<=sizeLine;decide),fun l2 hl2=>?_⟩
 refine⟨l,l2,_,_,rfl,rfl,same_new hl2 _ _ _ upd_same,upd_same,(by show 18<=sizeLine;decide),fun p hp=>?_⟩
 refine k p _ ((same_new hl _).trans ((same_new hl2 _).trans (same_new hp _))) ?_
 rw[upd_same,kept_cat]
theorem nm_L_word:Nm ["_law_feed_here","_law_word_here"] (defScope s_L_word):=by decide +kernel
theorem lm_L_word:Lm ["_law_feed_here","_law_word_here"] (defScope s_L_word):=by decide +kernel
theorem sc_L_word:FnScope ["_law_feed_here","_law_word_here"] ["_law_feed_here"] (defScope s_L_word):=⟨rfl,rfl,rfl,by decide +kernel,rfl,by decide +kernel,by decide +kernel⟩
theorem ok_word{f:Addr}{fd:FuncData}(F:Fun K "_law_word" "_law_word" s_L_word f fd)(TK:Has P w K mg base "_law_take" 1 ["_law_feed_here","_law_many"] spTake gT tfd)(KP:Has P w K mg base "_law_kept" 1 [] spKeptW gK kfd)(z_range:mg "range"=none):FnOk P w K mg base CX0 2 f fd ["_law_feed_here"] spWord:=by
 refine F.ok sc_L_word (fun vs H Q E h=>?_) (fun cdv A outer s H vs Q E hr h=>?_)
 ·obtain⟨_,rfl,_⟩:=h
  rfl
 obtain⟨r,rfl,hf,k⟩:=h
 refine⟨_,(@pss_cons _ _ _ _ _ (@sa _ _ _ _ _ _ sc_L_word.nd lm_L_word 1 (@pe_bm _ _ _ _ _ _ _ _ _ _ _ _ PySem.F.plainAttrs_str PySem.F.slot_str_join PySem.F.type_str_join mt_join pe_str (@pa_c _ _ _ _ _ (@pe_compC _ _ _ _ _ _ _ _ _ _ _ (defScope s_L_word) ["_law_feed_here","_law_word_here"] ["_law_k"] [0] rfl rfl rfl (by decide +kernel) (@pi_range1 _ _ _ _ _ _ (by show _=_;kernel_rfl) z_range (@pa_c _ _ _ _ _ (@pe_op _ _ _ _ _ _ _ _ op_add pe_int (@pe_call _ _ _ _ _ _ _ _ _ _ _ _ _ _ _ _ TK.ok (hr.mono (by omega)) (by show _=_;kernel_rfl) TK.at' TK.kp TK.bd .nil pass0 (pa_c (va nm_L_word 0) (pa_c pe_int pa_nil)) (by decide) (by rfl) (by rfl))) pa_nil (by rfl)) (by rfl)) (fun _ _ _ _=>(pg_name (i:=0) (show(["_law_k","_law_feed_here"]:List Str).Nodup by decide +kernel) rfl (Or.inl (by kernel_rfl)) (by first|exact .inl rfl|exact .inr (by kernel_rfl)))) (fun _ _ _ _=>pifs_nil) (fun _ _ _ _=>(@pe_ix _ _ _ _ _ _ _ ix_str pe_str (@pe_call _ _ _ _ _ _ _ _ _ _ _ _ _ _ _ _ TK.ok (hr.mono (by omega)) (by show _=_;kernel_rfl) TK.at' TK.kp TK.bd .nil pass0 (pa_c (va (show Nm ["_law_k","_law_feed_here"] _ by show _=_;kernel_rfl) 1) (pa_c pe_int pa_nil)) (by decide) (by rfl) (by rfl)) (fun _ _=>rfl))) (by intro _;rfl)) pa_nil (by rfl)) (by kernel_rfl) (by kernel_rfl) (by kernel_rfl) (by kernel_rfl) (by kernel_rfl)) (by rfl) (by kernel_rfl) (by exact .inl rfl)) (@pss_cons _ _ _ _ _ (@ps_if _ _ _ _ _ _ _ _ (pt_cmpR op_in_seq (va nm_L_word 1) (pe_call0 KP.ok (hr.mono (by omega)) (by show _=_;kernel_rfl) KP.at' KP.kp KP.bd .nil pass0) (by with_unfolding_all rfl)) (@pss_one _ _ _ (@ps_ret _ _ _ _ (@pe_op _ _ _ _ _ _ _ _ op_add_str (@pe_slice _ _ _ _ _ _ _ _ _ _ sl_str (va nm_L_word 1) po_none (po_some (pe_un un_neg pe_int))) pe_str))) pss_nil) (@pss_one _ _ _ (ps_ret (va nm_L_word 1))))),?_⟩
 try dsimp only[cx_K]
 try dsimp only[cx_K]
 refine seq_cut2 ?_
 intro N1 N2 c1 c2
 fail "R"
 intro q H2 q0 q6 e2
 fail "R"
 refine comp_range (n:=(1+q).toNat) (fun i σ vs Hc=>(∃v,σ=[v,some (.ref r)])/\Ext r H2 Hc/\∃cs:List Nat,vs=(cs.map fun c=>(⟨#[c]⟩:Str)).map V.str/\cs.length=i/\∀c∈cs,low c)
  ⟨⟨none,rfl⟩,Ext.refl e2.2,[],rfl,rfl,fun _ h=>nomatch h⟩ (fun i σ vs Hc _ ⟨_,_,cs,e,el,_⟩=>by rw[e,List.length_map,List.length_map];omega) (small (by omega)) ?_ ?_
 ·rintro i' σ vs Hc hi' ⟨⟨v,rfl⟩,ext,cs,rfl,hcl,hlo⟩
  refine⟨_,rfl,r,26,rfl,by decide,by decide,ext.2,fun d H3 d0 d1 ext2=>?_⟩
  obtain⟨c,hc1,hc2⟩:=atS (z:="abcdefghijklmnopqrstuvwxyz") d0 d1
  refine⟨_,d,c,rfl,rfl,(by decide +kernel),hc1,?_⟩
  exact⟨⟨_,rfl⟩,ext.trans ext2,cs++[c],by rw[List.map_append,List.map_append];rfl,by rw[List.length_append,hcl];rfl,fun c' h=>by rcases List.mem_append.mp h with h|h;exact hlo c' h;rw[List.mem_singleton.mp h];exact lets_low c hc2⟩
 rintro σ vs Hc ⟨⟨v,rfl⟩,ext,cs,rfl,hcl,hlo⟩ p hp
 refine⟨_,p,_,rfl,rfl,SqL.of upd_same,?_,?_⟩
 ·have z:(Str.ofString "").length=0:=by decide
  rw[sum_ones,z]
  omega
 rw[join_cs]
 have kp1:Ext r H (upd Hc p (.lst ((cs.map fun c=>(⟨#[c]⟩:Str)).map V.str))):=(e2.trans ext).new hp _
 generalize upd Hc p (.lst ((cs.map fun c=>(⟨#[c]⟩:Str)).map V.str))=H4 at kp1⊢
 have ecs:(⟨cs.toArray⟩:Str)=ofL cs:=rfl
 rw[ecs]
 have lx:(ofL cs).length<=sizeLine:=small (by rw[ofL_len];omega)
 have hfl:=kept_flat
 fail "R"
 intro pk H5 s5 h5
 have kp5:=kp1.same s5
 have sq5:SqL K H5 pk keptV:=SqL.of h5
 fail "R"
 have hne:cs≠[]:=fun z=>by rw[z]at hcl;have:(0:Nat)=(1+q).toNat:=hcl;omega
 have es:=slice_init hne
 refine ite2 (fun c=>?_) (fun c=>?_)
 ·have hld:cs.dropLast.length=cs.length-1:=List.length_dropLast
  have l1:(Txt.slice (ofL cs) none (some (-1))).length+("z":Str).length<=sizeLine:=small (by rw[es,ofL_len];show cs.dropLast.length+1<=1000;omega)
  fail "R"
  have ez:ofL cs.dropLast++("z":Str)=ofL (cs.dropLast++[122]):=by
   show ofL cs.dropLast++ofL [122]=_
   rw[app_ofL]
  show Q (.str (Txt.slice (ofL cs) none (some (-1))++("z":Str))) H5
  rw[es,ez]
  refine k _ _ kp5 (nm_mk (by rw[List.length_append];show 1<=cs.dropLast.length+1;omega) (by rw[List.length_append];show cs.dropLast.length+1<=6;omega) (fun a ha=>?_) (fun hm=>?_))
  ·rcases List.mem_append.mp ha with h|h
   ·exact hlo a (List.dropLast_subset cs h)
   ·rw[List.mem_singleton.mp h];exact⟨by decide,by decide⟩
  ·exact no_z _ hm (by rw[toList_ofL];simp)
 ·fail "R"
  exact k _ _ kp5 (nm_mk (by omega) (by omega) hlo (inV_not c))
end
def WordsAt(H:Hp)(a:Addr)(ws:List Str):Prop:=H a=some (.lst (ws.map V.str))/\1<=ws.length/\ws.length<=100
theorem WordsAt.ne{H:Hp}{a f:Addr}{ws:List Str}(h:WordsAt H a ws)(hf:FeedAt H f):a≠f:=fun z=>by
 obtain⟨p,q,e⟩:=hf
 subst z
 rw[h.1]at e
 cases ws with
 |nil=>have:=h.2.1;simp at this
 |cons x r=>injection e with e;injection e with e;rw[List.map_cons]at e;injection e with e;cases e
theorem WordsAt.ext{H H':Hp}{a f:Addr}{ws:List Str}(h:WordsAt H a ws)(hf:FeedAt H f)(e:Ext f H H'):WordsAt H' a ws:=⟨e.1 a _ (h.ne hf) h.1,h.2⟩
theorem WordsAt.same{H H':Hp}{a:Addr}{ws:List Str}(h:WordsAt H a ws)(e:Same H H'):WordsAt H' a ws:=⟨e a _ h.1,h.2⟩
def spNumber:Sp:=fun vs H Q _=>∃f:Addr,vs=[.ref f]/\FeedAt H f/\∀(n:Int) (H':Hp),0<=n->n<1000000->Ext f H H'->Q (.int n) H'
section
variable {P:Program}{w:World}{K:PySem.W.Frag}{mg:Str->Option Value}{base:Heap}{gT gN gA:Addr}{tfd nfd afd:FuncData}
theorem nm_L_number:Nm ["_law_feed_here","_law_form"] (defScope s_L_number):=by decide +kernel
theorem lm_L_number:Lm ["_law_feed_here","_law_form"] (defScope s_L_number):=by decide +kernel
theorem sc_L_number:FnScope ["_law_feed_here","_law_form"] ["_law_feed_here"] (defScope s_L_number):=⟨rfl,rfl,rfl,by decide +kernel,rfl,by decide +kernel,by decide +kernel⟩
theorem ok_number{f:Addr}{fd:FuncData}(F:Fun K "_law_number" "_law_number" s_L_number f fd)(TK:Has P w K mg base "_law_take" 1 ["_law_feed_here","_law_many"] spTake gT tfd):FnOk P w K mg base CX0 2 f fd ["_law_feed_here"] spNumber:=by
 refine F.ok sc_L_number (fun vs H Q E h=>?_) (fun cdv A outer s H vs Q E hr h=>?_)
 ·obtain⟨v,rfl,_⟩:=h
  rfl
 obtain⟨r,rfl,hf,k⟩:=h
 refine⟨_,(pss_cons (sa sc_L_number.nd lm_L_number 1 (pe_call TK.ok (hr.mono (by omega)) (by show _=_;kernel_rfl) TK.at' TK.kp TK.bd .nil pass0 (pa_cons (va nm_L_number 0) (pa_cons pe_int pa_nil))))
  (pss_cons (ps_if (pt_cmpR op_lt (va nm_L_number 1) pe_int (nomark _)) (pss_one (ps_ret (pe_call TK.ok (hr.mono (by omega)) (by show _=_;kernel_rfl) TK.at' TK.kp TK.bd .nil pass0 (pa_cons (va nm_L_number 0) (pa_cons (pe_ix ix_list (pe_lst (pa_cons pe_int (pa_cons pe_int (pa_cons pe_int (pa_cons pe_int (pa_cons pe_int (pa_cons pe_int pa_nil))))))) (va nm_L_number 1) (fun _ _=>rfl)) pa_nil))))) pss_nil)
  (pss_one (ps_ret (pe_ix ix_list (pe_lst (pa_cons (pe_call TK.ok (hr.mono (by omega)) (by show _=_;kernel_rfl) TK.at' TK.kp TK.bd .nil pass0 (pa_cons (va nm_L_number 0) (pa_cons pe_int pa_nil))) (pa_cons (pe_op op_sub pe_int (pe_call TK.ok (hr.mono (by omega)) (by show _=_;kernel_rfl) TK.at' TK.kp TK.bd .nil pass0 (pa_cons (va nm_L_number 0) (pa_cons pe_int pa_nil)))) pa_nil))) (pe_op op_sub (va nm_L_number 1) pe_int) (fun _ _=>rfl)))))),?_⟩
 refine⟨_,rfl,r,8,rfl,by decide,by decide,hf,fun q H1 q0 q1 e1=>?_⟩
 refine⟨_,rfl,_,_,rfl,rfl,_,rfl,ite2 (fun c=>?_) (fun c=>?_)⟩
 ·have c6:q<6:=of_decide_eq_true c
  refine⟨_,rfl,(by show 6<=sizeLine;decide),fun l hl=>?_⟩
  obtain⟨v,hv,hm⟩:=atI_of (xs:=[V.int 2,V.int 4,V.int 4,V.int 10,V.int 10,V.int 100]) q0 (by simpa using c6)
  obtain⟨n,rfl,n0,n1⟩:∃n:Int,v=.int n/\0<n/\n<=100:=by
   simp only[List.mem_cons,List.not_mem_nil,or_false]at hm
   rcases hm with rfl|rfl|rfl|rfl|rfl|rfl
   ·exact⟨2,rfl,by decide,by decide⟩
   ·exact⟨4,rfl,by decide,by decide⟩
   ·exact⟨4,rfl,by decide,by decide⟩
   ·exact⟨10,rfl,by decide,by decide⟩
   ·exact⟨10,rfl,by decide,by decide⟩
   ·exact⟨100,rfl,by decide,by decide⟩
  refine⟨_,rfl,l,_,_,_,rfl,rfl,SqL.of upd_same,hv,r,n,rfl,n0,by omega,e1.2.same (same_new hl _),fun x H2 x0 x1 e2=>?_⟩
  exact k x H2 x0 (by omega) ((e1.new hl _).trans e2)
 ·have c6:¬q<6:=fun z=>c (decide_eq_true z)
  refine⟨_,rfl,r,1000000,rfl,by decide,by decide,e1.2,fun x H2 x0 x1 e2=>?_⟩
  refine⟨_,rfl,r,3,rfl,by decide,by decide,e2.2,fun y H3 y0 y1 e3=>?_⟩
  refine⟨_,_,rfl,rfl,(by show 2<=sizeLine;decide),fun l hl=>?_⟩
  have e4:=((e1.trans e2).trans e3).new hl (.lst [.int x,.int (999999-y)])
  obtain⟨v,hv,hm⟩:=atI_of (xs:=[V.int x,V.int (999999-y)]) (k:=q-6) (by omega) (by simp;omega)
  refine⟨_,rfl,_,_,rfl,rfl,l,_,_,_,rfl,rfl,SqL.of upd_same,hv,?_⟩
  simp only[List.mem_cons,List.not_mem_nil,or_false]at hm
  rcases hm with rfl|rfl
  ·exact k _ _ x0 x1 e4
  ·exact k _ _ (by omega) (by omega) e4
end
end G12
namespace L2
open PySem PySem.Spec PyProof.Rows PySem.SeqAt
section
variable {X:Cx}
theorem rc_empty{pins:List (Addr×Obj)}{s:Shared}{σ:St}{H:Hp}(I:Inv X pins σ H s){us:List V}{p q:Addr}{A:Around}(hu:A.units+1<cLine)(hs:SqL X.K H p us)(hs':SqL X.K H q []) :
  RcAt A s (.ref p) (.ref q) (decide (us=[]))/\RcNeAt A s (.ref p) (.ref q) (!decide (us=[])):=by
 obtain⟨its,r,it,_⟩:=I.list hs
 obtain⟨its',r',it',_⟩:=I.list hs'
 have n1:s.heap.IsList p its.toArray:=by obtain⟨o,n,e,c,-,d⟩:=it;exact⟨o,e,c,n,d⟩
 have n2:s.heap.IsList q its'.toArray:=by obtain⟨o,n,e,c,-,d⟩:=it';exact⟨o,e,c,n,d⟩
 have l1:us.length=its.length:=r.length
 cases r'
 cases us with
 |nil =>
  cases r
  have z1:=RcAt.lists (A:=A) n1 n2 (by simp) (by omega) (e:=fun _=>true) (fun j h=>absurd h (by simp))
  have z2:=RcNeAt.lists (A:=A) n1 n2 (by simp) (by omega) (e:=fun _=>true) (fun j h=>absurd h (by simp))
  exact⟨z1,z2⟩
 |cons u us =>
  rw[decide_eq_false (show ¬u::us=[]from fun z=>nomatch z)]
  have hz:(its.toArray.size != ([]:List Value).toArray.size)=true:=by
   cases its with
   |nil=>simp at l1
   |cons=>rfl
  exact⟨RcAt.lists_lengths (A:=A) n1 n2 hz (by omega),RcNeAt.lists_lengths (A:=A) n1 n2 hz (by omega)⟩
theorem op_eqE(hu:X.A.units+150<cLine):OpR X (compareOp .Eq) (fun x y H Q=>∃p q us,x=.ref p/\y=.ref q/\SqL X.K H p us/\SqL X.K H q []/\Q (.bl (decide (us=[]))) H):=by
 intro pins s σ H x y v u Q I rx ry h
 obtain⟨p,q,us,rfl,rfl,h1,h2,k⟩:=h
 obtain rfl:v=Value.ref p:=rx
 obtain rfl:u=Value.ref q:=ry
 exact(rc_empty I (A:=X.A) (by omega) h1 h2).1 X.prog X.w X.xe _ ⟨.bl _,H,I,rfl,k⟩
theorem op_neE(hu:X.A.units+150<cLine):OpR X (compareOp .NotEq) (fun x y H Q=>∃p q us,x=.ref p/\y=.ref q/\SqL X.K H p us/\SqL X.K H q []/\Q (.bl (!decide (us=[]))) H):=by
 intro pins s σ H x y v u Q I rx ry h
 obtain⟨p,q,us,rfl,rfl,h1,h2,k⟩:=h
 obtain rfl:v=Value.ref p:=rx
 obtain rfl:u=Value.ref q:=ry
 exact(rc_empty I (A:=X.A) (by omega) h1 h2).2 X.prog X.w X.xe _ ⟨.bl _,H,I,rfl,k⟩
def isNo:Value->Bool
 |.none=>true
 |_=>false
theorem isNo_rel{u:V}{v:Value}(r:RelV u v)(h:u=.non\/∃a,u=.ref a):isNo v=decide (u=.non):=by
 rcases h with rfl|⟨a,rfl⟩
 ·cases r;rfl
 ·cases r;rfl
theorem anyNo:∀{us:List V}{its:List Value},Vals us its->(∀u∈us,u=.non\/∃a,u=.ref a)->its.any isNo=us.any fun u=>decide (u=.non)
 |_,_,.nil,_=>rfl
 |u::us,v::its,.cons r t,h=>by
  rw[List.any_cons,List.any_cons,isNo_rel r (h u (.head _)),anyNo t fun x hx=>h x (.tail _ hx)]
theorem vals_mem:∀{us:List V}{its:List Value},Vals us its->∀v∈its,∃u∈us,RelV u v
 |_,_,.nil,v,h=>nomatch h
 |u::us,v'::its,.cons r t,v,h=>by
  rcases List.mem_cons.mp h with rfl|h
  ·exact⟨u,.head _,r⟩
  ·obtain⟨x,hx,rx⟩:=vals_mem t v h
   exact⟨x,.tail _ hx,rx⟩
theorem op_inN(hu:X.A.units+150<cLine):OpR X (compareOp .In) (fun x y H Q=>∃p us,x=.non/\y=.ref p/\SqT X.K H p us/\(∀u∈us,u=.non\/∃a xs,u=.ref a/\SqT X.K H a xs)/\Q (.bl (us.any fun u=>decide (u=.non))) H):=by
 intro pins s σ H x y v u Q I rx ry h
 obtain⟨p,us,rfl,rfl,hq,hus,q⟩:=h
 cases ry
 cases rx
 obtain⟨its,r,pl,hz⟩:=I.tuple hq
 refine SeqAt.in_tupleAt isNo pl (fun w hw=>?_) ⟨.bl _,H,I,rfl,?_⟩
 ·obtain⟨u,hu1,ru⟩:=vals_mem r w (by simpa using hw)
  rcases hus u hu1 with rfl|⟨a,xs,rfl,ha⟩
  ·cases ru
   exact EqAt.same _
  ·cases ru
   obtain⟨its2,_,it2,_⟩:=I.tuple ha
   exact EqAt.tuple_none (isTuple_of it2) (by show X.A.units+1<cLine;omega)
 ·rw[show its.toArray.any isNo=its.any isNo by simp,anyNo r fun u h=>(hus u h).imp id fun⟨a,_,e,_⟩=>⟨a,e⟩]
  exact q
theorem op_notIn_sign:OpR X (compareOp .NotIn) (fun x y H Q=>∃c j,x=.str ⟨#[c]⟩/\y=.str j/\Q (.bl (!decide (c∈j.cps.toList))) H):=by
 intro pins s σ H x y v u Q I rx ry h
 obtain⟨c,j,rfl,rfl,q⟩:=h
 refine op_notIn_str pins s σ H (.str ⟨#[c]⟩) (.str j) v u Q I rx ry ⟨_,_,rfl,rfl,?_⟩
 rw[StrLaws.found_one]
 exact q
end
theorem comp_filtS{t:Str}{p:Nat->Bool}{g:TG}{tt:TT}{te:TE}{Q:VK}{σ0:St}{H0:Hp}(hg:∀(v:V) (σ:St) (H:Hp) K,g v σ H K=K (σ.set 0 (some v)) H)
  (ht:∀c∈t.cps.toList,∀(C:Bool->Hp->Prop),C (p c) H0->tt [some (.str ⟨#[c]⟩)] H0 C) (he:∀(c:Nat) (K:VK),K (.str ⟨#[c]⟩) H0->te [some (.str ⟨#[c]⟩)] H0 K) (hl:σ0.length=1) (hn:t.cps.size<=sizeLine)
  (hd:∀q,H0 q=none->Q (.ref q) (upd H0 q (.lst ((t.cps.toList.filter p).map fun c=>.str ⟨#[c]⟩)))):CompW (Its t) g tt te Q σ0 H0:=by
 refine comp_by t.cps.size (fun i σ vs H1=>σ.length=1/\H1=H0/\vs=((t.cps.toList.take i).filter p).map fun c=>V.str ⟨#[c]⟩) ⟨hl,rfl,rfl⟩ (fun i σ vs H1 hi ⟨_,_,e⟩=>by
  rw[e,List.length_map]
  exact Nat.le_trans (List.length_filter_le _ _) (by rw[List.length_take];omega)) hn (fun _ _ _ _ h _=>h) (fun _ _ _ _=>rfl) ?_ ?_
 ·rintro i σ vs H1 x H' hi ⟨hσ,rfl,rfl⟩ ⟨rfl,c,hc,rfl⟩
  obtain⟨o,rfl⟩:∃o,σ=[o]:=by
   match σ,hσ with
   | [o],_=>exact⟨o,rfl⟩
  have hc':t.cps.toList[i]?=some c:=by simpa using hc
  rw[hg]
  refine ht c (List.mem_of_getElem? hc') _ ?_
  cases hp:p c with
  |true =>
   rw[if_pos rfl]
   refine he c _ ⟨rfl,rfl,?_⟩
   rw[List.take_add_one,hc',List.filter_append,List.map_append]
   simp[hp]
  |false =>
   rw[if_neg Bool.false_ne_true]
   refine⟨rfl,rfl,?_⟩
   rw[List.take_add_one,hc',List.filter_append,List.map_append]
   simp[hp]
 ·rintro σ vs H1 ⟨_,rfl,rfl⟩ q hq
  have e:t.cps.toList.take t.cps.size=t.cps.toList:=List.take_of_length_le (by simp)
  rw[e]
  exact hd q hq
end L2
namespace G12
open PySem L2
def optI:Option Int->V
 |some n=>.int n
 |none=>.non
def WdV(K:PySem.W.Frag)(H:Hp)(v:V):Option (List Nat)->Prop
 |some l=>v=.str (ofL l)/\l.length<=10000
 |none=>∃p us,v=.ref p/\SqL K H p us
def nmO(o:Option (List Nat)):Bool:=match o with|some l=>nmB l|none=>false
theorem abc_mem{c:Nat}:c∈(Str.ofString "abcdefghijklmnopqrstuvwxyz").cps.toList↔97<=c/\c<=122:=by
 rw[show(Str.ofString "abcdefghijklmnopqrstuvwxyz").cps.toList=(List.range 26).map (·+97) by decide +kernel,List.mem_map]
 constructor
 ·rintro⟨i,hi,rfl⟩
  have:=List.mem_range.mp hi
  omega
 ·intro h
  exact⟨c-97,List.mem_range.mpr (by omega),by omega⟩
theorem fig_mem{c:Nat}:c∈(Str.ofString "0123456789").cps.toList↔48<=c/\c<=57:=by
 rw[show(Str.ofString "0123456789").cps.toList=(List.range 10).map (·+48) by decide +kernel,List.mem_map]
 constructor
 ·rintro⟨i,hi,rfl⟩
  have:=List.mem_range.mp hi
  omega
 ·intro h
  exact⟨c-48,List.mem_range.mpr (by omega),by omega⟩
theorem inV_of{x:Str}(hx:x∈keptS):inV (.str x) keptV=true:=by
 unfold inV
 rw[List.any_eq_true]
 exact⟨.str x,List.mem_map_of_mem hx,show(x == x)=true from beq_self_eq_true x⟩
def spLIn(K:PySem.W.Frag):Sp:=fun vs H Q _=>∃(v:V) (o:Option (List Nat)),vs=[v]/\WdV K H v o/\∀H',Same H H'->Q (.bl (nmO o)) H'
def spLFg(K:PySem.W.Frag):Sp:=fun vs H Q _=>∃(v:V) (o:Option (List Nat)),vs=[v]/\WdV K H v o/\∀H',Same H H'->Q (optI (o.bind lfig)) H'
section
variable {P:Program}{w:World}{K:PySem.W.Frag}{mg:Str->Option Value}{base:Heap}{gK:Addr}{kfd:FuncData}
theorem nm_L_is_name:Nm ["_law_word_here"] (defScope s_L_is_name):=by decide +kernel
theorem sc_L_is_name:FnScope ["_law_word_here"] ["_law_word_here"] (defScope s_L_is_name):=⟨rfl,rfl,rfl,by decide +kernel,rfl,by decide +kernel,by decide +kernel⟩
theorem ok_lin{f:Addr}{fd:FuncData}(F:Fun K "_law_is_name" "_law_is_name" s_L_is_name f fd)(KP:Has P w K mg base "_law_kept" 1 [] spKeptW gK kfd)(z_len:mg "len"=none)(z_isinstance:mg "isinstance"=none)(z_str:mg "str"=none):FnOk P w K mg base CX0 2 f fd ["_law_word_here"] (spLIn K):=by
 refine F.ok sc_L_is_name (fun vs H Q E h=>?_) (fun cdv A outer s H vs Q E hr h=>?_)
 ·obtain⟨_,_,rfl,_⟩:=h
  rfl
 obtain⟨v,o,rfl,hv,k⟩:=h
 refine⟨_,(@pss_cons _ _ _ _ _ (@ps_if _ _ _ _ _ _ _ _ (PW.pt (@pw_or _ _ _ _ _ _ _ (@pt_not _ _ _ _ (@pt_val _ _ _ (@pe_callB _ _ _ _ _ _ _ _ _ (call_isSl K rfl) (by show _=_;kernel_rfl) z_isinstance PyProof.Rows.boot_isinstance (@pa_c _ _ _ _ _ (va nm_L_is_name 0) (pa_c (pe_bltn (v:=.ty "str") (by show _=_;kernel_rfl) z_str (by decide +kernel) rfl) pa_nil) (by rfl)) (by decide) (by decide) (by rfl) (by rfl)) (by intro _;rfl))) (@pw_or _ _ _ _ _ _ _ (pt_cmpR op_in_seq (va nm_L_is_name 0) (pe_call0 KP.ok (hr.mono (by omega)) (by show _=_;kernel_rfl) KP.at' KP.kp KP.bd .nil pass0) (by with_unfolding_all rfl)) (@pw_or1 _ _ _ _ (@pt_not _ _ _ _ (@pt_chain _ _ _ _ _ _ _ _ _ _ _ _ op_lt op_lt pe_int (@pe_callB _ _ _ _ _ _ _ _ _ call_len_str (by show _=_;kernel_rfl) z_len PySem.boot_len (pa_c (va nm_L_is_name 0) pa_nil) (by decide) (by decide) (by rfl) (by rfl)) pe_int (by with_unfolding_all rfl))))))) (pss_one (ps_ret pe_bl)) pss_nil) (@pss_one _ _ _ (@ps_ret _ _ _ _ (@pe_cmpR _ _ _ _ _ _ _ _ (op_eqE hr.u150) (@pe_compC _ _ _ _ _ _ _ _ _ _ _ (defScope s_L_is_name) ["_law_word_here"] ["_law_sign"] [] rfl rfl rfl (by decide +kernel) (pi_str (va nm_L_is_name 0)) (fun _ _ _ _=>(pg_name (i:=0) (show(["_law_sign"]:List Str).Nodup by decide +kernel) rfl (Or.inl (by kernel_rfl)) (by first|exact .inl rfl|exact .inr (by kernel_rfl)))) (fun _ _ _ _=>(@pifs_one _ _ _ (pt_cmpR op_notIn_sign (va (show Nm ["_law_sign"] _ by show _=_;kernel_rfl) 0) pe_str (by with_unfolding_all rfl)))) (fun _ _ _ _=>(va (show Nm ["_law_sign"] _ by show _=_;kernel_rfl) 0)) (by intro _;rfl)) (pe_lst pa_nil) (nomark _))))),?_⟩
 try dsimp only[cx_K]
 try dsimp only[cx_K]
 refine if_atX (fun b H1=>Same H H1/\(b=true->nmO o=false)/\(b=false->∃l,o=some l/\v=.str (ofL l)/\1<=l.length/\l.length<=6/\ofL l∉keptS)) (fun C hC=>?_) (fun H1 h1=>?_) (fun H1 h1=>?_)
 ·cases o with
  |none =>
   obtain⟨p,us,rfl,sq⟩:=hv
   fail "R"
   refine .inl ⟨_,_,rfl,sq,?_⟩
   fail "R"
   exact hC _ _ ⟨Same.refl _,fun _=>rfl,fun z=>nomatch z⟩
  |some l =>
   obtain⟨rfl,hl⟩:=hv
   fail "R"
   refine .inr ⟨_,rfl,?_⟩
   fail "R"
   intro p1 H1 s1 h1
   have fl:keptV.all flatV=true:=by decide +kernel
   have sz:(ofL l).length<=sizeLine:=by rw[ofL_len,sizeLine_eq];omega
   fail "O"
   rw[if_neg Bool.false_ne_true]
   have hc:∀(b:Bool),(fun c H1=>if c=true then C true H1 else C c H1) b H1->C b H1:=fun b h=>by cases b<;>simpa using h
   by_cases hk:ofL l∈keptS
   ·rw[show inV (.str (ofL l)) keptV=true from inV_of hk]
    refine hC _ _ ⟨s1,fun _=>?_,fun z=>nomatch z⟩
    show nmB l=false
    unfold nmB
    simp[hk]
   ·rw[not_kept hk]
    fail "R"
    refine ite2 (fun c=>?_) (fun c=>?_)
    ·have c1:=of_decide_eq_true c
     fail "R"
     generalize hb:decide (((ofL l).length:Int)<7)=b
     cases b with
     |true =>
      have c2:=of_decide_eq_true hb
      rw[ofL_len]at c1 c2
      exact hC _ _ ⟨s1,fun z=>absurd z (by decide),fun _=>⟨l,rfl,rfl,by omega,by omega,hk⟩⟩
     |false =>
      have c2:=of_decide_eq_false hb
      rw[ofL_len]at c2
      refine hC _ _ ⟨s1,fun _=>?_,fun z=>nomatch z⟩
      show nmB l=false
      unfold nmB
      rw[decide_eq_false (show ¬l.length<=6 by omega)]
      simp
    ·fail "R"
     have c1:¬(0:Int)<((ofL l).length:Int):=fun z=>c (decide_eq_true z)
     rw[ofL_len]at c1
     refine hC _ _ ⟨s1,fun _=>?_,fun z=>nomatch z⟩
     show nmB l=false
     unfold nmB
     rw[decide_eq_false (show ¬1<=l.length by omega)]
     rfl
 ·fail "R"
  rw[←h1.2.1 rfl]
  exact k _ h1.1
 ·obtain⟨s1,_,h2⟩:=h1
  obtain⟨l,rfl,rfl,l1,l6,lk⟩:=h2 rfl
  fail "R"
  refine comp_filtS (p:=fun c=>!decide (c∈(Str.ofString "abcdefghijklmnopqrstuvwxyz").cps.toList)) (fun _ _ _ _=>rfl) (fun c hc C h=>?_) (fun c K h=>?_) rfl ?_ (fun q hq=>?_)
  ·fail "R"
   exact h
  ·fail "R"
   exact h
  ·show(ofL l).length<=sizeLine
   rw[ofL_len]
   exact small (by omega)
  have s2:=same_new hq (.lst (((ofL l).cps.toList.filter fun c=>!decide (c∈(Str.ofString "abcdefghijklmnopqrstuvwxyz").cps.toList)).map fun c=>V.str ⟨#[c]⟩))
  have h2:upd H1 q (.lst (((ofL l).cps.toList.filter fun c=>!decide (c∈(Str.ofString "abcdefghijklmnopqrstuvwxyz").cps.toList)).map fun c=>V.str ⟨#[c]⟩)) q=some (.lst (((ofL l).cps.toList.filter fun c=>!decide (c∈(Str.ofString "abcdefghijklmnopqrstuvwxyz").cps.toList)).map fun c=>V.str ⟨#[c]⟩)):=upd_same
  generalize upd H1 q _=H2 at s2 h2⊢
  fail "R"
  intro p3 hp3
  have s3:=same_new hp3 (.lst [])
  have h23:=s3 _ _ h2
  fail "R"
  have e:decide (((ofL l).cps.toList.filter fun c=>!decide (c∈(Str.ofString "abcdefghijklmnopqrstuvwxyz").cps.toList)).map (fun c=>V.str ⟨#[c]⟩)=[])=nmO (some l):=by
   rw[toList_ofL]
   show _=nmB l
   unfold nmB
   rw[decide_eq_true l1,decide_eq_true l6,decide_eq_false lk]
   rw[Bool.eq_iff_iff]
   simp only[decide_eq_true_eq,List.map_eq_nil_iff,List.filter_eq_nil_iff,Bool.true_and,Bool.not_false,List.all_eq_true,Bool.not_eq_true',decide_eq_false_iff_not,Classical.not_not,abc_mem]
  rw[e]
  exact k _ (s1.trans (s2.trans s3))
theorem nm_L_figures:Nm ["_law_word_here"] (defScope s_L_figures):=by decide +kernel
theorem sc_L_figures:FnScope ["_law_word_here"] ["_law_word_here"] (defScope s_L_figures):=⟨rfl,rfl,rfl,by decide +kernel,rfl,by decide +kernel,by decide +kernel⟩
theorem ok_lfg{f:Addr}{fd:FuncData}(F:Fun K "_law_figures" "_law_figures" s_L_figures f fd)(z_len:mg "len"=none)(z_isinstance:mg "isinstance"=none)(z_str:mg "str"=none)(z_int:mg "int"=none):FnOk P w K mg base CX0 1 f fd ["_law_word_here"] (spLFg K):=by
 refine F.ok sc_L_figures (fun vs H Q E h=>?_) (fun cdv A outer s H vs Q E hr h=>?_)
 ·obtain⟨_,_,rfl,_⟩:=h
  rfl
 obtain⟨v,o,rfl,hv,k⟩:=h
 refine⟨_,(@pss_cons _ _ _ _ _ (@ps_if _ _ _ _ _ _ _ _ (PW.pt (@pw_or _ _ _ _ _ _ _ (@pt_not _ _ _ _ (@pt_val _ _ _ (@pe_callB _ _ _ _ _ _ _ _ _ (call_isSl K rfl) (by show _=_;kernel_rfl) z_isinstance PyProof.Rows.boot_isinstance (@pa_c _ _ _ _ _ (va nm_L_figures 0) (pa_c (pe_bltn (v:=.ty "str") (by show _=_;kernel_rfl) z_str (by decide +kernel) rfl) pa_nil) (by rfl)) (by decide) (by decide) (by rfl) (by rfl)) (by intro _;rfl))) (@pw_or1 _ _ _ _ (@pt_not _ _ _ _ (@pt_chain _ _ _ _ _ _ _ _ _ _ _ _ op_lt op_lt pe_int (@pe_callB _ _ _ _ _ _ _ _ _ call_len_str (by show _=_;kernel_rfl) z_len PySem.boot_len (pa_c (va nm_L_figures 0) pa_nil) (by decide) (by decide) (by rfl) (by rfl)) pe_int (by with_unfolding_all rfl)))))) (pss_one (ps_ret pe_non)) pss_nil) (@pss_cons _ _ _ _ _ (@ps_if _ _ _ _ _ _ _ _ (@pt_cmpR _ _ _ _ _ _ _ _ (op_neE hr.u150) (@pe_compC _ _ _ _ _ _ _ _ _ _ _ (defScope s_L_figures) ["_law_word_here"] ["_law_sign"] [] rfl rfl rfl (by decide +kernel) (pi_str (va nm_L_figures 0)) (fun _ _ _ _=>(pg_name (i:=0) (show(["_law_sign"]:List Str).Nodup by decide +kernel) rfl (Or.inl (by kernel_rfl)) (by first|exact .inl rfl|exact .inr (by kernel_rfl)))) (fun _ _ _ _=>(@pifs_one _ _ _ (pt_cmpR op_notIn_sign (va (show Nm ["_law_sign"] _ by show _=_;kernel_rfl) 0) pe_str (by with_unfolding_all rfl)))) (fun _ _ _ _=>(va (show Nm ["_law_sign"] _ by show _=_;kernel_rfl) 0)) (by intro _;rfl)) (pe_lst pa_nil) (nomark _)) (pss_one (ps_ret pe_non)) pss_nil) (@pss_one _ _ _ (@ps_ret _ _ _ _ (@pe_callTy _ _ _ _ _ _ _ _ _ call_intT (by show _=_;kernel_rfl) z_int PyProof.Rows.boot_int (pa_c (va nm_L_figures 0) pa_nil) (by decide) (by decide) (by rfl) (by rfl)))))),?_⟩
 try dsimp only[cx_K]
 try dsimp only[cx_K]
 refine if_atX (fun b H1=>Same H H1/\(b=true->o.bind lfig=none)/\(b=false->∃l,o=some l/\v=.str (ofL l)/\1<=l.length/\l.length<7)) (fun C hC=>?_) (fun H1 h1=>?_) (fun H1 h1=>?_)
 ·cases o with
  |none =>
   obtain⟨p,us,rfl,sq⟩:=hv
   fail "R"
   refine .inl ⟨_,_,rfl,sq,?_⟩
   fail "R"
   exact hC _ _ ⟨Same.refl _,fun _=>rfl,fun z=>nomatch z⟩
  |some l =>
   obtain⟨rfl,hl⟩:=hv
   fail "R"
   refine .inr ⟨_,rfl,?_⟩
   have sz:(ofL l).length<=sizeLine:=by rw[ofL_len,sizeLine_eq];omega
   fail "R"
   refine ite2 (fun c=>?_) (fun c=>?_)
   ·have c1:=of_decide_eq_true c
    fail "R"
    generalize hb:decide (((ofL l).length:Int)<7)=b
    cases b with
    |true =>
     have c2:=of_decide_eq_true hb
     rw[ofL_len]at c1 c2
     exact hC _ _ ⟨Same.refl _,fun z=>absurd z (by decide),fun _=>⟨l,rfl,rfl,by omega,by omega⟩⟩
    |false =>
     have c2:=of_decide_eq_false hb
     rw[ofL_len]at c2
     refine hC _ _ ⟨Same.refl _,fun _=>?_,fun z=>nomatch z⟩
     show lfig l=none
     unfold lfig
     exact if_neg fun z=>by omega
   ·fail "R"
    have c1:¬(0:Int)<((ofL l).length:Int):=fun z=>c (decide_eq_true z)
    rw[ofL_len]at c1
    refine hC _ _ ⟨Same.refl _,fun _=>?_,fun z=>nomatch z⟩
    show lfig l=none
    unfold lfig
    exact if_neg fun z=>by omega
 ·fail "R"
  have:=k _ h1.1
  rw[h1.2.1 rfl]at this
  exact this
 ·obtain⟨s1,_,h2⟩:=h1
  obtain⟨l,rfl,rfl,l1,l6⟩:=h2 rfl
  fail "R"
  refine comp_filtS (p:=fun c=>!decide (c∈(Str.ofString "0123456789").cps.toList)) (fun _ _ _ _=>rfl) (fun c hc C h=>?_) (fun c K h=>?_) rfl ?_ (fun q hq=>?_)
  ·fail "R"
   exact h
  ·fail "R"
   exact h
  ·show(ofL l).length<=sizeLine
   rw[ofL_len]
   exact small (by omega)
  have s2:=same_new hq (.lst (((ofL l).cps.toList.filter fun c=>!decide (c∈(Str.ofString "0123456789").cps.toList)).map fun c=>V.str ⟨#[c]⟩))
  have h2:upd H1 q (.lst (((ofL l).cps.toList.filter fun c=>!decide (c∈(Str.ofString "0123456789").cps.toList)).map fun c=>V.str ⟨#[c]⟩)) q=some (.lst (((ofL l).cps.toList.filter fun c=>!decide (c∈(Str.ofString "0123456789").cps.toList)).map fun c=>V.str ⟨#[c]⟩)):=upd_same
  generalize upd H1 q _=H2 at s2 h2⊢
  fail "R"
  intro p3 hp3
  have s3:=same_new hp3 (.lst [])
  have h23:=s3 _ _ h2
  have s123:=s1.trans (s2.trans s3)
  fail "R"
  have e:(((ofL l).cps.toList.filter fun c=>!decide (c∈(Str.ofString "0123456789").cps.toList)).map (fun c=>V.str ⟨#[c]⟩)=[])↔∀c∈l,48<=c/\c<=57:=by
   rw[toList_ofL]
   simp only[List.map_eq_nil_iff,List.filter_eq_nil_iff,Bool.not_eq_true',decide_eq_false_iff_not,Classical.not_not,fig_mem]
  by_cases hd:∀c∈l,48<=c/\c<=57
  ·rw[decide_eq_true (e.mpr hd)]
   obtain⟨n,_,e1,e2⟩:=lfig_some ⟨l1,l6,hd⟩
   have k2:=k _ s123
   rw[show(some l).bind lfig=some n from e2]at k2
   have hl6:(ofL l).length<=640:=by rw[ofL_len];omega
   fail "R"
   exact k2
  ·rw[decide_eq_false fun z=>hd (e.mp z)]
   have k2:=k _ s123
   rw[show(some l).bind lfig=none from if_neg fun z=>hd z.2.2]at k2
   fail "R"
   exact k2
end
def spLTo(K:PySem.W.Frag)(n:Nat):Sp:=fun vs H Q _=>∃(v:V) (b:Bw),vs=[v]/\RL [] H b v/\bd b<n/\bz b<=800/\∀(v':V) (H':Hp),Same H H'->Rp K H' (thO (lth b)) v'->Q v' H'
theorem sg_eq{o c:Nat}{x:Str}(h:x=⟨#[c]⟩):decide (V.str ⟨#[o]⟩=V.str x)=decide (o=c):=by
 subst h
 rw[Bool.eq_iff_iff]
 simp
def opT(x:Str):Option Int->T
 |some m=>.t [.s x,.i m]
 |none=>.n
theorem wdv_of{K:PySem.W.Frag}{H:Hp}{b:Bw}{v:V}(h:RL [] H b v):WdV K H v (lwd b):=by
 cases b with
 |a w=>rw[RL]at h;exact h
 |g o ws=>rw[RL]at h;obtain⟨e,a,us,rfl,_,_,h1,_⟩:=h;exact⟨_,_,rfl,SqL.of h1⟩
theorem opt_ret{K:PySem.W.Frag}{σ:St}{H:Hp}{Q:VK}{x:Str}{o:Option Int}(hσ:σ[1]?=some (some (optI o)))(k:∀v H',Same H H'->Rp K H' (opT x o) v->Q v H') :
  tOp (rIxL K) (tLst (tCons (tTup (tCons (tC (V.str x)) (tCons (tVar 1) tNil))) (tCons (tC V.non) tNil)))
   (tCB (fun xs H Q=>(∃i,xs=[V.int i]/\Q (V.int i) H)\/∃k,xs=[V.bl k]/\Q (V.int (if k=true then 1 else 0)) H) (tCons (tOp (fun x y H Q=>y=V.non/\Q (V.bl (decide (x=V.non))) H) (tVar 1) (tC V.non)) tNil)) σ H Q:=by
 cases o with
 |none =>
  unfold optI at hσ
  have k2:∀H',Same H H'->Q .non H':=fun H' s=>k .non H' s (by unfold opT Rp;rfl)
  fail "R"
  intro p2 hp2
  have s2:=same_new hp2 (.tup [.str x,.non])
  generalize upd H p2 _=H2 at s2⊢
  fail "R"
  intro p3 hp3
  have s3:=same_new hp3 (.lst [.ref p2,.non])
  have h3:upd H2 p3 (.lst [.ref p2,.non]) p3=some (.lst [.ref p2,.non]):=upd_same
  generalize upd H2 p3 _=H3 at s3 h3⊢
  fail "R"
  refine .inr ⟨_,rfl,?_⟩
  have q1:atI [V.ref p2,V.non] 1=some .non:=rfl
  fail "R"
  exact k2 _ (s2.trans s3)
 |some m =>
  unfold optI at hσ
  fail "R"
  intro p2 hp2
  have s2:=same_new hp2 (.tup [.str x,.int m])
  have h2:upd H p2 (.tup [.str x,.int m]) p2=some (.tup [.str x,.int m]):=upd_same
  generalize upd H p2 _=H2 at s2 h2⊢
  fail "R"
  intro p3 hp3
  have s3:=same_new hp3 (.lst [.ref p2,.non])
  have h3:upd H2 p3 (.lst [.ref p2,.non]) p3=some (.lst [.ref p2,.non]):=upd_same
  have h23:=s3 _ _ h2
  generalize upd H2 p3 _=H3 at s3 h3 h23⊢
  fail "R"
  refine .inr ⟨_,rfl,?_⟩
  have q0:atI [V.ref p2,V.non] 0=some (.ref p2):=rfl
  fail "R"
  refine k _ _ (s2.trans s3) ?_
  exact Rp.t (SqT.of h23) (.cons .s (.one .i))
structure LtI(K:PySem.W.Frag) (H:Hp) (ws:List Bw) (i:Nat) (us:List V) (Hc:Hp):Prop where
 s:Same H Hc
 r:Rps K Hc ((ws.take i).map fun b=>thO (lth b)) us
section
variable {P:Program}{w:World}{K:PySem.W.Frag}{mg:Str->Option Value}{base:Heap}{gF gN gT:Addr}{ffd nfd tfd:FuncData}
theorem nm_L_thing_of:Nm ["_law_tree_here","_law_number_here","_law_sign","_law_inner","_law_begin","_law_things"] (defScope s_L_thing_of):=by decide +kernel
theorem lm_L_thing_of:Lm ["_law_tree_here","_law_number_here","_law_sign","_law_inner","_law_begin","_law_things"] (defScope s_L_thing_of):=by decide +kernel
theorem sc_L_thing_of:FnScope ["_law_tree_here","_law_number_here","_law_sign","_law_inner","_law_begin","_law_things"] ["_law_tree_here"] (defScope s_L_thing_of):=⟨rfl,rfl,rfl,by decide +kernel,rfl,by decide +kernel,by decide +kernel⟩
theorem ok_lto{f:Addr}{fd:FuncData}{n j:Nat}(hj:2<=j)(F:Fun K "_law_thing_of" "_law_thing_of" s_L_thing_of f fd)(LFG:Has P w K mg base "_law_figures" 1 ["_law_word_here"] (spLFg K) gF ffd)(LIN:Has P w K mg base "_law_is_name" 2 ["_law_word_here"] (spLIn K) gN nfd)(LTO:Has P w K mg base "_law_thing_of" j ["_law_tree_here"] (spLTo K n) gT tfd)(z_isinstance:mg "isinstance"=none)(z_str:mg "str"=none)(z_int:mg "int"=none)(z_len:mg "len"=none)(z_tuple:mg "tuple"=none):FnOk P w K mg base CX0 (j+1) f fd ["_law_tree_here"] (spLTo K (n+1)):=by
 refine F.ok sc_L_thing_of (fun vs H Q E h=>?_) (fun cdv A outer s H vs Q E hr h=>?_)
 ·obtain⟨_,_,rfl,_⟩:=h
  rfl
 obtain⟨v,b,rfl,r,hd,hz,k⟩:=h
 refine⟨_,(@pss_cons _ _ _ _ _ (@ps_if _ _ _ _ _ _ _ _ (@pt_val _ _ _ (@pe_callB _ _ _ _ _ _ _ _ _ (call_isSl K rfl) (by show _=_;kernel_rfl) z_isinstance PyProof.Rows.boot_isinstance (@pa_c _ _ _ _ _ (va nm_L_thing_of 0) (pa_c (pe_bltn (v:=.ty "str") (by show _=_;kernel_rfl) z_str (by decide +kernel) rfl) pa_nil) (by rfl)) (by decide) (by decide) (by rfl) (by rfl)) (by intro _;rfl)) (@pss_cons _ _ _ _ _ (@sa _ _ _ _ _ _ sc_L_thing_of.nd lm_L_thing_of 1 (@pe_call _ _ _ _ _ _ _ _ _ _ _ _ _ _ _ _ LFG.ok (hr.mono (by omega)) (by show _=_;kernel_rfl) LFG.at' LFG.kp LFG.bd .nil pass0 (pa_c (va nm_L_thing_of 0) pa_nil) (by decide) (by rfl) (by rfl)) (by rfl) (by kernel_rfl) (by exact .inl rfl)) (@pss_one _ _ _ (@ps_ret _ _ _ _ (@pe_ix _ _ _ _ _ _ _ ix_list (@pe_lst _ _ _ _ (@pa_c _ _ _ _ _ (@pe_tup _ _ _ _ _ (@pa_c _ _ _ _ _ pe_str (pa_c (va nm_L_thing_of 1) pa_nil) (by rfl))) (pa_c pe_non pa_nil) (by rfl))) (@pe_callTy _ _ _ _ _ _ _ _ _ call_int1 (by show _=_;kernel_rfl) z_int PyProof.Rows.boot_int (@pa_c _ _ _ _ _ (pe_cmpR op_isN (va nm_L_thing_of 1) pe_non (nomark _)) pa_nil (by rfl)) (by decide) (by decide) (by rfl) (by rfl)) (fun _ _=>rfl))))) pss_nil) (@pss_cons _ _ _ _ _ (@ps_asg _ _ _ _ _ _ (va nm_L_thing_of 0) (@pg_lstK _ _ _ _ _ (2) K rfl rfl (@pgs_cons _ _ _ _ _ (ga sc_L_thing_of.nd lm_L_thing_of 2) (pgs_cons (ga sc_L_thing_of.nd lm_L_thing_of 3) pgs_nil) (by rfl)) (by rfl) (by rfl)) (by rfl) (by rfl) (by rfl)) (@pss_cons _ _ _ _ _ (@ps_if _ _ _ _ _ _ _ _ (pt_cmpR op_eq (va nm_L_thing_of 2) pe_str (nomark _)) (@pss_cons _ _ _ _ _ (sa sc_L_thing_of.nd lm_L_thing_of 1 pe_non) (@pss_cons _ _ _ _ _ (@ps_if _ _ _ _ _ _ _ _ (@pt_cmpR _ _ _ _ _ _ _ _ op_eq (@pe_callB _ _ _ _ _ _ _ _ _ call_len_seq (by show _=_;kernel_rfl) z_len PySem.boot_len (pa_c (va nm_L_thing_of 3) pa_nil) (by decide) (by decide) (by rfl) (by rfl)) pe_int (nomark _)) (@pss_one _ _ _ (@sa _ _ _ _ _ _ sc_L_thing_of.nd lm_L_thing_of 1 (@pe_call _ _ _ _ _ _ _ _ _ _ _ _ _ _ _ _ LFG.ok (hr.mono (by omega)) (by show _=_;kernel_rfl) LFG.at' LFG.kp LFG.bd .nil pass0 (@pa_c _ _ _ _ _ (pe_ix ix_list (va nm_L_thing_of 3) pe_int (fun _ _=>rfl)) pa_nil (by rfl)) (by decide) (by rfl) (by rfl)) (by rfl) (by kernel_rfl) (by exact .inl rfl))) pss_nil) (@pss_one _ _ _ (@ps_ret _ _ _ _ (@pe_ix _ _ _ _ _ _ _ ix_list (@pe_lst _ _ _ _ (@pa_c _ _ _ _ _ (@pe_tup _ _ _ _ _ (@pa_c _ _ _ _ _ pe_str (pa_c (va nm_L_thing_of 1) pa_nil) (by rfl))) (pa_c pe_non pa_nil) (by rfl))) (@pe_callTy _ _ _ _ _ _ _ _ _ call_int1 (by show _=_;kernel_rfl) z_int PyProof.Rows.boot_int (@pa_c _ _ _ _ _ (pe_cmpR op_isN (va nm_L_thing_of 1) pe_non (nomark _)) pa_nil (by rfl)) (by decide) (by decide) (by rfl) (by rfl)) (fun _ _=>rfl)))))) pss_nil) (@pss_cons _ _ _ _ _ (@sa _ _ _ _ _ _ sc_L_thing_of.nd lm_L_thing_of 4 (@pe_callTy _ _ _ _ _ _ _ _ _ call_int1 (by show _=_;kernel_rfl) z_int PyProof.Rows.boot_int (@pa_c _ _ _ _ _ (pe_cmpR op_eq (va nm_L_thing_of 2) pe_str (nomark _)) pa_nil (by rfl)) (by decide) (by decide) (by rfl) (by rfl)) (by rfl) (by kernel_rfl) (by exact .inl rfl)) (@pss_cons _ _ _ _ _ (@ps_if _ _ _ _ _ _ _ _ (PW.pt (@pw_and _ _ _ _ _ _ _ (pt_cmpR op_eq (va nm_L_thing_of 4) pe_int (nomark _)) (@pw_and1 _ _ _ _ (PW.pt (@pw_or _ _ _ _ _ _ _ (pt_cmpR (op_eqE hr.u150) (va nm_L_thing_of 3) (pe_lst pa_nil) (nomark _)) (@pw_or1 _ _ _ _ (@pt_not _ _ _ _ (@pt_val _ _ _ (@pe_call _ _ _ _ _ _ _ _ _ _ _ _ _ _ _ _ LIN.ok (hr.mono (by omega)) (by show _=_;kernel_rfl) LIN.at' LIN.kp LIN.bd .nil pass0 (@pa_c _ _ _ _ _ (pe_ix ix_list (va nm_L_thing_of 3) pe_int (fun _ _=>rfl)) pa_nil (by rfl)) (by decide) (by rfl) (by rfl)) (by intro _;rfl))))))))) (pss_one (ps_ret pe_non)) pss_nil) (@pss_cons _ _ _ _ _ (@sa _ _ _ _ _ _ sc_L_thing_of.nd lm_L_thing_of 5 (@pe_callTy _ _ _ _ _ _ _ _ _ call_tuple_of (by show _=_;kernel_rfl) z_tuple PyProof.Rows.boot_tuple (@pa_c _ _ _ _ _ (@pe_compC _ _ _ _ _ _ _ _ _ _ _ (defScope s_L_thing_of) ["_law_tree_here","_law_number_here","_law_sign","_law_inner","_law_begin","_law_things"] ["_law_one"] [] rfl rfl rfl (by decide +kernel) (@pi_list _ _ _ _ (@pe_slice _ _ _ _ _ _ _ _ _ _ sl_list (va nm_L_thing_of 3) (po_some (va nm_L_thing_of 4)) po_none)) (fun _ _ _ _=>(pg_name (i:=0) (show(["_law_one"]:List Str).Nodup by decide +kernel) rfl (Or.inl (by kernel_rfl)) (by first|exact .inl rfl|exact .inr (by kernel_rfl)))) (fun _ _ _ _=>pifs_nil) (fun _ _ _ _=>(@pe_call _ _ _ _ _ _ _ _ _ _ _ _ _ _ _ _ LTO.ok (hr.mono (by omega)) (by show _=_;kernel_rfl) LTO.at' LTO.kp LTO.bd .nil pass0 (pa_c (va (show Nm ["_law_one"] _ by show _=_;kernel_rfl) 0) pa_nil) (by decide) (by rfl) (by rfl))) (by intro _;rfl)) pa_nil (by rfl)) (by decide) (by decide) (by rfl) (by rfl)) (by rfl) (by kernel_rfl) (by exact .inl rfl)) (@pss_cons _ _ _ _ _ (@ps_if _ _ _ _ _ _ _ _ (pt_cmpR (op_inN hr.u150) pe_non (va nm_L_thing_of 5) (by with_unfolding_all rfl)) (pss_one (ps_ret pe_non)) pss_nil) (@pss_one _ _ _ (@ps_ret _ _ _ _ (@pe_ix _ _ _ _ _ _ _ ix_list (@pe_lst _ _ _ _ (@pa_c _ _ _ _ _ (@pe_tup _ _ _ _ _ (@pa_c _ _ _ _ _ pe_str (pa_c (va nm_L_thing_of 5) pa_nil) (by rfl))) (@pa_c _ _ _ _ _ (@pe_op _ _ _ _ _ _ _ _ op_catTA (@pe_op _ _ _ _ _ _ _ _ op_catTA (pe_tup (pa_c pe_str pa_nil)) (@pe_callTy _ _ _ _ _ _ _ _ _ call_tuple_of (by show _=_;kernel_rfl) z_tuple PyProof.Rows.boot_tuple (@pa_c _ _ _ _ _ (pe_slice sl_list (va nm_L_thing_of 3) po_none (po_some pe_int)) pa_nil (by rfl)) (by decide) (by decide) (by rfl) (by rfl))) (@pe_tup _ _ _ _ _ (pa_c (va nm_L_thing_of 5) pa_nil))) pa_nil (by rfl)) (by rfl))) (va nm_L_thing_of 4) (fun _ _=>rfl))))))))))),?_⟩
 try dsimp only[cx_K]
 try dsimp only[cx_K]
 cases b with
 |a w =>
  rw[RL]at r
  obtain⟨rfl,hw⟩:=r
  rw[lth]at k
  have wv:WdV K H (.str (ofL w)) (some w):=⟨rfl,hw⟩
  fail "R"
  refine .inr ⟨_,rfl,?_⟩
  fail "R"
  intro H1 s1
  refine opt_ret (o:=lfig w) rfl fun v' H' s' r'=>k v' H' (s1.trans s') ?_
  cases ho:lfig w with
  |none=>rw[ho]at r';exact r'
  |some m=>rw[ho]at r';show Rp K H' (thT (.num m)) _;rw[thT];exact r'
 |g o ws =>
  rw[RL]at r
  obtain⟨e,a,us,rfl,_,_,h1,h2,rs⟩:=r
  rw[bz]at hz
  rw[bd]at hd
  have lus:=rls_len rs
  have lws:=bzs_len ws
  refine seq_cut7 ?_
  intro N1 N2 N3 N4 N5 N6 N7 c1 c2 c3 c4 c5 c6 c7
  have key5:∀(bi:Nat) (H1:Hp),Same H H1->bi<=1->(lths (ws.drop bi)=none->∀H',Same H H'->Q .non H') ->
    (∀ts,lths (ws.drop bi)=some ts->∀v' H',Same H H'->(bi=0->Rp K H' (.t [.s "row",.t (ts.map thT)]) v')->(bi=1->∀w,us.head?=some (.str (ofL w))->Rp K H' (.t [.s "tag",.s (ofL w),.t (ts.map thT)]) v')->Q v' H') ->
    N5 [some (.ref e),none,some (.str ⟨#[o]⟩),some (.ref a),some (.int (bi:Nat)),none] H1:=by
   intro bi H1 s1 hb hN hS
   clear c1 c2 c3 c4
   refine c5 _ _ ?_
   have h21:=s1 _ _ h2
   fail "R"
   intro p2 hp2
   rw[cut_fromL]
   have s2:=same_new hp2 (.lst (us.drop bi))
   have h22:upd H1 p2 (.lst (us.drop bi)) p2=some (.lst (us.drop bi)):=upd_same
   generalize upd H1 p2 _=H2 at s2 h22⊢
   have s02:=s1.trans s2
   have sq2:SqL K H2 p2 (us.drop bi):=SqL.of h22
   refine⟨p2,rfl,⟨_,sq2⟩,?_⟩
   have ld:(us.drop bi).length<=800:=by rw[List.length_drop];omega
   refine comp_list (K:=K) (a:=p2) (xs:=us.drop bi) (fun i σ vs Hc=>(∃y,σ=[y])/\LtI K H2 (ws.drop bi) i vs Hc) ⟨⟨none,rfl⟩,Same.refl _,.nil⟩ (fun i σ vs Hc hi ⟨_,i2⟩=>?_) (small (by omega)) (fun i σ vs Hc _ ⟨_,i2⟩=>SqL.of (i2.s _ _ h22)) ?_ ?_
   ·have:=i2.r.length
    rw[List.length_map,List.length_take]at this
    omega
   ·rintro i xv σ vs Hc hx ⟨⟨y,rfl⟩,i2⟩
    rw[List.getElem?_drop]at hx
    obtain⟨b,hb1,rb⟩:=rls_get rs hx
    have hbm:=List.mem_of_getElem? hb1
    have rbc:=rl_keep (Kpl.same (s02.trans i2.s)) b xv rb
    have o1:bd b<n:=by have:=bd_in b hbm;omega
    have o2:bz b<=800:=by have:=bz_in b hbm;omega
    clear c5 c6 c7
    fail "R"
    intro v' H' s' r'
    refine⟨⟨_,rfl⟩,i2.s.trans s',?_⟩
    rw[List.take_add_one,List.getElem?_drop,hb1,List.map_append]
    exact(i2.r.same s').snoc r'
   ·rintro σ vs Hc ⟨_,i2⟩ p4 hp4
    have hlen:(us.drop bi).length=(ws.drop bi).length:=by rw[List.length_drop,List.length_drop,lus]
    have rr:=i2.r
    rw[hlen,List.take_length]at rr
    have s3:=s02.trans i2.s
    have s4:=same_new hp4 (.lst vs)
    have h4:upd Hc p4 (.lst vs) p4=some (.lst vs):=upd_same
    generalize upd Hc p4 (.lst vs)=H4 at s4 h4⊢
    have lvs:=rr.length
    rw[List.length_map]at lvs
    fail "R"
    refine .inl ⟨SqL.of h4,fun p5 hp5=>?_⟩
    have s5:=same_new hp5 (.tup vs)
    have h5:upd H4 p5 (.tup vs) p5=some (.tup vs):=upd_same
    generalize upd H4 p5 (.tup vs)=H5 at s5 h5⊢
    have s05:=s3.trans (s4.trans s5)
    have rr5:=rr.same (s4.trans s5)
    have sq5:SqT K H5 p5 vs:=SqT.of h5
    have en:=each_non rr5
    have an:=any_non rr5
    fail "R"
    rw[an]
    by_cases hany:∃b∈ws.drop bi,lth b=none
    ·have e1:((ws.drop bi).any fun b=>(lth b).isNone)=true:=List.any_eq_true.mpr (by obtain⟨b,hb1,hb2⟩:=hany;exact⟨b,hb1,by rw[hb2];rfl⟩)
     rw[e1]
     fail "R"
     exact hN (lths_none hany) _ s05
    ·have e1:((ws.drop bi).any fun b=>(lth b).isNone)=false:=by
      rw[List.any_eq_false]
      intro b hb1 hb2
      exact hany ⟨b,hb1,Option.isNone_iff_eq_none.mp hb2⟩
     rw[e1]
     obtain⟨ts,et,em⟩:=lths_some fun b hb1 hb2=>hany ⟨b,hb1,hb2⟩
     have h25:=s05 _ _ h2
     fail "R"
     intro p6 hp6
     have s6:=same_new hp6 (.tup [.str "row",.ref p5])
     have h6:upd H5 p6 (.tup [.str "row",.ref p5]) p6=some (.tup [.str "row",.ref p5]):=upd_same
     generalize upd H5 p6 _=H6 at s6 h6⊢
     have h26:=s6 _ _ h25
     fail "R"
     intro p7 hp7
     have s7:=same_new hp7 (.tup [.str "tag"])
     have h7:upd H6 p7 (.tup [.str "tag"]) p7=some (.tup [.str "tag"]):=upd_same
     generalize upd H6 p7 _=H7 at s7 h7⊢
     have h27:=s7 _ _ h26
     fail "R"
     intro p8 hp8
     rw[show(1:Int)=((1:Nat):Int)from rfl,cut_takeL]
     have s8:=same_new hp8 (.lst (us.take 1))
     have h8:upd H7 p8 (.lst (us.take 1)) p8=some (.lst (us.take 1)):=upd_same
     generalize upd H7 p8 _=H8 at s8 h8⊢
     fail "R"
     refine .inl ⟨SqL.of h8,fun p9 hp9=>?_⟩
     have s9:=same_new hp9 (.tup (us.take 1))
     have h9:upd H8 p9 (.tup (us.take 1)) p9=some (.tup (us.take 1)):=upd_same
     generalize upd H8 p9 _=H9 at s9 h9⊢
     have h79:=s9 _ _ (s8 _ _ h7)
     have hz1:[V.str "tag"].length+(us.take 1).length<=sizeLine:=small (by rw[List.length_take];show 1+_<=_;omega)
     fail "R"
     intro pA HA sA qA
     fail "R"
     intro pB hpB
     have sB:=same_new hpB (.tup [.ref p5])
     have hB:upd HA pB (.tup [.ref p5]) pB=some (.tup [.ref p5]):=upd_same
     generalize upd HA pB _=HB at sB hB⊢
     have qAB:=qA.same sB
     have hz2:([V.str "tag"]++us.take 1).length+[V.ref p5].length<=sizeLine:=small (by rw[List.length_append,List.length_take];show 1+_+1<=_;omega)
     fail "R"
     intro pC HC sC qC
     fail "R"
     intro pD hpD
     have sD:=same_new hpD (.lst [.ref p6,.ref pC])
     have hD:upd HC pD (.lst [.ref p6,.ref pC]) pD=some (.lst [.ref p6,.ref pC]):=upd_same
     have h6C:=sC _ _ (sB _ _ (sA _ _ (s9 _ _ (s8 _ _ (s7 _ _ h6)))))
     have sEnd:=s6.trans (s7.trans (s8.trans (s9.trans (sA.trans (sB.trans sC)))))
     have h5D:=sD _ _ (sEnd _ _ h5)
     have h6D:=sD _ _ h6C
     have rrD:=rr5.same (sEnd.trans sD)
     have qCD:=qC.same sD
     have s0D:=s05.trans (sEnd.trans sD)
     generalize upd HC pD _=HD at sD hD h5D h6D rrD qCD s0D⊢
     rw[em]at rrD
     have b01:bi=0\/bi=1:=by omega
     rcases b01 with rfl|rfl
     ·have q0:atI [V.ref p6,V.ref pC] ((0:Nat):Int)=some (.ref p6):=rfl
      fail "R"
      exact hS ts et _ _ s0D (fun _=>Rp.t (SqT.of h6D) (.cons .s (.one (Rp.t (SqT.of h5D) rrD)))) (fun z=>absurd z (by decide))
     ·have q1:atI [V.ref p6,V.ref pC] ((1:Nat):Int)=some (.ref pC):=rfl
      fail "R"
      refine hS ts et _ _ s0D (fun z=>absurd z (by decide)) (fun _ w hw=>?_)
      cases us with
      |nil=>cases hw
      |cons u r =>
       cases Option.some.inj hw
       exact Rp.t qCD (.cons .s (.cons .s (.one (Rp.t (SqT.of h5D) rrD))))
  fail "R"
  refine .inl ⟨_,_,rfl,SqL.of h1,?_⟩
  fail "R"
  rw[sg_eq (c:=60) (by decide +kernel)]
  refine ite2 (fun c=>?_) (fun c=>?_)
  ·-- a left
   have eo:o=60:=of_decide_eq_true c
   subst eo
   rw[lth,if_pos rfl]at k
   clear key5 c1 c2 c3 c4 c5 c6 c7
   have kk:∀(o:Option Int) (H1:Hp),Same H H1->lleft ws=o.map .left->∀(v':V) (H':Hp),Same H1 H'->Rp K H' (opT "left" o) v'->Q v' H':=fun o H1 s1 el v' H' s' r'=>by
    refine k v' H' (s1.trans s') ?_
    rw[el]
    cases o with
    |none=>exact r'
    |some m=>show Rp K H' (thT (.left m)) _;rw[thT];exact r'
   refine seq_cut2 ?_
   intro M1 M2 d1 d2
   have key:∀(o:Option Int) (H1:Hp),Same H H1->lleft ws=o.map .left->M2 [some (.ref e),some (optI o),some (.str ⟨#[60]⟩),some (.ref a),none,none] H1:=fun o H1 s1 el=>d2 _ _ (opt_ret rfl (kk o H1 s1 el))
   clear d2
   by_cases hl:ws.length=1
   ·obtain⟨b,rfl⟩:=List.length_eq_one_iff.mp hl
    rw[RLs]at rs
    obtain⟨v1,q,rfl,rb,rq⟩:=rs
    rw[RLs]at rq
    subst rq
    have wv:=wdv_of (K:=K) rb
    have q0:atI [v1] 0=some v1:=rfl
    fail "R"
    intro H1 s1
    exact key (lfg b) H1 s1 rfl
   ·have el:lleft ws=none:=by
     unfold lleft
     split
     ·exact absurd rfl hl
     ·rfl
    have ne:decide (V.int (us.length:Int)=V.int 1)=false:=decide_eq_false fun z=>hl (by injection z with z;omega)
    fail "R"
    rw[ne]
    fail "R"
    exact key none H (Same.refl _) el
  ·have eo:o≠60:=fun z=>c (decide_eq_true z)
   rw[lth,if_neg eo]at k
   clear c5 c6 c7 c1 c2
   fail "R"
   rw[sg_eq (c:=40) (by decide +kernel)]
   refine .inr ⟨_,rfl,?_⟩
   by_cases h40:o=40
   ·rw[if_pos h40]at k
    rw[decide_eq_true h40,if_pos rfl]
    have h1i:decide (V.int 1=V.int 1)=true:=decide_eq_true rfl
    fail "R"
    intro p3 hp3
    have s3:=same_new hp3 (.lst [])
    have h3:upd H p3 (.lst []) p3=some (.lst []):=upd_same
    generalize upd H p3 _=H3 at s3 h3⊢
    have h23:=s3 _ _ h2
    fail "R"
    cases ws with
    |nil =>
     rw[RLs]at rs
     subst rs
     rw[decide_eq_true rfl]
     fail "R"
     exact k _ _ s3 (by rw[ltl];unfold ltag lhd thO Rp;rfl)
    |cons b r =>
     have rs':=rs
     rw[RLs]at rs'
     obtain⟨v1,q,rfl,rb,rq⟩:=rs'
     rw[decide_eq_false (show ¬v1::q=[]from fun z=>nomatch z)]
     have wv:=wdv_of (K:=K) (rl_keep (Kpl.same s3) b v1 rb)
     have q0:atI (v1::q) 0=some v1:=atI_nat (xs:=v1::q) (j:=0) rfl
     rw[ltl]at k
     fail "R"
     intro H4 s4
     cases hn:nmO (lwd b)with
     |false =>
      fail "R"
      refine k _ _ (s3.trans s4) ?_
      have e:ltag (lhd (b::r)) (lths r)=none:=by
       show ltag (lwd b) (lths r)=none
       cases hw:lwd b with
       |none=>rfl
       |some w =>
        rw[hw]at hn
        cases lths r with
        |none=>rfl
        |some ts=>exact if_neg (by rw[show nmB w=false from hn];decide)
      rw[e]
      unfold thO Rp
      rfl
     |true =>
      cases b with
      |g o2 ws2=>cases hn
      |a w =>
       rw[RL]at rb
       obtain⟨rfl,_⟩:=rb
       have hn:nmB w=true:=hn
       fail "R"
       refine key5 1 H4 (s3.trans s4) (Nat.le_refl _) (fun e H' s'=>?_) (fun ts e v' H' s' _ r'=>?_)
       ·have e:lths r=none:=e
        rw[e]at k
        exact k _ _ s' (by unfold lhd lwd ltag thO Rp;rfl)
       ·have e:lths r=some ts:=e
        rw[e]at k
        have el:ltag (lhd (Bw.a w::r)) (some ts)=some (.tag (ofL w) ts):=if_pos hn
        refine k _ _ s' ?_
        rw[el]
        show Rp K H' (thT (.tag (ofL w) ts)) v'
        rw[thT,thTs_map]
        exact r' rfl w rfl
   ·rw[if_neg h40]at k
    rw[decide_eq_false h40,if_neg Bool.false_ne_true]
    have h0i:decide (V.int 0=V.int 1)=false:=by decide
    clear c3
    fail "R"
    rw[h0i]
    fail "R"
    refine key5 0 H (Same.refl _) (by decide) (fun e H' s'=>?_) (fun ts e v' H' s' r' _=>?_)
    ·have e:lths ws=none:=e
     rw[e]at k
     exact k _ _ s' (by show Rp K H' .n .non;unfold Rp;rfl)
    ·have e:lths ws=some ts:=e
     rw[e]at k
     refine k _ _ s' ?_
     show Rp K H' (thT (.row ts)) v'
     rw[thT,thTs_map]
     exact r' rfl
end
theorem join_emp:∀ts:List Str,Txt.join "" ts=ofL (ts.flatMap (·.cps.toList)):=by
 intro ts
 show Builtin.Str.glued (Str.ofString "") _=_
 rw[StrLaws.glued_eq_join]
 have:∀ts:List Str,Str.join (Str.ofString "") ts=ofL (ts.flatMap (·.cps.toList)):=by
  intro ts
  induction ts with
  |nil=>rfl
  |cons p r ih =>
   cases r with
   |nil=>show p=ofL (p.cps.toList++[]);rw[List.append_nil,ofL_toList]
   |cons q r =>
    show p++(Str.ofString "")++Str.join (Str.ofString "") (q::r)=_
    rw[ih,List.flatMap_cons (xs:=q::r),←app_ofL,ofL_toList]
    congr 1
 exact this ts
theorem join_bl:∀bs:List Bw,Txt.join " " (bs.map fun b=>ofL b.txt)=ofL (Bw.txts bs):=by
 intro bs
 show Builtin.Str.glued (Str.ofString " ") _=_
 rw[StrLaws.glued_eq_join]
 have key:∀(b:Bw) (bs:List Bw),Str.join (Str.ofString " ") ((b::bs).map fun b=>ofL b.txt)=ofL (b.txt++Bw.txtr bs):=by
  intro b bs
  induction bs generalizing b with
  |nil =>
   show ofL b.txt=_
   unfold Bw.txtr
   rw[List.append_nil]
  |cons c r ih =>
   show ofL b.txt++(Str.ofString " ")++Str.join (Str.ofString " ") ((c::r).map fun b=>ofL b.txt)=_
   rw[ih c]
   show ofL b.txt++ofL [32]++ofL _=_
   rw[app_ofL,app_ofL]
   conv=>rhs;unfold Bw.txtr
   simp
 cases bs with
 |nil=>unfold Bw.txts;rfl
 |cons b r=>rw[key];unfold Bw.txts;rfl
theorem sum_txt:∀ts:List Str,(ts.map (·.length)).sum=(ts.flatMap (·.cps.toList)).length
 | []=>rfl
 |x::r=>by
  rw[List.map_cons,List.sum_cons,sum_txt r,List.flatMap_cons,List.length_append]
  have:x.cps.toList.length=x.length:=by show _=x.cps.size;simp
  omega
theorem small6{n:Nat}(h:n<=100000):n<=sizeLine:=by rw[sizeLine_eq];omega
theorem popR{us:List V}{u:V}:(us.reverse++[u])[(us.reverse++[u]).length-1]?=some u:=by simp
end G12
namespace L2
open PySem PySem.Spec PyProof.Rows
section
variable {X:Cx}{e e2:Expr}{te te2:TE}{z z' z2:Str}{k k' k2:Nat}{p1 p2 p3 p4 p5 p6:Pos}
end
end L2
namespace G12
open PySem L2
def txT(t:Th):Str:=ofL (thB t).txt
def spLTt(K:PySem.W.Frag)(n:Nat):Sp:=fun vs H Q _=>∃(v:V) (t:Th),vs=[v]/\Rp K H (thT t) v/\ThOk t/\tdp t<n/\tsz t<=800/\∀H',Same H H'->Q (.str (txT t)) H'
theorem thB_map(l:List Th):(thBs l).map (fun b=>ofL b.txt)=l.map txT:=by
 induction l with
 |nil=>rw[thBs];rfl
 |cons x r ih=>rw[thBs,List.map_cons,ih];rfl
theorem tszs_in:∀{l:List Th},∀x∈l,tsz x<=tszs l
 |b::r,x,hx=>by
  rw[tszs]
  rcases List.mem_cons.mp hx with rfl|hx
  ·omega
  ·have:=tszs_in x hx;omega
theorem tdps_in:∀{l:List Th},∀x∈l,tdp x<=tdps l
 |b::r,x,hx=>by
  rw[tdps]
  rcases List.mem_cons.mp hx with rfl|hx
  ·omega
  ·have:=tdps_in x hx;omega
theorem tszs_len:∀l:List Th,l.length<=tszs l
 | []=>Nat.zero_le _
 |b::r=>by rw[tszs,List.length_cons];have:=tszs_len r;have:=tsz_pos b;omega
theorem thok_in:∀{l:List Th},ThOks l->∀t∈l,ThOk t
 |y::r,h,t,ht=>by
  rw[ThOks]at h
  rcases List.mem_cons.mp ht with rfl|ht
  ·exact h.1
  ·exact thok_in h.2 t ht
theorem sum_tx:∀l:List Th,ThOks l->((l.map txT).map (·.length)).sum+l.length<=10*tszs l
 | [],_=>Nat.zero_le _
 |x::r,h=>by
  rw[ThOks]at h
  rw[tszs,List.map_cons,List.map_cons,List.sum_cons,List.length_cons]
  have:=sum_tx r h.2
  have:=txt_len x h.1
  have:(txT x).length=(thB x).txt.length:=by unfold txT;rw[ofL_len]
  omega
section
variable {P:Program}{w:World}{K:PySem.W.Frag}{mg:Str->Option Value}{base:Heap}{gT:Addr}{tfd:FuncData}
theorem nm_L_thing_text:Nm ["_law_thing_here","_law_texts"] (defScope s_L_thing_text):=by decide +kernel
theorem lm_L_thing_text:Lm ["_law_thing_here","_law_texts"] (defScope s_L_thing_text):=by decide +kernel
theorem sc_L_thing_text:FnScope ["_law_thing_here","_law_texts"] ["_law_thing_here"] (defScope s_L_thing_text):=⟨rfl,rfl,rfl,by decide +kernel,rfl,by decide +kernel,by decide +kernel⟩
theorem ok_lttx{f:Addr}{fd:FuncData}{n j:Nat}(hj:1<=j)(F:Fun K "_law_thing_text" "_law_thing_text" s_L_thing_text f fd)(LTT:Has P w K mg base "_law_thing_text" j ["_law_thing_here"] (spLTt K n) gT tfd)(z_str:mg "str"=none):FnOk P w K mg base CX0 (j+1) f fd ["_law_thing_here"] (spLTt K (n+1)):=by
 refine F.ok sc_L_thing_text (fun vs H Q E h=>?_) (fun cdv A outer s H vs Q E hr h=>?_)
 ·obtain⟨_,_,rfl,_⟩:=h
  rfl
 obtain⟨v,t,rfl,r,ht,hd,hz,k⟩:=h
 refine⟨_,(@pss_cons _ _ _ _ _ (@ps_if _ _ _ _ _ _ _ _ (@pt_cmpR _ _ _ _ _ _ _ _ op_eq (pe_ix ix_tup (va nm_L_thing_text 0) pe_int (fun _ _=>rfl)) pe_str (nomark _)) (@pss_one _ _ _ (@ps_ret _ _ _ _ (@pe_callTy _ _ _ _ _ _ _ _ _ call_strV (by show _=_;kernel_rfl) z_str PyProof.Rows.boot_str (@pa_c _ _ _ _ _ (pe_ix ix_tup (va nm_L_thing_text 0) pe_int (fun _ _=>rfl)) pa_nil (by rfl)) (by decide) (by decide) (by rfl) (by rfl)))) pss_nil) (@pss_cons _ _ _ _ _ (@ps_if _ _ _ _ _ _ _ _ (@pt_cmpR _ _ _ _ _ _ _ _ op_eq (pe_ix ix_tup (va nm_L_thing_text 0) pe_int (fun _ _=>rfl)) pe_str (nomark _)) (@pss_one _ _ _ (@ps_ret _ _ _ _ (@pe_op _ _ _ _ _ _ _ _ op_add_str (@pe_op _ _ _ _ _ _ _ _ op_add_str pe_str (@pe_callTy _ _ _ _ _ _ _ _ _ call_strV (by show _=_;kernel_rfl) z_str PyProof.Rows.boot_str (@pa_c _ _ _ _ _ (pe_ix ix_tup (va nm_L_thing_text 0) pe_int (fun _ _=>rfl)) pa_nil (by rfl)) (by decide) (by decide) (by rfl) (by rfl))) pe_str))) pss_nil) (@pss_cons _ _ _ _ _ (@ps_compC _ _ _ _ _ _ _ _ _ _ _ _ _ _ _ (defScope s_L_thing_text) ["_law_thing_here","_law_texts"] ["_law_one"] [] rfl rfl rfl (by decide +kernel) (@pi_tup _ _ _ _ (pe_ix ix_tup (va nm_L_thing_text 0) (pe_un un_neg pe_int) (fun _ _=>rfl))) (fun _ _ _ _=>(pg_name (i:=0) (show(["_law_one"]:List Str).Nodup by decide +kernel) rfl (Or.inl (by kernel_rfl)) (by first|exact .inl rfl|exact .inr (by kernel_rfl)))) (fun _ _ _ _=>pifs_nil) (fun _ _ _ _=>(@pe_call _ _ _ _ _ _ _ _ _ _ _ _ _ _ _ _ LTT.ok (hr.mono (by omega)) (by show _=_;kernel_rfl) LTT.at' LTT.kp LTT.bd .nil pass0 (pa_c (va (show Nm ["_law_one"] _ by show _=_;kernel_rfl) 0) pa_nil) (by decide) (by rfl) (by rfl))) (ga sc_L_thing_text.nd lm_L_thing_text 1) (by kernel_rfl) (by intro _;rfl)) (@pss_cons _ _ _ _ _ (@ps_if _ _ _ _ _ _ _ _ (@pt_cmpR _ _ _ _ _ _ _ _ op_eq (pe_ix ix_tup (va nm_L_thing_text 0) pe_int (fun _ _=>rfl)) pe_str (nomark _)) (@pss_one _ _ _ (@ps_ret _ _ _ _ (@pe_op _ _ _ _ _ _ _ _ op_add_str (@pe_op _ _ _ _ _ _ _ _ op_add_str pe_str (@pe_bm _ _ _ _ _ _ _ _ _ _ _ _ PySem.F.plainAttrs_str PySem.F.slot_str_join PySem.F.type_str_join mt_join pe_str (pa_c (va nm_L_thing_text 1) pa_nil) (by kernel_rfl) (by kernel_rfl) (by kernel_rfl) (by kernel_rfl) (by kernel_rfl))) pe_str))) pss_nil) (@pss_one _ _ _ (@ps_ret _ _ _ _ (@pe_op _ _ _ _ _ _ _ _ op_add_str (@pe_op _ _ _ _ _ _ _ _ op_add_str pe_str (@pe_bm _ _ _ _ _ _ _ _ _ _ _ _ PySem.F.plainAttrs_str PySem.F.slot_str_join PySem.F.type_str_join mt_join pe_str (@pa_c _ _ _ _ _ (@pe_op _ _ _ _ _ _ _ _ op_cat (@pe_lst _ _ _ _ (@pa_c _ _ _ _ _ (pe_ix ix_tup (va nm_L_thing_text 0) pe_int (fun _ _=>rfl)) pa_nil (by rfl))) (va nm_L_thing_text 1)) pa_nil (by rfl)) (by kernel_rfl) (by kernel_rfl) (by kernel_rfl) (by kernel_rfl) (by kernel_rfl))) pe_str))))))),?_⟩
 try dsimp only[cx_K]
 try dsimp only[cx_K]
 have lt:=txt_len t ht
 cases t with
 |num n =>
  rw[thT]at r
  obtain⟨a,v1,v2,rfl,sq,g1,g2⟩:=r.t2
  obtain rfl:=g1.inv_s
  obtain rfl:=g2.inv_i
  rw[ThOk]at ht
  fail "R"
  refine .inr ⟨n,rfl,by omega,?_⟩
  have e:txT (.num n)=Str.ofString (toString n):=by unfold txT;rw[thB,Bw.txt];exact ofL_toList _
  rw[←e]
  exact k _ (Same.refl _)
 |left n =>
  rw[thT]at r
  obtain⟨a,v1,v2,rfl,sq,g1,g2⟩:=r.t2
  obtain rfl:=g1.inv_s
  obtain rfl:=g2.inv_i
  rw[ThOk]at ht
  have hl6:(Str.ofString (toString n)).length<=6:=by
   rw[show Str.ofString (toString n)=ofL (digs n)from(ofL_toList _).symm,ofL_len]
   exact(digs_psg ht).2.1
  fail "R"
  refine .inr ⟨n,rfl,by omega,?_⟩
  have l1:("<":Str).length+(Str.ofString (toString n)).length<=sizeLine:=small (by show 1+_<=_;omega)
  have l2:(("<":Str)++Str.ofString (toString n)).length+(">":Str).length<=sizeLine:=small (by rw[strLen_append];show 1+_+1<=_;omega)
  fail "R"
  have e:txT (.left n)=("<":Str)++Str.ofString (toString n)++(">":Str):=by
   unfold txT
   rw[thB,Bw.txt,show Str.ofString (toString n)=ofL (digs n)from(ofL_toList _).symm]
   show _=ofL [60]++ofL _++ofL [62]
   rw[app_ofL,app_ofL]
   rfl
  show Q (.str (("<":Str)++Str.ofString (toString n)++(">":Str))) H
  rw[←e]
  exact k _ (Same.refl _)
 |row l =>
  rw[thT,thTs_map]at r
  obtain⟨a,v1,v2,rfl,sq,g1,g2⟩:=r.t2
  obtain rfl:=g1.inv_s
  obtain⟨b,us,rfl,sq2,rs⟩:=g2.inv_t
  rw[ThOk]at ht
  rw[tsz]at hz
  rw[tdp]at hd
  have ll:=tszs_len l
  have st:=sum_tx l ht
  have hj:((l.map txT).map (·.length)).sum+(l.map txT).length*(" ":Str).length<=16777216:=by
   rw[show(" ":Str).length=1 by decide +kernel,List.length_map]
   omega
  have jb:Txt.join " " (l.map txT)=ofL (Bw.txts (thBs l)):=by rw[←thB_map];exact join_bl _
  have lx:=txts_len l ht
  have l1:("[":Str).length+(Txt.join " " (l.map txT)).length<=sizeLine:=big (by rw[jb,ofL_len];show 1+_<=_;omega)
  have l2:(("[":Str)++Txt.join " " (l.map txT)).length+("]":Str).length<=sizeLine:=big (by rw[jb,strLen_append,ofL_len];show 1+_+1<=_;omega)
  fail "R"
  refine comp_mapT (K:=K) (e:=thT) (φ:=fun t=>[T.s (txT t)]) (ps:=l) (fun σ=>∃x,σ=[x]) sq2 rs (by omega) (fun _=>Nat.le_refl _) ⟨_,rfl⟩ ?_ ?_
  ·rintro q hq x σ H2 N s2 ⟨y,rfl⟩ rx kN
   have o1:=thok_in ht q hq
   have o2:tdp q<n:=by have:=tdps_in q hq;omega
   have o3:tsz q<=800:=by have:=tszs_in q hq;omega
   fail "R"
   intro H3 s3
   exact kN _ _ _ ⟨⟨_,rfl⟩,s3,.one .s⟩
  ·intro p H' us' s3 hl h3 r3
   rw[fm_one]at r3
   have e:us'=(l.map txT).map V.str:=by
    have r4:Rps K H' ((l.map txT).map T.s) us':=by rw[List.map_map];exact r3
    exact Rps.strs_inv r4
   rw[e]at h3
   have sq3:=sq.same s3
   have sqp:SqL K H' p ((l.map txT).map V.str):=SqL.of h3
   fail "R"
   have e:("[":Str)++Txt.join " " (l.map txT)++("]":Str)=txT (.row l):=by
    rw[jb]
    unfold txT
    rw[thB,Bw.txt]
    show ofL [91]++ofL _++ofL [93]=_
    rw[app_ofL,app_ofL]
    rfl
   show Q (.str (("[":Str)++Txt.join " " (l.map txT)++("]":Str))) H'
   rw[e]
   exact k _ s3
 |tag x l =>
  rw[thT,thTs_map]at r
  obtain⟨a,v1,v2,v3,rfl,sq,g1,g2,g3⟩:=r.t3
  obtain rfl:=g1.inv_s
  obtain rfl:=g2.inv_s
  obtain⟨b,us,rfl,sq2,rs⟩:=g3.inv_t
  rw[ThOk]at ht
  rw[tsz]at hz
  rw[tdp]at hd
  have ll:=tszs_len l
  have st:=sum_tx l ht.2
  have hx6:=ht.1.2.1
  have hj:((x::l.map txT).map (·.length)).sum+(x::l.map txT).length*(" ":Str).length<=16777216:=by
   rw[show(" ":Str).length=1 by decide +kernel,List.length_cons,List.length_map,List.map_cons,List.sum_cons]
   omega
  have jb:Txt.join " " (x::l.map txT)=ofL (Bw.txts (.a x.cps.toList::thBs l)):=by
   rw[←thB_map,←join_bl,List.map_cons]
   unfold Bw.txt
   rw[ofL_toList]
  have lx:(Bw.txts (.a x.cps.toList::thBs l)).length+2=(thB (.tag x l)).txt.length:=by rw[thB,Bw.txt];simp
  rw[tsz]at lt
  have l1:("(":Str).length+(Txt.join " " (x::l.map txT)).length<=sizeLine:=big (by rw[jb,ofL_len];show 1+_<=_;omega)
  have l2:(("(":Str)++Txt.join " " (x::l.map txT)).length+(")":Str).length<=sizeLine:=big (by rw[jb,strLen_append,ofL_len];show 1+_+1<=_;omega)
  fail "R"
  refine comp_mapT (K:=K) (e:=thT) (φ:=fun t=>[T.s (txT t)]) (ps:=l) (fun σ=>∃x,σ=[x]) sq2 rs (by omega) (fun _=>Nat.le_refl _) ⟨_,rfl⟩ ?_ ?_
  ·rintro q hq x σ H2 N s2 ⟨y,rfl⟩ rx kN
   have o1:=thok_in ht.2 q hq
   have o2:tdp q<n:=by have:=tdps_in q hq;omega
   have o3:tsz q<=800:=by have:=tszs_in q hq;omega
   fail "R"
   intro H3 s3
   exact kN _ _ _ ⟨⟨_,rfl⟩,s3,.one .s⟩
  ·intro p H' us' s3 hl h3 r3
   rw[fm_one]at r3
   have e:us'=(l.map txT).map V.str:=by
    have r4:Rps K H' ((l.map txT).map T.s) us':=by rw[List.map_map];exact r3
    exact Rps.strs_inv r4
   rw[e]at h3
   have sq3:=sq.same s3
   have sqp:SqL K H' p ((l.map txT).map V.str):=SqL.of h3
   have lsz:[V.str x].length+((l.map txT).map V.str).length<=sizeLine:=small (by rw[List.length_map,List.length_map];show 1+_<=_;omega)
   fail "R"
   intro p4 hp4
   have s4:=same_new hp4 (.lst [.str x])
   have h4:upd H' p4 (.lst [.str x]) p4=some (.lst [.str x]):=upd_same
   have h34:=s4 _ _ h3
   generalize upd H' p4 (.lst [.str x])=H4 at s4 h4 h34⊢
   fail "R"
   intro p5 hp5
   have s5:=same_new hp5 (.lst ([V.str x]++(l.map txT).map V.str))
   have h5:upd H4 p5 (.lst ([V.str x]++(l.map txT).map V.str)) p5=some (.lst ((x::l.map txT).map V.str)):=upd_same
   generalize upd H4 p5 _=H5 at s5 h5⊢
   have sq5:SqL K H5 p5 ((x::l.map txT).map V.str):=SqL.of h5
   fail "R"
   have e:("(":Str)++Txt.join " " (x::l.map txT)++(")":Str)=txT (.tag x l):=by
    rw[jb]
    unfold txT
    rw[thB,Bw.txt]
    show ofL [40]++ofL _++ofL [41]=_
    rw[app_ofL,app_ofL]
    rfl
   show Q (.str (("(":Str)++Txt.join " " (x::l.map txT)++(")":Str))) H5
   rw[e]
   exact k _ (s3.trans (s4.trans s5))
end
structure TxOk(l:List Nat):Prop where
 n:l.length<=2900
 o:l.countP isOp<=130
 z:l.countP spB+2*l.countP sixB+1<=800
def spDu(K:PySem.W.Frag):Sp:=fun vs H Q _=>∃l:List Nat,vs=[.str (ofL l)]/\TxOk l/\∀(v:V) (H':Hp),Same H H'->Rp K H' (outT (dueO l)) v->Q v H'
section
variable {P:Program}{w:World}{K:PySem.W.Frag}{mg:Str->Option Value}{base:Heap}{gT gO gX:Addr}{tfd ofd xfd:FuncData}
theorem nm_L_due:Nm ["_law_text","_law_tree_here","_law_found"] (defScope s_L_due):=by decide +kernel
theorem lm_L_due:Lm ["_law_text","_law_tree_here","_law_found"] (defScope s_L_due):=by decide +kernel
theorem sc_L_due:FnScope ["_law_text","_law_tree_here","_law_found"] ["_law_text"] (defScope s_L_due):=⟨rfl,rfl,rfl,by decide +kernel,rfl,by decide +kernel,by decide +kernel⟩
theorem ok_ldue{f:Addr}{fd:FuncData}{j:Nat}(hj:2<=j)(F:Fun K "_law_due" "_law_due" s_L_due f fd)(LTR:Has P w K mg base "_law_tree" 1 ["_law_text"] spLTr gT tfd)(LTO:Has P w K mg base "_law_thing_of" j ["_law_tree_here"] (spLTo K 131) gO ofd)(LTT:Has P w K mg base "_law_thing_text" j ["_law_thing_here"] (spLTt K 131) gX xfd):FnOk P w K mg base CX0 (j+1) f fd ["_law_text"] (spDu K):=by
 refine F.ok sc_L_due (fun vs H Q E h=>?_) (fun cdv A outer s H vs Q E hr h=>?_)
 ·obtain⟨_,rfl,_⟩:=h
  rfl
 obtain⟨l,rfl,tx,k⟩:=h
 refine⟨_,(@pss_cons _ _ _ _ _ (@sa _ _ _ _ _ _ sc_L_due.nd lm_L_due 1 (@pe_call _ _ _ _ _ _ _ _ _ _ _ _ _ _ _ _ LTR.ok (hr.mono (by omega)) (by show _=_;kernel_rfl) LTR.at' LTR.kp LTR.bd .nil pass0 (pa_c (va nm_L_due 0) pa_nil) (by decide) (by rfl) (by rfl)) (by rfl) (by kernel_rfl) (by exact .inl rfl)) (@pss_cons _ _ _ _ _ (sa sc_L_due.nd lm_L_due 2 pe_non) (@pss_cons _ _ _ _ _ (@ps_if _ _ _ _ _ _ _ _ (pt_cmpR op_notN (va nm_L_due 1) pe_non (nomark _)) (@pss_one _ _ _ (@sa _ _ _ _ _ _ sc_L_due.nd lm_L_due 2 (@pe_call _ _ _ _ _ _ _ _ _ _ _ _ _ _ _ _ LTO.ok (hr.mono (by omega)) (by show _=_;kernel_rfl) LTO.at' LTO.kp LTO.bd .nil pass0 (pa_c (va nm_L_due 1) pa_nil) (by decide) (by rfl) (by rfl)) (by rfl) (by kernel_rfl) (by exact .inl rfl))) pss_nil) (@pss_cons _ _ _ _ _ (@ps_if _ _ _ _ _ _ _ _ (PW.pt (@pw_or _ _ _ _ _ _ _ (pt_cmpR op_isN (va nm_L_due 2) pe_non (nomark _)) (@pw_or1 _ _ _ _ (@pt_cmpR _ _ _ _ _ _ _ _ op_ne (@pe_call _ _ _ _ _ _ _ _ _ _ _ _ _ _ _ _ LTT.ok (hr.mono (by omega)) (by show _=_;kernel_rfl) LTT.at' LTT.kp LTT.bd .nil pass0 (pa_c (va nm_L_due 2) pa_nil) (by decide) (by rfl) (by rfl)) (va nm_L_due 0) (nomark _))))) (@pss_one _ _ _ (@ps_ret _ _ _ _ (@pe_tup _ _ _ _ _ (pa_c pe_str (pa_c pe_int pa_nil))))) pss_nil) (@pss_one _ _ _ (@ps_ret _ _ _ _ (@pe_tup _ _ _ _ _ (@pa_c _ _ _ _ _ pe_str (pa_c (va nm_L_due 2) pa_nil) (by rfl))))))))),?_⟩
 try dsimp only[cx_K]
 try dsimp only[cx_K]
 have hl:=tx.n
 have refu:dueO l=none->∀(p:Addr) H',Same H H'->H' p=some (.tup [.str "refused",.int 0])->Q (.ref p) H':=fun e p H' s' h'=>k _ _ s' (by rw[e];exact Rp.t (SqT.of h') (.cons .s (.one .i)))
 refine seq_cut4 ?_
 intro N1 N2 N3 N4 c1 c2 c3 c4
 -- what was found
 have key:∀(o0:Option V) (v:V) (H':Hp),Same H H'->Rp K H' (thO (lfind l)) v->N3 [some (.str (ofL l)),o0,some v] H':=by
  intro o0 v H' s' r'
  refine c3 _ _ ?_
  clear c1 c2 c3
  cases ef:lfind l with
  |none =>
   rw[ef]at r'
   unfold thO Rp at r'
   subst r'
   have ed:dueO l=none:=by unfold dueO;rw[ef];rfl
   have ht:decide (V.non=V.non)=true:=decide_eq_true rfl
   fail "R"
   intro p1 hp1
   exact refu ed p1 _ (s'.trans (same_new hp1 _)) upd_same
  |some t =>
   rw[ef]at r'
   have fk:=lfind_ok ef
   obtain⟨xs,ex⟩:=thT_tup t
   have r2:Rp K H' (thT t) v:=r'
   have hne:∃p,v=.ref p:=by
    rw[ex]at r2
    obtain⟨p,us,e,_⟩:=r2.inv_t
    exact⟨p,e⟩
   obtain⟨p,rfl⟩:=hne
   have ht:decide (V.ref p=V.non)=false:=decide_eq_false fun z=>nomatch z
   have f1:=fk.ok
   have f2:tdp t<131:=by have:=fk.d;have:=tx.o;omega
   have f3:tsz t<=800:=by have:=fk.z;have:=tx.z;omega
   fail "R"
   intro H2 s2
   fail "R"
   by_cases hx:(thB t).txt=l
   ·have ed:dueO l=some t:=by unfold dueO;rw[ef];exact if_pos hx
    rw[show decide (V.str (txT t)=V.str (ofL l))=true from decide_eq_true (by unfold txT;rw[hx])]
    fail "R"
    intro p1 hp1
    have s3:=same_new hp1 (.tup [.str "read",.ref p])
    exact k _ _ (s'.trans (s2.trans s3)) (by rw[ed];exact Rp.t (SqT.of upd_same) (.cons .s (.one (r2.same (s2.trans s3)))))
   ·have ed:dueO l=none:=by unfold dueO;rw[ef];exact if_neg hx
    rw[show decide (V.str (txT t)=V.str (ofL l))=false from decide_eq_false fun z=>hx (by unfold txT at z;injection z with z;exact ofL_inj z)]
    fail "R"
    intro p1 hp1
    exact refu ed p1 _ (s'.trans (s2.trans (same_new hp1 _))) upd_same
 clear c3 c4
 fail "R"
 intro v H1 s1 r1
 cases et:ltree l with
 |none =>
  rw[et]at r1
  obtain rfl:v=.non:=r1
  have el:lfind l=none:=by unfold lfind;rw[et];rfl
  have rn:Rp K H1 (thO (lfind l)) .non:=by rw[el];unfold thO Rp;rfl
  have ht:decide (V.non=V.non)=true:=decide_eq_true rfl
  fail "R"
  exact key _ _ _ s1 rn
 |some b =>
  rw[et]at r1
  have r1:RL [] H1 b v:=r1
  have el:lfind l=lth b:=by unfold lfind;rw[et];rfl
  obtain⟨b1,b2⟩:=ltree_ok et
  have o1:bd b<131:=by have:=tx.o;omega
  have o2:bz b<=800:=by have:=tx.z;omega
  have hv:decide (v=V.non)=false:=by
   cases b with
   |a w=>rw[RL]at r1;rw[r1.1];rfl
   |g o ws=>rw[RL]at r1;obtain⟨e,a,us,rfl,_⟩:=r1;rfl
  fail "R"
  rw[hv]
  fail "R"
  intro v2 H2 s2 r2
  rw[←el]at r2
  exact key _ _ _ (s1.trans s2) r2
end
def someL:List (List Nat):=[[48,49],[60,62],[60,97,62],[60,48,55,62],[91,93],[40,41],[40,97,41],[40,114,111,119,41],[97],[49,48,48,48,48,48,48],[45,49],[63,49],[60,49,48,48,48,48,48,48,62],[91,32,93]]
def Spo(l l':List Nat):Prop:=∀(p:Nat->Bool) (k:Nat),1<=k->(∀w∈someL,w.countP p<=k)->l'.countP p<=2*l.countP p+k
theorem cnt_take(p:Nat->Bool)(n:Nat)(l:List Nat):(l.take n).countP p<=l.countP p:=(List.take_sublist n l).countP_le
theorem cnt_drop(p:Nat->Bool)(n:Nat)(l:List Nat):(l.drop n).countP p<=l.countP p:=(List.drop_sublist n l).countP_le
theorem cnt1(p:Nat->Bool)(c:Nat):[c].countP p<=1:=by have:=List.countP_le_length (p:=p) (l:=[c]);exact this
theorem spo_sign{l m:List Nat}(a b:Nat)(hm:m=[]\/∃c,m=[c]):Spo l (l.take a++m++l.drop b):=by
 intro p k hk _
 rw[List.countP_append,List.countP_append]
 have h1:=cnt_take p a l
 have h2:=cnt_drop p b l
 have h3:m.countP p<=1:=by
  rcases hm with rfl|⟨c,rfl⟩
  ·exact Nat.zero_le _
  ·exact cnt1 p c
 omega
def jnL:List (List Nat)->List Nat
 | []=>[]
 | [w]=>w
 |w::x::r=>w++32::jnL (x::r)
def cw(p:Nat->Bool)(ws:List (List Nat)):Nat:=(ws.map fun w=>w.countP p).sum
def b32(p:Nat->Bool):Nat:=if p 32=true then 1 else 0
theorem b32_le(p:Nat->Bool):b32 p<=1:=by unfold b32;split<;>decide
theorem cw_app(p:Nat->Bool)(a b:List (List Nat)):cw p (a++b)=cw p a+cw p b:=by unfold cw;rw[List.map_append,List.sum_append]
theorem cw_cons(p:Nat->Bool)(w:List Nat)(b:List (List Nat)):cw p (w::b)=w.countP p+cw p b:=by unfold cw;rw[List.map_cons,List.sum_cons]
theorem cnt_jn(p:Nat->Bool):∀ws:List (List Nat),ws≠[]->(jnL ws).countP p+b32 p=cw p ws+ws.length*b32 p
 | [],h=>absurd rfl h
 | [w],_=>by rw[jnL,cw_cons];simp[cw]
 |w::x::r,_=>by
  rw[jnL,List.countP_append,List.countP_cons,cw_cons,List.length_cons,Nat.succ_mul]
  have:=cnt_jn p (x::r) (by simp)
  unfold b32 at this⊢
  omega
theorem jn_join:∀ws:List (List Nat),Txt.join " " (ws.map ofL)=ofL (jnL ws):=by
 intro ws
 have z:=join_bl (ws.map Bw.a)
 have e1:(ws.map Bw.a).map (fun b=>ofL b.txt)=ws.map ofL:=by rw[List.map_map];exact List.map_congr_left fun w _=>by show ofL (Bw.a w).txt=ofL w;rw[Bw.txt]
 have e3:∀(w:List Nat) (r:List (List Nat)),Bw.txts ((w::r).map Bw.a)=jnL (w::r)/\∀m,m++Bw.txtr (r.map Bw.a)=jnL (m::r):=by
  intro w r
  induction r generalizing w with
  |nil=>exact⟨by rw[List.map_cons,List.map_nil,Bw.txts,Bw.txt,Bw.txtr,jnL];exact List.append_nil _,fun m=>by rw[List.map_nil,Bw.txtr,jnL];exact List.append_nil _⟩
  |cons x r ih =>
   have hm:∀m,m++Bw.txtr ((x::r).map Bw.a)=jnL (m::x::r):=fun m=>by rw[List.map_cons,Bw.txtr,Bw.txt,(ih x).2 x,jnL]
   exact⟨by rw[List.map_cons,Bw.txts,Bw.txt];exact hm w,hm⟩
 rw[e1]at z
 rw[z]
 congr 1
 cases ws with
 |nil=>rw[List.map_nil,Bw.txts,jnL]
 |cons w r=>exact(e3 w r).1
theorem sp_ne(c:Nat):∀l:List Nat,sp c l≠[]
 | []=>by simp[sp]
 |a::l=>by
  unfold sp
  split
  ·simp
  ·split<;>simp
theorem jn_sp:∀l:List Nat,jnL (sp 32 l)=l
 | []=>rfl
 |a::l=>by
  have ih:=jn_sp l
  unfold sp
  cases e:sp 32 l with
  |nil=>exact absurd e (sp_ne 32 l)
  |cons q r =>
   rw[e]at ih
   by_cases ha:a=32
   ·rw[if_pos ha,jnL,ih,ha]
    rfl
   ·rw[if_neg ha]
    cases r with
    |nil=>rw[jnL]at ih;rw[jnL,ih]
    |cons x r=>rw[jnL]at ih;rw[jnL,←ih];rfl
theorem cw_take(p:Nat->Bool)(n:Nat)(l:List (List Nat)):cw p (l.take n)+cw p (l.drop n)=cw p l:=by rw[←cw_app,List.take_append_drop]
theorem spo_words{l:List Nat}{ws':List (List Nat)}(h:∀(p:Nat->Bool) (k:Nat),1<=k->(∀w∈someL,w.countP p<=k)->(ws'.length<=(sp 32 l).length+1/\cw p ws'<=2*cw p (sp 32 l))\/(ws'.length<=(sp 32 l).length/\cw p ws'<=cw p (sp 32 l)+k)):Spo l (jnL ws'):=by
 intro p k hk hs
 have hl:=cnt_jn p (sp 32 l) (sp_ne 32 l)
 rw[jn_sp]at hl
 have h1:1<=(sp 32 l).length:=by
  cases e:sp 32 l with
  |nil=>exact absurd e (sp_ne 32 l)
  |cons=>simp
 by_cases he:ws'=[]
 ·rw[he,jnL]
  exact Nat.zero_le _
 have hw:=cnt_jn p ws' he
 have b01:b32 p=0\/b32 p=1:=by have:=b32_le p;omega
 have:=h p k hk hs
 rcases b01 with e|e
 ·rw[e]at hl hw
  simp only[Nat.mul_zero,Nat.add_zero]at hl hw
  omega
 ·rw[e]at hl hw
  simp only[Nat.mul_one]at hl hw
  omega
theorem cw_set(p:Nat->Bool):∀(ws:List (List Nat)) (i:Nat) (w:List Nat),cw p (ws.set i w)<=cw p ws+w.countP p
 | [],i,w=>by simp[cw]
 |x::r,0,w=>by rw[List.set_cons_zero,cw_cons,cw_cons];omega
 |x::r,i+1,w=>by rw[List.set_cons_succ,cw_cons,cw_cons];have:=cw_set p r i w;omega
theorem cw_set_eq(p:Nat->Bool):∀(ws:List (List Nat)) (i:Nat) (w x:List Nat),ws[i]?=some x->cw p (ws.set i w)+x.countP p=cw p ws+w.countP p
 | [],i,w,x,h=>by simp at h
 |y::r,0,w,x,h=>by cases Option.some.inj h;rw[List.set_cons_zero,cw_cons,cw_cons];omega
 |y::r,i+1,w,x,h=>by rw[List.set_cons_succ,cw_cons,cw_cons];have:=cw_set_eq p r i w x h;omega
end G12
namespace L2
open PySem PySem.Spec PyProof.Rows
section
variable {X:Cx}
theorem call_isTt(K:PySem.W.Frag)(hK:X.K=K):CallR X (.builtin "isinstance") (fun xs H Q=>∃x,xs=[x,.ty "tuple"]/\((∃p ys,x=.ref p/\SqT K H p ys/\Q (.bl true) H)\/(∃z,x=.str z/\Q (.bl false) H)\/∃z,x=.int z/\Q (.bl false) H)):=by
 subst hK
 intro pins s σ H xs us Q I r h
 obtain⟨x,rfl,h⟩:=h
 obtain⟨u,w',rfl,r1,r2⟩:=vals2 r
 obtain rfl:w'=Value.type "tuple":=r2
 rcases h with⟨p,ys,rfl,hq,q⟩|⟨z,rfl,q⟩|⟨z,rfl,q⟩
 ·obtain rfl:u=Value.ref p:=r1
  obtain⟨its,rv,pl,hz⟩:=I.tuple hq
  obtain⟨o,ho,hc,n,hd⟩:=pl
  exact IsiPair.tuple_tuple ho hc ⟨.bl true,H,I,rfl,q⟩
 ·obtain⟨t,rfl⟩:=r1
  exact IsiPair.str_tuple ⟨.bl false,H,I.tok _,rfl,q⟩
 ·obtain⟨t,rfl⟩:=r1
  exact IsiPair.int_tuple ⟨.bl false,H,I.tok _,rfl,q⟩
end
end L2
namespace G12
open PySem L2
inductive Tw:T->Prop
 |s (x:Str):Tw (.s x)
 |i (n:Int):Tw (.i n)
 |t {xs:List T}:xs.length<=900->(∀x∈xs,Tw x)->Tw (.t xs)
def spAlike(K:PySem.W.Frag)(n:Nat):Sp:=fun vs H Q _=>∃(v u:V) (t:T),vs=[v,u]/\Rp K H t v/\Rp K H t u/\Tw t/\t.dep<n/\∀H',Same H H'->Q (.bl true) H'
section
variable {P:Program}{w:World}{K:PySem.W.Frag}{mg:Str->Option Value}{base:Heap}{gA:Addr}{afd:FuncData}
theorem nm_L_alike:Nm ["_law_found","_law_due_here"] (defScope s_L_alike):=by decide +kernel
theorem sc_L_alike:FnScope ["_law_found","_law_due_here"] ["_law_found","_law_due_here"] (defScope s_L_alike):=⟨rfl,rfl,rfl,by decide +kernel,rfl,by decide +kernel,by decide +kernel⟩
theorem ok_alike{f:Addr}{fd:FuncData}{n j:Nat}(hj:1<=j)(F:Fun K "_law_alike" "_law_alike" s_L_alike f fd)(LA:Has P w K mg base "_law_alike" j ["_law_found","_law_due_here"] (spAlike K n) gA afd)(z_tuple:mg "tuple"=none)(z_str:mg "str"=none)(z_int:mg "int"=none)(z_bool:mg "bool"=none)(z_isinstance:mg "isinstance"=none)(z_len:mg "len"=none)(z_all:mg "all"=none)(z_zip:mg "zip"=none) :
  FnOk P w K mg base CX0 (j+1) f fd ["_law_found","_law_due_here"] (spAlike K (n+1)):=by
 refine F.ok sc_L_alike (fun vs H Q E h=>?_) (fun cdv A outer s H vs Q E hr h=>?_)
 ·obtain⟨_,_,_,rfl,_⟩:=h
  rfl
 obtain⟨v,u,t,rfl,rv,ru,tw,hd,k⟩:=h
 refine⟨_,(@pss_cons _ _ _ _ _ (@ps_if _ _ _ _ _ _ _ _ (@pt_val _ _ _ (@pe_callB _ _ _ _ _ _ _ _ _ (call_isTt K rfl) (by show _=_;kernel_rfl) z_isinstance PyProof.Rows.boot_isinstance (@pa_c _ _ _ _ _ (va nm_L_alike 1) (pa_c (pe_bltn (v:=.ty "tuple") (by show _=_;kernel_rfl) z_tuple (by decide +kernel) rfl) pa_nil) (by rfl)) (by decide) (by decide) (by rfl) (by rfl)) (by intro _;rfl)) (@pss_cons _ _ _ _ _ (@ps_if _ _ _ _ _ _ _ _ (PW.pt (@pw_or _ _ _ _ _ _ _ (@pt_not _ _ _ _ (@pt_val _ _ _ (@pe_callB _ _ _ _ _ _ _ _ _ (call_isTt K rfl) (by show _=_;kernel_rfl) z_isinstance PyProof.Rows.boot_isinstance (@pa_c _ _ _ _ _ (va nm_L_alike 0) (pa_c (pe_bltn (v:=.ty "tuple") (by show _=_;kernel_rfl) z_tuple (by decide +kernel) rfl) pa_nil) (by rfl)) (by decide) (by decide) (by rfl) (by rfl)) (by intro _;rfl))) (@pw_or1 _ _ _ _ (@pt_cmpR _ _ _ _ _ _ _ _ op_ne (@pe_callB _ _ _ _ _ _ _ _ _ call_len_seq (by show _=_;kernel_rfl) z_len PySem.boot_len (pa_c (va nm_L_alike 0) pa_nil) (by decide) (by decide) (by rfl) (by rfl)) (@pe_callB _ _ _ _ _ _ _ _ _ call_len_seq (by show _=_;kernel_rfl) z_len PySem.boot_len (pa_c (va nm_L_alike 1) pa_nil) (by decide) (by decide) (by rfl) (by rfl)) (nomark _))))) (pss_one (ps_ret pe_bl)) pss_nil) (@pss_one _ _ _ (@ps_ret _ _ _ _ (@pe_callB _ _ _ _ _ _ _ _ _ (call_all rfl) (by show _=_;kernel_rfl) z_all PyProof.Rows.boot_all (@pa_c _ _ _ _ _ (@pe_compC _ _ _ _ _ _ _ _ _ _ _ (defScope s_L_alike) ["_law_found","_law_due_here"] ["_law_one","_law_other"] [] rfl rfl rfl (by decide +kernel) (pi_zip K rfl (by show _=_;kernel_rfl) z_zip (@pa_c _ _ _ _ _ (va nm_L_alike 0) (pa_c (va nm_L_alike 1) pa_nil) (by rfl))) (fun _ _ _ _=>(@pg_tupK _ _ _ _ _ (2) K rfl rfl (@pgs_cons _ _ _ _ _ (pg_name (i:=0) (show(["_law_one","_law_other"]:List Str).Nodup by decide +kernel) rfl (Or.inl (by kernel_rfl)) (by first|exact .inl rfl|exact .inr (by kernel_rfl))) (pgs_cons (pg_name (i:=1) (show(["_law_one","_law_other"]:List Str).Nodup by decide +kernel) rfl (Or.inl (by kernel_rfl)) (by first|exact .inl rfl|exact .inr (by kernel_rfl))) pgs_nil) (by rfl)) (by rfl) (by rfl))) (fun _ _ _ _=>pifs_nil) (fun _ _ _ _=>(@pe_call _ _ _ _ _ _ _ _ _ _ _ _ _ _ _ _ LA.ok (hr.mono (by omega)) (by show _=_;kernel_rfl) LA.at' LA.kp LA.bd .nil pass0 (@pa_c _ _ _ _ _ (va (show Nm ["_law_one","_law_other"] _ by show _=_;kernel_rfl) 0) (pa_c (va (show Nm ["_law_one","_law_other"] _ by show _=_;kernel_rfl) 1) pa_nil) (by rfl)) (by decide) (by rfl) (by rfl))) (by intro _;rfl)) pa_nil (by rfl)) (by decide) (by decide) (by rfl) (by rfl))))) pss_nil) (@pss_cons _ _ _ _ _ (@ps_if _ _ _ _ _ _ _ _ (@pt_val _ _ _ (@pe_callB _ _ _ _ _ _ _ _ _ (call_isSt K rfl) (by show _=_;kernel_rfl) z_isinstance PyProof.Rows.boot_isinstance (@pa_c _ _ _ _ _ (va nm_L_alike 1) (pa_c (pe_bltn (v:=.ty "str") (by show _=_;kernel_rfl) z_str (by decide +kernel) rfl) pa_nil) (by rfl)) (by decide) (by decide) (by rfl) (by rfl)) (by intro _;rfl)) (@pss_one _ _ _ (@ps_ret _ _ _ _ (@pe_and _ _ _ _ _ _ _ (@pe_callB _ _ _ _ _ _ _ _ _ (call_isSt K rfl) (by show _=_;kernel_rfl) z_isinstance PyProof.Rows.boot_isinstance (@pa_c _ _ _ _ _ (va nm_L_alike 0) (pa_c (pe_bltn (v:=.ty "str") (by show _=_;kernel_rfl) z_str (by decide +kernel) rfl) pa_nil) (by rfl)) (by decide) (by decide) (by rfl) (by rfl)) (@pe_one _ _ _ _ _ (pe_cmpR op_eq (va nm_L_alike 0) (va nm_L_alike 1) (nomark _)))))) pss_nil) (@pss_one _ _ _ (@ps_ret _ _ _ _ (@pe_and _ _ _ _ _ _ _ (@pe_callB _ _ _ _ _ _ _ _ _ call_isB (by show _=_;kernel_rfl) z_isinstance PyProof.Rows.boot_isinstance (@pa_c _ _ _ _ _ (va nm_L_alike 0) (pa_c (pe_bltn (v:=.ty "int") (by show _=_;kernel_rfl) z_int (by decide +kernel) rfl) pa_nil) (by rfl)) (by decide) (by decide) (by rfl) (by rfl)) (@pe_and _ _ _ _ _ _ _ (@pe_not _ _ _ _ (@pe_callB _ _ _ _ _ _ _ _ _ call_isB (by show _=_;kernel_rfl) z_isinstance PyProof.Rows.boot_isinstance (@pa_c _ _ _ _ _ (va nm_L_alike 0) (pa_c (pe_bltn (v:=.ty "bool") (by show _=_;kernel_rfl) z_bool (by decide +kernel) rfl) pa_nil) (by rfl)) (by decide) (by decide) (by rfl) (by rfl))) (@pe_one _ _ _ _ _ (pe_cmpR op_eq (va nm_L_alike 0) (va nm_L_alike 1) (nomark _))))))))),?_⟩
 try dsimp only[cx_K]
 try dsimp only[cx_K]
 refine seq_cut2 ?_
 intro N1 N2 c1 c2
 cases tw with
 |s x =>
  obtain rfl:=rv.inv_s
  obtain rfl:=ru.inv_s
  fail "R"
  refine .inr (.inl ⟨_,rfl,?_⟩)
  fail "R"
  refine .inr (.inl ⟨_,rfl,?_⟩)
  fail "R"
  refine .inr (.inl ⟨_,rfl,?_⟩)
  fail "R"
  rw[show decide (V.str x=V.str x)=true from decide_eq_true rfl]
  exact k _ (Same.refl _)
 |i m =>
  obtain rfl:=rv.inv_i
  obtain rfl:=ru.inv_i
  fail "R"
  refine .inr (.inr ⟨_,rfl,?_⟩)
  fail "R"
  refine .inr (.inr ⟨_,rfl,?_⟩)
  fail "R"
  rw[show decide (V.int m=V.int m)=true from decide_eq_true rfl]
  exact k _ (Same.refl _)
 |@t xs hn hx =>
  obtain⟨va,vvs,rfl,vsq,rvs⟩:=rv.inv_t
  obtain⟨ua,uvs,rfl,usq,rus⟩:=ru.inv_t
  have l1:=rvs.length
  have l2:=rus.length
  have e1:((vvs.length:Nat):Int)=((uvs.length:Nat):Int):=by rw[l1,l2]
  have hb1:SqB K true H va vvs:=vsq
  have hb2:SqB K true H ua uvs:=usq
  have hs1:SqL K H va vvs\/SqT K H va vvs:=.inr vsq
  have hs2:SqL K H ua uvs\/SqT K H ua uvs:=.inr usq
  fail "R"
  refine .inl ⟨_,_,rfl,usq,?_⟩
  fail "R"
  refine .inl ⟨_,_,rfl,vsq,?_⟩
  fail "R"
  refine ifF (by rw[e1,decide_eq_true rfl];rfl) ?_
  fail "R"
  refine comp_zip (K:=K) (xs:=vvs) (ys:=uvs) (fun i σ us H5=>(∃x y,σ=[x,y])/\Same H H5/\us=(List.replicate i true).map V.bl) ⟨⟨_,_,rfl⟩,Same.refl _,rfl⟩ ?_ (small (by rw[l1,l2];omega)) ?_ ?_ ?_ ?_
  ·rintro i σ us H5 hi ⟨_,_,rfl⟩
   rw[List.length_map,List.length_replicate]
   exact Nat.le_refl _
  ·rintro i σ us H5 hi ⟨_,s5,_⟩
   exact vsq.same s5
  ·rintro i σ us H5 hi ⟨_,s5,_⟩
   exact usq.same s5
  ·rintro i x y σ us H5 p6 hx6 hy6 ⟨⟨_,_,rfl⟩,s5,rfl⟩ hp6
   obtain⟨t6,ht6,rx⟩:=rvs.get' hx6
   obtain⟨t7,ht7,ry⟩:=rus.get' hy6
   rw[ht6]at ht7
   cases ht7
   have tw6:=hx t6 (List.mem_of_getElem? ht6)
   have hd6:t6.dep<n:=by
    have:=T.deps_mem (List.mem_of_getElem? ht6)
    unfold T.dep at hd
    omega
   have s6:=same_new hp6 (.tup [x,y])
   have h6:upd H5 p6 (.tup [x,y]) p6=some (.tup [x,y]):=upd_same
   have rx6:=rx.same (s5.trans s6)
   have ry6:=ry.same (s5.trans s6)
   generalize upd H5 p6 (.tup [x,y])=H6 at s6 h6 rx6 ry6⊢
   fail "R"
   intro H7 s7
   fail "R"
   ·exact(s5.trans s6).trans s7
   ·rw[List.replicate_succ',List.map_append]
    rfl
  ·rintro σ us H5 ⟨_,s5,rfl⟩ p6 hp6
   have hall:(List.replicate (min vvs.length uvs.length) true).all id=true:=by simp
   fail "R"
   rw[hall]
   exact k _ (s5.trans (same_new hp6 _))
end
mutual
def WdT:Th->Prop
 |.num _=>True
 |.left _=>True
 |.row l=>l.length<=900/\WdTs l
 |.tag _ l=>l.length<=900/\WdTs l
def WdTs:List Th->Prop
 | []=>True
 |x::r=>WdT x/\WdTs r
end
theorem wdts_mem:∀{l:List Th},WdTs l->∀t∈l,WdT t
 |y::r,h,t,ht=>by
  unfold WdTs at h
  rcases List.mem_cons.mp ht with rfl|ht
  ·exact h.1
  ·exact wdts_mem h.2 t ht
theorem thoks_mem:∀{l:List Th},ThOks l->∀t∈l,ThOk t
 |y::r,h,t,ht=>by
  unfold ThOks at h
  rcases List.mem_cons.mp ht with rfl|ht
  ·exact h.1
  ·exact thoks_mem h.2 t ht
theorem wdt_kids{t:Th}(h:WdT t):(kidsT t).length<=900:=by
 cases t<;>unfold WdT at h<;>unfold kidsT
 ·simp
 ·simp
 ·exact h.1
 ·exact h.1
theorem thBs_map:∀l:List Th,thBs l=l.map thB
 | []=>by unfold thBs;rfl
 |x::r=>by unfold thBs;rw[thBs_map r];rfl
def sxL:Sx->List Nat
 |.inl t=>(thB t).txt
 |.inr x=>x.cps.toList
def sxB:Sx->Bw
 |.inl t=>thB t
 |.inr x=>.a x.cps.toList
theorem sxB_txt(x:Sx):(sxB x).txt=sxL x:=by
 cases x with
 |inl t=>rfl
 |inr x=>unfold sxB Bw.txt;rfl
theorem txtr_map:∀r:List Sx,Bw.txtr (r.map sxB)=(r.flatMap fun y=>([.inr " ",y]:List Sx)).flatMap sxL
 | []=>rfl
 |x::r=>by
  rw[List.map_cons,List.flatMap_cons,List.flatMap_append]
  unfold Bw.txtr
  rw[txtr_map r,sxB_txt,List.flatMap_cons,List.flatMap_cons]
  show _=([32]++(sxL x++[]))++_
  simp
theorem txts_map:∀xs:List Sx,Bw.txts (xs.map sxB)=(sepX xs).flatMap sxL
 | []=>rfl
 |x::r=>by
  rw[List.map_cons]
  unfold Bw.txts
  rw[txtr_map r,sxB_txt]
  rfl
theorem brk_txt{c:Nat}(xs:List Sx):(Bw.g c (xs.map sxB)).txt=(brk c xs).flatMap sxL:=by
 unfold Bw.txt
 rw[txts_map]
 show _=[c]++(sepX xs++([.inr (ofL [clo c])]:List Sx)).flatMap sxL
 rw[List.flatMap_append]
 show _=[c]++((sepX xs).flatMap sxL++((ofL [clo c]).cps.toList++[]))
 rw[toList_ofL]
 rfl
theorem inl_map(l:List Th):(l.map (Sum.inl:Th->Sx)).map sxB=thBs l:=by rw[List.map_map,thBs_map];rfl
theorem pcs_txt(t:Th):(pcs t).flatMap sxL=(thB t).txt:=by
 cases t with
 |num n =>
  unfold pcs thB Bw.txt
  show(ofL (digs n)).cps.toList++[]=_
  rw[toList_ofL,List.append_nil]
 |left n =>
  unfold pcs thB Bw.txt
  show(ofL (60::(digs n++[62]))).cps.toList++[]=_
  rw[toList_ofL,List.append_nil]
 |row l =>
  unfold pcs thB
  rw[←brk_txt,inl_map]
 |tag x l =>
  unfold pcs thB
  rw[←brk_txt,List.map_cons,inl_map]
  rfl
def pcOk:Sx->Prop
 |.inl t=>ThOk t/\WdT t
 |.inr x=>x.cps.toList≠[]
theorem sepX_ok{xs:List Sx}(h:∀x∈xs,pcOk x):∀x∈sepX xs,pcOk x:=by
 cases xs with
 |nil=>exact fun _ h=>nomatch h
 |cons y r =>
  intro x hx
  rcases List.mem_cons.mp hx with rfl|hx
  ·exact h _ (.head _)
  ·obtain⟨z,hz,hx⟩:=List.mem_flatMap.mp hx
   rcases List.mem_cons.mp hx with rfl|hx
   ·show(" ":Str).cps.toList≠[]
    decide +kernel
   ·rw[List.mem_singleton.mp hx];exact h z (.tail _ hz)
theorem brk_ok{c:Nat}{xs:List Sx}(h:∀x∈xs,pcOk x):∀x∈brk c xs,pcOk x:=fun x hx=>by
 rcases List.mem_cons.mp hx with rfl|hx
 ·show [c]≠[]
  simp
 rcases List.mem_append.mp hx with hx|hx
 ·exact sepX_ok h x hx
 ·rw[List.mem_singleton.mp hx]
  show(ofL [clo c]).cps.toList≠[]
  rw[toList_ofL]
  simp
theorem inl_ok{l:List Th}(h:ThOks l)(w:WdTs l):∀x∈l.map (Sum.inl:Th->Sx),pcOk x:=fun x hx=>by
 obtain⟨t,ht,rfl⟩:=List.mem_map.mp hx
 exact⟨thoks_mem h t ht,wdts_mem w t ht⟩
theorem nm_ne'{x:Str}(h:nmOk x):x.cps.toList≠[]:=fun e=>by
 have h1:=h.1
 have:x.length=0:=by
  show x.cps.size=0
  rw[←Array.length_toList,e]
  rfl
 omega
theorem pcs_ok{t:Th}(h:ThOk t)(w:WdT t):∀x∈pcs t,pcOk x:=by
 cases t with
 |num n =>
  unfold ThOk at h
  intro x hx
  rw[List.mem_singleton.mp (show x∈[Sum.inr (ofL (digs n))]from hx)]
  show(ofL (digs n)).cps.toList≠[]
  rw[toList_ofL]
  exact(digs_wsg h).1
 |left n =>
  intro x hx
  rw[List.mem_singleton.mp (show x∈[Sum.inr (ofL (60::(digs n++[62])))]from hx)]
  show(ofL (60::(digs n++[62]))).cps.toList≠[]
  rw[toList_ofL]
  simp
 |row l =>
  unfold ThOk at h
  unfold WdT at w
  exact brk_ok (inl_ok h w.2)
 |tag x l =>
  unfold ThOk at h
  unfold WdT at w
  refine brk_ok fun y hy=>?_
  rcases List.mem_cons.mp hy with rfl|hy
  ·exact nm_ne' h.1
  ·exact inl_ok h.2 w.2 y hy
theorem pcs_first(t:Th):∃s r,pcs t=.inr s::r:=by
 cases t<;>unfold pcs
 ·exact⟨_,_,rfl⟩
 ·exact⟨_,_,rfl⟩
 ·exact⟨_,_,rfl⟩
 ·exact⟨_,_,rfl⟩
def mu:Sx->Nat
 |.inl t=>2*(thB t).txt.length
 |.inr x=>x.cps.toList.length
def mus:List Sx->Nat
 | []=>0
 |x::r=>mu x+mus r
theorem mus_app:∀a b:List Sx,mus (a++b)=mus a+mus b
 | [],b=>by rw[List.nil_append];show _=0+_;omega
 |x::r,b=>by
  show mu x+mus (r++b)=mu x+mus r+mus b
  rw[mus_app r b];omega
theorem mu_le(x:Sx):mu x<=2*(sxL x).length:=by
 cases x with
 |inl t=>exact Nat.le_refl _
 |inr x=>show x.cps.toList.length<=2*x.cps.toList.length;omega
theorem mus_le:∀xs:List Sx,mus xs<=2*(xs.flatMap sxL).length
 | []=>Nat.zero_le _
 |x::r=>by
  rw[List.flatMap_cons,List.length_append]
  show mu x+mus r<=_
  have:=mu_le x
  have:=mus_le r
  omega
theorem mus_pcs{tm:Th}(h:ThOk tm)(w:WdT tm):mus (pcs tm)<mu (.inl tm):=by
 have e:=pcs_txt tm
 obtain⟨s,r,ep⟩:=pcs_first tm
 have ok:=pcs_ok h w (.inr s) (by rw[ep];exact .head _)
 have hl:0<s.cps.toList.length:=List.length_pos_iff.mpr ok
 have:=mus_le r
 show _<2*(thB tm).txt.length
 rw[←e,ep,List.flatMap_cons,List.length_append]
 show s.cps.toList.length+mus r<2*(s.cps.toList.length+_)
 omega
theorem mu_pos{x:Sx}(h:pcOk x):1<=mu x:=by
 cases x with
 |inl t=>have:=mus_pcs h.1 h.2;omega
 |inr x=>exact List.length_pos_iff.mpr h
theorem len_mus:∀{xs:List Sx},(∀x∈xs,pcOk x)->xs.length<=mus xs
 | [],_=>Nat.zero_le _
 |x::r,h=>by
  have:=mu_pos (h x (.head _))
  have:=len_mus (xs:=r) fun y hy=>h y (.tail _ hy)
  show r.length+1<=mu x+mus r
  omega
end G12
namespace G12
open PySem L2
def spWrt(K:PySem.W.Frag)(gS:Addr):Sp:=fun vs H Q _=>∃(v:V) (tm:Th),vs=[v,.ref gS]/\Rp K H (thT tm) v/\ThOk tm/\WdT tm/\(thB tm).txt.length<=3000/\∀H',Same H H'->Q (.str (ofL (thB tm).txt)) H'
def spTtx(K:PySem.W.Frag):Sp:=fun vs H Q _=>∃(v:V) (tm:Th),vs=[v]/\Rp K H (thT tm) v/\ThOk tm/\WdT tm/\(thB tm).txt.length<=3000/\∀H',Same H H'->Q (.str (ofL (thB tm).txt)) H'
structure WrI(K:PySem.W.Frag) (H:Hp) (o l:Addr) (tx:List Nat) (m:Nat) (H2:Hp):Prop where
 s:Same H H2
 x:∃(ts:List Str) (ws:List V) (xs:List Sx),H2 o=some (.lst (ts.map V.str))/\H2 l=some (.lst ws)/\Rps K H2 (xs.map resT) ws.reverse/\(∀x∈xs,pcOk x)/\ts.flatMap (·.cps.toList)++xs.flatMap sxL=tx/\mus xs=m/\ts.length<=(ts.flatMap (·.cps.toList)).length
structure WrJ(K:PySem.W.Frag) (H:Hp) (o l:Addr) (tx:List Nat) (m:Nat) (H2:Hp):Prop where
 x:∃m',m' < m/\WrI K H o l tx m' H2
section
variable {P:Program}{w:World}{K:PySem.W.Frag}{mg:Str->Option Value}{base:Heap}{gS gW:Addr}{sfd wfd:FuncData}
theorem nm_written:Nm ["thing","spell","told","waiting","here"] (defScope s_written):=by decide +kernel
theorem lm_written:Lm ["thing","spell","told","waiting","here"] (defScope s_written):=by decide +kernel
theorem sc_written:FnScope ["thing","spell","told","waiting","here"] ["thing","spell"] (defScope s_written):=⟨rfl,rfl,rfl,by decide +kernel,rfl,by decide +kernel,by decide +kernel⟩
theorem ok_written{f:Addr}{fd:FuncData}(F:Fun K "written" "written" s_written f fd)(SPT:Has P w K mg base "spell_thing" 2 ["thing"] (spSpell K) gS sfd)(z_isinstance:mg "isinstance"=none)(z_str:mg "str"=none):FnOk P w K mg base CX0 4 f fd ["thing","spell"] (spWrt K gS):=by
 refine F.ok sc_written (fun vs H Q E h=>?_) (fun cdv A outer s H vs Q E hr h=>?_)
 ·obtain⟨_,_,rfl,_⟩:=h
  rfl
 obtain⟨v,tm,rfl,r,ht,hw,hl,k⟩:=h
 refine⟨_,(@pss_cons _ _ _ _ _ (sa sc_written.nd lm_written 2 (pe_lst pa_nil)) (@pss_cons _ _ _ _ _ (@sa _ _ _ _ _ _ sc_written.nd lm_written 3 (@pe_lst _ _ _ _ (pa_c (va nm_written 0) pa_nil)) (by rfl) (by kernel_rfl) (by exact .inl rfl)) (@pss_cons _ _ _ _ _ (@ps_while _ _ _ _ _ _ PassesOwn.never (pt_truth (va nm_written 3) (fun _=>rfl)) (@pss_cons _ _ _ _ _ (@sa _ _ _ _ _ _ sc_written.nd lm_written 4 (pe_bm0 PySem.F.plainAttrs_list PySem.F.slot_list_pop PySem.F.type_list_pop mt_pop (va nm_written 3)) (by rfl) (by kernel_rfl) (by exact .inl rfl)) (@pss_one _ _ _ (@ps_if _ _ _ _ _ _ _ _ (@pt_val _ _ _ (@pe_callB _ _ _ _ _ _ _ _ _ (call_isSt K rfl) (by show _=_;kernel_rfl) z_isinstance PyProof.Rows.boot_isinstance (@pa_c _ _ _ _ _ (va nm_written 4) (pa_c (pe_bltn (v:=.ty "str") (by show _=_;kernel_rfl) z_str (by decide +kernel) rfl) pa_nil) (by rfl)) (by decide) (by decide) (by rfl) (by rfl)) (by intro _;rfl)) (@pss_one _ _ _ (@ps_expr _ _ _ _ (@pe_bm _ _ _ _ _ _ _ _ _ _ _ _ PySem.F.plainAttrs_list PySem.F.slot_list_append PySem.F.type_list_append mt_append (va nm_written 2) (pa_c (va nm_written 4) pa_nil) (by rfl) (by rfl) (by rfl) (by rfl) (by rfl)) (by rfl))) (@pss_one _ _ _ (@ps_expr _ _ _ _ (@pe_bm _ _ _ _ _ _ _ _ _ _ _ _ PySem.F.plainAttrs_list PySem.F.slot_list_extend PySem.F.type_list_extend mt_extend (va nm_written 3) (@pa_c _ _ _ _ _ (@pe_slice3 _ _ _ _ _ _ _ _ _ _ _ (@pe_callV _ (fun f sp=>f=gS/\sp=spSpell K) _ _ _ _ _ _ _ (fun f sp h=>by obtain⟨rfl,rfl⟩:=h;exact⟨2,_,_,SPT.ok,hr.mono (by omega),SPT.kp,SPT.bd⟩) (va nm_written 1) (pa_c (va nm_written 4) pa_nil) (by rfl) (by rfl)) po_none po_none (po_some (pe_un un_neg pe_int))) pa_nil (by rfl)) (by rfl) (by rfl) (by rfl) (by rfl) (by rfl)) (by rfl))))))) (@pss_one _ _ _ (@ps_ret _ _ _ _ (@pe_bm _ _ _ _ _ _ _ _ _ _ _ _ PySem.F.plainAttrs_str PySem.F.slot_str_join PySem.F.type_str_join mt_join pe_str (pa_c (va nm_written 2) pa_nil) (by kernel_rfl) (by kernel_rfl) (by kernel_rfl) (by kernel_rfl) (by kernel_rfl))))))),?_⟩
 try dsimp only[cx_K]
 try dsimp only[cx_K,cx_w]
 refine seq_cut3 ?_
 intro N1 N2 N3 c1 c2 c3
 fail "R"
 intro o ho
 have s1:=same_new ho (.lst [])
 have h1:upd H o (.lst []) o=some (.lst []):=upd_same
 have r1:=r.same s1
 generalize upd H o (.lst [])=H1 at s1 h1 r1⊢
 fail "R"
 intro l hl1
 have s2:=same_new hl1 (.lst [v])
 have h2:upd H1 l (.lst [v]) l=some (.lst [v]):=upd_same
 have h2o:=s2 _ _ h1
 have r2:=r1.same s2
 have hlo:o≠l:=fun e=>by rw[←e,h1]at hl1;cases hl1
 have hlH:H l=none:=s1.free hl1
 generalize upd H1 l (.lst [v])=H2 at s2 h2 h2o r2⊢
 have i0:WrI K H o l (thB tm).txt (2*(thB tm).txt.length) H2:=⟨s1.trans s2,[],[v],[.inl tm],h2o,h2,.one r2,fun x hx=>by rw[List.mem_singleton.mp hx];exact⟨ht,hw⟩,by simp[sxL],rfl,Nat.le_refl _⟩
 fail "R"
 refine⟨fun m σ H3=>(∃y,σ=[some v,some (.ref gS),some (.ref o),some (.ref l),y])/\WrI K H o l (thB tm).txt m H3,⟨_,⟨_,rfl⟩,i0⟩,?_⟩
 rintro m σ H3 ⟨⟨y,rfl⟩,⟨s3,ts,ws,xs,h3o,h3l,r3,ok3,e3,m3,l3⟩⟩
 cases xs with
 |nil =>
  have ews:ws=[]:=by
   have:=r3.length
   rw[List.length_reverse]at this
   exact List.length_eq_zero_iff.mp this
  subst ews
  have e3':ts.flatMap (·.cps.toList)=(thB tm).txt:=by rw[←e3];simp
  have sj:=sum_txt ts
  have hj:(ts.map (·.length)).sum+ts.length*("":Str).length<=16777216:=by
   rw[sj,e3',show("":Str).length=0 from rfl]
   omega
  have sqo:SqL K H3 o (ts.map V.str):=SqL.of h3o
  fail "R"
  rw[join_emp,e3']
  exact k _ s3
 |cons x xr =>
  obtain⟨u,us,eu,g1,r4⟩:=L2.Rps.inv (show Rps K H3 (resT x::xr.map resT) ws.reverse from r3)
  have ews:ws=us.reverse++[u]:=by rw[←List.reverse_cons,←eu,List.reverse_reverse]
  subst ews
  have okx:=ok3 x (.head _)
  have okr:∀y∈xr,pcOk y:=fun y hy=>ok3 y (.tail _ hy)
  have m3':mu x+mus xr=m:=m3
  have ml:1<=mu x:=mu_pos okx
  have nel:(us.reverse++[u]).isEmpty=false:=by simp
  have pp:=popR (us:=us) (u:=u)
  have dl:(us.reverse++[u]).dropLast=us.reverse:=List.dropLast_concat
  have kt:Kt H3 (upd H3 l (.lst us.reverse)):=Kt.lst h3l _
  have h4o:upd H3 l (.lst us.reverse) o=some (.lst (ts.map V.str)):=by rw[upd_ne hlo];exact h3o
  have h4l:upd H3 l (.lst us.reverse) l=some (.lst us.reverse):=upd_same
  have s4:Same H (upd H3 l (.lst us.reverse)):=s3.updF hlH _
  have g2:=g1.kt kt
  have r5:=r4.kt kt
  have lts:ts.length<=3000:=by
   have:=congrArg List.length e3
   rw[List.length_append]at this
   omega
  have ltm:(ts.map V.str).length<sizeLine:=by rw[List.length_map,sizeLine_eq];omega
  fail "R"
  refine ifT (b:=!(us.reverse++[u]).isEmpty) (by rw[nel];rfl) ?_
  refine⟨fun σ' H'=>(∃y,σ'=[some v,some (.ref gS),some (.ref o),some (.ref l),y])/\WrJ K H o l (thB tm).txt m H',fun σ' H' h=>by obtain⟨h1,m',h2,h3⟩:=h;exact⟨m',h2,h1,h3⟩,?_⟩
  fail "R"
  rw[dl]
  generalize upd H3 l (.lst us.reverse)=H4 at kt h4o h4l s4 g2 r5⊢
  cases x with
  |inr z =>
   obtain rfl:=(show Rp K H4 (.s z) u from g2).inv_s
   fail "R"
   refine .inr (.inl ⟨_,rfl,?_⟩)
   fail "R"
   have lz:1<=z.cps.toList.length:=ml
   have mz:z.cps.toList.length+mus xr=m:=m3'
   refine⟨mus xr,by omega,s4.updF ho _,ts++[z],us.reverse,xr,by rw[upd_same,List.map_append];rfl,by rw[upd_ne (Ne.symm hlo)];exact h4l,?_,okr,?_,rfl,?_⟩
   ·rw[List.reverse_reverse]
    exact r5.kt (Kt.lst h4o _)
   ·rw[←e3,List.flatMap_append,List.flatMap_singleton,List.append_assoc]
    rfl
   ·rw[List.flatMap_append,List.flatMap_singleton,List.length_append,List.length_append]
    show ts.length+1<=_
    omega
  |inl t =>
   have g2':Rp K H4 (thT t) u:=g2
   obtain⟨es,ee⟩:=thT_t t
   rw[show resT (.inl t)=.t es from ee]at g2
   obtain⟨a,vs,rfl,sqa,_⟩:=g2.inv_t
   have tok:=okx.1
   have twd:=okx.2
   have tkl:=wdt_kids twd
   fail "R"
   refine .inl ⟨_,_,rfl,sqa,?_⟩
   fail "R"
   intro q wq H5 s5 hq h5 r6
   have sqq:SqL K H5 q wq:=SqL.of h5
   have pr:=pick_rev wq
   have mp:=mus_pcs tok twd
   have pok:=pcs_ok tok twd
   have lp:=len_mus pok
   have lq:=r6.length
   rw[List.length_map]at lq
   have m2:=mus_le (.inl t::xr)
   have e3l:=congrArg List.length e3
   rw[List.length_append]at e3l
   have mt:mus (.inl t::xr)=mu (.inl t)+mus xr:=rfl
   have m5:mus xr+mus (pcs t)<m:=by omega
   have m6:m<=6000:=by omega
   have lr:=len_mus okr
   have lus:=r5.length
   rw[List.length_map]at lus
   have lsz:(pickV wq none none (some (-1))).length<=sizeLine:=small6 (by rw[pr,List.length_reverse];omega)
   fail "R"
   rw[pr]
   intro p7 hp7
   have s7:=same_new hp7 (.lst wq.reverse)
   have h7:upd H5 p7 (.lst wq.reverse) p7=some (.lst wq.reverse):=upd_same
   have s47:=s5.trans s7
   have r7:=r6.same s7
   generalize upd H5 p7 (.lst wq.reverse)=H7 at s7 h7 s47 r7⊢
   have h7l:=s47 _ _ h4l
   have h7o:=s47 _ _ h4o
   have r8:=r5.same s47
   have s07:=s4.trans s47
   have lx:us.reverse.length+wq.reverse.length<=sizeLine:=small6 (by rw[List.length_reverse,List.length_reverse];omega)
   fail "R"
   refine⟨mus (pcs t++xr),by rw[mus_app];omega,s07.updF hlH _,ts,us.reverse++wq.reverse,pcs t++xr,by rw[upd_ne hlo];exact h7o,upd_same,?_,?_,?_,rfl,l3⟩
   ·rw[List.reverse_append,List.reverse_reverse,List.reverse_reverse,List.map_append]
    have kt9:Kt H7 (upd H7 l (.lst (us.reverse++wq.reverse))):=Kt.lst h7l _
    exact(r7.kt kt9).append (r8.kt kt9)
   ·intro y hy
    rcases List.mem_append.mp hy with hy|hy
    ·exact pok y hy
    ·exact okr y hy
   ·rw[←e3,List.flatMap_append,pcs_txt]
    rfl
theorem nm_thing_text:Nm ["thing"] (defScope s_thing_text):=by decide +kernel
theorem sc_thing_text:FnScope ["thing"] ["thing"] (defScope s_thing_text):=⟨rfl,rfl,rfl,by decide +kernel,rfl,by decide +kernel,by decide +kernel⟩
theorem ok_ttx{f:Addr}{fd:FuncData}(F:Fun K "thing_text" "thing_text" s_thing_text f fd)(SPT:Has P w K mg base "spell_thing" 2 ["thing"] (spSpell K) gS sfd)(WRT:Has P w K mg base "written" 4 ["thing","spell"] (spWrt K gS) gW wfd):FnOk P w K mg base CX0 5 f fd ["thing"] (spTtx K):=by
 refine F.ok sc_thing_text (fun vs H Q E h=>?_) (fun cdv A outer s H vs Q E hr h=>?_)
 ·obtain⟨_,_,rfl,_⟩:=h
  rfl
 obtain⟨v,tm,rfl,r,ht,hw,hl,k⟩:=h
 refine⟨_,(@pss_one _ _ _ (@ps_ret _ _ _ _ (@pe_call _ _ _ _ _ _ _ _ _ _ _ _ _ _ _ _ WRT.ok (hr.mono (by omega)) (by show _=_;kernel_rfl) WRT.at' WRT.kp WRT.bd .nil pass0 (@pa_c _ _ _ _ _ (va nm_thing_text 0) (pa_c (pe_glob (v:=.ref gS) (by show _=_;kernel_rfl) SPT.at' rfl) pa_nil) (by rfl)) (by decide) (by rfl) (by rfl)))),?_⟩
 try dsimp only[cx_K]
 try dsimp only[cx_K,cx_w]
 fail "R"
 intro H' s'
 exact k _ s'
end
def bb(p:Nat->Bool)(c:Nat):Nat:=if p c=true then 1 else 0
theorem cnt_psg{p:Nat->Bool}{w:List Nat}(h:∀c∈w,p c=false):w.countP p=0:=List.countP_eq_zero.mpr fun c hc=>by rw[h c hc];decide
structure PK(p:Nat->Bool) (k:Nat):Prop where
 w:∀c,48<=c/\c<=57\/97<=c/\c<=122->p c=false
 l:bb p 60+bb p 62+bb p 32<=k
 r:bb p 91+bb p 93+bb p 32<=k
 t:bb p 40+bb p 41+bb p 32<=k
section
variable {p:Nat->Bool}{k:Nat}(P:PK p k)
include P
theorem digs_cnt{n:Int}(h:0<=n/\n<1000000):(digs n).countP p=0:=by
 obtain⟨a,r,e,ha,hr,_,_⟩:=digs_big h
 rw[e]
 refine cnt_psg fun c hc=>P.w c (.inl ?_)
 rcases List.mem_cons.mp hc with rfl|hc
 ·exact ha
 ·exact hr c hc
mutual
theorem cnt_txt:∀t:Th,ThOk t->(thB t).txt.countP p+bb p 32<=k*tsz t
 |.num n,h=>by
  rw[ThOk]at h
  rw[thB,Bw.txt,tsz,digs_cnt P h,Nat.mul_one]
  have:=P.l
  omega
 |.left n,h=>by
  rw[ThOk]at h
  rw[thB,Bw.txt,tsz,List.countP_cons,List.countP_append,digs_cnt P h,List.countP_cons,List.countP_nil,Nat.mul_one]
  have:=P.l
  unfold bb at *
  omega
 |.row l,h=>by
  rw[ThOk]at h
  rw[thB,Bw.txt,tsz,show clo 91=93 from rfl,List.countP_cons,List.countP_append,List.countP_cons,List.countP_nil,Nat.mul_succ]
  have:=P.r
  have:=cnt_txts l h
  unfold bb at *
  omega
 |.tag t l,h=>by
  rw[ThOk]at h
  rw[thB,Bw.txt,tsz,show clo 40=41 from rfl,List.countP_cons,List.countP_append,List.countP_cons,List.countP_nil,Bw.txts,Bw.txt,List.countP_append,cnt_psg (w:=t.cps.toList) (fun c hc=>P.w c (.inr (h.1.2.2.1 c hc))),Nat.mul_succ]
  have:=P.t
  have:=cnt_txtr l h.2
  unfold bb at *
  omega
theorem cnt_txts:∀l:List Th,ThOks l->(Bw.txts (thBs l)).countP p<=k*tszs l
 | [],_=>by rw[thBs,Bw.txts];exact Nat.zero_le _
 |x::r,h=>by
  rw[ThOks]at h
  rw[thBs,Bw.txts,tszs,List.countP_append,Nat.mul_add]
  have:=cnt_txt x h.1
  have:=cnt_txtr r h.2
  omega
theorem cnt_txtr:∀l:List Th,ThOks l->(Bw.txtr (thBs l)).countP p<=k*tszs l
 | [],_=>by rw[thBs,Bw.txtr];exact Nat.zero_le _
 |x::r,h=>by
  rw[ThOks]at h
  rw[thBs,Bw.txtr,tszs,List.countP_cons,List.countP_append,Nat.mul_add]
  have:=cnt_txt x h.1
  have:=cnt_txtr r h.2
  unfold bb at *
  omega
end
end
theorem low_dec{q:Nat->Bool}(h:∀c,c<128->(48<=c/\c<=57\/97<=c/\c<=122)->q c=false):∀c,48<=c/\c<=57\/97<=c/\c<=122->q c=false:=fun c hc=>h c (by omega) hc
theorem pk_op:PK isOp 1:=⟨low_dec (by decide +kernel),by decide +kernel,by decide +kernel,by decide +kernel⟩
theorem pk_sp:PK spB 1:=⟨low_dec (by decide +kernel),by decide +kernel,by decide +kernel,by decide +kernel⟩
theorem pk_six:PK sixB 2:=⟨low_dec (by decide +kernel),by decide +kernel,by decide +kernel,by decide +kernel⟩
structure TxL(i:Nat) (l:List Nat):Prop where
 n:l.length+9<=309*2 ^ i
 o:l.countP isOp+1<=31*2 ^ i
 s:l.countP spB+1<=31*2 ^ i
 x:l.countP sixB+2<=62*2 ^ i
theorem txl_nil:TxL 0 []:=⟨by decide,by decide,by decide,by decide⟩
theorem txl_th{t:Th}(h:ThOk t)(hz:tsz t<=30):TxL 0 (thB t).txt:=by
 have h1:=txt_len t h
 have h2:=cnt_txt pk_op t h
 have h3:=cnt_txt pk_sp t h
 have h4:=cnt_txt pk_six t h
 exact⟨by omega,by omega,by omega,by omega⟩
theorem some_len:∀w∈someL,w.countP (fun _=>true)<=9:=by decide
theorem some_op:∀w∈someL,w.countP isOp<=1:=by decide +kernel
theorem some_sp:∀w∈someL,w.countP spB<=1:=by decide +kernel
theorem some_six:∀w∈someL,w.countP sixB<=2:=by decide +kernel
theorem TxL.spo{i:Nat}{l l':List Nat}(h:TxL i l)(s:Spo l l'):TxL (i+1) l':=by
 have e:∀m:List Nat,m.countP (fun _=>true)=m.length:=fun m=>List.countP_eq_length.mpr fun _ _=>rfl
 have h1:=s (fun _=>true) 9 (by decide) some_len
 rw[e,e]at h1
 have h2:=s isOp 1 (by decide) some_op
 have h3:=s spB 1 (by decide) some_sp
 have h4:=s sixB 2 (by decide) some_six
 obtain⟨a1,a2,a3,a4⟩:=h
 refine⟨?_,?_,?_,?_⟩<;>rw[Nat.pow_succ]<;>omega
theorem TxL.ok{i:Nat}{l:List Nat}(h:TxL i l)(hi:i<=2):TxOk l:=by
 obtain⟨a1,a2,a3,a4⟩:=h
 have:2 ^ i<=4:=Nat.le_trans (Nat.pow_le_pow_right (by decide) hi) (by decide)
 exact⟨by omega,by omega,by omega⟩
theorem tws_tw{l:List Th}(hl:l.length<=900)(h:∀x∈l,Tw (thT x)):Tw (.t (thTs l)):=by
 rw[thTs_map]
 refine .t (by rw[List.length_map];exact hl) fun x hx=>?_
 obtain⟨y,hy,rfl⟩:=List.mem_map.mp hx
 exact h y hy
mutual
theorem th_tw:∀t:Th,tsz t<=800->Tw (thT t)
 |.num n,_=>by rw[thT];exact .t (by show 2<=900;decide) fun x hx=>by rcases List.mem_cons.mp hx with rfl|hx;exact .s _;rw[List.mem_singleton.mp hx];exact .i _
 |.left n,_=>by rw[thT];exact .t (by show 2<=900;decide) fun x hx=>by rcases List.mem_cons.mp hx with rfl|hx;exact .s _;rw[List.mem_singleton.mp hx];exact .i _
 |.row l,h=>by
  rw[tsz]at h
  have hl:=tszs_len l
  rw[thT]
  refine .t (by show 2<=900;decide) fun x hx=>?_
  rcases List.mem_cons.mp hx with rfl|hx
  ·exact .s _
  ·rw[List.mem_singleton.mp hx];exact tws_tw (by omega) (ths_tw l (by omega))
 |.tag x l,h=>by
  rw[tsz]at h
  have hl:=tszs_len l
  rw[thT]
  refine .t (by show 3<=900;decide) fun y hy=>?_
  rcases List.mem_cons.mp hy with rfl|hy
  ·exact .s _
  ·rcases List.mem_cons.mp hy with rfl|hy
   ·exact .s _
   ·rw[List.mem_singleton.mp hy];exact tws_tw (by omega) (ths_tw l (by omega))
theorem ths_tw:∀l:List Th,tszs l<=800->∀x∈l,Tw (thT x)
 | [],_,x,hx=>nomatch hx
 |y::r,h,x,hx=>by
  rw[tszs]at h
  rcases List.mem_cons.mp hx with e|hx
  ·rw[e];exact th_tw y (by omega)
  ·exact ths_tw r (by omega) x hx
end
mutual
theorem th_dep:∀t:Th,(thT t).dep<=2*tdp t+1
 |.num n=>by rw[thT];exact Nat.le_trans (dpt (d:=0) (dpc dps (dpc dpi dpn))) (by omega)
 |.left n=>by rw[thT];exact Nat.le_trans (dpt (d:=0) (dpc dps (dpc dpi dpn))) (by omega)
 |.row l=>by rw[thT,tdp];exact Nat.le_trans (dpt (d:=2*tdps l+2) (dpc dps (dpc (dpt (ths_dep l)) dpn))) (by omega)
 |.tag x l=>by rw[thT,tdp];exact Nat.le_trans (dpt (d:=2*tdps l+2) (dpc dps (dpc dps (dpc (dpt (ths_dep l)) dpn)))) (by omega)
theorem ths_dep:∀l:List Th,T.deps (thTs l)<=2*tdps l+1
 | []=>by rw[thTs];exact dpn
 |x::r=>by
  rw[thTs,tdps]
  exact dpc (Nat.le_trans (th_dep x) (by omega)) (Nat.le_trans (ths_dep r) (by omega))
end
theorem out_ok{l:List Nat}(h:TxOk l):Tw (outT (dueO l))/\(outT (dueO l)).dep<265:=by
 cases e:dueO l with
 |none=>exact⟨.t (by show 2<=900;decide) fun x hx=>by rcases List.mem_cons.mp hx with rfl|hx;exact .s _;rw[List.mem_singleton.mp hx];exact .i _,Nat.lt_of_le_of_lt (dpt (d:=0) (dpc dps (dpc dpi dpn))) (by decide)⟩
 |some t =>
  obtain⟨tk,hl⟩:=dueO_some e
  have fk:FdOk t _ _:=lfind_ok (l:=l) (by rw[hl];exact lfind_th tk)
  have hd:=fk.d
  have hz:=fk.z
  have h1:=h.o
  have h2:=h.z
  refine⟨.t (by show 2<=900;decide) fun x hx=>?_,Nat.lt_of_le_of_lt (dpt (d:=261) (dpc dps (dpc (Nat.le_trans (th_dep t) (by omega)) dpn))) (by decide)⟩
  rcases List.mem_cons.mp hx with rfl|hx
  ·exact .s _
  ·rw[List.mem_singleton.mp hx];exact th_tw t (by omega)
mutual
theorem wdt_of:∀t:Th,tsz t<=900->WdT t
 |.num _,_=>by rw[WdT];trivial
 |.left _,_=>by rw[WdT];trivial
 |.row l,h=>by rw[tsz]at h;rw[WdT];have:=tszs_len l;exact⟨by omega,wdts_of l (by omega)⟩
 |.tag _ l,h=>by rw[tsz]at h;rw[WdT];have:=tszs_len l;exact⟨by omega,wdts_of l (by omega)⟩
theorem wdts_of:∀l:List Th,tszs l<=900->WdTs l
 | [],_=>by rw[WdTs];trivial
 |x::r,h=>by rw[tszs]at h;rw[WdTs];exact⟨wdt_of x (by omega),wdts_of r (by omega)⟩
end
end G12
namespace G12
open PySem L2
def spLTh(K:PySem.W.Frag)(n:Nat):Sp:=fun vs H Q _=>∃(f wa:Addr) (room down:Int) (ws:List Str),vs=[.ref f,.ref wa,.int room,.int down]/\FeedAt H f/\WordsAt H wa ws/\(∀x∈ws,nmOk x)/\1<=room/\room<=30/\0<=down/\down<n /\
 ∀(v':V) (H':Hp) (t:Th),Ext f H H'->Rp K H' (thT t) v'->FdOk t down.toNat room.toNat->Q v' H'
structure LhI(K:PySem.W.Frag) (f:Addr) (H:Hp) (d z:Nat) (i:Nat) (us:List V) (Hc:Hp):Prop where
 x:Ext f H Hc
 t:∃ts:List Th,Rps K Hc (ts.map thT) us/\FdOks ts d (i*z) i
theorem fd_snoc{ts:List Th}{t:Th}{d z y i:Nat}(h:FdOks ts d y i)(k:FdOk t d z):FdOks (ts++[t]) d (y+z) (i+1):=by
 induction ts generalizing y i with
 |nil =>
  obtain⟨a1,a2,a3,a4⟩:=h
  obtain⟨b1,b2,b3⟩:=k
  exact⟨by rw[List.nil_append,ThOks,ThOks];exact⟨b1,trivial⟩,by rw[List.nil_append,tdps,tdps];omega,by rw[List.nil_append,tszs,tszs];omega,by rw[←a4];rfl⟩
 |cons x r ih =>
  obtain⟨a1,a2,a3,a4⟩:=h
  rw[ThOks]at a1
  rw[tdps]at a2
  rw[tszs]at a3
  obtain⟨c1,c2,c3,c4⟩:=ih (y:=y-tsz x) (i:=r.length) ⟨a1.2,by omega,by omega,rfl⟩
  exact⟨by rw[List.cons_append,ThOks];exact⟨a1.1,c1⟩,by rw[List.cons_append,tdps];omega,by rw[List.cons_append,tszs];omega,by rw[List.cons_append,List.length_cons,c4,←a4];rfl⟩
theorem LhI.snoc{K:PySem.W.Frag}{f:Addr}{H Hc Hd:Hp}{d z i:Nat}{us:List V}{t:Th}{v:V}(h:LhI K f H d z i us Hc)(x:Ext f Hc Hd)(r:Rp K Hd (thT t) v)(hk:FdOk t d z):LhI K f H d z (i+1) (us++[v]) Hd:=by
 obtain⟨x0,ts,rs,ht⟩:=h
 refine⟨x0.trans x,ts++[t],?_,?_⟩
 ·rw[List.map_append];exact(rs.kt (x.kt x0.2)).snoc r
 ·rw[Nat.succ_mul];exact fd_snoc ht hk
theorem fd_row{ts:List Th}{d z i:Nat}(h:FdOks ts d z i):FdOk (.row ts) (d+1) (z+1):=⟨by rw[ThOk];exact h.ok,by rw[tdp];have:=h.d;omega,by rw[tsz];have:=h.z;omega⟩
theorem fd_tag{ts:List Th}{d z i:Nat}{x:Str}(hx:nmOk x)(h:FdOks ts d z i):FdOk (.tag x ts) (d+1) (z+1):=⟨by rw[ThOk];exact⟨hx,h.ok⟩,by rw[tdp];have:=h.d;omega,by rw[tsz];have:=h.z;omega⟩
theorem FdOk.mono{t:Th}{d d' z z':Nat}(h:FdOk t d z)(h1:d<=d')(h2:z<=z'):FdOk t d' z':=⟨h.ok,by have:=h.d;omega,by have:=h.z;omega⟩
section
variable {P:Program}{w:World}{K:PySem.W.Frag}{mg:Str->Option Value}{base:Heap}{gT gN gH:Addr}{tfd nfd hfd:FuncData}
theorem nm_L_thing:Nm ["_law_feed_here","_law_words","_law_room","_law_down","_law_form","_law_many","_law_inner"] (defScope s_L_thing):=by decide +kernel
theorem lm_L_thing:Lm ["_law_feed_here","_law_words","_law_room","_law_down","_law_form","_law_many","_law_inner"] (defScope s_L_thing):=by decide +kernel
theorem sc_L_thing:FnScope ["_law_feed_here","_law_words","_law_room","_law_down","_law_form","_law_many","_law_inner"] ["_law_feed_here","_law_words","_law_room","_law_down"] (defScope s_L_thing):=⟨rfl,rfl,rfl,by decide +kernel,rfl,by decide +kernel,by decide +kernel⟩
theorem ok_lthing{f:Addr}{fd:FuncData}{n j:Nat}(hj:2<=j)(F:Fun K "_law_thing" "_law_thing" s_L_thing f fd)(TK:Has P w K mg base "_law_take" 1 ["_law_feed_here","_law_many"] spTake gT tfd)(NU:Has P w K mg base "_law_number" 2 ["_law_feed_here"] spNumber gN nfd)(TH:Has P w K mg base "_law_thing" j ["_law_feed_here","_law_words","_law_room","_law_down"] (spLTh K n) gH hfd)(z_range:mg "range"=none)(z_len:mg "len"=none)(z_min:mg "min"=none)(z_max:mg "max"=none)(z_tuple:mg "tuple"=none) :
  FnOk P w K mg base CX0 (j+1) f fd ["_law_feed_here","_law_words","_law_room","_law_down"] (spLTh K (n+1)):=by
 refine F.ok sc_L_thing (fun vs H Q E h=>?_) (fun cdv A outer s H vs Q E hr h=>?_)
 ·obtain⟨_,_,_,_,_,rfl,_⟩:=h
  rfl
 obtain⟨fe,wa,room,down,ws,rfl,hf,hw,hws,r1,r30,d0,dn,k⟩:=h
 refine⟨_,(@pss_cons _ _ _ _ _ (@sa _ _ _ _ _ _ sc_L_thing.nd lm_L_thing 4 (@pe_call _ _ _ _ _ _ _ _ _ _ _ _ _ _ _ _ TK.ok (hr.mono (by omega)) (by show _=_;kernel_rfl) TK.at' TK.kp TK.bd .nil pass0 (pa_c (va nm_L_thing 0) (pa_c pe_int pa_nil)) (by decide) (by rfl) (by rfl)) (by rfl) (by kernel_rfl) (by exact .inl rfl)) (@pss_cons _ _ _ _ _ (@ps_if _ _ _ _ _ _ _ _ (PW.pt (@pw_or _ _ _ _ _ _ _ (pt_cmpR op_lt (va nm_L_thing 2) pe_int (nomark _)) (@pw_or _ _ _ _ _ _ _ (pt_cmpR op_lt (va nm_L_thing 3) pe_int (nomark _)) (@pw_or1 _ _ _ _ (pt_cmpR op_lt (va nm_L_thing 4) pe_int (nomark _)))))) (@pss_cons _ _ _ _ _ (@ps_if _ _ _ _ _ _ _ _ (@pt_cmpR _ _ _ _ _ _ _ _ op_eq (@pe_call _ _ _ _ _ _ _ _ _ _ _ _ _ _ _ _ TK.ok (hr.mono (by omega)) (by show _=_;kernel_rfl) TK.at' TK.kp TK.bd .nil pass0 (pa_c (va nm_L_thing 0) (pa_c pe_int pa_nil)) (by decide) (by rfl) (by rfl)) pe_int (nomark _)) (@pss_one _ _ _ (@ps_ret _ _ _ _ (@pe_tup _ _ _ _ _ (@pa_c _ _ _ _ _ pe_str (@pa_c _ _ _ _ _ (@pe_ix _ _ _ _ _ _ _ ix_list (@pe_lst _ _ _ _ (@pa_c _ _ _ _ _ (@pe_call _ _ _ _ _ _ _ _ _ _ _ _ _ _ _ _ TK.ok (hr.mono (by omega)) (by show _=_;kernel_rfl) TK.at' TK.kp TK.bd .nil pass0 (pa_c (va nm_L_thing 0) (pa_c pe_int pa_nil)) (by decide) (by rfl) (by rfl)) (@pa_c _ _ _ _ _ (@pe_call _ _ _ _ _ _ _ _ _ _ _ _ _ _ _ _ TK.ok (hr.mono (by omega)) (by show _=_;kernel_rfl) TK.at' TK.kp TK.bd .nil pass0 (pa_c (va nm_L_thing 0) (pa_c pe_int pa_nil)) (by decide) (by rfl) (by rfl)) (@pa_c _ _ _ _ _ (@pe_call _ _ _ _ _ _ _ _ _ _ _ _ _ _ _ _ TK.ok (hr.mono (by omega)) (by show _=_;kernel_rfl) TK.at' TK.kp TK.bd .nil pass0 (pa_c (va nm_L_thing 0) (pa_c pe_int pa_nil)) (by decide) (by rfl) (by rfl)) pa_nil (by rfl)) (by rfl)) (by rfl))) (@pe_call _ _ _ _ _ _ _ _ _ _ _ _ _ _ _ _ TK.ok (hr.mono (by omega)) (by show _=_;kernel_rfl) TK.at' TK.kp TK.bd .nil pass0 (pa_c (va nm_L_thing 0) (pa_c pe_int pa_nil)) (by decide) (by rfl) (by rfl)) (fun _ _=>rfl)) pa_nil (by rfl)) (by rfl))))) pss_nil) (@pss_one _ _ _ (@ps_ret _ _ _ _ (@pe_tup _ _ _ _ _ (@pa_c _ _ _ _ _ pe_str (@pa_c _ _ _ _ _ (@pe_call _ _ _ _ _ _ _ _ _ _ _ _ _ _ _ _ NU.ok (hr.mono (by omega)) (by show _=_;kernel_rfl) NU.at' NU.kp NU.bd .nil pass0 (pa_c (va nm_L_thing 0) pa_nil) (by decide) (by rfl) (by rfl)) pa_nil (by rfl)) (by rfl)))))) pss_nil) (@pss_cons _ _ _ _ _ (@sa _ _ _ _ _ _ sc_L_thing.nd lm_L_thing 5 (@pe_callB _ _ _ _ _ _ _ _ _ (call_min2 rfl) (by show _=_;kernel_rfl) z_min PyProof.Rows.boot_min (@pa_c _ _ _ _ _ (@pe_call _ _ _ _ _ _ _ _ _ _ _ _ _ _ _ _ TK.ok (hr.mono (by omega)) (by show _=_;kernel_rfl) TK.at' TK.kp TK.bd .nil pass0 (pa_c (va nm_L_thing 0) (pa_c pe_int pa_nil)) (by decide) (by rfl) (by rfl)) (@pa_c _ _ _ _ _ (pe_op op_sub (va nm_L_thing 2) pe_int) pa_nil (by rfl)) (by rfl)) (by decide) (by decide) (by rfl) (by rfl)) (by rfl) (by kernel_rfl) (by exact .inl rfl)) (@pss_cons _ _ _ _ _ (@sa _ _ _ _ _ _ sc_L_thing.nd lm_L_thing 6 (@pe_callTy _ _ _ _ _ _ _ _ _ call_tuple_of (by show _=_;kernel_rfl) z_tuple PyProof.Rows.boot_tuple (@pa_c _ _ _ _ _ (@pe_compC _ _ _ _ _ _ _ _ _ _ _ (defScope s_L_thing) ["_law_feed_here","_law_words","_law_room","_law_down","_law_form","_law_many","_law_inner"] ["_law_k"] [0,1,2,3,5] rfl rfl rfl (by decide +kernel) (@pi_range1 _ _ _ _ _ _ (by show _=_;kernel_rfl) z_range (pa_c (va nm_L_thing 5) pa_nil) (by rfl)) (fun _ _ _ _=>(pg_name (i:=0) (show(["_law_k","_law_feed_here","_law_words","_law_room","_law_down","_law_many"]:List Str).Nodup by decide +kernel) rfl (Or.inl (by kernel_rfl)) (by first|exact .inl rfl|exact .inr (by kernel_rfl)))) (fun _ _ _ _=>pifs_nil) (fun _ _ _ _=>(@pe_call _ _ _ _ _ _ _ _ _ _ _ _ _ _ _ _ TH.ok (hr.mono (by omega)) (by show _=_;kernel_rfl) TH.at' TH.kp TH.bd .nil pass0 (@pa_c _ _ _ _ _ (va (show Nm ["_law_k","_law_feed_here","_law_words","_law_room","_law_down","_law_many"] _ by show _=_;kernel_rfl) 1) (@pa_c _ _ _ _ _ (va (show Nm ["_law_k","_law_feed_here","_law_words","_law_room","_law_down","_law_many"] _ by show _=_;kernel_rfl) 2) (@pa_c _ _ _ _ _ (@pe_op _ _ _ _ _ _ _ _ op_fdiv (pe_op op_sub (va (show Nm ["_law_k","_law_feed_here","_law_words","_law_room","_law_down","_law_many"] _ by show _=_;kernel_rfl) 3) pe_int) (@pe_callB _ _ _ _ _ _ _ _ _ (call_max2 rfl) (by show _=_;kernel_rfl) z_max PyProof.Rows.boot_max (@pa_c _ _ _ _ _ pe_int (pa_c (va (show Nm ["_law_k","_law_feed_here","_law_words","_law_room","_law_down","_law_many"] _ by show _=_;kernel_rfl) 5) pa_nil) (by rfl)) (by decide) (by decide) (by rfl) (by rfl))) (@pa_c _ _ _ _ _ (pe_op op_sub (va (show Nm ["_law_k","_law_feed_here","_law_words","_law_room","_law_down","_law_many"] _ by show _=_;kernel_rfl) 4) pe_int) pa_nil (by rfl)) (by rfl)) (by rfl)) (by rfl)) (by decide) (by rfl) (by rfl))) (by intro _;rfl)) pa_nil (by rfl)) (by decide) (by decide) (by rfl) (by rfl)) (by rfl) (by kernel_rfl) (by exact .inl rfl)) (@pss_cons _ _ _ _ _ (@ps_if _ _ _ _ _ _ _ _ (pt_cmpR op_lt (va nm_L_thing 4) pe_int (nomark _)) (@pss_one _ _ _ (@ps_ret _ _ _ _ (@pe_tup _ _ _ _ _ (@pa_c _ _ _ _ _ pe_str (pa_c (va nm_L_thing 6) pa_nil) (by rfl))))) pss_nil) (@pss_one _ _ _ (@ps_ret _ _ _ _ (@pe_tup _ _ _ _ _ (@pa_c _ _ _ _ _ pe_str (@pa_c _ _ _ _ _ (@pe_ix _ _ _ _ _ _ _ ix_list (va nm_L_thing 1) (@pe_call _ _ _ _ _ _ _ _ _ _ _ _ _ _ _ _ TK.ok (hr.mono (by omega)) (by show _=_;kernel_rfl) TK.at' TK.kp TK.bd .nil pass0 (@pa_c _ _ _ _ _ (va nm_L_thing 0) (@pa_c _ _ _ _ _ (@pe_callB _ _ _ _ _ _ _ _ _ call_len_seq (by show _=_;kernel_rfl) z_len PySem.boot_len (pa_c (va nm_L_thing 1) pa_nil) (by decide) (by decide) (by rfl) (by rfl)) pa_nil (by rfl)) (by rfl)) (by decide) (by rfl) (by rfl)) (fun _ _=>rfl)) (pa_c (va nm_L_thing 6) pa_nil) (by rfl)) (by rfl)))))))))),?_⟩
 try dsimp only[cx_K]
 try dsimp only[cx_K]
 refine seq_cut3 ?_
 intro N1 N2 N3 c1 c2 c3
 fail "R"
 intro q H1 q0 q6 x1
 have hf1:=x1.2
 have hw1:=hw.ext hf x1
 refine c1 _ _ ?_
 refine if_at (room<2\/down<1\/q<2) (fun C hA hB=>?_) (fun p1=>?_) (fun p1=>?_)
 ·fail "R"
  refine ite2 (fun c=>hA (.inl (of_decide_eq_true c))) (fun c=>?_)
  have n1:¬room<2:=fun z=>c (decide_eq_true z)
  fail "R"
  refine ite2 (fun c=>hA (.inr (.inl (of_decide_eq_true c)))) (fun c=>?_)
  have n2:¬down<1:=fun z=>c (decide_eq_true z)
  fail "R"
  generalize hb:decide (q<2)=b
  cases b with
  |true=>exact hA (.inr (.inr (of_decide_eq_true hb)))
  |false =>
   refine hB fun z=>?_
   rcases z with z|z|z
   ·exact n1 z
   ·exact n2 z
   ·exact of_decide_eq_false hb z
 ·clear c1 c2 c3
  have lf:∀n:Int,0<=n->n<1000000->FdOk (.left n) down.toNat room.toNat:=fun n n0 n1=>⟨by rw[ThOk];exact⟨n0,n1⟩,by rw[tdp];omega,by rw[tsz];omega⟩
  have nf:∀n:Int,0<=n->n<1000000->FdOk (.num n) down.toNat room.toNat:=fun n n0 n1=>⟨by rw[ThOk];exact⟨n0,n1⟩,by rw[tdp];omega,by rw[tsz];omega⟩
  fail "R"
  intro z H2 z0 z3 x2
  have hf2:=x2.2
  have x12:=x1.trans x2
  by_cases hz:z=0
  ·subst hz
   fail "R"
   intro a1 H3 a10 a11 x3
   have hf3:=x3.2
   fail "R"
   intro a2 H4 a20 a21 x4
   have hf4:=x4.2
   fail "R"
   intro a3 H5 a30 a31 x5
   have hf5:=x5.2
   fail "R"
   intro p6 hp6
   have h6:upd H5 p6 (.lst [.int a1,.int a2,.int a3]) p6=some (.lst [.int a1,.int a2,.int a3]):=upd_same
   have x6:Ext fe H5 (upd H5 p6 (.lst [.int a1,.int a2,.int a3])):=(Ext.refl hf5).new hp6 _
   have n6:=lst_ne_feed hf5 hp6
   generalize upd H5 p6 (.lst [.int a1,.int a2,.int a3])=H6 at h6 x6⊢
   have hf6:=x6.2
   fail "R"
   intro a7 H7 a70 a71 x7
   have h7:=x7.1 _ _ n6 h6
   have hf7:=x7.2
   obtain⟨m,hm,hm0,hm1⟩:∃m:Int,atI [V.int a1,V.int a2,V.int a3] a7=some (.int m)/\0<=m/\m<1000000:=by
    have:a7=0\/a7=1\/a7=2:=by omega
    rcases this with rfl|rfl|rfl
    ·exact⟨a1,rfl,a10,by omega⟩
    ·exact⟨a2,rfl,a20,by omega⟩
    ·exact⟨a3,rfl,a30,a31⟩
   fail "R"
   intro p8 hp8
   exact k _ _ (.left m) ((((((x12.trans x3).trans x4).trans x5).trans x6).trans x7).new hp8 _) (by rw[thT];exact Rp.t (SqT.of upd_same) (.cons .s (.one .i))) (lf m hm0 hm1)
  ·fail "R"
   rw[show decide (V.int z=V.int 0)=false from decide_eq_false fun e=>hz (by injection e)]
   fail "R"
   intro m H3 m0 m1 x3
   fail "R"
   intro p4 hp4
   exact k _ _ (.num m) ((x12.trans x3).new hp4 _) (by rw[thT];exact Rp.t (SqT.of upd_same) (.cons .s (.one .i))) (nf m m0 m1)
 ·have rm2:2<=room:=by omega
  have dn1:1<=down:=by omega
  have q2:2<=q:=by omega
  clear c1
  refine c2 _ _ ?_
  fail "R"
  intro y H2 y0 y5 x2
  have hf2:=x2.2
  have hw2:=hw1.ext hf1 x2
  have x12:=x1.trans x2
  fail "R"
  generalize hm:(if room-1<y then room-1 else y)=many
  have hm0:0<=many/\many<=room-1/\many<=4:=by
   rw[←hm]
   split<;>omega
  clear c2 c3
  refine comp_range (n:=many.toNat) (fun i σ us Hc=>(∃y,σ=[y,some (.ref fe),some (.ref wa),some (.int room),some (.int down),some (.int many)])/\LhI K fe H2 (down-1).toNat ((room-1) / max 1 many).toNat i us Hc)
   ⟨⟨none,rfl⟩,Ext.refl hf2,[],.nil,⟨by rw[ThOks];trivial,Nat.zero_le _,by rw[tszs];exact Nat.zero_le _,rfl⟩⟩ (fun i σ us Hc _ ⟨_,i2⟩=>by obtain⟨_,ts,rs,fk⟩:=i2;have:=rs.length;rw[List.length_map,fk.n]at this;omega) (small (by omega)) ?_ ?_
  ·rintro i σ us Hc hi ⟨⟨y,rfl⟩,i2⟩
   have hfc:=i2.x.2
   have hwc:=hw2.ext hf2 i2.x
   have em:(if many>1 then many else 1)=max 1 many:=by
    split<;>omega
   have hm1:1<=max 1 many:=by omega
   have hr0:1<=(room-1) / max 1 many:=(Int.le_ediv_iff_mul_le (by omega)).mpr (by omega)
   have hr1:(room-1) / max 1 many<=30:=Int.le_trans (Int.ediv_le_self _ (by omega)) (by omega)
   rw[←em]at hr0 hr1
   have cd:CDiv (room-1) (if many>1 then many else 1):=by rw[em];exact⟨by omega,by omega⟩
   fail "R"
   intro v' H' t x' r' fk
   refine⟨⟨_,rfl⟩,i2.snoc x' r' (fk.mono (by omega) ?_)⟩
   rw[em]
   exact Nat.le_refl _
  ·rintro σ us Hc ⟨_,i2⟩ p4 hp4
   obtain⟨xc,ts,rs,fk⟩:=i2
   have hfc:=xc.2
   have hwc:=hw2.ext hf2 xc
   have s4:=same_new hp4 (.lst us)
   have h4:upd Hc p4 (.lst us) p4=some (.lst us):=upd_same
   generalize upd Hc p4 (.lst us)=H4 at s4 h4⊢
   have lus:=rs.length
   rw[List.length_map,fk.n]at lus
   fail "R"
   refine .inl ⟨SqL.of h4,fun p5 hp5=>?_⟩
   have s5:=same_new hp5 (.tup us)
   have h5:upd H4 p5 (.tup us) p5=some (.tup us):=upd_same
   generalize upd H4 p5 (.tup us)=H5 at s5 h5⊢
   have hw5:=(hwc.same s4).same s5
   have hf5:FeedAt H5 fe:=((hfc.same s4).same s5)
   have hle:many.toNat*((room-1) / max 1 many).toNat<=(room-1).toNat:=by
    by_cases h0:many=0
    ·rw[h0]
     simp
    ·rw[show max 1 many=many by omega]
     have h2:many*((room-1) / many)<=room-1:=Int.mul_ediv_self_le (by omega)
     have h3:0<=(room-1) / many:=Int.ediv_nonneg (by omega) (by omega)
     rw[←Int.toNat_mul (by omega) h3]
     omega
   have fk2:FdOks ts (down-1).toNat (room-1).toNat many.toNat:=⟨fk.ok,fk.d,Nat.le_trans fk.z hle,fk.n⟩
   have hwl:=hw5.1
   have hl1:0<((ws.map V.str).length:Int):=by rw[List.length_map];have:=hw5.2.1;omega
   have hl2:((ws.map V.str).length:Int)<1073741824:=by rw[List.length_map];have:=hw5.2.2;omega
   fail "R"
   refine ite2 (fun c=>?_) (fun c=>?_)
   ·fail "R"
    intro p6 hp6
    have s6:=same_new hp6 (.tup [.str "row",.ref p5])
    refine k _ _ (.row ts) ((x12.trans xc).same ((s4.trans s5).trans s6)) ?_ ((fd_row fk2).mono (by omega) (by omega))
    rw[thT,thTs_map]
    exact Rp.t (SqT.of upd_same) (.cons .s (.one (Rp.t (SqT.of (s6 _ _ h5)) (rs.same ((s4.trans s5).trans s6)))))
   ·fail "R"
    intro u H6 u0 u1 x6
    have hw6:=hw5.ext hf5 x6
    have hwl6:=hw6.1
    rw[List.length_map]at u1
    have hul:u.toNat<ws.length:=by omega
    have au:atI (ws.map V.str) u=some (.str ws[u.toNat]):=by
     have:=atI_nat (xs:=ws.map V.str) (j:=u.toNat) (v:=.str ws[u.toNat]) (by rw[List.getElem?_map,List.getElem?_eq_getElem hul];rfl)
     rw[show((u.toNat:Nat):Int)=u by omega]at this
     exact this
    have n5:p5≠fe:=fun z=>by
     obtain⟨a,b,e⟩:=hf5
     rw[←z,h5]at e
     cases e
    have h56:=x6.1 _ _ n5 h5
    fail "R"
    intro p7 hp7
    have s7:=same_new hp7 (.tup [.str "tag",.str ws[u.toNat],.ref p5])
    refine k _ _ (.tag ws[u.toNat] ts) (((((x12.trans xc).same (s4.trans s5)).trans x6).same s7)) ?_ ((fd_tag (hws _ (List.getElem_mem hul)) fk2).mono (by omega) (by omega))
    rw[thT,thTs_map]
    exact Rp.t (SqT.of upd_same) (.cons .s (.cons .s (.one (Rp.t (SqT.of (s7 _ _ h56)) (((rs.same (s4.trans s5)).kt (x6.kt hf5)).same s7)))))
end
theorem ixN_nat{n i:Nat}(h:i<n):ixN n (i:Int)=some i:=by unfold ixN;rw[if_pos (by omega)];simp;omega
def spSg:Sp:=fun vs H Q _=>vs=[]/\∀x:Str,1<=x.length->x.length<=1000->Q (.str x) H
def spSpo:Sp:=fun vs H Q _=>∃(f:Addr) (l:List Nat),vs=[.ref f,.str (ofL l)]/\FeedAt H f/\l.length<=2900/\∀(l':List Nat) (H':Hp),Ext f H H'->Spo l l'->Q (.str (ofL l')) H'
section
variable {P:Program}{w:World}{K:PySem.W.Frag}{mg:Str->Option Value}{base:Heap}{gT gS:Addr}{tfd sfd:FuncData}
theorem nm_L_signs:Nm ["_law_signs_here"] (defScope s_L_signs):=by decide +kernel
theorem lm_L_signs:Lm ["_law_signs_here"] (defScope s_L_signs):=by decide +kernel
theorem sc_L_signs:FnScope ["_law_signs_here"] [] (defScope s_L_signs):=⟨rfl,rfl,rfl,by decide +kernel,rfl,by decide +kernel,by decide +kernel⟩
theorem ok_lsg{f:Addr}{fd:FuncData}(F:Fun K "_law_signs" "_law_signs" s_L_signs f fd):FnOk P w K mg base CX0 1 f fd [] spSg:=by
 refine F.ok sc_L_signs (fun vs H Q E h=>?_) (fun cdv A outer s H vs Q E hr h=>?_)
 ·obtain⟨rfl,_⟩:=h
  rfl
 obtain⟨rfl,k⟩:=h
 refine⟨_,(@pss_cons _ _ _ _ _ (sa sc_L_signs.nd lm_L_signs 0 pe_str) (@pss_one _ _ _ (@ps_ret _ _ _ _ (pe_op op_add_str (va nm_L_signs 0) pe_str)))),?_⟩
 try dsimp only[cx_K]
 try dsimp only[cx_K]
 fail "R"
 refine k _ ?_ ?_
 ·rw[strLen_append]
  decide +kernel
 ·rw[strLen_append]
  decide +kernel
theorem nm_L_spoilt:Nm ["_law_feed_here","_law_text","_law_at","_law_form","_law_signs_here","_law_sign","_law_words","_law_spot","_law_far","_law_some"] (defScope s_L_spoilt):=by decide +kernel
theorem lm_L_spoilt:Lm ["_law_feed_here","_law_text","_law_at","_law_form","_law_signs_here","_law_sign","_law_words","_law_spot","_law_far","_law_some"] (defScope s_L_spoilt):=by decide +kernel
theorem sc_L_spoilt:FnScope ["_law_feed_here","_law_text","_law_at","_law_form","_law_signs_here","_law_sign","_law_words","_law_spot","_law_far","_law_some"] ["_law_feed_here","_law_text"] (defScope s_L_spoilt):=⟨rfl,rfl,rfl,by decide +kernel,rfl,by decide +kernel,by decide +kernel⟩
@[irreducible] def esS:List Expr:=match ifB (ifB (ifB ((defBody s_L_spoilt).drop 8)))with
 |.Assign _ (.List es _) _::_=>es
 |_=>[]
@[irreducible] def posS (i:Nat):Pos:=match ifB (ifB (ifB ((defBody s_L_spoilt).drop 8)))with
 | [.Assign [.Name _ a] (.List _ b) c,.Assign [.Subscript (.Name _ d) (.Name _ e) g] (.Subscript (.Name _ h) (.Call (.Name _ k) [.Name _ m,.Constant _ _ n] [] o) q) r]=>[a,b,c,d,e,g,h,k,m,n,o,q,r].getD i a
 |_=>⟨0,0,0,0⟩
def someS:List Str:=["01","<>","<a>","<07>","[]","()","(a)","(row)","a","1000000","-1","?1","<1000000>","[ ]"]
theorem els_body:ifB (ifB (ifB ((defBody s_L_spoilt).drop 8)))=[.Assign [.Name "_law_some" (posS 0)] (.List esS (posS 1)) (posS 2),.Assign [.Subscript (.Name "_law_words" (posS 3)) (.Name "_law_spot" (posS 4)) (posS 5)] (.Subscript (.Name "_law_some" (posS 6)) (.Call (.Name "_law_take" (posS 7)) [.Name "_law_feed_here" (posS 8),.Constant (.int 14) 0 (posS 9)] [] (posS 10)) (posS 11)) (posS 12)]:=by unfold esS posS;kernel_rfl
theorem sS1:strsOf esS=some someS:=by unfold esS;kernel_rfl
theorem some_ofL:someS=someL.map ofL:=by decide +kernel
theorem spo_els{f:Addr}{cdv:Value}{A:Around}{outer:List PySem.Env}{s:Shared}{H0:Hp}{E:XK}(TK:Has P w K mg base "_law_take" 1 ["_law_feed_here","_law_many"] spTake gT tfd)(hr:Room 1 (A.deeper (PyProof.Rows.envOfC "_law_spoilt" (defScope s_L_spoilt) s.heap.objs.size f cdv)))
  {D:L2.Ends}{H:Hp}{fe p:Addr}{ws:List (List Nat)}{i:Nat}{o1 o2 o3 o4 o5 o8:Option V}(hf:FeedAt H fe) (hp:H p=some (.lst ((ws.map ofL).map V.str))) (np:p≠fe) (hi:i<ws.length) (k:∀(w:List Nat) (o9:Option V) (H':Hp),w∈someL->Frm [p] fe H H'->H' p=some (.lst (((ws.set i w).map ofL).map V.str))->D.nx [some (.ref fe),o1,o2,o3,o4,o5,some (.ref p),some (.int (i:Nat)),o8,o9] H') :
  tBlk (cxOf CX0 P w K mg base ["_law_feed_here","_law_text","_law_at","_law_form","_law_signs_here","_law_sign","_law_words","_law_spot","_law_far","_law_some"] "_law_spoilt" (defScope s_L_spoilt) f cdv A outer s H0 E).nox (ifB (ifB (ifB ((defBody s_L_spoilt).drop 8)))) D [some (.ref fe),o1,o2,o3,o4,o5,some (.ref p),some (.int (i:Nat)),o8,none] H:=by
 rw[els_body]
 refine blk_of (pss_cons (sa sc_L_spoilt.nd lm_L_spoilt 9 (pe_lst (pa_strs sS1))) (pss_one (ps_asg (pe_ix ix_list (va nm_L_spoilt 9) (pe_call TK.ok (hr.mono (by omega)) (by show _=_;kernel_rfl) TK.at' TK.kp TK.bd .nil pass0 (pa_c (va nm_L_spoilt 0) (pa_c pe_int pa_nil))) (fun _ _=>rfl)) (pg_sub (va nm_L_spoilt 6) (va nm_L_spoilt 7) set_list)))) ?_
 try dsimp only[cx_K]
 fail "R"
 intro p1 hp1
 have h1:upd H p1 (.lst (someS.map V.str)) p1=some (.lst (someS.map V.str)):=upd_same
 have x1:Ext fe H (upd H p1 (.lst (someS.map V.str))):=(Ext.refl hf).new hp1 _
 have n1:=lst_ne_feed hf hp1
 generalize upd H p1 _=H1 at h1 x1⊢
 have hf1:=x1.2
 fail "R"
 intro c H2 c0 c14 x2
 have h2:=x2.1 _ _ n1 h1
 have hp2:=x2.1 _ _ np (x1.1 _ _ np hp)
 obtain⟨c,rfl⟩:=Int.eq_ofNat_of_zero_le c0
 have hc:c<someL.length:=by show c<14;omega
 have ac:atI (someS.map V.str) (c:Int)=some (.str (ofL someL[c])):=atI_nat (by rw[some_ofL,List.map_map,List.getElem?_map,List.getElem?_eq_getElem hc];rfl)
 have hx:ixN ((ws.map ofL).map V.str).length (i:Int)=some i:=ixN_nat (by rw[List.length_map,List.length_map];exact hi)
 have hset:((ws.map ofL).map V.str).set i (.str (ofL someL[c]))=((ws.set i someL[c]).map ofL).map V.str:=by rw[List.map_set,List.map_set]
 have f2:Frm [p] fe H H2:=Ext.frm hf (x1.trans x2)
 have h3:upd H2 p (.lst (((ws.set i someL[c]).map ofL).map V.str)) p=some (.lst (((ws.set i someL[c]).map ofL).map V.str)):=upd_same
 have f3:=f2.upd (o:=.lst (((ws.set i someL[c]).map ofL).map V.str)) (.head _) np hp2
 have fin:=fun o9=>k someL[c] o9 _ (List.getElem_mem hc) f3 h3
 fail "R"
 rw[hset]
 exact fin _
theorem spo_wrd{f:Addr}{cdv:Value}{A:Around}{outer:List PySem.Env}{s:Shared}{H0:Hp}{E:XK}(TK:Has P w K mg base "_law_take" 1 ["_law_feed_here","_law_many"] spTake gT tfd)(z_len:mg "len"=none)(hr:Room 1 (A.deeper (PyProof.Rows.envOfC "_law_spoilt" (defScope s_L_spoilt) s.heap.objs.size f cdv)))
  {D:L2.Ends}{H:Hp}{fe:Addr}{l:List Nat}{b:Int}{o2 o4 o5:Option V}(hf:FeedAt H fe) (hl:l.length<=2900) (b3:3<=b) (b7:b<7) (k:∀(l':List Nat) (H':Hp),Ext fe H H'->Spo l l'->D.rt (.str (ofL l')) H') :
  tBlk (cxOf CX0 P w K mg base ["_law_feed_here","_law_text","_law_at","_law_form","_law_signs_here","_law_sign","_law_words","_law_spot","_law_far","_law_some"] "_law_spoilt" (defScope s_L_spoilt) f cdv A outer s H0 E).nox ((defBody s_L_spoilt).drop 5) D [some (.ref fe),some (.str (ofL l)),o2,some (.int b),o4,o5,none,none,none,none] H:=by
 refine blk_of ((@pss_cons _ _ _ _ _ (@sa _ _ _ _ _ _ sc_L_spoilt.nd lm_L_spoilt 6 (pe_bm PySem.F.plainAttrs_str PySem.F.slot_str_split PySem.F.type_str_split mt_split (va nm_L_spoilt 1) (pa_c pe_str pa_nil) (hbase:=by kernel_rfl) (hfew:=by kernel_rfl) (hline:=by kernel_rfl) (hs:=by kernel_rfl) (hplain:=by kernel_rfl)) (by rfl) (by kernel_rfl) (by exact .inl rfl)) (@pss_cons _ _ _ _ _ (@sa _ _ _ _ _ _ sc_L_spoilt.nd lm_L_spoilt 7 (@pe_call _ _ _ _ _ _ _ _ _ _ _ _ _ _ _ _ TK.ok (hr.mono (by omega)) (by show _=_;kernel_rfl) TK.at' TK.kp TK.bd .nil pass0 (@pa_c _ _ _ _ _ (va nm_L_spoilt 0) (@pa_c _ _ _ _ _ (@pe_callB _ _ _ _ _ _ _ _ _ call_len_seq (by show _=_;kernel_rfl) z_len PySem.boot_len (pa_c (va nm_L_spoilt 6) pa_nil) (by decide) (by decide) (by rfl) (by rfl)) pa_nil (by rfl)) (by rfl)) (by decide) (by rfl) (by rfl)) (by rfl) (by kernel_rfl) (by exact .inl rfl)) (@pss_cons _ _ _ _ _ (@sa _ _ _ _ _ _ sc_L_spoilt.nd lm_L_spoilt 8 (@pe_call _ _ _ _ _ _ _ _ _ _ _ _ _ _ _ _ TK.ok (hr.mono (by omega)) (by show _=_;kernel_rfl) TK.at' TK.kp TK.bd .nil pass0 (@pa_c _ _ _ _ _ (va nm_L_spoilt 0) (@pa_c _ _ _ _ _ (@pe_callB _ _ _ _ _ _ _ _ _ call_len_seq (by show _=_;kernel_rfl) z_len PySem.boot_len (pa_c (va nm_L_spoilt 6) pa_nil) (by decide) (by decide) (by rfl) (by rfl)) pa_nil (by rfl)) (by rfl)) (by decide) (by rfl) (by rfl)) (by rfl) (by kernel_rfl) (by exact .inl rfl)) (@pss_cons _ _ _ _ _ (@ps_if _ _ _ _ _ _ _ _ (pt_cmpR op_eq (va nm_L_spoilt 3) pe_int (nomark _)) (@pss_one _ _ _ (@sa _ _ _ _ _ _ sc_L_spoilt.nd lm_L_spoilt 6 (@pe_op _ _ _ _ _ _ _ _ op_cat (@pe_slice _ _ _ _ _ _ _ _ _ _ sl_list (va nm_L_spoilt 6) po_none (po_some (va nm_L_spoilt 7))) (@pe_slice _ _ _ _ _ _ _ _ _ _ sl_list (va nm_L_spoilt 6) (@po_some _ _ _ (pe_op op_add (va nm_L_spoilt 7) pe_int)) po_none)) (by rfl) (by kernel_rfl) (by exact .inl rfl))) (@pss_one _ _ _ (@ps_if _ _ _ _ _ _ _ _ (pt_cmpR op_eq (va nm_L_spoilt 3) pe_int (nomark _)) (@pss_one _ _ _ (@sa _ _ _ _ _ _ sc_L_spoilt.nd lm_L_spoilt 6 (@pe_op _ _ _ _ _ _ _ _ op_cat (@pe_op _ _ _ _ _ _ _ _ op_cat (@pe_slice _ _ _ _ _ _ _ _ _ _ sl_list (va nm_L_spoilt 6) po_none (po_some (va nm_L_spoilt 7))) (@pe_slice _ _ _ _ _ _ _ _ _ _ sl_list (va nm_L_spoilt 6) (po_some (va nm_L_spoilt 7)) (@po_some _ _ _ (pe_op op_add (va nm_L_spoilt 7) pe_int)))) (@pe_slice _ _ _ _ _ _ _ _ _ _ sl_list (va nm_L_spoilt 6) (po_some (va nm_L_spoilt 7)) po_none)) (by rfl) (by kernel_rfl) (by exact .inl rfl))) (@pss_one _ _ _ (@ps_if _ _ _ _ _ _ _ _ (pt_cmpR op_eq (va nm_L_spoilt 3) pe_int (nomark _)) (@pss_one _ _ _ (@ps_asg _ _ _ _ _ _ (@pe_tup _ _ _ _ _ (@pa_c _ _ _ _ _ (pe_ix ix_list (va nm_L_spoilt 6) (va nm_L_spoilt 8) (fun _ _=>rfl)) (@pa_c _ _ _ _ _ (pe_ix ix_list (va nm_L_spoilt 6) (va nm_L_spoilt 7) (fun _ _=>rfl)) pa_nil (by rfl)) (by rfl))) (@pg_tupK _ _ _ _ _ (2) K rfl rfl (@pgs_cons _ _ _ _ _ (pg_sub (va nm_L_spoilt 6) (va nm_L_spoilt 7) set_list) (@pgs_cons _ _ _ _ _ (pg_sub (va nm_L_spoilt 6) (va nm_L_spoilt 8) set_list) pgs_nil (by rfl)) (by rfl)) (by rfl) (by rfl)) (by rfl) (by rfl) (by rfl))) pss_blk))))) (@pss_one _ _ _ (@ps_ret _ _ _ _ (@pe_bm _ _ _ _ _ _ _ _ _ _ _ _ PySem.F.plainAttrs_str PySem.F.slot_str_join PySem.F.type_str_join mt_join pe_str (pa_c (va nm_L_spoilt 6) pa_nil) (by kernel_rfl) (by kernel_rfl) (by kernel_rfl) (by kernel_rfl) (by kernel_rfl))))))))) ?_
 try dsimp only[cx_K]
 try dsimp only[cx_K]
 have hz:(ofL l).length<=100000:=by rw[ofL_len];omega
 have hy:((Str.ofString " ").length == 0)=false:=by decide
 refine seq_cut4 ?_
 intro N1 N2 N3 N4 c1 c2 c3 c4
 fail "R"
 intro p hp
 rw[show Txt.split (ofL l) (Str.ofString " ")=(sp 32 l).map ofL from split_ofL l 32]
 have hp1:upd H p (.lst (((sp 32 l).map ofL).map V.str)) p=some (.lst (((sp 32 l).map ofL).map V.str)):=upd_same
 have x1:Ext fe H (upd H p (.lst (((sp 32 l).map ofL).map V.str))):=(Ext.refl hf).new hp _
 have np:=lst_ne_feed hf hp
 generalize upd H p _=H1 at hp1 x1⊢
 have hf1:=x1.2
 have hln:=cnt_jn (fun _=>true) (sp 32 l) (sp_ne 32 l)
 rw[jn_sp,show b32 (fun _=>true)=1 from rfl,Nat.mul_one,show l.countP (fun _=>true)=l.length from List.countP_eq_length.mpr fun _ _=>rfl]at hln
 have hn1:1<=(sp 32 l).length:=by
  cases e:sp 32 l with
  |nil=>exact absurd e (sp_ne 32 l)
  |cons=>simp
 have fin:∀(ws':List (List Nat)) (p':Addr) (H':Hp) (o7 o8 o9:Option V),Ext fe H H'->H' p'=some (.lst ((ws'.map ofL).map V.str))->(∀(p:Nat->Bool) (k:Nat),1<=k->(∀w∈someL,w.countP p<=k)->(ws'.length<=(sp 32 l).length+1/\cw p ws'<=2*cw p (sp 32 l))\/(ws'.length<=(sp 32 l).length/\cw p ws'<=cw p (sp 32 l)+k)) ->
   N4 [some (.ref fe),some (.str (ofL l)),o2,some (.int b),o4,o5,some (.ref p'),o7,o8,o9] H':=by
  intro ws' p' H' o7 o8 o9 x' h' hW
  refine c4 _ _ ?_
  have hW9:=hW (fun _=>true) 9 (by decide) (by decide)
  have hsum:((ws'.map ofL).map (·.length)).sum=cw (fun _=>true) ws':=by
   unfold cw
   rw[List.map_map]
   congr 1
   exact List.map_congr_left fun w _=>by show(ofL w).length=_;rw[ofL_len];exact(List.countP_eq_length.mpr fun _ _=>rfl).symm
  have hj:((ws'.map ofL).map (·.length)).sum+(ws'.map ofL).length*(" ":Str).length<=16777216:=by
   rw[hsum,show(" ":Str).length=1 by decide +kernel,List.length_map]
   omega
  have sq:SqL K H' p' ((ws'.map ofL).map V.str):=SqL.of h'
  clear c1 c2 c3 c4
  fail "R"
  rw[jn_join]
  exact k _ _ x' (spo_words hW)
 clear c4
 have hlw:(((sp 32 l).map ofL).map V.str).length=(sp 32 l).length:=by rw[List.length_map,List.length_map]
 have hl1:(0:Int)<((((sp 32 l).map ofL).map V.str).length:Int):=by rw[hlw];omega
 have hl2:((((sp 32 l).map ofL).map V.str).length:Int)<1073741824:=by rw[hlw];omega
 fail "R"
 intro s2 H2 s20 s21 x2
 have hf2:=x2.2
 have hp2:=x2.1 _ _ np hp1
 fail "R"
 intro s3 H3 s30 s31 x3
 have hf3:=x3.2
 have hp3:=x3.1 _ _ np hp2
 have x03:=(x1.trans x2).trans x3
 rw[hlw]at s21 s31
 obtain⟨i,rfl⟩:=Int.eq_ofNat_of_zero_le s20
 obtain⟨j,rfl⟩:=Int.eq_ofNat_of_zero_le s30
 have hi:i<(sp 32 l).length:=by omega
 have hj:j<(sp 32 l).length:=by omega
 have ei:∀(x:Nat),(x:Int)+1=((x+1:Nat):Int):=fun x=>by omega
 have b4:b=3\/b=4\/b=5\/b=6:=by omega
 refine c3 _ _ ?_
 clear c1 c2 c3
 rcases b4 with rfl|rfl|rfl|rfl
 ·fail "R"
  intro p4 hp4
  rw[cut_takeL,←List.map_take,←List.map_take]
  have h4:upd H3 p4 (.lst ((((sp 32 l).take i).map ofL).map V.str)) p4=some (.lst ((((sp 32 l).take i).map ofL).map V.str)):=upd_same
  have s4:=same_new hp4 (.lst ((((sp 32 l).take i).map ofL).map V.str))
  generalize upd H3 p4 _=H4 at h4 s4⊢
  have hp4':=s4 _ _ hp3
  fail "R"
  intro p5 hp5
  rw[ei,cut_fromL,←List.map_drop,←List.map_drop]
  have h5:upd H4 p5 (.lst ((((sp 32 l).drop (i+1)).map ofL).map V.str)) p5=some (.lst ((((sp 32 l).drop (i+1)).map ofL).map V.str)):=upd_same
  have s5:=same_new hp5 (.lst ((((sp 32 l).drop (i+1)).map ofL).map V.str))
  have h45:=s5 _ _ h4
  generalize upd H4 p5 _=H5 at h5 s5 h45⊢
  have lz:((((sp 32 l).take i).map ofL).map V.str).length+((((sp 32 l).drop (i+1)).map ofL).map V.str).length<=sizeLine:=by
   simp only[List.length_map,List.length_take,List.length_drop]
   rw[sizeLine_eq]
   omega
  fail "R"
  intro p6 hp6
  rw[←List.map_append,←List.map_append]
  have s6:=same_new hp6 (.lst (((((sp 32 l).take i)++((sp 32 l).drop (i+1))).map ofL).map V.str))
  have h6:upd H5 p6 (.lst (((((sp 32 l).take i)++((sp 32 l).drop (i+1))).map ofL).map V.str)) p6=some (.lst (((((sp 32 l).take i)++((sp 32 l).drop (i+1))).map ofL).map V.str)):=upd_same
  generalize upd H5 p6 _=H6 at h6 s6⊢
  fail "R"
  refine fin _ _ _ _ _ _ (((x03.same s4).same s5).same s6) h6 fun p k hk hs=>.inr ⟨?_,?_⟩
  ·simp only[List.length_append,List.length_take,List.length_drop]
   omega
  ·have e1:=cw_take p i (sp 32 l)
   have e2:=cw_take p 1 ((sp 32 l).drop i)
   rw[List.drop_drop]at e2
   rw[cw_app]
   omega
 ·fail "R"
  intro p4 hp4
  rw[cut_takeL,←List.map_take,←List.map_take]
  have h4:upd H3 p4 (.lst ((((sp 32 l).take i).map ofL).map V.str)) p4=some (.lst ((((sp 32 l).take i).map ofL).map V.str)):=upd_same
  have s4:=same_new hp4 (.lst ((((sp 32 l).take i).map ofL).map V.str))
  generalize upd H3 p4 _=H4 at h4 s4⊢
  have hp4':=s4 _ _ hp3
  fail "R"
  intro p5 hp5
  rw[ei,cut_midL _ _ _ (by rw[hlw];omega) (Nat.le_succ _),←List.map_drop,←List.map_drop,←List.map_take,←List.map_take,show i+1-i=1 by omega]
  have h5:upd H4 p5 (.lst (((((sp 32 l).drop i).take 1).map ofL).map V.str)) p5=some (.lst (((((sp 32 l).drop i).take 1).map ofL).map V.str)):=upd_same
  have s5:=same_new hp5 (.lst (((((sp 32 l).drop i).take 1).map ofL).map V.str))
  have h45:=s5 _ _ h4
  generalize upd H4 p5 _=H5 at h5 s5 h45⊢
  have hp5':=s5 _ _ hp4'
  have lz:((((sp 32 l).take i).map ofL).map V.str).length+(((((sp 32 l).drop i).take 1).map ofL).map V.str).length<=sizeLine:=by
   simp only[List.length_map,List.length_take,List.length_drop]
   rw[sizeLine_eq]
   omega
  fail "R"
  intro p6 hp6
  rw[←List.map_append,←List.map_append]
  have s6:=same_new hp6 (.lst (((((sp 32 l).take i)++(((sp 32 l).drop i).take 1)).map ofL).map V.str))
  have h6:upd H5 p6 (.lst (((((sp 32 l).take i)++(((sp 32 l).drop i).take 1)).map ofL).map V.str)) p6=some (.lst (((((sp 32 l).take i)++(((sp 32 l).drop i).take 1)).map ofL).map V.str)):=upd_same
  generalize upd H5 p6 _=H6 at h6 s6⊢
  have hp6':=s6 _ _ hp5'
  fail "R"
  intro p7 hp7
  rw[cut_fromL,←List.map_drop,←List.map_drop]
  have h7:upd H6 p7 (.lst ((((sp 32 l).drop i).map ofL).map V.str)) p7=some (.lst ((((sp 32 l).drop i).map ofL).map V.str)):=upd_same
  have s7:=same_new hp7 (.lst ((((sp 32 l).drop i).map ofL).map V.str))
  have h67:=s7 _ _ h6
  generalize upd H6 p7 _=H7 at h7 s7 h67⊢
  have lz2:(((((sp 32 l).take i)++(((sp 32 l).drop i).take 1)).map ofL).map V.str).length+((((sp 32 l).drop i).map ofL).map V.str).length<=sizeLine:=by
   simp only[List.length_map,List.length_append,List.length_take,List.length_drop]
   rw[sizeLine_eq]
   omega
  fail "R"
  intro p8 hp8
  rw[←List.map_append,←List.map_append]
  have s8:=same_new hp8 (.lst (((((sp 32 l).take i)++(((sp 32 l).drop i).take 1)++((sp 32 l).drop i)).map ofL).map V.str))
  have h8:upd H7 p8 (.lst (((((sp 32 l).take i)++(((sp 32 l).drop i).take 1)++((sp 32 l).drop i)).map ofL).map V.str)) p8=some (.lst (((((sp 32 l).take i)++(((sp 32 l).drop i).take 1)++((sp 32 l).drop i)).map ofL).map V.str)):=upd_same
  generalize upd H7 p8 _=H8 at h8 s8⊢
  fail "R"
  refine fin _ _ _ _ _ _ (((((x03.same s4).same s5).same s6).same s7).same s8) h8 fun p k hk hs=>.inl ⟨?_,?_⟩
  ·simp only[List.length_append,List.length_take,List.length_drop]
   omega
  ·have e1:=cw_take p i (sp 32 l)
   have e2:=cw_take p 1 ((sp 32 l).drop i)
   rw[cw_app,cw_app]
   omega
 ·have ai:atI (((sp 32 l).map ofL).map V.str) (i:Int)=some (.str (ofL (sp 32 l)[i])):=atI_nat (by rw[List.map_map,List.getElem?_map,List.getElem?_eq_getElem hi];rfl)
  have aj:atI (((sp 32 l).map ofL).map V.str) (j:Int)=some (.str (ofL (sp 32 l)[j])):=atI_nat (by rw[List.map_map,List.getElem?_map,List.getElem?_eq_getElem hj];rfl)
  have xi:ixN (((sp 32 l).map ofL).map V.str).length (i:Int)=some i:=ixN_nat (by rw[hlw];exact hi)
  fail "R"
  intro p4 hp4
  have s4:=same_new hp4 (.tup [.str (ofL (sp 32 l)[j]),.str (ofL (sp 32 l)[i])])
  have h4:SqT K (upd H3 p4 (.tup [.str (ofL (sp 32 l)[j]),.str (ofL (sp 32 l)[i])])) p4 [.str (ofL (sp 32 l)[j]),.str (ofL (sp 32 l)[i])]:=SqT.of upd_same
  generalize upd H3 p4 _=H4 at h4 s4⊢
  have hp4':=s4 _ _ hp3
  have hset:(((sp 32 l).map ofL).map V.str).set i (.str (ofL (sp 32 l)[j]))=(((sp 32 l).set i (sp 32 l)[j]).map ofL).map V.str:=by rw[List.map_set,List.map_set]
  have f4:Frm [] fe H H4:=Ext.frm hf (x03.same s4)
  have f5:=f4.updN (o:=.lst (((sp 32 l).map ofL).map V.str|>.set i (.str (ofL (sp 32 l)[j])))) hp np hp4'
  have h5:upd H4 p (.lst (((sp 32 l).map ofL).map V.str|>.set i (.str (ofL (sp 32 l)[j])))) p=some (.lst (((sp 32 l).map ofL).map V.str|>.set i (.str (ofL (sp 32 l)[j])))):=upd_same
  have xj:ixN (((sp 32 l).map ofL).map V.str|>.set i (.str (ofL (sp 32 l)[j]))).length (j:Int)=some j:=ixN_nat (by rw[List.length_set,hlw];exact hj)
  have f6:=f5.updN (o:=.lst ((((sp 32 l).map ofL).map V.str|>.set i (.str (ofL (sp 32 l)[j]))).set j (.str (ofL (sp 32 l)[i])))) hp np h5
  fail "R"
  refine fin (((sp 32 l).set i (sp 32 l)[j]).set j (sp 32 l)[i]) _ _ _ _ _ f6.ex ?_ fun p k hk hs=>.inr ⟨?_,?_⟩
  ·rw[upd_same,hset,←List.map_set,←List.map_set]
  ·rw[List.length_set,List.length_set]
   exact Nat.le_refl _
  ·have e1:=cw_set_eq p (sp 32 l) i (sp 32 l)[j] (sp 32 l)[i] (List.getElem?_eq_getElem hi)
   by_cases hij:i=j
   ·subst hij
    rw[List.set_set,←List.getElem_set_self (a:=(sp 32 l)[i]) (i:=i) (l:=sp 32 l) (by rw[List.length_set];exact hi)]
    have:=cw_set_eq p (sp 32 l) i (sp 32 l)[i] (sp 32 l)[i] (List.getElem?_eq_getElem hi)
    simp only[List.getElem_set_self]
    omega
   ·have e2:=cw_set_eq p ((sp 32 l).set i (sp 32 l)[j]) j (sp 32 l)[i] (sp 32 l)[j] (by rw[List.getElem?_set_ne hij,List.getElem?_eq_getElem hj])
    omega
 ·fail "R"
  refine spo_els TK hr hf3 hp3 np hi fun w o9 H' hw fr h'=>?_
  have f3:Frm [p] fe H H3:=Ext.frm hf x03
  have ex:=((f3.trans fr).drop hp).ex
  refine fin ((sp 32 l).set i w) _ _ _ _ _ ex h' fun p k hk hs=>.inr ⟨?_,?_⟩
  ·rw[List.length_set]
   exact Nat.le_refl _
  ·have:=cw_set p (sp 32 l) i w
   have:=hs w hw
   omega
theorem ok_spo{f:Addr}{fd:FuncData}(F:Fun K "_law_spoilt" "_law_spoilt" s_L_spoilt f fd)(TK:Has P w K mg base "_law_take" 1 ["_law_feed_here","_law_many"] spTake gT tfd)(LSG:Has P w K mg base "_law_signs" 1 [] spSg gS sfd)(z_len:mg "len"=none)(z_int:mg "int"=none):FnOk P w K mg base CX0 2 f fd ["_law_feed_here","_law_text"] spSpo:=by
 refine F.ok sc_L_spoilt (fun vs H Q E h=>?_) (fun cdv A outer s H vs Q E hr h=>?_)
 ·obtain⟨_,_,rfl,_⟩:=h
  rfl
 obtain⟨fe,l,rfl,hf,hl,k⟩:=h
 refine⟨_,(@pss_cons _ _ _ _ _ (@sa _ _ _ _ _ _ sc_L_spoilt.nd lm_L_spoilt 2 (@pe_call _ _ _ _ _ _ _ _ _ _ _ _ _ _ _ _ TK.ok (hr.mono (by omega)) (by show _=_;kernel_rfl) TK.at' TK.kp TK.bd .nil pass0 (@pa_c _ _ _ _ _ (va nm_L_spoilt 0) (@pa_c _ _ _ _ _ (@pe_op _ _ _ _ _ _ _ _ op_add (@pe_callB _ _ _ _ _ _ _ _ _ call_len_str (by show _=_;kernel_rfl) z_len PySem.boot_len (pa_c (va nm_L_spoilt 1) pa_nil) (by decide) (by decide) (by rfl) (by rfl)) pe_int) pa_nil (by rfl)) (by rfl)) (by decide) (by rfl) (by rfl)) (by rfl) (by kernel_rfl) (by exact .inl rfl)) (@pss_cons _ _ _ _ _ (@sa _ _ _ _ _ _ sc_L_spoilt.nd lm_L_spoilt 3 (@pe_call _ _ _ _ _ _ _ _ _ _ _ _ _ _ _ _ TK.ok (hr.mono (by omega)) (by show _=_;kernel_rfl) TK.at' TK.kp TK.bd .nil pass0 (pa_c (va nm_L_spoilt 0) (pa_c pe_int pa_nil)) (by decide) (by rfl) (by rfl)) (by rfl) (by kernel_rfl) (by exact .inl rfl)) (@pss_cons _ _ _ _ _ (@sa _ _ _ _ _ _ sc_L_spoilt.nd lm_L_spoilt 4 (@pe_ix _ _ _ _ _ _ _ ix_list (@pe_lst _ _ _ _ (pa_c (pe_call0 LSG.ok (hr.mono (by omega)) (by show _=_;kernel_rfl) LSG.at' LSG.kp LSG.bd .nil pass0) (pa_c pe_str pa_nil))) (@pe_call _ _ _ _ _ _ _ _ _ _ _ _ _ _ _ _ TK.ok (hr.mono (by omega)) (by show _=_;kernel_rfl) TK.at' TK.kp TK.bd .nil pass0 (pa_c (va nm_L_spoilt 0) (pa_c pe_int pa_nil)) (by decide) (by rfl) (by rfl)) (fun _ _=>rfl)) (by rfl) (by kernel_rfl) (by exact .inl rfl)) (@pss_cons _ _ _ _ _ (@sa _ _ _ _ _ _ sc_L_spoilt.nd lm_L_spoilt 5 (@pe_ix _ _ _ _ _ _ _ ix_str (va nm_L_spoilt 4) (@pe_call _ _ _ _ _ _ _ _ _ _ _ _ _ _ _ _ TK.ok (hr.mono (by omega)) (by show _=_;kernel_rfl) TK.at' TK.kp TK.bd .nil pass0 (@pa_c _ _ _ _ _ (va nm_L_spoilt 0) (@pa_c _ _ _ _ _ (@pe_callB _ _ _ _ _ _ _ _ _ call_len_str (by show _=_;kernel_rfl) z_len PySem.boot_len (pa_c (va nm_L_spoilt 4) pa_nil) (by decide) (by decide) (by rfl) (by rfl)) pa_nil (by rfl)) (by rfl)) (by decide) (by rfl) (by rfl)) (fun _ _=>rfl)) (by rfl) (by kernel_rfl) (by exact .inl rfl)) (@pss_cons _ _ _ _ _ (@ps_if _ _ _ _ _ _ _ _ (pt_cmpR op_lt (va nm_L_spoilt 3) pe_int (nomark _)) (@pss_one _ _ _ (@ps_ret _ _ _ _ (@pe_op _ _ _ _ _ _ _ _ op_add_str (@pe_op _ _ _ _ _ _ _ _ op_add_str (@pe_slice _ _ _ _ _ _ _ _ _ _ sl_str (va nm_L_spoilt 1) po_none (po_some (va nm_L_spoilt 2))) (@pe_ix _ _ _ _ _ _ _ ix_list (@pe_lst _ _ _ _ (@pa_c _ _ _ _ _ (va nm_L_spoilt 5) (@pa_c _ _ _ _ _ pe_str (pa_c (va nm_L_spoilt 5) pa_nil) (by rfl)) (by rfl))) (va nm_L_spoilt 3) (fun _ _=>rfl))) (@pe_slice _ _ _ _ _ _ _ _ _ _ sl_str (va nm_L_spoilt 1) (@po_some _ _ _ (@pe_op _ _ _ _ _ _ _ _ op_add (va nm_L_spoilt 2) (@pe_callTy _ _ _ _ _ _ _ _ _ call_int1 (by show _=_;kernel_rfl) z_int PyProof.Rows.boot_int (@pa_c _ _ _ _ _ (pe_cmpR op_gt (va nm_L_spoilt 3) pe_int (nomark _)) pa_nil (by rfl)) (by decide) (by decide) (by rfl) (by rfl)))) po_none)))) pss_nil) pss_blk))))),?_⟩
 try dsimp only[cx_K]
 try dsimp only[cx_K]
 have hz:(ofL l).length<=sizeLine:=by rw[ofL_len,sizeLine_eq];omega
 have hz1:(0:Int)<((ofL l).length:Int)+1:=by omega
 have hz2:((ofL l).length:Int)+1<1073741824:=by rw[ofL_len];omega
 fail "R"
 intro a H1 a0 a1 x1
 have hf1:=x1.2
 fail "R"
 intro b H2 b0 b7 x2
 have hf2:=x2.2
 fail "R"
 intro z z1 z1000
 fail "R"
 intro p3 hp3
 have h3:upd H2 p3 (.lst [.str z,.str "()[]<> 0"]) p3=some (.lst [.str z,.str "()[]<> 0"]):=upd_same
 have x3:Ext fe H2 (upd H2 p3 (.lst [.str z,.str "()[]<> 0"])):=(Ext.refl hf2).new hp3 _
 have n3:=lst_ne_feed hf2 hp3
 generalize upd H2 p3 _=H3 at h3 x3⊢
 have hf3:=x3.2
 fail "R"
 intro c H4 c0 c2 x4
 have hf4:=x4.2
 have h4:=x4.1 _ _ n3 h3
 obtain⟨sg,hsg,sg1,sg2⟩:∃sg:Str,atI [V.str z,V.str "()[]<> 0"] c=some (.str sg)/\1<=sg.length/\sg.length<=1000:=by
  have:c=0\/c=1:=by omega
  rcases this with rfl|rfl
  ·exact⟨z,rfl,z1,z1000⟩
  ·exact⟨"()[]<> 0",rfl,by decide +kernel,by decide +kernel⟩
 have sgz:sg.length<=sizeLine:=small sg2
 have sg3:(0:Int)<(sg.length:Int):=by omega
 have sg4:(sg.length:Int)<1073741824:=by omega
 fail "R"
 intro d H5 d0 d1 x5
 have hf5:=x5.2
 obtain⟨y,hy⟩:∃y,atI sg.cps.toList d=some y:=by
  have hd:d.toNat<sg.cps.toList.length:=by
   have e:sg.cps.toList.length=sg.length:=by show _=sg.cps.size;simp
   omega
  have:=atI_nat (xs:=sg.cps.toList) (j:=d.toNat) (v:=sg.cps.toList[d.toNat]) (List.getElem?_eq_getElem hd)
  rw[show((d.toNat:Nat):Int)=d by omega]at this
  exact⟨_,this⟩
 have x05:=(((x1.trans x2).trans x3).trans x4).trans x5
 fail "R"
 refine ite2 (fun c=>?_) (fun c=>?_)
 ·have b3:b<3:=of_decide_eq_true c
  rw[ofL_len]at a1
  have e1:Txt.slice (ofL l) none (some a)=ofL (l.take a.toNat):=by
   show StrLaws.sliceText (ofL l) none (some a)=_
   rw[StrLaws.sliceText_to ⟨a0,by rw[toList_ofL];omega⟩,toList_ofL,List.drop_zero,Int.sub_zero]
   rfl
  have e2:∀i:Int,0<=i->∃m:Nat,Txt.slice (ofL l) (some i) none=ofL (l.drop m):=fun i i0=>by
   by_cases hi:i<=l.length
   ·refine⟨i.toNat,?_⟩
    show StrLaws.sliceText (ofL l) (some i) none=_
    rw[StrLaws.sliceText_from ⟨i0,by rw[toList_ofL];exact hi⟩,toList_ofL,List.take_of_length_le (by rw[List.length_drop];omega)]
    rfl
   ·refine⟨l.length,?_⟩
    rw[PyProof.Rows.slice_from_beyond (by rw[ofL_len];omega),List.drop_of_length_le (Nat.le_refl _)]
    rfl
  fail "R"
  intro p6 hp6
  have s6:=same_new hp6 (.lst [.str ⟨#[y]⟩,.str "",.str ⟨#[y]⟩])
  have h6:upd H5 p6 (.lst [.str ⟨#[y]⟩,.str "",.str ⟨#[y]⟩]) p6=some (.lst [.str ⟨#[y]⟩,.str "",.str ⟨#[y]⟩]):=upd_same
  generalize upd H5 p6 _=H6 at s6 h6⊢
  obtain⟨m,hm,am⟩:∃m:List Nat,(m=[]\/∃c,m=[c])/\atI [V.str ⟨#[y]⟩,V.str "",V.str ⟨#[y]⟩] b=some (.str (ofL m)):=by
   have:b=0\/b=1\/b=2:=by omega
   rcases this with rfl|rfl|rfl
   ·exact⟨[y],.inr ⟨y,rfl⟩,rfl⟩
   ·exact⟨[],.inl rfl,show some (V.str (Str.ofString ""))=some (V.str (ofL []))from by rw[show Str.ofString ""=ofL [] by decide +kernel]⟩
   ·exact⟨[y],.inr ⟨y,rfl⟩,rfl⟩
  have hm1:m.length<=1:=by
   rcases hm with rfl|⟨c,rfl⟩
   ·exact Nat.zero_le _
   ·exact Nat.le_refl _
  have l1:(Txt.slice (ofL l) none (some a)).length+(ofL m).length<=sizeLine:=by
   rw[e1,ofL_len,ofL_len,List.length_take,sizeLine_eq]
   omega
  fail "R"
  refine .inr ⟨_,rfl,?_⟩
  have hi0:0<=a+(if decide (0<b)=true then(1:Int)else 0):=by
   split<;>omega
  obtain⟨mm,em⟩:=e2 _ hi0
  have l2:(Txt.slice (ofL l) none (some a)++ofL m).length+(Txt.slice (ofL l) (some (a+(if decide (0<b)=true then(1:Int)else 0))) none).length<=sizeLine:=by
   rw[em,e1,app_ofL,ofL_len,ofL_len,List.length_append,List.length_take,List.length_drop,sizeLine_eq]
   omega
  fail "R"
  rw[em,e1,app_ofL,app_ofL]
  exact k _ _ (x05.same s6) (spo_sign _ _ hm)
 ·have b3:¬b<3:=fun z=>c (decide_eq_true z)
  fail "R"
  exact spo_wrd TK z_len hr hf5 hl (by omega) b7 fun l' H' x' sp'=>k l' H' (x05.trans x') sp'
end
def spLaw(K:PySem.W.Frag):Sp:=fun vs H Q _=>∃(a:Addr) (ns:List Int),vs=[.ref a]/\SqL K H a (ns.map V.int)/\ns.length<=63/\∀H',Q (.bl true) H'
structure LwI(H:Hp) (la:Addr) (n:Nat) (Hc:Hp):Prop where
 s:Same H Hc
 x:∃ls:List (List Nat),Hc la=some (.lst ((ls.map ofL).map V.str))/\(∀l∈ls,TxOk l)/\ls.length<=n
structure SmI(H H':Hp):Prop where
 s:Same H H'
theorem same_ext'{H H1 H2:Hp}{f:Addr}(s:Same H H1)(hf:H f=none)(x:Ext f H1 H2):Same H H2:=fun b o e=>x.1 b o (ne_of_none e hf) (s b o e)
theorem LwI.ext{H:Hp}{la f:Addr}{n:Nat}{H1 H2:Hp}(h:LwI H la n H1)(hf:H f=none)(nf:la≠f)(x:Ext f H1 H2):LwI H la n H2:=by
 obtain⟨s,ls,h1,h2,h3⟩:=h
 exact⟨same_ext' s hf x,ls,x.1 _ _ nf h1,h2,h3⟩
theorem LwI.same{H:Hp}{la:Addr}{n:Nat}{H1 H2:Hp}(h:LwI H la n H1)(s:Same H1 H2):LwI H la n H2:=by
 obtain⟨s0,ls,h1,h2,h3⟩:=h
 exact⟨s0.trans s,ls,s _ _ h1,h2,h3⟩
theorem LwI.app{H:Hp}{la:Addr}{n:Nat}{H1:Hp}{ls:List (List Nat)}{l:List Nat}(s:Same H H1)(hla:H la=none)(h2:∀l∈ls,TxOk l)(h3:ls.length<=n)(hl:TxOk l):LwI H la (n+1) (upd H1 la (.lst ((ls.map ofL).map V.str++[.str (ofL l)]))):=by
 refine⟨s.updF hla _,ls++[l],by rw[upd_same,List.map_append,List.map_append];rfl,fun x hx=>?_,by rw[List.length_append];exact Nat.succ_le_succ h3⟩
 rcases List.mem_append.mp hx with hx|hx
 ·exact h2 x hx
 ·rw[List.mem_singleton.mp hx];exact hl
section
variable {P:Program}{w:World}{K:PySem.W.Frag}{mg:Str->Option Value}{base:Heap}{gF gT gW gM gX gY gS gA gH gD:Addr}{ffd tfd wfd mfd xfd yfd sfd afd hfd dfd:FuncData}
theorem nm_law:Nm ["_law_script","_law_texts","_law_k","_law_feed_here","_law_words","_law_thing_here","_law_text","_law_turn"] (defScope s_law):=by decide +kernel
theorem lm_law:Lm ["_law_script","_law_texts","_law_k","_law_feed_here","_law_words","_law_thing_here","_law_text","_law_turn"] (defScope s_law):=by decide +kernel
theorem sc_law:FnScope ["_law_script","_law_texts","_law_k","_law_feed_here","_law_words","_law_thing_here","_law_text","_law_turn"] ["_law_script"] (defScope s_law):=⟨rfl,rfl,rfl,by decide +kernel,rfl,by decide +kernel,by decide +kernel⟩
theorem law_ask{f:Addr}{cdv:Value}{A:Around}{outer:List PySem.Env}{s:Shared}{H0:Hp}{E:XK}{jh j:Nat}(hj1:jh<=j)(hj2:266<=j)(LHD:Has P w K mg base "_law_heard" jh ["_law_text"] (spHd K) gH hfd)(DUE:Has P w K mg base "_law_due" 134 ["_law_text"] (spDu K) gD dfd)(LA:Has P w K mg base "_law_alike" 266 ["_law_found","_law_due_here"] (spAlike K 265) gA afd)(hr:Room j (A.deeper (PyProof.Rows.envOfC "law" (defScope s_law) s.heap.objs.size f cdv)))
  {D:L2.Ends}{H Hc:Hp}{a la:Addr}{o2 o3 o4 o5 o6 o7:Option V}(lw:LwI H la 30 Hc) (k:∀H',D.rt (.bl true) H') :
  tBlk (cxOf CX0 P w K mg base ["_law_script","_law_texts","_law_k","_law_feed_here","_law_words","_law_thing_here","_law_text","_law_turn"] "law" (defScope s_law) f cdv A outer s H0 E).nox ((defBody s_law).drop 2) D [some (.ref a),some (.ref la),o2,o3,o4,o5,o6,o7] Hc:=by
 refine blk_of ((@pss_cons _ _ _ _ _ (@ps_for _ _ _ _ _ _ _ _ PassesOwn.never rfl (@pi_list _ _ _ _ (@pe_op _ _ _ _ _ _ _ _ op_cat (va nm_law 1) (@pe_slice3 _ _ _ _ _ _ _ _ _ _ _ (va nm_law 1) po_none po_none (po_some (pe_un un_neg pe_int))))) (ga sc_law.nd lm_law 6) (@pss_one _ _ _ (@ps_if _ _ _ _ _ _ _ _ (@pt_not _ _ _ _ (@pt_val _ _ _ (@pe_call _ _ _ _ _ _ _ _ _ _ _ _ _ _ _ _ LA.ok (hr.mono (by omega)) (by show _=_;kernel_rfl) LA.at' LA.kp LA.bd .nil pass0 (@pa_c _ _ _ _ _ (@pe_call _ _ _ _ _ _ _ _ _ _ _ _ _ _ _ _ LHD.ok (hr.mono (by omega)) (by show _=_;kernel_rfl) LHD.at' LHD.kp LHD.bd .nil pass0 (pa_c (va nm_law 6) pa_nil) (by decide) (by rfl) (by rfl)) (@pa_c _ _ _ _ _ (@pe_call _ _ _ _ _ _ _ _ _ _ _ _ _ _ _ _ DUE.ok (hr.mono (by omega)) (by show _=_;kernel_rfl) DUE.at' DUE.kp DUE.bd .nil pass0 (pa_c (va nm_law 6) pa_nil) (by decide) (by rfl) (by rfl)) pa_nil (by rfl)) (by rfl)) (by decide) (by rfl) (by rfl)) (by intro _;rfl))) (pss_one (ps_ret pe_bl)) pss_nil)) (by intro _;rfl)) (pss_one (ps_ret pe_bl)))) ?_
 try dsimp only[cx_K]
 try dsimp only[cx_K]
 obtain⟨s1,ls,h1,h2,h3⟩:=lw
 have hll:((ls.map ofL).map V.str).length=ls.length:=by rw[List.length_map,List.length_map]
 have hz:(pickV ((ls.map ofL).map V.str) none none (some (-1))).length<=sizeLine:=by rw[pick_rev,List.length_reverse,hll];exact small (by omega)
 refine seq_cut ?_
 intro N1 c1
 fail "R"
 intro p2 hp2
 rw[pick_rev]
 have s2:=same_new hp2 (.lst ((ls.map ofL).map V.str).reverse)
 have h22:upd Hc p2 (.lst ((ls.map ofL).map V.str).reverse) p2=some (.lst ((ls.map ofL).map V.str).reverse):=upd_same
 have h12:=s2 _ _ h1
 generalize upd Hc p2 _=H2 at s2 h22 h12⊢
 have lz:((ls.map ofL).map V.str).length+((ls.map ofL).map V.str).reverse.length<=sizeLine:=small (by rw[List.length_reverse,hll];omega)
 fail "R"
 intro p3 hp3
 have ea:(ls.map ofL).map V.str++((ls.map ofL).map V.str).reverse=((ls++ls.reverse).map ofL).map V.str:=by rw[List.map_append,List.map_append,List.map_reverse,List.map_reverse]
 rw[ea]
 have h33:upd H2 p3 (.lst (((ls++ls.reverse).map ofL).map V.str)) p3=some (.lst (((ls++ls.reverse).map ofL).map V.str)):=upd_same
 generalize upd H2 p3 _=H3 at h33⊢
 have ok:∀l∈ls++ls.reverse,TxOk l:=fun l hl=>by
  rcases List.mem_append.mp hl with hl|hl
  ·exact h2 l hl
  ·exact h2 l (List.mem_reverse.mp hl)
 generalize ls++ls.reverse=ms at h33 ok
 have sq3:SqL K H3 p3 ((ms.map ofL).map V.str):=SqL.of h33
 fail "R"
 refine for_list (K:=K) (a:=p3) (xs:=(ms.map ofL).map V.str) (fun i σ H4=>(∃o6,σ=[some (.ref a),some (.ref la),o2,o3,o4,o5,o6,o7])/\SmI H3 H4) ⟨⟨_,rfl⟩,⟨Same.refl _⟩⟩ (fun i σ H4 _ h=>SqL.of (h.2.s _ _ h33)) ?_ ?_
 ·rintro i x σ H4 hx ⟨⟨o6,rfl⟩,⟨s4⟩⟩
  rw[List.map_map,List.getElem?_map]at hx
  obtain⟨l,hl,rfl⟩:=Option.map_eq_some_iff.mp hx
  have tx:=ok l (List.mem_of_getElem? hl)
  have tn:=tx.n
  obtain⟨tw,dp⟩:=out_ok tx
  fail "R"
  intro v5 H5 s5 r5
  fail "R"
  intro v6 H6 s6 r6
  have r56:=r5.same s6
  fail "R"
  intro H7 s7
  fail "R"
  exact⟨s4.trans (s5.trans (s6.trans s7))⟩
 ·rintro σ H4 ⟨⟨o6,rfl⟩,_⟩
  refine c1 _ _ ?_
  fail "R"
  exact k _
structure WsI(H:Hp) (la fe:Addr) (n:Nat) (H6:Hp) (i:Nat) (vs:List V) (Hc:Hp):Prop where
 w:LwI H la n Hc
 e:Ext fe H6 Hc
 x:∃ws:List Str,vs=ws.map V.str/\ws.length=i/\∀x∈ws,nmOk x
structure TuI(H:Hp) (la fe:Addr) (n j:Nat) (v:Option V) (Hc:Hp):Prop where
 w:LwI H la (n+j) Hc
 f:FeedAt Hc fe
 x:∃l,v=some (.str (ofL l))/\TxL j l
theorem law_turn{f:Addr}{cdv:Value}{A:Around}{outer:List PySem.Env}{s:Shared}{H0:Hp}{E:XK}{j:Nat}(hj:2<=j)(TK:Has P w K mg base "_law_take" 1 ["_law_feed_here","_law_many"] spTake gT tfd)(SPL:Has P w K mg base "_law_spoilt" 2 ["_law_feed_here","_law_text"] spSpo gS sfd)(z_range:mg "range"=none)(hr:Room j (A.deeper (PyProof.Rows.envOfC "law" (defScope s_law) s.heap.objs.size f cdv)))
  {D:L2.Ends}{H Hc:Hp}{a la fe:Addr}{n:Nat}{l:List Nat}{o2 o4 o5 o7:Option V}(hn:n<=100) (hla:H la=none) (hfe:H fe=none) (nf:la≠fe) (lw:LwI H la n Hc) (hf:FeedAt Hc fe) (tx:TxL 0 l) (k:∀o6 o7 H',LwI H la (n+2) H'->D.nx [some (.ref a),some (.ref la),o2,some (.ref fe),o4,o5,o6,o7] H') :
  tBlk (cxOf CX0 P w K mg base ["_law_script","_law_texts","_law_k","_law_feed_here","_law_words","_law_thing_here","_law_text","_law_turn"] "law" (defScope s_law) f cdv A outer s H0 E).nox ((forA ((defBody s_law).drop 1)).drop 6) D [some (.ref a),some (.ref la),o2,some (.ref fe),o4,o5,some (.str (ofL l)),o7] Hc:=by
 refine blk_of ((@pss_one _ _ _ (@ps_for _ _ _ _ _ _ _ _ PassesOwn.never rfl (@pi_range1 _ _ _ _ _ _ (by show _=_;kernel_rfl) z_range (@pa_c _ _ _ _ _ (@pe_op _ _ _ _ _ _ _ _ op_add pe_int (@pe_call _ _ _ _ _ _ _ _ _ _ _ _ _ _ _ _ TK.ok (hr.mono (by omega)) (by show _=_;kernel_rfl) TK.at' TK.kp TK.bd .nil pass0 (pa_c (va nm_law 3) (pa_c pe_int pa_nil)) (by decide) (by rfl) (by rfl))) pa_nil (by rfl)) (by rfl)) (ga sc_law.nd lm_law 7) (@pss_cons _ _ _ _ _ (@sa _ _ _ _ _ _ sc_law.nd lm_law 6 (@pe_call _ _ _ _ _ _ _ _ _ _ _ _ _ _ _ _ SPL.ok (hr.mono (by omega)) (by show _=_;kernel_rfl) SPL.at' SPL.kp SPL.bd .nil pass0 (@pa_c _ _ _ _ _ (va nm_law 3) (pa_c (va nm_law 6) pa_nil) (by rfl)) (by decide) (by rfl) (by rfl)) (by rfl) (by kernel_rfl) (by exact .inl rfl)) (@pss_one _ _ _ (@ps_expr _ _ _ _ (@pe_bm _ _ _ _ _ _ _ _ _ _ _ _ PySem.F.plainAttrs_list PySem.F.slot_list_append PySem.F.type_list_append mt_append (va nm_law 1) (pa_c (va nm_law 6) pa_nil) (by rfl) (by rfl) (by rfl) (by rfl) (by rfl)) (by rfl)))) (by intro _;rfl)))) ?_
 try dsimp only[cx_K]
 try dsimp only[cx_K]
 fail "R"
 intro c H1 c0 c2 x1
 have lw1:=lw.ext hfe nf x1
 have hf1:=x1.2
 fail "R"
 refine for_range (n:=(1+c).toNat) (fun i σ H2=>(∃o6 o7,σ=[some (.ref a),some (.ref la),o2,some (.ref fe),o4,o5,o6,o7]/\TuI H la fe n i o6 H2)) ⟨_,_,rfl,⟨lw1,hf1,l,rfl,tx⟩⟩ ?_ ?_
 ·rintro i σ H2 hi ⟨o6,o7,rfl,⟨lw2,hf2,m,rfl,txm⟩⟩
  have hi2:i<=1:=by omega
  have tn:=(txm.ok (by omega)).n
  fail "R"
  intro m' H3 x3 spo
  have lw3:=lw2.ext hfe nf x3
  obtain⟨s3,ls,h3,ok3,n3⟩:=lw3
  have hlz:((ls.map ofL).map V.str).length<sizeLine:=by rw[List.length_map,List.length_map,sizeLine_eq];omega
  have txn:=txm.spo spo
  have lw4:=LwI.app (l:=m') s3 hla ok3 n3 (txn.ok (by omega))
  have hf4:FeedAt (upd H3 la (.lst ((ls.map ofL).map V.str++[.str (ofL m')]))) fe:=by
   obtain⟨p,q,e⟩:=x3.2
   exact⟨p,q,by rw[upd_ne (Ne.symm nf)];exact e⟩
  fail "R"
  exact⟨lw4,hf4,m',rfl,txn⟩
 ·rintro σ H2 ⟨o6,o7,rfl,⟨lw2,_,_⟩⟩
  obtain⟨s2,ls,h2,ok2,n2⟩:=lw2
  exact k _ _ _ ⟨s2,ls,h2,ok2,by omega⟩
theorem ok_law{f:Addr}{fd:FuncData}{jh j:Nat}(hj1:jh<=j)(hj2:266<=j)(F:Fun K "law" "law" s_law f fd)(FD:Has P w K mg base "_law_feed" 1 ["_law_script","_law_k"] (spFeed K) gF ffd)(TK:Has P w K mg base "_law_take" 1 ["_law_feed_here","_law_many"] spTake gT tfd)(LWD:Has P w K mg base "_law_word" 2 ["_law_feed_here"] spWord gW wfd)(TH:Has P w K mg base "_law_thing" 10 ["_law_feed_here","_law_words","_law_room","_law_down"] (spLTh K 8) gM mfd)(LTT:Has P w K mg base "_law_thing_text" 133 ["_law_thing_here"] (spLTt K 131) gX xfd)(TTX:Has P w K mg base "thing_text" 5 ["thing"] (spTtx K) gY yfd)(SPL:Has P w K mg base "_law_spoilt" 2 ["_law_feed_here","_law_text"] spSpo gS sfd)
  (LHD:Has P w K mg base "_law_heard" jh ["_law_text"] (spHd K) gH hfd) (DUE:Has P w K mg base "_law_due" 134 ["_law_text"] (spDu K) gD dfd) (LA:Has P w K mg base "_law_alike" 266 ["_law_found","_law_due_here"] (spAlike K 265) gA afd) (z_range:mg "range"=none) (z_len:mg "len"=none) (z_max:mg "max"=none):FnOk P w K mg base CX0 (j+1) f fd ["_law_script"] (spLaw K):=by
 refine F.ok sc_law (fun vs H Q E h=>?_) (fun cdv A outer s H vs Q E hr h=>?_)
 ·obtain⟨_,_,rfl,_⟩:=h
  rfl
 obtain⟨a,ns,rfl,hS,hns,k⟩:=h
 refine⟨_,(@pss_cons _ _ _ _ _ (@sa _ _ _ _ _ _ sc_law.nd lm_law 1 (pe_lst (pa_c pe_str pa_nil)) (by rfl) (by kernel_rfl) (by exact .inl rfl)) (@pss_cons _ _ _ _ _ (@ps_for _ _ _ _ _ _ _ _ PassesOwn.never rfl (@pi_range1 _ _ _ _ _ _ (by show _=_;kernel_rfl) z_range (@pa_c _ _ _ _ _ (@pe_callB _ _ _ _ _ _ _ _ _ (call_max2 rfl) (by show _=_;kernel_rfl) z_max PyProof.Rows.boot_max (@pa_c _ _ _ _ _ pe_int (@pa_c _ _ _ _ _ (@pe_callB _ _ _ _ _ _ _ _ _ call_len_seq (by show _=_;kernel_rfl) z_len PySem.boot_len (@pa_c _ _ _ _ _ (pe_slice sl_list (va nm_law 0) po_none (po_some pe_int)) pa_nil (by rfl)) (by decide) (by decide) (by rfl) (by rfl)) pa_nil (by rfl)) (by rfl)) (by decide) (by decide) (by rfl) (by rfl)) pa_nil (by rfl)) (by rfl)) (ga sc_law.nd lm_law 2) (@pss_cons _ _ _ _ _ (@sa _ _ _ _ _ _ sc_law.nd lm_law 3 (@pe_call _ _ _ _ _ _ _ _ _ _ _ _ _ _ _ _ FD.ok (hr.mono (by omega)) (by show _=_;kernel_rfl) FD.at' FD.kp FD.bd .nil pass0 (@pa_c _ _ _ _ _ (va nm_law 0) (pa_c (va nm_law 2) pa_nil) (by rfl)) (by decide) (by rfl) (by rfl)) (by rfl) (by kernel_rfl) (by exact .inl rfl)) (@pss_cons _ _ _ _ _ (@ps_compC _ _ _ _ _ _ _ _ _ _ _ _ _ _ _ (defScope s_law) ["_law_script","_law_texts","_law_k","_law_feed_here","_law_words","_law_thing_here","_law_text","_law_turn"] ["_law_j"] [3] rfl rfl rfl (by decide +kernel) (pi_range1 (by show _=_;kernel_rfl) z_range (pa_c pe_int pa_nil)) (fun _ _ _ _=>(pg_name (i:=0) (show(["_law_j","_law_feed_here"]:List Str).Nodup by decide +kernel) rfl (Or.inl (by kernel_rfl)) (by first|exact .inl rfl|exact .inr (by kernel_rfl)))) (fun _ _ _ _=>pifs_nil) (fun _ _ _ _=>(@pe_call _ _ _ _ _ _ _ _ _ _ _ _ _ _ _ _ LWD.ok (hr.mono (by omega)) (by show _=_;kernel_rfl) LWD.at' LWD.kp LWD.bd .nil pass0 (pa_c (va (show Nm ["_law_j","_law_feed_here"] _ by show _=_;kernel_rfl) 1) pa_nil) (by decide) (by rfl) (by rfl))) (ga sc_law.nd lm_law 4) (by kernel_rfl) (by intro _;rfl)) (@pss_cons _ _ _ _ _ (@sa _ _ _ _ _ _ sc_law.nd lm_law 5 (@pe_call _ _ _ _ _ _ _ _ _ _ _ _ _ _ _ _ TH.ok (hr.mono (by omega)) (by show _=_;kernel_rfl) TH.at' TH.kp TH.bd .nil pass0 (@pa_c _ _ _ _ _ (va nm_law 3) (@pa_c _ _ _ _ _ (va nm_law 4) (@pa_c _ _ _ _ _ (@pe_op _ _ _ _ _ _ _ _ op_add pe_int (@pe_call _ _ _ _ _ _ _ _ _ _ _ _ _ _ _ _ TK.ok (hr.mono (by omega)) (by show _=_;kernel_rfl) TK.at' TK.kp TK.bd .nil pass0 (pa_c (va nm_law 3) (pa_c pe_int pa_nil)) (by decide) (by rfl) (by rfl))) (pa_c pe_int pa_nil) (by rfl)) (by rfl)) (by rfl)) (by decide) (by rfl) (by rfl)) (by rfl) (by kernel_rfl) (by exact .inl rfl)) (@pss_cons _ _ _ _ _ (@sa _ _ _ _ _ _ sc_law.nd lm_law 6 (@pe_call _ _ _ _ _ _ _ _ _ _ _ _ _ _ _ _ LTT.ok (hr.mono (by omega)) (by show _=_;kernel_rfl) LTT.at' LTT.kp LTT.bd .nil pass0 (pa_c (va nm_law 5) pa_nil) (by decide) (by rfl) (by rfl)) (by rfl) (by kernel_rfl) (by exact .inl rfl)) (@pss_cons _ _ _ _ _ (@ps_if _ _ _ _ _ _ _ _ (@pt_not _ _ _ _ (@pt_val _ _ _ (@pe_call _ _ _ _ _ _ _ _ _ _ _ _ _ _ _ _ LA.ok (hr.mono (by omega)) (by show _=_;kernel_rfl) LA.at' LA.kp LA.bd .nil pass0 (@pa_c _ _ _ _ _ (@pe_call _ _ _ _ _ _ _ _ _ _ _ _ _ _ _ _ TTX.ok (hr.mono (by omega)) (by show _=_;kernel_rfl) TTX.at' TTX.kp TTX.bd .nil pass0 (pa_c (va nm_law 5) pa_nil) (by decide) (by rfl) (by rfl)) (pa_c (va nm_law 6) pa_nil) (by rfl)) (by decide) (by rfl) (by rfl)) (by intro _;rfl))) (pss_one (ps_ret pe_bl)) pss_nil) (@pss_cons _ _ _ _ _ (@ps_expr _ _ _ _ (@pe_bm _ _ _ _ _ _ _ _ _ _ _ _ PySem.F.plainAttrs_list PySem.F.slot_list_append PySem.F.type_list_append mt_append (va nm_law 1) (pa_c (va nm_law 6) pa_nil) (by rfl) (by rfl) (by rfl) (by rfl) (by rfl)) (by rfl)) pss_blk)))))) (by intro _;rfl)) pss_blk)),?_⟩
 try dsimp only[cx_K]
 try dsimp only[cx_K]
 refine seq_cut2 ?_
 intro N1 N2 c1 c2
 fail "R"
 intro la hla
 have s1:=same_new hla (.lst [.str ""])
 have h1:upd H la (.lst [.str ""]) la=some (.lst [.str ""]):=upd_same
 have lw1:LwI H la 1 (upd H la (.lst [.str ""])):=⟨s1,[[]],by rw[upd_same,show Str.ofString ""=ofL [] by decide +kernel];rfl,fun l hl=>by rw[List.mem_singleton.mp hl];exact txl_nil.ok (by decide),Nat.le_refl _⟩
 generalize upd H la (.lst [.str ""])=H1 at s1 h1 lw1⊢
 have hS1:=s1.seq hS
 fail "R"
 intro p2 hp2
 rw[show(some (6:Int))=some ((6:Nat):Int)from rfl,cut_takeL]
 have s2:=same_new hp2 (.lst ((ns.map V.int).take 6))
 have h2:upd H1 p2 (.lst ((ns.map V.int).take 6)) p2=some (.lst ((ns.map V.int).take 6)):=upd_same
 generalize upd H1 p2 (.lst ((ns.map V.int).take 6))=H2 at s2 h2⊢
 have h2':SqL K H2 p2 ((ns.map V.int).take 6)\/SqT K H2 p2 ((ns.map V.int).take 6):=.inl (SqL.of h2)
 have l2:((ns.map V.int).take 6).length<=6:=by rw[List.length_take];omega
 generalize(ns.map V.int).take 6=ys at h2' l2 h2
 have hm:∃mx:Int,(if(ys.length:Int)>4 then(ys.length:Int)else 4)=mx/\0<=mx/\mx<=6:=by
  refine⟨_,rfl,?_⟩
  split<;>omega
 obtain⟨mx,emx,mx0,mx6⟩:=hm
 have lw2:=lw1.same s2
 fail "R"
 rw[emx]
 fail "R"
 refine for_range (n:=mx.toNat) (fun i σ H5=>(∃x2 x3 x4 x5 x6 x7,σ=[some (.ref a),some (.ref la),x2,x3,x4,x5,x6,x7])/\LwI H la (1+3*i) H5) ⟨⟨_,_,_,_,_,_,rfl⟩,lw2⟩ ?_ ?_
 ·rintro i σ H5 hi ⟨⟨x2,x3,x4,x5,x6,x7,rfl⟩,lw5⟩
  clear c1 c2
  have hS5:=lw5.s.seq hS
  have i0:(0:Int)<=0+i:=by omega
  have i1:(0+i:Int)<=100:=by omega
  fail "R"
  intro fe H6 s6 hfe hf6
  have lw6:=lw5.same s6
  have hfe0:=lw5.s.free hfe
  have nf:la≠fe:=by
   obtain⟨_,ls,h,_⟩:=lw5
   exact ne_of_none h hfe
  fail "R"
  refine comp_range (n:=2) (fun i' σ vs H7=>(∃v,σ=[v,some (.ref fe)])/\WsI H la fe (1+3*i) H6 i' vs H7) ⟨⟨none,rfl⟩,⟨lw6,Ext.refl hf6,[],rfl,rfl,fun x hx=>nomatch hx⟩⟩ (fun i σ vs H7 _ h=>?_) (small (by decide)) ?_ ?_
  ·obtain⟨_,⟨_,_,ws,rfl,e,_⟩⟩:=h
   rw[List.length_map];omega
  ·rintro i σ vs H7 hi ⟨⟨v,rfl⟩,⟨lw7,x7,ws,rfl,e7,nm7⟩⟩
   have hf7:=x7.2
   fail "R"
   intro x H8 x8 nx
   refine⟨⟨_,rfl⟩,⟨lw7.ext hfe0 nf x8,x7.trans x8,ws++[x],by rw[List.map_append];rfl,by rw[List.length_append,e7];rfl,fun y hy=>?_⟩⟩
   rcases List.mem_append.mp hy with hy|hy
   ·exact nm7 y hy
   ·rw[List.mem_singleton.mp hy];exact nx
  rintro σ vs H7 ⟨_,⟨lw7,x7,ws,rfl,e7,nm7⟩⟩ p8 hp8
  have s8:=same_new hp8 (.lst (ws.map V.str))
  have h8:upd H7 p8 (.lst (ws.map V.str)) p8=some (.lst (ws.map V.str)):=upd_same
  generalize upd H7 p8 _=H8 at s8 h8⊢
  have lw8:=lw7.same s8
  have hf8:FeedAt H8 fe:=x7.2.same s8
  have wa8:WordsAt H8 p8 ws:=⟨h8,by omega,by omega⟩
  fail "R"
  intro c H9 c0 c30 x9
  have lw9:=lw8.ext hfe0 nf x9
  have hf9:=x9.2
  have wa9:=wa8.ext hf8 x9
  have r1:1<=1+c:=by omega
  have r2:1+c<=30:=by omega
  fail "R"
  intro v10 H10 t x10 r10 fk
  have lw10:=lw9.ext hfe0 nf x10
  have hf10:=x10.2
  have tk:=fk.ok
  have tz:tsz t<=30:=Nat.le_trans fk.z (by omega)
  have td:tdp t<131:=Nat.lt_of_le_of_lt fk.d (by decide)
  have tz8:tsz t<=800:=by omega
  fail "R"
  intro H11 s11
  have r11:=r10.same s11
  have lw11:=lw10.same s11
  have hf11:FeedAt H11 fe:=hf10.same s11
  have wd:=wdt_of t (by omega)
  have tl:(thB t).txt.length<=3000:=by have:=txt_len t tk;omega
  fail "R"
  intro H12 s12
  have lw12:=lw11.same s12
  have hf12:FeedAt H12 fe:=hf11.same s12
  have q1:Rp K H12 (.s (txT t)) (.str (ofL (thB t).txt)):=.s
  have q2:Rp K H12 (.s (txT t)) (.str (txT t)):=.s
  have tw:Tw (.s (txT t)):=.s _
  have dp:(T.s (txT t)).dep<265:=by simp[T.dep]
  fail "R"
  intro H13 s13
  have lw13:=lw12.same s13
  have hf13:FeedAt H13 fe:=hf12.same s13
  have txl:=txl_th tk tz
  obtain⟨s14,ls,h14,ok14,n14⟩:=lw13
  have hlz:((ls.map ofL).map V.str).length<sizeLine:=by rw[List.length_map,List.length_map,sizeLine_eq];omega
  have lw15:=LwI.app (l:=(thB t).txt) s14 hla ok14 n14 (txl.ok (by decide))
  have hf15:FeedAt (upd H13 la (.lst ((ls.map ofL).map V.str++[.str (ofL (thB t).txt)]))) fe:=by
   obtain⟨p,q,e⟩:=hf13
   exact⟨p,q,by rw[upd_ne (Ne.symm nf)];exact e⟩
  fail "R"
  refine law_turn (by omega) TK SPL z_range hr (by omega) hla hfe0 nf lw15 hf15 txl fun o6 o7 H' lw'=>?_
  refine⟨⟨_,_,_,_,_,_,rfl⟩,?_⟩
  rw[show 1+3*(i+1)=1+3*i+1+2 by omega]
  exact lw'
 ·rintro σ H5 ⟨⟨x2,x3,x4,x5,x6,x7,rfl⟩,lw5⟩
  refine c2 _ _ ?_
  have lw30:LwI H la 30 H5:=by
   obtain⟨s5,ls,h5,ok5,n5⟩:=lw5
   exact⟨s5,ls,h5,ok5,by omega⟩
  exact law_ask hj1 hj2 LHD DUE LA hr lw30 k
end
end G12
namespace L2
open PySem PySem.Spec PyProof.Rows
section
variable {X:Cx}{pins:List (Addr×Obj)}{σ:St}{H:Hp}{s:Shared}
theorem fl_noteC{env:Env}{outer:List Env}{L x C:Addr}{od:Option Addr}{fl:Value}{E:Value->Shared->Prop}{Q:Unit->Shared->Prop}(I:Inv X [] σ H s)(hpn:X.pn=[])(hst:X.stack=env::outer)(hf:env.frame=some L)(F:Fl H s.heap X.s₀.heap.objs.size x C od fl)
  (go:∀s',s'.os=s.os->Inv X [] σ H s'->Fl H s'.heap X.s₀.heap.objs.size x C od (rawInt L)->Q () s'):wpAny (model X.prog X.w) X.A (noteFrame (.ref x) env) Q E s:=by
 obtain⟨⟨oe,vs,he,hcl,hdi,hd,hsz,hh⟩,nx,hx⟩:=F
 have hfr:X.A.frames=some (env::outer):=by rw[←hst];exact I.ok.frames
 have hpx:∀(a:Addr),∀p∈X.pn++[],p.1≠a:=fun a p hp=>by rw[hpn]at hp;cases hp
 obtain⟨n1,n2,n3⟩:=I.fld_ne he hd
 have chx:∀b∈[x],H b=none/\X.s₀.heap.objs.size<=b/\b≠X.env.locals/\(∀y c,X.env.cells.lookup y=some c->c≠b)/\∀p∈X.pn++[],p.1≠b:=fun b hb=>by
  rw[List.mem_singleton.mp hb]
  exact⟨hx,nx,n1,n2,hpx x⟩
 have fin:∀(s1:Shared),s1.os=s.os->Inv X [] σ H s1->∀(h':Heap) (T:Addr) (oe' oT:Obj) (ts:Array Value),Rest (frs (env::outer)) [x] s1.heap h'->s1.heap.objs.size<=T->h'.get? x=some oe'->oe'.cls=oe.cls->oe'.dict=oe.dict->oe'.data=.fields (vs.setIfInBounds 1 (.ref T)) ->
   s1.heap.get? x=some oe->h'.get? T=some oT->oT.data=.fields ts->ts[3]?=some (rawInt L)->Q () {s1 with heap:=h'}:=fun s1 ho1 I1 h' T oe' oT ts r hT e1 e2 e3 e4 ex e5 e6 e7=>by
  rw[←hst]at r
  refine go _ ho1 (I1.rest r chx) ⟨⟨oe',_,e1,e2.trans hcl,e3.trans hdi,e4,?_,.inr ⟨T,oT,ts,?_,?_,?_,I1.hok.fresh hT,e5,e6,e7⟩⟩,nx,hx⟩
  ·rw[Array.size_setIfInBounds];exact hsz
  ·rw[Array.getElem?_setIfInBounds_self_of_lt hsz]
  ·exact Nat.ne_of_gt (Nat.lt_of_lt_of_le (Heap.lt_size ex) hT)
  ·exact Nat.le_trans I1.sz hT
 unfold noteFrame
 simp only[hf]
 rcases hh with⟨h1,rfl⟩|⟨T,oT,ts,h1,hTx,hTn,hTH,hT,hdT,h3⟩
 ·refine wpAny_bind (wpAny_field he hd h1 ?_)
  rw[if_neg (by decide)]
  exact entry_new hfr (by rw[←hst];exact I.stack) hf (by rw[←hst];exact n3) he hd hsz fun h' T oe' oT ts r a1 a2 a3 a4 a5 a6 a7 a8=>fin s rfl I h' T oe' oT ts r a1 a2 a3 a4 a5 he a6 a7 a8
 ·refine wpAny_bind (wpAny_field he hd h1 ?_)
  rw[if_pos (show(Value.ref T != Value.none)=true from by simp)]
  refine wpAny_bind (wpAny_field hT hdT h3 ?_)
  obtain⟨t1,t2,t3⟩:=I.fld_ne hT hdT
  by_cases c:(fl == rawInt L)=true
  ·rw[if_pos c]
   have ef:fl=rawInt L:=eq_of_beq c
   subst ef
   exact wpAny_pure (go s rfl I ⟨⟨oe,vs,he,hcl,hdi,hd,hsz,.inr ⟨T,oT,ts,h1,hTx,hTn,hTH,hT,hdT,h3⟩⟩,nx,hx⟩)
  ·rw[if_neg c]
   refine wpAny_bind (wpAny_setField hT hdT (Array.getElem?_eq_some_iff.mp h3).1 ?_)
   have I1:=I.rest (rest_set (fs:=frs X.stack) (a:=T) (g:=Obj.mapFields (·.setIfInBounds 3 Value.none))) fun b hb=>by
    rw[List.mem_singleton.mp hb]
    exact⟨hTH,hTn,t1,t2,hpx T⟩
   have ex1:(s.heap.update T (Obj.mapFields (·.setIfInBounds 3 Value.none))).get? x=some oe:=by rw[Heap.get?_update_other _ _ hTx];exact he
   exact entry_new hfr (by rw[←hst];exact I1.stack) hf (by rw[←hst];exact n3) ex1 hd hsz fun h' T2 oe' oT2 ts2 r a1 a2 a3 a4 a5 a6 a7 a8=>fin {s with heap:=s.heap.update T (Obj.mapFields (·.setIfInBounds 3 Value.none))} rfl I1 h' T2 oe' oT2 ts2 r a1 a2 a3 a4 a5 ex1 a6 a7 a8
end
section
variable {X:Cx}{pins:List (Addr×Obj)}{σ:St}{H:Hp}{s:Shared}
theorem comp_leaveE{scope:Scope}{N':List Str}{fp:List Addr}{C:Addr}{s':Shared}{H':Hp}{σ':St}{pins':List (Addr×Obj)}{h'':Heap}(I:Inv X pins σ H s)(hf:∀b∈fp,FpOk X pins H b)
  (I':Inv (cxComp X scope N' fp C s H) pins' σ' H' s') (hC:s.heap.objs.size<=C) (hs:Heap.SameBut C s'.heap h'') :
  Inv X pins σ H' {s' with heap:=h''}:=by
 have un:Un (frs X.stack) fp H H' s.heap s'.heap:=I'.base
 have hCn:H' C=none:=I'.free
 have at':∀b,b≠C->h''.get? b=s'.heap.get? b:=fun b hb=>hs.2 b hb
 have neC:∀b o,s.heap.get? b=some o->b≠C:=fun b o e=>Nat.ne_of_lt (Nat.lt_of_lt_of_le (Heap.lt_size e) hC)
 have un':Un (frs X.stack) fp H H' s.heap h'':=by
  refine⟨fun b o e n h1 h2=>?_,fun b o e n h1 h2=>?_,fun b o e n h2=>?_,fun b o e h2=>?_,fun b xs e=>?_,fun b o u e=>?_,fun b ps e=>?_⟩
  ·rw[at' b (neC b o e)];exact un.keep b o e n h1 h2
  ·rw[at' b (neC b o e)];exact un.slot b o e n h1 h2
  ·exact un.free b o e n h2
  ·rw[at' b (neC b o e)];exact un.there b o e h2
  ·exact un.tups b xs e
  ·exact un.frzs b o u e
  ·exact un.tbls b ps e
 have hok:HOk X.prog X.w H' h'':=fun b u e=>by
  refine(I'.hok b u e).stay (fun c v hc q=>?_) (fun c q=>q) fun c xs q=>q
  rw[at' c ?_];exact q
  rintro rfl
  rcases hc with z|z
  ·rw[←z,hCn]at e;cases e
  ·rw[hCn]at z;cases z
 exact I.call' (s':={s' with heap:=h''}) (ch:=fp) I'.os un' hok I'.bare fun b hb=>⟨(hf b hb).2.2.2.1,(hf b hb).2.1,(hf b hb).2.2.2.2.1,(hf b hb).2.2.2.2.2⟩
end
abbrev cxY(E:XK)(X:Cx)(scope:Scope)(N':List Str)(fp:List Addr)(C:Addr)(s₂:Shared)(H₂:Hp):Cx:=(cxComp X scope N' fp C s₂ H₂).wish (xeE (cxComp X scope N' fp C s₂ H₂) E)
theorem pe_compE{X Z:Cx}{E:XK}(hZ:Z=X.wish (xeE X E))(hpn:Z.pn=[])(hst:Z.stack=Z.env::Z.outer)(hf:Z.env.frame=some Z.env.locals){elt iter tg:Expr}{ifs:List Expr}{scope:Scope}{pos:Pos}{wi:TI}{g:TG}{tt:TT}{te:TE}(own:List Str)(fr:List Nat)(hc:Z.calm=true)
  (hkind:scope.kind=.function) (hcell:∀x∈scope.names,x.2≠.cell) (hnames:∀x∈scope.names,x.2=.local->scope.names.lookup x.1=some .local)
  (hfr:∀x∈scope.names,x.2=.free->Z.env.scope.names.lookup x.1=some .cell\/Z.env.scope.names.lookup x.1=some .free)
  (hin:∀j∈fr,scope.names.lookup (Z.N.getD j Str.empty)=some .free)
  (hi:PI Z tg iter wi) (hg:∀fp C s H,PG (cxY E Z scope (own++fr.map fun j=>Z.N.getD j Str.empty) fp C s H) tg g)
  (ht:∀fp C s H,PIfs (cxY E Z scope (own++fr.map fun j=>Z.N.getD j Str.empty) fp C s H) ifs tt)
  (he:∀fp C s H,PE (cxY E Z scope (own++fr.map fun j=>Z.N.getD j Str.empty) fp C s H) elt te)
  (hs:∀x,foldedSetIterable iter Z.env x=pure x:=by intro _;rfl):PE Z (.ListComp elt [⟨tg,iter,ifs,0⟩] scope pos) (tComp own.length fr wi g tt te):=by
 intro pins s σ H Q I h
 rw[eval_ListComp]
 have hfree:∀x∈scope.names,x.2=.free->∃c,Z.env.cells.lookup x.1=some c:=fun x hx e=>I.ok.has x.1 (hfr x hx e)
 refine wpAny_comprehension_free (use:=none) rfl hs (closureFor_eq hfree) hkind hnames ?_
 refine thn (hi pins s σ H _ I h) fun v s1 h1=>thn h1 fun itv s2 h2=>?_
 obtain⟨it,fp,tn,J,H2,e,I2,T,st2,f2,W,⟨m0,w0⟩,turn⟩:=h2
 subst e
 have hfo:∀b∈fp,b<s2.heap.objs.size:=fun b hb=>by obtain⟨o,e,_⟩:=T.obj 0 _ st2 b hb;exact Heap.lt_size e
 refine wpAny_newObj_type (wpAny_newFunctionEnv hcell (by intro y hy;simp at hy) (fun h₁ hns₁ hsb₁=>?_) hkind)
 dsimp only at hns₁ hsb₁⊢
 generalize hH2:s2.heap.push {cls:=.type "list",dict:=none,data:=.seq ([]:List Value).toArray}=G2 at hns₁ hsb₁⊢
 have hC:G2.objs.size=s2.heap.objs.size+1:=by rw[←hH2,Heap.size_push]
 have hDC:s2.heap.objs.size≠G2.objs.size:=by rw[hC];exact Nat.ne_of_lt (Nat.lt_succ_self _)
 have hCle:s2.heap.objs.size<=G2.objs.size:=by rw[hC];exact Nat.le_succ _
 have old:∀b o,s2.heap.get? b=some o->h₁.get? b=some o:=fun b o e=>hsb₁.extBut b o (by rw[hC];exact Nat.ne_of_lt (Nat.lt_succ_of_lt (Heap.lt_size e))) (Heap.get?_push_of_some _ (hH2▸Heap.get?_push_of_some _ e))
 have hacc:h₁.PlainList s2.heap.objs.size #[]:=⟨_,hsb₁.extBut _ _ hDC (Heap.get?_push_of_some _ (hH2▸Heap.get?_push_size _ rfl))⟩
 have I3:Inv (cxY E Z scope (own++fr.map fun j=>Z.N.getD j Str.empty) fp G2.objs.size s2 H2) [] (innerSt own.length fr σ) H2 {s2 with heap:=h₁,toks:=s2.toks+([]:List (Str×Value)).length} :=
  (comp_enter (own:=own) I2 hkind hcell hfr hin hCle f2 hfo old hns₁).wish _
 have st3:tn 0 h₁:=T.keep 0 _ _ st2 fun b _ o e=>old b o e
 have hDf:s2.heap.objs.size∉fp:=fun hm=>Nat.lt_irrefl _ (hfo _ hm)
 have hDn2:H2 s2.heap.objs.size=none:=I2.hok.fresh (Nat.le_refl _)
 have sub:∀y c,(cellsFor Z.env scope.names []).lookup y=some c->Z.env.cells.lookup y=some c:=cellsFor_sub _ _ hfree (by intro y c e;simp at e)
 have cellD:∀y c,(cellsFor Z.env scope.names []).lookup y=some c->c≠s2.heap.objs.size:=fun y c e=>by
  obtain⟨_,o,ho,_⟩:=I2.cell y c (sub y c e)
  exact Nat.ne_of_lt (Heap.lt_size ho)
 have Dfs:s2.heap.objs.size∉frs Z.stack:=fun z=>by
  rcases List.mem_cons.mp (I2.stkSub _ z)with e|e
  ·exact absurd I2.lt (by rw[←e];exact Nat.lt_irrefl _)
  ·exact I2.nofs (Nat.le_refl _) e
 -- the iterator's records,in the block's context
 have stat:∀{H':Hp}{pl:List (Addr×Obj)},(∀b∈fp,H' b=none)->(∀p∈pl,p.1=s2.heap.objs.size)->∀b∈fp,FpOk (cxY E Z scope (own++fr.map fun j=>Z.N.getD j Str.empty) fp G2.objs.size s2 H2) pl H' b:=fun{H' pl} hn hp b hb=>by
  refine⟨hn b hb,(I3.ok.exf b hb).1,I3.ok.exfs b hb,.inl hb,(I3.ok.exf b hb).2,fun p hpp z=>?_⟩
  have hpp':p∈pl:=by simpa[cxY,Cx.wish,cxComp]using hpp
  exact hDf (by rw[←hp p hpp',z];exact hb)
 have pinD:∀{σ':St}{H':Hp}{s':Shared}{ys:Array Value}{n:Nat},Inv (cxY E Z scope (own++fr.map fun j=>Z.N.getD j Str.empty) fp G2.objs.size s2 H2) [] σ' H' s'->H' s2.heap.objs.size=none->s'.heap.get? s2.heap.objs.size=some {cls:=.type "list",data:=.seq ys n} ->
   Inv (cxY E Z scope (own++fr.map fun j=>Z.N.getD j Str.empty) fp G2.objs.size s2 H2) [(s2.heap.objs.size,{cls:=.type "list",data:=.seq ys n})] σ' H' s':=fun{σ' H' s' ys n} J hn e=>J.pins_of fun p hp=>by
  have e':p=(s2.heap.objs.size,{cls:=.type "list",data:=.seq ys n}):=by simpa using hp
  subst e'
  exact⟨e,hn,hDC,Dfs,fun v z=>nomatch z⟩
 have loop:codeAny (model Z.prog Z.w) Z.A (.compLoop (.ListComp elt [⟨tg,iter,ifs,0⟩] scope pos) 0 (.ref it) (.ref s2.heap.objs.size) (compEnvC scope (cellsFor Z.env scope.names []) G2.objs.size Z.env))
   (compPost (model Z.prog Z.w) Z.A Z.xe none (EP Z pins σ Q) (.ref s2.heap.objs.size) G2.objs.size) {s2 with heap:=h₁,toks:=s2.toks+([]:List (Str×Value)).length}:=by
  refine codeAny_compLoop_any (E:=xeE (cxComp Z scope (own++fr.map fun j=>Z.N.getD j Str.empty) fp G2.objs.size s2 H2) E) (fun n s'=>∃i σ' H' vs ys,Inv (cxY E Z scope (own++fr.map fun j=>Z.N.getD j Str.empty) fp G2.objs.size s2 H2) [] σ' H' s'/\tn i s'.heap/\(∀b∈fp,H' b=none)/\H' s2.heap.objs.size=none/\s'.heap.PlainList s2.heap.objs.size ys/\Vals vs ys.toList/\W i n σ' vs H')
   ?_ ?_ m0 ⟨0,_,H2,[],#[],I3,st3,fun b hb=>(f2 b hb).1,hDn2,hacc,.nil,w0⟩
  rotate_left
  ·rintro e5 s5 ⟨x,C5,od,fl,σ5,H5,rfl,J5,F5,q5⟩
   show wpAny _ _ (noteFrame (.ref x) Z.env) _ _ _
   refine fl_noteC (X:=cxComp Z scope (own++fr.map fun j=>Z.N.getD j Str.empty) fp G2.objs.size s2 H2) (env:=Z.env) (outer:=Z.outer) (L:=Z.env.locals) J5 rfl hst hf F5 fun s6 o6 J6 F6=>?_
   obtain⟨m4,hn4,_⟩:=id J6.loc
   refine⟨m4,hn4,fun h' hs' cenv hc'=>?_⟩
   have I7:=comp_leaveE I2 f2 J6 hCle hs'
   obtain⟨⟨oe,vs5,he5,hcl5,hdi5,hd5,hsz5,hh5⟩,nx5,hx5⟩:=F6
   have xC:x≠G2.objs.size:=(J6.fld_ne he5 hd5).1
   have he7:h'.get? x=some oe:=by rw[hs'.2 x xC];exact he5
   rcases hh5 with⟨_,z⟩|⟨T5,oT,ts5,h1,hTx,hTn,hTH,hT,hdT,h3⟩
   ·exact absurd z (by unfold rawInt;intro z;cases z)
   have TC:T5≠G2.objs.size:=(J6.fld_ne hT hdT).1
   have hT7:h'.get? T5=some oT:=by rw[hs'.2 T5 TC];exact hT
   have F7:Fl H5 h' Z.s₀.heap.objs.size x C5 od (rawInt Z.env.locals):=⟨⟨oe,vs5,he7,hcl5,hdi5,hd5,hsz5,.inr ⟨T5,oT,ts5,h1,hTx,Nat.le_trans I2.sz hTn,hTH,hT7,hdT,h3⟩⟩,Nat.le_trans I2.sz nx5,hx5⟩
   unfold PySem.passOn
   refine wpAny_bind (wpAny_field he7 hd5 h1 ?_)
   rw[if_neg (by simp)]
   have I8:Inv Z [] σ H5 {s6 with heap:=h'}:=I7.pins_of fun p hp=>nomatch hp
   refine wpAny_bind (fl_flight I8 hpn F7 fun s8 fl8 o8 I9 F9=>?_)
   subst hZ
   exact wpAny_throw ⟨x,C5,od,fl8,σ,H5,rfl,I9.unwish,F9,q5⟩
  rintro n s3 ⟨i,σ3,H3,vs,ys,J3,st3,fr3,dn3,⟨pn,pl3⟩,rv,w3⟩
  have J3':=pinD J3 dn3 pl3
  have hpins:∀p∈[(s2.heap.objs.size,({cls:=.type "list",data:=.seq ys pn}:Obj))],p.1=s2.heap.objs.size:=fun p hp=>by
   have e':p=(s2.heap.objs.size,{cls:=.type "list",data:=.seq ys pn}):=by simpa using hp
   rw[e']
  rcases turn i n σ3 vs H3 w3 with⟨stop,hz,q⟩|⟨go,hz,N,hN,step⟩
  ·refine thn (T.done (cxY E Z scope (own++fr.map fun j=>Z.N.getD j Str.empty) fp G2.objs.size s2 H2) rfl rfl rfl hc i _ s3 σ3 H3 (xeE (cxComp Z scope (own++fr.map fun j=>Z.N.getD j Str.empty) fp G2.objs.size s2 H2) E) J3' (stat fr3 hpins) st3 stop) fun r s4 ⟨hr,J4⟩=>?_
   subst hr
   obtain⟨m4,hn4,_⟩:=id J4.loc
   refine⟨m4,hn4,fun h' hs'=>?_⟩
   have e4:s4.heap.get? s2.heap.objs.size=some {cls:=.type "list",data:=.seq ys pn}:=(J4.pin (s2.heap.objs.size,{cls:=.type "list",data:=.seq ys pn}) (List.mem_append_right _ (by simp))).1
   exact⟨.ref s2.heap.objs.size,_,comp_leave I2 f2 J4.unwish hCle (Nat.le_refl _) hDC dn3 ⟨pn,e4⟩ rv hz hs',rfl,q _ dn3⟩
  ·refine thn (T.item (cxY E Z scope (own++fr.map fun j=>Z.N.getD j Str.empty) fp G2.objs.size s2 H2) rfl rfl rfl hc i _ s3 σ3 H3 (xeE (cxComp Z scope (own++fr.map fun j=>Z.N.getD j Str.empty) fp G2.objs.size s2 H2) E) J3' (stat fr3 hpins) st3 go) fun r s4 ⟨u,hr,h4⟩=>?_
   subst hr
   refine thn h4 fun _ s5 ⟨x,H5,J5,r5,y5,st5,fr5⟩=>?_
   have J5':=J5.pinned (stat fr5 hpins) (T.obj _ _ st5)
   refine thn (hg fp _ s2 H2 _ s5 σ3 H5 x u _ J5' r5 (step x H5 y5)) fun _ s6 ⟨σ6,H6,J6,q6⟩=>?_
   refine thn (ht fp _ s2 H2 _ s6 σ6 H6 _ J6 q6) fun ok s7 ⟨H7,J7,q7⟩=>?_
   -- what stood pinned through the turn
   have after:∀{s8:Shared}{H8:Hp},Inv (cxY E Z scope (own++fr.map fun j=>Z.N.getD j Str.empty) fp G2.objs.size s2 H2) ([(s2.heap.objs.size,({cls:=.type "list",data:=.seq ys pn}:Obj))]++pinsAt fp s5.heap) σ6 H8 s8 ->
     tn (i+1) s8.heap/\(∀b∈fp,H8 b=none)/\H8 s2.heap.objs.size=none/\s8.heap.get? s2.heap.objs.size=some {cls:=.type "list",data:=.seq ys pn}:=fun{s8 H8} J8=>by
    refine⟨T.keep _ _ _ st5 fun b hb o e=>(J8.pin (b,o) (List.mem_append_right _ (List.mem_append_right _ (mem_pinsAt hb e)))).1,fun b hb=>?_,?_,?_⟩
    ·obtain⟨o,e,d⟩:=T.obj _ _ st5 b hb
     exact(J8.pin (b,o) (List.mem_append_right _ (List.mem_append_right _ (mem_pinsAt hb e)))).2.1
    ·exact(J8.pin (s2.heap.objs.size,{cls:=.type "list",data:=.seq ys pn}) (List.mem_append_right _ (List.mem_append_left _ (by simp)))).2.1
    ·exact(J8.pin (s2.heap.objs.size,{cls:=.type "list",data:=.seq ys pn}) (List.mem_append_right _ (List.mem_append_left _ (by simp)))).1
   cases ok with
   |false =>
    obtain⟨m',hm,w7⟩:=hN _ _ _ q7
    obtain⟨a1,a2,a3,a4⟩:=after J7
    exact⟨m',hm,i+1,σ6,H7,vs,ys,J7.pins_of (fun p hp=>absurd hp (by simp)),a1,a2,a3,⟨pn,a4⟩,rv,w7⟩
   |true =>
    refine thn (he fp _ s2 H2 _ s7 σ6 H7 _ J7 q7) fun y s8 ⟨v8,H8,J8,r8,n8⟩=>?_
    obtain⟨m',hm,w8⟩:=hN _ _ _ n8
    obtain⟨a1,a2,a3,a4⟩:=after J8
    have J9:Inv (cxY E Z scope (own++fr.map fun j=>Z.N.getD j Str.empty) fp G2.objs.size s2 H2) [] σ6 H8 s8:=J8.pins_of (fun p hp=>absurd hp (by simp))
    have hys:ys.size<=sizeLine:=by
     have e1:vs.length=ys.toList.length:=rv.length
     have e2:ys.toList.length=ys.size:=by simp
     omega
    refine wpAny_list_append_plain (hsz:=hys) ⟨pn,a4⟩ fun h₅ hl₅ hs₅=>?_
    refine⟨m',hm,i+1,σ6,H8,vs++[v8],ys.push y,J9.turned (t':=s8.toks) (it:=s2.heap.objs.size) (fun b o hb e=>by rw[hs₅.2 b hb];exact e) a3 hDC (.inr (Nat.le_refl _)) cellD (fun p hp=>absurd (show p∈([]:List (Addr×Obj))from hp) (by simp)),
     T.keep _ _ _ a1 fun b hb o e=>(hs₅.2 b (fun z=>hDf (z▸hb))).trans e,a2,a3,hl₅,?_,w8⟩
    have:Vals (vs++[v8]) (ys.toList++[y]):=rv.append (.cons r8 .nil)
    simpa using this
 exact codeAny_compStart_list loop (T.self Z.A 0 _ _ _ st3 loop)
theorem pe_compCE{X:Cx}{E:XK}(hpn:X.pn=[])(hst:X.stack=X.env::X.outer)(hf:X.env.frame=some X.env.locals){elt iter tg:Expr}{ifs:List Expr}{scope:Scope}{pos:Pos}{wi:TI}{g:TG}{tt:TT}{te:TE}(sc:Scope)(N0 own:List Str)(fr:List Nat)(hc:X.calm=true)(hsc:X.env.scope=sc)(hN:X.N=N0)
  (ok:compOk scope sc N0 fr=true) (hi:PI (X.wish (xeE X E)) tg iter wi) (hg:∀fp C s H,PG (cxY E (X.wish (xeE X E)) scope (own++fr.map fun j=>N0.getD j Str.empty) fp C s H) tg g)
  (ht:∀fp C s H,PIfs (cxY E (X.wish (xeE X E)) scope (own++fr.map fun j=>N0.getD j Str.empty) fp C s H) ifs tt)
  (he:∀fp C s H,PE (cxY E (X.wish (xeE X E)) scope (own++fr.map fun j=>N0.getD j Str.empty) fp C s H) elt te)
  (hs:∀x,foldedSetIterable iter X.env x=pure x:=by intro _;rfl):PE (X.wish (xeE X E)) (.ListComp elt [⟨tg,iter,ifs,0⟩] scope pos) (tComp own.length fr wi g tt te):=by
 subst hsc hN
 unfold compOk at ok
 simp only[Bool.and_eq_true,List.all_eq_true,bne_iff_ne,beq_iff_eq,Bool.or_eq_true]at ok
 obtain⟨⟨k1,k2⟩,k3⟩:=ok
 refine pe_compE (X:=X) (Z:=X.wish (xeE X E)) (E:=E) rfl hpn hst hf own fr hc k1 (fun x hx=>(k2 x hx).1.1) (fun x hx e=>?_) (fun x hx e=>?_) (fun j hj=>k3 j hj) hi hg ht he hs
 ·rcases(k2 x hx).1.2 with z|z
  ·exact absurd e z
  ·exact z
 ·rcases(k2 x hx).2 with(z|z)|z
  ·exact absurd e z
  ·exact .inl z
  ·exact .inr z
end L2
namespace G12
open PySem L2
theorem thoks_of:∀{l:List Th},(∀t∈l,ThOk t)->ThOks l
 | [],_=>by unfold ThOks;trivial
 |x::r,h=>by unfold ThOks;exact⟨h x (.head _),thoks_of fun t ht=>h t (.tail _ ht)⟩
structure ThI(K:PySem.W.Frag) (H:Hp) (ws:List Bw) (i:Nat) (vs:List V) (Hc:Hp):Prop where
 s:Same H Hc
 l:vs.length=i
 x:∃ts:List Th,(∀t∈ts,ThOk t)/\ws.take i=ts.map thB/\Rps K Hc (ts.map thT) vs
section
variable {P:Program}{w:World}{K:PySem.W.Frag}{mg:Str->Option Value}{base:Heap}{gT cB:Addr}{tfd:FuncData}
theorem nm_things_of:Nm ["items"] (defScope s_things_of):=by decide +kernel
theorem sc_things_of:FnScope ["items"] ["items"] (defScope s_things_of):=⟨rfl,rfl,rfl,by decide +kernel,rfl,by decide +kernel,by decide +kernel⟩
theorem ok_thingsof{f:Addr}{fd:FuncData}(F:Fun K "things_of" "things_of" s_things_of f fd)(THO:HasE P w K mg base "thing_of" 3 ["item"] (spThing K cB) gT tfd)(z_tuple:mg "tuple"=none):FnOk P w K mg base (CXE P w) 4 f fd ["items"] (spThings K cB):=by
 refine F.okE sc_things_of (fun vs H Q E h=>?_) (fun cdv A outer s H vs Q E hr h=>?_)
 ·obtain⟨_,_,_,_,rfl,_⟩:=h
  rfl
 obtain⟨p,us,ws,M,rfl,hp,rv,hlen,hgd,hE,k⟩:=h
 refine⟨_,(@pss_one _ _ _ (@ps_ret _ _ _ _ (@pe_callTy _ _ _ _ _ _ _ _ _ call_tuple_of (by show _=_;kernel_rfl) z_tuple PyProof.Rows.boot_tuple (@pa_c _ _ _ _ _ (pe_compCE rfl rfl rfl (defScope s_things_of) ["items"] ["item"] [] rfl rfl rfl (by decide +kernel) (pi_list (va nm_things_of 0)) (fun _ _ _ _=>(pg_name (i:=0) (show(["item"]:List Str).Nodup by decide +kernel) rfl (Or.inl (by kernel_rfl)) (by first|exact .inl rfl|exact .inr (by kernel_rfl)))) (fun _ _ _ _=>pifs_nil) (fun _ _ _ _=>(@pe_call _ _ _ _ _ _ _ _ _ _ _ _ _ _ _ _ THO.ok (hr.mono (by omega)) (by show _=_;kernel_rfl) THO.at' THO.kp THO.bd .nil passE (pa_c (va (show Nm ["item"] _ by show _=_;kernel_rfl) 0) pa_nil) (by decide) (by rfl) (by rfl)))) pa_nil (by rfl)) (by decide) (by decide) (by rfl) (by rfl)))),?_⟩
 try dsimp only[cx_K]
 try dsimp only[cxE_K,cxE_w,cxo_K,cxo_w]
 have hsl:SqL K H p us:=SqL.of hp
 have lw:=rv.len
 fail "R"
 refine comp_list (K:=K) (xs:=us) (fun i σ vs Hc=>(∃y,σ=[y])/\ThI K H ws i vs Hc) ⟨⟨_,rfl⟩,⟨Same.refl _,rfl,[],(fun _ h=>nomatch h),rfl,.nil⟩⟩ (fun i σ vs Hc hi ⟨_,i2⟩=>by rw[i2.l];exact Nat.le_refl _) (big (by omega)) ?_ ?_ ?_
 ·rintro i σ vs Hc hi ⟨_,i2⟩
  exact SqL.of (i2.s _ _ hp)
 ·rintro i xv σ vs Hc hxv ⟨⟨y,rfl⟩,⟨s2,l2,ts,tk,e2,r2⟩⟩
  obtain⟨b,hb,rb⟩:=rv.get hxv
  have bm:=List.mem_of_getElem? hb
  have rb2:RTh K M Hc b xv:=(rth_ok K).keep rb (Kl2.same s2)
  have bl:∀w,b=.a w->w.length<=3000:=fun w e=>gd_len (by rw[←e];exact hgd b bm)
  have bad:¬good b->Told E Hc cB "at" (.int 0):=fun z=>(hE fun all=>z (all b bm)).same s2
  have hil:=(List.getElem?_eq_some_iff.mp hb).1
  have etk:ws.take (i+1)=ws.take i++[b]:=by rw[List.take_succ_eq_append_getElem hil,(List.getElem?_eq_some_iff.mp hb).2]
  fail "R"
  intro t v' H3 s3 tk3 e3 r3
  refine⟨⟨_,rfl⟩,s2.trans s3,by rw[List.length_append,l2];rfl,ts++[t],fun t' ht'=>?_,by rw[etk,e2,e3,List.map_append];rfl,by rw[List.map_append];exact(r2.same s3).append (.one r3)⟩
  rcases List.mem_append.mp ht' with h|h
  ·exact tk t' h
  ·rw[List.mem_singleton.mp h];exact tk3
 ·rintro σ vs Hc ⟨_,⟨s2,l2,ts,tk,e2,r2⟩⟩ p4 hp4
  rw[List.take_of_length_le (by omega)]at e2
  have s4:=same_new hp4 (.lst vs)
  have h4:upd Hc p4 (.lst vs) p4=some (.lst vs):=upd_same
  generalize upd Hc p4 (.lst vs)=H4 at s4 h4⊢
  refine⟨p4,vs,rfl,.inl ⟨SqL.of h4,fun p5 hp5=>?_⟩⟩
  refine k ts _ _ ((s2.trans s4).trans (same_new hp5 _)) (thoks_of tk) (by rw[thBs_map];exact e2) ?_
  rw[thTs_map]
  exact Rp.new (K:=K) hp5 (r2.same s4)
end
end G12
namespace G12
open PySem L2 PySem.W
theorem len0{α:Type}{P:List α->Prop}(h:P []):∀us:List α,us.length=0->P us
 | [],_=>h
theorem len1{α:Type}{P:List α->Prop}(h:∀a,P [a]):∀us:List α,us.length=1->P us
 | [a],_=>h a
theorem len2{α:Type}{P:List α->Prop}(h:∀a b,P [a,b]):∀us:List α,us.length=2->P us
 | [a,b],_=>h a b
theorem len4{α:Type}{P:List α->Prop}(h:∀a b c d,P [a,b,c,d]):∀us:List α,us.length=4->P us
 | [a,b,c,d],_=>h a b c d
def inC(s:Stmt)(i:Nat):Stmt:=match s with
 |.ClassDef _ _ _ b _ _ _ _ _ _ _=>b.getD i (.Pass ⟨0,0,0,0⟩)
 |_=>.Pass ⟨0,0,0,0⟩
abbrev i_BadText:Stmt:=inC s_BadText 0
theorem sc_BadText:FnScope ["self","at"] ["self","at"] (defScope i_BadText):=⟨rfl,rfl,rfl,by decide +kernel,rfl,by decide +kernel,by decide +kernel⟩
section
variable {P:Program}{w:World}{K:PySem.W.Frag}{mg:Str->Option Value}{base:Heap}{gT gN gA gF gI:Addr}{tfd nfd afd ffd ifd:FuncData}
theorem ok_BadText{f C:Addr}{fd:FuncData}(F:Fun K "__init__" "BadText.__init__" i_BadText f fd)(EF:ErrF K C "at"):FnOk P w K mg base CX0 1 f fd ["self","at"] (spIni C "at"):=by
 refine F.ok sc_BadText (fun vs H Q E h=>?_) (fun cdv A outer s H vs Q E hr h=>?_)
 ·obtain⟨x,y,rfl,_⟩:=h
  rfl
 obtain⟨x,y,rfl,hx,go⟩:=h
 exact⟨_,pss_one (ps_err (pv 0) (pv 1)),_,rfl,_,rfl,x,C,rfl,hx,EF,fun dx h1 h2=>go dx h1 h2⟩
theorem lth_all(F:Fun K "_law_thing" "_law_thing" s_L_thing gA afd)(mA:mg "_law_thing"=some (.ref gA))(bA:Binds K afd ["_law_feed_here","_law_words","_law_room","_law_down"] [])(TK:Has P w K mg base "_law_take" 1 ["_law_feed_here","_law_many"] spTake gT tfd)(NU:Has P w K mg base "_law_number" 2 ["_law_feed_here"] spNumber gN nfd)(z_range:mg "range"=none)(z_len:mg "len"=none)(z_min:mg "min"=none)(z_max:mg "max"=none)(z_tuple:mg "tuple"=none):∀n,FnOk P w K mg base CX0 (n+2) gA afd ["_law_feed_here","_law_words","_law_room","_law_down"] (spLTh K n)
 |0=>fn_none fun vs H Q E ⟨_,_,_,_,_,_,_,_,_,_,_,h0,h1,_⟩=>by omega
 |n+1=>ok_lthing (j:=n+2) (by omega) F TK NU ⟨lth_all F mA bA TK NU z_range z_len z_min z_max z_tuple n,mA,F.kp,bA⟩ z_range z_len z_min z_max z_tuple
theorem ltt_all(F:Fun K "_law_thing_text" "_law_thing_text" s_L_thing_text gA afd)(mA:mg "_law_thing_text"=some (.ref gA))(bA:Binds K afd ["_law_thing_here"] [])(z_str:mg "str"=none):∀n,FnOk P w K mg base CX0 (n+2) gA afd ["_law_thing_here"] (spLTt K n)
 |0=>fn_none fun vs H Q E ⟨_,_,_,_,_,h,_⟩=>by omega
 |n+1=>ok_lttx (j:=n+2) (by omega) F ⟨ltt_all F mA bA z_str n,mA,F.kp,bA⟩ z_str
theorem lto_all(F:Fun K "_law_thing_of" "_law_thing_of" s_L_thing_of gA afd)(mA:mg "_law_thing_of"=some (.ref gA))(bA:Binds K afd ["_law_tree_here"] [])(LFG:Has P w K mg base "_law_figures" 1 ["_law_word_here"] (spLFg K) gF ffd)(LIN:Has P w K mg base "_law_is_name" 2 ["_law_word_here"] (spLIn K) gI ifd)(z_isinstance:mg "isinstance"=none)(z_str:mg "str"=none)(z_int:mg "int"=none)(z_len:mg "len"=none)(z_tuple:mg "tuple"=none):∀n,FnOk P w K mg base CX0 (n+2) gA afd ["_law_tree_here"] (spLTo K n)
 |0=>fn_none fun vs H Q E ⟨_,_,_,_,h,_⟩=>by omega
 |n+1=>ok_lto (j:=n+2) (by omega) F LFG LIN ⟨lto_all F mA bA LFG LIN z_isinstance z_str z_int z_len z_tuple n,mA,F.kp,bA⟩ z_isinstance z_str z_int z_len z_tuple
theorem alike_all(F:Fun K "_law_alike" "_law_alike" s_L_alike gA afd)(mA:mg "_law_alike"=some (.ref gA))(bA:Binds K afd ["_law_found","_law_due_here"] [])(z_tuple:mg "tuple"=none)(z_str:mg "str"=none)(z_int:mg "int"=none)(z_bool:mg "bool"=none)(z_isinstance:mg "isinstance"=none)(z_len:mg "len"=none)(z_all:mg "all"=none)(z_zip:mg "zip"=none):∀n,FnOk P w K mg base CX0 (n+1) gA afd ["_law_found","_law_due_here"] (spAlike K n)
 |0=>fn_none fun vs H Q E ⟨_,_,_,_,_,_,_,h,_⟩=>by omega
 |n+1=>ok_alike (j:=n+1) (by omega) F ⟨alike_all F mA bA z_tuple z_str z_int z_bool z_isinstance z_len z_all z_zip n,mA,F.kp,bA⟩ z_tuple z_str z_int z_bool z_isinstance z_len z_all z_zip
end
def oneB(K:Frag)(c:Addr)(os:List Addr)(b:Addr):Bool:=errB K c b&&(kitOne K (.ref c) (.ref c) == some true)&&(kitAny K (.ref c) (os.map Value.ref) == some false)&&fieldB K c "at"
theorem cl1_mk{K:Frag}{c b f:Addr}{os:List Addr}(B:BaseAt K b)(q:ClsAt K c b (some (.ref f)))(h:oneB K c os b=true):Cl1 K c b os/\ErrF K c "at"/\keepIn K (.ref c)=true:=by
 unfold oneB at h
 simp only[Bool.and_eq_true]at h
 obtain⟨⟨⟨h1,h2⟩,h3⟩,h4⟩:=h
 have g:=errB_G h1
 have fl:=fieldB_F h4
 exact⟨⟨q.sub B,g.1,eq_of_beq h2,eq_of_beq h3,g.2.2.1,fl.2⟩,fl.1,g.2.2.2⟩
structure FnAt(K:Frag) (x qual:Str) (st:Stmt) (f:Addr) (fd:FuncData):Prop where
 ex:∃(od:Option Addr) (kV doc pm:Value) (an:Option Addr) (cdv ct:Value) (osl:Array (Option Value)),
  fd=fnOf x qual (defArgs st) (defBody st) (defScope st) .none kV doc pm an cdv ct/\K.lookup f=some ⟨.type "function",od,.func fd,osl⟩/\codeIn K cdv qual=true
 kp:keepIn K (.ref f)=true
theorem FnAt.f{K:Frag}{x qual:Str}{st:Stmt}{f:Addr}{fd:FuncData}(F:FnAt K x qual st f fd):Fun K x qual st f fd:=by
 obtain⟨od,kV,doc,pm,an,cdv,ct,osl,e,l,c⟩:=F.ex
 exact⟨⟨_,od,kV,doc,pm,an,cdv,ct,osl,e,l,c⟩,F.kp⟩
theorem fnAt_mk{K:Frag}{x qual:Str}{st:Stmt}{f:Addr}{od an:Option Addr}{osl:Array (Option Value)}{kV doc pm cdv ct:Value}(l:K.lookup f=some ⟨.type "function",od,.func (fnOf x qual (defArgs st) (defBody st) (defScope st) .none kV doc pm an cdv ct),osl⟩)
  (c:codeIn K cdv qual=true) (k:keepIn K (.ref f)=true):FnAt K x qual st f (fnOf x qual (defArgs st) (defBody st) (defScope st) .none kV doc pm an cdv ct):=⟨⟨od,kV,doc,pm,an,cdv,ct,osl,rfl,l,c⟩,k⟩
theorem FnAt.l{K:Frag}{x qual:Str}{st:Stmt}{f:Addr}{fd:FuncData}(F:FnAt K x qual st f fd):∃od osl,K.lookup f=some ⟨.type "function",od,.func fd,osl⟩:=by
 obtain⟨od,kV,doc,pm,an,cdv,ct,osl,e,l,c⟩:=F.ex
 exact⟨od,osl,l⟩
def tupS(K:Frag)(a:Addr)(ns:List Str):Bool:=match K.lookup a with
 |some ⟨.type "tuple",none,.seq its _,_⟩=>its.toList.length == ns.length&&(its.toList.zip ns).all (fun p=>match p.1 with|.str i _=>i == p.2|_=>false)
 |_=>false
theorem tupS_T{K:Frag}{a:Addr}{ns:List Str}(h:tupS K a ns=true)(hn:ns.length<=20):∀H,SqT K H a (ns.map V.str):=by
 intro H
 unfold tupS at h
 split at h
 ·rename_i its n sl e
  rw[Bool.and_eq_true]at h
  obtain⟨h1,h2⟩:=h
  replace h1:=eq_of_beq h1
  have hz:its.size<=sizeLine:=by
   have z:its.toList.length=its.size:=by simp
   exact small (by omega)
  refine .inr ⟨_,its,n,e,rfl,rfl,hz,?_,rfl⟩
  clear hz e
  generalize its.toList=l at h1 h2
  clear hn
  induction l generalizing ns with
  |nil=>cases ns with
   |nil=>exact .nil
   |cons _ _=>simp at h1
  |cons v r ih =>
   cases ns with
   |nil=>simp at h1
   |cons m q =>
    rw[List.zip_cons_cons,List.all_cons,Bool.and_eq_true]at h2
    obtain⟨h3,h4⟩:=h2
    refine .cons ?_ (ih (by simpa using h1) h4)
    split at h3
    ·rename_i i t e'
     have:i=m:=eq_of_beq h3
     subst this
     exact⟨t,e'⟩
    ·cases h3
 ·cases h
theorem all_mk{l:OpenLaw}{w:World}{K:Frag}{h:Heap}{mg:Str->Option Value}{g1 g2 g3 g4 g5 g6 g7 g8 g9 g10 g11 g12 g13 g14 g15 g16 g17 g18 g19 g20 g21 g22 g23 g24 g25 g26 g27 g28 g29 g30 g31 g32 g33 fa dC dF aK t0 t1 t2 t3 b c1 f1 o0 o1 o2 o3 o4 o5 o6 o7:Addr}{e1 e2 e3 e4 e5 e6 e7 e8 e9 e10 e11 e12 e13 e14 e15 e16 e17 e18 e19 e20 e21 e22 e23 e24 e25 e26 e27 e28 e29 e30 e31 e32 e33 d1:FuncData}{esC esF:Array DictEntry}{nC nF:Nat}{tkL tkF:Tok}(X:K.In h)(G:h.Ns mainGlobals mg)(hfa:mg "law"=some (.ref fa))
  (a1:nsIn K mainGlobals "bracketed"=some (some (.ref g1)))
  (a2:nsIn K mainGlobals "written"=some (some (.ref g2)))
  (a3:nsIn K mainGlobals "sort_of"=some (some (.ref g3)))
  (a4:nsIn K mainGlobals "well_parted"=some (some (.ref g4)))
  (a5:nsIn K mainGlobals "split_words"=some (some (.ref g5)))
  (a6:nsIn K mainGlobals "scanned"=some (some (.ref g6)))
  (a7:nsIn K mainGlobals "scanned_one"=some (some (.ref g7)))
  (a8:nsIn K mainGlobals "is_name"=some (some (.ref g8)))
  (a9:nsIn K mainGlobals "is_figures"=some (some (.ref g9)))
  (a10:nsIn K mainGlobals "spell_thing"=some (some (.ref g10)))
  (a11:nsIn K mainGlobals "thing_text"=some (some (.ref g11)))
  (a12:nsIn K mainGlobals "thing_of"=some (some (.ref g12)))
  (a13:nsIn K mainGlobals "things_of"=some (some (.ref g13)))
  (a14:nsIn K mainGlobals "close_thing"=some (some (.ref g14)))
  (a15:nsIn K mainGlobals "read_thing"=some (some (.ref g15)))
  (a16:nsIn K mainGlobals "_law_feed"=some (some (.ref g16)))
  (a17:nsIn K mainGlobals "_law_take"=some (some (.ref g17)))
  (a18:nsIn K mainGlobals "_law_number"=some (some (.ref g18)))
  (a19:nsIn K mainGlobals "_law_kept"=some (some (.ref g19)))
  (a20:nsIn K mainGlobals "_law_word"=some (some (.ref g20)))
  (a21:nsIn K mainGlobals "_law_alike"=some (some (.ref g21)))
  (a22:nsIn K mainGlobals "_law_refusal"=some (some (.ref g22)))
  (a23:nsIn K mainGlobals "_law_thing"=some (some (.ref g23)))
  (a24:nsIn K mainGlobals "_law_thing_text"=some (some (.ref g24)))
  (a25:nsIn K mainGlobals "_law_is_name"=some (some (.ref g25)))
  (a26:nsIn K mainGlobals "_law_figures"=some (some (.ref g26)))
  (a27:nsIn K mainGlobals "_law_tree"=some (some (.ref g27)))
  (a28:nsIn K mainGlobals "_law_thing_of"=some (some (.ref g28)))
  (a29:nsIn K mainGlobals "_law_due"=some (some (.ref g29)))
  (a30:nsIn K mainGlobals "_law_heard"=some (some (.ref g30)))
  (a31:nsIn K mainGlobals "_law_signs"=some (some (.ref g31)))
  (a32:nsIn K mainGlobals "_law_spoilt"=some (some (.ref g32)))
  (a33:nsIn K mainGlobals "law"=some (some (.ref g33)))
  (F1:FnAt K "bracketed" "bracketed" s_bracketed g1 e1)
  (F2:FnAt K "written" "written" s_written g2 e2)
  (F3:FnAt K "sort_of" "sort_of" s_sort_of g3 e3)
  (F4:FnAt K "well_parted" "well_parted" s_well_parted g4 e4)
  (F5:FnAt K "split_words" "split_words" s_split_words g5 e5)
  (F6:FnAt K "scanned" "scanned" s_scanned g6 e6)
  (F7:FnAt K "scanned_one" "scanned_one" s_scanned_one g7 e7)
  (F8:FnAt K "is_name" "is_name" s_is_name g8 e8)
  (F9:FnAt K "is_figures" "is_figures" s_is_figures g9 e9)
  (F10:FnAt K "spell_thing" "spell_thing" s_spell_thing g10 e10)
  (F11:FnAt K "thing_text" "thing_text" s_thing_text g11 e11)
  (F12:FnAt K "thing_of" "thing_of" s_thing_of g12 e12)
  (F13:FnAt K "things_of" "things_of" s_things_of g13 e13)
  (F14:FnAt K "close_thing" "close_thing" s_close_thing g14 e14)
  (F15:FnAt K "read_thing" "read_thing" s_read_thing g15 e15)
  (F16:FnAt K "_law_feed" "_law_feed" s_L_feed g16 e16)
  (F17:FnAt K "_law_take" "_law_take" s_L_take g17 e17)
  (F18:FnAt K "_law_number" "_law_number" s_L_number g18 e18)
  (F19:FnAt K "_law_kept" "_law_kept" s_L_kept g19 e19)
  (F20:FnAt K "_law_word" "_law_word" s_L_word g20 e20)
  (F21:FnAt K "_law_alike" "_law_alike" s_L_alike g21 e21)
  (F22:FnAt K "_law_refusal" "_law_refusal" s_L_refusal g22 e22)
  (F23:FnAt K "_law_thing" "_law_thing" s_L_thing g23 e23)
  (F24:FnAt K "_law_thing_text" "_law_thing_text" s_L_thing_text g24 e24)
  (F25:FnAt K "_law_is_name" "_law_is_name" s_L_is_name g25 e25)
  (F26:FnAt K "_law_figures" "_law_figures" s_L_figures g26 e26)
  (F27:FnAt K "_law_tree" "_law_tree" s_L_tree g27 e27)
  (F28:FnAt K "_law_thing_of" "_law_thing_of" s_L_thing_of g28 e28)
  (F29:FnAt K "_law_due" "_law_due" s_L_due g29 e29)
  (F30:FnAt K "_law_heard" "_law_heard" s_L_heard g30 e30)
  (F31:FnAt K "_law_signs" "_law_signs" s_L_signs g31 e31)
  (F32:FnAt K "_law_spoilt" "_law_spoilt" s_L_spoilt g32 e32)
  (F33:FnAt K "law" "law" s_law g33 e33)
  (ab:nsIn K mainGlobals "GapError"=some (some (.ref b)))
  (ac1:nsIn K mainGlobals "BadText"=some (some (.ref c1)))
  (ao0:nsIn K mainGlobals "Twice"=some (some (.ref o0)))
  (ao1:nsIn K mainGlobals "NoName"=some (some (.ref o1)))
  (ao2:nsIn K mainGlobals "WrongCount"=some (some (.ref o2)))
  (ao3:nsIn K mainGlobals "Clash"=some (some (.ref o3)))
  (ao4:nsIn K mainGlobals "NoGap"=some (some (.ref o4)))
  (ao5:nsIn K mainGlobals "TooLong"=some (some (.ref o5)))
  (ao6:nsIn K mainGlobals "TooMany"=some (some (.ref o6)))
  (ao7:nsIn K mainGlobals "NoRow"=some (some (.ref o7)))
  (j1:findIn K (.ref c1) "__init__"=some (some (.ref f1)))
  (B:BaseAt K b)
  (y1:ClsAt K c1 b (some (.ref f1)))
  (I1:FnAt K "__init__" "BadText.__init__" i_BadText f1 d1)
  (tB:oneB K c1 [o0,o1,o2,o3,o4,o5,o6,o7] b=true)
  (pC:nsIn K mainGlobals "CLOSE_OF"=some (some (.ref dC)))
  (lC:K.lookup dC=some {cls:=.type "dict",dict:=none,data:=.dict esC nC,slots:=#[]})
  (kC:KDs w esC.toList [("(",V.str ")"),("[",V.str "]")])
  (sC:(dC == sysModules)=false)
  (pF:nsIn K mainGlobals "FOLLOWERS"=some (some (.ref dF)))
  (lF:K.lookup dF=some {cls:=.type "dict",dict:=none,data:=.dict esF nF,slots:=#[]})
  (kF:KDs w esF.toList [("blank",V.ref t0),("start",V.ref t1),("word",V.ref t2),("end",V.ref t3)])
  (sF:(dF == sysModules)=false)
  (q0:tupS K t0 ["start","word"]=true)
  (q1:tupS K t1 ["start","word","end"]=true)
  (q2:tupS K t2 ["word","blank","end"]=true)
  (q3:tupS K t3 ["end","blank"]=true)
  (pK:nsIn K mainGlobals "KEPT"=some (some (.ref aK)))
  (qK:tupS K aK keptS=true)
  (pL:nsIn K mainGlobals "SMALL_LETTERS"=some (some (.str letS tkL)))
  (pI:nsIn K mainGlobals "FIGURES"=some (some (.str figS tkF)))
  (z0:nsIn K mainGlobals "len"=some none)
  (z1:nsIn K mainGlobals "range"=some none)
  (z2:nsIn K mainGlobals "int"=some none)
  (z3:nsIn K mainGlobals "tuple"=some none)
  (z4:nsIn K mainGlobals "zip"=some none)
  (z5:nsIn K mainGlobals "all"=some none)
  (z6:nsIn K mainGlobals "max"=some none)
  (z7:nsIn K mainGlobals "min"=some none)
  (z8:nsIn K mainGlobals "isinstance"=some none)
  (z9:nsIn K mainGlobals "str"=some none)
  (z10:nsIn K mainGlobals "bool"=some none)
  (z11:nsIn K mainGlobals "enumerate"=some none)
  (z12:nsIn K mainGlobals "ValueError"=some none) :
  ∃fd:FuncData,(∀(s:Shared) (v:Value),BindsTo s fd ⟨[v],[]⟩ [("_law_script",v)])/\∀base:Heap,K.In base->base.Ns mainGlobals mg->FnOk l.prog w K mg base CX0 267 fa fd ["_law_script"] (spLaw K):=by
 have e:=hfa.symm.trans (mg_of X G a33)
 cases e
 have B1:=F1.f.binds (ps:=["opener","words"]) fun _ _ _ _ _ _=>len2 fun _ _=>rfl
 have u1:=mg_of X G a1
 have B2:=F2.f.binds (ps:=["thing","spell"]) fun _ _ _ _ _ _=>len2 fun _ _=>rfl
 have u2:=mg_of X G a2
 have B3:=F3.f.binds (ps:=["sign"]) fun _ _ _ _ _ _=>len1 fun _=>rfl
 have u3:=mg_of X G a3
 have B4:=F4.f.binds (ps:=["text"]) fun _ _ _ _ _ _=>len1 fun _=>rfl
 have u4:=mg_of X G a4
 have B5:=F5.f.binds (ps:=["text"]) fun _ _ _ _ _ _=>len1 fun _=>rfl
 have u5:=mg_of X G a5
 have B6:=F6.f.binds (ps:=["text","close"]) fun _ _ _ _ _ _=>len2 fun _ _=>rfl
 have u6:=mg_of X G a6
 have B7:=F7.f.binds (ps:=["text","close"]) fun _ _ _ _ _ _=>len2 fun _ _=>rfl
 have u7:=mg_of X G a7
 have B8:=F8.f.binds (ps:=["text"]) fun _ _ _ _ _ _=>len1 fun _=>rfl
 have u8:=mg_of X G a8
 have B9:=F9.f.binds (ps:=["text","most"]) fun _ _ _ _ _ _=>len2 fun _ _=>rfl
 have u9:=mg_of X G a9
 have B10:=F10.f.binds (ps:=["thing"]) fun _ _ _ _ _ _=>len1 fun _=>rfl
 have u10:=mg_of X G a10
 have B11:=F11.f.binds (ps:=["thing"]) fun _ _ _ _ _ _=>len1 fun _=>rfl
 have u11:=mg_of X G a11
 have B12:=F12.f.binds (ps:=["item"]) fun _ _ _ _ _ _=>len1 fun _=>rfl
 have u12:=mg_of X G a12
 have B13:=F13.f.binds (ps:=["items"]) fun _ _ _ _ _ _=>len1 fun _=>rfl
 have u13:=mg_of X G a13
 have B14:=F14.f.binds (ps:=["opener","items"]) fun _ _ _ _ _ _=>len2 fun _ _=>rfl
 have u14:=mg_of X G a14
 have B15:=F15.f.binds (ps:=["text"]) fun _ _ _ _ _ _=>len1 fun _=>rfl
 have u15:=mg_of X G a15
 have B16:=F16.f.binds (ps:=["_law_script","_law_k"]) fun _ _ _ _ _ _=>len2 fun _ _=>rfl
 have u16:=mg_of X G a16
 have B17:=F17.f.binds (ps:=["_law_feed_here","_law_many"]) fun _ _ _ _ _ _=>len2 fun _ _=>rfl
 have u17:=mg_of X G a17
 have B18:=F18.f.binds (ps:=["_law_feed_here"]) fun _ _ _ _ _ _=>len1 fun _=>rfl
 have u18:=mg_of X G a18
 have B19:=F19.f.binds (ps:=[]) fun _ _ _ _ _ _=>len0 rfl
 have u19:=mg_of X G a19
 have B20:=F20.f.binds (ps:=["_law_feed_here"]) fun _ _ _ _ _ _=>len1 fun _=>rfl
 have u20:=mg_of X G a20
 have B21:=F21.f.binds (ps:=["_law_found","_law_due_here"]) fun _ _ _ _ _ _=>len2 fun _ _=>rfl
 have u21:=mg_of X G a21
 have B22:=F22.f.binds (ps:=["_law_e"]) fun _ _ _ _ _ _=>len1 fun _=>rfl
 have u22:=mg_of X G a22
 have B23:=F23.f.binds (ps:=["_law_feed_here","_law_words","_law_room","_law_down"]) fun _ _ _ _ _ _=>len4 fun _ _ _ _=>rfl
 have u23:=mg_of X G a23
 have B24:=F24.f.binds (ps:=["_law_thing_here"]) fun _ _ _ _ _ _=>len1 fun _=>rfl
 have u24:=mg_of X G a24
 have B25:=F25.f.binds (ps:=["_law_word_here"]) fun _ _ _ _ _ _=>len1 fun _=>rfl
 have u25:=mg_of X G a25
 have B26:=F26.f.binds (ps:=["_law_word_here"]) fun _ _ _ _ _ _=>len1 fun _=>rfl
 have u26:=mg_of X G a26
 have B27:=F27.f.binds (ps:=["_law_text"]) fun _ _ _ _ _ _=>len1 fun _=>rfl
 have u27:=mg_of X G a27
 have B28:=F28.f.binds (ps:=["_law_tree_here"]) fun _ _ _ _ _ _=>len1 fun _=>rfl
 have u28:=mg_of X G a28
 have B29:=F29.f.binds (ps:=["_law_text"]) fun _ _ _ _ _ _=>len1 fun _=>rfl
 have u29:=mg_of X G a29
 have B30:=F30.f.binds (ps:=["_law_text"]) fun _ _ _ _ _ _=>len1 fun _=>rfl
 have u30:=mg_of X G a30
 have B31:=F31.f.binds (ps:=[]) fun _ _ _ _ _ _=>len0 rfl
 have u31:=mg_of X G a31
 have B32:=F32.f.binds (ps:=["_law_feed_here","_law_text"]) fun _ _ _ _ _ _=>len2 fun _ _=>rfl
 have u32:=mg_of X G a32
 have B33:=F33.f.binds (ps:=["_law_script"]) fun _ _ _ _ _ _=>len1 fun _=>rfl
 have u33:=mg_of X G a33
 have D1:=I1.f.binds (ps:=["self","at"]) fun _ _ _ _ _ _=>len2 fun _ _=>rfl
 have z_len:=mg_none_of X G z0
 have z_range:=mg_none_of X G z1
 have z_int:=mg_none_of X G z2
 have z_tuple:=mg_none_of X G z3
 have z_zip:=mg_none_of X G z4
 have z_all:=mg_none_of X G z5
 have z_max:=mg_none_of X G z6
 have z_min:=mg_none_of X G z7
 have z_isinstance:=mg_none_of X G z8
 have z_str:=mg_none_of X G z9
 have z_bool:=mg_none_of X G z10
 have z_enumerate:=mg_none_of X G z11
 have z_ValueError:=mg_none_of X G z12
 have kC1:KD K w dC [("(",V.str ")"),("[",V.str "]")]:=⟨esC,nC,lC,kC,by decide +kernel,sC⟩
 have kF1:KD K w dF [("blank",V.ref t0),("start",V.ref t1),("word",V.ref t2),("end",V.ref t3)]:=⟨esF,nF,lF,kF,(show(["blank","start","word","end"]:List Str).Nodup by decide +kernel),sF⟩
 have T0:∀H,SqT K H t0 (folVB "blank"):=tupS_T q0 (by decide)
 have T1:∀H,SqT K H t1 (folVB "start"):=tupS_T q1 (by decide)
 have T2:∀H,SqT K H t2 (folVB "word"):=tupS_T q2 (by decide)
 have T3:∀H,SqT K H t3 (folVB "end"):=tupS_T q3 (by decide)
 have TK0:∀H,SqT K H aK keptV:=tupS_T qK (by decide)
 obtain⟨C1,ef1,kp1⟩:=cl1_mk B y1 tB
 obtain⟨od,kV,doc,pm,an,cdv,ct,osl,rfl,lk,cc⟩:=F33.ex
 refine⟨fnOf "law" "law" (defArgs s_law) (defBody s_law) (defScope s_law) .none kV doc pm an cdv ct,fun s v=>.of_eq rfl,fun base _ _=>?_⟩
 have BT:Rsd l.prog w K mg base "BadText" "at" c1 f1 d1:=⟨y1.k (x:="") (q:="") (st:=i_BadText) B I1.l kp1,ok_BadText I1.f ef1,mg_of X G ac1,D1,y1.c⟩
 have SO:Has l.prog w K mg base "sort_of" 1 _ _ g3 e3:=⟨ok_sort F3.f,u3,F3.kp,B3⟩
 have WE:Has l.prog w K mg base "well_parted" 2 _ _ g4 e4:=⟨ok_well F4.f SO z_all z_zip (mg_of X G pF) kF1 T0 T1 T2 T3,u4,F4.kp,B4⟩
 have SP:Has l.prog w K mg base "split_words" 1 _ _ g5 e5:=⟨ok_split F5.f,u5,F5.kp,B5⟩
 have IN:Has l.prog w K mg base "is_name" 1 _ _ g8 e8:=⟨ok_isname F8.f z_len z_all (mg_of X G pK) TK0 (mg_of X G pL),u8,F8.kp,B8⟩
 have IFG:Has l.prog w K mg base "is_figures" 1 _ _ g9 e9:=⟨ok_isfig F9.f z_len z_all (mg_of X G pI),u9,F9.kp,B9⟩
 have THO:HasE l.prog w K mg base "thing_of" 3 _ _ g12 e12:=⟨ok_thingof F12.f IFG BT z_isinstance z_str z_int,u12,F12.kp,B12⟩
 have THS:HasE l.prog w K mg base "things_of" 4 _ _ g13 e13:=⟨ok_thingsof F13.f THO z_tuple,u13,F13.kp,B13⟩
 have CLT:HasE l.prog w K mg base "close_thing" 5 _ _ g14 e14:=⟨ok_closething F14.f IN THS BT z_isinstance z_str,u14,F14.kp,B14⟩
 have SCN:HasE l.prog w K mg base "scanned" 6 _ _ g6 e6:=⟨ok_scan (by decide) (fun w h=>.inl ⟨w,rfl,Nat.le_trans h (by decide)⟩) gd_sub (rth_ok K) F6.f WE SP CLT BT (mg_of X G pC) kC1,u6,F6.kp,B6⟩
 have SC1:HasE l.prog w K mg base "scanned_one" 7 _ _ g7 e7:=⟨ok_scan1 (by decide) F7.f SCN BT z_len,u7,F7.kp,B7⟩
 have RDG:HasE l.prog w K mg base "read_thing" 8 _ _ g15 e15:=⟨ok_readthing (by decide) F15.f CLT SC1 THO,u15,F15.kp,B15⟩
 have BR:Has l.prog w K mg base "bracketed" 1 _ _ g1 e1:=⟨ok_brk F1.f z_enumerate (mg_of X G pC) kC1,u1,F1.kp,B1⟩
 have SPT:Has l.prog w K mg base "spell_thing" 2 _ _ g10 e10:=⟨ok_spell F10.f BR z_str,u10,F10.kp,B10⟩
 have WRT:Has l.prog w K mg base "written" 4 _ _ g2 e2:=⟨ok_written F2.f SPT z_isinstance z_str,u2,F2.kp,B2⟩
 have TTX:Has l.prog w K mg base "thing_text" 5 _ _ g11 e11:=⟨ok_ttx F11.f SPT WRT,u11,F11.kp,B11⟩
 have FD:Has l.prog w K mg base "_law_feed" 1 _ _ g16 e16:=⟨ok_feed F16.f z_len,u16,F16.kp,B16⟩
 have TK:Has l.prog w K mg base "_law_take" 1 _ _ g17 e17:=⟨ok_take F17.f,u17,F17.kp,B17⟩
 have NU:Has l.prog w K mg base "_law_number" 2 _ _ g18 e18:=⟨ok_number F18.f TK,u18,F18.kp,B18⟩
 have KP:Has l.prog w K mg base "_law_kept" 1 _ _ g19 e19:=⟨ok_kept F19.f,u19,F19.kp,B19⟩
 have LWD:Has l.prog w K mg base "_law_word" 2 _ _ g20 e20:=⟨ok_word F20.f TK KP z_range,u20,F20.kp,B20⟩
 have TH:Has l.prog w K mg base "_law_thing" 10 _ _ g23 e23:=⟨lth_all F23.f u23 B23 TK NU z_range z_len z_min z_max z_tuple 8,u23,F23.kp,B23⟩
 have LTT:Has l.prog w K mg base "_law_thing_text" 133 _ _ g24 e24:=⟨ltt_all F24.f u24 B24 z_str 131,u24,F24.kp,B24⟩
 have LIN:Has l.prog w K mg base "_law_is_name" 2 _ _ g25 e25:=⟨ok_lin F25.f KP z_len z_isinstance z_str,u25,F25.kp,B25⟩
 have LFG:Has l.prog w K mg base "_law_figures" 1 _ _ g26 e26:=⟨ok_lfg F26.f z_len z_isinstance z_str z_int,u26,F26.kp,B26⟩
 have LTR:Has l.prog w K mg base "_law_tree" 1 _ _ g27 e27:=⟨ok_ltree F27.f z_len,u27,F27.kp,B27⟩
 have LTO:Has l.prog w K mg base "_law_thing_of" 133 _ _ g28 e28:=⟨lto_all F28.f u28 B28 LFG LIN z_isinstance z_str z_int z_len z_tuple 131,u28,F28.kp,B28⟩
 have DUE:Has l.prog w K mg base "_law_due" 134 _ _ g29 e29:=⟨ok_ldue (by decide) F29.f LTR LTO LTT,u29,F29.kp,B29⟩
 have LRF:HasH l.prog w K mg base "_law_refusal" 1 _ _ g22 e22:=⟨ok_lrf F22.f C1 (mg_of X G ac1) (mg_of X G ao0) (mg_of X G ao1) (mg_of X G ao2) (mg_of X G ao3) (mg_of X G ao4) (mg_of X G ao5) (mg_of X G ao6) (mg_of X G ao7) z_isinstance z_ValueError z_bool,u22,F22.kp,B22⟩
 have LHD:Has l.prog w K mg base "_law_heard" 9 _ _ g30 e30:=⟨ok_heard (by decide) F30.f RDG LRF C1 (mg_of X G ab),u30,F30.kp,B30⟩
 have LSG:Has l.prog w K mg base "_law_signs" 1 _ _ g31 e31:=⟨ok_lsg F31.f,u31,F31.kp,B31⟩
 have SPL:Has l.prog w K mg base "_law_spoilt" 2 _ _ g32 e32:=⟨ok_spo F32.f TK LSG z_len z_int,u32,F32.kp,B32⟩
 have LA:Has l.prog w K mg base "_law_alike" 266 _ _ g21 e21:=⟨alike_all F21.f u21 B21 z_tuple z_str z_int z_bool z_isinstance z_len z_all z_zip 265,u21,F21.kp,B21⟩
 exact ok_law (jh:=9) (j:=266) (by decide) (by decide) ⟨⟨_,od,kV,doc,pm,an,cdv,ct,osl,rfl,lk,cc⟩,F33.kp⟩ FD TK LWD TH LTT TTX SPL LHD DUE LA z_range z_len z_max
theorem walk{l:PySem.W.OpenLaw}{q:Program}{loose:List Str}{XP:(Str->Option Value)->Heap->Prop}{YP:World->Heap->Prop}{d:DefRec}{K:Params->PySem.W.Frag}(hn:l.most=some 63)(hdf:d.params.defaults=[])
  (hY:∀(w:World) (h:Heap),YP w h->(K w.params).In h)
  (F:∀(w:World) (mg:Str->Option Value) (fa:Addr) (h:Heap),(K w.params).In h->h.Ns mainGlobals mg->mg d.name=some (.ref fa) ->
   ∃fd:FuncData,(∀(s:Shared) (u:Value),BindsTo s fd ⟨[u],[]⟩ [("_law_script",u)])/\∀base:Heap,(K w.params).In base->base.Ns mainGlobals mg->FnOk l.prog w (K w.params) mg base CX0 267 fa fd ["_law_script"] (spLaw (K w.params))) :
  PySem.W.WalkO q loose XP YP l.row.toRowW d [] (fun f vs=>PySem.call f vs) :=
 L2.walk_of (n:=63) (k:=267) (x:="_law_script") (CX:=fun _=>CX0) (sp:=fun w=>spLaw (K w.params)) hn (by decide) hdf ⟨rfl,by decide,by decide,rfl⟩ hY F (fun _ _ a ns hl _ hS=>⟨a,ns,rfl,hS,hl,fun _=>rfl⟩) fun _ _ _ _ _ z=>z
end G12
def PySem.W.Fast.tw3907573835409049308 : Unit := ()
def PySem.W.Fast.tw9101589118291222105 : Unit := ()
def PySem.W.Fast.tw3183800648455106827 : Unit := ()
def PySem.W.Fast.tw15193789669014354822 : Unit := ()
def PySem.W.Fast.tw16106599723814853588 : Unit := ()
def PySem.W.Fast.tw5598206759198138041 : Unit := ()
def PySem.W.Fast.tw1044616225091858379 : Unit := ()
def PySem.W.Fast.tw2250787258856592050 : Unit := ()
def PySem.W.Fast.tw8914119386154027563 : Unit := ()
def PySem.W.Fast.tw12940041208299961845 : Unit := ()
def PySem.W.Fast.tw15073276189502233731 : Unit := ()
def PySem.W.Fast.tw98192357211755382 : Unit := ()
def PySem.W.Fast.tw3043021867833760075 : Unit := ()
def PySem.W.Fast.tw6530149443138337075 : Unit := ()
def PySem.W.Fast.tw7945983491357518049 : Unit := ()
def PySem.W.Fast.tw13255796724607005862 : Unit := ()
def PySem.W.Fast.tw1606640500968625284 : Unit := ()
def PySem.W.Fast.tw17387754701640667450 : Unit := ()
def PySem.W.Fast.tw2850995518016100528 : Unit := ()
def PySem.W.Fast.tw9573493195718284593 : Unit := ()
def PySem.W.Fast.tw8532918045067972088 : Unit := ()
def PySem.W.Fast.tw15712665692471091555 : Unit := ()
def PySem.W.Fast.tw3449438800777783590 : Unit := ()
def PySem.W.Fast.tw13606463108889613090 : Unit := ()
def PySem.W.Fast.tw17787484939034718650 : Unit := ()
def PySem.W.Fast.tw1434834202391123930 : Unit := ()
def PySem.W.Fast.tw2495040837248642411 : Unit := ()
def PySem.W.Fast.tw15303958815675122854 : Unit := ()
def PySem.W.Fast.tw17929014803751054155 : Unit := ()
open PySem PySem.W PyProof.Rows
set_option maxRecDepth 100000 in
set_option maxHeartbeats 0 in
theorem PySem.Challenge.cw_gapwork_k12_things_as_texts_holds : PySem.Challenge.rw_gapwork_k12_things_as_texts.Holds := by
  w_on; o_law; k_head; (case hw => w_witness2)
  k_fill
  refine G12.walk (l := PySem.Challenge.rw_gapwork_k12_things_as_texts) rfl rfl (fun w h Y => PySem.W.kIn_of Y) ?F
  case F =>
    intro w mg fa h KX G hmg
    refine' G12.all_mk KX G hmg ?a1 ?a2 ?a3 ?a4 ?a5 ?a6 ?a7 ?a8 ?a9 ?a10 ?a11 ?a12 ?a13 ?a14 ?a15 ?a16 ?a17 ?a18 ?a19 ?a20 ?a21 ?a22 ?a23 ?a24 ?a25 ?a26 ?a27 ?a28 ?a29 ?a30 ?a31 ?a32 ?a33 ?F1 ?F2 ?F3 ?F4 ?F5 ?F6 ?F7 ?F8 ?F9 ?F10 ?F11 ?F12 ?F13 ?F14 ?F15 ?F16 ?F17 ?F18 ?F19 ?F20 ?F21 ?F22 ?F23 ?F24 ?F25 ?F26 ?F27 ?F28 ?F29 ?F30 ?F31 ?F32 ?F33 ?ab ?ac1 ?ao0 ?ao1 ?ao2 ?ao3 ?ao4 ?ao5 ?ao6 ?ao7 ?j1 ?B ?y1 ?I1 ?tB ?pC ?lC ?kC ?sC ?pF ?lF ?kF ?sF ?q0 ?q1 ?q2 ?q3 ?pK ?qK ?pL ?pI ?z0 ?z1 ?z2 ?z3 ?z4 ?z5 ?z6 ?z7 ?z8 ?z9 ?z10 ?z11 ?z12
    (case a1 => k_is)
    (case a2 => k_is)
    (case a3 => k_is)
    (case a4 => k_is)
    (case a5 => k_is)
    (case a6 => k_is)
    (case a7 => k_is)
    (case a8 => k_is)
    (case a9 => k_is)
    (case a10 => k_is)
    (case a11 => k_is)
    (case a12 => k_is)
    (case a13 => k_is)
    (case a14 => k_is)
    (case a15 => k_is)
    (case a16 => k_is)
    (case a17 => k_is)
    (case a18 => k_is)
    (case a19 => k_is)
    (case a20 => k_is)
    (case a21 => k_is)
    (case a22 => k_is)
    (case a23 => k_is)
    (case a24 => k_is)
    (case a25 => k_is)
    (case a26 => k_is)
    (case a27 => k_is)
    (case a28 => k_is)
    (case a29 => k_is)
    (case a30 => k_is)
    (case a31 => k_is)
    (case a32 => k_is)
    (case a33 => k_is)
    (case F1 => exact G12.fnAt_mk (by k_is) (by k_is) (by k_is))
    (case F2 => exact G12.fnAt_mk (by k_is) (by k_is) (by k_is))
    (case F3 => exact G12.fnAt_mk (by k_is) (by k_is) (by k_is))
    (case F4 => exact G12.fnAt_mk (by k_is) (by k_is) (by k_is))
    (case F5 => exact G12.fnAt_mk (by k_is) (by k_is) (by k_is))
    (case F6 => exact G12.fnAt_mk (by k_is) (by k_is) (by k_is))
    (case F7 => exact G12.fnAt_mk (by k_is) (by k_is) (by k_is))
    (case F8 => exact G12.fnAt_mk (by k_is) (by k_is) (by k_is))
    (case F9 => exact G12.fnAt_mk (by k_is) (by k_is) (by k_is))
    (case F10 => exact G12.fnAt_mk (by k_is) (by k_is) (by k_is))
    (case F11 => exact G12.fnAt_mk (by k_is) (by k_is) (by k_is))
    (case F12 => exact G12.fnAt_mk (by k_is) (by k_is) (by k_is))
    (case F13 => exact G12.fnAt_mk (by k_is) (by k_is) (by k_is))
    (case F14 => exact G12.fnAt_mk (by k_is) (by k_is) (by k_is))
    (case F15 => exact G12.fnAt_mk (by k_is) (by k_is) (by k_is))
    (case F16 => exact G12.fnAt_mk (by k_is) (by k_is) (by k_is))
    (case F17 => exact G12.fnAt_mk (by k_is) (by k_is) (by k_is))
    (case F18 => exact G12.fnAt_mk (by k_is) (by k_is) (by k_is))
    (case F19 => exact G12.fnAt_mk (by k_is) (by k_is) (by k_is))
    (case F20 => exact G12.fnAt_mk (by k_is) (by k_is) (by k_is))
    (case F21 => exact G12.fnAt_mk (by k_is) (by k_is) (by k_is))
    (case F22 => exact G12.fnAt_mk (by k_is) (by k_is) (by k_is))
    (case F23 => exact G12.fnAt_mk (by k_is) (by k_is) (by k_is))
    (case F24 => exact G12.fnAt_mk (by k_is) (by k_is) (by k_is))
    (case F25 => exact G12.fnAt_mk (by k_is) (by k_is) (by k_is))
    (case F26 => exact G12.fnAt_mk (by k_is) (by k_is) (by k_is))
    (case F27 => exact G12.fnAt_mk (by k_is) (by k_is) (by k_is))
    (case F28 => exact G12.fnAt_mk (by k_is) (by k_is) (by k_is))
    (case F29 => exact G12.fnAt_mk (by k_is) (by k_is) (by k_is))
    (case F30 => exact G12.fnAt_mk (by k_is) (by k_is) (by k_is))
    (case F31 => exact G12.fnAt_mk (by k_is) (by k_is) (by k_is))
    (case F32 => exact G12.fnAt_mk (by k_is) (by k_is) (by k_is))
    (case F33 => exact G12.fnAt_mk (by k_is) (by k_is) (by k_is))
    (case ab => k_is)
    (case ac1 => k_is)
    (case ao0 => k_is)
    (case ao1 => k_is)
    (case ao2 => k_is)
    (case ao3 => k_is)
    (case ao4 => k_is)
    (case ao5 => k_is)
    (case ao6 => k_is)
    (case ao7 => k_is)
    (case j1 => k_is)
    (case B => exact ⟨⟨_, _, _, _, _, _, _, _, _, _, _, _, _, _, _, by k_is, _, _, _, _, _, by k_is, by kernel_rfl, by kernel_rfl⟩⟩)
    (case y1 => exact ⟨⟨_, _, _, _, _, _, _, _, _, _, _, _, _, _, _, by k_is, _, _, _, _, _, by k_is, by kernel_rfl, by kernel_rfl⟩⟩)
    (case tB => kernel_rfl)
    (case pC => k_is)
    (case lC => k_is)
    (case kC => exact ⟨_, _, _, rfl, ⟨_, rfl⟩, rfl, ⟨_, rfl⟩, ⟨_, _, _, rfl, ⟨_, rfl⟩, rfl, ⟨_, rfl⟩, rfl⟩⟩)
    (case sC => kernel_rfl)
    (case pF => k_is)
    (case lF => k_is)
    (case kF => exact ⟨_, _, _, rfl, ⟨_, rfl⟩, rfl, rfl, ⟨_, _, _, rfl, ⟨_, rfl⟩, rfl, rfl, ⟨_, _, _, rfl, ⟨_, rfl⟩, rfl, rfl, ⟨_, _, _, rfl, ⟨_, rfl⟩, rfl, rfl, rfl⟩⟩⟩⟩)
    (case sF => kernel_rfl)
    (case q0 => kernel_rfl)
    (case q1 => kernel_rfl)
    (case q2 => kernel_rfl)
    (case q3 => kernel_rfl)
    (case pK => k_is)
    (case qK => kernel_rfl)
    (case pL => k_is)
    (case pI => k_is)
    (case z0 => k_is)
    (case z1 => k_is)
    (case z2 => k_is)
    (case z3 => k_is)
    (case z4 => k_is)
    (case z5 => k_is)
    (case z6 => k_is)
    (case z7 => k_is)
    (case z8 => k_is)
    (case z9 => k_is)
    (case z10 => k_is)
    (case z11 => k_is)
    (case z12 => k_is)
    (case I1 => exact G12.fnAt_mk (by k_is) (by k_is) (by k_is))
#print axioms PySem.Challenge.cw_gapwork_k12_things_as_texts_holds
