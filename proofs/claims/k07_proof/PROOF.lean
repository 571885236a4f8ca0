import PyProof.Rows.All
import Wide.All
import OpenK.AllK
import Wide.FinOn
import PyProof.EqAt
import PyProof.EqKinds
import PyProof.NeKinds
import PyProof.TupleCall
import PyProof.StrLawsRepr
import KE.KIsAll
import KE.KItem
import KE.KDictOf
import KE.KBytesAny
import Lean
import PySem.Challenge.RW_gapwork_k07_kinds_written_and_read
set_option Elab.async false
set_option linter.all false
set_option maxRecDepth 100000
namespace L2
open PySem PySem.Spec PyProof.Rows
abbrev Key:=Sum Int Str
def keyIs:Key->Value->Bool
 |.inl k,v=>Value.isInt k v
 |.inr x,v=>Value.isStrOf x v
def keyH(w:World):Key->Int
 |.inl k=>hashInt k
 |.inr x=>hashStr w x
theorem keyIs_shape:∀{k:Key}{v:Value},keyIs k v=true->(∃i t,k=Sum.inl i/\v=Value.int i t)\/(∃x t,k=Sum.inr x/\v=Value.str x t)
 |.inl i,v,h=>by
  obtain⟨t,e⟩:=Value.isInt_shape (k:=i) (v:=v) h
  exact .inl ⟨i,t,rfl,e⟩
 |.inr x,v,h=>by
  obtain⟨t,e⟩:=Value.isStrOf_shape (x:=x) (v:=v) h
  exact .inr ⟨x,t,rfl,e⟩
theorem keyIs_int(i:Int)(t:Tok):keyIs (.inl i) (.int i t)=true:=by simp[keyIs,Value.isInt]
theorem keyIs_str(x:Str)(t:Tok):keyIs (.inr x) (.str x t)=true:=by simp[keyIs,Value.isStrOf]
theorem key_ll(a b:Int):decide ((Sum.inl a:Key)=Sum.inl b)=(a == b):=by
 by_cases e:a=b
 ·subst e;simp
 ·have h:¬(Sum.inl a:Key)=Sum.inl b:=fun q=>e (Sum.inl.inj q)
  rw[decide_eq_false h]
  exact(beq_eq_false_iff_ne.mpr e).symm
theorem key_rr(a b:Str):decide ((Sum.inr a:Key)=Sum.inr b)=decide (a=b):=by
 by_cases e:a=b
 ·subst e;simp
 ·have h:¬(Sum.inr a:Key)=Sum.inr b:=fun q=>e (Sum.inr.inj q)
  rw[decide_eq_false h,decide_eq_false e]
theorem key_lr(a:Int)(b:Str):decide ((Sum.inl a:Key)=Sum.inr b)=false:=decide_eq_false (fun q=>nomatch q)
theorem key_rl(a:Str)(b:Int):decide ((Sum.inr a:Key)=Sum.inl b)=false:=decide_eq_false (fun q=>nomatch q)
def mixKind(prog:Program)(w:World):PySem.KeyKind prog w Key where
 is:=keyIs
 hash:=keyH w
 inj:=fun v a b ha hb=>by
  rcases keyIs_shape ha with⟨i,t,rfl,rfl⟩|⟨x,t,rfl,rfl⟩
  ·rcases keyIs_shape hb with⟨j,u,rfl,e⟩|⟨y,u,rfl,e⟩
   ·injection e with e1 _;rw[e1]
   ·exact nomatch e
  ·rcases keyIs_shape hb with⟨j,u,rfl,e⟩|⟨y,u,rfl,e⟩
   ·exact nomatch e
   ·injection e with e1 _;rw[e1]
 byValue:=fun k v h=>by
  rcases keyIs_shape h with⟨i,t,rfl,rfl⟩|⟨x,t,rfl,rfl⟩<;>rfl
 pyHash:=fun hv h=>by
  rcases keyIs_shape hv with⟨i,t,rfl,rfl⟩|⟨x,t,rfl,rfl⟩
  ·exact wpAny_pyHash_int h
  ·exact wpAny_pyHash_str h
 eqBool:=fun hu hv h=>by
  rcases keyIs_shape hu with⟨i,t,rfl,rfl⟩|⟨x,t,rfl,rfl⟩
  ·rcases keyIs_shape hv with⟨j,u,rfl,rfl⟩|⟨y,u,rfl,rfl⟩
   ·rw[key_ll]at h;exact wpAny_eqBool_int h
   ·rw[key_lr]at h;exact SeqAt.EqAt.int_str i t y u _ _ _ _ h
  ·rcases keyIs_shape hv with⟨j,u,rfl,rfl⟩|⟨y,u,rfl,rfl⟩
   ·rw[key_rl]at h;exact SeqAt.EqAt.str_int x t j u _ _ _ _ h
   ·rw[key_rr]at h;exact wpAny_eqBool_str h
 «strs»:=fun k x t v h=>by
  rcases keyIs_shape h with⟨i,u,rfl,e⟩|⟨y,u,rfl,e⟩
  ·exact nomatch e
  ·injection e with e1 _
   subst e1
   cases v<;>rfl
theorem mixKind_int(prog:Program)(w:World)(i:Int)(t:Tok):(mixKind prog w).is (.inl i) (.int i t)=true:=keyIs_int i t
theorem mixKind_str(prog:Program)(w:World)(x:Str)(t:Tok):(mixKind prog w).is (.inr x) (.str x t)=true:=keyIs_str x t
inductive V where
 |non|bl (b:Bool)|int (i:Int)|str (x:Str)|byt (b:Array UInt8)|flt (b:UInt64)|ref (a:Addr)|ty (n:String)
 deriving DecidableEq
def RelV:V->Value->Prop
 |.non,u=>u=Value.none
 |.bl b,u=>u=Value.bool b
 |.int i,u=>∃t,u=Value.int i t
 |.str x,u=>∃t,u=Value.str x t
 |.byt b,u=>∃t,u=Value.bytes b t
 |.flt b,u=>∃t,u=Value.float b t
 |.ref a,u=>u=Value.ref a
 |.ty n,u=>u=Value.type n
abbrev Vals:List V->List Value->Prop:=Paired RelV
theorem Vals.length{xs:List V}{us:List Value}(r:Vals xs us):xs.length=us.length:=Paired.length r
theorem Vals.get:∀{xs:List V}{us:List Value}{i:Nat}{x:V},Vals xs us->xs[i]?=some x->∃u,us[i]?=some u/\RelV x u
 |_,_,_,_,.nil,e=>by simp at e
 |_,_,0,_,.cons r _,e=>by simp at e;subst e;exact⟨_,rfl,r⟩
 |_,_,i+1,x,.cons _ t,e=>by
  obtain⟨u,h1,h2⟩:=Vals.get (i:=i) (x:=x) t (by simpa using e)
  exact⟨u,by simpa using h1,h2⟩
theorem Vals.set{x:V}{u:Value}(r:RelV x u):∀{xs:List V}{us:List Value}(i:Nat),Vals xs us->Vals (xs.set i x) (us.set i u)
 |_,_,_,.nil=>.nil
 |_,_,0,.cons _ t=>.cons r t
 |_,_,i+1,.cons q t=>.cons q (Vals.set r i t)
theorem Vals.append:∀{xs ys:List V}{us ws:List Value},Vals xs us->Vals ys ws->Vals (xs++ys) (us++ws)
 |_,_,_,_,.nil,s=>s
 |_,_,_,_,.cons r t,s=>.cons r (Vals.append t s)
theorem Vals.take:∀{xs:List V}{us:List Value}(n:Nat),Vals xs us->Vals (xs.take n) (us.take n)
 |_,_,0,_=>.nil
 |_,_,_+1,.nil=>.nil
 |_,_,n+1,.cons r t=>.cons r (Vals.take n t)
theorem Vals.drop:∀{xs:List V}{us:List Value}(n:Nat),Vals xs us->Vals (xs.drop n) (us.drop n)
 |_,_,0,r=>r
 |_,_,_+1,.nil=>.nil
 |_,_,n+1,.cons _ t=>Vals.drop n t
theorem Vals.none_of:∀{xs:List V}{us:List Value}{i:Nat},Vals xs us->xs[i]?=none->us[i]?=none:=fun{xs us i} r e=>by
 have h1:=r.length
 have h2:xs.length<=i:=List.getElem?_eq_none_iff.mp e
 exact List.getElem?_eq_none_iff.mpr (by omega)
def RelO:Option V->Option Value->Prop
 |some v,some u=>RelV v u
 |none,none=>True
 |_,_=>False
def KV{κ:Type}:List (κ×V)->List (κ×Value)->Prop:=Paired fun(p:κ×V) (q:κ×Value)=>p.1=q.1/\RelV p.2 q.2
def kV:Key->V
 |.inl i=>.int i
 |.inr x=>.str x
inductive HO where
 /-- a list -/
 |lst (xs:List V)
 /-- a tuple (never changes) -/
 |tup (xs:List V)
 /-- a dict whose keys are ints and texts;one whose keys are tuples of ints and texts (the empty one is both) -/
 |dK (kvs:List (Key×V))|dT (kvs:List (List Key×V))
 /-- a set of ints: its members,its size -/
 |set (S:Int->Bool) (n:Nat)
 /-- an instance of the class at C,its dict at dx,its attributes -/
 |ins (C dx:Addr) (fs:List (Str×V))
 /-- the dict of the instance at x -/
 |own (x:Addr)
 /-- the dict of an exception -/
 |xd (fs:List (Str×V))
 /-- a bound method,f of x -/
 |met (f x:Addr)
 /-- a range object lo,lo+1,.. below hi -/
 |rng (lo hi:Int)
 /-- a thing that is known to the object (the script;a dict while a loop walks it): read,never written while it is so -/
 |frz (o:Obj) (u:HO)
 /-- a code object's table -/
 |tbl (ps:Array Value)
 /-- any other thing,by what is true of its one object (a def of one's own: SetO a S n:=HO.ext fun h=>..) -/
 |ext (φ:Heap->Prop)
abbrev Hp:=Addr->Option HO
def upd(H:Hp)(a:Addr)(o:HO):Hp:=fun b=>if b=a then some o else H b
theorem upd_same{H:Hp}{a:Addr}{o:HO}:upd H a o a=some o:=by unfold upd;rw[if_pos rfl]
theorem upd_ne{H:Hp}{a b:Addr}{o:HO}(h:b≠a):upd H a o b=H b:=by unfold upd;rw[if_neg h]
theorem upd_upd{H:Hp}{a:Addr}{o u:HO}:upd (upd H a o) a u=upd H a u:=by
 funext b;unfold upd;split<;>rfl
theorem ne_of{H:Hp}{a b:Addr}{o u:HO}(h:H a=some o)(h':H b=some u)(d:o≠u):a≠b:=by
 intro e;subst e;rw[h]at h';exact d (Option.some.inj h')
theorem ne_of_none{H:Hp}{a b:Addr}{o:HO}(h:H a=some o)(h':H b=none):a≠b:=by
 intro e;subst e;rw[h]at h';cases h'
section
variable (P:Program) (w:World)
def PlT(h:Heap)(a:Addr):Prop:=∃o,h.get? a=some o/\o.dict=none
def ObjOk(H:Hp)(h:Heap)(a:Addr):HO->Prop
 |.lst xs=>xs.length<=sizeLine/\∃(its:List Value) (n:Nat),Vals xs its/\h.get? a=some {cls:=.type "list",data:=.seq its.toArray n}
 |.tup xs=>xs.length<=sizeLine/\∃its:List Value,Vals xs its/\IsTup h a its.toArray/\PlT h a
 |.dK kvs=>kvs.length<=sizeLine/\(a == sysModules)=false/\∃vs,KV kvs vs/\h.DictOf (mixKind P w) a vs
 |.dT kvs=>kvs.length<=sizeLine/\(a == sysModules)=false/\∃xs:List (List Key×Addr×Value),
   Paired (fun(p:List Key×V) (q:List Key×Addr×Value)=>p.1=q.1/\H q.2.1=some (.tup (p.1.map kV))/\RelV p.2 q.2.2) kvs xs /\
   ∃o es ep,h.get? a=some o/\o.ExactDict/\o.data=.dict es ep/\es.toList=xs.map (entryOfKey (tupleKind (mixKind P w)))/\(xs.map (·.1)).Nodup
 |.set S n=>h.SetOf (intKind P w) a S n
 |.ins C dx fs=>H dx=some (.own a)/\fs.length<=1000/\dx≠a/\h.get? a=some (PySem.W.instObj C dx) /\
   ∃mA,h.Ns1 dx mA/\(∀f,RelO (fs.lookup f) (mA f))/\PySem.Within mA (fs.map (·.1))
 |.own _=>∃o,h.get? a=some o
 |.xd fs=>∃mA,h.Ns1 a mA/\∀f,RelO (fs.lookup f) (mA f)
 |.rng lo hi=>∃t u v,h.get? a=some {cls:=.type "range",data:=.fields #[.int lo t,.int hi u,.int 1 v]}
 |.frz o u=>h.get? a=some o/\ObjOk H h a u
 |.tbl ps=>h.get? a=some {cls:=.none,data:=.fields ps}
 |.met f x=>h.get? a=some (PySem.W.methodObj (.ref f) (.ref x))
 |.ext φ=>φ h/\(∃o,h.get? a=some o)/\∀h1 h2:Heap,φ h1->(∀o,h1.get? a=some o->h2.get? a=some o)->φ h2
def HOk(H:Hp)(h:Heap):Prop:=∀a o,H a=some o->ObjOk P w H h a o
end
section
variable {P:Program}{w:World}{H H':Hp}{h h':Heap}{a:Addr}{o:HO}
theorem ObjOk.lt(x:ObjOk P w H h a o):a<h.objs.size:=by
 cases o with
 |lst xs=>obtain⟨_,_,_,_,e⟩:=x;exact Heap.lt_size e
 |tup xs=>obtain⟨_,_,_,p,_⟩:=x;exact p.lt
 |dK kvs=>obtain⟨_,_,_,_,o,_,_,e,_⟩:=x;exact Heap.lt_size e
 |dT kvs=>obtain⟨_,_,_,_,o,_,_,e,_⟩:=x;exact Heap.lt_size e
 |set S n=>obtain⟨o,_,_,_,e,_⟩:=x;exact Heap.lt_size e
 |ins C dx fs=>obtain⟨_,_,_,e,_⟩:=x;exact Heap.lt_size e
 |own y=>obtain⟨_,e⟩:=x;exact Heap.lt_size e
 |xd fs=>obtain⟨_,⟨_,_,_,e,_⟩,_⟩:=x;exact Heap.lt_size e
 |rng lo hi=>obtain⟨_,_,_,e⟩:=x;exact Heap.lt_size e
 |frz ob u=>obtain⟨e,_⟩:=x;exact Heap.lt_size e
 |tbl ps=>exact Heap.lt_size (show h.get? a=some _ from x)
 |met f y=>exact Heap.lt_size (show h.get? a=some _ from x)
 |ext φ=>obtain⟨_,⟨_,e⟩,_⟩:=x;exact Heap.lt_size e
theorem Paired.mapP{α β:Type}{F G:α->β->Prop}:∀{l₁:List α}{l₂:List β},Paired F l₁ l₂->(∀a b,F a b->G a b)->Paired G l₁ l₂
 |_,_,.nil,_=>.nil
 |_,_,.cons r t,f=>.cons (f _ _ r) (Paired.mapP t f)
theorem ObjOk.stay(x:ObjOk P w H h a o)(k:∀b u,(b=a\/H b=some (.own a))->h.get? b=some u->h'.get? b=some u)
  (ho:∀b,H b=some (.own a)->H' b=some (.own a)) (ht:∀b xs,H b=some (.tup xs)->H' b=some (.tup xs)):ObjOk P w H' h' a o:=by
 induction o with
 |lst xs=>obtain⟨z,its,n,r,e⟩:=x;exact⟨z,its,n,r,k _ _ (.inl rfl) e⟩
 |tup xs=>obtain⟨z,its,r,⟨ob,e,c⟩,o2,e2,d2⟩:=x;exact⟨z,its,r,⟨ob,k _ _ (.inl rfl) e,c⟩,o2,k _ _ (.inl rfl) e2,d2⟩
 |dK kvs=>obtain⟨z,y,vs,r,ob,es,ep,e,c⟩:=x;exact⟨z,y,vs,r,ob,es,ep,k _ _ (.inl rfl) e,c⟩
 |dT kvs =>
  obtain⟨z,y,xs,r,ob,es,ep,e,c⟩:=x
  exact⟨z,y,xs,Paired.mapP r fun p q z=>⟨z.1,ht _ _ z.2.1,z.2.2⟩,ob,es,ep,k _ _ (.inl rfl) e,c⟩
 |set S n=>obtain⟨ob,es,ep,t,e,c⟩:=x;exact⟨ob,es,ep,t,k _ _ (.inl rfl) e,c⟩
 |ins C dx fs =>
  obtain⟨d,z,ne,e,mA,⟨od,es,ep,e2,c⟩,r⟩:=x
  exact⟨ho _ d,z,ne,k _ _ (.inl rfl) e,mA,⟨od,es,ep,k _ _ (.inr d) e2,c⟩,r⟩
 |own y=>obtain⟨ob,e⟩:=x;exact⟨ob,k _ _ (.inl rfl) e⟩
 |xd fs=>obtain⟨mA,⟨od,es,ep,e,c⟩,r⟩:=x;exact⟨mA,⟨od,es,ep,k _ _ (.inl rfl) e,c⟩,r⟩
 |rng lo hi=>obtain⟨t,u,v,e⟩:=x;exact⟨t,u,v,k _ _ (.inl rfl) e⟩
 |frz ob u ih=>obtain⟨e,q⟩:=x;exact⟨k _ _ (.inl rfl) e,ih q⟩
 |tbl ps =>
  have e:h.get? a=some {cls:=.none,data:=.fields ps}:=x
  show h'.get? a=some {cls:=.none,data:=.fields ps}
  exact k a _ (.inl rfl) e
 |met f y =>
  have e:h.get? a=some (PySem.W.methodObj (.ref f) (.ref y)):=x
  show h'.get? a=some (PySem.W.methodObj (.ref f) (.ref y))
  exact k a _ (.inl rfl) e
 |ext φ=>obtain⟨p,⟨o,e⟩,st⟩:=x;exact⟨st _ _ p fun o q=>k _ _ (.inl rfl) q,⟨o,k _ _ (.inl rfl) e⟩,st⟩
theorem HOk.lt(x:HOk P w H h)(e:H a=some o):a<h.objs.size:=(x a o e).lt
theorem HOk.fresh(x:HOk P w H h)(e:h.objs.size<=a):H a=none:=by
 cases q:H a with
 |none=>rfl
 |some u=>exact absurd (Nat.lt_of_lt_of_le (x.lt q) e) (Nat.lt_irrefl _)
theorem HOk.kept(x:HOk P w H h)(k:∀b u,h.get? b=some u->h'.get? b=some u):HOk P w H h':=fun a o e =>
 (x a o e).stay (fun b u _ q=>k b u q) (fun _ q=>q) fun _ _ q=>q
theorem HOk.laid(x:HOk P w H h)(k:∀b u,h.get? b=some u->h'.get? b=some u)(hp:h.objs.size<=a)(new:ObjOk P w (upd H a o) h' a o):HOk P w (upd H a o) h':=fun b u e=>by
 have hn:=x.fresh hp
 by_cases hb:b=a
 ·subst hb;rw[upd_same]at e;cases e;exact new
 ·rw[upd_ne hb]at e
  exact(x b u e).stay (fun c v _ q=>k c v q) (fun c q=>by rw[upd_ne (ne_of_none q hn)];exact q) fun c xs q=>by rw[upd_ne (ne_of_none q hn)];exact q
end
def Rd(H:Hp)(a:Addr)(u:HO):Prop:=H a=some u\/∃o,H a=some (.frz o u)
theorem Rd.ok{P:Program}{w:World}{H:Hp}{h:Heap}{a:Addr}{u:HO}(r:Rd H a u)(x:HOk P w H h):ObjOk P w H h a u:=by
 rcases r with r|⟨o,r⟩
 ·exact x a u r
 ·obtain⟨_,q⟩:=x a _ r
  exact q
def Mut:Option HO->Prop
 |some (.lst _)=>True
 |some (.dK _)=>True
 |some (.dT _)=>True
 |some (.set _ _)=>True
 |some (.ins _ _ _)=>True
 |some (.ext _)=>True
 |_=>False
section
variable {P:Program}{w:World}{H:Hp}{h h':Heap}{x e:Addr}{o':HO}
theorem HOk.write(ok:HOk P w H h)(mu:Mut (H x))(he:e=x\/H e=some (.own x))(k:∀b u,b≠e->h.get? b=some u->h'.get? b=some u)(heo:∃u,h'.get? e=some u)
  (new:ObjOk P w (upd H x o') h' x o'):HOk P w (upd H x o') h':=fun b u q=>by
 have nown:∀c y,H c=some (.own y)->c≠x:=fun c y r z=>by subst z;rw[r]at mu;exact mu
 have ntup:∀c xs,H c=some (.tup xs)->c≠x:=fun c xs r z=>by subst z;rw[r]at mu;exact mu
 by_cases hb:b=x
 ·subst hb;rw[upd_same]at q;cases q;exact new
 ·rw[upd_ne hb]at q
  by_cases hbe:b=e
  ·have q':H b=some (.own x):=by
    rcases he with z|z
    ·exact absurd (hbe.trans z) hb
    ·rw[hbe];exact z
   rw[q]at q';cases q'
   obtain⟨v,hv⟩:=heo
   exact⟨v,by rw[hbe];exact hv⟩
  ·refine(ok b u q).stay (fun c v hc r=>k c v ?_ r) (fun c r=>by rw[upd_ne (nown c b r)];exact r) fun c xs r=>by rw[upd_ne (ntup c xs r)];exact r
   rcases hc with rfl|hc
   ·exact hbe
   ·rintro rfl
    rcases he with z|z
    ·exact nown c b hc z
    ·rw[hc]at z;cases z;exact hb rfl
end
structure Un(fs ex:List Addr) (H H':Hp) (h h':Heap):Prop where
 keep:∀b o,h.get? b=some o->H b=none->b∉fs->b∉ex->h'.get? b=some o
 slot:∀b o,h.get? b=some o->H b=none->b∈fs->b∉ex->∃sl,h'.get? b=some {o with slots:=sl}
 free:∀b o,h.get? b=some o->H b=none->b∉ex->H' b=none
 there:∀b o,h.get? b=some o->b∉ex->∃o',h'.get? b=some o'
 tups:∀b xs,H b=some (.tup xs)->H' b=some (.tup xs)
 frzs:∀b o u,H b=some (.frz o u)->H' b=some (.frz o u)
 tbls:∀b ps,H b=some (.tbl ps)->∃more,H' b=some (.tbl (ps++more))
section
variable {fs fs' ex ex':List Addr}{H H1 H2:Hp}{h h1 h2 h':Heap}{a x e:Addr}{o:HO}
theorem Un.any(u:Un fs ex H H1 h h1){b:Addr}{ob:Obj}(q:h.get? b=some ob)(n:H b=none)(hx:b∉ex):∃sl,h1.get? b=some {ob with slots:=sl}:=by
 by_cases hb:b∈fs
 ·exact u.slot b ob q n hb hx
 ·exact⟨ob.slots,u.keep b ob q n hb hx⟩
theorem Un.trans(a:Un fs ex H H1 h h1)(b:Un fs ex H1 H2 h1 h2):Un fs ex H H2 h h2 where
 keep:=fun c ob q n hc hx=>b.keep c ob (a.keep c ob q n hc hx) (a.free c ob q n hx) hc hx
 slot:=fun c ob q n hc hx=>by
  obtain⟨sl,e1⟩:=a.slot c ob q n hc hx
  obtain⟨sl',e2⟩:=b.slot c _ e1 (a.free c ob q n hx) hc hx
  exact⟨sl',e2⟩
 free:=fun c ob q n hx=>by
  obtain⟨o',e1⟩:=a.there c ob q hx
  exact b.free c o' e1 (a.free c ob q n hx) hx
 there:=fun c ob q hx=>by
  obtain⟨o',e1⟩:=a.there c ob q hx
  exact b.there c o' e1 hx
 tups:=fun c xs q=>b.tups c xs (a.tups c xs q)
 frzs:=fun c ob xs q=>b.frzs c ob xs (a.frzs c ob xs q)
 tbls:=fun c ps q=>by
  obtain⟨m1,e1⟩:=a.tbls c ps q
  obtain⟨m2,e2⟩:=b.tbls c _ e1
  exact⟨m1++m2,by rw[e2,Array.append_assoc]⟩
theorem Un.kept(k:∀b u,h.get? b=some u->h'.get? b=some u):Un fs ex H H h h' :=
 ⟨fun b ob q _ _ _=>k b ob q,fun b ob q _ _ _=>⟨ob.slots,k b ob q⟩,fun _ _ _ n _=>n,fun b ob q _=>⟨ob,k b ob q⟩,fun _ _ q=>q,fun _ _ _ q=>q,fun _ ps q=>⟨#[],by rw[q];simp⟩⟩
theorem Un.refl:Un fs ex H H h h:=Un.kept fun _ _ q=>q
theorem Un.laid(k:∀b u,h.get? b=some u->h'.get? b=some u)(hp:h.objs.size<=a)(hn:H a=none):Un fs ex H (upd H a o) h h' where
 keep:=fun b u q _ _ _=>k b u q
 slot:=fun b u q _ _ _=>⟨u.slots,k b u q⟩
 free:=fun b u q n _=>by rw[upd_ne (Nat.ne_of_lt (Nat.lt_of_lt_of_le (Heap.lt_size q) hp))];exact n
 there:=fun b u q _=>⟨u,k b u q⟩
 tups:=fun b xs q=>by rw[upd_ne (ne_of_none q hn)];exact q
 frzs:=fun b u xs q=>by rw[upd_ne (ne_of_none q hn)];exact q
 tbls:=fun b ps q=>⟨#[],by rw[upd_ne (ne_of_none q hn),q];simp⟩
theorem Un.write(mu:Mut (H x))(he:e=x\/H e=some (.own x))(k:∀b u,b≠e->h.get? b=some u->h'.get? b=some u)(heo:∃u,h'.get? e=some u):Un fs ex H (upd H x o) h h':=by
 have hx:∀b,H b=none->b≠x:=fun b n z=>by subst z;rw[n]at mu;exact mu
 have hb:∀b,H b=none->b≠e:=fun b n z=>by
  subst z
  rcases he with r|r
  ·exact hx b n r
  ·rw[n]at r;cases r
 have hm:∀b u,H b=some u->¬Mut (some u)->b≠x:=fun b u q nm z=>by subst z;rw[q]at mu;exact nm mu
 refine⟨fun b u q n _ _=>k b u (hb b n) q,fun b u q n _ _=>⟨u.slots,k b u (hb b n) q⟩,fun b u q n _=>by rw[upd_ne (hx b n)];exact n,fun b u q _=>?_,
  fun b xs q=>by rw[upd_ne (hm b _ q fun z=>z)];exact q,fun b u xs q=>by rw[upd_ne (hm b _ q fun z=>z)];exact q,fun b ps q=>⟨#[],by rw[upd_ne (hm b _ q fun z=>z),q];simp⟩⟩
 by_cases hbe:b=e
 ·subst hbe;exact heo
 ·exact⟨u,k b u hbe q⟩
end
def trk(h:Heap)(H:Hp):List Addr:=(List.range h.objs.size).filter fun a=>(H a).isSome
def hidT(h:Heap)(H:Hp):Heap:=PySem.W.hideAll h (trk h H)
theorem hidT_size(h:Heap)(H:Hp):(hidT h H).objs.size=h.objs.size:=PySem.W.hideAll_size _ _
theorem hidT_get{h:Heap}{H:Hp}{b:Addr}{o:Obj}(e:h.get? b=some o)(n:H b=none):(hidT h H).get? b=some o :=
 PySem.W.hideAll_get _ e fun hm=>by
  have q:(H b).isSome=true:=(List.mem_filter.mp hm).2
  rw[n]at q;simp at q
theorem of_hidT{h:Heap}{H:Hp}{b:Addr}{o:Obj}(e:(hidT h H).get? b=some o):h.get? b=some o/\H b=none:=by
 have e':h.get? b=some o:=PySem.W.of_hideAll (trk h H) e
 refine⟨e',?_⟩
 cases q:H b with
 |none=>rfl
 |some x =>
  have hm:b∈trk h H:=List.mem_filter.mpr ⟨List.mem_range.mpr (Heap.lt_size e'),by simp[q]⟩
  have z:(hidT h H).get? b=none:=PySem.W.hideAll_none (trk h H) hm
  rw[z]at e;cases e
structure Mod(K:PySem.W.Frag) (mg:Str->Option Value) (base:Heap):Prop where
 kin:K.In base
 glob:base.Ns mainGlobals mg
 blt:∃mb,base.Ns builtinsNs mb/\∀x:Str,x≠"__name__"->mb x=bootBuiltins x
 nolimit:base.NoLimit
structure Cx where
 prog:Program
 w:World
 K:PySem.W.Frag
 mg:Str->Option Value
 base:Heap
 A:Around
 N:List Str
 s₀:Shared
 H₀:Hp
 env:Env
 outer:List Env
 stack:List Env
 ex:List Addr
 fn:Str->Bool
 calm:Bool
 pn:List (Addr×Obj)
 xe:Value->Shared->Prop
def frs(l:List Env):List Addr:=l.filterMap (·.frame)
abbrev Cx.fs(X:Cx):List Addr:=frs X.outer
def Vis(sc:Scope)(x:Str):Prop:=sc.names.lookup x=some .local\/sc.names.lookup x=some .cell\/sc.names.lookup x=some .free
def Loc(sc:Scope)(x:Str):Prop:=sc.names.lookup x=some .local\/sc.names.lookup x=some .cell
def Look(env:Env)(h:Heap)(m:Str->Option Value)(x:Str)(u:Value):Prop :=
 (env.kindOf x=some .local/\m x=some u)\/((env.kindOf x=some .cell\/env.kindOf x=some .free)/\∃c,env.cells.lookup x=some c/\h.IsCell c (some u))
structure Cx.Ok(X:Cx):Prop where
 mod:Mod X.K X.mg X.base
 kind:X.env.scope.kind=.function
 glob:X.env.globals=mainGlobals
 blt:X.env.builtins=builtinsNs
 above:X.s₀.heap.objs.size<=X.env.locals
 inj:∀x y c,X.env.cells.lookup x=some c->X.env.cells.lookup y=some c->x=y
 has:∀x,(X.env.kindOf x=some .cell\/X.env.kindOf x=some .free)->∃c,X.env.cells.lookup x=some c
 cab:∀x c,X.fn x=true->X.env.cells.lookup x=some c->X.s₀.heap.objs.size<=c
 hd:X.calm=true->X.A.handled=none
 frames:X.A.frames=some X.stack
 stk:X.stack=X.outer\/(X.stack=X.env::X.outer/\X.env.frame=some X.env.locals)
 exf:∀b∈X.ex,b≠X.env.locals/\∀x c,X.env.cells.lookup x=some c->c≠b
 bs:∀b o,X.base.get? b=some o->X.s₀.heap.get? b=some o/\X.H₀ b=none
 bsz:X.base.objs.size<=X.s₀.heap.objs.size
 noex:∀b o,X.base.get? b=some o->b∉X.ex
 exfs:∀b∈X.ex,b∉X.fs
 funs:X.s₀.heap.FunFrames X.base X.outer
 frf:∀b∈X.fs,X.H₀ b=none
structure Inv(X:Cx) (pins:List (Addr×Obj)) (σ:List (Option V)) (H:Hp) (s:Shared):Prop where
 ok:X.Ok
 os:s.os=X.s₀.os
 bare:AllBare s.gens
 base:Un X.fs X.ex X.H₀ H X.s₀.heap s.heap
 loc:∃m,s.heap.Ns X.env.locals m/\∀(i:Nat) (x:Str) (v:V),X.N[i]?=some x->σ[i]?=some (some v)->Vis X.env.scope x->∃u,RelV v u/\Look X.env s.heap m x u
 cell:∀x c,X.env.cells.lookup x=some c->∃v,s.heap.IsCell c v
 free:H X.env.locals=none
 freeC:∀x c,X.env.cells.lookup x=some c->H c=none
 pin:∀p∈X.pn++pins,s.heap.get? p.1=some p.2/\H p.1=none/\p.1≠X.env.locals/\p.1∉X.fs/\∀v,p.2.data≠.cell v
 hok:HOk X.prog X.w H s.heap
 len:σ.length=X.N.length
section
variable {X:Cx}{pins:List (Addr×Obj)}{σ:List (Option V)}{H H':Hp}{s:Shared}{h':Heap}
theorem Cx.Ok.nofr(ok:X.Ok){b:Addr}{o:Obj}(e:X.base.get? b=some o):b∉X.fs:=fun hb=>by
 have:=(ok.funs.mem hb).1
 rw[e]at this;cases this
theorem Inv.bs(I:Inv X pins σ H s):∀b o,X.base.get? b=some o->s.heap.get? b=some o/\H b=none:=fun b o e =>
 ⟨I.base.keep b o (I.ok.bs b o e).1 (I.ok.bs b o e).2 (I.ok.nofr e) (I.ok.noex b o e),I.base.free b o (I.ok.bs b o e).1 (I.ok.bs b o e).2 (I.ok.noex b o e)⟩
theorem Inv.bk(I:Inv X pins σ H s):∀b o,X.base.get? b=some o->s.heap.get? b=some o:=fun b o e=>(I.bs b o e).1
theorem Inv.mod(I:Inv X pins σ H s):Mod X.K X.mg X.base:=I.ok.mod
theorem Inv.kIn(I:Inv X pins σ H s):X.K.In s.heap:=I.ok.mod.kin.keeps I.bk
theorem Inv.lt(I:Inv X pins σ H s):X.env.locals<s.heap.objs.size:=let⟨_,hn,_⟩:=I.loc;hn.lt
theorem Inv.sz(I:Inv X pins σ H s):X.s₀.heap.objs.size<=s.heap.objs.size:=Nat.le_trans I.ok.above (Nat.le_of_lt I.lt)
theorem Inv.nofs(I:Inv X pins σ H s){a:Addr}(h:s.heap.objs.size<=a):a∉X.fs:=fun hb=>by
 obtain⟨_,o,ho,_⟩:=I.ok.funs.mem hb
 exact absurd (Nat.lt_of_lt_of_le (Heap.lt_size ho) (Nat.le_trans I.sz h)) (Nat.lt_irrefl _)
theorem Inv.cne(I:Inv X pins σ H s):∀x c,X.env.cells.lookup x=some c->c≠X.env.locals:=fun x c e z=>by
 obtain⟨v,o,ho,hd⟩:=I.cell x c e
 obtain⟨m,⟨o',es,ep,ho',hd',_⟩,_⟩:=I.loc
 rw[z,ho']at ho;cases ho;rw[hd']at hd;cases hd
theorem Inv.funs(I:Inv X pins σ H s):s.heap.FunFrames X.base X.outer:=by
 have all:∀(l:List Env),(∀b∈frs l,b∈X.fs)->X.s₀.heap.FunFrames X.base l->s.heap.FunFrames X.base l:=by
  intro l
  induction l with
  |nil=>intro _ _;trivial
  |cons env r ih =>
   intro hs hl
   obtain⟨hk,⟨L,o,hf,hn,ho,hd⟩,hr⟩:=hl
   have hL:L∈X.fs:=hs L (by unfold frs;rw[List.filterMap_cons,hf];exact List.mem_cons_self)
   obtain⟨sl,e⟩:=I.base.slot L o ho (I.ok.frf L hL) hL fun z=>I.ok.exfs L z hL
   exact⟨hk,⟨L,_,hf,hn,e,hd⟩,ih (fun b hb=>hs b (by unfold frs;rw[List.filterMap_cons,hf];exact List.mem_cons_of_mem _ hb)) hr⟩
 exact all X.outer (fun _ hb=>hb) I.ok.funs
theorem Inv.stack(I:Inv X pins σ H s):s.heap.FunFrames X.base X.stack:=by
 rcases I.ok.stk with e|⟨e,hf⟩
 ·rw[e];exact I.funs
 ·rw[e]
  obtain⟨m,hn,_⟩:=I.loc
  refine .cons (by rw[I.ok.kind];decide) hf hn ?_ I.funs
  exact Heap.get?_none_of_le (Nat.le_trans I.ok.bsz I.ok.above)
theorem Inv.stkSub(I:Inv X pins σ H s):∀b∈frs X.stack,b∈X.env.locals::X.fs:=fun b hb=>by
 rcases I.ok.stk with e|⟨e,hf⟩
 ·rw[e]at hb;exact List.mem_cons_of_mem _ hb
 ·rw[e]at hb
  unfold frs at hb
  rw[List.filterMap_cons,hf]at hb
  exact hb
theorem Inv.stkFree(I:Inv X pins σ H s):∀b∈frs X.stack,H b=none:=fun b hb=>by
 rcases List.mem_cons.mp (I.stkSub b hb)with e|hb
 ·rw[e];exact I.free
 ·obtain⟨_,o,ho,_⟩:=I.ok.funs.mem hb
  exact I.base.free b o ho (I.ok.frf b hb) fun z=>I.ok.exfs b z hb
theorem Inv.step{g':Array GenState}{t':Nat}{d':Drawn}{ch:List Addr}(I:Inv X pins σ H s)
  (hch:∀b∈ch,(b∈X.ex\/X.s₀.heap.objs.size<=b)/\b≠X.env.locals/\(∀x c,X.env.cells.lookup x=some c->c≠b)/\∀p∈X.pn++pins,p.1≠b)
  (keep:∀b o,b≠X.env.locals->b∉X.fs->b∉ch->s.heap.get? b=some o->H b=none->h'.get? b=some o)
  (slot:∀b o,b≠X.env.locals->b∈X.fs->b∉ch->s.heap.get? b=some o->H b=none->∃sl,h'.get? b=some {o with slots:=sl}) (free:∀b o,b∉ch->s.heap.get? b=some o->H b=none->H' b=none)
  (there:∀b o,b∉ch->s.heap.get? b=some o->∃o',h'.get? b=some o')
  (tups:∀b xs,H b=some (.tup xs)->H' b=some (.tup xs)) (frzs:∀b o u,H b=some (.frz o u)->H' b=some (.frz o u)) (tbls:∀b ps,H b=some (.tbl ps)->∃more,H' b=some (.tbl (ps++more)))
  (ns:∀m,s.heap.Ns X.env.locals m->h'.Ns X.env.locals m) (hok:HOk X.prog X.w H' h') (hg:AllBare g') :
  Inv X pins σ H' {s with heap:=h',gens:=g',drawn:=d',toks:=t'}:=by
 have neL:∀b o,X.s₀.heap.get? b=some o->b≠X.env.locals:=fun b o e=>Nat.ne_of_lt (Nat.lt_of_lt_of_le (Heap.lt_size e) I.ok.above)
 have neC:∀b o,X.s₀.heap.get? b=some o->b∉X.ex->b∉ch:=fun b o e hx hb=>by
  rcases(hch b hb).1 with z|z
  ·exact hx z
  ·exact absurd (Nat.lt_of_lt_of_le (Heap.lt_size e) z) (Nat.lt_irrefl _)
 have cellK:∀x c,X.env.cells.lookup x=some c->∀v,s.heap.IsCell c v->h'.IsCell c v:=fun x c e v ⟨o,ho,hd⟩=>by
  have nch:c∉ch:=fun z=>(hch c z).2.2.1 x c e rfl
  by_cases hc:c∈X.fs
  ·obtain⟨sl,q⟩:=slot c o (I.cne x c e) hc nch ho (I.freeC x c e)
   exact⟨_,q,hd⟩
  ·exact⟨o,keep c o (I.cne x c e) hc nch ho (I.freeC x c e),hd⟩
 refine⟨I.ok,I.os,hg,⟨fun b o e n hb hx=>?_,fun b o e n hb hx=>?_,fun b o e n hx=>?_,fun b o e hx=>?_,fun b xs e=>tups b xs (I.base.tups b xs e),fun b o xs e=>frzs b o xs (I.base.frzs b o xs e),fun b ps e=>?_⟩,?_,fun x c e=>?_,?_,fun x c e=>?_,fun p hp=>?_,hok,I.len⟩
 ·exact keep b o (neL b o e) hb (neC b o e hx) (I.base.keep b o e n hb hx) (I.base.free b o e n hx)
 ·obtain⟨sl,e1⟩:=I.base.slot b o e n hb hx
  obtain⟨sl',e2⟩:=slot b _ (neL b o e) hb (neC b o e hx) e1 (I.base.free b o e n hx)
  exact⟨sl',e2⟩
 ·obtain⟨o',e1⟩:=I.base.there b o e hx
  exact free b o' (neC b o e hx) e1 (I.base.free b o e n hx)
 ·obtain⟨o',e1⟩:=I.base.there b o e hx
  exact there b o' (neC b o e hx) e1
 ·obtain⟨m1,e1⟩:=I.base.tbls b ps e
  obtain⟨m2,e2⟩:=tbls b _ e1
  exact⟨m1++m2,by rw[e2,Array.append_assoc]⟩
 ·obtain⟨m,hn,hl⟩:=I.loc
  refine⟨m,ns m hn,fun i x v e1 e2 e3=>?_⟩
  obtain⟨u,r,l⟩:=hl i x v e1 e2 e3
  refine⟨u,r,?_⟩
  rcases l with l|⟨k,c,e,z⟩
  ·exact .inl l
  ·exact .inr ⟨k,c,e,cellK x c e _ z⟩
 ·obtain⟨v,z⟩:=I.cell x c e
  exact⟨v,cellK x c e v z⟩
 ·obtain⟨m,⟨o,_,_,ho,_⟩,_⟩:=I.loc
  exact free _ o (fun z=>(hch _ z).2.1 rfl) ho I.free
 ·obtain⟨v,o,ho,hd⟩:=I.cell x c e
  exact free c o (fun z=>(hch c z).2.2.1 x c e rfl) ho (I.freeC x c e)
 ·obtain⟨e,n,ne,nf,d⟩:=I.pin p hp
  have nch:p.1∉ch:=fun z=>(hch p.1 z).2.2.2 p hp rfl
  exact⟨keep p.1 p.2 ne nf nch e n,free p.1 p.2 nch e n,ne,nf,d⟩
theorem Inv.un{t':Nat}(I:Inv X pins σ H s)(u:Un X.fs [] H H' s.heap h')(hok:HOk X.prog X.w H' h'):Inv X pins σ H' {s with heap:=h',toks:=t'}:=by
 obtain⟨m,⟨o,es,ep,ho,r⟩,_⟩:=id I.loc
 obtain⟨sl,hL⟩:=u.any ho I.free (by simp)
 exact I.step (g':=s.gens) (d':=s.drawn) (ch:=[]) (fun _ z=>nomatch z) (fun b o _ hb _ e n=>u.keep b o e n hb (by simp)) (fun b o _ hb _ e n=>u.slot b o e n hb (by simp)) (fun b o _ e n=>u.free b o e n (by simp)) (fun b o _ e=>u.there b o e (by simp)) u.tups u.frzs u.tbls (fun m' hm=>by
  obtain⟨o',es',ep',ho',r'⟩:=hm
  rw[ho]at ho';cases ho'
  exact⟨_,es',ep',hL,r'⟩) hok I.bare
theorem Inv.call{g':Array GenState}{t':Nat}{d':Drawn}{ch:List Addr}(I:Inv X pins σ H s)(u:Un (frs X.stack) ch H H' s.heap h')(hok:HOk X.prog X.w H' h')(hg:AllBare g')
  (hch:∀b∈ch,(b∈X.ex\/X.s₀.heap.objs.size<=b)/\b≠X.env.locals/\(∀x c,X.env.cells.lookup x=some c->c≠b)/\∀p∈X.pn++pins,p.1≠b) :
  Inv X pins σ H' {s with heap:=h',gens:=g',drawn:=d',toks:=t'}:=by
 obtain⟨m,⟨o,es,ep,ho,r⟩,_⟩:=id I.loc
 obtain⟨sl,hL⟩:=u.any ho I.free fun z=>(hch _ z).2.1 rfl
 exact I.step (ch:=ch) hch (fun b o hL hb hc e n=>u.keep b o e n (fun z=>(List.mem_cons.mp (I.stkSub b z)).elim hL hb) hc) (fun b o _ _ hc e n=>u.any e n hc) (fun b o hc e n=>u.free b o e n hc) (fun b o hc e=>u.there b o e hc) u.tups u.frzs u.tbls (fun m' hm=>by
  obtain⟨o',es',ep',ho',r'⟩:=hm
  rw[ho]at ho';cases ho'
  exact⟨_,es',ep',hL,r'⟩) hok hg
theorem Inv.turned{t':Nat}{it:Addr}(I:Inv X pins σ H s)(k:∀b o,b≠it->s.heap.get? b=some o->h'.get? b=some o)(hn:H it=none)(hL:it≠X.env.locals)
  (h1:it∈X.ex\/X.s₀.heap.objs.size<=it) (h2:∀x c,X.env.cells.lookup x=some c->c≠it) (h3:∀p∈X.pn++pins,p.1≠it):Inv X pins σ H {s with heap:=h',toks:=t'}:=by
 have nit:∀b u,H b=some u->b≠it:=fun b u e z=>by rw[z,hn]at e;cases e
 refine I.step (g':=s.gens) (d':=s.drawn) (ch:=[it]) (fun b hb=>?_) (fun b o _ _ hc e _=>k b o (fun z=>hc (by simp[z])) e) (fun b o _ _ hc e _=>⟨o.slots,k b o (fun z=>hc (by simp[z])) e⟩) (fun _ _ _ _ n=>n)
  (fun b o hc e=>⟨o,k b o (fun z=>hc (by simp[z])) e⟩) (fun _ _ e=>e) (fun _ _ _ e=>e) (fun b ps e=>⟨#[],by rw[e];simp⟩) (fun m hm=>?_) (fun b u e=>?_) I.bare
 ·have e:b=it:=by simpa using hb
  subst e
  exact⟨h1,hL,h2,h3⟩
 ·obtain⟨o,es,ep,ho,r⟩:=hm
  exact⟨o,es,ep,k _ o (Ne.symm hL) ho,r⟩
 ·refine(I.hok b u e).stay (fun c v hc q=>k c v ?_ q) (fun _ q=>q) fun _ _ q=>q
  rcases hc with z|z
  ·rw[z];exact nit b u e
  ·exact nit c _ z
theorem Inv.tok(I:Inv X pins σ H s)(t:Nat):Inv X pins σ H {s with toks:=t}:=I.un (h':=s.heap) (t':=t) Un.refl I.hok
theorem Inv.kept{t':Nat}(I:Inv X pins σ H s)(k:∀b u,s.heap.get? b=some u->h'.get? b=some u):Inv X pins σ H {s with heap:=h',toks:=t'}:=I.un (Un.kept k) (I.hok.kept k)
theorem Inv.laid{a:Addr}{o:HO}{t':Nat}(I:Inv X pins σ H s)(k:∀b u,s.heap.get? b=some u->h'.get? b=some u)(hp:s.heap.objs.size<=a)(new:ObjOk X.prog X.w (upd H a o) h' a o) :
  Inv X pins σ (upd H a o) {s with heap:=h',toks:=t'}:=I.un (Un.laid k hp (I.hok.fresh hp)) (I.hok.laid k hp new)
theorem Inv.write{x e:Addr}{o:HO}{t':Nat}(I:Inv X pins σ H s)(mu:Mut (H x))(he:e=x\/H e=some (.own x))(k:∀b u,b≠e->s.heap.get? b=some u->h'.get? b=some u)(heo:∃u,h'.get? e=some u)
  (new:ObjOk X.prog X.w (upd H x o) h' x o):Inv X pins σ (upd H x o) {s with heap:=h',toks:=t'}:=I.un (Un.write mu he k heo) (I.hok.write mu he k heo new)
theorem Inv.weak{σ':List (Option V)}(I:Inv X pins σ H s)(hl:σ'.length=σ.length)(w:∀(i:Nat) v,σ'[i]?=some (some v)->σ[i]?=some (some v)):Inv X pins σ' H s :=
 ⟨I.ok,I.os,I.bare,I.base,let⟨m,hn,hl'⟩:=I.loc;⟨m,hn,fun i x v e1 e2 e3=>hl' i x v e1 (w i v e2) e3⟩,I.cell,I.free,I.freeC,I.pin,I.hok,hl.trans I.len⟩
theorem Inv.pins_of{pins':List (Addr×Obj)}(I:Inv X pins σ H s)(h:∀p∈pins',s.heap.get? p.1=some p.2/\H p.1=none/\p.1≠X.env.locals/\p.1∉X.fs/\∀v,p.2.data≠.cell v):Inv X pins' σ H s :=
 ⟨I.ok,I.os,I.bare,I.base,I.loc,I.cell,I.free,I.freeC,fun p hp=>(List.mem_append.mp hp).elim (fun z=>I.pin p (List.mem_append_left _ z)) (h p),I.hok,I.len⟩
theorem nodup_ix{N:List Str}(hN:N.Nodup){i j:Nat}{x:Str}(a:N[i]?=some x)(b:N[j]?=some x):i=j:=by
 obtain⟨h1,e1⟩:=List.getElem?_eq_some_iff.mp a
 obtain⟨h2,e2⟩:=List.getElem?_eq_some_iff.mp b
 exact(List.getElem_inj hN).mp (e1.trans e2.symm)
theorem store_ok2{M:Model}{A:Around}{E:Value->Shared->Prop}{i:Nat}{x:Str}{v:V}{u:Value}{Q:Unit->Shared->Prop}(I:Inv X pins σ H s)(hN:X.N.Nodup)(hi:X.N[i]?=some x)(hx:Loc X.env.scope x)(r:RelV v u)
  (h:∀s',Inv X pins (σ.set i (some v)) H s'->(∃a,Heap.SameBut a s.heap s'.heap/\(a=X.env.locals\/X.env.cells.lookup x=some a))->Q () s') (hf:X.fn x=true\/X.env.scope.names.lookup x=some .local:=by first|exact .inl rfl|exact .inr rfl|assumption):wpAny M A (storeName X.env x u) Q E s:=by
 obtain⟨m,hn,hl⟩:=id I.loc
 have hcls:(X.env.scope.kind == .class||(X.env.scope.kind == .module&&X.env.locals != X.env.globals))=false:=by rw[I.ok.kind];rfl
 have hiσ:i<σ.length:=by rw[I.len];exact(List.getElem?_eq_some_iff.mp hi).1
 have cne:=I.cne
 have tracked:∀{a:Addr}{h':Heap},(∃o,s.heap.get? a=some o/\H a=none)->Heap.SameBut a s.heap h'->HOk X.prog X.w H h':=fun{a h'} ha hs b ob e=>by
  obtain⟨_,_,hfree⟩:=ha
  refine(I.hok b ob e).stay (fun c w' hc q=>(hs.2 c ?_).trans q) (fun _ q=>q) fun _ _ q=>q
  rintro rfl
  rcases hc with rfl|hc
  ·rw[hfree]at e;cases e
  ·rw[hfree]at hc;cases hc
 rcases hx with hk|hk
 ·refine wpAny_storeName_local hk hn (fun h' hn' hs=>?_) hcls
  obtain⟨oL,_,_,hoL,_⟩:=id hn
  refine h _ ⟨I.ok,I.os,I.bare,⟨fun b o e n hb hx=>?_,fun b o e n hb hx=>?_,I.base.free,fun b o e hx=>?_,I.base.tups,I.base.frzs,I.base.tbls⟩,⟨_,hn',fun j y v' e1 e2 e3=>?_⟩,fun y c e=>?_,I.free,I.freeC,fun p hp=>?_,tracked ⟨oL,hoL,I.free⟩ hs,by simpa using I.len⟩ ⟨_,hs,.inl rfl⟩
  ·exact(hs.2 b (Nat.ne_of_lt (Nat.lt_of_lt_of_le (Heap.lt_size e) I.ok.above))).trans (I.base.keep b o e n hb hx)
  ·obtain⟨sl,e1⟩:=I.base.slot b o e n hb hx
   exact⟨sl,(hs.2 b (Nat.ne_of_lt (Nat.lt_of_lt_of_le (Heap.lt_size e) I.ok.above))).trans e1⟩
  ·obtain⟨o',e1⟩:=I.base.there b o e hx
   exact⟨o',(hs.2 b (Nat.ne_of_lt (Nat.lt_of_lt_of_le (Heap.lt_size e) I.ok.above))).trans e1⟩
  ·by_cases hj:j=i
   ·subst hj
    rw[hi]at e1;cases e1
    rw[List.getElem?_set_self hiσ]at e2
    cases e2
    exact⟨u,r,.inl ⟨hk,by simp⟩⟩
   ·rw[List.getElem?_set_ne (Ne.symm hj)]at e2
    obtain⟨u',r',q⟩:=hl j y v' e1 e2 e3
    refine⟨u',r',?_⟩
    rcases q with⟨k,e⟩|⟨k,c,e,z⟩
    ·refine .inl ⟨k,?_⟩
     have:y≠x:=fun e=>hj (nodup_ix hN e1 (e▸hi))
     simp[this,e]
    ·exact .inr ⟨k,c,e,z.sameBut hs (cne y c e)⟩
  ·obtain⟨w',z⟩:=I.cell y c e
   exact⟨w',z.sameBut hs (cne y c e)⟩
  ·obtain⟨e,n,ne,nf,d⟩:=I.pin p hp
   exact⟨(hs.2 p.1 ne).trans e,n,ne,nf,d⟩
 ·have hfn:X.fn x=true:=by
   rcases hf with z|z
   ·exact z
   ·rw[z]at hk;cases hk
  obtain⟨c,hc⟩:=I.ok.has x (.inl hk)
  obtain⟨w',z⟩:=I.cell x c hc
  refine wpAny_storeName_cell I.ok.kind hk hc z (fun h' hc' hs=>?_)
  obtain⟨oc,hoc,hocd⟩:=id z
  refine h {s with heap:=h'} ⟨I.ok,I.os,I.bare,⟨fun b o e n hb hx=>?_,fun b o e n hb hx=>?_,I.base.free,fun b o e hx=>?_,I.base.tups,I.base.frzs,I.base.tbls⟩,⟨m,hn.sameBut hs (Ne.symm (cne x c hc)),fun j y v' e1 e2 e3=>?_⟩,fun y c' e=>?_,I.free,I.freeC,fun p hp=>?_,tracked ⟨oc,hoc,I.freeC x c hc⟩ hs,by simpa using I.len⟩ ⟨c,hs,.inr hc⟩
  ·exact(hs.2 b (Nat.ne_of_lt (Nat.lt_of_lt_of_le (Heap.lt_size e) (I.ok.cab x c hfn hc)))).trans (I.base.keep b o e n hb hx)
  ·obtain⟨sl,e1⟩:=I.base.slot b o e n hb hx
   exact⟨sl,(hs.2 b (Nat.ne_of_lt (Nat.lt_of_lt_of_le (Heap.lt_size e) (I.ok.cab x c hfn hc)))).trans e1⟩
  ·obtain⟨o',e1⟩:=I.base.there b o e hx
   exact⟨o',(hs.2 b (Nat.ne_of_lt (Nat.lt_of_lt_of_le (Heap.lt_size e) (I.ok.cab x c hfn hc)))).trans e1⟩
  ·by_cases hj:j=i
   ·subst hj
    rw[hi]at e1;cases e1
    rw[List.getElem?_set_self hiσ]at e2
    cases e2
    exact⟨u,r,.inr ⟨.inl hk,c,hc,hc'⟩⟩
   ·rw[List.getElem?_set_ne (Ne.symm hj)]at e2
    obtain⟨u',r',q⟩:=hl j y v' e1 e2 e3
    refine⟨u',r',?_⟩
    rcases q with q|⟨k,c',e,z'⟩
    ·exact .inl q
    ·refine .inr ⟨k,c',e,z'.sameBut hs ?_⟩
     rintro rfl
     exact hj (nodup_ix hN e1 (I.ok.inj _ _ _ e hc▸hi))
  ·by_cases hcc:c'=c
   ·subst hcc;exact⟨_,hc'⟩
   ·obtain⟨w2,z2⟩:=I.cell y c' e
    exact⟨w2,z2.sameBut hs hcc⟩
  ·obtain⟨e,n,ne,nf,d⟩:=I.pin p hp
   refine⟨(hs.2 p.1 ?_).trans e,n,ne,nf,d⟩
   intro q
   rw[q,hoc]at e
   have q':oc=p.2:=Option.some.inj e
   exact d w' (by rw[←q'];exact hocd)
theorem store_ok{M:Model}{A:Around}{E:Value->Shared->Prop}{i:Nat}{x:Str}{v:V}{u:Value}{Q:Unit->Shared->Prop}(I:Inv X pins σ H s)(hN:X.N.Nodup)(hi:X.N[i]?=some x)(hx:Loc X.env.scope x)(r:RelV v u)
  (h:∀s',Inv X pins (σ.set i (some v)) H s'->Q () s') (hf:X.fn x=true\/X.env.scope.names.lookup x=some .local:=by first|exact .inl rfl|exact .inr rfl|assumption):wpAny M A (storeName X.env x u) Q E s :=
 store_ok2 I hN hi hx r (fun s' I' _=>h s' I') hf
theorem Inv.call'{s':Shared}{ch:List Addr}(I:Inv X pins σ H s)(ho:s'.os=s.os)(u:Un (frs X.stack) ch H H' s.heap s'.heap)(hok:HOk X.prog X.w H' s'.heap)(hg:AllBare s'.gens)
  (hch:∀b∈ch,(b∈X.ex\/X.s₀.heap.objs.size<=b)/\b≠X.env.locals/\(∀x c,X.env.cells.lookup x=some c->c≠b)/\∀p∈X.pn++pins,p.1≠b):Inv X pins σ H' s':=by
 obtain⟨h',g',d',t',o'⟩:=s'
 have e:o'=s.os:=ho
 subst e
 exact I.call (g':=g') (t':=t') (d':=d') u hok hg hch
end
abbrev XK:=Value->Option Addr->Hp->Prop
abbrev St:=List (Option V)
abbrev VK:=V->Hp->Prop
abbrev TE:=St->Hp->VK->Prop
abbrev TT:=St->Hp->(Bool->Hp->Prop)->Prop
abbrev TA:=St->Hp->(List V->Hp->Prop)->Prop
structure Ends where
 nx:St->Hp->Prop
 rt:VK
 bk:St->Hp->Prop:=fun _ _=>False
 ct:St->Hp->Prop:=fun _ _=>False
abbrev TS:=Ends->St->Hp->Prop
def EP(X:Cx)(pins:List (Addr×Obj))(σ:St)(Q:VK)(u:Value)(s':Shared):Prop:=∃v H',Inv X pins σ H' s'/\RelV v u/\Q v H'
def TP(X:Cx)(pins:List (Addr×Obj))(σ:St)(Q:Bool->Hp->Prop)(b:Bool)(s':Shared):Prop:=∃H',Inv X pins σ H' s'/\Q b H'
def AP(X:Cx)(pins:List (Addr×Obj))(σ:St)(Q:List V->Hp->Prop)(us:List Value)(s':Shared):Prop:=∃vs H',Inv X pins σ H' s'/\Vals vs us/\Q vs H'
def SP(X:Cx)(pins:List (Addr×Obj))(D:Ends)(f:Flow)(s':Shared):Prop :=
 match f with
 |.next=>∃σ' H',Inv X pins σ' H' s'/\D.nx σ' H'
 |.brk=>∃σ' H',Inv X pins σ' H' s'/\D.bk σ' H'
 |.cont=>∃σ' H',Inv X pins σ' H' s'/\D.ct σ' H'
 |.ret u=>∃v σ' H',Inv X pins σ' H' s'/\RelV v u/\D.rt v H'
def PE(X:Cx)(e:Expr)(t:TE):Prop :=
 ∀(pins:List (Addr×Obj)) (s:Shared) (σ:St) (H:Hp) (Q:VK),Inv X pins σ H s->t σ H Q->wpAny (model X.prog X.w) X.A (eval e X.env) (EP X pins σ Q) X.xe s
def PT(X:Cx)(e:Expr)(t:TT):Prop :=
 ∀(pins:List (Addr×Obj)) (s:Shared) (σ:St) (H:Hp) (Q:Bool->Hp->Prop),Inv X pins σ H s->t σ H Q->wpAny (model X.prog X.w) X.A (isTrue e X.env (eval e X.env)) (TP X pins σ Q) X.xe s
def PW(X:Cx)(e:Expr)(t:TT):Prop :=
 ∀(whole:Sem Value) (pins:List (Addr×Obj)) (s:Shared) (σ:St) (H:Hp) (Q:Bool->Hp->Prop),Inv X pins σ H s->t σ H Q->wpAny (model X.prog X.w) X.A (isTrue e X.env whole) (TP X pins σ Q) X.xe s
theorem PW.pt{X:Cx}{e:Expr}{t:TT}(h:PW X e t):PT X e t:=h _
def PA(X:Cx)(es:List Expr)(t:TA):Prop :=
 ∀(pos:Pos) (pins:List (Addr×Obj)) (s:Shared) (σ:St) (H:Hp) (Q:List V->Hp->Prop),Inv X pins σ H s->t σ H Q->wpAny (model X.prog X.w) X.A (spliced (backTo pos (starEach es X.env))) (AP X pins σ Q) X.xe s
def PS(X:Cx)(st:Stmt)(t:TS):Prop :=
 ∀(pins:List (Addr×Obj)) (s:Shared) (σ:St) (H:Hp) (D:Ends),Inv X pins σ H s->t D σ H->wpAny (model X.prog X.w) X.A (exec st X.env) (SP X pins D) X.xe s
def PSs(X:Cx)(st:List Stmt)(t:TS):Prop :=
 ∀(pins:List (Addr×Obj)) (s:Shared) (σ:St) (H:Hp) (D:Ends),Inv X pins σ H s->t D σ H->wpAny (model X.prog X.w) X.A (execs st X.env) (SP X pins D) X.xe s
theorem thn{α:Type}{t:Sem α}{Q Q':α->Shared->Prop}{M:Model}{A:Around}{E:Value->Shared->Prop}{s:Shared}(h:wpAny M A t Q E s)(hQ:∀a s,Q a s->Q' a s):wpAny M A t Q' E s:=wpAny_mono h hQ fun _ _ x=>x
section
variable {X:Cx}
def tVar(i:Nat):TE:=fun σ H Q=>∃v,σ[i]?=some (some v)/\Q v H
def tC(v:V):TE:=fun _ H Q=>Q v H
theorem pe_var{i:Nat}{x:Str}{pos:Pos}(hN:X.N[i]?=some x)(hv:Vis X.env.scope x)(hd:(x == ("__debug__":Str))=false:=by decide)(hcd:(x == ("__classdict__":Str))=false:=by decide):PE X (.Name x pos) (tVar i):=by
 intro pins s σ H Q I h
 obtain⟨v,e,h⟩:=h
 obtain⟨m,hn,hl⟩:=I.loc
 obtain⟨u,r,l⟩:=hl i x v hN e hv
 have fin:EP X pins σ Q u s:=⟨v,H,I,r,h⟩
 rcases l with⟨hk,hm⟩|⟨hk,c,hc,hcell⟩
 ·exact wpAny_Name (wpAny_loadName_local I.ok.kind hk hn hm fin) hd
 ·rcases hk with hk|hk
  ·exact wpAny_Name (wpAny_loadName_cell I.ok.kind hk hc hcell fin) hd
  ·exact wpAny_Name (wpAny_loadName_free I.ok.kind hk hc hcell fin hcd) hd
theorem pe_int{i j pos}:PE X (.Constant (.int i) j pos) (tC (.int i)):=fun _ _ _ H _ I h=>wpAny_Constant_int ⟨.int i,H,I.tok _,⟨_,rfl⟩,h⟩
theorem pe_bl{b j pos}:PE X (.Constant (.bool b) j pos) (tC (.bl b)):=fun _ _ _ H _ I h=>Constant_bool ⟨.bl b,H,I,rfl,h⟩
theorem pe_str{x j pos}:PE X (.Constant (.str x) j pos) (tC (.str x)):=fun _ _ _ H _ I h=>Calls.Constant_str ⟨.str x,H,I.tok _,⟨_,rfl⟩,h⟩
def Gl(X:Cx)(x:Str):Prop:=X.env.kindOf x=some .globalImplicit
theorem ld_glob{E:Value->Shared->Prop}{pins:List (Addr×Obj)}{s:Shared}{σ:St}{H:Hp}{x:Str}{u:Value}{pos:Pos}{Q:Value->Shared->Prop}(I:Inv X pins σ H s)(hg:Gl X x)(hm:X.mg x=some u)(h:Q u s)
  (hd:(x == ("__debug__":Str))=false:=by decide):wpAny (model X.prog X.w) X.A (eval (.Name x pos) X.env) Q E s :=
 Calls.Name_function_global I.ok.kind hg (Calls.loadGlobal_global (by rw[I.ok.glob];exact I.mod.glob.keeps I.bk) hm h) hd
theorem ld_blt{E:Value->Shared->Prop}{pins:List (Addr×Obj)}{s:Shared}{σ:St}{H:Hp}{x:Str}{u:Value}{pos:Pos}{Q:Value->Shared->Prop}(I:Inv X pins σ H s)(hg:Gl X x)(hm:X.mg x=none)(hv:bootBuiltins x=some u)(h:Q u s)
  (hn:x≠"__name__":=by decide) (hd:(x == ("__debug__":Str))=false:=by decide):wpAny (model X.prog X.w) X.A (eval (.Name x pos) X.env) Q E s:=by
 obtain⟨mb,h1,h2⟩:=I.mod.blt
 exact Calls.Name_function_global I.ok.kind hg (Calls.loadGlobal_builtin (by rw[I.ok.glob];exact I.mod.glob.keeps I.bk) hm (by rw[I.ok.blt];exact h1.keeps I.bk) ((h2 x hn).trans hv) h) hd
theorem pe_glob{x:Str}{v:V}{u:Value}{pos:Pos}(hg:Gl X x)(hm:X.mg x=some u)(r:RelV v u)(hd:(x == ("__debug__":Str))=false:=by decide):PE X (.Name x pos) (tC v) :=
 fun _ _ _ H _ I h=>ld_glob I hg hm ⟨v,H,I,r,h⟩ hd
theorem pe_bltn{x:Str}{v:V}{u:Value}{pos:Pos}(hg:Gl X x)(hm:X.mg x=none)(hv:bootBuiltins x=some u)(r:RelV v u)(hn:x≠"__name__":=by decide)(hd:(x == ("__debug__":Str))=false:=by decide):PE X (.Name x pos) (tC v) :=
 fun _ _ _ H _ I h=>ld_blt I hg hm hv ⟨v,H,I,r,h⟩ hn hd
variable {a b:Expr}{ta tb:TE}{pos:Pos}
def tB(t:TE):TT:=fun σ H Q=>t σ H fun x H1=>∃c,x=.bl c/\Q c H1
theorem pt_val{e:Expr}{t:TE}(h:PE X e t)(he:∀whole,isTrue e X.env whole=(do let v ←whole;standAt e.pos;holding [v] (truthy v)):=by intro _;rfl):PT X e (tB t):=by
 intro pins s σ H Q I hw
 refine isTrue_plain (thn (h pins s σ H _ I hw) fun v s1 ⟨x,H1,I1,r1,q1⟩=>?_) (he _)
 obtain⟨d,rfl,q⟩:=q1
 cases r1
 exact wpAny_truthy_bool ⟨H1,I1,q⟩
variable {tA tB':TT}{rest:List Expr}
def tOr(t u:TT):TT:=fun σ H Q=>t σ H fun c H1=>if c=true then Q true H1 else u σ H1 Q
def tNot(t:TT):TT:=fun σ H Q=>t σ H fun c H1=>Q (!c) H1
theorem pw_or1(ha:PT X a tA):PW X (.BoolOp .Or [a] pos) tA:=by
 intro wh pins s σ H Q I h
 refine isTrue_or (thn (ha pins s σ H Q I h) fun c s1 e=>?_)
 cases c with
 |false=>exact isTrue_or_nil e
 |true=>exact e
theorem pw_or(ha:PT X a tA)(hb:PW X (.BoolOp .Or (b::rest) pos) tB'):PW X (.BoolOp .Or (a::b::rest) pos) (tOr tA tB'):=by
 intro wh pins s σ H Q I h
 refine isTrue_or (thn (ha pins s σ H _ I h) fun c s1 ⟨H1,I1,q1⟩=>?_)
 cases c with
 |true=>exact⟨H1,I1,q1⟩
 |false=>exact hb wh pins s1 σ H1 Q I1 q1
theorem pt_not(ha:PT X a tA):PT X (.UnaryOp .Not a pos) (tNot tA):=by
 intro pins s σ H Q I h
 exact isTrue_not (ha pins s σ H (fun c H1=>Q (!c) H1) I h)
def tAndV(ta tb:TE):TE:=fun σ H Q=>ta σ H fun x H1=>∃c,x=.bl c/\if c=true then tb σ H1 Q else Q (.bl false) H1
def tOrV(ta tb:TE):TE:=fun σ H Q=>ta σ H fun x H1=>∃c,x=.bl c/\if c=true then Q (.bl true) H1 else tb σ H1 Q
def tNotV(ta:TE):TE:=fun σ H Q=>ta σ H fun x H1=>∃c,x=.bl c/\Q (.bl (!c)) H1
theorem pe_one{op}{t:TE}(h:PE X a t):PE X (.BoolOp op [a] pos) t:=fun pins s σ H Q I hw=>BoolOp_one (h pins s σ H Q I hw)
theorem pe_and(ha:PE X a ta)(hb:PE X (.BoolOp .And (b::rest) pos) tb):PE X (.BoolOp .And (a::b::rest) pos) (tAndV ta tb):=by
 intro pins s σ H Q I h
 refine BoolOp_and (thn (ha pins s σ H _ I h) fun v s1 ⟨x,H1,I1,r1,q1⟩=>?_)
 obtain⟨c,rfl,q1⟩:=q1
 cases r1
 refine wpAny_truthy_bool ?_
 cases c with
 |true=>exact hb pins s1 σ H1 Q I1 q1
 |false=>exact⟨.bl false,H1,I1,rfl,q1⟩
theorem pe_or(ha:PE X a ta)(hb:PE X (.BoolOp .Or (b::rest) pos) tb):PE X (.BoolOp .Or (a::b::rest) pos) (tOrV ta tb):=by
 intro pins s σ H Q I h
 refine BoolOp_or (thn (ha pins s σ H _ I h) fun v s1 ⟨x,H1,I1,r1,q1⟩=>?_)
 obtain⟨c,rfl,q1⟩:=q1
 cases r1
 refine wpAny_truthy_bool ?_
 cases c with
 |false=>exact hb pins s1 σ H1 Q I1 q1
 |true=>exact⟨.bl true,H1,I1,rfl,q1⟩
theorem pe_not(ha:PE X a ta):PE X (.UnaryOp .Not a pos) (tNotV ta):=by
 intro pins s σ H Q I h
 refine UnaryOp_ (thn (ha pins s σ H _ I h) fun v s1 ⟨x,H1,I1,r1,q1⟩=>?_)
 obtain⟨c,rfl,q1⟩:=q1
 cases r1
 exact not_of (wpAny_truthy_bool ⟨.bl (!c),H1,I1,rfl,q1⟩)
end
def SqL(K:PySem.W.Frag)(H:Hp)(a:Addr)(xs:List V):Prop :=
 Rd H a (.lst xs) \/
  ∃(o:Obj) (its:Array Value) (n:Nat),K.lookup a=some o/\o.cls=.type "list"/\o.dict=none/\o.data=.seq its n/\its.size<=sizeLine/\Vals xs its.toList
def SqT(K:PySem.W.Frag)(H:Hp)(a:Addr)(xs:List V):Prop :=
 Rd H a (.tup xs) \/
  ∃(o:Obj) (its:Array Value) (n:Nat),K.lookup a=some o/\o.cls=.type "tuple"/\o.data=.seq its n/\its.size<=sizeLine/\Vals xs its.toList/\o.dict=none
def absV:Value->Option V
 |.none=>some .non
 |.bool b=>some (.bl b)
 |.int i _=>some (.int i)
 |.str x _=>some (.str x)
 |.bytes b _=>some (.byt b)
 |.float b _=>some (.flt b)
 |.ref a=>some (.ref a)
 |.type n=>some (.ty n)
 |_=>none
theorem RelV.abs{x:V}{u:Value}(r:RelV x u):absV u=some x:=by
 cases x with
 |non=>cases r;rfl
 |bl _=>cases r;rfl
 |int _=>obtain⟨t,rfl⟩:=r;rfl
 |str _=>obtain⟨t,rfl⟩:=r;rfl
 |byt _=>obtain⟨t,rfl⟩:=r;rfl
 |flt _=>obtain⟨t,rfl⟩:=r;rfl
 |ref _=>cases r;rfl
 |ty _=>cases r;rfl
theorem RelV.inj{x y:V}{u:Value}(r:RelV x u)(q:RelV y u):x=y:=Option.some.inj (r.abs.symm.trans q.abs)
theorem Vals.inj:∀{xs ys:List V}{us:List Value},Vals xs us->Vals ys us->xs=ys
 |_,_,_,.nil,.nil=>rfl
 |_,_,_,.cons r t,.cons r' t'=>by rw[r.inj r',Vals.inj t t']
section
variable {X:Cx}{pins:List (Addr×Obj)}{σ:St}{H:Hp}{s:Shared}{a:Addr}{xs ys:List V}
theorem SqL.of{K:PySem.W.Frag}(h:H a=some (.lst xs)):SqL K H a xs:=.inl (.inl h)
theorem SqT.of{K:PySem.W.Frag}(h:H a=some (.tup xs)):SqT K H a xs:=.inl (.inl h)
theorem Inv.list(I:Inv X pins σ H s)(h:SqL X.K H a xs):∃its:List Value,Vals xs its/\PlainL s.heap a its.toArray/\xs.length<=sizeLine:=by
 rcases h with h|⟨o,its,n,hk,hc,hd,hs,hz,r⟩
 ·obtain⟨z,its,n,r,e⟩:=h.ok I.hok
  exact⟨its,r,⟨_,n,e,rfl,rfl,rfl⟩,z⟩
 ·refine⟨its.toList,r,⟨o,n,I.kIn a o hk,hc,hd,by simpa using hs⟩,?_⟩
  have e:=r.length
  simp only[Array.length_toList]at e
  omega
theorem Inv.tuple(I:Inv X pins σ H s)(h:SqT X.K H a xs):∃its:List Value,Vals xs its/\IsTup s.heap a its.toArray/\xs.length<=sizeLine:=by
 rcases h with h|⟨o,its,n,hk,hc,hs,hz,r,_⟩
 ·obtain⟨z,its,r,p,_⟩:=h.ok I.hok
  exact⟨its,r,p,z⟩
 ·refine⟨its.toList,r,⟨o,I.kIn a o hk,hc,n,by simpa using hs⟩,?_⟩
  have e:=r.length
  simp only[Array.length_toList]at e
  omega
theorem Inv.list_inj(I:Inv X pins σ H s)(h:SqL X.K H a xs)(h':SqL X.K H a ys):xs=ys:=by
 obtain⟨its,r,⟨o,n,e,_,_,d⟩,_⟩:=I.list h
 obtain⟨its',r',⟨o',n',e',_,_,d'⟩,_⟩:=I.list h'
 rw[e]at e';cases e'
 rw[d]at d'
 injection d' with d1 _
 have:its=its':=by simpa using congrArg Array.toList d1
 subst this
 exact r.inj r'
theorem Inv.tuple_inj(I:Inv X pins σ H s)(h:SqT X.K H a xs)(h':SqT X.K H a ys):xs=ys:=by
 obtain⟨its,r,⟨o,e,_,n,d⟩,_⟩:=I.tuple h
 obtain⟨its',r',⟨o',e',_,n',d'⟩,_⟩:=I.tuple h'
 rw[e]at e';cases e'
 rw[d]at d'
 injection d' with d1 _
 have:its=its':=by simpa using congrArg Array.toList d1
 subst this
 exact r.inj r'
end
abbrev Cx.wish(X:Cx)(E:Value->Shared->Prop):Cx:={X with xe:=E}
abbrev Cx.nox(X:Cx):Cx:=X.wish fun _ _=>False
theorem Cx.Ok.wish{X:Cx}(ok:X.Ok)(E:Value->Shared->Prop):(X.wish E).Ok :=
 ⟨ok.mod,ok.kind,ok.glob,ok.blt,ok.above,ok.inj,ok.has,ok.cab,ok.hd,ok.frames,ok.stk,ok.exf,ok.bs,ok.bsz,ok.noex,ok.exfs,ok.funs,ok.frf⟩
theorem Cx.Ok.unwish{X:Cx}{E:Value->Shared->Prop}(ok:(X.wish E).Ok):X.Ok :=
 ⟨ok.mod,ok.kind,ok.glob,ok.blt,ok.above,ok.inj,ok.has,ok.cab,ok.hd,ok.frames,ok.stk,ok.exf,ok.bs,ok.bsz,ok.noex,ok.exfs,ok.funs,ok.frf⟩
section
variable {X:Cx}{pins:List (Addr×Obj)}{σ:St}{H:Hp}{s:Shared}{E:Value->Shared->Prop}
theorem Inv.wish(I:Inv X pins σ H s)(E:Value->Shared->Prop):Inv (X.wish E) pins σ H s:=⟨I.ok.wish E,I.os,I.bare,I.base,I.loc,I.cell,I.free,I.freeC,I.pin,I.hok,I.len⟩
theorem Inv.unwish(I:Inv (X.wish E) pins σ H s):Inv X pins σ H s:=⟨I.ok.unwish,I.os,I.bare,I.base,I.loc,I.cell,I.free,I.freeC,I.pin,I.hok,I.len⟩
theorem SP.unwish{D:Ends}{f:Flow}{s':Shared}(h:SP (X.wish E) pins D f s'):SP X pins D f s':=by
 cases f with
 |next=>obtain⟨σ',H',I,q⟩:=h;exact⟨σ',H',I.unwish,q⟩
 |brk=>obtain⟨σ',H',I,q⟩:=h;exact⟨σ',H',I.unwish,q⟩
 |cont=>obtain⟨σ',H',I,q⟩:=h;exact⟨σ',H',I.unwish,q⟩
 |ret u=>obtain⟨v,σ',H',I,r,q⟩:=h;exact⟨v,σ',H',I.unwish,r,q⟩
theorem PSs.nox{st:List Stmt}{t:TS}(h:PSs X.nox st t):PSs X st t:=fun pins s σ H D I hw =>
 wpAny_mono (h pins s σ H D (I.wish _) hw) (fun _ _ q=>q.unwish) fun _ _ z=>False.elim z
end
section
variable {X:Cx}{st:Stmt}{rest:List Stmt}{t u:TS}{e:Expr}{te:TE}{pos:Pos}
def tNext:TS:=fun D σ H=>D.nx σ H
def tSeq(t u:TS):TS:=fun D σ H=>t {D with nx:=u D} σ H
theorem pss_nil:PSs X [] tNext:=fun _ _ σ H _ I h=>wpAny_execs_nil ⟨σ,H,I,h⟩
theorem pss_cons(h1:PS X st t)(h2:PSs X rest u):PSs X (st::rest) (tSeq t u):=by
 intro pins s σ H D I h
 refine wpAny_execs_cons (thn (h1 pins s σ H {D with nx:=u D} I h) fun f s1 q=>?_)
 cases f with
 |next =>
  obtain⟨σ',H',I',q⟩:=q
  exact h2 pins s1 σ' H' D I' q
 |ret v=>exact q
 |brk=>exact q
 |cont=>exact q
theorem pss_one(h1:PS X st t):PSs X [st] t:=by
 intro pins s σ H D I h
 refine wpAny_execs_cons (thn (h1 pins s σ H D I h) fun f s1 q=>?_)
 cases f with
 |next=>exact wpAny_execs_nil q
 |ret v=>exact q
 |brk=>exact q
 |cont=>exact q
theorem Inv.quiet{pins:List (Addr×Obj)}{σ:St}{H:Hp}{s:Shared}(I:Inv X pins σ H s):interactive X.env=false:=by simp[interactive,I.ok.kind]
def tDrop(te:TE):TS:=fun D σ H=>te σ H fun _ H1=>D.nx σ H1
theorem ps_expr(he:PE X e te)(hs:swapsWith e none pos.line X.env=pure false:=by rfl):PS X (.Expr e pos) (tDrop te):=by
 intro pins s σ H D I h
 exact wpAny_Expr_any (thn (he pins s σ H _ I h) fun v s1 ⟨x,H1,I1,r1,q1⟩=>⟨σ,H1,I1,q1⟩) I.quiet hs
def tRet(te:TE):TS:=fun D σ H=>te σ H D.rt
theorem ps_ret(he:PE X e te):PS X (.Return (some e) pos) (tRet te):=by
 intro pins s σ H D I h
 exact wpAny_Return_some (thn (he pins s σ H _ I h) fun v s1 ⟨x,H1,I1,r1,q1⟩=>⟨x,σ,H1,I1,r1,q1⟩)
def tIfS(c:TT)(t u:TS):TS:=fun D σ H=>c σ H fun b H1=>if b=true then t D σ H1 else u D σ H1
theorem ps_if{c:Expr}{a b:List Stmt}{tc:TT}(hc:PT X c tc)(ha:PSs X a t)(hb:PSs X b u):PS X (.If c a b pos) (tIfS tc t u):=by
 intro pins s σ H D I h
 refine wpAny_If (thn (hc pins s σ H _ I h) fun d s1 ⟨H1,I1,q1⟩=>?_)
 cases d with
 |true=>exact ha pins s1 σ H1 D I1 q1
 |false=>exact hb pins s1 σ H1 D I1 q1
def tNever:TS:=fun _ _ _=>False
theorem ps_never:PS X st tNever:=fun _ _ _ _ _ _ h=>h.elim
end
abbrev TG:=V->St->Hp->(St->Hp->Prop)->Prop
abbrev TGs:=List V->St->Hp->(St->Hp->Prop)->Prop
def PG(X:Cx)(target:Expr)(t:TG):Prop :=
 ∀(pins:List (Addr×Obj)) (s:Shared) (σ:St) (H:Hp) (v:V) (u:Value) (Q:St->Hp->Prop),Inv X pins σ H s->RelV v u->t v σ H Q ->
  wpAny (model X.prog X.w) X.A (assign target X.env u) (fun _ s'=>∃σ' H',Inv X pins σ' H' s'/\Q σ' H') X.xe s
def PGs(X:Cx)(ts:List Expr)(t:TGs):Prop :=
 ∀(pins:List (Addr×Obj)) (s:Shared) (σ:St) (H:Hp) (vs:List V) (us:List Value) (Q:St->Hp->Prop),Inv X pins σ H s->Vals vs us->t vs σ H Q ->
  wpAny (model X.prog X.w) X.A (assignInOrder ((assignEach ts X.env).map (·.2)) us) (fun _ s'=>∃σ' H',Inv X pins σ' H' s'/\Q σ' H') X.xe s
abbrev TSet:=V->V->V->Hp->(Hp->Prop)->Prop
def PSet(X:Cx)(t:TSet):Prop :=
 ∀(pins:List (Addr×Obj)) (s:Shared) (σ:St) (H:Hp) (o i v:V) (ov iv u:Value) (Q:Hp->Prop),Inv X pins σ H s->RelV o ov->RelV i iv->RelV v u->t o i v H Q ->
  wpAny (model X.prog X.w) X.A (setItem ov iv u) (fun _ s'=>∃H',Inv X pins σ H' s'/\Q H') X.xe s
abbrev TIp:=V->V->Hp->VK->Prop
def PIp(X:Cx)(op:Operator)(t:TIp):Prop :=
 ∀(pins:List (Addr×Obj)) (s:Shared) (σ:St) (H:Hp) (x y:V) (v u:Value) (Q:VK),Inv X pins σ H s->RelV x v->RelV y u->t x y H Q ->
  wpAny (model X.prog X.w) X.A (inplaceOp op v u) (EP X pins σ Q) X.xe s
section
variable {X:Cx}{pos:Pos}
def gName(i:Nat):TG:=fun v σ H Q=>Q (σ.set i (some v)) H
theorem pg_name{i:Nat}{x:Str}(hN:X.N.Nodup)(hi:X.N[i]?=some x)(hx:Loc X.env.scope x)(hf:X.fn x=true\/X.env.scope.names.lookup x=some .local:=by first|exact .inl rfl|exact .inr rfl|assumption):PG X (.Name x pos) (gName i):=by
 intro pins s σ H v u Q I r h
 exact wpAny_assign_Name (store_ok I hN hi hx r (fun s' I'=>⟨_,H,I',h⟩) hf)
def gNil:TGs:=fun vs σ H Q=>vs=[]/\Q σ H
def gCons(t:TG)(u:TGs):TGs:=fun vs σ H Q=>∃v r,vs=v::r/\t v σ H fun σ' H'=>u r σ' H' Q
theorem pgs_nil:PGs X [] gNil:=by
 intro pins s σ H vs us Q I r h
 obtain⟨e,h⟩:=h
 subst e
 cases r
 exact assignInOrder_nil ⟨σ,H,I,h⟩
theorem pgs_cons{e:Expr}{es:List Expr}{t:TG}{u:TGs}(h1:PG X e t)(h2:PGs X es u)
  (hs:(assignEach (e::es) X.env).map (·.2)=assign e X.env::(assignEach es X.env).map (·.2):=by rfl):PGs X (e::es) (gCons t u):=by
 intro pins s σ H vs us Q I r h
 obtain⟨v,vr,e1,h⟩:=h
 subst e1
 cases r with
 |cons r rr =>
  rw[hs]
  refine assignInOrder_cons (thn (h1 pins s σ H _ _ _ I r h) fun _ s1 ⟨σ1,H1,I1,q1⟩=>?_)
  exact h2 pins s1 σ1 H1 _ _ Q I1 rr q1
def gTup(K:PySem.W.Frag)(n:Nat)(t:TGs):TG:=fun v σ H Q=>∃a xs,v=.ref a/\SqT K H a xs/\xs.length=n/\t xs σ H Q
theorem pg_tup{es:List Expr}{k:Nat}{t:TGs}{n:Nat}(hc:X.calm=true)(h:PGs X es t)
  (hn:(assignEach es X.env).length=n:=by rfl) (hst:(assignEach es X.env).findIdx? (·.1)=none:=by rfl):PG X (.Tuple es k pos) (gTup X.K n t):=by
 intro pins s σ H v u Q I r hw
 obtain⟨a,xs,e1,hq,hl,hw⟩:=hw
 subst e1
 cases r
 obtain⟨its,rv,ht,hz⟩:=I.tuple hq
 refine assign_Tuple_tuple (I.ok.hd hc) ht (by simp[hn,←hl,rv.length]) hst fun h' hx=>?_
 have I1:Inv X pins σ H {s with heap:=h'}:=I.kept (t':=s.toks) fun b o e=>hx b o (Nat.ne_of_lt (Heap.lt_size e)) e
 exact h pins _ σ H xs _ Q I1 (by simpa using rv) hw
def gSub(to ti:TE)(t:TSet):TG:=fun v σ H Q=>to σ H fun o H1=>ti σ H1 fun i H2=>t o i v H2 fun H3=>Q σ H3
theorem pg_sub{o i:Expr}{to ti:TE}{t:TSet}(ho:PE X o to)(hi:PE X i ti)(hs:PSet X t)
  (ha:∀v,assign (.Subscript o i pos) X.env v=(do
   let ov ←holding [v] (eval o X.env)
   let iv ←holding [v,ov] (eval i X.env)
   standAt pos
   holding [v,ov,iv] (setItem ov iv v)
   release [v,ov,iv] []):=by intro _;rfl):PG X (.Subscript o i pos) (gSub to ti t):=by
 intro pins s σ H v u Q I r h
 rw[ha]
 refine wpAny_bind (wpAny_holding (thn (ho pins s σ H _ I h) fun ov s1 ⟨x,H1,I1,r1,q1⟩=>?_))
 refine wpAny_bind (wpAny_holding (thn (hi pins s1 σ H1 _ I1 q1) fun iv s2 ⟨y,H2,I2,r2,q2⟩=>?_))
 refine wpAny_bind (wpAny_standAt (wpAny_bind (wpAny_holding (thn (hs pins s2 σ H2 x y v ov iv u _ I2 r1 r2 r q2) fun _ s3 ⟨H3,I3,q3⟩=>?_))))
 exact wpAny_release ⟨σ,H3,I3,q3⟩
def tAsg(te:TE)(g:TG):TS:=fun D σ H=>te σ H fun x H1=>g x σ H1 D.nx
theorem ps_asg{tg e:Expr}{te:TE}{g:TG}(he:PE X e te)(hg:PG X tg g)(hs:swapsWithSole [tg] e pos.line X.env=pure false:=by rfl)(hw:swappedStores [tg] e X.env=pure none:=by rfl)
  (h1:(assignEach [tg] X.env).map (·.2)=[assign tg X.env]:=by rfl):PS X (.Assign [tg] e pos) (tAsg te g):=by
 intro pins s σ H D I h
 refine wpAny_Assign_stores (thn (he pins s σ H _ I h) fun v s1 ⟨x,H1,I1,r1,q1⟩=>?_) hs hw
 rw[h1]
 exact thn (hg pins s1 σ H1 x v _ I1 r1 q1) fun _ s2 q=>q
theorem ps_set{i:Nat}{x:Str}{e:Expr}{te:TE}{pos':Pos}(hN:X.N.Nodup)(hi:X.N[i]?=some x)(hx:Loc X.env.scope x)(he:PE X e te)(hs:swapsWith e (some (.Name x pos')) pos.line X.env=pure false:=by rfl)(hf:X.fn x=true\/X.env.scope.names.lookup x=some .local:=by first|exact .inl rfl|exact .inr rfl|assumption) :
  PS X (.Assign [.Name x pos'] e pos) (tAsg te (gName i)):=by
 intro pins s σ H D I h
 refine wpAny_Assign_Name (thn (he pins s σ H _ I h) fun v s1 ⟨y,H1,I1,r1,q1⟩=>?_) hs
 exact store_ok I1 hN hi hx r1 (fun s2 I2=>⟨_,H1,I2,q1⟩) hf
def tAug(i:Nat)(te:TE)(ti:TIp):TS:=fun D σ H=>∃x,σ[i]?=some (some x)/\te σ H fun y H1=>ti x y H1 fun z H2=>D.nx (σ.set i (some z)) H2
theorem ps_aug{i:Nat}{x:Str}{e:Expr}{te:TE}{op:Operator}{ti:TIp}{pos':Pos}(hN:X.N.Nodup)(hi:X.N[i]?=some x)(hx:Loc X.env.scope x)(he:PE X e te)(ho:PIp X op ti)(hf:X.fn x=true\/X.env.scope.names.lookup x=some .local:=by first|exact .inl rfl|exact .inr rfl|assumption) :
  PS X (.AugAssign (.Name x pos') op e pos) (tAug i te ti):=by
 intro pins s σ H D I h
 obtain⟨v,e1,h⟩:=h
 obtain⟨m,hn,hl⟩:=I.loc
 have vis:Vis X.env.scope x:=by rcases hx with k|k;exact .inl k;exact .inr (.inl k)
 obtain⟨u,r,l⟩:=hl i x v hi e1 vis
 refine wpAny_AugAssign_Name ?_
 have go:wpAny (model X.prog X.w) X.A (eval e X.env) (fun w s₂=>wpAny (model X.prog X.w) X.A (inplaceOp op u w) (fun r s₃=>wpAny (model X.prog X.w) X.A (storeName X.env x r) (fun _=>SP X pins D .next) X.xe s₃) X.xe s₂) X.xe s:=by
  refine thn (he pins s σ H _ I h) fun w s1 ⟨y,H1,I1,r1,q1⟩=>?_
  refine thn (ho pins s1 σ H1 v y u w _ I1 r r1 q1) fun z s2 ⟨zv,H2,I2,r2,q2⟩=>?_
  exact store_ok I2 hN hi hx r2 (fun s3 I3=>⟨_,H2,I3,q2⟩) hf
 rcases l with⟨hk,hm⟩|⟨hk,c,hc,hcell⟩
 ·exact wpAny_loadName_local I.ok.kind hk hn hm go
 ·rcases hk with hk|hk
  ·exact wpAny_loadName_cell I.ok.kind hk hc hcell go
  ·rcases hx with k|k
   ·have:X.env.scope.names.lookup x=some .free:=hk
    rw[k]at this;cases this
   ·have:X.env.scope.names.lookup x=some .free:=hk
    rw[k]at this;cases this
def ipI(f:Int->Int->Int):TIp:=fun x y H Q=>∃i j,x=.int i/\y=.int j/\Q (.int (f i j)) H
theorem ip_add:PIp X .Add (ipI fun i j=>i+j):=by
 intro pins s σ H x y v u Q I r1 r2 h
 obtain⟨i,j,e1,e2,q⟩:=h
 subst e1;subst e2
 obtain⟨t,rfl⟩:=r1
 obtain⟨t',rfl⟩:=r2
 exact iadd_int ⟨.int _,H,I.tok _,⟨_,rfl⟩,q⟩
end
section
variable {X:Cx}{pos:Pos}
def tWhile(c:TT)(tb:TS):TS:=fun D σ H=>∃W:Nat->St->Hp->Prop,(∃m,W m σ H)/\∀m σ H,W m σ H ->
 c σ H fun b H1=>if b=true then ∃N:St->Hp->Prop,(∀σ' H',N σ' H'->∃m',m' < m/\W m' σ' H')/\tb {D with nx:=N,ct:=N,bk:=D.nx} σ H1 else D.nx σ H1
theorem ps_while{c:Expr}{body:List Stmt}{tc:TT}{tb:TS}(hp:PassesOwn (model X.prog X.w) X.A X.env X.xe)(hc:PT X c tc)(hb:PSs X body tb):PS X (.While c body [] pos) (tWhile tc tb):=by
 intro pins s σ H D I h
 obtain⟨W,⟨m0,w0⟩,turn⟩:=h
 refine wpAny_While (codeAny_whileLoop (fun n s'=>∃σ' H',Inv X pins σ' H' s'/\W n σ' H') ?_ m0 ⟨σ,H,I,w0⟩)
 rintro n s1 ⟨σ1,H1,I1,w1⟩
 refine wpAny_passesOwn hp (thn (hc pins s1 σ1 H1 _ I1 (turn n σ1 H1 w1)) fun b s2 ⟨H2,I2,q2⟩=>?_)
 cases b with
 |true =>
  obtain⟨N,hN,q2⟩:=q2
  rw[if_pos rfl]
  refine wpAny_passesOwn hp (thn (hb pins s2 σ1 H2 _ I2 q2) fun f s3 q3=>?_)
  cases f with
  |next =>
   obtain⟨σ3,H3,I3,n3⟩:=q3
   obtain⟨m',hm,w3⟩:=hN σ3 H3 n3
   exact⟨m',hm,σ3,H3,I3,w3⟩
  |cont =>
   obtain⟨σ3,H3,I3,n3⟩:=q3
   obtain⟨m',hm,w3⟩:=hN σ3 H3 n3
   exact⟨m',hm,σ3,H3,I3,w3⟩
  |brk=>exact q3
  |ret v=>exact q3
 |false =>
  rw[if_neg Bool.false_ne_true]
  exact wpAny_execs_nil ⟨σ1,H2,I2,q2⟩
end
structure It where
 go:Nat->Hp->Prop
 yld:Nat->Hp->V->Hp->Prop
 stop:Nat->Hp->Prop
def FpOk(X:Cx)(pins:List (Addr×Obj))(H:Hp)(b:Addr):Prop :=
 H b=none/\b≠X.env.locals/\b∉X.fs/\(b∈X.ex\/X.s₀.heap.objs.size<=b)/\(∀x c,X.env.cells.lookup x=some c->c≠b)/\∀p∈X.pn++pins,p.1≠b
theorem Inv.fpOk{X:Cx}{pins:List (Addr×Obj)}{σ:St}{H H':Hp}{s:Shared}{b:Addr}(I:Inv X pins σ H s)(hb:s.heap.objs.size<=b)(hn:H' b=none):FpOk X pins H' b:=by
 refine⟨hn,Nat.ne_of_gt (Nat.lt_of_lt_of_le I.lt hb),I.nofs hb,.inr (Nat.le_trans I.sz hb),fun x c e z=>?_,fun p hp z=>?_⟩
 ·obtain⟨v,q⟩:=I.cell x c e
  exact absurd (Nat.lt_of_lt_of_le q.lt (by rw[z];exact hb)) (Nat.lt_irrefl _)
 ·exact absurd (Nat.lt_of_lt_of_le (Heap.lt_size (I.pin p hp).1) (by rw[z];exact hb)) (Nat.lt_irrefl _)
structure Turn(P:Program) (w:World) (K:PySem.W.Frag) (tg:Expr) (J:It) (fp:List Addr) (it:Addr) (tn:Nat->Heap->Prop):Prop where
 mem:it∈fp
 obj:∀i h,tn i h->∀b∈fp,∃o,h.get? b=some o/\∀v,o.data≠.cell v
 keep:∀i h h',tn i h->(∀b∈fp,∀o,h.get? b=some o->h'.get? b=some o)->tn i h'
 item:∀(X:Cx),X.prog=P->X.w=w->X.K=K->X.calm=true->∀(i:Nat) (pins:List (Addr×Obj)) (s:Shared) (σ:St) (H:Hp) (E:Value->Shared->Prop),Inv X pins σ H s->(∀b∈fp,FpOk X pins H b)->tn i s.heap->J.go i H ->
  wpAny (model P w) X.A (pyNext (.ref it)) (fun r s1=>∃u,r=some u /\
   wpAny (model P w) X.A (letOwnedTupleGo tg (.ref it) u) (fun _ s2=>∃x H',Inv X pins σ H' s2/\RelV x u/\J.yld i H x H'/\tn (i+1) s2.heap/\∀b∈fp,H' b=none) E s1) E s
 done:∀(X:Cx),X.prog=P->X.w=w->X.K=K->X.calm=true->∀(i:Nat) (pins:List (Addr×Obj)) (s:Shared) (σ:St) (H:Hp) (E:Value->Shared->Prop),Inv X pins σ H s->(∀b∈fp,FpOk X pins H b)->tn i s.heap->J.stop i H ->
  wpAny (model P w) X.A (pyNext (.ref it)) (fun r s1=>r=none/\Inv X pins σ H s1) E s
 self:∀(A:Around) (i:Nat) (s:Shared) (Q:Value->Shared->Prop) (E:Value->Shared->Prop),tn i s.heap->Q (.ref it) s->wpAny (model P w) A (pyIter (.ref it)) Q E s
abbrev TI:=St->Hp->(It->Hp->Prop)->Prop
def PIE(X:Cx)(pins:List (Addr×Obj))(σ:St)(tg:Expr)(R:It->Hp->Prop)(itv:Value)(s2:Shared):Prop :=
 ∃(it:Addr) (fp:List Addr) (tn:Nat->Heap->Prop) (J:It) (H':Hp),itv=.ref it/\Inv X pins σ H' s2/\Turn X.prog X.w X.K tg J fp it tn/\tn 0 s2.heap/\(∀b∈fp,FpOk X pins H' b)/\R J H'
def PI(X:Cx)(tg iter:Expr)(wi:TI):Prop :=
 ∀(pins:List (Addr×Obj)) (s:Shared) (σ:St) (H:Hp) (R:It->Hp->Prop),Inv X pins σ H s->wi σ H R ->
  wpAny (model X.prog X.w) X.A (eval iter X.env) (fun v s1=>wpAny (model X.prog X.w) X.A (pyIter v) (PIE X pins σ tg R) X.xe s1) X.xe s
theorem go_of {M : Model} {A : Around} {E : Value → Shared → Prop} {s : Shared} {tg : Expr} {it : Addr} {u : Value} {o : Obj} {n : String} {vs : Array Value} {Q : Unit → Shared → Prop} (ho : s.heap.get? it = some o) (hc : o.cls = .type n) (hd : o.data = .fields vs)
    (hn : ["enumerate", "zip", "dict_itemiterator", "dict_reverseitemiterator", "odict_iterator", "itertools.zip_longest", "itertools.pairwise"].contains n = false) (hQ : Q () s) : wpAny M A (letOwnedTupleGo tg (.ref it) u) Q E s := by
  unfold letOwnedTupleGo
  cases tg <;> first
    | exact wpAny_pure hQ
    | (cases u <;> first
        | exact wpAny_pure hQ
        | (refine wpAny_bind (wpAny_load ho ?_)
           rw [hc, hd]
           show wpAny M A (if (["enumerate", "zip", "dict_itemiterator", "dict_reverseitemiterator", "odict_iterator", "itertools.zip_longest", "itertools.pairwise"].contains n && vs[0]? == some (rawInt _)) = true then _ else _) Q E s
           rw [if_neg (by intro h; rw [hn, Bool.false_and] at h; cases h)]
           exact wpAny_pure hQ))
def Itl(K:PySem.W.Frag)(a:Addr):It :=
 ⟨fun i H=>∃xs x,SqL K H a xs/\xs[i]?=some x,fun i H x H'=>H'=H/\∀xs,SqL K H a xs->xs[i]?=some x,fun i H=>∃xs,SqL K H a xs/\xs.length<=i⟩
def Itr(lo:Int)(n:Nat):It:=⟨fun i _=>i<n,fun i H x H'=>H'=H/\x=.int (lo+i),fun i _=>n<=i⟩
theorem turn_list{P:Program}{w:World}{K:PySem.W.Frag}{tg:Expr}(a it:Addr):Turn P w K tg (Itl K a) [it] it (fun i h=>h.IsListIter it a i) where
 mem:=by simp
 obj:=fun i h st b hb=>by
  have e:b=it:=by simpa using hb
  subst e
  obtain⟨o,e,c,d⟩:=st
  exact⟨o,e,fun v z=>by rw[d]at z;cases z⟩
 keep:=fun i h h' st k=>st.at fun o e=>k it (by simp) o e
 item:=by
  intro X hP hw hK hc i pins s σ H E I hf st hg
  subst hP hw hK
  obtain⟨xs,x,hq,hx⟩:=hg
  obtain⟨its,rv,p,hz⟩:=I.list hq
  obtain⟨u,hu,ru⟩:=rv.get hx
  obtain⟨f0,f1,f2,f3,f4,f5⟩:=hf it (by simp)
  refine wpAny_pyNext_list_item st p.isList (x:=u) (by simpa using hu) fun h' st' sb=>?_
  have I1:Inv X pins σ H {s with heap:=h'}:=I.turned (t':=s.toks) (fun b o hb e=>(sb.2 b hb).trans e) f0 f1 f3 f4 f5
  obtain⟨o,e,c,d⟩:=id st'
  exact⟨u,rfl,go_of (s:={s with heap:=h'}) e c d (by decide) ⟨x,H,I1,ru,⟨rfl,fun ys hy=>by rw[I.list_inj hy hq];exact hx⟩,st',fun b hb=>(hf b hb).1⟩⟩
 done:=by
  intro X hP hw hK hc i pins s σ H E I hf st hg
  subst hP hw hK
  obtain⟨xs,hq,hx⟩:=hg
  obtain⟨its,rv,p,hz⟩:=I.list hq
  obtain⟨f0,f1,f2,f3,f4,f5⟩:=hf it (by simp)
  have hl:=rv.length
  exact wpAny_pyNext_list_end (I.ok.hd hc) st p.isList (by simp;omega) fun h' eb=>⟨rfl,I.turned (t':=s.toks) (fun b o hb e=>eb b o hb e) f0 f1 f3 f4 f5⟩
 self:=fun _ _ _ _ _ st h=>wpAny_pyIter_listiter st h
theorem turn_range{P:Program}{w:World}{K:PySem.W.Frag}{tg:Expr}(it:Addr)(lo:Int)(n:Nat):Turn P w K tg (Itr lo n) [it] it (fun i h=>IsRangeIter h it (lo+(i:Nat)*1) ((n:Int) - (i:Nat)) 1) where
 mem:=by simp
 obj:=fun i h st b hb=>by
  have e:b=it:=by simpa using hb
  subst e
  exact⟨_,st,fun v z=>by
   have z':Data.fields _=Data.cell v:=z
   cases z'⟩
 keep:=fun i h h' st k=>k it (by simp) _ st
 item:=by
  intro X hP hw hK hc i pins s σ H E I hf st hg
  subst hP hw hK
  obtain⟨f0,f1,f2,f3,f4,f5⟩:=hf it (by simp)
  have W:=Walks.range (prog:=X.prog) (w:=X.w) (I.ok.hd hc) it lo 1 n
  refine W.item i s _ _ hg st fun v h' tk hv st' kk=>?_
  obtain⟨t,rfl⟩:=hv
  have I1:Inv X pins σ H {s with heap:=h',toks:=tk}:=I.turned (fun b o hb e=>kk b o (by simpa using hb) e) f0 f1 f3 f4 f5
  refine⟨_,rfl,go_of (s:={s with heap:=h',toks:=tk}) (n:="range_iterator") st' rfl rfl (by decide) ⟨.int (lo+i),H,I1,⟨t,?_⟩,⟨rfl,rfl⟩,st',fun b hb=>(hf b hb).1⟩⟩
  rw[Int.mul_one]
 done:=by
  intro X hP hw hK hc i pins s σ H E I hf st hg
  subst hP hw hK
  obtain⟨f0,f1,f2,f3,f4,f5⟩:=hf it (by simp)
  exact wpAny_pyNext_range_end (I.ok.hd hc) st (by have:n<=i:=hg;omega) fun h' eb=>⟨rfl,I.turned (t':=s.toks) (fun b o hb e=>eb b o hb e) f0 f1 f3 f4 f5⟩
 self:=fun _ _ _ _ _ st h=>wpAny_pyIter_rangeiter st h
section
variable {X:Cx}{tg:Expr}
def iList(K:PySem.W.Frag)(tl:TE):TI:=fun σ H R=>tl σ H fun x H1=>∃a,x=.ref a/\(∃xs,SqL K H1 a xs)/\R (Itl K a) H1
theorem pi_list{l:Expr}{tl:TE}(hl:PE X l tl):PI X tg l (iList X.K tl):=by
 intro pins s σ H R I h
 refine thn (hl pins s σ H _ I h) fun v s1 ⟨x,H1,I1,r1,q1⟩=>?_
 obtain⟨a,e,⟨xs,hq⟩,q⟩:=q1
 subst e
 cases r1
 obtain⟨its,rv,p,hz⟩:=I1.list hq
 refine wpAny_pyIter_list p.isList ?_
 refine⟨s1.heap.objs.size,[s1.heap.objs.size],_,_,H1,rfl,I1.kept (t':=s1.toks) fun b o e=>Heap.get?_push_of_some _ e,turn_list a _,⟨_,Heap.get?_push_size _ rfl,rfl,rfl⟩,fun b hb=>?_,q⟩
 have e:b=s1.heap.objs.size:=by simpa using hb
 subst e
 exact I1.fpOk (Nat.le_refl _) (I1.hok.fresh (Nat.le_refl _))
theorem range_it{pins:List (Addr×Obj)}{σ:St}{H:Hp}{s:Shared}{R:It->Hp->Prop}{E:Value->Shared->Prop}{lo hi:Int}{t u v:Tok}{tk:Nat}(I:Inv X pins σ H s)(h1:-(2 ^ 62)<=lo)(h2:lo<2 ^ 62)(h3:-(2 ^ 62)<=hi)(h4:hi<2 ^ 62)
  (q:R (Itr lo (hi-lo).toNat) H):wpAny (model X.prog X.w) X.A (pyIter (.ref s.heap.objs.size)) (PIE X pins σ tg R) E {s with heap:=s.heap.push {cls:=.type "range",data:=.fields #[.int lo t,.int hi u,.int 1 v]},toks:=tk}:=by
 refine wpAny_pyIter_range (IsRange.new ..) (small_one h1 h2 h3 h4) ?_
 have I1:Inv X pins σ H {s with heap:=s.heap.push {cls:=.type "range",data:=.fields #[.int lo t,.int hi u,.int 1 v]},toks:=tk}:=I.kept fun b o e=>Heap.get?_push_of_some _ e
 refine⟨(s.heap.push {cls:=.type "range",data:=.fields #[.int lo t,.int hi u,.int 1 v]}).objs.size,[(s.heap.push {cls:=.type "range",data:=.fields #[.int lo t,.int hi u,.int 1 v]}).objs.size],_,_,H,rfl,
  I1.kept (t':=tk) fun b o e=>Heap.get?_push_of_some _ e,turn_range _ lo (hi-lo).toNat,?_,fun b hb=>?_,q⟩
 ·have e1:lo+((0:Nat):Int)*1=lo:=by simp
  have e2:(((hi-lo).toNat:Nat):Int) - ((0:Nat):Int)=Builtin.Range.rangeSize lo hi 1:=by rw[rangeSize_one];split<;>omega
  show IsRangeIter _ _ (lo+((0:Nat):Int)*1) ((((hi-lo).toNat:Nat):Int) - ((0:Nat):Int)) 1
  rw[e1,e2]
  exact Heap.get?_push_size _ rfl
 ·have e:b=(s.heap.push {cls:=.type "range",data:=.fields #[.int lo t,.int hi u,.int 1 v]}).objs.size:=by simpa using hb
  subst e
  exact I1.fpOk (Nat.le_refl _) (I1.hok.fresh (Nat.le_refl _))
def iRng1(ta:TA):TI:=fun σ H R=>ta σ H fun vs H1=>∃j:Int,vs=[.int j]/\-(2 ^ 62)<=j/\j<2 ^ 62/\R (Itr 0 j.toNat) H1
theorem pi_range1{a:Expr}{ta:TA}{p pos:Pos}(hg:Gl X "range")(hm:X.mg "range"=none)(ha:PA X [a] ta)(hs:starEach [a] X.env=[(false,eval a X.env)]:=by rfl):PI X tg (.Call (.Name "range" p) [a] [] pos) (iRng1 ta):=by
 intro pins s σ H R I h
 refine Call_ (ld_blt I hg hm boot_range (PyProof.Rows.callWith_type1 (thn (ha pos pins s σ H _ I h) fun us s1 ⟨vs,H1,I1,r1,q1⟩=>?_) hs rfl))
 obtain⟨j,e,q1,q2,q⟩:=q1
 subst e
 cases r1 with
 |cons r rr =>
  cases rr
  obtain⟨t,rfl⟩:=r
  exact call_range_1 (range_it I1 (by omega) (by omega) q1 q2 (by simpa using q))
def tFor(wi:TI)(g:TG)(tb:TS):TS:=fun D σ H=>wi σ H fun J H1=>∃W:Nat->Nat->St->Hp->Prop,(∃m,W 0 m σ H1)/\∀i m σ H,W i m σ H ->
 (J.stop i H/\D.nx σ H)\/(J.go i H/\∃N:St->Hp->Prop,(∀σ' H',N σ' H'->∃m',m' < m/\W (i+1) m' σ' H')/\∀x H',J.yld i H x H'->g x σ H' fun σ2 H2=>tb {D with nx:=N,ct:=N,bk:=D.nx} σ2 H2)
def pinsAt(fp:List Addr)(h:Heap):List (Addr×Obj):=fp.filterMap fun b=>(h.get? b).map fun o=>(b,o)
theorem mem_pinsAt{fp:List Addr}{h:Heap}{b:Addr}{o:Obj}(hb:b∈fp)(e:h.get? b=some o):(b,o)∈pinsAt fp h:=List.mem_filterMap.mpr ⟨b,hb,by rw[e];rfl⟩
theorem of_pinsAt{fp:List Addr}{h:Heap}{p:Addr×Obj}(hp:p∈pinsAt fp h):p.1∈fp/\h.get? p.1=some p.2:=by
 obtain⟨b,hb,e⟩:=List.mem_filterMap.mp hp
 cases q:h.get? b with
 |none=>rw[q]at e;cases e
 |some o =>
  rw[q]at e
  have e':(b,o)=p:=Option.some.inj e
  subst e'
  exact⟨hb,q⟩
theorem Inv.pinned{pins:List (Addr×Obj)}{σ:St}{H:Hp}{s:Shared}{fp:List Addr}(I:Inv X pins σ H s)(hf:∀b∈fp,FpOk X pins H b)(ho:∀b∈fp,∃o,s.heap.get? b=some o/\∀v,o.data≠.cell v):Inv X (pins++pinsAt fp s.heap) σ H s :=
 I.pins_of fun p hp=>(List.mem_append.mp hp).elim (fun z=>I.pin p (List.mem_append_right _ z)) fun z=>by
  obtain⟨hb,e⟩:=of_pinsAt z
  obtain⟨f0,f1,f2,_⟩:=hf p.1 hb
  obtain⟨o,e',d⟩:=ho p.1 hb
  rw[e]at e';cases e'
  exact⟨e,f0,f1,f2,d⟩
theorem Inv.unpinned{pins pl:List (Addr×Obj)}{σ:St}{H:Hp}{s:Shared}(I:Inv X (pins++pl) σ H s):Inv X pins σ H s:=I.pins_of fun p hp=>I.pin p (List.mem_append_right _ (List.mem_append_left _ hp))
theorem ps_for{iter:Expr}{body:List Stmt}{wi:TI}{g:TG}{tb:TS}{pos:Pos}(hp:PassesOwn (model X.prog X.w) X.A X.env X.xe)(hc:X.calm=true)(hi:PI X tg iter wi)(hg:PG X tg g)(hb:PSs X body tb)
  (hs:∀x,foldedSetIterable iter X.env x=pure x:=by intro _;rfl):PS X (.For tg iter body [] pos) (tFor wi g tb):=by
 intro pins s σ H D I h
 refine wpAny_For (thn (hi pins s σ H _ I h) fun v s1 h1=>thn h1 fun itv s2 h2=>?_) hs
 obtain⟨it,fp,tn,J,H2,e,I2,T,st2,f2,W,⟨m0,w0⟩,turn⟩:=h2
 subst e
 -- what stays true of the iterator's objects through the loop
 have stat:∀{H':Hp},(∀b∈fp,H' b=none)->∀b∈fp,FpOk X pins H' b:=fun hn b hb=>⟨hn b hb,(f2 b hb).2⟩
 refine codeAny_forLoop_any (fun n s'=>∃i σ' H',Inv X pins σ' H' s'/\tn i s'.heap/\(∀b∈fp,H' b=none)/\W i n σ' H') ?_ m0 ⟨0,σ,H2,I2,st2,fun b hb=>(f2 b hb).1,w0⟩
 rintro n s3 ⟨i,σ3,H3,I3,st3,fr3,w3⟩
 rcases turn i n σ3 H3 w3 with⟨stop,qn⟩|⟨go,N,hN,step⟩
 ·refine wpAny_passesOwn hp (thn (T.done X rfl rfl rfl hc i pins s3 σ3 H3 X.xe I3 (stat fr3) st3 stop) fun r s4 ⟨hr,I4⟩=>?_)
  subst hr
  exact wpAny_execs_nil ⟨σ3,H3,I4,qn⟩
 ·refine wpAny_passesOwn hp (thn (T.item X rfl rfl rfl hc i pins s3 σ3 H3 X.xe I3 (stat fr3) st3 go) fun r s4 ⟨u,hr,h4⟩=>?_)
  subst hr
  refine wpAny_passesOwn hp (thn h4 fun _ s5 ⟨x,H5,I5,r5,y5,st5,fr5⟩=>?_)
  have I5':=I5.pinned (stat fr5) (T.obj _ _ st5)
  refine wpAny_passesOwn hp (thn (hg _ s5 σ3 H5 x u _ I5' r5 (step x H5 y5)) fun _ s6 ⟨σ6,H6,I6,q6⟩=>?_)
  refine wpAny_passesOwn hp (thn (hb _ s6 σ6 H6 _ I6 q6) fun f s7 q7=>?_)
  have again:∀{σ7:St}{H7:Hp},Inv X (pins++pinsAt fp s5.heap) σ7 H7 s7->N σ7 H7->∃m,m<n/\∃i σ' H',Inv X pins σ' H' s7/\tn i s7.heap/\(∀b∈fp,H' b=none)/\W i m σ' H':=fun{σ7 H7} I7 n7=>by
   obtain⟨m',hm,w7⟩:=hN σ7 H7 n7
   refine⟨m',hm,i+1,σ7,H7,I7.unpinned,T.keep _ _ _ st5 fun b hb o e=>(I7.pin (b,o) (List.mem_append_right _ (List.mem_append_right _ (mem_pinsAt hb e)))).1,fun b hb=>?_,w7⟩
   obtain⟨o,e,d⟩:=T.obj _ _ st5 b hb
   exact(I7.pin (b,o) (List.mem_append_right _ (List.mem_append_right _ (mem_pinsAt hb e)))).2.1
  cases f with
  |next=>obtain⟨σ7,H7,I7,n7⟩:=q7;exact again I7 n7
  |cont=>obtain⟨σ7,H7,I7,n7⟩:=q7;exact again I7 n7
  |brk=>obtain⟨σ7,H7,I7,q7⟩:=q7;exact⟨σ7,H7,I7.unpinned,q7⟩
  |ret v=>obtain⟨x7,σ7,H7,I7,r7,q7⟩:=q7;exact⟨x7,σ7,H7,I7.unpinned,r7,q7⟩
end
theorem for_list{K:PySem.W.Frag}{a:Addr}{xs:List V}{g:TG}{tb:TS}{D:Ends}{σ:St}{H:Hp}(Pv:Nat->St->Hp->Prop)(h0:Pv 0 σ H)(hl:∀i σ H,i<=xs.length->Pv i σ H->SqL K H a xs)
  (hs:∀i x σ H,xs[i]?=some x->Pv i σ H->g x σ H fun σ2 H2=>tb {D with nx:=Pv (i+1),ct:=Pv (i+1),bk:=D.nx} σ2 H2) (hd:∀σ H,Pv xs.length σ H->D.nx σ H) :
  ∃W:Nat->Nat->St->Hp->Prop,(∃m,W 0 m σ H)/\∀i m σ H,W i m σ H ->
   ((Itl K a).stop i H/\D.nx σ H)\/((Itl K a).go i H/\∃N:St->Hp->Prop,(∀σ' H',N σ' H'->∃m',m' < m/\W (i+1) m' σ' H')/\∀x H',(Itl K a).yld i H x H'->g x σ H' fun σ2 H2=>tb {D with nx:=N,ct:=N,bk:=D.nx} σ2 H2):=by
 refine⟨fun i m σ H=>m=xs.length-i/\i<=xs.length/\Pv i σ H,⟨xs.length,by simp,Nat.zero_le _,h0⟩,?_⟩
 rintro i m σ H ⟨rfl,hi,p⟩
 have q:=hl i σ H hi p
 by_cases hlt:i<xs.length
 ·refine .inr ⟨⟨xs,xs[i],q,by simp[hlt]⟩,Pv (i+1),fun σ' H' p'=>⟨xs.length - (i+1),by omega,rfl,hlt,p'⟩,fun x H' y=>?_⟩
  obtain⟨e,y⟩:=y
  subst e
  exact hs i x σ _ (y xs q) p
 ·have e:i=xs.length:=by omega
  subst e
  exact .inl ⟨⟨xs,q,Nat.le_refl _⟩,hd σ H p⟩
theorem for_range{lo:Int}{n:Nat}{g:TG}{tb:TS}{D:Ends}{σ:St}{H:Hp}(Pv:Nat->St->Hp->Prop)(h0:Pv 0 σ H)
  (hs:∀i σ H,i<n->Pv i σ H->g (.int (lo+i)) σ H fun σ2 H2=>tb {D with nx:=Pv (i+1),ct:=Pv (i+1),bk:=D.nx} σ2 H2) (hd:∀σ H,Pv n σ H->D.nx σ H) :
  ∃W:Nat->Nat->St->Hp->Prop,(∃m,W 0 m σ H)/\∀i m σ H,W i m σ H ->
   ((Itr lo n).stop i H/\D.nx σ H)\/((Itr lo n).go i H/\∃N:St->Hp->Prop,(∀σ' H',N σ' H'->∃m',m' < m/\W (i+1) m' σ' H')/\∀x H',(Itr lo n).yld i H x H'->g x σ H' fun σ2 H2=>tb {D with nx:=N,ct:=N,bk:=D.nx} σ2 H2):=by
 refine⟨fun i m σ H=>m=n-i/\i<=n/\Pv i σ H,⟨n,by simp,Nat.zero_le _,h0⟩,?_⟩
 rintro i m σ H ⟨rfl,hi,p⟩
 by_cases hlt:i<n
 ·refine .inr ⟨hlt,Pv (i+1),fun σ' H' p'=>⟨n - (i+1),by omega,rfl,hlt,p'⟩,fun x H' y=>?_⟩
  obtain⟨e,y⟩:=y
  subst e y
  exact hs i σ _ hlt p
 ·have e:i=n:=by omega
  subst e
  exact .inl ⟨Nat.le_refl _,hd σ H p⟩
abbrev R2:=V->V->Hp->VK->Prop
def OpR(X:Cx)(f:Value->Value->Sem Value)(r:R2):Prop :=
 ∀(pins:List (Addr×Obj)) (s:Shared) (σ:St) (H:Hp) (x y:V) (v u:Value) (Q:VK),Inv X pins σ H s->RelV x v->RelV y u->r x y H Q ->
  wpAny (model X.prog X.w) X.A (f v u) (EP X pins σ Q) X.xe s
def UnR(X:Cx)(f:Value->Sem Value)(r:V->Hp->VK->Prop):Prop :=
 ∀(pins:List (Addr×Obj)) (s:Shared) (σ:St) (H:Hp) (x:V) (v:Value) (Q:VK),Inv X pins σ H s->RelV x v->r x H Q ->
  wpAny (model X.prog X.w) X.A (f v) (EP X pins σ Q) X.xe s
def CallR(X:Cx)(f:Value)(r:List V->Hp->VK->Prop):Prop :=
 ∀(pins:List (Addr×Obj)) (s:Shared) (σ:St) (H:Hp) (xs:List V) (us:List Value) (Q:VK),Inv X pins σ H s->Vals xs us->r xs H Q ->
  wpAny (model X.prog X.w) X.A (call f us) (EP X pins σ Q) X.xe s
def TruR(X:Cx)(r:V->Hp->(Bool->Hp->Prop)->Prop):Prop :=
 ∀(pins:List (Addr×Obj)) (s:Shared) (σ:St) (H:Hp) (x:V) (v:Value) (Q:Bool->Hp->Prop),Inv X pins σ H s->RelV x v->r x H Q ->
  wpAny (model X.prog X.w) X.A (truthy v) (TP X pins σ Q) X.xe s
def tOp(r:R2)(ta tb:TE):TE:=fun σ H Q=>ta σ H fun x H1=>tb σ H1 fun y H2=>r x y H2 Q
def tUn(r:V->Hp->VK->Prop)(ta:TE):TE:=fun σ H Q=>ta σ H fun x H1=>r x H1 Q
def rI(C:Int->Int->Prop)(g:Int->Int->V):R2:=fun x y H Q=>∃i j,x=.int i/\y=.int j/\C i j/\Q (g i j) H
def rI0(g:Int->Int->V):R2:=fun x y H Q=>∃i j,x=.int i/\y=.int j/\Q (g i j) H
def rU(g:Int->V):V->Hp->VK->Prop:=fun x H Q=>∃i,x=.int i/\Q (g i) H
section
variable {X:Cx}{a b c:Expr}{ta tb tc:TE}{pos:Pos}
theorem binT(ha:PE X a ta)(hb:PE X b tb){pins:List (Addr×Obj)}{s:Shared}{σ:St}{H:Hp}{R:V->V->Hp->Prop}(I:Inv X pins σ H s)
  (h:ta σ H fun x H1=>tb σ H1 fun y H2=>R x y H2) {Q:Value->Shared->Prop}{f:Value->Value->Sem Value}
  (hf:∀v u s2 x y H2,Inv X pins σ H2 s2->RelV x v->RelV y u->R x y H2->wpAny (model X.prog X.w) X.A (f v u) Q X.xe s2) :
  wpAny (model X.prog X.w) X.A (eval a X.env) (fun v s₁=>wpAny (model X.prog X.w) X.A (eval b X.env) (fun u s₂=>wpAny (model X.prog X.w) X.A (f v u) Q X.xe s₂) X.xe s₁) X.xe s:=by
 refine thn (ha pins s σ H _ I h) fun v s1 ⟨x,H1,I1,r1,q1⟩=>?_
 refine thn (hb pins s1 σ H1 _ I1 q1) fun u s2 ⟨y,H2,I2,r2,q2⟩=>?_
 exact hf v u s2 x y H2 I2 r1 r2 q2
theorem pe_op{op:Operator}{r:R2}(ho:OpR X (binaryOp op) r)(ha:PE X a ta)(hb:PE X b tb):PE X (.BinOp a op b pos) (tOp r ta tb):=by
 intro pins s σ H Q I h
 exact wpAny_BinOp (binT ha hb I h fun v u s2 x y H2 I2 rx ry q=>ho pins s2 σ H2 x y v u Q I2 rx ry q)
theorem pe_un{op:UnaryOp}{r:V->Hp->VK->Prop}(ho:UnR X (unaryOp op) r)(ha:PE X a ta):PE X (.UnaryOp op a pos) (tUn r ta):=by
 intro pins s σ H Q I h
 exact UnaryOp_ (thn (ha pins s σ H _ I h) fun v s1 ⟨x,H1,I1,r1,q1⟩=>ho pins s1 σ H1 x v Q I1 r1 q1)
theorem opI{f:Value->Value->Sem Value}{C:Int->Int->Prop}{g:Int->Int->Int}
  (rule:∀(i j:Int) (t u:Tok) (s:Shared) (Q:Value->Shared->Prop) (E:Value->Shared->Prop),C i j->Q (.int (g i j) s.toks) {s with toks:=s.toks+1}->wpAny (model X.prog X.w) X.A (f (.int i t) (.int j u)) Q E s) :
  OpR X f (rI C fun i j=>.int (g i j)):=by
 intro pins s σ H x y v u Q I rx ry h
 obtain⟨i,j,rfl,rfl,hc,q⟩:=h
 obtain⟨t,rfl⟩:=rx
 obtain⟨t',rfl⟩:=ry
 exact rule i j t t' s _ _ hc ⟨.int (g i j),H,I.tok _,⟨_,rfl⟩,q⟩
theorem opI0{f:Value->Value->Sem Value}{g:Int->Int->Int}
  (rule:∀(i j:Int) (t u:Tok) (s:Shared) (Q:Value->Shared->Prop) (E:Value->Shared->Prop),Q (.int (g i j) s.toks) {s with toks:=s.toks+1}->wpAny (model X.prog X.w) X.A (f (.int i t) (.int j u)) Q E s) :
  OpR X f (rI0 fun i j=>.int (g i j)):=by
 intro pins s σ H x y v u Q I rx ry h
 obtain⟨i,j,rfl,rfl,q⟩:=h
 obtain⟨t,rfl⟩:=rx
 obtain⟨t',rfl⟩:=ry
 exact rule i j t t' s _ _ ⟨.int (g i j),H,I.tok _,⟨_,rfl⟩,q⟩
theorem opB0{f:Value->Value->Sem Value}{g:Int->Int->Bool}
  (rule:∀(i j:Int) (t u:Tok) (s:Shared) (Q:Value->Shared->Prop) (E:Value->Shared->Prop),Q (.bool (g i j)) s->wpAny (model X.prog X.w) X.A (f (.int i t) (.int j u)) Q E s) :
  OpR X f (rI0 fun i j=>.bl (g i j)):=by
 intro pins s σ H x y v u Q I rx ry h
 obtain⟨i,j,rfl,rfl,q⟩:=h
 obtain⟨t,rfl⟩:=rx
 obtain⟨t',rfl⟩:=ry
 exact rule i j t t' s _ _ ⟨.bl (g i j),H,I,rfl,q⟩
def CDiv(i j:Int):Prop:=0<j/\j<1073741824
def CPow(i j:Int):Prop:=0<=j/\j<=1000000/\i.natAbs<2 ^ 64
def CMul(i j:Int):Prop:=(-(2 ^ 64)<i/\i<2 ^ 64)\/(-(2 ^ 64)<j/\j<2 ^ 64)
theorem CMul.ok{i j:Int}(h:CMul i j):IntMulOk i j:=by
 rcases h with⟨h1,h2⟩|⟨h1,h2⟩
 ·exact .of_left (intBits_le_64 h1 h2)
 ·exact .of_right (intBits_le_64 h1 h2)
theorem op_add:OpR X (binaryOp .Add) (rI0 fun i j=>.int (i+j)):=opI0 fun _ _ _ _ _ _ _ q=>add_int q
theorem op_sub:OpR X (binaryOp .Sub) (rI0 fun i j=>.int (i-j)):=opI0 fun _ _ _ _ _ _ _ q=>sub_int q
theorem op_mul:OpR X (binaryOp .Mult) (rI CMul fun i j=>.int (i*j)):=opI fun _ _ _ _ _ _ _ hc q=>mul_int q hc.ok
theorem op_fdiv:OpR X (binaryOp .FloorDiv) (rI CDiv fun i j=>.int (i / j)):=opI fun i j _ _ _ _ _ hc q=>by
 have h1:(0:Int)<j:=hc.1
 have h2:j<1073741824:=hc.2
 exact floordiv_int (by omega) (by rw[Int.fdiv_eq_ediv_of_nonneg i (by omega)];exact q) (.inl (PyProof.noPylong_small (by omega)))
theorem op_mod:OpR X (binaryOp .Mod) (rI (fun _ j=>0<j) fun i j=>.int (i % j)):=opI fun i j _ _ _ _ _ hc q=>by
 have h1:(0:Int)<j:=hc
 exact mod_int' (by omega) (by rw[Int.fmod_eq_emod_of_nonneg i (by omega)];exact q)
theorem op_pow:OpR X (binaryOp .Pow) (rI CPow fun i j=>.int (i ^ j.toNat)):=opI fun _ _ _ _ _ _ _ hc q=>pow_int_small hc.1 hc.2.1 hc.2.2 q
theorem unI{f:Value->Sem Value}{g:Int->Int}
  (rule:∀(i:Int) (t:Tok) (s:Shared) (Q:Value->Shared->Prop) (E:Value->Shared->Prop),Q (.int (g i) s.toks) {s with toks:=s.toks+1}->wpAny (model X.prog X.w) X.A (f (.int i t)) Q E s) :
  UnR X f (rU fun i=>.int (g i)):=by
 intro pins s σ H x v Q I rx h
 obtain⟨i,rfl,q⟩:=h
 obtain⟨t,rfl⟩:=rx
 exact rule i t s _ _ ⟨.int (g i),H,I.tok _,⟨_,rfl⟩,q⟩
theorem un_neg:UnR X (unaryOp .USub) (rU fun i=>.int (-i)):=unI fun _ _ _ _ _ q=>neg_int q
end
def scal:V->V->Bool
 |.non,.non=>true|.non,.int _=>true|.int _,.non=>true|.non,.bl _=>true|.bl _,.non=>true|.non,.str _=>true|.str _,.non=>true
 |.int _,.int _=>true|.bl _,.bl _=>true|.str _,.str _=>true|.byt _,.byt _=>true
 |.int _,.str _=>true|.str _,.int _=>true|.bl _,.str _=>true|.str _,.bl _=>true
 |_,_=>false
def rEq:R2:=fun x y H Q=>scal x y=true/\Q (.bl (decide (x=y))) H
def rNe:R2:=fun x y H Q=>scal x y=true/\Q (.bl (!decide (x=y))) H
theorem dec_int{i j:Int}:decide (V.int i=V.int j)=(i == j):=by
 rw[Bool.eq_iff_iff]
 simp
theorem dec_bl{i j:Bool}:decide (V.bl i=V.bl j)=(i == j):=by
 rw[Bool.eq_iff_iff]
 simp
theorem dec_str{i j:Str}:decide (V.str i=V.str j)=(i == j):=by
 rw[Bool.eq_iff_iff]
 simp
theorem dec_byt{i j:Array UInt8}:decide (V.byt i=V.byt j)=(i.toList == j.toList):=by
 rw[Bool.eq_iff_iff]
 cases i
 cases j
 simp
section
variable {X:Cx}{a b c:Expr}{ta tb tc:TE}{pos:Pos}
theorem fin_bl{pins:List (Addr×Obj)}{σ:St}{H:Hp}{s:Shared}{Q:VK}{k k':Bool}(I:Inv X pins σ H s)(q:Q (.bl k) H)(e:k=k'):EP X pins σ Q (.bool k') s:=by
 subst e
 exact⟨.bl k,H,I,rfl,q⟩
theorem op_eq:OpR X (compareOp .Eq) rEq:=by
 intro pins s σ H x y v u Q I rx ry h
 obtain⟨hs,q⟩:=h
 cases x with
 |non =>
  cases rx
  cases y with
  |non=>cases ry;exact PySem.EqNone.eq_none_none (fin_bl I q (by simp))
  |bl j=>cases ry;exact PySem.EqNone.eq_none_bool (fin_bl I q (by simp))
  |int j=>obtain⟨t',rfl⟩:=ry;exact PySem.EqNone.eq_none_int (fin_bl I q (by simp))
  |str j=>obtain⟨t',rfl⟩:=ry;exact PySem.EqNone.eq_none_str (fin_bl I q (by simp))
  |_=>exact absurd (show false=true from hs) Bool.false_ne_true
 |bl i =>
  cases rx
  cases y with
  |non=>cases ry;exact PySem.EqNone.eq_bool_none (fin_bl I q (by simp))
  |bl j=>cases ry;exact eq_bool (fin_bl I q dec_bl)
  |str j=>obtain⟨t',rfl⟩:=ry;exact PySem.EqMixed.eq_bool_str (fin_bl I q (by simp))
  |_=>exact absurd (show false=true from hs) Bool.false_ne_true
 |int i =>
  obtain⟨t,rfl⟩:=rx
  cases y with
  |non=>cases ry;exact PySem.EqNone.eq_int_none (fin_bl I q (by simp))
  |int j=>obtain⟨t',rfl⟩:=ry;exact eq_int (fin_bl I q dec_int)
  |str j=>obtain⟨t',rfl⟩:=ry;exact PySem.EqMixed.eq_int_str (fin_bl I q (by simp))
  |_=>exact absurd (show false=true from hs) Bool.false_ne_true
 |str i =>
  obtain⟨t,rfl⟩:=rx
  cases y with
  |non=>cases ry;exact PySem.EqNone.eq_str_none (fin_bl I q (by simp))
  |bl j=>cases ry;exact PySem.EqMixed.eq_str_bool (fin_bl I q (by simp))
  |int j=>obtain⟨t',rfl⟩:=ry;exact PySem.EqMixed.eq_str_int (fin_bl I q (by simp))
  |str j=>obtain⟨t',rfl⟩:=ry;exact eq_str (fin_bl I q dec_str)
  |_=>exact absurd (show false=true from hs) Bool.false_ne_true
 |byt i =>
  obtain⟨t,rfl⟩:=rx
  cases y with
  |byt j=>obtain⟨t',rfl⟩:=ry;exact PySem.W.eq_bytes (fin_bl I q dec_byt)
  |_=>exact absurd (show false=true from hs) Bool.false_ne_true
 |_=>cases y<;>exact absurd (show false=true from hs) Bool.false_ne_true
theorem op_ne:OpR X (compareOp .NotEq) rNe:=by
 intro pins s σ H x y v u Q I rx ry h
 obtain⟨hs,q⟩:=h
 cases x with
 |non =>
  cases rx
  cases y with
  |non=>cases ry;exact PySem.EqNone.ne_none_none (fin_bl I q (by simp))
  |bl j=>cases ry;exact PySem.EqNone.ne_none_bool (fin_bl I q (by simp))
  |int j=>obtain⟨t',rfl⟩:=ry;exact PySem.EqNone.ne_none_int (fin_bl I q (by simp))
  |str j=>obtain⟨t',rfl⟩:=ry;exact PySem.EqNone.ne_none_str (fin_bl I q (by simp))
  |_=>exact absurd (show false=true from hs) Bool.false_ne_true
 |bl i =>
  cases rx
  cases y with
  |non=>cases ry;exact PySem.EqNone.ne_bool_none (fin_bl I q (by simp))
  |bl j=>cases ry;exact ne_bool (fin_bl I q (congrArg not dec_bl))
  |str j=>obtain⟨t',rfl⟩:=ry;exact PySem.EqMixed.ne_bool_str (fin_bl I q (by simp))
  |_=>exact absurd (show false=true from hs) Bool.false_ne_true
 |int i =>
  obtain⟨t,rfl⟩:=rx
  cases y with
  |non=>cases ry;exact PySem.EqNone.ne_int_none (fin_bl I q (by simp))
  |int j=>obtain⟨t',rfl⟩:=ry;exact ne_int (fin_bl I q (congrArg not dec_int))
  |str j=>obtain⟨t',rfl⟩:=ry;exact PySem.EqMixed.ne_int_str (fin_bl I q (by simp))
  |_=>exact absurd (show false=true from hs) Bool.false_ne_true
 |str i =>
  obtain⟨t,rfl⟩:=rx
  cases y with
  |non=>cases ry;exact PySem.EqNone.ne_str_none (fin_bl I q (by simp))
  |bl j=>cases ry;exact PySem.EqMixed.ne_str_bool (fin_bl I q (by simp))
  |int j=>obtain⟨t',rfl⟩:=ry;exact PySem.EqMixed.ne_str_int (fin_bl I q (by simp))
  |str j=>obtain⟨t',rfl⟩:=ry;exact ne_str (fin_bl I q (congrArg not dec_str))
  |_=>exact absurd (show false=true from hs) Bool.false_ne_true
 |byt i =>
  obtain⟨t,rfl⟩:=rx
  cases y with
  |byt j=>obtain⟨t',rfl⟩:=ry;exact PySem.W.ne_bytes (fin_bl I q (congrArg not dec_byt))
  |_=>exact absurd (show false=true from hs) Bool.false_ne_true
 |_=>cases y<;>exact absurd (show false=true from hs) Bool.false_ne_true
theorem op_lt:OpR X (compareOp .Lt) (rI0 fun i j=>.bl (decide (i<j))):=opB0 fun _ _ _ _ _ _ _ q=>lt_int q
theorem op_le:OpR X (compareOp .LtE) (rI0 fun i j=>.bl (decide (i<=j))):=opB0 fun _ _ _ _ _ _ _ q=>le_int q
theorem op_gt:OpR X (compareOp .Gt) (rI0 fun i j=>.bl (decide (j<i))):=opB0 fun _ _ _ _ _ _ _ q=>gt_int q
theorem op_ge:OpR X (compareOp .GtE) (rI0 fun i j=>.bl (decide (j<=i))):=opB0 fun _ _ _ _ _ _ _ q=>ge_int q
theorem op_in_str:OpR X (compareOp .In) (fun x y H Q=>∃i j,x=.str i/\y=.str j/\Q (.bl (!(Builtin.Str.occurrences j i 0 j.length 1).isEmpty)) H):=by
 intro pins s σ H x y v u Q I rx ry h
 obtain⟨i,j,rfl,rfl,q⟩:=h
 obtain⟨t,rfl⟩:=rx
 obtain⟨t',rfl⟩:=ry
 exact in_str (fin_bl I q rfl)
theorem nomark(b:Expr){op:CmpOp}(h:op≠.In:=by decide)(h2:op≠.NotIn:=by decide):behindInMarks op b=false:=by
 have e1:(op == CmpOp.In)=false:=by cases op<;>first|rfl|exact absurd rfl h
 have e2:(op == CmpOp.NotIn)=false:=by cases op<;>first|rfl|exact absurd rfl h2
 cases b<;>simp[behindInMarks,e1,e2]
theorem pe_cmpR{op:CmpOp}{r:R2}(ho:OpR X (compareOp op) r)(ha:PE X a ta)(hb:PE X b tb)(hm:behindInMarks op b=false):PE X (.Compare a [op] [b] pos) (tOp r ta tb):=by
 intro pins s σ H Q I h
 exact wpAny_Compare1 (binT ha hb I h fun v u s2 x y H2 I2 rx ry q=>ho pins s2 σ H2 x y v u Q I2 rx ry q) hm
def tTest(t:TE):TT:=fun σ H Q=>t σ H fun x H'=>∃k,x=.bl k/\Q k H'
theorem pt_cmpR{op:CmpOp}{r:R2}(ho:OpR X (compareOp op) r)(ha:PE X a ta)(hb:PE X b tb)(hm:behindInMarks op b=false):PT X (.Compare a [op] [b] pos) (tTest (tOp r ta tb)):=by
 intro pins s σ H Q I h
 refine wpAny_isTrue_Compare1 (thn (ha pins s σ H _ I h) fun v s1 ⟨x,H1,I1,r1,q1⟩=>thn (hb pins s1 σ H1 _ I1 q1) fun u s2 ⟨y,H2,I2,r2,q2⟩ =>
  thn (ho pins s2 σ H2 x y v u _ I2 r1 r2 q2) fun c s3 ⟨z,H3,I3,r3,k,e,q3⟩=>?_) hm
 subst e
 cases r3
 exact wpAny_truthy_bool ⟨H3,I3,q3⟩
def tChain(r r':R2)(ta tb tc:TE):TE:=fun σ H Q=>ta σ H fun x H1=>tb σ H1 fun y H2=>r x y H2 fun z H3=>∃k,z=.bl k /\
 (if k=true then tc σ H3 fun w' H4=>r' y w' H4 Q else Q (.bl false) H3)
theorem pe_chain{op op':CmpOp}{r r':R2}(ho:OpR X (compareOp op) r)(ho':OpR X (compareOp op') r')(ha:PE X a ta)(hb:PE X b tb)(hc:PE X c tc)
  (hm:lastMarks [op,op'] [b,c]=false:=by with_unfolding_all rfl):PE X (.Compare a [op,op'] [b,c] pos) (tChain r r' ta tb tc):=by
 intro pins s σ H Q I h
 refine Compare_chain (thn (ha pins s σ H _ I h) fun v s1 ⟨x,H1,I1,r1,q1⟩=>chain_link (thn (hb pins s1 σ H1 _ I1 q1) fun u s2 ⟨y,H2,I2,r2,q2⟩ =>
  thn (ho pins s2 σ H2 x y v u _ I2 r1 r2 q2) fun d s3 ⟨z,H3,I3,r3,k,e,q3⟩=>?_)) hm
 subst e
 cases r3
 refine wpAny_truthy_bool ?_
 cases k with
 |false=>exact ite_ff ⟨.bl false,H3,I3,rfl,q3⟩
 |true=>exact ite_tt (chain_last (thn (hc pins s3 σ H3 _ I3 q3) fun w' s4 ⟨z',H4,I4,r4,q4⟩=>ho' pins s4 σ H4 y z' u w' Q I4 r2 r4 q4))
theorem pt_chain{op op':CmpOp}{r r':R2}(ho:OpR X (compareOp op) r)(ho':OpR X (compareOp op') r')(ha:PE X a ta)(hb:PE X b tb)(hc:PE X c tc)
  (hm:lastMarks [op,op'] [b,c]=false:=by with_unfolding_all rfl):PT X (.Compare a [op,op'] [b,c] pos) (tTest (tChain r r' ta tb tc)):=by
 intro pins s σ H Q I h
 refine isTrue_chain (thn (ha pins s σ H _ I h) fun v s1 ⟨x,H1,I1,r1,q1⟩=>test_link (thn (hb pins s1 σ H1 _ I1 q1) fun u s2 ⟨y,H2,I2,r2,q2⟩ =>
  thn (ho pins s2 σ H2 x y v u _ I2 r1 r2 q2) fun d s3 ⟨z,H3,I3,r3,k,e,q3⟩=>?_)) hm
 subst e
 cases r3
 refine wpAny_truthy_bool ?_
 cases k with
 |false =>
  obtain⟨k',e',q'⟩:=q3
  cases e'
  exact ite_ff ⟨H3,I3,q'⟩
 |true =>
  refine ite_tt (test_last (thn (hc pins s3 σ H3 _ I3 q3) fun w' s4 ⟨z',H4,I4,r4,q4⟩=>thn (ho' pins s4 σ H4 y z' u w' _ I4 r2 r4 q4) fun d' s5 ⟨z2,H5,I5,r5,k2,e2,q5⟩=>?_))
  subst e2
  cases r5
  exact wpAny_truthy_bool ⟨H5,I5,q5⟩
def TruV(K:PySem.W.Frag)(x:V)(H:Hp)(k:Bool):Prop :=
 match x with
 |.non=>k=false
 |.bl b=>k=b
 |.int i=>k=(i != 0)
 |.str y=>y.length<=sizeLine/\k=((y.length:Int) != 0)
 |.byt y=>y.size<=sizeLine/\k=((y.size:Int) != 0)
 |.ref p=>(∃xs,SqL K H p xs/\k=!xs.isEmpty)\/(∃xs,SqT K H p xs/\k=!xs.isEmpty)\/∃kvs,H p=some (.dK kvs)/\k=!kvs.isEmpty
 |_=>False
theorem isEmpty_kv{κ:Type}{kvs:List (κ×V)}{vs:List (κ×Value)}(r:KV kvs vs):(!vs.isEmpty)=!kvs.isEmpty:=by
 cases r<;>rfl
theorem isEmpty_of{xs:List V}{its:List Value}(r:Vals xs its):(!its.toArray.isEmpty)=!xs.isEmpty:=by
 cases r<;>simp
theorem line63:(sizeLine:Nat)<2 ^ 63:=by rw[sizeLine_eq];decide
theorem tru_ok:TruR X (fun x H Q=>∃k,TruV X.K x H k/\Q k H):=by
 intro pins s σ H x v Q I rx h
 obtain⟨k,e,q⟩:=h
 have hl:=line63
 have hs:sizeLine=16777216:=sizeLine_eq
 cases x with
 |non =>
  cases rx
  have e':k=false:=e
  subst e'
  exact truthy_none ⟨H,I,q⟩
 |bl b =>
  cases rx
  have e':k=b:=e
  subst e'
  exact wpAny_truthy_bool ⟨H,I,q⟩
 |int i =>
  obtain⟨t,rfl⟩:=rx
  have e':k=(i != 0):=e
  subst e'
  exact PySem.P.truthy_int ⟨H,I,q⟩
 |str y =>
  obtain⟨t,rfl⟩:=rx
  obtain⟨hy,e'⟩:y.length<=sizeLine/\k=((y.length:Int) != 0):=e
  subst e'
  exact PySem.P.truthy_str (by omega) ⟨H,I.tok _,q⟩
 |byt y =>
  obtain⟨t,rfl⟩:=rx
  obtain⟨hy,e'⟩:y.size<=sizeLine/\k=((y.size:Int) != 0):=e
  subst e'
  exact PySem.W.truthy_bytes (by omega) ⟨H,I.tok _,q⟩
 |ref p =>
  cases rx
  have e':(∃xs,SqL X.K H p xs/\k=!xs.isEmpty)\/(∃xs,SqT X.K H p xs/\k=!xs.isEmpty)\/∃kvs,H p=some (.dK kvs)/\k=!kvs.isEmpty:=e
  rcases e' with⟨xs,hx,e'⟩|⟨xs,hx,e'⟩|⟨kvs,hx,e'⟩
  ·subst e'
   obtain⟨its,r,pl,hz⟩:=I.list hx
   have hlen:=r.length
   exact wpAny_truthy_list pl.isList (by simp only[List.size_toArray];omega) ⟨H,I.tok _,by rw[isEmpty_of r];exact q⟩
  ·subst e'
   obtain⟨its,r,pl,hz⟩:=I.tuple hx
   have hlen:=r.length
   exact truthy_tuple pl (by simp only[List.size_toArray];omega) ⟨H,I.tok _,by rw[isEmpty_of r];exact q⟩
  ·subst e'
   obtain⟨hz,hS,vs,r,m⟩:kvs.length<=sizeLine/\(p == sysModules)=false/\∃vs,KV kvs vs/\s.heap.DictOf (mixKind X.prog X.w) p vs:=I.hok p _ hx
   have hlen:kvs.length=vs.length:=Paired.length r
   exact wpAny_truthy_dict hS m (by omega) ⟨H,I.tok _,by rw[isEmpty_kv r];exact q⟩
 |_=>exact(show False from e).elim
theorem pt_truth(ha:PE X a ta)(he:∀whole,isTrue a X.env whole=(do let v ←whole;standAt a.pos;holding [v] (truthy v))) :
  PT X a (fun σ H Q=>ta σ H fun x H'=>∃k,TruV X.K x H' k/\Q k H'):=by
 intro pins s σ H Q I h
 exact isTrue_plain (thn (ha pins s σ H _ I h) fun v s1 ⟨x,H1,I1,r1,q1⟩=>tru_ok pins s1 σ H1 x v Q I1 r1 q1) (he _)
theorem op_add_str:OpR X (binaryOp .Add) (fun x y H Q=>∃i j,x=.str i/\y=.str j/\i.length+j.length<=sizeLine/\Q (.str (i++j)) H):=by
 intro pins s σ H x y v u Q I rx ry h
 obtain⟨i,j,rfl,rfl,hz,q⟩:=h
 obtain⟨t,rfl⟩:=rx
 obtain⟨t',rfl⟩:=ry
 exact add_str (fun t' tk=>⟨.str (i++j),H,I.tok _,⟨_,rfl⟩,q⟩) hz
theorem vals1{x:V}{us:List Value}(r:Vals [x] us):∃u,us=[u]/\RelV x u:=by
 cases r with
 |cons r1 r2=>cases r2;exact⟨_,rfl,r1⟩
theorem vals2{x y:V}{us:List Value}(r:Vals [x,y] us):∃u w',us=[u,w']/\RelV x u/\RelV y w':=by
 cases r with
 |cons r1 r2 =>
  cases r2 with
  |cons r3 r4=>cases r4;exact⟨_,_,rfl,r1,r3⟩
theorem call_max2(hc:X.calm=true):CallR X (.builtin "max") (fun xs H Q=>∃i j,xs=[.int i,.int j]/\Q (.int (if j>i then j else i)) H):=by
 intro pins s σ H xs us Q I r h
 obtain⟨i,j,rfl,q⟩:=h
 obtain⟨u,w',rfl,⟨t,rfl⟩,⟨t',rfl⟩⟩:=vals2 r
 refine max_two_ints (I.ok.hd hc) fun h' tk k=>⟨_,H,I.kept k,?_,q⟩
 by_cases hj:j>i
 ·rw[if_pos hj,if_pos hj];exact⟨_,rfl⟩
 ·rw[if_neg hj,if_neg hj];exact⟨_,rfl⟩
end
section
variable {prog:Program}{w:World}{A:Around}{E:Value->Shared->Prop}{s:Shared}{K:PySem.W.Frag}{x dx C f:Addr}{mA:Str->Option Value}{name:Str}{v:Value}
end
def putF(f:Str)(v:V):List (Str×V)->List (Str×V)
 | []=>[(f,v)]
 |(g,x)::r=>if g=f then(g,v)::r else(g,x)::putF f v r
theorem RelO.some_of{v:V}{o:Option Value}(r:RelO (some v) o):∃u,o=some u/\RelV v u:=by
 cases o with
 |none=>exact(show False from r).elim
 |some u=>exact⟨u,rfl,r⟩
section
variable {P:Program}{w:World}{H H':Hp}{h h':Heap}{a C dx:Addr}{fs fs':List (Str×V)}
end
section
variable {X:Cx}{pins:List (Addr×Obj)}{σ:St}{H:Hp}{s:Shared}{a C dx:Addr}{fs:List (Str×V)}{f:Str}{v:V}{A:Around}{E:Value->Shared->Prop}
end
section
variable {X:Cx}{o e value:Expr}{f:Str}{pos pos' tpos:Pos}{ta tv:TE}
end
section
variable {X:Cx}{pins:List (Addr×Obj)}{σ:St}{H:Hp}{s:Shared}{A:Around}{E:Value->Shared->Prop}{Q:Value->Shared->Prop}{c:Value}{b:Bool}
end
structure Room(k:Nat) (A:Around):Prop where
 hd:A.handled=none
 dp:A.depth+3*k+5<recursionLimit
 un:A.units+16*k+200<cLine
 gd:A.guards=some []
theorem Room.mono{j k:Nat}{A:Around}(r:Room k A)(h:j<=k):Room j A:=⟨r.hd,by have:=r.dp;omega,by have:=r.un;omega,r.gd⟩
theorem Room.deeper{k:Nat}{A:Around}(r:Room (k+1) A)(env:Env):Room k (A.deeper env) :=
 ⟨r.hd,by have:=r.dp;show A.depth+1+3*k+5<_;omega,by have:=r.un;show A.units+3+16*k+200<_;omega,r.gd⟩
theorem Room.depth{k:Nat}{A:Around}(r:Room k A):A.depth<recursionLimit:=by have:=r.dp;omega
theorem Room.units{k:Nat}{A:Around}(r:Room k A):A.units+64<cLine:=by have:=r.un;omega
def tNil:TA:=fun _ H Q=>Q [] H
def tCons(ta:TE)(tr:TA):TA:=fun σ H Q=>ta σ H fun x H1=>tr σ H1 fun xs H2=>Q (x::xs) H2
section
variable {X:Cx}{e:Expr}{es:List Expr}{te:TE}{t:TA}{pos:Pos}
theorem pa_nil:PA X [] tNil:=fun _ _ _ _ H Q I h=>Calls.spliced_nil ⟨[],H,I,.nil,h⟩
theorem pa_cons(ha:PE X e te)(hr:PA X es t)(hs:starEach (e::es) X.env=(false,eval e X.env)::starEach es X.env:=by rfl):PA X (e::es) (tCons te t):=by
 intro pos pins s σ H Q I h
 rw[hs]
 show wpAny _ _ (spliced ((false,eval e X.env)::backTo pos (starEach es X.env))) _ _ s
 refine Calls.spliced_cons (thn (ha pins s σ H _ I h) fun u s1 ⟨x,H1,I1,r1,q1⟩=>?_)
 exact thn (hr pos pins s1 σ H1 _ I1 q1) fun us s2 ⟨xs,H2,I2,r2,q2⟩=>⟨x::xs,H2,I2,.cons r1 r2,q2⟩
def tTup(t:TA):TE:=fun σ H Q=>t σ H fun xs H1=>xs.length<=sizeLine/\∀p,H1 p=none->Q (.ref p) (upd H1 p (.tup xs))
def tLst(t:TA):TE:=fun σ H Q=>t σ H fun xs H1=>xs.length<=sizeLine/\∀p,H1 p=none->Q (.ref p) (upd H1 p (.lst xs))
theorem pe_tup{x1}(h:PA X es t):PE X (.Tuple es x1 pos) (tTup t):=by
 intro pins s σ H Q I hq
 refine wpAny_Tuple_spliced (thn (h pos pins s σ H _ I hq) fun us s1 ⟨xs,H1,I1,r,z,q⟩=>⟨by rw[←r.length];exact z,?_⟩)
 have hf:H1 s1.heap.objs.size=none:=I1.hok.fresh (Nat.le_refl _)
 refine⟨.ref s1.heap.objs.size,upd H1 s1.heap.objs.size (.tup xs),I1.laid (t':=s1.toks) (fun b u e=>Heap.get?_push_of_some _ e) (Nat.le_refl _) ?_,rfl,q _ hf⟩
 exact⟨z,us,r,⟨_,Heap.get?_push_size _ rfl,rfl,_,rfl⟩,_,Heap.get?_push_size _ rfl,rfl⟩
theorem pe_lst(h:PA X es t):PE X (.List es pos) (tLst t):=by
 intro pins s σ H Q I hq
 refine wpAny_List_spliced (thn (h pos pins s σ H _ I hq) fun us s1 ⟨xs,H1,I1,r,z,q⟩=>⟨by rw[←r.length];exact z,?_⟩)
 have hf:H1 s1.heap.objs.size=none:=I1.hok.fresh (Nat.le_refl _)
 refine⟨.ref s1.heap.objs.size,upd H1 s1.heap.objs.size (.lst xs),I1.laid (t':=s1.toks) (fun b u e=>Heap.get?_push_of_some _ e) (Nat.le_refl _) ?_,rfl,q _ hf⟩
 exact⟨z,us,0,r,Heap.get?_push_size _ rfl⟩
end
abbrev Sp:=List V->Hp->VK->XK->Prop
abbrev CXT:=List Env->Hp->Shared->XK->Value->Shared->Prop
structure Env0(P:Program) (w:World) (K:PySem.W.Frag) (mg:Str->Option Value) (base:Heap) (A:Around) (outer:List Env) (s:Shared) (H:Hp):Prop where
 frames:A.frames=some outer
 mod:Mod K mg base
 bs:∀b o,base.get? b=some o->s.heap.get? b=some o/\H b=none
 bsz:base.objs.size<=s.heap.objs.size
 funs:s.heap.FunFrames base outer
 frf:∀b∈frs outer,H b=none
 hok:HOk P w H s.heap
 bare:AllBare s.gens
def CE(outer:List Env)(P:Program)(w:World)(H:Hp)(s:Shared)(Q:VK)(u:Value)(s':Shared):Prop :=
 ∃v H',s'.os=s.os/\AllBare s'.gens/\Un (frs outer) [] H H' s.heap s'.heap/\HOk P w H' s'.heap/\RelV v u/\Q v H'
def CR(CX:CXT)(outer:List Env)(P:Program)(w:World)(H:Hp)(s:Shared)(Q:VK)(E:XK)(r:Result)(s':Shared):Prop :=
 match r with
 |.ok (.ret u)=>CE outer P w H s Q u s'
 |.ok _=>False
 |.error e=>CX outer H s E e s'
structure FnOk(P:Program) (w:World) (K:PySem.W.Frag) (mg:Str->Option Value) (base:Heap) (CX:CXT) (k:Nat) (f:Addr) (fd:FuncData) (ps:List Str) (sp:Sp):Prop where
 len:∀vs H Q E,sp vs H Q E->vs.length=ps.length
 run:∀(A:Around) (outer:List Env) (s:Shared) (H:Hp) (args:Args) (us:List Value) (vs:List V) (Q:VK) (E:XK),Room k A->Env0 P w K mg base A outer s H->BindsTo s fd args (ps.zip us)->Vals vs us->sp vs H Q E ->
  codeAny (model P w) A (.call (.ref f) args) (CR CX outer P w H s Q E) s
section
variable {X:Cx}{pins:List (Addr×Obj)}{σ:St}{H:Hp}{s s':Shared}
theorem Inv.env0(I:Inv X pins σ H s):Env0 X.prog X.w X.K X.mg X.base X.A X.stack s H :=
 ⟨I.ok.frames,I.ok.mod,I.bs,Nat.le_trans I.ok.bsz I.sz,I.stack,I.stkFree,I.hok,I.bare⟩
theorem Inv.after{Q:VK}{u:Value}(I:Inv X pins σ H s)(h:CE X.stack X.prog X.w H s Q u s'):EP X pins σ Q u s':=by
 obtain⟨v,H',os,bare,un,hok,r,q⟩:=h
 obtain⟨hh,g,d,t,os'⟩:=s'
 obtain rfl:os'=s.os:=os
 exact⟨v,H',I.call (h':=hh) (g':=g) (d':=d) (t':=t) (ch:=[]) un hok bare (fun b z=>absurd z (by simp)),r,q⟩
end
def tCall(sp:Sp)(dvs:List V)(E:XK)(t:TA):TE:=fun σ H Q=>t σ H fun vs H1=>sp (vs++dvs) H1 Q E
def Binds(K:PySem.W.Frag)(fd:FuncData)(ps:List Str)(ds:List Value):Prop :=
 ∀(s:Shared) (us:List Value),K.In s.heap->(us++ds).length=ps.length->BindsTo s fd ⟨us,[]⟩ (ps.zip (us++ds))
theorem Binds.all{K:PySem.W.Frag}{fd:FuncData}{ps:List Str}(h:∀us:List Value,us.length=ps.length->bindArgs fd ⟨us,[]⟩=pure (ps.zip us)):Binds K fd ps []:=fun s us _ hl=>by
 rw[List.append_nil]at hl⊢
 exact .of_eq (h us hl)
def Passes(CX:CXT)(X:Cx)(E:XK):Prop:=∀(pins:List (Addr×Obj)) (σ:St) (H:Hp) (s:Shared) (e:Value) (s':Shared),Inv X pins σ H s->CX X.stack H s E e s'->X.xe e s'
section
variable {X:Cx}{CX:CXT}{k:Nat}{f C:Addr}{fd:FuncData}{ps:List Str}{sp:Sp}{dvs:List V}{ds:List Value}{E:XK}{x m:Str}{p pos apos:Pos}{e o:Expr}{es:List Expr}{ta:TE}{t:TA}
theorem run_fn{pins:List (Addr×Obj)}{σ:St}{H:Hp}{s:Shared}{Q:VK}{us:List Value}{vs:List V}(F:FnOk X.prog X.w X.K X.mg X.base CX k f fd ps sp)(hr:Room k X.A)(hb:Binds X.K fd ps ds)(hd:Vals dvs ds)(hx:Passes CX X E)
  (I:Inv X pins σ H s) (r:Vals vs us) (h:sp (vs++dvs) H Q E):wpAny (model X.prog X.w) X.A (call (.ref f) us) (EP X pins σ Q) X.xe s:=by
 have r2:Vals (vs++dvs) (us++ds):=r.append hd
 have hl:(us++ds).length=ps.length:=by rw[←r2.length];exact F.len _ _ _ _ h
 refine wpAny_call (codeAny_mono (F.run X.A X.stack s H ⟨us,[]⟩ (us++ds) (vs++dvs) Q E hr I.env0 (hb s us I.kIn hl) r2 h) fun r s' hq=>?_)
 cases r with
 |error e=>exact hx pins σ H s e s' I hq
 |ok fl =>
  cases fl with
  |ret u=>exact I.after hq
  |next=>exact False.elim hq
  |brk=>exact False.elim hq
  |cont=>exact False.elim hq
theorem pe_call(F:FnOk X.prog X.w X.K X.mg X.base CX k f fd ps sp)(hr:Room k X.A)(hg:Gl X x)(hm:X.mg x=some (.ref f))(hk:PySem.W.keepIn X.K (.ref f)=true)(hb:Binds X.K fd ps ds)(hd:Vals dvs ds)(hx:Passes CX X E)
  (ha:PA X (e::es) t) (hdb:(x == ("__debug__":Str))=false:=by decide) (he:starEach (e::es) X.env=(false,eval e X.env)::starEach es X.env:=by rfl) (hpl:(backTo pos (starEach es X.env)).any (·.1)=false:=by rfl) :
  PE X (.Call (.Name x p) (e::es) [] pos) (tCall sp dvs E t):=by
 intro pins s σ H Q I h
 refine wpAny_Call_Name_kw (ld_glob I hg hm ?_ hdb)
 refine PySem.W.callWith_K (h₀:=X.base) I.ok.mod.kin hk (thn (ha pos pins s σ H _ I h) fun us s1 ⟨vs,H1,I1,r,q⟩=>⟨I1.kIn,?_⟩) he hpl
 exact run_fn F hr hb hd hx I1 r q
theorem pe_call0(F:FnOk X.prog X.w X.K X.mg X.base CX k f fd ps sp)(hr:Room k X.A)(hg:Gl X x)(hm:X.mg x=some (.ref f))(hk:PySem.W.keepIn X.K (.ref f)=true)(hb:Binds X.K fd ps ds)(hd:Vals dvs ds)(hx:Passes CX X E)
  (hdb:(x == ("__debug__":Str))=false:=by decide):PE X (.Call (.Name x p) [] [] pos) (tCall sp dvs E tNil):=by
 intro pins s σ H Q I h
 refine wpAny_Call_Name_kw (ld_glob I hg hm ?_ hdb)
 exact PySem.W.callWith_K0 I.kIn hk (run_fn (us:=[]) F hr hb hd hx I .nil h)
end
section
variable {X:Cx}{CX:CXT}{k:Nat}{f C:Addr}{fd:FuncData}{ps ks:List Str}{sp:Sp}{E:XK}{x m:Str}{p pos apos kpos:Pos}{e o:Expr}{es:List Expr}{kws:List Keyword}{te ta:TE}{t tk:TA}{nm:Option Str}
variable {g:List Value->List Value->List Value}{gV:List V->List V->List V}
end
structure FnScope(N P:List Str) (sc:Scope):Prop where
 kind:sc.kind=.function
 co:sc.isCoroutine=false
 gen:sc.isGenerator=false
 nd:N.Nodup
 pre:N.take P.length=P
 par:∀x∈P,sc.names.lookup x=some .local\/sc.names.lookup x=some .cell
 nofree:∀y∈sc.names,y.2≠.free
theorem bindL_out{kindOf:Str->Option NameKind}{x:Str}:∀{binds:List (Str×Value)}{m:Str->Option Value},(∀v,(x,v)∉binds)->bindL kindOf binds m x=m x
 | [],_,_=>rfl
 |(n,v)::r,m,h=>by
  unfold bindL
  rw[bindL_out fun w hw=>h w (List.mem_cons_of_mem _ hw)]
  split
  ·have:x≠n:=by rintro rfl;exact h v List.mem_cons_self
   simp[this]
  ·rfl
theorem bindC_out{kindOf:Str->Option NameKind}{x:Str}:∀{binds:List (Str×Value)}{m:Str->Option Value},(∀v,(x,v)∉binds)->bindC kindOf binds m x=m x
 | [],_,_=>rfl
 |(n,v)::r,m,h=>by
  unfold bindC
  rw[bindC_out fun w hw=>h w (List.mem_cons_of_mem _ hw)]
  split
  ·rfl
  ·have:x≠n:=by rintro rfl;exact h v List.mem_cons_self
   simp[this]
theorem bindL_get{kindOf:Str->Option NameKind}{x:Str}{v:Value}:∀{P:List Str}{vs:List Value}{i:Nat}{m:Str->Option Value},P.Nodup->P[i]?=some x->vs[i]?=some v->kindOf x=some .local ->
  bindL kindOf (P.zip vs) m x=some v
 | [],_,_,_,_,h,_,_=>by simp at h
 |_::_,[],_,_,_,_,h,_=>by simp at h
 |p::P,w::vs,0,m,nd,h1,h2,hk=>by
  simp at h1 h2;subst h1;subst h2
  show bindL kindOf ((p,w)::P.zip vs) m p=_
  unfold bindL
  rw[bindL_out fun v hv=>(List.nodup_cons.mp nd).1 (List.of_mem_zip hv).1,if_pos hk]
  simp
 |p::P,w::vs,i+1,m,nd,h1,h2,hk=>by
  show bindL kindOf ((p,w)::P.zip vs) m x=_
  unfold bindL
  exact bindL_get (i:=i) (List.nodup_cons.mp nd).2 (by simpa using h1) (by simpa using h2) hk
theorem bindC_get{kindOf:Str->Option NameKind}{x:Str}{v:Value}:∀{P:List Str}{vs:List Value}{i:Nat}{m:Str->Option Value},P.Nodup->P[i]?=some x->vs[i]?=some v->kindOf x≠some .local ->
  bindC kindOf (P.zip vs) m x=some v
 | [],_,_,_,_,h,_,_=>by simp at h
 |_::_,[],_,_,_,_,h,_=>by simp at h
 |p::P,w::vs,0,m,nd,h1,h2,hk=>by
  simp at h1 h2;subst h1;subst h2
  show bindC kindOf ((p,w)::P.zip vs) m p=_
  unfold bindC
  rw[bindC_out fun v hv=>(List.nodup_cons.mp nd).1 (List.of_mem_zip hv).1,if_neg hk]
  simp
 |p::P,w::vs,i+1,m,nd,h1,h2,hk=>by
  show bindC kindOf ((p,w)::P.zip vs) m x=_
  unfold bindC
  exact bindC_get (i:=i) (List.nodup_cons.mp nd).2 (by simpa using h1) (by simpa using h2) hk
def start(N:List Str)(vs:List V):St:=vs.map some++List.replicate (N.length-vs.length) none
def cxOf(CX:CXT)(P:Program)(w:World)(K:PySem.W.Frag)(mg:Str->Option Value)(base:Heap)(N:List Str)(qual:Str)(scope:Scope)(f:Addr)(cd:Value)(A:Around)(outer:List Env)(s:Shared)(H:Hp)(E:XK):Cx where
 prog:=P
 w:=w
 K:=K
 mg:=mg
 base:=base
 A:=A.deeper (envOfC qual scope s.heap.objs.size f cd)
 N:=N
 s₀:=s
 H₀:=H
 env:=envOfC qual scope s.heap.objs.size f cd
 outer:=outer
 stack:=envOfC qual scope s.heap.objs.size f cd::outer
 ex:=[]
 calm:=true
 fn:=fun _=>true
 pn:=[]
 xe:=fun e s'=>wpAny (model P w) (A.deeper (envOfC qual scope s.heap.objs.size f cd)) (leaving (envOfC qual scope s.heap.objs.size f cd) e) (fun _ s''=>CX outer H s E e s'') (fun e' s''=>CX outer H s E e' s'') s'
theorem cell_has{sc:Scope}{n:Nat}{x:Str}(h:sc.names.lookup x=some .cell):∃c,(cellsFrom n sc.names []).lookup x=some c:=by
 have q:=PySem.W.cellsFrom_some sc.names n [] (.inl h)
 exact Option.isSome_iff_exists.mp q
theorem inv_start{CX:CXT}{P:Program}{w:World}{K:PySem.W.Frag}{mg:Str->Option Value}{base:Heap}{N ps:List Str}{qual:Str}{scope:Scope}{f:Addr}{cd:Value}{A:Around}{outer:List Env}{s s1:Shared}{H:Hp}{E:XK}{us:List Value}{vs:List V}
  (S:FnScope N ps scope) (hd:A.handled=none) (e0:Env0 P w K mg base A outer s H) (hl:vs.length=ps.length) (r:Vals vs us)
  (x:InCallC s s.heap.objs.size (bindL (envOfC qual scope s.heap.objs.size f cd).kindOf (ps.zip us) fun _=>none) (cellsFrom (s.heap.objs.size+1) scope.names []) (bindC (envOfC qual scope s.heap.objs.size f cd).kindOf (ps.zip us) fun _=>none) s1) :
  Inv (cxOf CX P w K mg base N qual scope f cd A outer s H E) [] (start N vs) H s1:=by
 have hpl:ps.length<=N.length:=by have:=congrArg List.length S.pre;rw[List.length_take]at this;omega
 obtain⟨h1,tk,rfl,hk⟩:=x.done
 have noA:∀b:Addr,b∉(cxOf CX P w K mg base N qual scope f cd A outer s H E).ex:=fun b z=>absurd (show b∈([]:List Addr)from z) (by simp)
 refine⟨⟨e0.mod,S.kind,rfl,rfl,Nat.le_refl _,fun y z c h1 h2=>?_,fun y hy=>?_,fun y c _ h=>?_,fun _=>hd,Around.frames_deeper e0.frames,.inr ⟨rfl,rfl⟩,fun b z=>absurd z (noA b),e0.bs,e0.bsz,fun b _ _=>noA b,fun b z=>absurd z (noA b),e0.funs,e0.frf⟩,
  rfl,e0.bare,Un.kept hk,⟨_,x.toInCall.ns,fun i y v h1 h2 h3=>?_⟩,fun y c h=>⟨_,x.cell y c h⟩,e0.hok.fresh (Nat.le_refl _),fun y c h=>?_,fun p hp=>absurd (show p∈([]:List (Addr×Obj))from hp) (by simp),e0.hok.kept hk,?_⟩
 ·exact name_of_addr x.apart (PySem.mem_of_lookup h1) (PySem.mem_of_lookup h2)
 ·have hy:scope.names.lookup y=some .cell\/scope.names.lookup y=some .free:=hy
  rcases hy with hy|hy
  ·exact cell_has hy
  ·exact absurd rfl (S.nofree _ (PySem.mem_of_lookup hy))
 ·exact Nat.le_of_lt (x.above y c (PySem.mem_of_lookup h))
 ·have hi:i<vs.length:=by
   unfold start at h2
   by_cases hi:i<vs.length
   ·exact hi
   ·rw[List.getElem?_append_right (by simpa using hi)]at h2
    rw[List.getElem?_replicate]at h2
    split at h2<;>cases h2
  have ha:vs[i]?=some v:=by
   unfold start at h2
   rw[List.getElem?_append_left (by simpa using hi),List.getElem?_map]at h2
   cases e:vs[i]? with
   |none=>rw[e]at h2;cases h2
   |some a=>rw[e]at h2;cases h2;rfl
  obtain⟨u,hu,rv⟩:=r.get ha
  have hp:ps[i]?=some y:=by
   rw[←S.pre,List.getElem?_take_of_lt (by omega)];exact h1
  have ndP:ps.Nodup:=by rw[←S.pre];exact S.nd.sublist (List.take_sublist _ _)
  refine⟨u,rv,?_⟩
  rcases S.par y (List.mem_of_getElem? hp)with k|k
  ·exact .inl ⟨k,bindL_get ndP hp hu k⟩
  ·obtain⟨c,e⟩:=cell_has (n:=s.heap.objs.size+1) k
   refine .inr ⟨.inl k,c,e,?_⟩
   have q:=x.cell y c e
   rw[bindC_get ndP hp hu (by show scope.names.lookup y≠_;rw[k];decide)]at q
   exact q
 ·exact e0.hok.fresh (Nat.le_of_lt (x.above y c (PySem.mem_of_lookup h)))
 ·unfold start
  show _=N.length
  rw[List.length_append,List.length_map,List.length_replicate]
  omega
theorem fn_of{CX:CXT}{P:Program}{w:World}{K:PySem.W.Frag}{mg:Str->Option Value}{base:Heap}{k:Nat}{f:Addr}{name qual:Str}{params:Arguments}{body:List Stmt}{scope:Scope}{dV kV doc pm cdv ct oc:Value}{an od:Option Addr}
  {osl:Array (Option Value)}{N ps:List Str}{sp:Sp}(lk:K.lookup f=some ⟨oc,od,.func (PySem.W.fnOf name qual params body scope dV kV doc pm an cdv ct),osl⟩) (hcd:PySem.W.codeIn K cdv qual=true) (S:FnScope N ps scope)
  (len:∀vs H Q E,sp vs H Q E->vs.length=ps.length)
  (hbody:∀(A:Around) (outer:List Env) (s:Shared) (H:Hp) (vs:List V) (Q:VK) (E:XK),Room k (A.deeper (envOfC qual scope s.heap.objs.size f cdv))->sp vs H Q E ->
   ∃t,PSs (cxOf CX P w K mg base N qual scope f cdv A outer s H E) body t/\t {nx:=fun _ H'=>Q .non H',rt:=Q} (start N vs) H) :
  FnOk P w K mg base CX (k+1) f (PySem.W.fnOf name qual params body scope dV kV doc pm an cdv ct) ps sp:=by
 refine⟨len,fun A outer s H args us vs Q E hr e0 hb r hsp=>?_⟩
 have hl:=len _ _ _ _ hsp
 have KX:K.In s.heap:=e0.mod.kin.keeps fun b o e=>(e0.bs b o e).1
 have lim:s.heap.NoLimit:=e0.mod.nolimit.keeps fun b o e=>(e0.bs b o e).1
 have hkind:∀y∈ps.zip us,scope.names.lookup y.1=some .local\/(scope.names.lookup y.1=some .cell/\((cellsFrom (s.heap.objs.size+1) scope.names []).lookup y.1).isSome=true):=fun⟨n,v⟩ hy=>by
  rcases S.par n (List.of_mem_zip hy).1 with q|q
  ·exact .inl q
  ·exact .inr ⟨q,PySem.W.cellsFrom_some _ _ _ (.inl q)⟩
 refine codeAny_call_function hr.depth (KX _ _ lk) rfl S.co S.gen rfl (PySem.W.codeRec_of KX hcd) (hb _ _ _ _ ?_)
 refine wpAny_newFunctionEnv_cells S.kind hkind fun env he s1 x=>?_
 subst he
 refine⟨lim.keeps x.toInCall.keep,codeAny_func ?_⟩
 obtain⟨t,ht,hq⟩:=hbody A outer s H vs Q E (hr.deeper _) hsp
 have I:Inv (cxOf CX P w K mg base N qual scope f cdv A outer s H E) [] (start N vs) H s1:=inv_start S hr.hd e0 hl r x
 refine wpAny_mono (ht [] s1 (start N vs) H _ I hq) (fun fl s' hs=>?_) fun e s' hs=>hs
 have fin:∀{σ':St}{H':Hp}{v:V}{u:Value},Inv (cxOf CX P w K mg base N qual scope f cdv A outer s H E) [] σ' H' s'->RelV v u->Q v H'->CE outer P w H s Q u s' :=
  fun{σ' H' v u} J rv q=>⟨v,H',J.os,J.bare,J.base,J.hok,rv,q⟩
 cases fl with
 |ret u =>
  obtain⟨v,σ',H',J,rv,q⟩:=hs
  exact fin J rv q
 |next =>
  obtain⟨σ',H',J,q⟩:=hs
  exact fin (v:=V.non) (u:=Value.none) J rfl q
 |brk =>
  obtain⟨_,_,_,q⟩:=hs
  exact False.elim q
 |cont =>
  obtain⟨_,_,_,q⟩:=hs
  exact False.elim q
section
variable {X:Cx}{x:Str}{p pos:Pos}{e:Expr}{es:List Expr}{t:TA}{id T:String}{r:List V->Hp->VK->Prop}
def tCB(r:List V->Hp->VK->Prop)(t:TA):TE:=fun σ H Q=>t σ H fun vs H1=>r vs H1 Q
theorem pe_callB(hc:CallR X (.builtin id) r)(hg:Gl X x)(hm:X.mg x=none)(hv:bootBuiltins x=some (.builtin id))(ha:PA X (e::es) t)(hn:x≠"__name__":=by decide)(hdb:(x == ("__debug__":Str))=false:=by decide)
  (he:starEach (e::es) X.env=(false,eval e X.env)::starEach es X.env:=by rfl) (hpl:(backTo pos (starEach es X.env)).any (·.1)=false:=by rfl):PE X (.Call (.Name x p) (e::es) [] pos) (tCB r t):=by
 intro pins s σ H Q I h
 refine wpAny_Call_Name_kw (ld_blt I hg hm hv ?_ hn hdb)
 exact PyProof.Rows.callWith_builtin1 (thn (ha pos pins s σ H _ I h) fun us s1 ⟨vs,H1,I1,r1,q1⟩=>hc pins s1 σ H1 vs us Q I1 r1 q1) he hpl
theorem pe_callTy(hc:CallR X (.type T) r)(hg:Gl X x)(hm:X.mg x=none)(hv:bootBuiltins x=some (.type T))(ha:PA X (e::es) t)(hn:x≠"__name__":=by decide)(hdb:(x == ("__debug__":Str))=false:=by decide)
  (he:starEach (e::es) X.env=(false,eval e X.env)::starEach es X.env:=by rfl) (hpl:(backTo pos (starEach es X.env)).any (·.1)=false:=by rfl):PE X (.Call (.Name x p) (e::es) [] pos) (tCB r t):=by
 intro pins s σ H Q I h
 refine wpAny_Call_Name_kw (ld_blt I hg hm hv ?_ hn hdb)
 exact PyProof.Rows.callWith_type1 (thn (ha pos pins s σ H _ I h) fun us s1 ⟨vs,H1,I1,r1,q1⟩=>hc pins s1 σ H1 vs us Q I1 r1 q1) he hpl
end
end L2
namespace HT
open PySem PyProof.Rows
section
open PySem.SeqAt
open PySem.AutoSeq1 (wpAny_loadPart')
open PySem.MeetsSeq PySem.MeetsSeq2 PySem.MeetsSeq3
end
section
variable {prog:Program}{w:World}{A:Around}{E:Value->Shared->Prop}{s:Shared}
def sIx(n d:Nat):Option Int->Nat
 |none=>d
 |some v=>if v<0 then(v+(n:Int)).toNat else min v.toNat n
theorem sIx_none(n d:Nat):sIx n d none=d:=rfl
theorem sIx_nat(n d k:Nat):sIx n d (some (k:Int))=min k n:=by
 show(if(k:Int)<0 then((k:Int)+(n:Int)).toNat else min (k:Int).toNat n)=min k n
 rw[if_neg (by omega),Int.toNat_natCast]
end
end HT
namespace L2
open PySem PySem.Spec PyProof.Rows
abbrev TO:=St->Hp->(Option Int->Hp->Prop)->Prop
def PO(X:Cx)(e:Option Expr)(t:TO):Prop :=
 ∀(pins:List (Addr×Obj)) (s:Shared) (σ:St) (H:Hp) (Q:Option Int->Hp->Prop),Inv X pins σ H s->t σ H Q ->
  wpAny (model X.prog X.w) X.A (evalPart e X.env) (fun u s'=>∃o H',Inv X pins σ H' s'/\IsPart u o/\Q o H') X.xe s
def tNoPart:TO:=fun _ H Q=>Q none H
def tPart(t:TE):TO:=fun σ H Q=>t σ H fun x H1=>∃i,x=.int i/\Q (some i) H1
section
variable {X:Cx}{e:Expr}{te:TE}{lo hi:Option Expr}{tl th:TO}{pos p2:Pos}
theorem po_none:PO X none tNoPart:=by
 intro pins s σ H Q I h
 rw[evalPart_none]
 exact wpAny_pure ⟨none,H,I,.none,h⟩
theorem po_some(h:PE X e te):PO X (some e) (tPart te):=by
 intro pins s σ H Q I hw
 rw[evalPart_some]
 refine thn (h pins s σ H _ I hw) fun u s1 ⟨x,H1,I1,r1,q1⟩=>?_
 obtain⟨i,rfl,q⟩:=q1
 obtain⟨t,rfl⟩:=r1
 exact⟨some i,H1,I1,.int i t,q⟩
def SlR(X:Cx)(r:V->Option Int->Option Int->Hp->VK->Prop):Prop :=
 ∀(pins:List (Addr×Obj)) (s:Shared) (σ:St) (H:Hp) (x:V) (v vl vu:Value) (lo hi:Option Int) (sl:Addr) (Q:VK),Inv X pins σ H s->RelV x v->s.heap.IsSliceOf sl vl vu .none->IsPart vl lo->IsPart vu hi->r x lo hi H Q ->
  ∃T id,typeLookup (.type T) "__getitem__"=pure (some (.builtin id))/\s.TypeIs v T/\wpAny (model X.prog X.w) X.A (getItem v (.ref sl)) (EP X pins σ Q) X.xe s
def tSl(r:V->Option Int->Option Int->Hp->VK->Prop)(te:TE)(tl th:TO):TE:=fun σ H Q=>te σ H fun x H1=>tl σ H1 fun l H2=>th σ H2 fun u H3=>r x l u H3 Q
theorem pe_slice{r:V->Option Int->Option Int->Hp->VK->Prop}(hr:SlR X r)(he:PE X e te)(hl:PO X lo tl)(hu:PO X hi th):PE X (.Subscript e (.Slice lo hi none p2) pos) (tSl r te tl th):=by
 intro pins s σ H Q I h
 refine Subscript_ (thn (he pins s σ H _ I h) fun v s1 ⟨x,H1,I1,r1,q1⟩=>?_)
 refine wpAny_Slice (thn (hl pins s1 σ H1 _ I1 q1) fun vl s2 ⟨l,H2,I2,pl,q2⟩=>thn (hu pins s2 σ H2 _ I2 q2) fun vu s3 ⟨u,H3,I3,pu,q3⟩=>?_)
 rw[evalPart_none]
 refine wpAny_pure ?_
 have I4:Inv X pins σ H3 {s3 with heap:=s3.heap.push {cls:=.type "slice",data:=.fields #[vl,vu,.none]}}:=I3.kept (t':=s3.toks) fun b ob q=>Heap.get?_push_of_some _ q
 obtain⟨T,id,hT,ht,hg⟩:=hr pins {s3 with heap:=s3.heap.push {cls:=.type "slice",data:=.fields #[vl,vu,.none]}} σ H3 x v vl vu l u s3.heap.objs.size Q I4 r1 (Heap.IsSliceOf.new ..) pl pu q3
 show wpAny (model X.prog X.w) X.A (subscriptTail e (.Slice lo hi none p2) v (.ref s3.heap.objs.size)) (EP X pins σ Q) X.xe {s3 with heap:=s3.heap.push {cls:=.type "slice",data:=.fields #[vl,vu,.none]}}
 exact tail_any (ops:=[.ref s3.heap.objs.size,v]) ht hT hg (by with_unfolding_all rfl)
def cutV(xs:List V)(lo hi:Option Int):List V:=(xs.drop (HT.sIx xs.length 0 lo)).take (HT.sIx xs.length xs.length hi-HT.sIx xs.length 0 lo)
theorem cutV_length(xs:List V)(lo hi:Option Int):(cutV xs lo hi).length<=xs.length:=by
 unfold cutV
 rw[List.length_take,List.length_drop]
 omega
end
def ixN(n:Nat)(i:Int):Option Nat:=if 0<=i then(if i<n then some i.toNat else none)else if -(n:Int)<=i then some (i+n).toNat else none
def atI{α:Type}(xs:List α)(i:Int):Option α:=(ixN xs.length i).bind fun j=>xs[j]?
theorem ixN_seq{n:Nat}{i:Int}{j:Nat}(h:ixN n i=some j):seqIndex? i n=some j/\j<n/\-(n:Int)<=i/\i<n:=by
 unfold ixN at h
 by_cases h0:0<=i
 ·rw[if_pos h0]at h
  by_cases h1:i<n
  ·rw[if_pos h1]at h
   have e:i.toNat=j:=Option.some.inj h
   exact⟨by rw[seqIndex_of h0 h1,e],by omega,by omega,h1⟩
  ·rw[if_neg h1]at h;cases h
 ·rw[if_neg h0]at h
  by_cases h1:-(n:Int)<=i
  ·rw[if_pos h1]at h
   have e:(i+n).toNat=j:=Option.some.inj h
   exact⟨by rw[seqIndex_neg (by omega) h1,e],by omega,h1,by omega⟩
  ·rw[if_neg h1]at h;cases h
theorem atI_get{α:Type}{xs:List α}{i:Int}{v:α}(h:atI xs i=some v):∃j,seqIndex? i xs.length=some j/\xs[j]?=some v/\j<xs.length/\-(xs.length:Int)<=i/\i<xs.length:=by
 unfold atI at h
 cases e:ixN xs.length i with
 |none=>rw[e]at h;cases h
 |some j =>
  rw[e]at h
  obtain⟨h1,h2,h3,h4⟩:=ixN_seq e
  exact⟨j,h1,h,h2,h3,h4⟩
theorem atI_nat{α:Type}{xs:List α}{j:Nat}{v:α}(h:xs[j]?=some v):atI xs (j:Int)=some v:=by
 have hj:j<xs.length:=(List.getElem?_eq_some_iff.mp h).1
 have e:ixN xs.length (j:Int)=some j:=by
  unfold ixN
  rw[if_pos (by omega),if_pos (by omega)];simp
 unfold atI;rw[e];exact h
def PlainIx(b:Expr):Prop:=∀o i,subscripted b false o i=operate [o,i] (getItem o i)
def IxR(X:Cx)(r:R2):Prop :=
 ∀(value slice:Expr) (pins:List (Addr×Obj)) (s:Shared) (σ:St) (H:Hp) (x y:V) (v u:Value) (Q:VK),Inv X pins σ H s->RelV x v->RelV y u->r x y H Q ->
  subscripted slice false v u=operate [v,u] (getItem v u)->wpAny (model X.prog X.w) X.A (subscriptTail value slice v u) (EP X pins σ Q) X.xe s
def MtR(X:Cx)(id:String)(r:V->List V->Hp->VK->Prop):Prop :=
 ∀(pins:List (Addr×Obj)) (s:Shared) (σ:St) (H:Hp) (x:V) (xs:List V) (v:Value) (us:List Value) (Q:VK),Inv X pins σ H s->RelV x v->Vals xs us->r x xs H Q ->
  wpAny (model X.prog X.w) X.A (call (.builtin id) (v::us)) (EP X pins σ Q) X.xe s
section
variable {X:Cx}{a b:Expr}{ta tb:TE}{pos:Pos}
theorem IxR.or{r r':R2}(h:IxR X r)(h':IxR X r'):IxR X (fun x y H Q=>r x y H Q\/r' x y H Q):=by
 intro value slice pins s σ H x y v u Q I rx ry q hs
 rcases q with q|q
 ·exact h value slice pins s σ H x y v u Q I rx ry q hs
 ·exact h' value slice pins s σ H x y v u Q I rx ry q hs
theorem pe_ix{r:R2}(hr:IxR X r)(ha:PE X a ta)(hb:PE X b tb)(hs:PlainIx b):PE X (.Subscript a b pos) (tOp r ta tb):=by
 intro pins s σ H Q I h
 exact Subscript_ (binT ha hb I h fun v u s2 x y H2 I2 rx ry q=>hr a b pins s2 σ H2 x y v u Q I2 rx ry q (hs _ _))
def rIxL(K:PySem.W.Frag):R2:=fun x y H Q=>∃p xs i v,x=.ref p/\y=.int i/\SqL K H p xs/\atI xs i=some v/\Q v H
def rIxT(K:PySem.W.Frag):R2:=fun x y H Q=>∃p xs i v,x=.ref p/\y=.int i/\SqT K H p xs/\atI xs i=some v/\Q v H
def rIxS:R2:=fun x y H Q=>∃z i c,x=.str z/\y=.int i/\z.length<=sizeLine/\atI z.cps.toList i=some c/\Q (.str ⟨#[c]⟩) H
theorem ix_list:IxR X (rIxL X.K):=by
 intro value slice pins s σ H x y v u Q I rx ry h hs
 obtain⟨p,xs,i,z,rfl,rfl,hq,he,q⟩:=h
 cases rx
 obtain⟨t,rfl⟩:=ry
 obtain⟨its,r,pl,hz⟩:=I.list hq
 obtain⟨j,h1,h2,h3,h4,h5⟩:=atI_get he
 obtain⟨w,ew,rw'⟩:=r.get h2
 have hl:=r.length
 have hn:=line63
 have fin:EP X pins σ Q w s:=⟨z,H,I,rw',q⟩
 by_cases h0:0<=i
 ·have hj:i.toNat=j:=by
   rw[seqIndex_of h0 h5]at h1
   exact Option.some.inj h1
  exact item_listR pl.isList h0 (by omega) (by rw[hj];simpa using ew) fin hs
 ·have hj:(i+(its.toArray.size:Int)).toNat=j:=by
   rw[seqIndex_neg (by omega) h4]at h1
   rw[List.size_toArray,←hl]
   exact Option.some.inj h1
  exact subscriptTail_builtinR (x:=w) pl.isList.typeIs slot_list_getitem.lookup
   (wpAny_getItem_list_neg (Q:=fun r s'=>r=w/\EP X pins σ Q r s') pl.isList (by omega) (by rw[List.size_toArray]<;>omega) (by omega) (by rw[hj];simpa using ew) ⟨rfl,fin⟩) hs
theorem ix_tup:IxR X (rIxT X.K):=by
 intro value slice pins s σ H x y v u Q I rx ry h hs
 obtain⟨p,xs,i,z,rfl,rfl,hq,he,q⟩:=h
 cases rx
 obtain⟨t,rfl⟩:=ry
 obtain⟨its,r,pl,hz⟩:=I.tuple hq
 obtain⟨j,h1,h2,h3,h4,h5⟩:=atI_get he
 obtain⟨w,ew,rw'⟩:=r.get h2
 have hl:=r.length
 have hn:=line63
 have fin:EP X pins σ Q w s:=⟨z,H,I,rw',q⟩
 exact subscriptTail_builtinR (x:=w) pl.typeIs slot_tuple_getitem.lookup
  (getItem_tuple (j:=j) (Q:=fun r s'=>r=w/\EP X pins σ Q r s') pl (by omega) (by omega) (by rw[List.size_toArray,←hl];exact h1) (by simpa using ew) ⟨rfl,fin⟩) hs
theorem ix_str:IxR X rIxS:=by
 intro value slice pins s σ H x y v u Q I rx ry h hs
 obtain⟨z,i,c,rfl,rfl,hz,he,q⟩:=h
 obtain⟨t,rfl⟩:=rx
 obtain⟨t',rfl⟩:=ry
 obtain⟨j,h1,h2,h3,h4,h5⟩:=atI_get he
 have hl:z.cps.toList.length=z.length:=by simp[Str.length]
 rw[hl]at h1 h4 h5
 have hn:=line63
 exact tail_any (typeIs_str s z t) slot_str_getitem.lookup (getItem_str (c:=c) (by
  have e1:decide (i < -(2 ^ 63:Int))=false:=decide_eq_false (by omega)
  have e2:decide (i ≥ 2 ^ 63)=false:=decide_eq_false (by omega)
  rw[e1,e2,Bool.or_false]) (by rw[h1];simpa using h2) ⟨.str ⟨#[c]⟩,H,I.tok _,⟨_,rfl⟩,q⟩) hs
def rIx(K:PySem.W.Frag):R2:=fun x y H Q=>rIxL K x y H Q\/rIxT K x y H Q\/rIxS x y H Q
theorem ix_seq:IxR X (rIx X.K):=ix_list.or (ix_tup.or ix_str)
theorem mapSeq_set(its:List Value)(n j:Nat)(u:Value):Obj.mapSeq (·.setIfInBounds j u) {cls:=.type "list",data:=.seq its.toArray n}={cls:=.type "list",data:=.seq (its.set j u).toArray n}:=by
 simp[Obj.mapSeq]
theorem Inv.lst{pins:List (Addr×Obj)}{σ:St}{H:Hp}{s:Shared}{p:Addr}{xs:List V}(I:Inv X pins σ H s)(h:H p=some (.lst xs)) :
  ∃(its:List Value) (n:Nat),Vals xs its/\s.heap.get? p=some {cls:=.type "list",data:=.seq its.toArray n}/\xs.length<=sizeLine:=by
 obtain⟨z,its,n,r,e⟩:=I.hok p _ h
 exact⟨its,n,r,e,z⟩
theorem Inv.lstUpd{pins:List (Addr×Obj)}{σ:St}{H:Hp}{s:Shared}{p:Addr}{xs ys:List V}{its its':List Value}{n n':Nat}{f:Obj->Obj}(I:Inv X pins σ H s)(h:H p=some (.lst xs))
  (ho:s.heap.get? p=some {cls:=.type "list",data:=.seq its.toArray n}) (hf:f {cls:=.type "list",data:=.seq its.toArray n}={cls:=.type "list",data:=.seq its'.toArray n'}) (r:Vals ys its') (hz:ys.length<=sizeLine) (t:Nat) :
  Inv X pins σ (upd H p (.lst ys)) {s with heap:=s.heap.update p f,toks:=t}:=by
 have e:(s.heap.update p f).get? p=some {cls:=.type "list",data:=.seq its'.toArray n'}:=by
  rw[Heap.get?_update_self f ho (by rw[hf]<;>rfl),hf]
 refine I.write (x:=p) (e:=p) (by rw[h];trivial) (.inl rfl) (fun b u hb q=>(Heap.get?_update_other _ _ (Ne.symm hb)).trans q) ⟨_,e⟩ ?_
 exact⟨hz,its',n',r,e⟩
def rSetL:V->V->V->Hp->(Hp->Prop)->Prop:=fun o i v H Q=>∃p xs k j,o=.ref p/\i=.int k/\H p=some (.lst xs)/\ixN xs.length k=some j/\Q (upd H p (.lst (xs.set j v)))
theorem set_list:PSet X rSetL:=by
 intro pins s σ H o i v ov iv u Q I ro ri rv h
 obtain⟨p,xs,k,j,rfl,rfl,hp,hj,q⟩:=h
 cases ro
 obtain⟨t,rfl⟩:=ri
 obtain⟨its,n,r,ho,hz⟩:=I.lst hp
 obtain⟨h1,h2,h3,h4⟩:=ixN_seq hj
 have hl:=r.length
 have hn:=line63
 have I':Inv X pins σ (upd H p (.lst (xs.set j v))) {s with heap:=s.heap.update p (Obj.mapSeq (·.setIfInBounds j u))} :=
  I.lstUpd hp ho (mapSeq_set its n j u) (r.set rv j) (by rw[List.length_set];exact hz) s.toks
 by_cases h0:0<=k
 ·have hk:k.toNat=j:=by
   rw[seqIndex_of h0 h4]at h1
   exact Option.some.inj h1
  exact PySem.W.ki_setAt ho h0 (by omega) (by rw[List.size_toArray,←hl];exact h4) (by rw[hk];exact⟨_,I',q⟩)
 ·have hk:(k+(its.toArray.size:Int)).toNat=j:=by
   rw[seqIndex_neg (by omega) h3]at h1
   rw[List.size_toArray,←hl]
   exact Option.some.inj h1
  exact PySem.W.ki_setBack ho (by omega) (by rw[List.size_toArray,←hl];exact h3) (by omega) (by rw[hk];exact⟨_,I',q⟩)
theorem slice_bounds(lo hi:Option Int)(n:Nat):(sliceBounds lo hi none n).1=((HT.sIx n 0 lo:Nat):Int)/\(sliceBounds lo hi none n).2.1=((HT.sIx n n hi:Nat):Int)/\(sliceBounds lo hi none n).2.2=1:=by
 refine⟨?_,?_,rfl⟩
 ·cases lo with
  |none=>simp[sliceBounds,HT.sIx]
  |some i =>
   simp only[sliceBounds,HT.sIx,Option.getD_none,show(1:Int)>0 by decide,if_true]
   by_cases h:i<0
   ·simp only[h,if_true]<;>omega
   ·simp only[h,if_false]<;>omega
 ·cases hi with
  |none=>simp[sliceBounds,HT.sIx]
  |some i =>
   simp only[sliceBounds,HT.sIx,Option.getD_none,show(1:Int)>0 by decide,if_true]
   by_cases h:i<0
   ·simp only[h,if_true]<;>omega
   ·simp only[h,if_false]<;>omega
theorem slicePick_cut(its:List Value)(lo hi:Option Int):slicePick its.toArray lo hi none=((its.drop (HT.sIx its.length 0 lo)).take (HT.sIx its.length its.length hi-HT.sIx its.length 0 lo)).toArray:=by
 obtain⟨h1,h2,h3⟩:=slice_bounds lo hi its.toArray.size
 unfold slicePick
 rw[h1,h2,h3]
 simp only[sliceRange_one,pick_run,List.size_toArray]<;>rfl
def rSlL(K:PySem.W.Frag):V->Option Int->Option Int->Hp->VK->Prop:=fun x lo hi H Q=>∃a xs,x=.ref a/\SqL K H a xs/\∀p,H p=none->Q (.ref p) (upd H p (.lst (cutV xs lo hi)))
theorem sl_list:SlR X (rSlL X.K):=by
 intro pins s σ H x v vl vu lo hi sl Q I rx hs pl pu h
 obtain⟨a,xs,rfl,hx,q⟩:=h
 cases rx
 obtain⟨its,r,ht,hz⟩:=I.list hx
 have hlen:=r.length
 refine⟨"list",_,slot_list_getitem.lookup,ht.isList.typeIs,?_⟩
 refine wpAny_getItem_list_slice ht.isList hs pl pu .none (by simp) ?_ (by rw[List.size_toArray]<;>omega)
 rw[slicePick_cut,←hlen]
 refine⟨.ref s.heap.objs.size,_,I.laid (t':=s.toks) (o:=.lst (cutV xs lo hi)) (fun b ob q=>Heap.get?_push_of_some _ q) (Nat.le_refl _) ?_,rfl,q _ (I.hok.fresh (Nat.le_refl _))⟩
 exact⟨Nat.le_trans (cutV_length xs lo hi) hz,_,0,(r.drop (HT.sIx xs.length 0 lo)).take (HT.sIx xs.length xs.length hi-HT.sIx xs.length 0 lo),Heap.get?_push_size _ rfl⟩
def flatV:V->Bool
 |.non=>true
 |.bl _=>true
 |.int _=>true
 |.str _=>true
 |_=>false
def eqV:V->V->Bool
 |.non,.non=>true
 |.bl a,.bl b=>a == b
 |.bl a,.int b=>(if a then 1 else 0) == b
 |.int a,.bl b=>a == (if b then 1 else 0)
 |.int a,.int b=>a == b
 |.str a,.str b=>a == b
 |_,_=>false
theorem eqAt_V{A:Around}{s:Shared}{y x:V}{u v:Value}(ry:RelV y u)(rx:RelV x v)(fy:flatV y=true)(fx:flatV x=true):SeqAt.EqAt A s u v (eqV y x):=by
 cases y with
 |non =>
  cases ry
  cases x with
  |non=>cases rx;exact SeqAt.EqAt.same _
  |bl b=>cases rx;exact SeqAt.EqAt.none_bool b
  |int b=>obtain⟨t,rfl⟩:=rx;exact SeqAt.EqAt.none_int b t
  |str b=>obtain⟨t,rfl⟩:=rx;exact SeqAt.EqAt.none_str b t
  |_=>exact absurd (show false=true from fx) Bool.false_ne_true
 |bl a =>
  cases ry
  cases x with
  |non=>cases rx;exact SeqAt.EqAt.bool_none a
  |bl b=>cases rx;exact SeqAt.EqAt.bool_bool a b
  |int b=>obtain⟨t,rfl⟩:=rx;exact SeqAt.EqAt.bool_int a b t
  |str b=>obtain⟨t,rfl⟩:=rx;exact SeqAt.EqAt.bool_str a b t
  |_=>exact absurd (show false=true from fx) Bool.false_ne_true
 |int a =>
  obtain⟨t',rfl⟩:=ry
  cases x with
  |non=>cases rx;exact SeqAt.EqAt.int_none a t'
  |bl b=>cases rx;exact SeqAt.EqAt.int_bool a t' b
  |int b=>obtain⟨t,rfl⟩:=rx;exact SeqAt.EqAt.int_int a t' b t
  |str b=>obtain⟨t,rfl⟩:=rx;exact SeqAt.EqAt.int_str a t' b t
  |_=>exact absurd (show false=true from fx) Bool.false_ne_true
 |str a =>
  obtain⟨t',rfl⟩:=ry
  cases x with
  |non=>cases rx;exact SeqAt.EqAt.str_none a t'
  |bl b=>cases rx;exact SeqAt.EqAt.str_bool a t' b
  |int b=>obtain⟨t,rfl⟩:=rx;exact SeqAt.EqAt.str_int a t' b t
  |str b=>obtain⟨t,rfl⟩:=rx;exact SeqAt.EqAt.str_str a t' b t
  |_=>exact absurd (show false=true from fx) Bool.false_ne_true
 |_=>exact absurd (show false=true from fy) Bool.false_ne_true
def eqU(x:V)(u:Value):Bool:=match u with
 |.none=>eqV .non x
 |.bool b=>eqV (.bl b) x
 |.int i _=>eqV (.int i) x
 |.str z _=>eqV (.str z) x
 |_=>false
theorem eqU_of{x y:V}{u:Value}(r:RelV y u)(f:flatV y=true):eqU x u=eqV y x:=by
 cases y with
 |non=>cases r;rfl
 |bl b=>cases r;rfl
 |int i=>obtain⟨t,rfl⟩:=r;rfl
 |str z=>obtain⟨t,rfl⟩:=r;rfl
 |_=>exact absurd (show false=true from f) Bool.false_ne_true
theorem any_eqU{x:V}:∀{xs:List V}{us:List Value},Vals xs us->xs.all flatV=true->us.any (eqU x)=xs.any fun y=>eqV y x
 |_,_,.nil,_=>rfl
 |y::xs,u::us,.cons r t,f=>by
  rw[List.all_cons,Bool.and_eq_true]at f
  rw[List.any_cons,List.any_cons,eqU_of r f.1,any_eqU t f.2]
theorem mem_eqAt{A:Around}{s:Shared}{x:V}{v:Value}(rx:RelV x v)(fx:flatV x=true):∀{xs:List V}{us:List Value},Vals xs us->xs.all flatV=true->∀u∈us,SeqAt.EqAt A s u v (eqU x u)
 |_,_,.nil,_=>fun u hu=>by cases hu
 |y::xs,u::us,.cons r t,f=>fun u' hu=>by
  rw[List.all_cons,Bool.and_eq_true]at f
  rcases List.mem_cons.mp hu with rfl|hu
  ·rw[eqU_of r f.1];exact eqAt_V r rx f.1 fx
  ·exact mem_eqAt rx fx t f.2 u' hu
def inV(x:V)(xs:List V):Bool:=xs.any fun y=>eqV y x
def rIn(K:PySem.W.Frag)(neg:Bool):R2:=fun x y H Q=>∃p xs,y=.ref p/\(SqL K H p xs\/SqT K H p xs)/\flatV x=true/\xs.all flatV=true/\Q (.bl (if neg then !inV x xs else inV x xs)) H
theorem op_in_seq:OpR X (compareOp .In) (rIn X.K false):=by
 intro pins s σ H x y v u Q I rx ry h
 obtain⟨p,xs,rfl,hq,fx,fs,q⟩:=h
 cases ry
 rcases hq with hq|hq
 ·obtain⟨its,r,pl,hz⟩:=I.list hq
  refine SeqAt.in_listAt (eqU x) pl.isList (fun w hw=>mem_eqAt rx fx r fs w (by simpa using hw)) ⟨.bl _,H,I,rfl,?_⟩
  rw[show its.toArray.any (eqU x)=its.any (eqU x) by simp,any_eqU r fs]
  exact q
 ·obtain⟨its,r,pl,hz⟩:=I.tuple hq
  refine SeqAt.in_tupleAt (eqU x) pl (fun w hw=>mem_eqAt rx fx r fs w (by simpa using hw)) ⟨.bl _,H,I,rfl,?_⟩
  rw[show its.toArray.any (eqU x)=its.any (eqU x) by simp,any_eqU r fs]
  exact q
theorem op_notIn_seq:OpR X (compareOp .NotIn) (rIn X.K true):=by
 intro pins s σ H x y v u Q I rx ry h
 obtain⟨p,xs,rfl,hq,fx,fs,q⟩:=h
 cases ry
 rcases hq with hq|hq
 ·obtain⟨its,r,pl,hz⟩:=I.list hq
  refine SeqAt.notIn_listAt (eqU x) pl.isList (fun w hw=>mem_eqAt rx fx r fs w (by simpa using hw)) ⟨.bl _,H,I,rfl,?_⟩
  rw[show its.toArray.any (eqU x)=its.any (eqU x) by simp,any_eqU r fs]
  exact q
 ·obtain⟨its,r,pl,hz⟩:=I.tuple hq
  refine SeqAt.notIn_tupleAt (eqU x) pl (fun w hw=>mem_eqAt rx fx r fs w (by simpa using hw)) ⟨.bl _,H,I,rfl,?_⟩
  rw[show its.toArray.any (eqU x)=its.any (eqU x) by simp,any_eqU r fs]
  exact q
theorem call_len_seq:CallR X (.builtin "len") (fun xs H Q=>∃p ys,xs=[.ref p]/\(SqL X.K H p ys\/SqT X.K H p ys)/\Q (.int ys.length) H):=by
 intro pins s σ H xs us Q I r h
 obtain⟨p,ys,rfl,hq,q⟩:=h
 obtain⟨u,rfl,rx⟩:=vals1 r
 cases rx
 have hn:=line63
 rcases hq with hq|hq
 ·obtain⟨its,r',pl,hz⟩:=I.list hq
  have hlen:=r'.length
  exact Calls.call_len_list pl.isList (by simp only[List.size_toArray]<;>omega) ⟨.int ys.length,H,I.tok _,⟨s.toks+1,by rw[List.size_toArray,hlen]⟩,q⟩
 ·obtain⟨its,r',pl,hz⟩:=I.tuple hq
  have hlen:=r'.length
  exact len_tuple pl (by simp only[List.size_toArray]<;>omega) ⟨.int ys.length,H,I.tok _,⟨s.toks+1,by rw[List.size_toArray,hlen]⟩,q⟩
theorem call_len_str:CallR X (.builtin "len") (fun xs H Q=>∃z,xs=[.str z]/\z.length<=sizeLine/\Q (.int z.length) H):=by
 intro pins s σ H xs us Q I r h
 obtain⟨z,rfl,hz,q⟩:=h
 obtain⟨u,rfl,t,rfl⟩:=vals1 r
 have hn:=line63
 exact len_str (by omega) ⟨.int z.length,H,I.tok _,⟨_,rfl⟩,q⟩
def tyV(K:PySem.W.Frag)(T:String)(x:V)(H:Hp):Prop:=match x with
 |.str _=>T="str"
 |.int _=>T="int"
 |.ref p=>(T="list"/\∃xs,SqL K H p xs)\/(T="tuple"/\∃o,K.lookup p=some o/\o.cls=.type "tuple"/\o.dict=none) \/
   (T="dict"/\((∃kvs,H p=some (.dK kvs))\/∃kvs,H p=some (.dT kvs)))\/(T="set"/\∃S n,H p=some (.set S n))
 |_=>False
theorem tyV_is{pins:List (Addr×Obj)}{σ:St}{H:Hp}{s:Shared}{T:String}{x:V}{v:Value}(I:Inv X pins σ H s)(r:RelV x v)(ty:tyV X.K T x H) :
  s.TypeIs v T/\∀a,v=.ref a->∃ob,s.heap.get? a=some ob/\ob.dict=none:=by
 cases x with
 |str z =>
  obtain⟨t,rfl⟩:=r
  cases(show T="str" from ty)
  exact⟨typeIs_str s z t,fun _ e=>nomatch e⟩
 |int i =>
  obtain⟨t,rfl⟩:=r
  cases(show T="int" from ty)
  exact⟨typeIs_int s i t,fun _ e=>nomatch e⟩
 |ref p =>
  cases r
  rcases ty with⟨rfl,xs,hq⟩|⟨rfl,o,hk,hc,hd⟩|⟨rfl,hk⟩|⟨rfl,S,n,hk⟩
  ·obtain⟨its,_,pl,_⟩:=I.list hq
   refine⟨pl.isList.typeIs,fun a e=>?_⟩
   cases e
   obtain⟨o,n,e,c,hd,_⟩:=pl
   exact⟨o,e,hd⟩
  ·refine⟨⟨o,I.kIn p o hk,hc⟩,fun a e=>?_⟩
   cases e
   exact⟨o,I.kIn _ o hk,hd⟩
  ·have z:∃o,s.heap.get? p=some o/\o.ExactDict:=by
    rcases hk with⟨kvs,hk⟩|⟨kvs,hk⟩
    ·obtain⟨_,_,_,_,o,_,_,e,ex,_⟩:=I.hok p _ hk
     exact⟨o,e,ex⟩
    ·obtain⟨_,_,_,_,o,_,_,e,ex,_⟩:=I.hok p _ hk
     exact⟨o,e,ex⟩
   obtain⟨o,e,ex⟩:=z
   refine⟨⟨o,e,ex.1⟩,fun a e2=>?_⟩
   cases e2
   exact⟨o,e,ex.2.1⟩
  ·obtain⟨o,_,_,_,e,ex,_⟩:=I.hok p _ hk
   refine⟨⟨o,e,ex.1⟩,fun a e2=>?_⟩
   cases e2
   exact⟨o,e,ex.2.1⟩
 |_=>exact False.elim ty
def tBM0(K:PySem.W.Frag)(T:String)(r:V->List V->Hp->VK->Prop)(to:TE):TE:=fun σ H Q=>to σ H fun x H1=>tyV K T x H1/\r x [] H1 Q
def tBM(K:PySem.W.Frag)(T:String)(r:V->List V->Hp->VK->Prop)(to:TE)(t:TA):TE:=fun σ H Q=>to σ H fun x H1=>tyV K T x H1/\t σ H1 fun xs H2=>r x xs H2 Q
variable {o e:Expr}{es:List Expr}{to:TE}{t:TA}{name:Str}{apos cpos:Pos}{T id:String}{r:V->List V->Hp->VK->Prop}
theorem pe_bm0(pa:PlainAttrs T)(slot:Slot T name id)(hty:typeOf (.builtin id)=pure (.type "method_descriptor"))(hm:MtR X id r)(ho:PE X o to)
  (hbase:attributeBase o name X.env (eval o X.env)=eval o X.env:=by rfl) (hline:(apos.endLine == cpos.line)=true:=by rfl):PE X (.Call (.Attribute o name apos) [] [] cpos) (tBM0 X.K T r to):=by
 intro pins s σ H Q I h
 refine wpAny_Call_method0_late hbase hline (thn (ho pins s σ H _ I h) fun v s1 ⟨x,H1,I1,r1,ty,q1⟩=>?_)
 obtain⟨h1,h2⟩:=tyV_is I1 r1 ty
 exact⟨T,id,pa,slot,hty,h1,h2,Calls.callWith_builtin rfl (PySem.evalArgs_none (hm pins s1 σ H1 x [] v [] Q I1 r1 .nil q1))⟩
theorem pe_bm(pa:PlainAttrs T)(slot:Slot T name id)(hty:typeOf (.builtin id)=pure (.type "method_descriptor"))(hm:MtR X id r)(ho:PE X o to)(ha:PA X (e::es) t)
  (hbase:attributeBase o name X.env (eval o X.env)=eval o X.env:=by rfl)
  (hfew:((backTo cpos (starEach (e::es) X.env)).all (fun x=>!x.1)&&(backToKw cpos (keywordEach [] X.env)).all (fun x=>x.1.isSome)
   && decide ((e::es).length+([]:List Keyword).length+(if([]:List Keyword).isEmpty then 0 else 1)<30))=true:=by rfl)
  (hline:(apos.endLine == cpos.line)=true:=by rfl) (hs:starEach (e::es) X.env=(false,eval e X.env)::starEach es X.env:=by rfl) (hplain:(backTo cpos (starEach es X.env)).any (·.1)=false:=by rfl) :
  PE X (.Call (.Attribute o name apos) (e::es) [] cpos) (tBM X.K T r to t):=by
 intro pins s σ H Q I h
 refine wpAny_Call_method_late hbase hfew hline rfl (thn (ho pins s σ H _ I h) fun v s1 ⟨x,H1,I1,r1,ty,q1⟩=>?_)
 obtain⟨h1,h2⟩:=tyV_is I1 r1 ty
 refine⟨T,id,pa,slot,hty,h1,h2,?_⟩
 have hA:=ha cpos pins s1 σ H1 _ I1 q1
 rw[hs]at hA⊢
 refine Calls.callWith_builtin (by show(false||(backTo cpos (starEach es X.env)).any (·.1))=false;rw[hplain]<;>rfl) (Calls.evalArgs_plain ?_)
 exact thn hA fun us s2 ⟨vs,H2,I2,r2,q2⟩=>hm pins s2 σ H2 x vs v us Q I2 r1 r2 q2
/- xs.append(e),list.index on a module's tuple .. are MtR facts of 06m -/
end
def MtM(X:Cx)(id:String)(r:V->List V->Hp->VK->Prop):Prop :=
 ∀(pins:List (Addr×Obj)) (s:Shared) (σ:St) (H:Hp) (x:V) (xs:List V) (v:Value) (us:List Value) (Q:VK),Inv X pins σ H s->RelV x v->Vals xs us->r x xs H Q ->
  wpAny (model X.prog X.w) X.A (call (.builtin id) (v::us)) (EP X pins σ Q) X.xe s
theorem Vals.one:∀{x:V}{us:List Value},Vals [x] us->∃u,us=[u]/\RelV x u
 |_,_,.cons r .nil=>⟨_,rfl,r⟩
theorem Vals.zero:∀{us:List Value},Vals [] us->us=[]
 |_,.nil=>rfl
theorem Vals.dropLast{xs:List V}{us:List Value}(h:Vals xs us):Vals xs.dropLast us.dropLast:=by
 induction h with
 |nil=>exact .nil
 |cons r t ih =>
  cases t with
  |nil=>exact .nil
  |cons q t'=>exact .cons r ih
theorem erase_last{α:Type}(l:List α):l.eraseIdx (l.length-1)=l.dropLast:=by
 induction l with
 |nil=>rfl
 |cons a r ih =>
  cases r with
  |nil=>rfl
  |cons b r =>
   have e:(a::b::r).length-1=((b::r).length-1)+1:=by
    have h1:(a::b::r).length=r.length+2:=rfl
    have h2:(b::r).length=r.length+1:=rfl
    omega
   rw[e,List.eraseIdx_cons_succ,ih]
   all_goals rfl
section
variable {X:Cx}{pins:List (Addr×Obj)}{σ:St}{H:Hp}{s:Shared}{l b:Addr}{xs ys zs:List V}
theorem Inv.lset{its its':List Value}{n:Nat}{f:Array Value->Array Value}{t':Nat}(I:Inv X pins σ H s)(hH:H l=some (.lst xs))
  (e:s.heap.get? l=some {cls:=.type "list",data:=.seq its.toArray n}) (hf:f its.toArray=its'.toArray) (hv:Vals ys its') (hz:ys.length<=sizeLine) :
  Inv X pins σ (upd H l (.lst ys)) {s with heap:=s.heap.update l (Obj.mapSeq f),toks:=t'}:=by
 have q:=PySem.IsL.update e f
 rw[hf]at q
 refine I.write (x:=l) (e:=l) (by rw[hH];exact trivial) (.inl rfl) (fun b' u hb hu=>(Heap.get?_update_other s.heap (Obj.mapSeq f) (Ne.symm hb)).trans hu) ⟨_,q⟩ ?_
 exact⟨hz,its',_,hv,q⟩
theorem Inv.lnew{its:List Value}{t':Nat}(I:Inv X pins σ H s)(hv:Vals ys its)(hz:ys.length<=sizeLine) :
  Inv X pins σ (upd H s.heap.objs.size (.lst ys)) {s with heap:=s.heap.push {cls:=.type "list",data:=.seq its.toArray},toks:=t'} :=
 I.laid (fun _ _ q=>Heap.get?_push_of_some _ q) (Nat.le_refl _) ⟨hz,its,0,hv,Heap.get?_push_size _ rfl⟩
theorem Inv.fresh(I:Inv X pins σ H s):H s.heap.objs.size=none:=I.hok.fresh (Nat.le_refl _)
theorem Inv.lstM(I:Inv X pins σ H s)(hH:H l=some (.lst xs)):xs.length<=sizeLine/\∃(its:List Value) (n:Nat),Vals xs its/\xs.length=its.length/\s.heap.get? l=some {cls:=.type "list",data:=.seq its.toArray n}:=by
 obtain⟨z,its,n,r,e⟩:=I.hok l _ hH
 exact⟨z,its,n,r,r.length,e⟩
end
section
variable {X:Cx}
def rAppend:V->List V->Hp->VK->Prop:=fun x vs H Q=>∃l xs y,x=.ref l/\vs=[y]/\H l=some (.lst xs)/\xs.length<sizeLine/\Q .non (upd H l (.lst (xs++[y])))
theorem mt_append:MtM X "list.append" rAppend:=by
 intro pins s σ H x vs v us Q I rx rv h
 obtain⟨l,xs,y,rfl,rfl,hH,hz,q⟩:=h
 cases rx
 obtain⟨u,rfl,ru⟩:=rv.one
 obtain⟨z,its,n,r,hl,e⟩:=I.lstM hH
 refine call_meets F.slot_list_append ⟨_,e,rfl⟩ F.entry_list_append (F.args_list_append_2 _ _) (PySem.list_append l its.toArray n u (by rw[List.size_toArray];omega)) ⟨e,?_⟩
 refine⟨.non,_,I.lset (its':=its++[u]) hH e (by simp) (r.append (.cons ru .nil)) ?_,rfl,q⟩
 rw[List.length_append,List.length_singleton]
 omega
def rPop:V->List V->Hp->VK->Prop:=fun x vs H Q=>∃l xs y,x=.ref l/\vs=[]/\H l=some (.lst xs)/\xs[xs.length-1]?=some y/\Q y (upd H l (.lst xs.dropLast))
theorem mt_pop:MtM X "list.pop" rPop:=by
 intro pins s σ H x vs v us Q I rx rv h
 obtain⟨l,xs,y,rfl,rfl,hH,hy,q⟩:=h
 cases rx
 have hus:=rv.zero
 subst hus
 obtain⟨z,its,n,r,hl,e⟩:=I.lstM hH
 obtain⟨u,hu,ru⟩:=r.get hy
 have hy':its.toArray[its.toArray.size-1]?=some u:=by
  show its.toArray[its.length-1]?=some u
  rw[←Array.getElem?_toList,←hl]
  exact hu
 refine call_meets F.slot_list_pop ⟨_,e,rfl⟩ F.entry_list_pop (F.args_list_pop_1 _) (MeetsSeq.list_pop_last l its.toArray n u hy' (by rw[List.size_toArray];omega)) ⟨e,?_⟩
 refine⟨y,_,I.lset (its':=its.dropLast) hH e ?_ r.dropLast ?_,ru,q⟩
 ·show its.toArray.eraseIdxIfInBounds (its.toArray.size-1)=its.dropLast.toArray
  rw[List.size_toArray,List.eraseIdxIfInBounds_toArray,erase_last]
 ·rw[List.length_dropLast]
  omega
def rCat:R2:=fun x y H Q=>∃l b xs zs,x=.ref l/\y=.ref b/\H l=some (.lst xs)/\H b=some (.lst zs)/\xs.length+zs.length<=sizeLine/\∀p,H p=none->Q (.ref p) (upd H p (.lst (xs++zs)))
theorem op_cat:OpR X (binaryOp .Add) rCat:=by
 intro pins s σ H x y v u Q I rx ry h
 obtain⟨l,b,xs,zs,rfl,rfl,hH,hB,hz,q⟩:=h
 cases rx
 cases ry
 obtain⟨z,its,n,r,hl,e⟩:=I.lstM hH
 obtain⟨z2,its2,n2,r2,hl2,e2⟩:=I.lstM hB
 refine PySem.P.add_list e e2 ?_ (by rw[List.size_toArray,List.size_toArray];omega)
 have ea:its.toArray++its2.toArray=(its++its2).toArray:=by simp
 rw[ea]
 exact⟨.ref _,_,I.lnew (t':=s.toks) (r.append r2) (by rw[List.length_append];omega),rfl,q _ I.fresh⟩
end
section
variable {prog:Program}{w:World}{A:Around}{E:Value->Shared->Prop}{s:Shared}
end
section
variable {X:Cx}
end
end L2
namespace Att
open PySem PySem.W PySem.Calls PyProof.Rows
theorem ints_of_wellAll{P:Params}{h:Heap}:∀(ns:List Int) (vs:List Value),WellAll P h vs (ns.map WData.int)->IntsAre vs ns:=by
 intro ns
 induction ns with
 |nil =>
  intro vs w
  rw[List.map_nil]at w
  cases w
  exact .nil
 |cons n ns ih =>
  intro vs w
  rw[List.map_cons]at w
  cases w with
  |cons a b =>
   cases a
   exact .cons _ _ (ih _ b)
theorem script_of{l:OpenLaw}{n:Nat}(hn:l.most=some n){P:Params}{h:Heap}{args:List WData}{vals:List Value}
  (hpre:l.row.toRowW.claim.pre args=true) (hwl:WellAll P h vals args) :
  ∃a vs ns,vals=[Value.ref a]/\args=[WData.list (ns.map WData.int)]/\h.get? a=some {cls:=.type "list",data:=.seq vs.toArray}/\IntsAre vs ns/\ns.length<=n:=by
 have hsh:WShape.hasAll [] args [.list .int]=true:=(pre_splitW hpre).1
 have hc:l.pre.holds [] {args:=args}=true:=(pre_splitW hpre).2
 obtain⟨d,r,rfl,h1,h2⟩:=hasAllW_cons hsh
 obtain rfl:=hasAllW_nil h2
 obtain⟨xs,rfl,h3⟩:=hasW_list h1
 obtain⟨ns,rfl⟩:=items_int h3
 have hlen:ns.length<=n:=by
  unfold OpenLaw.pre at hc
  have h4:(WTm.not (.lt (.lit (.int (n:Int))) (.len (.arg 0)))).holds [] {args:=[.list (ns.map .int)]}=true:=by
   have h4:=(holds_andW hc).1
   rw[hn]at h4
   exact h4
  have h5:=condW_of h4 (w_not (w_lt w_lit (w_len_list (w_arg rfl))))
  rw[List.length_map]at h5
  refine Nat.le_of_not_lt fun q=>?_
  have q':(n:Int)<((ns.length:Nat):Int):=by omega
  first
   |(rw[decide_eq_true q']at h5;exact absurd h5 (by decide))
   |(simp at h5;omega)
 cases hwl with
 |cons w1 w2 =>
  cases w2
  cases w1 with
  |list ho hall=>exact⟨_,_,ns,rfl,rfl,ho,ints_of_wellAll ns _ hall,hlen⟩
theorem post_true(l:OpenLaw)(args:List WData):l.row.toRowW.claim.post args (.bool true) args=true :=
 postW_of (r:=l.row.toRowW) (X:=(true == true))
  (show WShape.has [] (.bool true) .bool=true by first|rfl|decide|simp[WShape.has,WShape.arms,WShape.armsAll])
  (show(WTm.eq .res (.lit (.bool true))).value [] {args:=args,res:=some (.bool true),after:=args}=some (.bool (true == true))from w_eq_bool (w_res rfl) w_lit) rfl
theorem attach_call{l:OpenLaw}{n:Nat}{q:Program}{loose:List Str}{XP:(Str->Option Value)->Heap->Prop}{YP:World->Heap->Prop}{d:DefRec}
  (hn:l.most=some n) (hdf:d.params.defaults=[])
  (call:∀(w:World) (s₀ s₁:Shared) (mg mb:Str->Option Value) (fa:Addr) (o:Obj) (pm cd doc:Value) (a:Addr) (vs:List Value) (ns:List Int),
   Ground q loose [] XP w s₀ mg mb s₁.heap->YP w s₁.heap ->
   s₁.heap.get? fa=some o->o.data=.func (docDef d.name d.params d.body d.scope pm cd doc)->s₁.heap.CodeRec cd d.name->mg d.name=some (.ref fa) ->
   s₁.heap.get? a=some {cls:=.type "list",data:=.seq vs.toArray}->IntsAre vs ns->ns.length<=n->s₁.gens=#[] ->
   codeAny (model l.prog w) callerA (.call (.ref fa) ⟨[.ref a],[]⟩) (fun r s'=>r=.ok (.ret (.bool true))/\OldK s₁.heap s'.heap/\s'.os=s₁.os/\AllBare s'.gens) s₁) :
  WalkO q loose XP YP l.row.toRowW d [] (fun f vs=>PySem.call f vs):=by
 intro w s₀ s₁ mg mb G Y fa o pm cd doc dV kV ho hd hcd hD hmg hg args vals as hpre hlay hrd hwl hlo
 obtain rfl:dV=.none:=Dflts.none hD hdf
 obtain rfl:kV=.none:=Dflts.noKw hD
 obtain⟨a,vs,ns,rfl,rfl,hobj,hints,hlen⟩:=script_of hn hpre hwl
 refine enter_call (codeAny_mono (call w s₀ s₁ mg mb fa o pm cd doc a vs ns G Y ho (fd_plain hd) hcd hmg hobj hints hlen hg) fun r s' hq=>?_)
 obtain⟨rfl,h2,h3,h4⟩:=hq
 exact⟨.inl ⟨.bool true,.bool true,[],rfl,fun _=>rfl,.bool true,post_true l _,fun _=>⟨List.Pairwise.nil,fun _ hm=>(nomatch hm)⟩⟩,h2,h3,h4⟩
section
variable {prog:Program}{w:World}{A:Around}{E:Value->Shared->Prop}{s:Shared}{K:Frag}
end
end Att
namespace L2
open PySem PySem.Spec PyProof.Rows
theorem vals_ints:∀{vs:List Value}{ns:List Int},IntsAre vs ns->Vals (ns.map V.int) vs
 |_,_,.nil=>.nil
 |_,_,.cons n t h=>.cons ⟨t,rfl⟩ (vals_ints h)
def Only(H:Hp):Prop:=∀b,H b=none\/∃o xs,H b=some (.frz o (.lst xs))
theorem law_call{P:Program}{w:World}{K:PySem.W.Frag}{mg mb:Str->Option Value}{CX:CXT}{k:Nat}{fa a:Addr}{fd:FuncData}{x:Str}{sp:Sp}{s₁:Shared}{vs:List Value}{ns:List Int}
  (KX:K.In s₁.heap) (hns:s₁.heap.Ns mainGlobals mg) (hb:s₁.heap.Ns builtinsNs mb) (hbb:∀x:Str,x≠"__name__"->mb x=bootBuiltins x) (hlim:s₁.heap.NoLimit) (hg:s₁.gens=#[])
  (ha:s₁.heap.get? a=some {cls:=.type "list",data:=.seq vs.toArray}) (hi:IntsAre vs ns) (hl:ns.length<=sizeLine) (hr:Room k callerA)
  (F:∀base:Heap,K.In base->base.Ns mainGlobals mg->FnOk P w K mg base CX k fa fd [x] sp) (hbind:∀(s:Shared) (u:Value),BindsTo s fd ⟨[u],[]⟩ [(x,u)])
  (hsp:∀H:Hp,Only H->SqL K H a (ns.map V.int)->sp [.ref a] H (fun v _=>v=.bl true) fun _ _ _=>False)
  (hCX:∀H e s',CX [] H s₁ (fun _ _ _=>False) e s'->False) :
  codeAny (model P w) callerA (.call (.ref fa) ⟨[.ref a],[]⟩) (fun r s'=>r=.ok (.ret (.bool true))/\OldK s₁.heap s'.heap/\s'.os=s₁.os/\AllBare s'.gens) s₁:=by
 have rv:=vals_ints hi
 have lenV:=hi.length
 -- from an abstract heap in which nothing but the script may be tracked
 have core:∀H:Hp,Only H->SqL K H a (ns.map V.int)->HOk P w H s₁.heap->(∀b,H b≠none->b=a)->(H a≠none->K.lookup a=none) ->
   codeAny (model P w) callerA (.call (.ref fa) ⟨[.ref a],[]⟩) (fun r s'=>r=.ok (.ret (.bool true))/\OldK s₁.heap s'.heap/\s'.os=s₁.os/\AllBare s'.gens) s₁:=by
  intro H hO hS hok hA hK
  have base_of:∀{b:Addr}{o:Obj},s₁.heap.get? b=some o->H b=none->(hidT s₁.heap H).get? b=some o:=fun e n=>hidT_get e n
  have noA:∀{b:Addr}{o:Obj}{es:Array DictEntry}{ep:Nat},s₁.heap.get? b=some o->o.data=.dict es ep->H b=none:=fun{b o es ep} e d=>by
   cases q:H b with
   |none=>rfl
   |some u =>
    have e':b=a:=hA b (by rw[q];simp)
    subst e'
    rw[ha]at e;cases e
    have d':Data.seq vs.toArray _=Data.dict es ep:=d
    cases d'
  have nsK:∀{b:Addr}{m:Str->Option Value},s₁.heap.Ns b m->(hidT s₁.heap H).Ns b m:=fun{b m} ⟨o,es,ep,e,d,r⟩=>⟨o,es,ep,base_of e (noA e d),d,r⟩
  have hKb:K.In (hidT s₁.heap H):=fun b o e=>base_of (KX b o e) (by
   cases q:H b with
   |none=>rfl
   |some u =>
    have e':b=a:=hA b (by rw[q];simp)
    subst e'
    rw[hK (by rw[q];simp)]at e;cases e)
  have hM:Mod K mg (hidT s₁.heap H):=⟨hKb,nsK hns,⟨mb,nsK hb,hbb⟩,let⟨mc,h1,h2⟩:=hlim;⟨mc,nsK h1,h2⟩⟩
  have e0:Env0 P w K mg (hidT s₁.heap H) callerA [] s₁ H:=⟨rfl,hM,fun b o e=>of_hidT e,Nat.le_of_eq (hidT_size _ _),trivial,fun b hb=>absurd (show b∈([]:List Addr)from hb) (by simp),hok,.of_eq hg⟩
  refine codeAny_mono ((F _ hKb (nsK hns)).run callerA [] s₁ H ⟨[.ref a],[]⟩ [.ref a] [.ref a] _ _ hr e0 (hbind s₁ (.ref a)) (.cons rfl .nil) (hsp H hO hS)) fun r s' h=>?_
  cases r with
  |error e=>exact(hCX H e s' h).elim
  |ok fl =>
   cases fl with
   |next=>exact False.elim h
   |brk=>exact False.elim h
   |cont=>exact False.elim h
   |ret u =>
    obtain⟨v,H',os,bare,un,hok',r',q⟩:=h
    have q':v=.bl true:=q
    subst q'
    obtain rfl:u=Value.bool true:=r'
    refine⟨rfl,OldK.of_keep fun b o e=>?_,os,bare⟩
    cases q:H b with
    |none=>exact un.keep b o e q (by intro z;exact absurd (show b∈([]:List Addr)from z) (by simp)) (by simp)
    |some u =>
     rcases hO b with z|⟨ob,xs,z⟩
     ·rw[q]at z;cases z
     ·have z2:=un.frzs b ob _ z
      obtain⟨e1,_⟩:=hok b _ z
      obtain⟨e2,_⟩:=hok' b _ z2
      rw[e]at e1;cases e1
      exact e2
 cases hk:K.lookup a with
 |some o =>
  -- the script is one of the module's own objects
  have e:=KX a o hk
  rw[ha]at e
  cases e
  refine core (fun _=>none) (fun _=>.inl rfl) (.inr ⟨_,vs.toArray,_,hk,rfl,rfl,rfl,by rw[List.size_toArray,lenV];exact hl,by simpa using rv⟩) (fun b u z=>by have z':(none:Option HO)=some u:=z;cases z') (fun b z=>absurd rfl z) fun z=>absurd rfl z
 |none =>
  refine core (fun b=>if b=a then some (.frz {cls:=.type "list",data:=.seq vs.toArray} (.lst (ns.map V.int)))else none) (fun b=>?_) (.inl (.inr ⟨{cls:=.type "list",data:=.seq vs.toArray},if_pos rfl⟩)) (fun b u z=>?_) (fun b z=>?_) fun _=>hk
  ·by_cases hb:b=a
   ·exact .inr ⟨_,_,if_pos hb⟩
   ·exact .inl (if_neg hb)
  ·by_cases hb:b=a
   ·have z':=(if_pos hb).symm.trans z
    cases z'
    subst hb
    exact⟨ha,by rw[List.length_map];exact hl,vs,_,rv,ha⟩
   ·have z':=(if_neg hb).symm.trans z
    cases z'
  ·by_cases hb:b=a
   ·exact hb
   ·exact absurd (if_neg hb) z
theorem walk_of{l:PySem.W.OpenLaw}{n k:Nat}{q:Program}{loose:List Str}{XP:(Str->Option Value)->Heap->Prop}{YP:World->Heap->Prop}{d:DefRec}{K:Params->PySem.W.Frag}{CX:World->CXT}{sp:World->Sp}{x:Str}
  (hn:l.most=some n) (hn2:n<=sizeLine) (hdf:d.params.defaults=[]) (hr:Room k callerA)
  (hY:∀(w:World) (h:Heap),YP w h->(K w.params).In h)
  (F:∀(w:World) (mg:Str->Option Value) (fa:Addr) (h:Heap),(K w.params).In h->h.Ns mainGlobals mg->mg d.name=some (.ref fa) ->
   ∃fd:FuncData,(∀(s:Shared) (u:Value),BindsTo s fd ⟨[u],[]⟩ [(x,u)]) /\
    ∀base:Heap,(K w.params).In base->base.Ns mainGlobals mg->FnOk l.prog w (K w.params) mg base (CX w) k fa fd [x] (sp w))
  (hsp:∀(w:World) (H:Hp) (a:Addr) (ns:List Int),ns.length<=n->Only H->SqL (K w.params) H a (ns.map V.int)->sp w [.ref a] H (fun v _=>v=.bl true) fun _ _ _=>False)
  (hCX:∀(w:World) (H:Hp) (s:Shared) (e:Value) (s':Shared),CX w [] H s (fun _ _ _=>False) e s'->False) :
  PySem.W.WalkO q loose XP YP l.row.toRowW d [] (fun f vs=>PySem.call f vs):=by
 refine Att.attach_call hn hdf fun w s₀ s₁ mg mb fa o pm cd doc a vs ns G Y ho hd hcd hmg hobj hints hlen hg=>?_
 have KX:=hY w _ Y
 obtain⟨fd,hb,hF⟩:=F w mg fa _ KX G.T.g hmg
 exact law_call KX G.T.g G.T.b G.T.builtins G.T.nolimit hg hobj hints (Nat.le_trans hlen hn2) hr hF hb (fun H hO hS=>hsp w H a ns hlen hO hS) fun H e s'=>hCX w H s₁ e s'
def defArgs(s:Stmt):Arguments:=match s with
 |.FunctionDef _ a _ _ _ _ _ _ _ _=>a
 |_=>{posonlyargs:=[],args:=[],vararg:=none,kwonlyargs:=[],kw_defaults:=[],kwarg:=none,defaults:=[]}
def defBody(s:Stmt):List Stmt:=match s with
 |.FunctionDef _ _ b _ _ _ _ _ _ _=>b
 |_=>[]
def defScope(s:Stmt):Scope:=match s with
 |.FunctionDef _ _ _ _ _ _ sc _ _ _=>sc
 |_=>{kind:=.function,names:=[],isGenerator:=false,isCoroutine:=false}
abbrev CX0:CXT:=fun _ _ _ _ _ _=>False
abbrev E0:XK:=fun _ _ _=>False
theorem pass0{X:Cx}:Passes CX0 X E0:=fun _ _ _ _ _ _ _ h=>h.elim
structure Fun(K:PySem.W.Frag) (x qual:Str) (st:Stmt) (f:Addr) (fd:FuncData):Prop where
 ex:∃(oc:Value) (od:Option Addr) (kV doc pm:Value) (an:Option Addr) (cdv ct:Value) (osl:Array (Option Value)),
  fd=PySem.W.fnOf x qual (defArgs st) (defBody st) (defScope st) .none kV doc pm an cdv ct/\K.lookup f=some ⟨oc,od,.func fd,osl⟩/\PySem.W.codeIn K cdv qual=true
 kp:PySem.W.keepIn K (.ref f)=true
section
variable {P:Program}{w:World}{K:PySem.W.Frag}{mg:Str->Option Value}{base:Heap}
theorem Fun.ok{x qual:Str}{st:Stmt}{f:Addr}{fd:FuncData}{N ps:List Str}{k:Nat}{sp:Sp}(F:Fun K x qual st f fd)(S:FnScope N ps (defScope st))(len:∀vs H Q E,sp vs H Q E->vs.length=ps.length)
  (hbody:∀(cdv:Value) (A:Around) (outer:List Env) (s:Shared) (H:Hp) (vs:List V) (Q:VK) (E:XK),Room k (A.deeper (envOfC qual (defScope st) s.heap.objs.size f cdv))->sp vs H Q E ->
   ∃t,PSs (cxOf CX0 P w K mg base N qual (defScope st) f cdv A outer s H E).nox (defBody st) t/\t {nx:=fun _ H'=>Q .non H',rt:=Q} (start N vs) H):FnOk P w K mg base CX0 (k+1) f fd ps sp:=by
 obtain⟨oc,od,kV,doc,pm,an,cdv,ct,osl,rfl,lk,hcd⟩:=F.ex
 refine fn_of lk hcd S len fun A outer s H vs Q E hr hsp=>?_
 obtain⟨t,h,q⟩:=hbody cdv A outer s H vs Q E hr hsp
 exact⟨t,h.nox,q⟩
theorem Fun.binds{x qual:Str}{st:Stmt}{f:Addr}{fd:FuncData}{ps:List Str}(F:Fun K x qual st f fd)
  (h:∀(kV doc pm:Value) (an:Option Addr) (cdv ct:Value) (us:List Value),us.length=ps.length->bindArgs (PySem.W.fnOf x qual (defArgs st) (defBody st) (defScope st) .none kV doc pm an cdv ct) ⟨us,[]⟩=pure (ps.zip us)):Binds K fd ps []:=by
 obtain⟨oc,od,kV,doc,pm,an,cdv,ct,osl,rfl,lk,hcd⟩:=F.ex
 exact .all (h kV doc pm an cdv ct)
end
theorem hu_of{A:Around}{k:Nat}(hr:Room k A):A.units+1<cLine:=Nat.lt_of_le_of_lt (Nat.add_le_add_left (by decide:1<=64) _) hr.units
theorem small1000{n:Nat}(h:n<=1000):n<sizeLine:=Nat.lt_of_le_of_lt h (by decide)
section
variable {X:Cx}
theorem pv(i:Nat){x:Str}{pos:Pos}(hN:X.N[i]?=some x:=by rfl)(hv:Vis X.env.scope x:=by first|exact Or.inl rfl|exact Or.inr (Or.inl rfl)|exact Or.inr (Or.inr rfl))(hd:(x == ("__debug__":Str))=false:=by decide)
  (hcd:(x == ("__classdict__":Str))=false:=by decide):PE X (.Name x pos) (tVar i):=pe_var hN hv hd hcd
end
theorem iteT{A B:Prop}(h:A):if true=true then A else B:=by
 rw[if_pos rfl]
 exact h
theorem ite2{c A B:Prop}[Decidable c](h1:c->A)(h2:¬c->B):if c then A else B:=by
 by_cases h:c
 ·rw[if_pos h]
  exact h1 h
 ·rw[if_neg h]
  exact h2 h
def Same(H H':Hp):Prop:=∀b o,H b=some o->H' b=some o
theorem Same.refl(H:Hp):Same H H:=fun _ _ h=>h
theorem Same.trans{H H1 H2:Hp}(a:Same H H1)(b:Same H1 H2):Same H H2:=fun c o h=>b c o (a c o h)
theorem Same.free{H H':Hp}(e:Same H H'){l:Addr}(h:H' l=Option.none):H l=Option.none:=by
 cases q:H l with
 |none=>rfl
 |some o =>
  rw[e l o q]at h
  cases h
theorem Same.seq{K:PySem.W.Frag}{H H':Hp}{a:Addr}{xs:List V}(e:Same H H')(h:SqL K H a xs):SqL K H' a xs:=by
 rcases h with(h|⟨o,h⟩)|h
 ·exact .inl (.inl (e _ _ h))
 ·exact .inl (.inr ⟨o,e _ _ h⟩)
 ·exact .inr h
section
variable {κ:Type} [DecidableEq κ]
def valV(kvs:List (κ×V))(k:κ):Option V:=(kvs.find? fun kv=>decide (kv.1=k)).map (·.2)
def putK(kvs:List (κ×V))(k:κ)(v:V):List (κ×V) :=
 if(kvs.any fun kv=>decide (kv.1=k))=true then kvs.map (fun kv=>if kv.1=k then(kv.1,v)else kv)else kvs++[(k,v)]
theorem valV_pos{p:κ×V}{r:List (κ×V)}{k:κ}(e:p.1=k):valV (p::r) k=some p.2:=by simp[valV,List.find?_cons,e]
theorem valV_neg{p:κ×V}{r:List (κ×V)}{k:κ}(e:¬p.1=k):valV (p::r) k=valV r k:=by simp[valV,List.find?_cons,e]
theorem length_putK(kvs:List (κ×V))(k:κ)(v:V):(putK kvs k v).length<=kvs.length+1:=by
 unfold putK
 split
 ·rw[List.length_map];omega
 ·rw[List.length_append,List.length_cons,List.length_nil];omega
theorem KV.val{kvs:List (κ×V)}{vs:List (κ×Value)}(r:KV kvs vs)(k:κ):RelO (valV kvs k) (valueAt vs k):=by
 unfold KV at r
 induction r with
 |nil=>exact True.intro
 |@cons p q ps qs h t ih =>
  obtain⟨h1,h2⟩:=h
  by_cases e:p.1=k
  ·have e':q.1=k:=h1.symm.trans e
   have b:valueAt (q::qs) k=some q.2:=by simp[valueAt,List.find?_cons,e']
   rw[valV_pos e,b];exact h2
  ·have e':¬q.1=k:=fun z=>e (h1.trans z)
   have b:valueAt (q::qs) k=valueAt qs k:=by simp[valueAt,List.find?_cons,e']
   rw[valV_neg e,b];exact ih
theorem KV.any{kvs:List (κ×V)}{vs:List (κ×Value)}(r:KV kvs vs)(k:κ):(kvs.any fun kv=>decide (kv.1=k))=vs.any fun kv=>decide (kv.1=k):=by
 unfold KV at r
 induction r with
 |nil=>rfl
 |cons h t ih=>rw[List.any_cons,List.any_cons,ih,h.1]
theorem KV.repl{kvs:List (κ×V)}{vs:List (κ×Value)}(r:KV kvs vs)(k:κ){y:V}{u:Value}(ry:RelV y u) :
  KV (kvs.map fun kv=>if kv.1=k then(kv.1,y)else kv) (vs.map fun kv=>if kv.1=k then(kv.1,u)else kv):=by
 unfold KV at r⊢
 induction r with
 |nil=>exact .nil
 |@cons p q ps qs h t ih =>
  rw[List.map_cons,List.map_cons]
  refine .cons ?_ ih
  obtain⟨h1,h2⟩:=h
  by_cases e:p.1=k
  ·rw[if_pos e,if_pos (h1.symm.trans e)];exact⟨h1,ry⟩
  ·rw[if_neg e,if_neg (fun z=>e (h1.trans z))];exact⟨h1,h2⟩
theorem KV.put{kvs:List (κ×V)}{vs:List (κ×Value)}(r:KV kvs vs)(k:κ){y:V}{u:Value}(ry:RelV y u):KV (putK kvs k y) (stored vs k u):=by
 unfold putK stored
 rw[r.any k]
 by_cases e:(vs.any fun kv=>decide (kv.1=k))=true
 ·rw[if_pos e,if_pos e];exact r.repl k ry
 ·rw[if_neg e,if_neg e];exact Paired.snoc r ⟨rfl,ry⟩
theorem KV.length{kvs:List (κ×V)}{vs:List (κ×Value)}(r:KV kvs vs):kvs.length=vs.length:=Paired.length r
end
theorem kV_is{P:Program}{w:World}{k:Key}{u:Value}(r:RelV (kV k) u):(mixKind P w).is k u=true:=by
 cases k with
 |inl i=>obtain⟨t,e⟩:=(show ∃t,u=Value.int i t from r);subst e;exact mixKind_int P w i t
 |inr x=>obtain⟨t,e⟩:=(show ∃t,u=Value.str x t from r);subst e;exact mixKind_str P w x t
theorem items_are{P:Program}{w:World}:∀{ks:List Key}{us:List Value},Vals (ks.map kV) us->ItemsAre (mixKind P w) ks us
 | [],_,r=>by rw[List.map_nil]at r;cases r;exact .nil
 |k::ks,_,r=>by
  rw[List.map_cons]at r
  cases r with
  |cons h t=>exact .cons (kV_is h) (items_are t)
abbrev KT(H:Hp):List (List Key×V)->List (List Key×Addr×Value)->Prop:=Paired fun p q=>p.1=q.1/\H q.2.1=some (.tup (p.1.map kV))/\RelV p.2 q.2.2
theorem KT.val{H:Hp}{kvs:List (List Key×V)}{xs:List (List Key×Addr×Value)}(r:KT H kvs xs)(k:List Key):RelO (valV kvs k) ((atKey xs k).map (·.2)):=by
 induction r with
 |nil=>exact True.intro
 |@cons p q ps qs h t ih =>
  obtain⟨h1,_,h2⟩:=h
  by_cases e:p.1=k
  ·have e':q.1=k:=h1.symm.trans e
   have b:atKey (q::qs) k=some q.2:=by simp[atKey,List.find?_cons,e']
   rw[valV_pos e,b];exact h2
  ·have e':¬q.1=k:=fun z=>e (h1.trans z)
   have b:atKey (q::qs) k=atKey qs k:=by simp[atKey,List.find?_cons,e']
   rw[valV_neg e,b];exact ih
theorem KT.repl{H:Hp}{kvs:List (List Key×V)}{xs:List (List Key×Addr×Value)}(r:KT H kvs xs)(k:List Key){y:V}{u:Value}(ry:RelV y u) :
  KT H (kvs.map fun kv=>if kv.1=k then(kv.1,y)else kv) (xs.map (putAt k u)):=by
 induction r with
 |nil=>exact .nil
 |@cons p q ps qs h t ih =>
  rw[List.map_cons,List.map_cons]
  refine .cons ?_ ih
  obtain⟨h1,h2,h3⟩:=h
  unfold putAt
  by_cases e:p.1=k
  ·rw[if_pos e,if_pos (h1.symm.trans e)];exact⟨h1,h2,ry⟩
  ·rw[if_neg e,if_neg (fun z=>e (h1.trans z))];exact⟨h1,h2,h3⟩
section
variable {P:Program}{w:World}{H:Hp}{h:Heap}{a:Addr}
theorem rd_of{u:HO}(ok:HOk P w H h)(e:Rd H a u):ObjOk P w H h a u:=e.ok ok
theorem dk_rd{kvs:List (Key×V)}(ok:HOk P w H h)(e:Rd H a (.dK kvs)):kvs.length<=sizeLine/\(a == sysModules)=false/\∃vs,KV kvs vs/\h.DictOf (mixKind P w) a vs :=
 show ObjOk P w H h a (.dK kvs)from rd_of ok e
theorem dk_of{kvs:List (Key×V)}(ok:HOk P w H h)(e:H a=some (.dK kvs)):kvs.length<=sizeLine/\(a == sysModules)=false/\∃vs,KV kvs vs/\h.DictOf (mixKind P w) a vs:=dk_rd ok (.inl e)
theorem key_of{ks:List Key}(ok:HOk P w H h)(e:H a=some (.tup (ks.map kV))):(tupleKind (mixKind P w)).is h ks a:=by
 obtain⟨_,its,r,⟨o,h1,h2,n,h3⟩,_⟩:=(show ObjOk P w H h a (.tup (ks.map kV))from ok a _ e)
 exact⟨o,its.toArray,n,h1,h2,h3,by simpa using items_are r⟩
theorem dt_rd{kvs:List (List Key×V)}(ok:HOk P w H h)(e:Rd H a (.dT kvs)):kvs.length<=sizeLine/\(a == sysModules)=false /\
  ∃xs,KT H kvs xs/\h.DictOfH (tupleKind (mixKind P w)) a xs:=by
 obtain⟨z,y,xs,r,o,es,ep,h1,h2,h3,h4,h5⟩:=(show ObjOk P w H h a (.dT kvs)from rd_of ok e)
 refine⟨z,y,xs,r,o,es,ep,h1,h2,h3,h4,fun x hx=>?_,h5⟩
 have all:∀{l:List (List Key×V)}{m:List (List Key×Addr×Value)},KT H l m->∀x∈m,(tupleKind (mixKind P w)).is h x.1 x.2.1:=by
  intro l m q
  induction q with
  |nil=>intro x hx;exact nomatch hx
  |@cons p q ps qs hq t ih =>
   intro x hx
   rcases List.mem_cons.mp hx with e|hx
   ·subst e
    exact key_of ok (by rw[←hq.1];exact hq.2.1)
   ·exact ih x hx
 exact all r x hx
end
def DGet(H:Hp)(a:Addr)(y:V)(r:Option V):Prop :=
 (∃kvs k,Rd H a (.dK kvs)/\y=kV k/\r=valV kvs k)\/∃kvs k b,Rd H a (.dT kvs)/\y=.ref b/\H b=some (.tup (k.map kV))/\r=valV kvs k
def DPut(H:Hp)(a:Addr)(y v:V)(H':Hp):Prop :=
 (∃kvs k,H a=some (.dK kvs)/\y=kV k/\kvs.length<sizeLine/\H'=upd H a (.dK (putK kvs k v))) \/
 ∃kvs k b,H a=some (.dT kvs)/\y=.ref b/\H b=some (.tup (k.map kV))/\kvs.length<sizeLine/\H'=upd H a (.dT (putK kvs k v))
theorem DGet.k{H:Hp}{a:Addr}{kvs:List (Key×V)}{k:Key}(e:H a=some (.dK kvs)):DGet H a (kV k) (valV kvs k):=.inl ⟨kvs,k,.inl e,rfl,rfl⟩
theorem DGet.t{H:Hp}{a b:Addr}{kvs:List (List Key×V)}{k:List Key}(e:H a=some (.dT kvs))(eb:H b=some (.tup (k.map kV))):DGet H a (.ref b) (valV kvs k):=.inr ⟨kvs,k,b,.inl e,rfl,eb,rfl⟩
theorem DPut.k{H:Hp}{a:Addr}{kvs:List (Key×V)}{k:Key}{v:V}(e:H a=some (.dK kvs))(hl:kvs.length<sizeLine):DPut H a (kV k) v (upd H a (.dK (putK kvs k v))):=.inl ⟨kvs,k,e,rfl,hl,rfl⟩
theorem DPut.t{H:Hp}{a b:Addr}{kvs:List (List Key×V)}{k:List Key}{v:V}(e:H a=some (.dT kvs))(eb:H b=some (.tup (k.map kV)))(hl:kvs.length<sizeLine) :
  DPut H a (.ref b) v (upd H a (.dT (putK kvs k v))):=.inr ⟨kvs,k,b,e,rfl,eb,hl,rfl⟩
section
variable {X:Cx}{pins:List (Addr×Obj)}{σ:St}{H:Hp}{s:Shared}{a:Addr}{y v:V}{u r:Value}{o:Option V}{A:Around}{E:Value->Shared->Prop}
theorem Inv.big(I:Inv X pins σ H s):sysModules<s.heap.objs.size:=by
 have h:mainGlobals<s.heap.objs.size:=(I.mod.glob.keeps I.bk).lt
 exact Nat.lt_trans (by decide) h
theorem d_getItem{Q:Value->Shared->Prop}(hu:A.units+1<cLine)(I:Inv X pins σ H s)(g:DGet H a y (some v))(ry:RelV y u)(h:∀w' s',Inv X pins σ H s'->RelV v w'->Q w' s') :
  wpAny (model X.prog X.w) A (getItem (.ref a) u) Q E s:=by
 rcases g with⟨kvs,k,e,ey,l⟩|⟨kvs,k,b,e,ey,eb,l⟩
 ·subst ey
  obtain⟨z,hd,vs,rel,dd⟩:=dk_rd I.hok e
  obtain⟨w',hw,rw'⟩:=RelO.some_of (v:=v) (o:=valueAt vs k) (by rw[l];exact rel.val k)
  exact wpAny_getItem_of (kV_is ry) dd.mapOf hw (h w' _ (I.tok _) rw')
 ·subst ey
  cases(show u=Value.ref b from ry)
  obtain⟨z,hd,xs,rel,dd⟩:=dt_rd I.hok e
  obtain⟨w',hw,rw'⟩:=RelO.some_of (v:=v) (o:=(atKey xs k).map (·.2)) (by rw[l];exact rel.val k)
  obtain⟨p,hp,hp2⟩:=Option.map_eq_some_iff.mp hw
  refine wpAny_getItem_heap (tupleKind_room_in1 hu) (key_of I.hok eb) dd hp ?_
  rw[hp2]
  exact h w' _ (I.tok _) rw'
theorem d_write{h':Heap}{t':Nat}{ob:HO}(I:Inv X pins σ H s)(mu:Mut (H a))(hs:Heap.SameBut a s.heap h')(he:∃q,h'.get? a=some q)(new:ObjOk X.prog X.w (upd H a ob) h' a ob) :
  Inv X pins σ (upd H a ob) {s with heap:=h',toks:=t'} :=
 I.write (x:=a) (e:=a) mu (.inl rfl) (fun b q hb z=>(hs.2 b hb).trans z) he new
theorem dk_new{P:Program}{w:World}{H':Hp}{h':Heap}{kvs:List (Key×V)}{vs:List (Key×Value)}(z:kvs.length<=sizeLine)(hd:(a == sysModules)=false)(rel:KV kvs vs)(dd:h'.DictOf (mixKind P w) a vs) :
  ObjOk P w H' h' a (.dK kvs):=⟨z,hd,vs,rel,dd⟩
end
section
variable {X:Cx}{pins:List (Addr×Obj)}{σ:St}{H:Hp}{s:Shared}{a:Addr}{kvs:List (Key×V)}{k:Key}{u:Value}{A:Around}{E:Value->Shared->Prop}
end
def NoSl(i:Expr):Prop:=∀ov iv,subscripted i false ov iv=operate [ov,iv] (getItem ov iv)
theorem subD_of{prog:Program}{w:World}{A:Around}{E:Value->Shared->Prop}{s:Shared}{env:Env}{value slice:Expr}{pos:Pos}{T id:String}{Q:Value->Shared->Prop}
  (hl:typeLookup (.type T) "__getitem__"=pure (some (.builtin id))) (hs:NoSl slice)
  (h:wpAny (model prog w) A (eval value env) (fun o s₁=>wpAny (model prog w) A (eval slice env) (fun i s₂=>s₂.TypeIs o T/\wpAny (model prog w) A (getItem o i) Q E s₂) E s₁) E s) :
  wpAny (model prog w) A (eval (.Subscript value slice pos) env) Q E s:=by
 refine Subscript_ (wpAny_mono h (fun o s₁ h₁=>wpAny_mono h₁ (fun i s₂ h₂=>?_) fun _ _ x=>x) fun _ _ x=>x)
 obtain⟨hT,h₂⟩:=h₂
 unfold subscriptTail
 refine wpAny_bind ?_
 rw[getitemInPython_of_ne hT.not_modules]
 refine wpAny_bind (wpAny_specialOf hT hl ?_)
 have fin:wpAny (model prog w) A (subscripted slice false o i) (fun r s₃=>wpAny (model prog w) A (letTemporaryGo value o r>>=fun _=>pure r) Q E s₃) E s₂:=by
  rw[hs o i]
  exact wpAny_operating (wpAny_mono h₂ (fun r s₃ h₃=>wpAny_bind (wpAny_letTemporaryGo (wpAny_pure h₃))) fun _ _ x=>x)
 first
  |exact wpAny_pure (wpAny_bind fin)
  |exact wpAny_bind (wpAny_pure (wpAny_bind fin))
  |exact wpAny_bind fin
theorem dict_typeIs{X:Cx}{pins:List (Addr×Obj)}{σ:St}{H:Hp}{s:Shared}{a:Addr}{y:V}{o:Option V}(I:Inv X pins σ H s)(g:DGet H a y o):s.TypeIs (.ref a) "dict":=by
 rcases g with⟨kvs,k,e,_,_⟩|⟨kvs,k,b,e,_,_,_⟩
 ·obtain⟨_,_,vs,_,dd⟩:=dk_rd I.hok e
  exact dd.typeIs
 ·obtain⟨_,_,xs,_,dd⟩:=dt_rd I.hok e
  exact dd.typeIs
def tDGet(td ty:TE):TE:=fun σ H Q=>td σ H fun x H1=>ty σ H1 fun y H2=>∃a v,x=.ref a/\DGet H2 a y (some v)/\Q v H2
section
variable {X:Cx}{o i e value:Expr}{pos pos' tpos:Pos}{td ty tv:TE}
theorem pe_dget(hu:X.A.units+1<cLine)(ho:PE X o td)(hi:PE X i ty)(hs:NoSl i):PE X (.Subscript o i pos) (tDGet td ty):=by
 intro pins s σ H Q I h
 refine subD_of PySem.F.slot_dict_getitem.lookup hs (thn (ho pins s σ H _ I h) fun u s1 ⟨x,H1,I1,rx,q1⟩=>thn (hi pins s1 σ H1 _ I1 q1) fun iv s2 ⟨y,H2,I2,ry,a,v,ex,g,q2⟩=>?_)
 subst ex
 obtain rfl:u=Value.ref a:=rx
 exact⟨dict_typeIs I2 g,d_getItem hu I2 g ry fun w' s3 I3 rw'=>⟨v,H2,I3,rw',q2⟩⟩
end
theorem dk_empty{P:Program}{w:World}{H:Hp}(h:Heap)(hb:sysModules<h.objs.size):ObjOk P w H (h.push {cls:=.type "dict",data:=.dict #[]}) h.objs.size (.dK []) :=
 ⟨Nat.zero_le _,beq_eq_false_iff_ne.mpr (Ne.symm (Nat.ne_of_lt hb)),[],.nil,Heap.DictOf.new h⟩
section
variable {X:Cx}{pos:Pos}
end
def tPairs:List (TE×TE)->St->Hp->(List (V×V)->Hp->Prop)->Prop
 | [],_,H,Q=>Q [] H
 |(tk,tv)::r,σ,H,Q=>tk σ H fun x H1=>tv σ H1 fun y H2=>tPairs r σ H2 fun ps H3=>Q ((x,y)::ps) H3
abbrev VV:List (V×V)->List (Value×Value)->Prop:=Paired fun p q=>RelV p.1 q.1/\RelV p.2 q.2
def PPs(X:Cx)(pos:Pos)(keys:List (Option Expr))(values:List Expr)(trs:List (TE×TE)):Prop :=
 ∀(pins:List (Addr×Obj)) (s:Shared) (σ:St) (H:Hp) (Q:List (V×V)->Hp->Prop),Inv X pins σ H s->tPairs trs σ H Q ->
  wpAny (model X.prog X.w) X.A (evalPairs (pairTrees keys values X.env pos)) (fun vs s'=>∃ps H',Inv X pins σ H' s'/\VV ps vs/\Q ps H') X.xe s
theorem pps_nil{X:Cx}{pos:Pos}:PPs X pos [] [] []:=fun pins s σ H Q I h=>pairTrees_nil_walk ⟨[],H,I,.nil,h⟩
theorem pps_cons{X:Cx}{pos:Pos}{k v:Expr}{ks:List (Option Expr)}{vs:List Expr}{tk tv:TE}{trs:List (TE×TE)}(hk:PE X k tk)(hv:PE X v tv)(hr:PPs X pos ks vs trs) :
  PPs X pos (some k::ks) (v::vs) ((tk,tv)::trs):=fun pins s σ H Q I h =>
 pairTrees_cons_walk (thn (hk pins s σ H _ I h) fun u s1 ⟨x,H1,I1,rx,q1⟩=>thn (hv pins s1 σ H1 _ I1 q1) fun w2 s2 ⟨y,H2,I2,ry,q2⟩ =>
  thn (hr pins s2 σ H2 _ I2 q2) fun ws s3 ⟨ps,H3,I3,rel,q3⟩=>⟨(x,y)::ps,H3,I3,.cons ⟨rx,ry⟩ rel,q3⟩)
def mergeK(kvs more:List (Key×V)):List (Key×V):=more.foldl (fun acc kv=>putK acc kv.1 kv.2) kvs
theorem KV.merge:∀{more:List (Key×V)}{rs:List (Key×Value)}{kvs:List (Key×V)}{vs:List (Key×Value)},KV more rs->KV kvs vs->KV (mergeK kvs more) (merged vs rs):=by
 intro more rs kvs vs r
 unfold KV at r
 induction r generalizing kvs vs with
 |nil=>intro q;exact q
 |@cons p q ps qs h t ih =>
  intro r0
  have e:KV (putK kvs p.1 p.2) (stored vs q.1 q.2):=by
   have:=r0.put p.1 h.2
   rw[←h.1];exact this
  exact ih e
theorem length_mergeK:∀(more kvs:List (Key×V)),(mergeK kvs more).length<=kvs.length+more.length
 | [],kvs=>by show kvs.length<=kvs.length+0;omega
 |p::r,kvs=>by
  have h1:=length_mergeK r (putK kvs p.1 p.2)
  have h2:=length_putK kvs p.1 p.2
  show(mergeK (putK kvs p.1 p.2) r).length<=_
  rw[List.length_cons];omega
theorem carries_of{P:Program}{w:World}:∀{kvs:List (Key×V)}{ws:List (Value×Value)},VV (kvs.map fun kv=>(kV kv.1,kv.2)) ws->∃rs,Carries (mixKind P w) ws rs/\KV kvs rs
 | [],_,r=>by rw[List.map_nil]at r;cases r;exact⟨[],True.intro,.nil⟩
 |p::kvs,_,r=>by
  rw[List.map_cons]at r
  cases r with
  |@cons a b as bs h t =>
   obtain⟨rs,c,q⟩:=carries_of (P:=P) (w:=w) t
   obtain⟨b1,b2⟩:=b
   exact⟨(p.1,b2)::rs,⟨kV_is h.1,rfl,c⟩,.cons ⟨rfl,h.2⟩ q⟩
def tDisp(trs:List (TE×TE)):TE:=fun σ H Q=>∀p,H p=none->tPairs trs σ (upd H p (.dK [])) fun ps H2=>H2 p=some (.dK [])/\∃kvs:List (Key×V),ps=kvs.map (fun kv=>(kV kv.1,kv.2))/\kvs.length<=15/\Q (.ref p) (upd H2 p (.dK (mergeK [] kvs)))
theorem pe_disp{X:Cx}{pos:Pos}{keys:List (Option Expr)}{values:List Expr}{trs:List (TE×TE)}(h:PPs X pos keys values trs)(hall:keys.all (·.isSome)=true)(hl:keys.length=values.length)(h0:keys≠[])
  (h15:keys.length<=15):PE X (.Dict keys values pos) (tDisp trs):=by
 intro pins s σ H Q I q
 have hn:=I.hok.fresh (Nat.le_refl s.heap.objs.size)
 have I1:=I.laid (a:=s.heap.objs.size) (o:=.dK []) (h':=s.heap.push {cls:=.type "dict",data:=.dict #[]}) (t':=s.toks) (fun _ _ q=>Heap.get?_push_of_some _ q) (Nat.le_refl _) (dk_empty s.heap I.big)
 refine wpAny_Dict_walk (knd:=mixKind X.prog X.w) hall hl h0 h15 (thn (h pins _ σ _ _ I1 (q _ hn)) fun ws s2 ⟨ps,H2,I2,rel,e,kvs,ep,lk,q2⟩=>?_)
 subst ep
 obtain⟨rs,c,rk⟩:=carries_of (P:=X.prog) (w:=X.w) rel
 obtain⟨z,hd,vs0,r0,dd⟩:=dk_of I2.hok e
 cases r0
 refine⟨rs,c,dd,fun h' dd' hs=>⟨.ref s.heap.objs.size,_,?_,rfl,q2⟩⟩
 have hz:(mergeK [] kvs).length<=sizeLine:=by
  have h1:=length_mergeK kvs []
  rw[List.length_nil]at h1
  rw[sizeLine_eq];omega
 have he:∃q,h'.get? s.heap.objs.size=some q:=let⟨q,_,_,hq,_⟩:=dd';⟨q,hq⟩
 exact d_write I2 (by rw[e];exact True.intro) hs he (dk_new hz hd (rk.merge .nil) dd')
section
variable {X:Cx}{pins:List (Addr×Obj)}{σ:St}{H:Hp}{s:Shared}{a:Addr}{y d:V}{u r:Value}{o:Option V}{A:Around}{E:Value->Shared->Prop}
end
section
variable {X:Cx}{o e f:Expr}{apos cpos:Pos}{td ty tx:TE}
end
section
variable {X:Cx}{pins:List (Addr×Obj)}{σ:St}{H:Hp}{s:Shared}{a:Addr}{kvs:List (Key×V)}{A:Around}{E:Value->Shared->Prop}
end
section
variable {X:Cx}{pins:List (Addr×Obj)}{σ:St}{H:Hp}{s:Shared}{a:Addr}{y:V}{u:Value}{A:Around}{E:Value->Shared->Prop}
end
end L2
set_option maxHeartbeats 4000000
namespace L2
open PySem
inductive T where
 |s (x:Str)|i (n:Int)|n|t (xs:List T)
theorem T.induct{P:T->Prop}(hs:∀x,P (.s x))(hi:∀n,P (.i n))(hn:P .n)(ht:∀xs,(∀x∈xs,P x)->P (.t xs))(a:T):P a :=
 T.rec (motive_1:=P) (motive_2:=fun xs=>∀x∈xs,P x) hs hi hn ht (fun _ h=>nomatch h) (fun _ _ h1 h2 y hy=>by
  cases hy with
  |head=>exact h1
  |tail _ h=>exact h2 y h) a
mutual
def T.dep:T->Nat
 |.t xs=>T.deps xs+1
 |_=>0
def T.deps:List T->Nat
 | []=>0
 |x::r=>max x.dep (T.deps r)
end
theorem T.deps_mem{xs:List T}{x:T}(h:x∈xs):x.dep<=T.deps xs:=by
 induction xs with
 |nil=>cases h
 |cons y r ih =>
  unfold T.deps
  cases h with
  |head=>exact Nat.le_max_left _ _
  |tail _ h=>exact Nat.le_trans (ih h) (Nat.le_max_right _ _)
mutual
def T.eqB:T->T->Bool
 |.s x,.s y=>x == y
 |.i m,.i k=>m == k
 |.n,.n=>true
 |.t xs,.t ys=>T.eqBs xs ys
 |_,_=>false
def T.eqBs:List T->List T->Bool
 | [],[]=>true
 |x::r,y::q=>x.eqB y&&T.eqBs r q
 |_,_=>false
end
theorem T.eqBs_iff{xs:List T}(h:∀x∈xs,∀y,T.eqB x y=true↔x=y):∀ys,T.eqBs xs ys=true↔xs=ys:=by
 induction xs with
 |nil=>intro ys;cases ys<;>simp[T.eqBs]
 |cons x r ih =>
  intro ys
  cases ys with
  |nil=>simp[T.eqBs]
  |cons y q =>
   unfold T.eqBs
   rw[Bool.and_eq_true,h x (.head _) y,ih (fun z hz=>h z (.tail _ hz)) q,List.cons.injEq]
theorem T.eqB_iff(a:T):∀b,T.eqB a b=true↔a=b:=by
 induction a using T.induct with
 |hs x=>intro b;cases b<;>simp[T.eqB]
 |hi x=>intro b;cases b<;>simp[T.eqB]
 |hn=>intro b;cases b<;>simp[T.eqB]
 |ht xs ih =>
  intro b
  cases b with
  |t ys=>unfold T.eqB;rw[T.eqBs_iff ih ys,T.t.injEq]
  |_=>simp[T.eqB]
theorem T.eqB_self(a:T):T.eqB a a=true:=(T.eqB_iff a a).mpr rfl
instance:DecidableEq T:=fun a b=>if h:T.eqB a b=true then .isTrue ((T.eqB_iff a b).mp h)else .isFalse fun z=>h ((T.eqB_iff a b).mpr z)
theorem T.eqB_dec(a b:T):T.eqB a b=decide (a=b):=by rw[Bool.eq_iff_iff,decide_eq_true_iff,T.eqB_iff]
theorem T.eqBs_range:∀(xs ys:List T),T.eqBs xs ys=((List.range (min xs.length ys.length)).all (fun j=>T.eqB (xs.getD j .n) (ys.getD j .n))&&xs.length == ys.length)
 | [],[]=>rfl
 | [],y::q=>by simp[T.eqBs]
 |x::r,[]=>by simp[T.eqBs]
 |x::r,y::q=>by
  unfold T.eqBs
  rw[T.eqBs_range r q,List.length_cons,List.length_cons,Nat.succ_min_succ,List.range_succ_eq_map,List.all_cons,List.all_map]
  have e:(r.length+1 == q.length+1)=(r.length == q.length):=by simp
  rw[e,Bool.and_assoc]
  rfl
end L2
namespace L2
open PySem
inductive Hd where
 |num (n:Int)|name (x:Str)|gap (n:Int)|op (s:Str)|row|more|first|others|long|tag (t:Str)|call (f:Str)|mat (arms:List (Str×List Str))|ife|lt (x:Str)|fold (x y:Str)
inductive Tm where
 |mk (h:Hd) (ks:List Tm)
def Tm.hd:Tm->Hd|.mk h _=>h
def Tm.ks:Tm->List Tm|.mk _ ks=>ks
end L2
namespace L2
open PySem PySem.Spec PyProof.Rows
def cellsFor(env:Env):List (Str×NameKind)->List (Str×Addr)->List (Str×Addr)
 | [],cs=>cs
 |(n,k)::r,cs=>cellsFor env r (if k == .free then(n,(env.cells.lookup n).getD 0)::cs else cs)
theorem closureFor_eq{scope:Scope}{env:Env}(h:∀x∈scope.names,x.2=.free->∃c,env.cells.lookup x.1=some c):closureFor scope env=pure (cellsFor env scope.names []):=by
 have go:∀(l:List (Str×NameKind)) (cs:List (Str×Addr)),(∀x∈l,x.2=.free->∃c,env.cells.lookup x.1=some c) ->
   (forIn l cs fun x r=>if(x.2 == NameKind.free)=true then do let a ←cellOf env x.1;pure (ForInStep.yield ((x.1,a)::r))else pure (ForInStep.yield r):Sem (List (Str×Addr)))=pure (cellsFor env l cs):=by
  intro l
  induction l with
  |nil=>intro cs _;rfl
  |cons x r ih =>
   intro cs hx
   obtain⟨n,k⟩:=x
   rw[List.forIn_cons]
   by_cases hk:k=.free
   ·subst hk
    obtain⟨c,hc⟩:=hx (n,.free) List.mem_cons_self rfl
    have e:cellOf env n=pure c:=by unfold cellOf;rw[show env.cells.lookup n=some c from hc]
    simp only[beq_self_eq_true,if_true,e,pure_bind]
    rw[ih _ fun y hy=>hx y (List.mem_cons_of_mem _ hy)]
    unfold cellsFor
    rw[show env.cells.lookup n=some c from hc]
    cases r<;>rfl
   ·have hb:(k == NameKind.free)=false:=by simpa using hk
    simp only[hb,Bool.false_eq_true,if_false,pure_bind]
    rw[ih _ fun y hy=>hx y (List.mem_cons_of_mem _ hy)]
    conv=>rhs;unfold cellsFor
    simp only[hb,Bool.false_eq_true,if_false]
 simp only[closureFor]
 have g:=go scope.names [] h
 simp only[g]
 rfl
theorem cellsFor_sub{env:Env}:∀(l:List (Str×NameKind)) (cs:List (Str×Addr)),(∀x∈l,x.2=.free->∃c,env.cells.lookup x.1=some c)->(∀y c,cs.lookup y=some c->env.cells.lookup y=some c) ->
  ∀y c,(cellsFor env l cs).lookup y=some c->env.cells.lookup y=some c
 | [],_,_,hc=>hc
 |(n,k)::r,cs,hl,hc=>by
  refine cellsFor_sub r _ (fun x hx=>hl x (List.mem_cons_of_mem _ hx)) fun y c e=>?_
  by_cases hk:(k == NameKind.free)=true
  ·rw[if_pos hk]at e
   rw[List.lookup_cons]at e
   by_cases hy:y=n
   ·subst hy
    simp only[beq_self_eq_true]at e
    obtain⟨c',hc'⟩:=hl (y,k) List.mem_cons_self (by simpa using hk)
    have hc'':env.cells.lookup y=some c':=hc'
    rw[hc'']at e⊢
    exact e
   ·have hb:(y == n)=false:=beq_eq_false_iff_ne.mpr hy
    rw[hb]at e
    exact hc y c e
  ·rw[if_neg hk]at e
   exact hc y c e
theorem cellsFor_keep{env:Env}:∀(l:List (Str×NameKind)) (cs:List (Str×Addr)) (y:Str),(∃c,cs.lookup y=some c)->∃c,(cellsFor env l cs).lookup y=some c
 | [],_,_,h=>h
 |(n,k)::r,cs,y,h=>by
  refine cellsFor_keep r _ y ?_
  by_cases hk:(k == NameKind.free)=true
  ·rw[if_pos hk,List.lookup_cons]
   cases hb:(y == n)with
   |true=>exact⟨_,rfl⟩
   |false=>exact h
  ·rw[if_neg hk];exact h
theorem cellsFor_has{env:Env}:∀(l:List (Str×NameKind)) (cs:List (Str×Addr)) (y:Str),(y,NameKind.free)∈l->∃c,(cellsFor env l cs).lookup y=some c
 | [],_,_,h=>nomatch h
 |(n,k)::r,cs,y,h=>by
  rcases List.mem_cons.mp h with e|h
  ·have e1:y=n:=congrArg Prod.fst e
   have e2:NameKind.free=k:=congrArg Prod.snd e
   subst e1
   subst e2
   refine cellsFor_keep r _ y ⟨(env.cells.lookup y).getD 0,?_⟩
   rw[if_pos (by rfl),List.lookup_cons,beq_self_eq_true]
  ·exact cellsFor_has r _ y h
theorem relabel_shape{env:Env}:∀{names:List (Str×NameKind)}{x:Str}{k':NameKind},(names.map fun(n,k)=>if(k == NameKind.free&&env.scope.kind == .function&&env.kindOf n == some .cell)then(n,NameKind.cell)else(n,k)).lookup x=some k' ->
  names.lookup x=some k'\/(k'=.cell/\names.lookup x=some .free)
 | [],_,_,h=>by simp at h
 |(n,k)::r,x,k',h=>by
  have ih:=@relabel_shape env r x k'
  change List.lookup x ((if(k == NameKind.free&&env.scope.kind == .function&&env.kindOf n == some .cell)=true then(n,NameKind.cell)else(n,k))::_)=_ at h
  cases hx:x == n with
  |true =>
   by_cases hc:(k == NameKind.free&&env.scope.kind == .function&&env.kindOf n == some .cell)=true
   ·rw[if_pos hc]at h
    simp only[List.lookup_cons,hx]at h
    cases h
    have hk:k=.free:=by simp at hc;exact hc.1.1
    subst hk
    exact .inr ⟨rfl,by simp only[List.lookup_cons,hx]⟩
   ·rw[if_neg hc]at h
    simp only[List.lookup_cons,hx]at h
    cases h
    exact .inl (by simp only[List.lookup_cons,hx])
  |false =>
   by_cases hc:(k == NameKind.free&&env.scope.kind == .function&&env.kindOf n == some .cell)=true
   ·rw[if_pos hc]at h
    simp only[List.lookup_cons,hx]at h⊢
    exact ih h
   ·rw[if_neg hc]at h
    simp only[List.lookup_cons,hx]at h⊢
    exact ih h
theorem relabel_free{env:Env}:∀{names:List (Str×NameKind)}{x:Str},names.lookup x=some .free ->
  (names.map fun(n,k)=>if(k == NameKind.free&&env.scope.kind == .function&&env.kindOf n == some .cell)then(n,NameKind.cell)else(n,k)).lookup x=some .cell \/
  (names.map fun(n,k)=>if(k == NameKind.free&&env.scope.kind == .function&&env.kindOf n == some .cell)then(n,NameKind.cell)else(n,k)).lookup x=some .free
 | [],_,h=>by simp at h
 |(n,k)::r,x,h=>by
  have ih:=@relabel_free env r x
  show List.lookup x ((if(k == NameKind.free&&env.scope.kind == .function&&env.kindOf n == some .cell)=true then(n,NameKind.cell)else(n,k))::_)=_\/List.lookup x ((if(k == NameKind.free&&env.scope.kind == .function&&env.kindOf n == some .cell)=true then(n,NameKind.cell)else(n,k))::_)=_
  cases hx:x == n with
  |true =>
   simp only[List.lookup_cons,hx]at h
   cases h
   by_cases hc:(NameKind.free == NameKind.free&&env.scope.kind == .function&&env.kindOf n == some .cell)=true
   ·rw[if_pos hc];exact .inl (by simp only[List.lookup_cons,hx])
   ·rw[if_neg hc];exact .inr (by simp only[List.lookup_cons,hx])
  |false =>
   simp only[List.lookup_cons,hx]at h
   by_cases hc:(k == NameKind.free&&env.scope.kind == .function&&env.kindOf n == some .cell)=true
   ·rw[if_pos hc];simp only[List.lookup_cons,hx];exact ih h
   ·rw[if_neg hc];simp only[List.lookup_cons,hx];exact ih h
section
variable {prog:Program}{w:World}{A:Around}{R:Result->Shared->Prop}{s:Shared}
theorem codeAny_compLoop_any{elt target iter:Expr}{ifs:List Expr}{scope:Scope}{pos:Pos}{it acc:Value}{env:Env}{E:Value->Shared->Prop}(I:Nat->Shared->Prop)
  (turn:∀n s,I n s->wpAny (model prog w) A (pyNext it) (fun r s₁=>match r with
   |none=>R (.ok .next) s₁
   |some v=>wpAny (model prog w) A (letOwnedTupleGo target it v) (fun _ s₁'=>wpAny (model prog w) A (assign target env v) (fun _ s₂ =>
     wpAny (model prog w) A (forIn ifs true fun c r=>if r=true then do let ok ←isTrue c env (eval c env);pure (ForInStep.yield ok)else pure (ForInStep.yield r)) (fun ok s₃ =>
      if ok=true then wpAny (model prog w) A (eval elt env) (fun x s₄ =>
       wpAny (model prog w) A (call (.builtin "list.append") [acc,x]) (fun _ s₅=>∃m,m<n/\I m s₅) E s₄) E s₃
      else ∃m,m<n/\I m s₃) E s₂) E s₁') E s₁) E s)
  (hE:∀e s',E e s'->notedBy (model prog w) A env (fun e s'=>R (.error e) s') e s')
  (n:Nat) (h:I n s) :
  codeAny (model prog w) A (.compLoop (.ListComp elt [⟨target,iter,ifs,0⟩] scope pos) 0 it acc env) R s:=by
 refine codeAny_loop rfl I (fun n s hI=>?_) n h
 show wpAny _ A ((compTurn (.ListComp elt [⟨target,iter,ifs,0⟩] scope pos) 0 it acc env).onRaise (fun x=>do noteFrame x env;theTreesLotGoes x)) _ _ s
 refine wpAny_noted ?_
 rw[compTurn_list]
 refine wpAny_bind (wpAny_standAt (wpAny_bind (wpAny_mono (turn n s hI) (fun r s₁ h₁=>?_) hE)))
 cases r with
 |none=>exact wpAny_pure h₁
 |some v =>
  refine wpAny_bind (wpAny_mono h₁ (fun _ s₁' h₁'=>?_) hE)
  refine wpAny_bind (wpAny_mono h₁' (fun _ s₂ h₂=>wpAny_bind (wpAny_mono h₂ (fun ok s₃ h₃=>?_) hE)) hE)
  cases ok with
  |false=>exact wpAny_pure ⟨rfl,h₃⟩
  |true =>
   exact wpAny_bind (wpAny_bind (wpAny_mono h₃ (fun x s₄ h₄=>wpAny_bind (wpAny_mono h₄ (fun _ s₅ h₅=>wpAny_pure (wpAny_pure ⟨rfl,h₅⟩)) hE)) hE))
end
def cxComp(X:Cx)(scope:Scope)(N':List Str)(fp:List Addr)(C:Addr)(s₂:Shared)(H₂:Hp):Cx where
 prog:=X.prog
 w:=X.w
 K:=X.K
 mg:=X.mg
 base:=X.base
 A:=X.A
 N:=N'
 s₀:=s₂
 H₀:=H₂
 env:=compEnvC scope (cellsFor X.env scope.names []) C X.env
 outer:=X.stack
 stack:=X.stack
 ex:=fp
 fn:=fun _=>false
 calm:=X.calm
 pn:=[]
 xe:=fun _ _=>False
def PIfs(X:Cx)(ifs:List Expr)(t:TT):Prop :=
 ∀(pins:List (Addr×Obj)) (s:Shared) (σ:St) (H:Hp) (Q:Bool->Hp->Prop),Inv X pins σ H s->t σ H Q ->
  wpAny (model X.prog X.w) X.A (forIn ifs true fun c r=>if r=true then do let ok ←isTrue c X.env (eval c X.env);pure (ForInStep.yield ok)else pure (ForInStep.yield r)) (TP X pins σ Q) X.xe s
def tNoIf:TT:=fun _ H Q=>Q true H
theorem pifs_nil{X:Cx}:PIfs X [] tNoIf:=fun pins s σ H Q I h=>by
 rw[List.forIn_nil]
 exact wpAny_pure ⟨H,I,h⟩
theorem pifs_one{X:Cx}{c:Expr}{t:TT}(hc:PT X c t):PIfs X [c] t:=fun pins s σ H Q I h=>by
 simp only[List.forIn_cons,List.forIn_nil,if_true]
 exact wpAny_bind (wpAny_bind (wpAny_mono (hc pins s σ H Q I h) (fun b s' hb=>wpAny_pure (wpAny_pure hb)) fun _ _ x=>x))
def innerSt(own:Nat)(fr:List Nat)(σ:St):St:=List.replicate own none++fr.map fun j=>(σ[j]?).join
def CompW(J:It)(g:TG)(tt:TT)(te:TE)(Q:VK)(σ0:St)(H0:Hp):Prop:=∃W:Nat->Nat->St->List V->Hp->Prop,(∃m,W 0 m σ0 [] H0)/\∀i m σ' vs H,W i m σ' vs H ->
 (J.stop i H/\vs.length<=sizeLine/\∀p,H p=none->Q (.ref p) (upd H p (.lst vs))) \/
 (J.go i H/\vs.length<sizeLine/\∃N:St->List V->Hp->Prop,(∀σ2 vs2 H2,N σ2 vs2 H2->∃m',m' < m/\W (i+1) m' σ2 vs2 H2)/\∀x H',J.yld i H x H'->g x σ' H' fun σ2 H2=>tt σ2 H2 fun ok H3 =>
  if ok=true then te σ2 H3 fun v H4=>N σ2 (vs++[v]) H4 else N σ2 vs H3)
def tComp(own:Nat)(fr:List Nat)(wi:TI)(g:TG)(tt:TT)(te:TE):TE:=fun σ H Q=>wi σ H fun J H1=>CompW J g tt te Q (innerSt own fr σ) H1
section
variable {X:Cx}{pins:List (Addr×Obj)}{σ:St}{H:Hp}{s:Shared}
theorem inner_ok{own:List Str}{fr:List Nat}(hl:σ.length=X.N.length){i:Nat}{x:Str}{v:V}(h1:(own++fr.map fun j=>X.N.getD j Str.empty)[i]?=some x)(h2:(innerSt own.length fr σ)[i]?=some (some v)) :
  ∃j∈fr,X.N[j]?=some x/\X.N.getD j Str.empty=x/\σ[j]?=some (some v):=by
 unfold innerSt at h2
 by_cases hi:i<own.length
 ·rw[List.getElem?_append_left (by simpa using hi),List.getElem?_replicate,if_pos hi]at h2
  cases h2
 ·rw[List.getElem?_append_right (by simpa using hi),List.length_replicate,List.getElem?_map]at h2
  rw[List.getElem?_append_right (by omega),List.getElem?_map]at h1
  cases e:fr[i-own.length]? with
  |none=>rw[e]at h2;cases h2
  |some j =>
   rw[e]at h1 h2
   simp only[Option.map_some,Option.some.injEq]at h1 h2
   have hj:σ[j]?=some (some v):=by
    cases q:σ[j]? with
    |none=>rw[q]at h2;cases h2
    |some o=>rw[q]at h2;exact congrArg some h2
   have hjl:j<X.N.length:=by rw[←hl];exact(List.getElem?_eq_some_iff.mp hj).1
   refine⟨j,List.mem_of_getElem? e,?_,h1,hj⟩
   rw[←h1,List.getD_eq_getElem?_getD,List.getElem?_eq_getElem hjl]
   rfl
theorem comp_enter{scope:Scope}{own:List Str}{fr:List Nat}{fp:List Addr}{C:Addr}{h₁:Heap}{tk:Nat}{m:Str->Option Value}(I:Inv X pins σ H s)
  (hkind:scope.kind=.function) (hcell:∀x∈scope.names,x.2≠.cell) (hfr:∀x∈scope.names,x.2=.free->X.env.scope.names.lookup x.1=some .cell\/X.env.scope.names.lookup x.1=some .free)
  (hin:∀j∈fr,scope.names.lookup (X.N.getD j Str.empty)=some .free) (hC:s.heap.objs.size<=C) (hf:∀b∈fp,FpOk X pins H b) (hfo:∀b∈fp,b<s.heap.objs.size)
  (old:∀b o,s.heap.get? b=some o->h₁.get? b=some o) (hn:h₁.Ns C m) :
  Inv (cxComp X scope (own++fr.map fun j=>X.N.getD j Str.empty) fp C s H) [] (innerSt own.length fr σ) H {s with heap:=h₁,toks:=tk}:=by
 have hfree:∀x∈scope.names,x.2=.free->∃c,X.env.cells.lookup x.1=some c:=fun x hx e=>I.ok.has x.1 (hfr x hx e)
 have sub:∀y c,(cellsFor X.env scope.names []).lookup y=some c->X.env.cells.lookup y=some c:=cellsFor_sub _ _ hfree (by intro y c e;simp at e)
 have hasF:∀y,scope.names.lookup y=some .free->∃c,(cellsFor X.env scope.names []).lookup y=some c:=fun y e=>cellsFor_has _ _ _ (PySem.mem_of_lookup e)
 refine⟨⟨I.ok.mod,?_,I.ok.glob,I.ok.blt,hC,fun x y c h1 h2=>I.ok.inj x y c (sub x c h1) (sub y c h2),fun x hx=>?_,(fun x c hx=>nomatch hx),I.ok.hd,I.ok.frames,.inl rfl,fun b hb=>?_,I.bs,Nat.le_trans I.ok.bsz I.sz,fun b o e hb=>?_,fun b hb z=>?_,I.stack,I.stkFree⟩,
  rfl,I.bare,Un.kept old,⟨m,hn,fun i x v h1 h2 h3=>?_⟩,fun x c e=>?_,I.hok.fresh hC,fun x c e=>I.freeC x c (sub x c e),fun p hp=>absurd (show p∈([]:List (Addr×Obj))from hp) (by simp),I.hok.kept old,?_⟩
 ·exact hkind
 ·have hx':(relabel scope X.env).names.lookup x=some .cell\/(relabel scope X.env).names.lookup x=some .free:=hx
  have hx2:scope.names.lookup x=some .free:=by
   rcases hx' with e|e
   ·rcases relabel_shape e with e|⟨_,e⟩
    ·exact absurd rfl (hcell _ (PySem.mem_of_lookup e))
    ·exact e
   ·rcases relabel_shape e with e|⟨z,_⟩
    ·exact e
    ·cases z
  exact hasF x hx2
 ·refine⟨Nat.ne_of_lt (Nat.lt_of_lt_of_le (hfo b hb) hC),fun x c e=>(hf b hb).2.2.2.2.1 x c (sub x c e)⟩
 ·rcases(hf b hb).2.2.2.1 with z|z
  ·exact I.ok.noex b o e z
  ·exact absurd (Nat.lt_of_lt_of_le (Heap.lt_size e) (Nat.le_trans I.ok.bsz z)) (Nat.lt_irrefl _)
 ·have hb':b∈fp:=hb
  have z':b∈frs X.stack:=z
  rcases List.mem_cons.mp (I.stkSub b z')with e|e
  ·exact(hf b hb').2.1 e
  ·exact(hf b hb').2.2.1 e
 ·obtain⟨j,hj,e1,e2,e3⟩:=inner_ok (own:=own) I.len h1 h2
  have hxf:scope.names.lookup x=some .free:=by rw[←e2];exact hin j hj
  have hk:=hfr _ (PySem.mem_of_lookup hxf) rfl
  obtain⟨m0,hn0,hl0⟩:=I.loc
  obtain⟨u,r,l⟩:=hl0 j x v e1 e3 (.inr hk)
  refine⟨u,r,?_⟩
  rcases l with⟨k,_⟩|⟨_,c,ec,z⟩
  ·have k':X.env.scope.names.lookup x=some .local:=k
   rcases hk with q|q<;>(rw[show X.env.scope.names.lookup x=_ from q]at k';cases k')
  ·obtain⟨c',ec'⟩:=hasF x hxf
   have:=sub x c' ec'
   rw[ec]at this
   cases this
   obtain⟨o,ho,hd⟩:=z
   exact .inr ⟨relabel_free hxf,c,ec',o,old c o ho,hd⟩
 ·obtain⟨v,o,ho,hd⟩:=I.cell x c (sub x c e)
  exact⟨v,o,old c o ho,hd⟩
 ·show(innerSt own.length fr σ).length=(own++fr.map fun j=>X.N.getD j Str.empty).length
  simp[innerSt]
theorem comp_leave{scope:Scope}{N':List Str}{fp:List Addr}{C D:Addr}{s':Shared}{H':Hp}{σ':St}{pins':List (Addr×Obj)}{vs:List V}{ys:Array Value}{h'':Heap}(I:Inv X pins σ H s)(hf:∀b∈fp,FpOk X pins H b)
  (I':Inv (cxComp X scope N' fp C s H) pins' σ' H' s') (hC:s.heap.objs.size<=C) (hD:s.heap.objs.size<=D) (hDC:D≠C) (hDn:H' D=none) (pl:s'.heap.PlainList D ys) (rv:Vals vs ys.toList) (hz:vs.length<=sizeLine) (hs:Heap.SameBut C s'.heap h'') :
  Inv X pins σ (upd H' D (.lst vs)) {s' with heap:=h''}:=by
 have un:Un (frs X.stack) fp H H' s.heap s'.heap:=I'.base
 have hCn:H' C=none:=I'.free
 have at':∀b,b≠C->h''.get? b=s'.heap.get? b:=fun b hb=>hs.2 b hb
 have neC:∀b o,s.heap.get? b=some o->b≠C:=fun b o e=>Nat.ne_of_lt (Nat.lt_of_lt_of_le (Heap.lt_size e) hC)
 have neD:∀b o,s.heap.get? b=some o->b≠D:=fun b o e=>Nat.ne_of_lt (Nat.lt_of_lt_of_le (Heap.lt_size e) hD)
 have okHD:∀b u,H b=some u->b≠D:=fun b u e=>Nat.ne_of_lt (Nat.lt_of_lt_of_le (I.hok.lt e) hD)
 have un':Un (frs X.stack) fp H (upd H' D (.lst vs)) s.heap h'':=by
  refine⟨fun b o e n h1 h2=>?_,fun b o e n h1 h2=>?_,fun b o e n h2=>?_,fun b o e h2=>?_,fun b xs e=>?_,fun b o u e=>?_,fun b ps e=>?_⟩
  ·rw[at' b (neC b o e)];exact un.keep b o e n h1 h2
  ·rw[at' b (neC b o e)];exact un.slot b o e n h1 h2
  ·rw[upd_ne (neD b o e)];exact un.free b o e n h2
  ·rw[at' b (neC b o e)];exact un.there b o e h2
  ·rw[upd_ne (okHD b _ e)];exact un.tups b xs e
  ·rw[upd_ne (okHD b _ e)];exact un.frzs b o u e
  ·rw[upd_ne (okHD b _ e)];exact un.tbls b ps e
 have hok:HOk X.prog X.w (upd H' D (.lst vs)) h'':=fun b u e=>by
  by_cases hb:b=D
  ·subst hb
   rw[upd_same]at e
   cases e
   obtain⟨n,ho⟩:=pl
   refine⟨hz,ys.toList,n,rv,?_⟩
   rw[at' b hDC]
   simpa using ho
  ·rw[upd_ne hb]at e
   refine(I'.hok b u e).stay (fun c v hc q=>?_) (fun c q=>?_) fun c xs q=>?_
   ·rw[at' c ?_];exact q
    rintro rfl
    rcases hc with z|z
    ·rw[←z,hCn]at e;cases e
    ·rw[hCn]at z;cases z
   ·rw[upd_ne (fun z=>by rw[z,hDn]at q;cases q)];exact q
   ·rw[upd_ne (fun z=>by rw[z,hDn]at q;cases q)];exact q
 exact I.call' (s':={s' with heap:=h''}) (ch:=fp) I'.os un' hok I'.bare fun b hb=>⟨(hf b hb).2.2.2.1,(hf b hb).2.1,(hf b hb).2.2.2.2.1,(hf b hb).2.2.2.2.2⟩
end
section
variable {X:Cx}
theorem pe_comp{elt iter tg:Expr}{ifs:List Expr}{scope:Scope}{pos:Pos}{wi:TI}{g:TG}{tt:TT}{te:TE}(own:List Str)(fr:List Nat)(hc:X.calm=true)
  (hkind:scope.kind=.function) (hcell:∀x∈scope.names,x.2≠.cell) (hnames:∀x∈scope.names,x.2=.local->scope.names.lookup x.1=some .local)
  (hfr:∀x∈scope.names,x.2=.free->X.env.scope.names.lookup x.1=some .cell\/X.env.scope.names.lookup x.1=some .free)
  (hin:∀j∈fr,scope.names.lookup (X.N.getD j Str.empty)=some .free)
  (hi:PI X tg iter wi) (hg:∀fp C s H,PG (cxComp X scope (own++fr.map fun j=>X.N.getD j Str.empty) fp C s H) tg g)
  (ht:∀fp C s H,PIfs (cxComp X scope (own++fr.map fun j=>X.N.getD j Str.empty) fp C s H) ifs tt)
  (he:∀fp C s H,PE (cxComp X scope (own++fr.map fun j=>X.N.getD j Str.empty) fp C s H) elt te)
  (hs:∀x,foldedSetIterable iter X.env x=pure x:=by intro _;rfl):PE X (.ListComp elt [⟨tg,iter,ifs,0⟩] scope pos) (tComp own.length fr wi g tt te):=by
 intro pins s σ H Q I h
 rw[eval_ListComp]
 have hfree:∀x∈scope.names,x.2=.free->∃c,X.env.cells.lookup x.1=some c:=fun x hx e=>I.ok.has x.1 (hfr x hx e)
 refine wpAny_comprehension_free (use:=none) rfl hs (closureFor_eq hfree) hkind hnames ?_
 refine thn (hi pins s σ H _ I h) fun v s1 h1=>thn h1 fun itv s2 h2=>?_
 obtain⟨it,fp,tn,J,H2,e,I2,T,st2,f2,W,⟨m0,w0⟩,turn⟩:=h2
 subst e
 have hfo:∀b∈fp,b<s2.heap.objs.size:=fun b hb=>by obtain⟨o,e,_⟩:=T.obj 0 _ st2 b hb;exact Heap.lt_size e
 refine wpAny_newObj_type (wpAny_newFunctionEnv hcell (by intro y hy;simp at hy) (fun h₁ hns₁ hsb₁=>?_) hkind)
 dsimp only at hns₁ hsb₁⊢
 generalize hH2:s2.heap.push {cls:=.type "list",dict:=none,data:=.seq ([]:List Value).toArray}=G2 at hns₁ hsb₁⊢
 have hC:G2.objs.size=s2.heap.objs.size+1:=by rw[←hH2,Heap.size_push]
 have hDC:s2.heap.objs.size≠G2.objs.size:=by rw[hC];exact Nat.ne_of_lt (Nat.lt_succ_self _)
 have hCle:s2.heap.objs.size<=G2.objs.size:=by rw[hC];exact Nat.le_succ _
 have old:∀b o,s2.heap.get? b=some o->h₁.get? b=some o:=fun b o e=>hsb₁.extBut b o (by rw[hC];exact Nat.ne_of_lt (Nat.lt_succ_of_lt (Heap.lt_size e))) (Heap.get?_push_of_some _ (hH2▸Heap.get?_push_of_some _ e))
 have hacc:h₁.PlainList s2.heap.objs.size #[]:=⟨_,hsb₁.extBut _ _ hDC (Heap.get?_push_of_some _ (hH2▸Heap.get?_push_size _ rfl))⟩
 have I3:Inv (cxComp X scope (own++fr.map fun j=>X.N.getD j Str.empty) fp G2.objs.size s2 H2) [] (innerSt own.length fr σ) H2 {s2 with heap:=h₁,toks:=s2.toks+([]:List (Str×Value)).length} :=
  comp_enter I2 hkind hcell hfr hin hCle f2 hfo old hns₁
 have st3:tn 0 h₁:=T.keep 0 _ _ st2 fun b _ o e=>old b o e
 have hDf:s2.heap.objs.size∉fp:=fun hm=>Nat.lt_irrefl _ (hfo _ hm)
 have hDn2:H2 s2.heap.objs.size=none:=I2.hok.fresh (Nat.le_refl _)
 have sub:∀y c,(cellsFor X.env scope.names []).lookup y=some c->X.env.cells.lookup y=some c:=cellsFor_sub _ _ hfree (by intro y c e;simp at e)
 have cellD:∀y c,(cellsFor X.env scope.names []).lookup y=some c->c≠s2.heap.objs.size:=fun y c e=>by
  obtain⟨_,o,ho,_⟩:=I2.cell y c (sub y c e)
  exact Nat.ne_of_lt (Heap.lt_size ho)
 have Dfs:s2.heap.objs.size∉frs X.stack:=fun z=>by
  rcases List.mem_cons.mp (I2.stkSub _ z)with e|e
  ·exact absurd I2.lt (by rw[←e];exact Nat.lt_irrefl _)
  ·exact I2.nofs (Nat.le_refl _) e
 -- the iterator's records,in the block's context
 have stat:∀{H':Hp}{pl:List (Addr×Obj)},(∀b∈fp,H' b=none)->(∀p∈pl,p.1=s2.heap.objs.size)->∀b∈fp,FpOk (cxComp X scope (own++fr.map fun j=>X.N.getD j Str.empty) fp G2.objs.size s2 H2) pl H' b:=fun{H' pl} hn hp b hb=>by
  refine⟨hn b hb,(I3.ok.exf b hb).1,I3.ok.exfs b hb,.inl hb,(I3.ok.exf b hb).2,fun p hpp z=>?_⟩
  have hpp':p∈pl:=by simpa[cxComp]using hpp
  exact hDf (by rw[←hp p hpp',z];exact hb)
 have pinD:∀{σ':St}{H':Hp}{s':Shared}{ys:Array Value}{n:Nat},Inv (cxComp X scope (own++fr.map fun j=>X.N.getD j Str.empty) fp G2.objs.size s2 H2) [] σ' H' s'->H' s2.heap.objs.size=none->s'.heap.get? s2.heap.objs.size=some {cls:=.type "list",data:=.seq ys n} ->
   Inv (cxComp X scope (own++fr.map fun j=>X.N.getD j Str.empty) fp G2.objs.size s2 H2) [(s2.heap.objs.size,{cls:=.type "list",data:=.seq ys n})] σ' H' s':=fun{σ' H' s' ys n} J hn e=>J.pins_of fun p hp=>by
  have e':p=(s2.heap.objs.size,{cls:=.type "list",data:=.seq ys n}):=by simpa using hp
  subst e'
  exact⟨e,hn,hDC,Dfs,fun v z=>nomatch z⟩
 have loop:codeAny (model X.prog X.w) X.A (.compLoop (.ListComp elt [⟨tg,iter,ifs,0⟩] scope pos) 0 (.ref it) (.ref s2.heap.objs.size) (compEnvC scope (cellsFor X.env scope.names []) G2.objs.size X.env))
   (compPost (model X.prog X.w) X.A X.xe none (EP X pins σ Q) (.ref s2.heap.objs.size) G2.objs.size) {s2 with heap:=h₁,toks:=s2.toks+([]:List (Str×Value)).length}:=by
  refine codeAny_compLoop_any (E:=fun _ _=>False) (fun n s'=>∃i σ' H' vs ys,Inv (cxComp X scope (own++fr.map fun j=>X.N.getD j Str.empty) fp G2.objs.size s2 H2) [] σ' H' s'/\tn i s'.heap/\(∀b∈fp,H' b=none)/\H' s2.heap.objs.size=none/\s'.heap.PlainList s2.heap.objs.size ys/\Vals vs ys.toList/\W i n σ' vs H')
   ?_ (fun _ _ z=>z.elim) m0 ⟨0,_,H2,[],#[],I3,st3,fun b hb=>(f2 b hb).1,hDn2,hacc,.nil,w0⟩
  rintro n s3 ⟨i,σ3,H3,vs,ys,J3,st3,fr3,dn3,⟨pn,pl3⟩,rv,w3⟩
  have J3':=pinD J3 dn3 pl3
  have hpins:∀p∈[(s2.heap.objs.size,({cls:=.type "list",data:=.seq ys pn}:Obj))],p.1=s2.heap.objs.size:=fun p hp=>by
   have e':p=(s2.heap.objs.size,{cls:=.type "list",data:=.seq ys pn}):=by simpa using hp
   rw[e']
  rcases turn i n σ3 vs H3 w3 with⟨stop,hz,q⟩|⟨go,hz,N,hN,step⟩
  ·refine thn (T.done (cxComp X scope (own++fr.map fun j=>X.N.getD j Str.empty) fp G2.objs.size s2 H2) rfl rfl rfl hc i _ s3 σ3 H3 (fun _ _=>False) J3' (stat fr3 hpins) st3 stop) fun r s4 ⟨hr,J4⟩=>?_
   subst hr
   obtain⟨m4,hn4,_⟩:=id J4.loc
   refine⟨m4,hn4,fun h' hs'=>?_⟩
   have e4:s4.heap.get? s2.heap.objs.size=some {cls:=.type "list",data:=.seq ys pn}:=(J4.pin (s2.heap.objs.size,{cls:=.type "list",data:=.seq ys pn}) (List.mem_append_right _ (by simp))).1
   exact⟨.ref s2.heap.objs.size,_,comp_leave I2 f2 J4 hCle (Nat.le_refl _) hDC dn3 ⟨pn,e4⟩ rv hz hs',rfl,q _ dn3⟩
  ·refine thn (T.item (cxComp X scope (own++fr.map fun j=>X.N.getD j Str.empty) fp G2.objs.size s2 H2) rfl rfl rfl hc i _ s3 σ3 H3 (fun _ _=>False) J3' (stat fr3 hpins) st3 go) fun r s4 ⟨u,hr,h4⟩=>?_
   subst hr
   refine thn h4 fun _ s5 ⟨x,H5,J5,r5,y5,st5,fr5⟩=>?_
   have J5':=J5.pinned (stat fr5 hpins) (T.obj _ _ st5)
   refine thn (hg fp _ s2 H2 _ s5 σ3 H5 x u _ J5' r5 (step x H5 y5)) fun _ s6 ⟨σ6,H6,J6,q6⟩=>?_
   refine thn (ht fp _ s2 H2 _ s6 σ6 H6 _ J6 q6) fun ok s7 ⟨H7,J7,q7⟩=>?_
   -- what stood pinned through the turn
   have after:∀{s8:Shared}{H8:Hp},Inv (cxComp X scope (own++fr.map fun j=>X.N.getD j Str.empty) fp G2.objs.size s2 H2) ([(s2.heap.objs.size,({cls:=.type "list",data:=.seq ys pn}:Obj))]++pinsAt fp s5.heap) σ6 H8 s8 ->
     tn (i+1) s8.heap/\(∀b∈fp,H8 b=none)/\H8 s2.heap.objs.size=none/\s8.heap.get? s2.heap.objs.size=some {cls:=.type "list",data:=.seq ys pn}:=fun{s8 H8} J8=>by
    refine⟨T.keep _ _ _ st5 fun b hb o e=>(J8.pin (b,o) (List.mem_append_right _ (List.mem_append_right _ (mem_pinsAt hb e)))).1,fun b hb=>?_,?_,?_⟩
    ·obtain⟨o,e,d⟩:=T.obj _ _ st5 b hb
     exact(J8.pin (b,o) (List.mem_append_right _ (List.mem_append_right _ (mem_pinsAt hb e)))).2.1
    ·exact(J8.pin (s2.heap.objs.size,{cls:=.type "list",data:=.seq ys pn}) (List.mem_append_right _ (List.mem_append_left _ (by simp)))).2.1
    ·exact(J8.pin (s2.heap.objs.size,{cls:=.type "list",data:=.seq ys pn}) (List.mem_append_right _ (List.mem_append_left _ (by simp)))).1
   cases ok with
   |false =>
    obtain⟨m',hm,w7⟩:=hN _ _ _ q7
    obtain⟨a1,a2,a3,a4⟩:=after J7
    exact⟨m',hm,i+1,σ6,H7,vs,ys,J7.pins_of (fun p hp=>absurd hp (by simp)),a1,a2,a3,⟨pn,a4⟩,rv,w7⟩
   |true =>
    refine thn (he fp _ s2 H2 _ s7 σ6 H7 _ J7 q7) fun y s8 ⟨v8,H8,J8,r8,n8⟩=>?_
    obtain⟨m',hm,w8⟩:=hN _ _ _ n8
    obtain⟨a1,a2,a3,a4⟩:=after J8
    have J9:Inv (cxComp X scope (own++fr.map fun j=>X.N.getD j Str.empty) fp G2.objs.size s2 H2) [] σ6 H8 s8:=J8.pins_of (fun p hp=>absurd hp (by simp))
    have hys:ys.size<=sizeLine:=by
     have e1:vs.length=ys.toList.length:=rv.length
     have e2:ys.toList.length=ys.size:=by simp
     omega
    refine wpAny_list_append_plain (hsz:=hys) ⟨pn,a4⟩ fun h₅ hl₅ hs₅=>?_
    refine⟨m',hm,i+1,σ6,H8,vs++[v8],ys.push y,J9.turned (t':=s8.toks) (it:=s2.heap.objs.size) (fun b o hb e=>by rw[hs₅.2 b hb];exact e) a3 hDC (.inr (Nat.le_refl _)) cellD (fun p hp=>absurd (show p∈([]:List (Addr×Obj))from hp) (by simp)),
     T.keep _ _ _ a1 fun b hb o e=>(hs₅.2 b (fun z=>hDf (z▸hb))).trans e,a2,a3,hl₅,?_,w8⟩
    have:Vals (vs++[v8]) (ys.toList++[y]):=rv.append (.cons r8 .nil)
    simpa using this
 exact codeAny_compStart_list loop (T.self X.A 0 _ _ _ st3 loop)
end
def compOk(scope sc:Scope)(N0:List Str)(fr:List Nat):Bool :=
 scope.kind == .function&&scope.names.all (fun x=>x.2 != .cell&&(x.2 != .local||scope.names.lookup x.1 == some .local)&&(x.2 != .free||sc.names.lookup x.1 == some .cell||sc.names.lookup x.1 == some .free)) &&
  fr.all (fun j=>scope.names.lookup (N0.getD j Str.empty) == some .free)
theorem pe_compC{X:Cx}{elt iter tg:Expr}{ifs:List Expr}{scope:Scope}{pos:Pos}{wi:TI}{g:TG}{tt:TT}{te:TE}(sc:Scope)(N0 own:List Str)(fr:List Nat)(hc:X.calm=true)(hsc:X.env.scope=sc)(hN:X.N=N0)
  (ok:compOk scope sc N0 fr=true) (hi:PI X tg iter wi) (hg:∀fp C s H,PG (cxComp X scope (own++fr.map fun j=>N0.getD j Str.empty) fp C s H) tg g)
  (ht:∀fp C s H,PIfs (cxComp X scope (own++fr.map fun j=>N0.getD j Str.empty) fp C s H) ifs tt)
  (he:∀fp C s H,PE (cxComp X scope (own++fr.map fun j=>N0.getD j Str.empty) fp C s H) elt te)
  (hs:∀x,foldedSetIterable iter X.env x=pure x:=by intro _;rfl):PE X (.ListComp elt [⟨tg,iter,ifs,0⟩] scope pos) (tComp own.length fr wi g tt te):=by
 subst hsc hN
 unfold compOk at ok
 simp only[Bool.and_eq_true,List.all_eq_true,bne_iff_ne,beq_iff_eq,Bool.or_eq_true]at ok
 obtain⟨⟨k1,k2⟩,k3⟩:=ok
 refine pe_comp own fr hc k1 (fun x hx=>(k2 x hx).1.1) (fun x hx e=>?_) (fun x hx e=>?_) (fun j hj=>k3 j hj) hi hg ht he hs
 ·rcases(k2 x hx).1.2 with z|z
  ·exact absurd e z
  ·exact z
 ·rcases(k2 x hx).2 with(z|z)|z
  ·exact absurd e z
  ·exact .inl z
  ·exact .inr z
section
variable {g:TG}{tt:TT}{te:TE}{Q:VK}{σ0:St}{H0:Hp}
theorem comp_by{J:It}(n:Nat)(Pv:Nat->St->List V->Hp->Prop)(h0:Pv 0 σ0 [] H0)(hlen:∀i σ vs H,i<=n->Pv i σ vs H->vs.length<=i)(hn:n<=sizeLine)(hgo:∀i σ vs H,i<n->Pv i σ vs H->J.go i H)(hst:∀σ vs H,Pv n σ vs H->J.stop n H)
  (hs:∀i σ vs H x H',i<n->Pv i σ vs H->J.yld i H x H'->g x σ H' fun σ2 H2=>tt σ2 H2 fun ok H3=>if ok=true then te σ2 H3 fun v H4=>Pv (i+1) σ2 (vs++[v]) H4 else Pv (i+1) σ2 vs H3)
  (hd:∀σ vs H,Pv n σ vs H->∀p,H p=none->Q (.ref p) (upd H p (.lst vs))):CompW J g tt te Q σ0 H0:=by
 refine⟨fun i m σ vs H=>m=n-i/\i<=n/\Pv i σ vs H,⟨n,by simp,Nat.zero_le _,h0⟩,?_⟩
 rintro i m σ vs H ⟨rfl,hi,p⟩
 have hv:=hlen i σ vs H hi p
 by_cases hlt:i<n
 ·exact .inr ⟨hgo i σ vs H hlt p,by omega,Pv (i+1),fun σ2 vs2 H2 q=>⟨n - (i+1),by omega,rfl,hlt,q⟩,fun x H' y=>hs i σ vs H x H' hlt p y⟩
 ·have e:i=n:=by omega
  subst e
  exact .inl ⟨hst σ vs H p,by omega,hd σ vs H p⟩
theorem comp_range{lo:Int}{n:Nat}(Pv:Nat->St->List V->Hp->Prop)(h0:Pv 0 σ0 [] H0)(hlen:∀i σ vs H,i<=n->Pv i σ vs H->vs.length<=i)(hn:n<=sizeLine)
  (hs:∀i σ vs H,i<n->Pv i σ vs H->g (.int (lo+i)) σ H fun σ2 H2=>tt σ2 H2 fun ok H3=>if ok=true then te σ2 H3 fun v H4=>Pv (i+1) σ2 (vs++[v]) H4 else Pv (i+1) σ2 vs H3)
  (hd:∀σ vs H,Pv n σ vs H->∀p,H p=none->Q (.ref p) (upd H p (.lst vs))):CompW (Itr lo n) g tt te Q σ0 H0 :=
 comp_by n Pv h0 hlen hn (fun _ _ _ _ h _=>h) (fun _ _ _ _=>Nat.le_refl _) (fun i σ vs H x H' hi p y=>by obtain⟨rfl,rfl⟩:=y;exact hs i σ vs _ hi p) hd
theorem comp_list{K:PySem.W.Frag}{a:Addr}{xs:List V}(Pv:Nat->St->List V->Hp->Prop)(h0:Pv 0 σ0 [] H0)(hlen:∀i σ vs H,i<=xs.length->Pv i σ vs H->vs.length<=i)(hn:xs.length<=sizeLine)(hl:∀i σ vs H,i<=xs.length->Pv i σ vs H->SqL K H a xs)
  (hs:∀i x σ vs H,xs[i]?=some x->Pv i σ vs H->g x σ H fun σ2 H2=>tt σ2 H2 fun ok H3=>if ok=true then te σ2 H3 fun v H4=>Pv (i+1) σ2 (vs++[v]) H4 else Pv (i+1) σ2 vs H3)
  (hd:∀σ vs H,Pv xs.length σ vs H->∀p,H p=none->Q (.ref p) (upd H p (.lst vs))):CompW (Itl K a) g tt te Q σ0 H0:=by
 refine comp_by xs.length Pv h0 hlen hn (fun i σ vs H hi p=>⟨xs,xs[i],hl i σ vs H (Nat.le_of_lt hi) p,by simp[hi]⟩) (fun σ vs H p=>⟨xs,hl _ σ vs H (Nat.le_refl _) p,Nat.le_refl _⟩) (fun i σ vs H x H' hi p y=>?_) hd
 obtain⟨rfl,y⟩:=y
 exact hs i x σ vs _ (y xs (hl i σ vs _ (Nat.le_of_lt hi) p)) p
end
section
variable {prog:Program}{w:World}{A:Around}{E:Value->Shared->Prop}{s:Shared}
end
structure ZTold(h:Heap) (lo:Nat) (xs ys:Array Value) (as:List Nat):Prop where
 rise:as.Pairwise (· < ·)
 low:∀a∈as,lo<=a
 pairs:∀(j:Nat) (a:Nat),as[j]?=some a->∃x y,xs[j]?=some x/\ys[j]?=some y/\IsPair h a x y
theorem ZTold.lt{h:Heap}{lo:Nat}{xs ys:Array Value}{as:List Nat}(g:ZTold h lo xs ys as){a:Nat}(ha:a∈as):a<h.objs.size:=by
 obtain⟨j,hj⟩:=List.mem_iff_getElem?.mp ha
 obtain⟨_,_,_,_,e⟩:=g.pairs j a hj
 exact Heap.lt_size e
theorem ZTold.keep{h h':Heap}{lo:Nat}{xs ys:Array Value}{as:List Nat}(g:ZTold h lo xs ys as)(k:∀c o,lo<=c->h.get? c=some o->h'.get? c=some o):ZTold h' lo xs ys as :=
 ⟨g.rise,g.low,fun j a e=>by
  obtain⟨x,y,e1,e2,e3⟩:=g.pairs j a e
  exact⟨x,y,e1,e2,k a _ (g.low a (List.mem_of_getElem? e)) e3⟩⟩
section
variable {prog:Program}{w:World}{A:Around}{R:Result->Shared->Prop}{s:Shared}
end
section
variable {prog:Program}{w:World}{A:Around}{E:Value->Shared->Prop}{s:Shared}
end
section
variable {X:Cx}{pins:List (Addr×Obj)}{σ:St}{H H':Hp}{s:Shared}{h':Heap}
end
section
variable {X:Cx}{a b:Expr}{t:TA}{p1 p2 p3 p4:Pos}
end
def Its(x:Str):It:=⟨fun i _=>i<x.cps.size,fun i H v H'=>H'=H/\∃c,x.cps[i]?=some c/\v=.str ⟨#[c]⟩,fun i _=>i=x.cps.size⟩
theorem turn_str{P:Program}{w:World}{K:PySem.W.Frag}{tg:Expr}(it:Addr)(x:Str)(t:Tok)(ty:String)
  (W:∀A':Around,A'.handled=none->Walks P w A' it [it] [it] x.cps.size (SignAt x) (fun i h=>h.IsStrIter it ty x t i))
  (hty:["enumerate","zip","dict_itemiterator","dict_reverseitemiterator","odict_iterator","itertools.zip_longest","itertools.pairwise"].contains ty=false)
  (hself:∀(A:Around) (i:Nat) (s:Shared) (Q:Value->Shared->Prop) (E:Value->Shared->Prop),s.heap.IsStrIter it ty x t i->Q (.ref it) s->wpAny (model P w) A (pyIter (.ref it)) Q E s):Turn P w K tg (Its x) [it] it (fun i h=>h.IsStrIter it ty x t i) where
 mem:=by simp
 obj:=fun i h st b hb=>by
  have e:b=it:=by simpa using hb
  subst e
  obtain⟨o,e,c,d⟩:=st
  exact⟨o,e,fun v z=>by rw[d]at z;cases z⟩
 keep:=fun i h h' st k=>let⟨o,e,r⟩:=st;⟨o,k it (by simp) o e,r⟩
 item:=by
  intro X hP hw hK hc i pins s σ H E I hf st hg
  subst hP hw hK
  obtain⟨f0,f1,f2,f3,f4,f5⟩:=hf it (by simp)
  refine(W X.A (I.ok.hd hc)).item i s _ _ hg st fun v h' tk hv st' kk=>?_
  obtain⟨c,u,hcu,rfl⟩:=hv
  have I1:Inv X pins σ H {s with heap:=h',toks:=tk}:=I.turned (fun b o hb e=>kk b o (by simpa using hb) e) f0 f1 f3 f4 f5
  obtain⟨o,e,cl,d⟩:=id st'
  exact⟨_,rfl,go_of (s:={s with heap:=h',toks:=tk}) (n:=ty) e cl d hty ⟨.str ⟨#[c]⟩,H,I1,⟨u,rfl⟩,⟨rfl,c,hcu,rfl⟩,st',fun b hb=>(hf b hb).1⟩⟩
 done:=by
  intro X hP hw hK hc i pins s σ H E I hf st hg
  subst hP hw hK
  obtain⟨f0,f1,f2,f3,f4,f5⟩:=hf it (by simp)
  have hi:i=x.cps.size:=hg
  subst hi
  exact(W X.A (I.ok.hd hc)).done s _ _ st fun h' tk kk=>⟨rfl,I.turned (fun b o hb e=>kk b o (by simpa using hb) e) f0 f1 f3 f4 f5⟩
 self:=fun A i s Q E st h=>hself A i s Q E st h
section
variable {X:Cx}{tg:Expr}
def iStr(te:TE):TI:=fun σ H R=>te σ H fun v H1=>∃x,v=.str x/\R (Its x) H1
theorem pi_str{e:Expr}{te:TE}(he:PE X e te):PI X tg e (iStr te):=by
 intro pins s σ H R I h
 refine thn (he pins s σ H _ I h) fun v s1 ⟨y,H1,I1,r1,x,e1,q⟩=>?_
 subst e1
 obtain⟨t,rfl⟩:=r1
 have fin:∀b∈[s1.heap.objs.size],FpOk X pins H1 b:=fun b hb=>by
  have e:b=s1.heap.objs.size:=by simpa using hb
  subst e
  exact I1.fpOk (Nat.le_refl _) (I1.hok.fresh (Nat.le_refl _))
 cases ha:x.cps.all (· < 128)
 ·exact wpAny_pyIter_wide ha ⟨s1.heap.objs.size,[s1.heap.objs.size],_,_,H1,rfl,I1.kept (t':=s1.toks) fun b o e=>Heap.get?_push_of_some _ e,
   turn_str _ x t "str_iterator" (fun A' hA=>Walks.strWide hA _ x t) (by decide) (fun A i s Q E st h=>wpAny_pyIter_striter_wide st h),⟨_,Heap.get?_push_size _ rfl,rfl,rfl⟩,fin,q⟩
 ·exact wpAny_pyIter_ascii ha ⟨s1.heap.objs.size,[s1.heap.objs.size],_,_,H1,rfl,I1.kept (t':=s1.toks) fun b o e=>Heap.get?_push_of_some _ e,
   turn_str _ x t "str_ascii_iterator" (fun A' hA=>Walks.strAscii hA _ x t) (by decide) (fun A i s Q E st h=>wpAny_pyIter_striter_ascii st h),⟨_,Heap.get?_push_size _ rfl,rfl,rfl⟩,fin,q⟩
end
section
variable {X:Cx}
theorem strs_of:∀{ys:List Str}{us:List Value},Vals (ys.map V.str) us->StrsAre us ys
 | [],_,.nil=>.nil
 |_::_,_,.cons ⟨t,e⟩ r=>by subst e;exact .cons _ t (strs_of r)
def rJoin(K:PySem.W.Frag):V->List V->Hp->VK->Prop:=fun x vs H Q=>∃z p ys,x=.str z/\vs=[.ref p]/\SqL K H p (ys.map V.str)/\(ys.map (·.length)).sum+ys.length*z.length<=16777216/\Q (.str (Txt.join z ys)) H
theorem mt_join:MtR X "str.join" (rJoin X.K):=by
 intro pins s σ H x xs v us Q I rx rs h
 obtain⟨z,p,ys,rfl,rfl,hq,hb,q⟩:=h
 obtain⟨t,rfl⟩:=rx
 obtain⟨u,rfl,ru⟩:=vals1 rs
 cases ru
 obtain⟨its,rv,pl,hz⟩:=I.list hq
 exact join_list pl.isList (by simpa using strs_of rv) hb fun t' k=>⟨.str _,H,I.tok _,⟨_,rfl⟩,q⟩
theorem bools_of:∀{bs:List Bool}{us:List Value},Vals (bs.map V.bl) us->LSm.BoolsAre us bs
 | [],_,.nil=>.nil
 |_::_,_,.cons e r=>by cases e;exact .cons _ (bools_of r)
theorem call_all(hc:X.calm=true):CallR X (.builtin "all") (fun xs H Q=>∃(p:Addr) (bs:List Bool),xs=[.ref p]/\SqL X.K H p (bs.map V.bl)/\Q (.bl (bs.all id)) H):=by
 intro pins s σ H xs us Q I r h
 obtain⟨p,bs,rfl,hq,q⟩:=h
 obtain⟨u,rfl,ru⟩:=vals1 r
 cases ru
 obtain⟨its,rv,pl,hz⟩:=I.list hq
 have hb:=bools_of rv
 have hl:=pl.isList
 have hlt:p<s.heap.objs.size:=by obtain⟨_,e,_⟩:=hl;exact Heap.lt_size e
 refine call_all_walk (wpAny_pyIter_list hl ?_)
 refine⟨s.heap.objs.size,[s.heap.objs.size,p],[s.heap.objs.size],its.toArray.size,_,_,fun i=>(bs[i]?).getD true,rfl,Walks.list (A:=X.A.in1) (I.ok.hd hc) _ p (Nat.ne_of_lt hlt) its.toArray,
  ⟨⟨_,Heap.get?_push_size _ rfl,rfl,rfl⟩,hl.push _⟩,fun i v s' Q' E' hP hQ=>?_,fun h' tk hk=>?_⟩
 ·obtain⟨b,e,rfl⟩:=hb.get i v (by simpa using hP)
  simp only[e,Option.getD_some]at hQ
  exact wpAny_truthy_bool hQ
 ·have e:((List.range its.toArray.size).all fun i=>(bs[i]?).getD true)=bs.all id:=by
   rw[List.size_toArray,hb.length];exact LSm.range_all bs
  rw[e]
  exact⟨.bl _,H,I.kept (LSm.kept_iter hk),rfl,q⟩
def isB:V->String->Option Bool
 |.bl _,"bool"=>some true
 |.bl _,"int"=>some true
 |.int _,"int"=>some true
 |.int _,"bool"=>some false
 |_,_=>none
theorem call_isB:CallR X (.builtin "isinstance") (fun xs H Q=>∃x T r,xs=[x,.ty T]/\isB x T=some r/\Q (.bl r) H):=by
 intro pins s σ H xs us Q I r h
 obtain⟨x,T,b,rfl,e,q⟩:=h
 obtain⟨u,w',rfl,r1,r2⟩:=vals2 r
 obtain rfl:w'=Value.type T:=r2
 unfold isB at e
 split at e
 ·cases e;obtain rfl:u=Value.bool _:=r1;exact IsiPair.bool_bool ⟨.bl _,H,I,rfl,q⟩
 ·cases e;obtain rfl:u=Value.bool _:=r1;exact IsiPair.bool_int ⟨.bl _,H,I,rfl,q⟩
 ·cases e;obtain⟨t,rfl⟩:=r1;exact IsiPair.int_int ⟨.bl _,H,I,rfl,q⟩
 ·cases e;obtain⟨t,rfl⟩:=r1;exact IsiPair.int_bool ⟨.bl _,H,I.tok _,rfl,q⟩
 ·cases e
def rSlS:V->Option Int->Option Int->Hp->VK->Prop:=fun x lo hi H Q=>∃z,x=.str z/\z.length<=sizeLine/\Q (.str (Txt.slice z lo hi)) H
theorem part_of{v:Value}{o:Option Int}(h:IsPart v o):∃p:Option (Int×Tok),v=partValue p/\p.map (·.1)=o:=by
 cases h with
 |none=>exact⟨none,rfl,rfl⟩
 |int i t=>exact⟨some (i,t),rfl,rfl⟩
theorem sl_str:SlR X rSlS:=by
 intro pins s σ H x v vl vu lo hi sl Q I rx hs pl pu h
 obtain⟨z,rfl,hz,q⟩:=h
 obtain⟨t,rfl⟩:=rx
 obtain⟨p1,rfl,e1⟩:=part_of pl
 obtain⟨p2,rfl,e2⟩:=part_of pu
 refine⟨"str",_,PySem.F.slot_str_getitem.lookup,typeIs_str s z t,?_⟩
 refine wpAny_getItem_str_slice (l:=p1) (u:=p2) (st:=none) hs rfl ?_
 subst e1 e2
 cases p1<;>cases p2<;>exact post_val_or_str ⟨Nat.le_trans (Txt.slice_le z _ _) hz,fun t' k=>⟨.str _,H,I.tok _,⟨_,rfl⟩,q⟩⟩
end
def pickV(xs:List V)(lo hi st:Option Int):List V:=(sliceRange (sliceBounds lo hi st xs.length).1 (sliceBounds lo hi st xs.length).2.1 (sliceBounds lo hi st xs.length).2.2).filterMap (xs[·]?)
theorem vals_pick{xs:List V}{us:List Value}(r:Vals xs us):∀ix:List Nat,Vals (ix.filterMap (xs[·]?)) (ix.filterMap (us[·]?))
 | []=>.nil
 |i::ix=>by
  rw[List.filterMap_cons,List.filterMap_cons]
  cases e:xs[i]? with
  |none=>rw[r.none_of e];exact vals_pick r ix
  |some x =>
   obtain⟨u,e2,rx⟩:=r.get e
   rw[e2]
   exact .cons rx (vals_pick r ix)
section
variable {X:Cx}{e st:Expr}{lo hi:Option Expr}{te:TE}{tl th tk:TO}{p2 pos:Pos}
def tSl3(K:PySem.W.Frag)(te:TE)(tl th tk:TO):TE:=fun σ H Q=>te σ H fun x H1=>tl σ H1 fun l H2=>th σ H2 fun u H3=>tk σ H3 fun k H4=>∃a xs,x=.ref a/\SqL K H4 a xs/\k≠some 0/\(pickV xs l u k).length<=sizeLine /\
 ∀p,H4 p=none->Q (.ref p) (upd H4 p (.lst (pickV xs l u k)))
theorem pe_slice3(he:PE X e te)(hl:PO X lo tl)(hu:PO X hi th)(hk:PO X (some st) tk):PE X (.Subscript e (.Slice lo hi (some st) p2) pos) (tSl3 X.K te tl th tk):=by
 intro pins s σ H Q I h
 refine Subscript_ (thn (he pins s σ H _ I h) fun v s1 ⟨x,H1,I1,r1,q1⟩=>?_)
 refine wpAny_Slice (thn (hl pins s1 σ H1 _ I1 q1) fun vl s2 ⟨l,H2,I2,pl,q2⟩=>thn (hu pins s2 σ H2 _ I2 q2) fun vu s3 ⟨u,H3,I3,pu,q3⟩=>thn (hk pins s3 σ H3 _ I3 q3) fun vk s4 ⟨k,H4,I4,pk,q4⟩=>?_)
 obtain⟨a,xs,rfl,hx,k0,hz2,q⟩:=q4
 cases r1
 have I5:Inv X pins σ H4 {s4 with heap:=s4.heap.push {cls:=.type "slice",data:=.fields #[vl,vu,vk]}}:=I4.kept (t':=s4.toks) fun b ob q=>Heap.get?_push_of_some _ q
 obtain⟨its,r,ht,hz⟩:=I5.list hx
 have hlen:=r.length
 refine tail_any (T:="list") (ops:=[.ref a,.ref s4.heap.objs.size]) ht.isList.typeIs slot_list_getitem.lookup ?_ (by with_unfolding_all rfl)
 refine wpAny_getItem_list_slice ht.isList (Heap.IsSliceOf.new ..) pl pu pk k0 ?_ (by rw[List.size_toArray]<;>omega)
 have ep:slicePick its.toArray l u k=((sliceRange (sliceBounds l u k xs.length).1 (sliceBounds l u k xs.length).2.1 (sliceBounds l u k xs.length).2.2).filterMap (its[·]?)).toArray:=by
  unfold slicePick
  rw[List.size_toArray,←hlen]
  simp
 rw[ep]
 refine⟨.ref _,_,I5.laid (t':=s4.toks) (o:=.lst (pickV xs l u k)) (fun b ob q=>Heap.get?_push_of_some _ q) (Nat.le_refl _) ?_,rfl,q _ (I5.hok.fresh (Nat.le_refl _))⟩
 exact⟨hz2,_,0,vals_pick r _,Heap.get?_push_size _ rfl⟩
end
theorem pick_of{xs:List V}{lo hi st:Option Int}{ix:List Nat}(h:sliceRange (sliceBounds lo hi st xs.length).1 (sliceBounds lo hi st xs.length).2.1 (sliceBounds lo hi st xs.length).2.2=ix):pickV xs lo hi st=ix.filterMap (xs[·]?):=by
 unfold pickV
 rw[h]
def strE:Expr->Option Str
 |.Constant (.str x) _ _=>some x
 |_=>none
def strsOf:List Expr->Option (List Str)
 | []=>some []
 |e::r=>(strE e).bind fun x=>(strsOf r).map (x::·)
def tStrs(xs:List Str):TA:=fun _ H Q=>Q (xs.map V.str) H
theorem strE_eq{e:Expr}{x:Str}(h:strE e=some x):∃j p,e=.Constant (.str x) j p:=by
 unfold strE at h
 split at h
 ·cases h;exact⟨_,_,rfl⟩
 ·cases h
theorem pa_strs{X:Cx}{es:List Expr}:∀{xs:List Str},strsOf es=some xs->PA X es (tStrs xs):=by
 induction es with
 |nil=>intro xs h;cases h;exact pa_nil
 |cons e r ih =>
  intro xs h
  unfold strsOf at h
  cases h1:strE e with
  |none=>rw[h1]at h;cases h
  |some x =>
   cases h2:strsOf r with
   |none=>rw[h1,h2]at h;cases h
   |some ys =>
    rw[h1,h2]at h
    cases h
    obtain⟨j,p,rfl⟩:=strE_eq h1
    exact pa_cons pe_str (ih h2) rfl
end L2
namespace L2
open PySem PySem.Spec PyProof.Rows PySem.SeqAt
section
variable {X:Cx}
end
mutual
def Rp(K:PySem.W.Frag)(H:Hp):T->V->Prop
 |.s x,v=>v=.str x
 |.i n,v=>v=.int n
 |.n,v=>v=.non
 |.t xs,v=>∃a vs,v=.ref a/\SqT K H a vs/\Rps K H xs vs
def Rps(K:PySem.W.Frag)(H:Hp):List T->List V->Prop
 | [],vs=>vs=[]
 |x::r,vs=>∃v q,vs=v::q/\Rp K H x v/\Rps K H r q
end
def Kt(H H':Hp):Prop:=∀a xs,Rd H a (.tup xs)->Rd H' a (.tup xs)
theorem Kt.trans{H H1 H2:Hp}(a:Kt H H1)(b:Kt H1 H2):Kt H H2:=fun c xs h=>b c xs (a c xs h)
theorem Kt.same{H H':Hp}(s:Same H H'):Kt H H':=fun a xs h=>h.elim (fun e=>.inl (s _ _ e)) fun⟨o,e⟩=>.inr ⟨o,s _ _ e⟩
theorem Kt.new{H:Hp}{p:Addr}(h:H p=none)(o:HO):Kt H (upd H p o):=fun a xs r=>r.elim (fun e=>.inl (by rw[upd_ne (ne_of_none e h)];exact e)) fun⟨u,e⟩=>.inr ⟨u,by rw[upd_ne (ne_of_none e h)];exact e⟩
theorem Kt.upd{H:Hp}{l:Addr}{u:HO}(h:H l=some u)(h1:∀xs,u≠.tup xs)(h2:∀o xs,u≠.frz o (.tup xs))(o:HO):Kt H (upd H l o):=fun a xs r=>by
 rcases r with e|⟨p,e⟩
 ·exact .inl (by rw[upd_ne (ne_of e h fun z=>h1 _ z.symm)];exact e)
 ·exact .inr ⟨p,by rw[upd_ne (ne_of e h fun z=>h2 _ _ z.symm)];exact e⟩
theorem Kt.lst{H:Hp}{l:Addr}{xs:List V}(h:H l=some (.lst xs))(o:HO):Kt H (L2.upd H l o):=Kt.upd h (fun _ z=>nomatch z) (fun _ _ z=>nomatch z) o
section
variable {K:PySem.W.Frag}{H H':Hp}
theorem SqT.kt(k:Kt H H'){a:Addr}{xs:List V}(h:SqT K H a xs):SqT K H' a xs:=h.elim (fun e=>.inl (k _ _ e)) .inr
theorem Rps.all(f:∀{x v},Rp K H x v->Rp K H' x v):∀{xs:List T}{vs:List V},Rps K H xs vs->Rps K H' xs vs
 | [],vs,h=>by unfold Rps at h⊢;exact h
 |x::r,vs,h=>by
  unfold Rps at h⊢
  obtain⟨v,q,e,h1,h2⟩:=h
  exact⟨v,q,e,f h1,Rps.all f h2⟩
theorem Rps.nil:Rps K H [] []:=by unfold Rps;rfl
theorem Rps.cons{x:T}{v:V}{r:List T}{q:List V}(h:Rp K H x v)(t:Rps K H r q):Rps K H (x::r) (v::q):=by unfold Rps;exact⟨v,q,rfl,h,t⟩
theorem Rps.inv{x:T}{r:List T}{vs:List V}(h:Rps K H (x::r) vs):∃v q,vs=v::q/\Rp K H x v/\Rps K H r q:=by unfold Rps at h;exact h
theorem Rps.inv0{vs:List V}(h:Rps K H [] vs):vs=[]:=by unfold Rps at h;exact h
theorem Rp.s{x:Str}:Rp K H (.s x) (.str x):=by unfold Rp;rfl
theorem Rp.i{n:Int}:Rp K H (.i n) (.int n):=by unfold Rp;rfl
theorem Rp.non:Rp K H .n .non:=by unfold Rp;rfl
theorem Rp.t{xs:List T}{vs:List V}{a:Addr}(h:SqT K H a vs)(r:Rps K H xs vs):Rp K H (.t xs) (.ref a):=by unfold Rp;exact⟨a,vs,rfl,h,r⟩
theorem Rp.inv_s{x:Str}{v:V}(h:Rp K H (.s x) v):v=.str x:=by unfold Rp at h;exact h
theorem Rp.inv_i{n:Int}{v:V}(h:Rp K H (.i n) v):v=.int n:=by unfold Rp at h;exact h
theorem Rp.inv_t{xs:List T}{v:V}(h:Rp K H (.t xs) v):∃a vs,v=.ref a/\SqT K H a vs/\Rps K H xs vs:=by unfold Rp at h;exact h
theorem Rp.kt(k:Kt H H'){x:T}:∀{v:V},Rp K H x v->Rp K H' x v:=by
 induction x using T.induct with
 |hs x=>intro v h;rw[h.inv_s];exact .s
 |hi x=>intro v h;rw[h.inv_i];exact .i
 |hn=>intro v h;unfold Rp at h;rw[h];exact .non
 |ht xs ih =>
  intro v h
  obtain⟨a,vs,rfl,hs,hr⟩:=h.inv_t
  refine .t (hs.kt k) ?_
  clear hs h
  induction xs generalizing vs with
  |nil=>rw[hr.inv0];exact .nil
  |cons x r ih2 =>
   obtain⟨v,q,rfl,h1,h2⟩:=hr.inv
   exact .cons (ih x (.head _) h1) (ih2 (fun y hy=>ih y (.tail _ hy)) _ h2)
theorem Rps.kt(k:Kt H H'){xs:List T}{vs:List V}(h:Rps K H xs vs):Rps K H' xs vs:=Rps.all (fun h=>h.kt k) h
theorem Rps.length:∀{xs:List T}{vs:List V},Rps K H xs vs->vs.length=xs.length
 | [],vs,h=>by rw[h.inv0];rfl
 |x::r,vs,h=>by
  obtain⟨v,q,rfl,_,h2⟩:=h.inv
  rw[List.length_cons,List.length_cons,Rps.length h2]
theorem Rps.get:∀{xs:List T}{vs:List V}{i:Nat}{x:T},Rps K H xs vs->xs[i]?=some x->∃v,vs[i]?=some v/\Rp K H x v
 | [],vs,i,x,h,e=>by simp at e
 |x::r,vs,0,y,h,e=>by
  obtain⟨v,q,rfl,h1,_⟩:=h.inv
  simp at e;subst e
  exact⟨v,rfl,h1⟩
 |x::r,vs,i+1,y,h,e=>by
  obtain⟨v,q,rfl,_,h2⟩:=h.inv
  obtain⟨w,h3,h4⟩:=Rps.get (i:=i) h2 (by simpa using e)
  exact⟨w,by simpa using h3,h4⟩
theorem Rps.get':∀{xs:List T}{vs:List V}{i:Nat}{v:V},Rps K H xs vs->vs[i]?=some v->∃x,xs[i]?=some x/\Rp K H x v:=fun{xs vs i v} h e=>by
 have l:=h.length
 have hi:i<xs.length:=by
  rcases Nat.lt_or_ge i vs.length with z|z
  ·omega
  ·rw[List.getElem?_eq_none_iff.mpr z]at e;cases e
 obtain⟨w,h1,h2⟩:=h.get (List.getElem?_eq_getElem hi)
 rw[e]at h1;cases h1
 exact⟨_,List.getElem?_eq_getElem hi,h2⟩
theorem Rps.append:∀{xs ys:List T}{vs ws:List V},Rps K H xs vs->Rps K H ys ws->Rps K H (xs++ys) (vs++ws)
 | [],ys,vs,ws,h,g=>by rw[h.inv0];exact g
 |x::r,ys,vs,ws,h,g=>by
  obtain⟨v,q,rfl,h1,h2⟩:=h.inv
  exact .cons h1 (Rps.append h2 g)
theorem Rps.one{x:T}{v:V}(h:Rp K H x v):Rps K H [x] [v]:=.cons h .nil
theorem Rps.split:∀{xs ys:List T}{vs:List V},Rps K H (xs++ys) vs->∃ws us,vs=ws++us/\Rps K H xs ws/\Rps K H ys us
 | [],ys,vs,h=>⟨[],vs,rfl,.nil,h⟩
 |x::r,ys,vs,h=>by
  obtain⟨v,q,rfl,h1,h2⟩:=Rps.inv h
  obtain⟨ws,us,rfl,h3,h4⟩:=Rps.split h2
  exact⟨v::ws,us,rfl,.cons h1 h3,h4⟩
end
section
variable {X:Cx}{pins:List (Addr×Obj)}{σ:St}{H:Hp}{s:Shared}
theorem Rp.inj(I:Inv X pins σ H s)(a:T):∀(b:T) {v:V},Rp X.K H a v->Rp X.K H b v->a=b:=by
 induction a using T.induct with
 |hs x =>
  intro b v h g
  rw[h.inv_s]at g
  cases b with
  |s y=>have z:=g.inv_s;injection z with z;rw[z]
  |i y=>have z:=g.inv_i;cases z
  |n=>unfold Rp at g;cases g
  |t ys=>obtain⟨_,_,z,_⟩:=g.inv_t;cases z
 |hi x =>
  intro b v h g
  rw[h.inv_i]at g
  cases b with
  |s y=>have z:=g.inv_s;cases z
  |i y=>have z:=g.inv_i;injection z with z;rw[z]
  |n=>unfold Rp at g;cases g
  |t ys=>obtain⟨_,_,z,_⟩:=g.inv_t;cases z
 |hn =>
  intro b v h g
  unfold Rp at h
  rw[h]at g
  cases b with
  |s y=>have z:=g.inv_s;cases z
  |i y=>have z:=g.inv_i;cases z
  |n=>rfl
  |t ys=>obtain⟨_,_,z,_⟩:=g.inv_t;cases z
 |ht xs ih =>
  intro b v h g
  obtain⟨p,vs,rfl,hs,hr⟩:=h.inv_t
  cases b with
  |t ys =>
   obtain⟨p',ws,e,hs',hr'⟩:=g.inv_t
   cases e
   have e:=I.tuple_inj hs hs'
   subst e
   congr 1
   clear hs hs' h g
   induction xs generalizing ys vs with
   |nil =>
    have z:=hr.inv0
    subst z
    cases ys with
    |nil=>rfl
    |cons y q=>obtain⟨_,_,z,_⟩:=hr'.inv;cases z
   |cons x r ih2 =>
    obtain⟨v,q,rfl,h1,h2⟩:=hr.inv
    cases ys with
    |nil=>cases hr'.inv0
    |cons y q' =>
     obtain⟨v',q'',e,h1',h2'⟩:=hr'.inv
     cases e
     rw[ih x (.head _) y h1 h1',ih2 (fun z hz=>ih z (.tail _ hz)) _ h2 _ h2']
  |_=>unfold Rp at g;cases g
theorem isTuple_of{h:Heap}{a:Addr}{its:Array Value}(p:IsTup h a its):h.IsTuple a its:=p
theorem items_get{us:List V}{its:List Value}(r:Vals us its){j:Nat}{v:V}(e:us[j]?=some v){h:j<its.toArray.size}:RelV v its.toArray[j]:=by
 obtain⟨u,h1,h2⟩:=r.get e
 have z:its.toArray[j]=u:=by
  have q:its[j]?=some its.toArray[j]:=by
   rw[List.getElem?_eq_getElem (by simpa using h)]
   simp
  rw[h1]at q
  exact(Option.some.inj q).symm
 rw[z];exact h2
def EqsAt(s:Shared)(K:PySem.W.Frag)(H:Hp)(x:T):Prop:=∀(b:T) {u v:V}{u' v':Value}(A:Around),A.units+x.dep<cLine->Rp K H x u->Rp K H b v->RelV u u'->RelV v v'->EqAt A s u' v' (x.eqB b)
theorem eqs_items{xs ys:List T}{us ws:List V}{its its':List Value}{A:Around}(ih:∀x∈xs,EqsAt s X.K H x)(hu:A.units+T.deps xs<cLine)(hr:Rps X.K H xs us)(hr':Rps X.K H ys ws)(r:Vals us its)(r':Vals ws its')
  (j:Nat) (h1:j<its.toArray.size) (h2:j<its'.toArray.size):EqAt A s its.toArray[j] its'.toArray[j] (T.eqB (xs.getD j .n) (ys.getD j .n)):=by
 have l1:us.length=its.length:=r.length
 have l2:ws.length=its'.length:=r'.length
 have l3:=hr.length
 have l4:=hr'.length
 have h1':j<its.length:=by simpa using h1
 have h2':j<its'.length:=by simpa using h2
 have hx:j<xs.length:=by omega
 have hy:j<ys.length:=by omega
 obtain⟨v,hv,rv⟩:=hr.get (List.getElem?_eq_getElem hx)
 obtain⟨w,hw,rw'⟩:=hr'.get (List.getElem?_eq_getElem hy)
 have e1:xs.getD j .n=xs[j]:=by simp[hx]
 have e2:ys.getD j .n=ys[j]:=by simp[hy]
 rw[e1,e2]
 exact ih _ (List.getElem_mem hx) _ A (Nat.lt_of_le_of_lt (Nat.add_le_add_left (T.deps_mem (List.getElem_mem hx)) _) hu) rv rw' (items_get r hv) (items_get r' hw)
theorem rc_tuples(I:Inv X pins σ H s){xs ys:List T}{us ws:List V}{p q:Addr}{A:Around}(ih:∀x∈xs,EqsAt s X.K H x)(hu:A.units+1+T.deps xs<cLine)(hs:SqT X.K H p us)(hr:Rps X.K H xs us)(hs':SqT X.K H q ws)(hr':Rps X.K H ys ws) :
  RcAt A s (.ref p) (.ref q) (T.eqBs xs ys):=by
 obtain⟨its,r,it,_⟩:=I.tuple hs
 obtain⟨its',r',it',_⟩:=I.tuple hs'
 have z:=RcAt.tuples (A:=A) (isTuple_of it) (isTuple_of it') (by omega) (e:=fun j=>T.eqB (xs.getD j .n) (ys.getD j .n)) (eqs_items (A:=A.in1) ih (by show A.units+1+_<_;exact hu) hr hr' r r')
 have l1:us.length=its.length:=r.length
 have l2:ws.length=its'.length:=r'.length
 have l3:=hr.length
 have l4:=hr'.length
 rw[T.eqBs_range]
 have e1:its.toArray.size=xs.length:=by simp;omega
 have e2:its'.toArray.size=ys.length:=by simp;omega
 rw[e1,e2]at z
 exact z
theorem rcne_tuples(I:Inv X pins σ H s){xs ys:List T}{us ws:List V}{p q:Addr}{A:Around}(ih:∀x∈xs,EqsAt s X.K H x)(hu:A.units+1+T.deps xs<cLine)(hs:SqT X.K H p us)(hr:Rps X.K H xs us)(hs':SqT X.K H q ws)(hr':Rps X.K H ys ws) :
  RcNeAt A s (.ref p) (.ref q) (!T.eqBs xs ys):=by
 obtain⟨its,r,it,_⟩:=I.tuple hs
 obtain⟨its',r',it',_⟩:=I.tuple hs'
 have z:=RcNeAt.tuples (A:=A) (isTuple_of it) (isTuple_of it') (by omega) (e:=fun j=>T.eqB (xs.getD j .n) (ys.getD j .n)) (eqs_items (A:=A.in1) ih (by show A.units+1+_<_;exact hu) hr hr' r r')
 have l1:us.length=its.length:=r.length
 have l2:ws.length=its'.length:=r'.length
 have l3:=hr.length
 have l4:=hr'.length
 rw[T.eqBs_range]
 have e1:its.toArray.size=xs.length:=by simp;omega
 have e2:its'.toArray.size=ys.length:=by simp;omega
 rw[e1,e2]at z
 exact z
theorem eq_T(I:Inv X pins σ H s)(a:T):EqsAt s X.K H a:=by
 induction a using T.induct with
 |hs x =>
  intro b u v u' v' A hu h g ru rv
  rw[h.inv_s]at ru
  obtain⟨t,rfl⟩:=ru
  cases b with
  |s y=>rw[g.inv_s]at rv;obtain⟨t',rfl⟩:=rv;unfold T.eqB;exact EqAt.str_str _ _ _ _
  |i y=>rw[g.inv_i]at rv;obtain⟨t',rfl⟩:=rv;unfold T.eqB;exact EqAt.str_int _ _ _ _
  |n=>unfold Rp at g;rw[g]at rv;cases rv;unfold T.eqB;exact EqAt.str_none _ _
  |t ys =>
   obtain⟨q,ws,rfl,hs,hr⟩:=g.inv_t
   cases rv
   obtain⟨its,_,it,_⟩:=I.tuple hs
   unfold T.eqB
   exact EqAt.str_tuple _ _ (isTuple_of it) (by omega)
 |hi x =>
  intro b u v u' v' A hu h g ru rv
  rw[h.inv_i]at ru
  obtain⟨t,rfl⟩:=ru
  cases b with
  |s y=>rw[g.inv_s]at rv;obtain⟨t',rfl⟩:=rv;unfold T.eqB;exact EqAt.int_str _ _ _ _
  |i y=>rw[g.inv_i]at rv;obtain⟨t',rfl⟩:=rv;unfold T.eqB;exact EqAt.int_int _ _ _ _
  |n=>unfold Rp at g;rw[g]at rv;cases rv;unfold T.eqB;exact EqAt.int_none _ _
  |t ys =>
   obtain⟨q,ws,rfl,hs,hr⟩:=g.inv_t
   cases rv
   obtain⟨its,_,it,_⟩:=I.tuple hs
   unfold T.eqB
   exact EqAt.int_tuple _ _ (isTuple_of it) (by omega)
 |hn =>
  intro b u v u' v' A hu h g ru rv
  unfold Rp at h
  rw[h]at ru
  cases ru
  cases b with
  |s y=>rw[g.inv_s]at rv;obtain⟨t',rfl⟩:=rv;unfold T.eqB;exact EqAt.none_str _ _
  |i y=>rw[g.inv_i]at rv;obtain⟨t',rfl⟩:=rv;unfold T.eqB;exact EqAt.none_int _ _
  |n=>unfold Rp at g;rw[g]at rv;cases rv;unfold T.eqB;exact EqAt.same _
  |t ys =>
   obtain⟨q,ws,rfl,hs,hr⟩:=g.inv_t
   cases rv
   obtain⟨its,_,it,_⟩:=I.tuple hs
   unfold T.eqB
   exact EqAt.none_tuple (isTuple_of it) (by omega)
 |ht xs ih =>
  intro b u v u' v' A hu h g ru rv
  obtain⟨p,us,rfl,hs,hr⟩:=h.inv_t
  cases ru
  obtain⟨its,rits,it,_⟩:=I.tuple hs
  cases b with
  |s y=>rw[g.inv_s]at rv;obtain⟨t',rfl⟩:=rv;unfold T.eqB;exact EqAt.tuple_str _ _ (isTuple_of it) (by omega)
  |i y=>rw[g.inv_i]at rv;obtain⟨t',rfl⟩:=rv;unfold T.eqB;exact EqAt.tuple_int _ _ (isTuple_of it) (by omega)
  |n=>unfold Rp at g;rw[g]at rv;cases rv;unfold T.eqB;exact EqAt.tuple_none (isTuple_of it) (by omega)
  |t ys =>
   obtain⟨q,ws,rfl,hs',hr'⟩:=g.inv_t
   cases rv
   by_cases e:p=q
   ·subst e
    have z:=Rp.inj I _ _ h g
    rw[z,T.eqB_self]
    exact EqAt.same _
   ·unfold T.dep at hu
    unfold T.eqB
    exact EqAt.of_refs e (rc_tuples I ih (by omega) hs hr hs' hr')
theorem rc_T(I:Inv X pins σ H s)(a b:T){u v:V}{u' v':Value}(A:Around)(hu:A.units+a.dep<cLine)(h:Rp X.K H a u)(g:Rp X.K H b v)(ru:RelV u u')(rv:RelV v v'):RcAt A s u' v' (a.eqB b)/\RcNeAt A s u' v' (!a.eqB b):=by
 cases a with
 |s x =>
  rw[h.inv_s]at ru
  obtain⟨t,rfl⟩:=ru
  cases b with
  |s y=>rw[g.inv_s]at rv;obtain⟨t',rfl⟩:=rv;unfold T.eqB;exact⟨RcAt.str_str _ _ _ _,RcNeAt.str_str _ _ _ _⟩
  |i y=>rw[g.inv_i]at rv;obtain⟨t',rfl⟩:=rv;unfold T.eqB;exact⟨RcAt.str_int _ _ _ _,RcNeAt.str_int _ _ _ _⟩
  |n=>unfold Rp at g;rw[g]at rv;cases rv;unfold T.eqB;exact⟨RcAt.str_none _ _,RcNeAt.str_none _ _⟩
  |t ys =>
   obtain⟨q,ws,rfl,hs,hr⟩:=g.inv_t
   cases rv
   obtain⟨its,_,it,_⟩:=I.tuple hs
   unfold T.eqB
   exact⟨RcAt.str_tuple _ _ (isTuple_of it) (by omega),RcNeAt.str_tuple _ _ (isTuple_of it) (by omega)⟩
 |i x =>
  rw[h.inv_i]at ru
  obtain⟨t,rfl⟩:=ru
  cases b with
  |s y=>rw[g.inv_s]at rv;obtain⟨t',rfl⟩:=rv;unfold T.eqB;exact⟨RcAt.int_str _ _ _ _,RcNeAt.int_str _ _ _ _⟩
  |i y=>rw[g.inv_i]at rv;obtain⟨t',rfl⟩:=rv;unfold T.eqB;exact⟨RcAt.int_int _ _ _ _,RcNeAt.int_int _ _ _ _⟩
  |n=>unfold Rp at g;rw[g]at rv;cases rv;unfold T.eqB;exact⟨RcAt.int_none _ _,RcNeAt.int_none _ _⟩
  |t ys =>
   obtain⟨q,ws,rfl,hs,hr⟩:=g.inv_t
   cases rv
   obtain⟨its,_,it,_⟩:=I.tuple hs
   unfold T.eqB
   exact⟨RcAt.int_tuple _ _ (isTuple_of it) (by omega),RcNeAt.int_tuple _ _ (isTuple_of it) (by omega)⟩
 |n =>
  unfold Rp at h
  rw[h]at ru
  cases ru
  cases b with
  |s y=>rw[g.inv_s]at rv;obtain⟨t',rfl⟩:=rv;unfold T.eqB;exact⟨RcAt.none_str _ _,RcNeAt.none_str _ _⟩
  |i y=>rw[g.inv_i]at rv;obtain⟨t',rfl⟩:=rv;unfold T.eqB;exact⟨RcAt.none_int _ _,RcNeAt.none_int _ _⟩
  |n=>unfold Rp at g;rw[g]at rv;cases rv;unfold T.eqB;exact⟨RcAt.none_none,RcNeAt.none_none⟩
  |t ys =>
   obtain⟨q,ws,rfl,hs,hr⟩:=g.inv_t
   cases rv
   obtain⟨its,_,it,_⟩:=I.tuple hs
   unfold T.eqB
   exact⟨RcAt.none_tuple (isTuple_of it) (by omega),RcNeAt.none_tuple (isTuple_of it) (by omega)⟩
 |t xs =>
  obtain⟨p,us,rfl,hs,hr⟩:=h.inv_t
  cases ru
  obtain⟨its,rits,it,_⟩:=I.tuple hs
  cases b with
  |s y=>rw[g.inv_s]at rv;obtain⟨t',rfl⟩:=rv;unfold T.eqB;exact⟨RcAt.tuple_str _ _ (isTuple_of it) (by omega),RcNeAt.tuple_str _ _ (isTuple_of it) (by omega)⟩
  |i y=>rw[g.inv_i]at rv;obtain⟨t',rfl⟩:=rv;unfold T.eqB;exact⟨RcAt.tuple_int _ _ (isTuple_of it) (by omega),RcNeAt.tuple_int _ _ (isTuple_of it) (by omega)⟩
  |n=>unfold Rp at g;rw[g]at rv;cases rv;unfold T.eqB;exact⟨RcAt.tuple_none (isTuple_of it) (by omega),RcNeAt.tuple_none (isTuple_of it) (by omega)⟩
  |t ys =>
   obtain⟨q,ws,rfl,hs',hr'⟩:=g.inv_t
   cases rv
   unfold T.dep at hu
   unfold T.eqB
   exact⟨rc_tuples I (fun x _=>eq_T I x) (by omega) hs hr hs' hr',rcne_tuples I (fun x _=>eq_T I x) (by omega) hs hr hs' hr'⟩
def rEqT(K:PySem.W.Frag):R2:=fun x y H Q=>∃a b,Rp K H a x/\Rp K H b y/\a.dep<=150/\Q (.bl (decide (a=b))) H
theorem op_eqT(hu:X.A.units+150<cLine):OpR X (compareOp .Eq) (rEqT X.K):=by
 intro pins s σ H x y v u Q I rx ry h
 obtain⟨a,b,ha,hb,hd,q⟩:=h
 rw[←T.eqB_dec]at q
 exact(rc_T I a b X.A (by omega) ha hb rx ry).1 X.prog X.w X.xe _ ⟨.bl _,H,I,rfl,q⟩
theorem Room.u150{k:Nat}{A:Around}(r:Room k A):A.units+150<cLine:=by have:=r.un;omega
end
end L2
namespace L2
open PySem PySem.Spec PyProof.Rows
theorem ifT{b:Bool}{A B:Prop}(e:b=true)(h:A):if b=true then A else B:=by rw[if_pos e];exact h
theorem ifF{b:Bool}{A B:Prop}(e:b=false)(h:B):if b=true then A else B:=by rw[if_neg (by rw[e];exact Bool.false_ne_true)];exact h
section
variable {X:Cx}
theorem pg_tupK{pos:Pos}{es:List Expr}{k:Nat}{t:TGs}{n:Nat}(K:PySem.W.Frag)(hK:X.K=K)(hc:X.calm=true)(h:PGs X es t)(hn:(assignEach es X.env).length=n:=by rfl)(hst:(assignEach es X.env).findIdx? (·.1)=none:=by rfl):PG X (.Tuple es k pos) (gTup K n t):=by
 subst hK
 exact pg_tup hc h hn hst
theorem op_in_seqK(K:PySem.W.Frag)(hK:X.K=K):OpR X (compareOp .In) (rIn K false):=by subst hK;exact op_in_seq
def KDs(w:World):List DictEntry->List (Str×V)->Prop
 | [],kvs=>kvs=[]
 |e::r,kvs=>∃x v q,kvs=(x,v)::q/\(∃t,e.key=.str x t)/\e.hash=hashStr w x/\RelV v e.val/\KDs w r q
def KD(K:PySem.W.Frag)(w:World)(d:Addr)(kvs:List (Str×V)):Prop :=
 ∃(es:Array DictEntry) (n:Nat),K.lookup d=some {cls:=.type "dict",dict:=none,data:=.dict es n,slots:=#[]}/\KDs w es.toList kvs/\(kvs.map (·.1)).Nodup/\(d == sysModules)=false
theorem KDs.keys{w:World}{P:Program}:∀{es:List DictEntry}{kvs:List (Str×V)},KDs w es kvs->∃vs:List (Str×Value),Pairs (PySem.strKind P w) es vs/\(∀e∈es,∃k,(PySem.strKind P w).is k e.key=true/\e.hash=(PySem.strKind P w).hash k)/\vs.map (·.1)=kvs.map (·.1) /\
  ∀k,RelO (kvs.lookup k) (valueAt vs k)
 | [],kvs,h=>by
  obtain rfl:kvs=[]:=h
  exact⟨[],.nil,(fun _ h=>nomatch h),rfl,fun _=>trivial⟩
 |e::r,kvs,h=>by
  obtain⟨x,v,q,rfl,⟨t,hk⟩,hh,rv,hr⟩:=h
  obtain⟨vs,h1,h2,h3,h4⟩:=KDs.keys (P:=P) hr
  have ek:(PySem.strKind P w).is x e.key=true:=by rw[hk];exact(by simp[PySem.strKind,Value.isStrOf]:(PySem.strKind P w).is x (.str x t)=true)
  refine⟨(x,e.val)::vs,.cons ek rfl h1,fun e' he=>?_,by rw[List.map_cons,List.map_cons,h3],fun k=>?_⟩
  ·cases he with
   |head=>exact⟨x,ek,hh⟩
   |tail _ he=>exact h2 e' he
  ·rw[List.lookup_cons]
   by_cases c:k=x
   ·subst c
    rw[beq_self_eq_true]
    simp only[valueAt,List.find?_cons,decide_true,Option.map_some]
    exact rv
   ·rw[beq_false_of_ne c]
    have z:=h4 k
    have e1:valueAt ((x,e.val)::vs) k=valueAt vs k:=by
     simp only[valueAt,List.find?_cons]
     rw[decide_eq_false (fun q=>c q.symm)]
    rw[e1]
    exact z
theorem KD.dict{K:PySem.W.Frag}{P:Program}{w:World}{d:Addr}{kvs:List (Str×V)}(D:KD K w d kvs){h:Heap}(X:K.In h):∃vs,h.DictOf (PySem.strKind P w) d vs/\(d == sysModules)=false/\∀k,RelO (kvs.lookup k) (valueAt vs k):=by
 obtain⟨es,n,e,hs,nd,hd⟩:=D
 obtain⟨vs,h1,h2,h3,h4⟩:=KDs.keys (P:=P) hs
 exact⟨vs,⟨_,es,n,X _ _ e,⟨rfl,rfl,rfl⟩,rfl,fun e' he=>h2 e' (by simpa using he),h1,by rw[h3];exact nd⟩,hd,h4⟩
theorem strK_is{P:Program}{w:World}{x:Str}{t:Tok}:(PySem.strKind P w).is x (.str x t)=true:=by simp[PySem.strKind,Value.isStrOf]
def rKIn(K:PySem.W.Frag)(w:World):R2:=fun x y H Q=>∃k d kvs,x=.str k/\y=.ref d/\KD K w d kvs/\Q (.bl (kvs.lookup k).isSome) H
theorem RelO.isSome'{a:Option V}{b:Option Value}(r:RelO a b):b.isSome=a.isSome:=by
 cases a<;>cases b<;>first|rfl|exact r.elim
theorem op_inKD:OpR X (compareOp .In) (rKIn X.K X.w):=by
 intro pins s σ H x y v u Q I rx ry h
 obtain⟨k,d,kvs,rfl,rfl,D,q⟩:=h
 obtain⟨t,rfl⟩:=rx
 obtain rfl:u=Value.ref d:=ry
 obtain⟨vs,dd,hd,rel⟩:=D.dict (P:=X.prog) I.kIn
 refine wpAny_in_of strK_is hd dd.mapOf ?_
 rw[(rel k).isSome']
 exact⟨.bl _,H,I.tok _,rfl,q⟩
def tKGet(K:PySem.W.Frag)(w:World)(td ty:TE):TE:=fun σ H Q=>td σ H fun x H1=>ty σ H1 fun y H2=>∃d kvs k v,x=.ref d/\y=.str k/\KD K w d kvs/\kvs.lookup k=some v/\Q v H2
theorem pe_kget{o i:Expr}{pos:Pos}{td ty:TE}(ho:PE X o td)(hi:PE X i ty)(hs:NoSl i):PE X (.Subscript o i pos) (tKGet X.K X.w td ty):=by
 intro pins s σ H Q I h
 refine subD_of PySem.F.slot_dict_getitem.lookup hs (thn (ho pins s σ H _ I h) fun u s1 ⟨x,H1,I1,rx,q1⟩=>thn (hi pins s1 σ H1 _ I1 q1) fun iv s2 ⟨y,H2,I2,ry,d,kvs,k,v,ex,ey,D,lk,q2⟩=>?_)
 subst ex ey
 obtain rfl:u=Value.ref d:=rx
 obtain⟨t,rfl⟩:=ry
 obtain⟨vs,dd,hd,rel⟩:=D.dict (P:=X.prog) I2.kIn
 obtain⟨w',hw,rw'⟩:=RelO.some_of (v:=v) (o:=valueAt vs k) (by rw[←lk];exact rel k)
 exact⟨dd.typeIs,wpAny_getItem_of strK_is dd.mapOf hw ⟨v,H2,I2.tok _,rw',q2⟩⟩
theorem op_mul_str:OpR X (binaryOp .Mult) (fun x y H Q=>∃z n,x=.str z/\y=.int n/\-1000000<=n/\n<=1000000/\z.length*n.toNat<=sizeLine/\Q (.str (Txt.mul z n)) H):=by
 intro pins s σ H x y v u Q I rx ry h
 obtain⟨z,n,rfl,rfl,h1,h2,h3,q⟩:=h
 obtain⟨t,rfl⟩:=rx
 obtain⟨t',rfl⟩:=ry
 refine PySem.SB.mul ⟨by simp;omega,fun a b=>?_,fun a b=>?_⟩ fun t' k=>⟨.str _,H,I.tok _,⟨_,rfl⟩,q⟩
 ·intro c
  have n1:1<=n:=by omega
  have h3':z.length*n.toNat<=16777216:=by rw[←sizeLine_eq];exact h3
  have hz:z.length<=z.length*n.toNat:=Nat.le_mul_of_pos_right _ (by omega)
  have e:(9223372036854:Int)<=(2 ^ 63-1) / n:=Int.le_ediv_of_mul_le (by omega) (by omega)
  omega
 ·unfold Builtin.Str.tooLong
  simp
  exact h3
end
section
variable {g:TG}{tt:TT}{te:TE}{Q:VK}{σ0:St}{H0:Hp}
end
section
variable {X:Cx}{pins:List (Addr×Obj)}{σ:St}{H:Hp}{s:Shared}
end
theorem atS{z:Str}{r:Int}(h0:0<=r)(h:r<(z.length:Int)):∃c,atI z.cps.toList r=some c/\c∈z.cps.toList:=by
 have e:z.cps.toList.length=z.length:=by simp[Str.length]
 have hk:r.toNat<z.cps.toList.length:=by rw[e];omega
 have ek:r=((r.toNat:Nat):Int):=by omega
 have q:atI z.cps.toList ((r.toNat:Nat):Int)=some z.cps.toList[r.toNat]:=atI_nat (List.getElem?_eq_getElem hk)
 rw[←ek]at q
 exact⟨_,q,List.getElem_mem hk⟩
theorem join_cs(cs:List Nat):Txt.join "" (cs.map fun c=>(⟨#[c]⟩:Str))=⟨cs.toArray⟩:=by
 show Builtin.Str.glued (Str.ofString "") _=_
 rw[StrLaws.glued_eq_join]
 exact PyProof.Rows.join_ones cs
theorem sum_ones(l:List Nat):((l.map fun c=>(⟨#[c]⟩:Str)).map (·.length)).sum=l.length:=by
 induction l with
 |nil=>rfl
 |cons c r ih=>rw[List.map_cons,List.map_cons,List.sum_cons,ih,List.length_cons];show 1+_=_;omega
end L2
namespace L2
open PySem
def FeedAt(H:Hp)(f:Addr):Prop:=∃p q:Int,H f=some (.lst [.int p,.int q])
def Ext(f:Addr)(H H':Hp):Prop:=(∀b o,b≠f->H b=some o->H' b=some o)/\FeedAt H' f
theorem Ext.refl{f:Addr}{H:Hp}(h:FeedAt H f):Ext f H H:=⟨fun _ _ _ e=>e,h⟩
theorem Ext.trans{f:Addr}{H H1 H2:Hp}(a:Ext f H H1)(b:Ext f H1 H2):Ext f H H2:=⟨fun c o n e=>b.1 c o n (a.1 c o n e),b.2⟩
theorem Ext.same{f:Addr}{H H1 H2:Hp}(a:Ext f H H1)(s:Same H1 H2):Ext f H H2:=⟨fun c o n e=>s c o (a.1 c o n e),let⟨p,q,e⟩:=a.2;⟨p,q,s f _ e⟩⟩
theorem same_new{H:Hp}{p:Addr}(h:H p=none)(o:HO):Same H (upd H p o):=fun b u q=>by rw[upd_ne (ne_of_none q h)];exact q
theorem FeedAt.same{f:Addr}{H H':Hp}(h:FeedAt H f)(s:Same H H'):FeedAt H' f:=let⟨p,q,e⟩:=h;⟨p,q,s f _ e⟩
theorem Ext.tup{f:Addr}{H H':Hp}(e:Ext f H H')(hf:FeedAt H f){a:Addr}{xs:List V}(h:H a=some (.tup xs)):H' a=some (.tup xs):=by
 refine e.1 a _ ?_ h
 obtain⟨p,q,hf⟩:=hf
 exact ne_of h hf (by intro z;cases z)
def spTake:Sp:=fun vs H Q _=>∃(f:Addr) (m:Int),vs=[.ref f,.int m]/\0<m/\m<1073741824/\FeedAt H f/\∀(r:Int) (H':Hp),0<=r->r<m->Ext f H H'->Q (.int r) H'
def spFeed(K:PySem.W.Frag):Sp:=fun vs H Q _=>∃(a:Addr) (ns:List Int) (k:Int),vs=[.ref a,.int k]/\SqL K H a (ns.map V.int)/\ns.length<=63/\0<=k/\k<=100 /\
 ∀(r:Addr) (H':Hp),Same H H'->H r=none->FeedAt H' r->Q (.ref r) H'
theorem small{n:Nat}(h:n<=1000):n<=sizeLine:=Nat.le_of_lt (small1000 h)
theorem atI_int{ns:List Int}{k:Int}(h0:0<=k)(h:k<(ns.length:Int)):∃v:Int,atI (ns.map V.int) k=some (.int v):=by
 have hk:k.toNat<ns.length:=by omega
 have ek:k=((k.toNat:Nat):Int):=by omega
 have q:atI (ns.map V.int) ((k.toNat:Nat):Int)=some (.int ns[k.toNat]):=atI_nat (by rw[List.getElem?_map,List.getElem?_eq_getElem hk]<;>rfl)
 rw[←ek]at q
 exact⟨_,q⟩
theorem atI_of{α:Type}{xs:List α}{k:Int}(h0:0<=k)(h:k<(xs.length:Int)):∃v:α,atI xs k=some v/\v∈xs:=by
 have hk:k.toNat<xs.length:=by omega
 have ek:k=((k.toNat:Nat):Int):=by omega
 have q:atI xs ((k.toNat:Nat):Int)=some xs[k.toNat]:=atI_nat (List.getElem?_eq_getElem hk)
 rw[←ek]at q
 exact⟨_,q,List.getElem_mem hk⟩
theorem Ext.kt{f:Addr}{H H':Hp}(e:Ext f H H')(hf:FeedAt H f):Kt H H':=fun a xs r=>by
 obtain⟨p,q,hf⟩:=hf
 rcases r with h|⟨o,h⟩
 ·exact .inl (e.1 a _ (ne_of h hf (by intro z;cases z)) h)
 ·exact .inr ⟨o,e.1 a _ (ne_of h hf (by intro z;cases z)) h⟩
theorem Ext.lst{f:Addr}{H H':Hp}(e:Ext f H H'){l:Addr}{xs:List V}(n:l≠f)(h:H l=some (.lst xs)):H' l=some (.lst xs):=e.1 l _ n h
theorem Ext.new{f:Addr}{H H':Hp}(e:Ext f H H'){p:Addr}(h:H' p=none)(o:HO):Ext f H (L2.upd H' p o):=e.same (same_new h o)
structure Has(P:Program) (w:World) (K:PySem.W.Frag) (mg:Str->Option Value) (base:Heap) (x:Str) (k:Nat) (ps:List Str) (sp:Sp) (f:Addr) (fd:FuncData):Prop where
 ok:FnOk P w K mg base CX0 k f fd ps sp
 at':mg x=some (.ref f)
 kp:PySem.W.keepIn K (.ref f)=true
 bd:Binds K fd ps []
theorem fn_none{P:Program}{w:World}{K:PySem.W.Frag}{mg:Str->Option Value}{base:Heap}{k:Nat}{f:Addr}{fd:FuncData}{ps:List Str}{sp:Sp}(h:∀vs H Q E,¬sp vs H Q E):FnOk P w K mg base CX0 k f fd ps sp :=
 ⟨fun vs H Q E z=>(h vs H Q E z).elim,fun _ _ _ _ _ _ _ _ _ _ _ _ _ z=>(h _ _ _ _ z).elim⟩
end L2
namespace L2
open PySem PySem.Spec PyProof.Rows
theorem SqT.same{K:PySem.W.Frag}{H H':Hp}(e:Same H H'){a:Addr}{xs:List V}(h:SqT K H a xs):SqT K H' a xs:=h.kt (Kt.same e)
theorem Rp.same{K:PySem.W.Frag}{H H':Hp}(e:Same H H'){x:T}{v:V}(h:Rp K H x v):Rp K H' x v:=h.kt (Kt.same e)
theorem Rps.same{K:PySem.W.Frag}{H H':Hp}(e:Same H H'){x:List T}{v:List V}(h:Rps K H x v):Rps K H' x v:=h.kt (Kt.same e)
theorem Rp.new{K:PySem.W.Frag}{H:Hp}{p:Addr}(hp:H p=none){xs:List T}{vs:List V}(h:Rps K H xs vs):Rp K (upd H p (.tup vs)) (.t xs) (.ref p):=.t (.of upd_same) (h.same (same_new hp _))
section
variable {K:PySem.W.Frag}{Q:VK}{H0:Hp}
end
theorem filterMap_somes{α β:Type}(f:α->Option β)(g:α->β):∀(l:List α),(∀a∈l,f a=some (g a))->l.filterMap f=l.map g
 | [],_=>rfl
 |a::r,h=>by rw[List.filterMap_cons,h a (.head _),List.map_cons,filterMap_somes f g r fun b hb=>h b (.tail _ hb)]
theorem range_rev{α:Type}(xs:List α):((List.range xs.length).map fun k=>xs.length-1-k).filterMap (xs[·]?)=xs.reverse:=by
 cases xs with
 |nil=>rfl
 |cons x r =>
  rw[List.filterMap_map,filterMap_somes _ (fun k=>(x::r).reverse.getD k x)]
  ·apply List.ext_getElem
   ·simp
   ·intro i h1 h2
    simp only[List.getElem_map,List.getElem_range]
    simp at h1
    simp only[List.getD_eq_getElem?_getD]
    rw[List.getElem?_eq_getElem h2]
    rfl
  ·intro k hk
   have hk':=List.mem_range.mp hk
   show(x::r)[(x::r).length-1-k]?=_
   have h2:k<(x::r).reverse.length:=by simpa using hk'
   simp only[List.getD_eq_getElem?_getD]
   rw[List.getElem?_eq_getElem h2,List.getElem_reverse,List.getElem?_eq_getElem (by omega)]
   rfl
theorem rev_range(n:Nat):sliceRange (sliceBounds none none (some (-1)) n).1 (sliceBounds none none (some (-1)) n).2.1 (sliceBounds none none (some (-1)) n).2.2=(List.range n).map fun k=>n-1-k:=by
 show sliceRange ((n:Int) - 1) (-1) (-1)=_
 unfold sliceRange
 have c:(if(-1:Int)>0 then(if(n:Int) - 1 < -1 then(-1 - ((n:Int) - 1)+-1-1) / -1 else 0)else(if(n:Int) - 1 > -1 then((n:Int) - 1 - -1 - -1-1) / (- -1)else 0))=(n:Int):=by
  rw[if_neg (by decide)]
  split
  ·rw[show(- -1:Int)=1 from rfl,Int.ediv_one];omega
  ·omega
 simp only[c,Int.toNat_natCast]
 refine List.map_congr_left fun k hk=>?_
 have:=List.mem_range.mp hk
 omega
theorem pick_rev(xs:List V):pickV xs none none (some (-1))=xs.reverse:=by
 rw[pick_of (rev_range xs.length)]
 exact range_rev xs
section
variable {K:PySem.W.Frag}{Q:VK}{H0:Hp}
end
def visB(sc:Scope)(y:Str):Bool:=(sc.names.lookup y == some .local||sc.names.lookup y == some .cell||sc.names.lookup y == some .free)&&!(y == ("__debug__":Str))&&!(y == ("__classdict__":Str))
abbrev Nm(N:List Str)(sc:Scope):Prop:=N.all (visB sc)=true
def locB(sc:Scope)(y:Str):Bool:=sc.names.lookup y == some .local||sc.names.lookup y == some .cell
abbrev Lm(N:List Str)(sc:Scope):Prop:=N.all (locB sc)=true
theorem Nm.get{N:List Str}{sc:Scope}(h:Nm N sc){i:Nat}{x:Str}(e:N[i]?=some x):Vis sc x/\(x == ("__debug__":Str))=false/\(x == ("__classdict__":Str))=false:=by
 have z:=List.all_eq_true.mp h x (List.mem_of_getElem? e)
 unfold visB at z
 simp only[Bool.and_eq_true,Bool.or_eq_true,Bool.not_eq_true']at z
 obtain⟨⟨z1,z2⟩,z3⟩:=z
 refine⟨?_,z2,z3⟩
 rcases z1 with(z1|z1)|z1
 ·exact Or.inl (eq_of_beq z1)
 ·exact Or.inr (Or.inl (eq_of_beq z1))
 ·exact Or.inr (Or.inr (eq_of_beq z1))
theorem Lm.get{N:List Str}{sc:Scope}(h:Lm N sc){i:Nat}{x:Str}(e:N[i]?=some x):Loc sc x:=by
 have z:=List.all_eq_true.mp h x (List.mem_of_getElem? e)
 unfold locB at z
 simp only[Bool.or_eq_true]at z
 rcases z with z|z
 ·exact Or.inl (eq_of_beq z)
 ·exact Or.inr (eq_of_beq z)
section
variable {X:Cx}
theorem va{x:Str}{pos:Pos}(h:Nm X.N X.env.scope)(i:Nat)(hN:X.N[i]?=some x:=by rfl):PE X (.Name x pos) (tVar i):=pe_var hN (h.get hN).1 (h.get hN).2.1 (h.get hN).2.2
theorem sa{x:Str}{e:Expr}{te:TE}{pos pos':Pos}(hN:X.N.Nodup)(h:Lm X.N X.env.scope)(i:Nat)(he:PE X e te)(hi:X.N[i]?=some x:=by rfl)(hs:swapsWith e (some (.Name x pos')) pos.line X.env=pure false:=by kernel_rfl)
  (hf:X.fn x=true\/X.env.scope.names.lookup x=some .local:=by exact .inl rfl):PS X (.Assign [.Name x pos'] e pos) (tAsg te (gName i)):=ps_set hN hi (h.get hi) he hs hf
theorem ga{x:Str}{pos:Pos}(hN:X.N.Nodup)(h:Lm X.N X.env.scope)(i:Nat)(hi:X.N[i]?=some x:=by rfl)(hf:X.fn x=true\/X.env.scope.names.lookup x=some .local:=by first|exact .inl rfl|exact .inr (by kernel_rfl)):PG X (.Name x pos) (gName i):=pg_name hN hi (h.get hi) hf
end
section
variable {X:Cx}
theorem ps_comp{y:Str}{posn posa:Pos}{gg:TG}{elt iter tg:Expr}{ifs:List Expr}{scope:Scope}{pos:Pos}{wi:TI}{g:TG}{tt:TT}{te:TE}(own:List Str)(fr:List Nat)(hc:X.calm=true)
  (hkind:scope.kind=.function) (hcell:∀x∈scope.names,x.2≠.cell) (hnames:∀x∈scope.names,x.2=.local->scope.names.lookup x.1=some .local)
  (hfr:∀x∈scope.names,x.2=.free->X.env.scope.names.lookup x.1=some .cell\/X.env.scope.names.lookup x.1=some .free)
  (hin:∀j∈fr,scope.names.lookup (X.N.getD j Str.empty)=some .free)
  (hi:PI X tg iter wi) (hg:∀fp C s H,PG (cxComp X scope (own++fr.map fun j=>X.N.getD j Str.empty) fp C s H) tg g)
  (ht:∀fp C s H,PIfs (cxComp X scope (own++fr.map fun j=>X.N.getD j Str.empty) fp C s H) ifs tt)
  (he:∀fp C s H,PE (cxComp X scope (own++fr.map fun j=>X.N.getD j Str.empty) fp C s H) elt te)
  (hgg:PG X (.Name y posn) gg) (hsw:swapsWith (.ListComp elt [⟨tg,iter,ifs,0⟩] scope pos) (some (.Name y posn)) posa.line X.env=pure true)
  (hs:∀x,foldedSetIterable iter X.env x=pure x:=by intro _;rfl):PS X (.Assign [.Name y posn] (.ListComp elt [⟨tg,iter,ifs,0⟩] scope pos) posa) (tAsg (tComp own.length fr wi g tt te) gg):=by
 intro pins s σ H D0 I h
 rw[exec_Assign_Name_used _ _ _ _ hsw,arm_evalThenUse_ListComp]
 refine wpAny_bind (wpAny_standAt (wpAny_bind (wpAny_bind ?_)))
 have hfree:∀x∈scope.names,x.2=.free->∃c,X.env.cells.lookup x.1=some c:=fun x hx e=>I.ok.has x.1 (hfr x hx e)
 refine thn (wpAny_comprehension_free (use:=some (assign (.Name y posn) X.env)) (Q:=fun _ s'=>SP X pins D0 .next s') rfl hs (closureFor_eq hfree) hkind hnames ?_) fun _ _ q=>wpAny_pure (wpAny_pure q)
 refine thn (hi pins s σ H _ I h) fun v s1 h1=>thn h1 fun itv s2 h2=>?_
 obtain⟨it,fp,tn,J,H2,e,I2,T,st2,f2,W,⟨m0,w0⟩,turn⟩:=h2
 subst e
 have hfo:∀b∈fp,b<s2.heap.objs.size:=fun b hb=>by obtain⟨o,e,_⟩:=T.obj 0 _ st2 b hb;exact Heap.lt_size e
 refine wpAny_newObj_type (wpAny_newFunctionEnv hcell (by intro y hy;simp at hy) (fun h₁ hns₁ hsb₁=>?_) hkind)
 dsimp only at hns₁ hsb₁⊢
 generalize hH2:s2.heap.push {cls:=.type "list",dict:=none,data:=.seq ([]:List Value).toArray}=G2 at hns₁ hsb₁⊢
 have hC:G2.objs.size=s2.heap.objs.size+1:=by rw[←hH2,Heap.size_push]
 have hDC:s2.heap.objs.size≠G2.objs.size:=by rw[hC];exact Nat.ne_of_lt (Nat.lt_succ_self _)
 have hCle:s2.heap.objs.size<=G2.objs.size:=by rw[hC];exact Nat.le_succ _
 have old:∀b o,s2.heap.get? b=some o->h₁.get? b=some o:=fun b o e=>hsb₁.extBut b o (by rw[hC];exact Nat.ne_of_lt (Nat.lt_succ_of_lt (Heap.lt_size e))) (Heap.get?_push_of_some _ (hH2▸Heap.get?_push_of_some _ e))
 have hacc:h₁.PlainList s2.heap.objs.size #[]:=⟨_,hsb₁.extBut _ _ hDC (Heap.get?_push_of_some _ (hH2▸Heap.get?_push_size _ rfl))⟩
 have I3:Inv (cxComp X scope (own++fr.map fun j=>X.N.getD j Str.empty) fp G2.objs.size s2 H2) [] (innerSt own.length fr σ) H2 {s2 with heap:=h₁,toks:=s2.toks+([]:List (Str×Value)).length} :=
  comp_enter I2 hkind hcell hfr hin hCle f2 hfo old hns₁
 have st3:tn 0 h₁:=T.keep 0 _ _ st2 fun b _ o e=>old b o e
 have hDf:s2.heap.objs.size∉fp:=fun hm=>Nat.lt_irrefl _ (hfo _ hm)
 have hDn2:H2 s2.heap.objs.size=none:=I2.hok.fresh (Nat.le_refl _)
 have sub:∀y c,(cellsFor X.env scope.names []).lookup y=some c->X.env.cells.lookup y=some c:=cellsFor_sub _ _ hfree (by intro y c e;simp at e)
 have cellD:∀y c,(cellsFor X.env scope.names []).lookup y=some c->c≠s2.heap.objs.size:=fun y c e=>by
  obtain⟨_,o,ho,_⟩:=I2.cell y c (sub y c e)
  exact Nat.ne_of_lt (Heap.lt_size ho)
 have Dfs:s2.heap.objs.size∉frs X.stack:=fun z=>by
  rcases List.mem_cons.mp (I2.stkSub _ z)with e|e
  ·exact absurd I2.lt (by rw[←e];exact Nat.lt_irrefl _)
  ·exact I2.nofs (Nat.le_refl _) e
 -- the iterator's records,in the block's context
 have stat:∀{H':Hp}{pl:List (Addr×Obj)},(∀b∈fp,H' b=none)->(∀p∈pl,p.1=s2.heap.objs.size)->∀b∈fp,FpOk (cxComp X scope (own++fr.map fun j=>X.N.getD j Str.empty) fp G2.objs.size s2 H2) pl H' b:=fun{H' pl} hn hp b hb=>by
  refine⟨hn b hb,(I3.ok.exf b hb).1,I3.ok.exfs b hb,.inl hb,(I3.ok.exf b hb).2,fun p hpp z=>?_⟩
  have hpp':p∈pl:=by simpa[cxComp]using hpp
  exact hDf (by rw[←hp p hpp',z];exact hb)
 have pinD:∀{σ':St}{H':Hp}{s':Shared}{ys:Array Value}{n:Nat},Inv (cxComp X scope (own++fr.map fun j=>X.N.getD j Str.empty) fp G2.objs.size s2 H2) [] σ' H' s'->H' s2.heap.objs.size=none->s'.heap.get? s2.heap.objs.size=some {cls:=.type "list",data:=.seq ys n} ->
   Inv (cxComp X scope (own++fr.map fun j=>X.N.getD j Str.empty) fp G2.objs.size s2 H2) [(s2.heap.objs.size,{cls:=.type "list",data:=.seq ys n})] σ' H' s':=fun{σ' H' s' ys n} J hn e=>J.pins_of fun p hp=>by
  have e':p=(s2.heap.objs.size,{cls:=.type "list",data:=.seq ys n}):=by simpa using hp
  subst e'
  exact⟨e,hn,hDC,Dfs,fun v z=>nomatch z⟩
 have loop:codeAny (model X.prog X.w) X.A (.compLoop (.ListComp elt [⟨tg,iter,ifs,0⟩] scope pos) 0 (.ref it) (.ref s2.heap.objs.size) (compEnvC scope (cellsFor X.env scope.names []) G2.objs.size X.env))
   (compPost (model X.prog X.w) X.A X.xe (some (assign (.Name y posn) X.env)) (fun _ s'=>SP X pins D0 .next s') (.ref s2.heap.objs.size) G2.objs.size) {s2 with heap:=h₁,toks:=s2.toks+([]:List (Str×Value)).length}:=by
  refine codeAny_compLoop_any (E:=fun _ _=>False) (fun n s'=>∃i σ' H' vs ys,Inv (cxComp X scope (own++fr.map fun j=>X.N.getD j Str.empty) fp G2.objs.size s2 H2) [] σ' H' s'/\tn i s'.heap/\(∀b∈fp,H' b=none)/\H' s2.heap.objs.size=none/\s'.heap.PlainList s2.heap.objs.size ys/\Vals vs ys.toList/\W i n σ' vs H')
   ?_ (fun _ _ z=>z.elim) m0 ⟨0,_,H2,[],#[],I3,st3,fun b hb=>(f2 b hb).1,hDn2,hacc,.nil,w0⟩
  rintro n s3 ⟨i,σ3,H3,vs,ys,J3,st3,fr3,dn3,⟨pn,pl3⟩,rv,w3⟩
  have J3':=pinD J3 dn3 pl3
  have hpins:∀p∈[(s2.heap.objs.size,({cls:=.type "list",data:=.seq ys pn}:Obj))],p.1=s2.heap.objs.size:=fun p hp=>by
   have e':p=(s2.heap.objs.size,{cls:=.type "list",data:=.seq ys pn}):=by simpa using hp
   rw[e']
  rcases turn i n σ3 vs H3 w3 with⟨stop,hz,q⟩|⟨go,hz,N,hN,step⟩
  ·refine thn (T.done (cxComp X scope (own++fr.map fun j=>X.N.getD j Str.empty) fp G2.objs.size s2 H2) rfl rfl rfl hc i _ s3 σ3 H3 (fun _ _=>False) J3' (stat fr3 hpins) st3 stop) fun r s4 ⟨hr,J4⟩=>?_
   subst hr
   obtain⟨m4,hn4,_⟩:=id J4.loc
   have e4:s4.heap.get? s2.heap.objs.size=some {cls:=.type "list",data:=.seq ys pn}:=(J4.pin (s2.heap.objs.size,{cls:=.type "list",data:=.seq ys pn}) (List.mem_append_right _ (by simp))).1
   obtain⟨oC,es,ep,eC,dC,kC,fC⟩:=hn4
   have I4:Inv X pins σ (upd H3 s2.heap.objs.size (.lst vs)) s4:=comp_leave (h'':=s4.heap) I2 f2 J4 hCle (Nat.le_refl _) hDC dn3 ⟨pn,e4⟩ rv hz ⟨rfl,fun _ _=>rfl⟩
   have cL:G2.objs.size≠X.env.locals:=fun z=>absurd I2.lt (by rw[←z];exact Nat.not_lt.mpr hCle)
   have I5:Inv X (pins++[(G2.objs.size,oC)]) σ (upd H3 s2.heap.objs.size (.lst vs)) s4:=I4.pins_of fun p hp=>by
    rcases List.mem_append.mp hp with z|z
    ·exact I4.pin p (List.mem_append_right _ z)
    ·have z:p=(G2.objs.size,oC):=by simpa using z
     subst z
     exact⟨eC,by rw[upd_ne hDC.symm];exact J4.free,cL,I2.nofs hCle,fun v zv=>by rw[dC]at zv;cases zv⟩
   show wpAny _ _ (assign (.Name y posn) X.env (.ref s2.heap.objs.size)) _ _ _
   refine thn (hgg _ s4 σ _ (.ref s2.heap.objs.size) _ _ I5 rfl (q _ dn3)) fun _ s5 ⟨σ5,H5,I6,q6⟩=>?_
   have pC:=I6.pin (G2.objs.size,oC) (List.mem_append_right _ (List.mem_append_right _ (by simp)))
   refine⟨m4,⟨oC,es,ep,pC.1,dC,kC,fC⟩,fun h' hs'=>?_⟩
   have I7:Inv X pins σ5 H5 s5:=I6.pins_of fun p hp=>I6.pin p (List.mem_append_right _ (List.mem_append_left _ hp))
   refine⟨σ5,H5,I7.turned (t':=s5.toks) (it:=G2.objs.size) (fun b o hb e=>(hs'.2 b hb).trans e) pC.2.1 cL (.inr (Nat.le_trans I2.sz hCle)) (fun x c e z=>?_) (fun p hp z=>?_),q6⟩
   ·obtain⟨_,o,ho,_⟩:=I2.cell x c e
    exact absurd (Heap.lt_size ho) (by rw[z];exact Nat.not_lt.mpr hCle)
   ·exact absurd (Heap.lt_size (I2.pin p hp).1) (by rw[z];exact Nat.not_lt.mpr hCle)
  ·refine thn (T.item (cxComp X scope (own++fr.map fun j=>X.N.getD j Str.empty) fp G2.objs.size s2 H2) rfl rfl rfl hc i _ s3 σ3 H3 (fun _ _=>False) J3' (stat fr3 hpins) st3 go) fun r s4 ⟨u,hr,h4⟩=>?_
   subst hr
   refine thn h4 fun _ s5 ⟨x,H5,J5,r5,y5,st5,fr5⟩=>?_
   have J5':=J5.pinned (stat fr5 hpins) (T.obj _ _ st5)
   refine thn (hg fp _ s2 H2 _ s5 σ3 H5 x u _ J5' r5 (step x H5 y5)) fun _ s6 ⟨σ6,H6,J6,q6⟩=>?_
   refine thn (ht fp _ s2 H2 _ s6 σ6 H6 _ J6 q6) fun ok s7 ⟨H7,J7,q7⟩=>?_
   -- what stood pinned through the turn
   have after:∀{s8:Shared}{H8:Hp},Inv (cxComp X scope (own++fr.map fun j=>X.N.getD j Str.empty) fp G2.objs.size s2 H2) ([(s2.heap.objs.size,({cls:=.type "list",data:=.seq ys pn}:Obj))]++pinsAt fp s5.heap) σ6 H8 s8 ->
     tn (i+1) s8.heap/\(∀b∈fp,H8 b=none)/\H8 s2.heap.objs.size=none/\s8.heap.get? s2.heap.objs.size=some {cls:=.type "list",data:=.seq ys pn}:=fun{s8 H8} J8=>by
    refine⟨T.keep _ _ _ st5 fun b hb o e=>(J8.pin (b,o) (List.mem_append_right _ (List.mem_append_right _ (mem_pinsAt hb e)))).1,fun b hb=>?_,?_,?_⟩
    ·obtain⟨o,e,d⟩:=T.obj _ _ st5 b hb
     exact(J8.pin (b,o) (List.mem_append_right _ (List.mem_append_right _ (mem_pinsAt hb e)))).2.1
    ·exact(J8.pin (s2.heap.objs.size,{cls:=.type "list",data:=.seq ys pn}) (List.mem_append_right _ (List.mem_append_left _ (by simp)))).2.1
    ·exact(J8.pin (s2.heap.objs.size,{cls:=.type "list",data:=.seq ys pn}) (List.mem_append_right _ (List.mem_append_left _ (by simp)))).1
   cases ok with
   |false =>
    obtain⟨m',hm,w7⟩:=hN _ _ _ q7
    obtain⟨a1,a2,a3,a4⟩:=after J7
    exact⟨m',hm,i+1,σ6,H7,vs,ys,J7.pins_of (fun p hp=>absurd hp (by simp)),a1,a2,a3,⟨pn,a4⟩,rv,w7⟩
   |true =>
    refine thn (he fp _ s2 H2 _ s7 σ6 H7 _ J7 q7) fun y s8 ⟨v8,H8,J8,r8,n8⟩=>?_
    obtain⟨m',hm,w8⟩:=hN _ _ _ n8
    obtain⟨a1,a2,a3,a4⟩:=after J8
    have J9:Inv (cxComp X scope (own++fr.map fun j=>X.N.getD j Str.empty) fp G2.objs.size s2 H2) [] σ6 H8 s8:=J8.pins_of (fun p hp=>absurd hp (by simp))
    have hys:ys.size<=sizeLine:=by
     have e1:vs.length=ys.toList.length:=rv.length
     have e2:ys.toList.length=ys.size:=by simp
     omega
    refine wpAny_list_append_plain (hsz:=hys) ⟨pn,a4⟩ fun h₅ hl₅ hs₅=>?_
    refine⟨m',hm,i+1,σ6,H8,vs++[v8],ys.push y,J9.turned (t':=s8.toks) (it:=s2.heap.objs.size) (fun b o hb e=>by rw[hs₅.2 b hb];exact e) a3 hDC (.inr (Nat.le_refl _)) cellD (fun p hp=>absurd (show p∈([]:List (Addr×Obj))from hp) (by simp)),
     T.keep _ _ _ a1 fun b hb o e=>(hs₅.2 b (fun z=>hDf (z▸hb))).trans e,a2,a3,hl₅,?_,w8⟩
    have:Vals (vs++[v8]) (ys.toList++[y]):=rv.append (.cons r8 .nil)
    simpa using this
 exact codeAny_compStart_list loop (T.self X.A 0 _ _ _ st3 loop)
end
theorem ps_compC{X:Cx}{y:Str}{posn posa:Pos}{gg:TG}{elt iter tg:Expr}{ifs:List Expr}{scope:Scope}{pos:Pos}{wi:TI}{g:TG}{tt:TT}{te:TE}(sc:Scope)(N0 own:List Str)(fr:List Nat)(hc:X.calm=true)(hsc:X.env.scope=sc)(hN:X.N=N0)
  (ok:compOk scope sc N0 fr=true) (hi:PI X tg iter wi) (hg:∀fp C s H,PG (cxComp X scope (own++fr.map fun j=>N0.getD j Str.empty) fp C s H) tg g)
  (ht:∀fp C s H,PIfs (cxComp X scope (own++fr.map fun j=>N0.getD j Str.empty) fp C s H) ifs tt)
  (he:∀fp C s H,PE (cxComp X scope (own++fr.map fun j=>N0.getD j Str.empty) fp C s H) elt te)
  (hgg:PG X (.Name y posn) gg) (hsw:swapsWith (.ListComp elt [⟨tg,iter,ifs,0⟩] scope pos) (some (.Name y posn)) posa.line X.env=pure true:=by kernel_rfl)
  (hs:∀x,foldedSetIterable iter X.env x=pure x:=by intro _;rfl):PS X (.Assign [.Name y posn] (.ListComp elt [⟨tg,iter,ifs,0⟩] scope pos) posa) (tAsg (tComp own.length fr wi g tt te) gg):=by
 subst hsc hN
 unfold compOk at ok
 simp only[Bool.and_eq_true,List.all_eq_true,bne_iff_ne,beq_iff_eq,Bool.or_eq_true]at ok
 obtain⟨⟨k1,k2⟩,k3⟩:=ok
 refine ps_comp own fr hc k1 (fun x hx=>(k2 x hx).1.1) (fun x hx e=>?_) (fun x hx e=>?_) (fun j hj=>k3 j hj) hi hg ht he hgg hsw hs
 ·rcases(k2 x hx).1.2 with z|z
  ·exact absurd e z
  ·exact z
 ·rcases(k2 x hx).2 with(z|z)|z
  ·exact absurd e z
  ·exact .inl z
  ·exact .inr z
end L2
namespace G07
open PySem L2
def top(i:Nat):Stmt:=PySem.Challenge.pw_gapwork_k07_kinds_written_and_read.main.body.getD i (.Pass ⟨0,0,0,0⟩)
abbrev s_sort_of:Stmt:=top 6
abbrev s_well_parted:Stmt:=top 7
abbrev s_split_words:Stmt:=top 8
abbrev s_scanned:Stmt:=top 9
abbrev s_scanned_one:Stmt:=top 10
abbrev s_kind_deep:Stmt:=top 12
abbrev s_innermost:Stmt:=top 13
abbrev s_in_rows:Stmt:=top 14
abbrev s_is_name:Stmt:=top 19
abbrev s_is_figures:Stmt:=top 20
abbrev s_name_of:Stmt:=top 22
abbrev s_number_behind:Stmt:=top 23
abbrev s_core_of:Stmt:=top 24
abbrev s_kept_list:Stmt:=top 25
abbrev s_kind_of:Stmt:=top 26
abbrev s_read_kind:Stmt:=top 27
abbrev s_core_text:Stmt:=top 29
abbrev s_kind_text:Stmt:=top 30
abbrev s_L_feed:Stmt:=top 32
abbrev s_L_take:Stmt:=top 33
abbrev s_L_kept:Stmt:=top 34
abbrev s_L_word:Stmt:=top 35
abbrev s_L_any_kind:Stmt:=top 36
abbrev s_L_kind_text:Stmt:=top 37
abbrev s_L_alike:Stmt:=top 38
abbrev s_L_greater:Stmt:=top 39
abbrev s_law:Stmt:=top 40
section
variable {P:Program}{w:World}{K:PySem.W.Frag}{mg:Str->Option Value}{base:Heap}
theorem scTake:FnScope ["_law_feed_here","_law_many","_law_digit","_law_one"] ["_law_feed_here","_law_many"] (defScope s_L_take):=⟨rfl,rfl,rfl,by decide +kernel,rfl,by decide +kernel,by decide +kernel⟩
theorem ok_take{f:Addr}{fd:FuncData}(F:Fun K "_law_take" "_law_take" s_L_take f fd):FnOk P w K mg base CX0 1 f fd ["_law_feed_here","_law_many"] spTake:=by
 refine F.ok scTake (fun vs H Q E h=>?_) (fun cdv A outer s H vs Q E hr h=>?_)
 ·obtain⟨a,m,rfl,_⟩:=h
  rfl
 obtain⟨a,m,rfl,m0,m1,⟨p,q,hf⟩,k⟩:=h
 refine⟨_,pss_cons (ps_if (pt_cmpR op_gt (pe_ix ix_list (pv 0) pe_int (fun _ _=>rfl)) pe_int (nomark _))
   (pss_cons (ps_set (i:=2) scTake.nd rfl (Or.inl rfl) (pe_op op_mod (pe_ix ix_list (pv 0) pe_int (fun _ _=>rfl)) (pv 1)))
   (pss_cons (ps_asg (pe_op op_fdiv (pe_ix ix_list (pv 0) pe_int (fun _ _=>rfl)) (pv 1)) (pg_sub (pv 0) pe_int set_list))
   (pss_one (ps_ret (pv 2))))) pss_nil)
  (pss_cons (ps_set (i:=3) scTake.nd rfl (Or.inl rfl) (pe_op op_mod (pe_op op_mul (pe_ix ix_list (pv 0) pe_int (fun _ _=>rfl)) pe_int) pe_int))
  (pss_cons (ps_asg (pe_op op_add (pe_op op_mod (pe_op op_add (pe_op op_mul (pv 3) pe_int) pe_int) pe_int) pe_int) (pg_sub (pv 0) pe_int set_list))
  (pss_one (ps_ret (pe_op op_mod (pe_op op_fdiv (pe_op op_add (pe_op op_mul (pv 3) pe_int) (pe_ix ix_list (pv 0) pe_int (fun _ _=>rfl))) pe_int) (pv 1)))))),?_⟩
 have ext:∀p' q':Int,Ext a H (upd H a (.lst [.int p',.int q'])):=fun p' q'=>⟨fun b o n e=>by rw[upd_ne n];exact e,p',q',upd_same⟩
 refine⟨_,rfl,a,_,0,_,rfl,rfl,SqL.of hf,rfl,_,_,rfl,rfl,_,rfl,?_⟩
 refine ite2 (fun _=>?_) (fun _=>?_)
 ·refine⟨_,rfl,a,_,0,_,rfl,rfl,SqL.of hf,rfl,_,rfl,_,_,rfl,rfl,m0,?_⟩
  refine⟨_,rfl,a,_,0,_,rfl,rfl,SqL.of hf,rfl,_,rfl,_,_,rfl,rfl,⟨m0,m1⟩,?_⟩
  refine⟨_,rfl,a,_,0,0,rfl,rfl,hf,rfl,?_⟩
  refine⟨_,rfl,?_⟩
  exact k _ _ (Int.emod_nonneg _ (by omega)) (Int.emod_lt_of_pos _ m0) (ext _ _)
 ·refine⟨_,rfl,a,_,1,_,rfl,rfl,SqL.of hf,rfl,_,_,rfl,rfl,.inr ⟨by decide,by decide⟩,_,_,rfl,rfl,(by show(0:Int)<2147483647;decide),?_⟩
  refine⟨_,rfl,_,_,rfl,rfl,.inr ⟨by decide,by decide⟩,_,_,rfl,rfl,_,_,rfl,rfl,(by show(0:Int)<2147483399;decide),_,_,rfl,rfl,?_⟩
  refine⟨_,rfl,a,_,1,1,rfl,rfl,hf,rfl,?_⟩
  refine⟨_,rfl,_,_,rfl,rfl,.inr ⟨by decide,by decide⟩,_,rfl,a,_,1,_,rfl,rfl,SqL.of upd_same,rfl,_,_,rfl,rfl,_,_,rfl,rfl,⟨by decide,by decide⟩,_,rfl,_,_,rfl,rfl,m0,?_⟩
  exact k _ _ (Int.emod_nonneg _ (by omega)) (Int.emod_lt_of_pos _ m0) (ext _ _)
end
section
variable {P:Program}{w:World}{K:PySem.W.Frag}{mg:Str->Option Value}{base:Heap}
theorem scFeed:FnScope ["_law_script","_law_k","_law_cell","_law_own"] ["_law_script","_law_k"] (defScope s_L_feed):=⟨rfl,rfl,rfl,by decide +kernel,rfl,by decide +kernel,by decide +kernel⟩
theorem ok_feed{f:Addr}{fd:FuncData}(F:Fun K "_law_feed" "_law_feed" s_L_feed f fd)(ml:mg "len"=none):FnOk P w K mg base CX0 1 f fd ["_law_script","_law_k"] (spFeed K):=by
 refine F.ok scFeed (fun vs H Q E h=>?_) (fun cdv A outer s H vs Q E hr h=>?_)
 ·obtain⟨a,ns,m,rfl,_⟩:=h
  rfl
 obtain⟨a,ns,k,rfl,hS,hn,k0,k1,kk⟩:=h
 refine⟨_,pss_cons (ps_set (i:=2) scFeed.nd rfl (Or.inl rfl) (pe_op op_add (pe_op op_mul pe_int (pv 1)) pe_int))
  (pss_cons (ps_if (pt_cmpR op_lt (pv 1) (pe_callB call_len_seq (by rfl) ml PySem.boot_len (pa_cons (pv 0) pa_nil)) (nomark _))
   (pss_one (ps_set (i:=2) scFeed.nd rfl (Or.inl rfl) (pe_ix ix_list (pv 0) (pv 1) (fun _ _=>rfl))))
   (pss_one (ps_if (pt_cmpR op_gt (pe_callB call_len_seq (by rfl) ml PySem.boot_len (pa_cons (pv 0) pa_nil)) pe_int (nomark _))
    (pss_one (ps_set (i:=2) scFeed.nd rfl (Or.inl rfl) (pe_op op_add (pe_op op_mul (pe_op op_mod (pe_ix ix_list (pv 0) (pe_op op_mod (pv 1) (pe_callB call_len_seq (by rfl) ml PySem.boot_len (pa_cons (pv 0) pa_nil))) (fun _ _=>rfl)) pe_int) pe_int) (pe_op op_mul pe_int (pv 1)))))
    pss_nil)))
  (pss_cons (ps_set (i:=3) scFeed.nd rfl (Or.inl rfl) pe_int)
  (pss_cons (ps_if (pt_cmpR op_ge (pv 2) (pe_op op_pow pe_int pe_int) (nomark _)) (pss_one (ps_set (i:=3) scFeed.nd rfl (Or.inl rfl) (pv 2))) pss_nil)
  (pss_one (ps_ret (pe_lst (pa_cons (pv 3) (pa_cons (pe_op op_add (pe_op op_mod (pe_op op_add (pe_op op_mul (pe_op op_mod (pv 2) pe_int) pe_int) (pe_op op_mul pe_int (pv 1))) pe_int) pe_int) pa_nil)))))))),?_⟩
 have hl:(ns.map V.int).length=ns.length:=List.length_map _
 refine⟨_,rfl,_,_,rfl,rfl,.inl ⟨by decide,by decide⟩,_,_,rfl,rfl,?_⟩
 refine⟨_,rfl,_,rfl,a,_,rfl,.inl hS,_,_,rfl,rfl,_,rfl,?_⟩
 refine ite2 (fun c=>?_) (fun c=>?_)
 ·have c':k<((ns.map V.int).length:Int):=of_decide_eq_true c
  rw[hl]at c'
  obtain⟨v,hv⟩:=atI_int (ns:=ns) k0 c'
  refine⟨_,rfl,_,rfl,a,_,_,_,rfl,rfl,hS,hv,?_⟩
  refine⟨_,rfl,_,_,rfl,rfl,⟨by decide,by decide,by decide⟩,_,_,rfl,rfl,_,rfl,ite2 (fun _=>?_) (fun _=>?_)⟩
  ·refine⟨_,rfl,_,rfl,_,rfl,_,_,rfl,rfl,(by show(0:Int)<2147483629;decide),_,_,rfl,rfl,.inr ⟨by decide,by decide⟩,_,rfl,_,_,rfl,rfl,.inl ⟨by decide,by decide⟩,_,_,rfl,rfl,_,_,rfl,rfl,(by show(0:Int)<2147483629;decide),_,_,rfl,rfl,(by show 2<=sizeLine;decide),fun l hl=>?_⟩
   exact kk l _ (same_new hl _) hl ⟨_,_,upd_same⟩
  ·refine⟨_,rfl,_,rfl,_,_,rfl,rfl,(by show(0:Int)<2147483629;decide),_,_,rfl,rfl,.inr ⟨by decide,by decide⟩,_,rfl,_,_,rfl,rfl,.inl ⟨by decide,by decide⟩,_,_,rfl,rfl,_,_,rfl,rfl,(by show(0:Int)<2147483629;decide),_,_,rfl,rfl,(by show 2<=sizeLine;decide),fun l hl=>?_⟩
   exact kk l _ (same_new hl _) hl ⟨_,_,upd_same⟩
 ·refine⟨_,rfl,a,_,rfl,.inl hS,_,_,rfl,rfl,_,rfl,?_⟩
  refine ite2 (fun d=>?_) (fun d=>?_)
  ·have d':(0:Int)<((ns.map V.int).length:Int):=of_decide_eq_true d
   have d2:(0:Int)<(ns.length:Int):=by rw[hl]at d';exact d'
   obtain⟨v,hv⟩:=atI_int (ns:=ns) (k:=k % (((ns.map V.int).length:Nat):Int)) (Int.emod_nonneg _ (by omega)) (by rw[hl];exact Int.emod_lt_of_pos _ d2)
   refine⟨_,rfl,_,rfl,_,rfl,a,_,rfl,.inl hS,_,_,rfl,rfl,d',a,_,_,_,rfl,rfl,hS,hv,_,_,rfl,rfl,(by show(0:Int)<2147483629;decide),_,_,rfl,rfl,.inr ⟨by decide,by decide⟩,_,rfl,_,_,rfl,rfl,.inl ⟨by decide,by decide⟩,_,_,rfl,rfl,?_⟩
   refine⟨_,rfl,_,_,rfl,rfl,⟨by decide,by decide,by decide⟩,_,_,rfl,rfl,_,rfl,ite2 (fun _=>?_) (fun _=>?_)⟩
   ·refine⟨_,rfl,_,rfl,_,rfl,_,_,rfl,rfl,(by show(0:Int)<2147483629;decide),_,_,rfl,rfl,.inr ⟨by decide,by decide⟩,_,rfl,_,_,rfl,rfl,.inl ⟨by decide,by decide⟩,_,_,rfl,rfl,_,_,rfl,rfl,(by show(0:Int)<2147483629;decide),_,_,rfl,rfl,(by show 2<=sizeLine;decide),fun l hl=>?_⟩
    exact kk l _ (same_new hl _) hl ⟨_,_,upd_same⟩
   ·refine⟨_,rfl,_,rfl,_,_,rfl,rfl,(by show(0:Int)<2147483629;decide),_,_,rfl,rfl,.inr ⟨by decide,by decide⟩,_,rfl,_,_,rfl,rfl,.inl ⟨by decide,by decide⟩,_,_,rfl,rfl,_,_,rfl,rfl,(by show(0:Int)<2147483629;decide),_,_,rfl,rfl,(by show 2<=sizeLine;decide),fun l hl=>?_⟩
    exact kk l _ (same_new hl _) hl ⟨_,_,upd_same⟩
  ·refine⟨_,rfl,_,_,rfl,rfl,⟨by decide,by decide,by decide⟩,_,_,rfl,rfl,_,rfl,ite2 (fun _=>?_) (fun _=>?_)⟩
   ·refine⟨_,rfl,_,rfl,_,rfl,_,_,rfl,rfl,(by show(0:Int)<2147483629;decide),_,_,rfl,rfl,.inr ⟨by decide,by decide⟩,_,rfl,_,_,rfl,rfl,.inl ⟨by decide,by decide⟩,_,_,rfl,rfl,_,_,rfl,rfl,(by show(0:Int)<2147483629;decide),_,_,rfl,rfl,(by show 2<=sizeLine;decide),fun l hl=>?_⟩
    exact kk l _ (same_new hl _) hl ⟨_,_,upd_same⟩
   ·refine⟨_,rfl,_,rfl,_,_,rfl,rfl,(by show(0:Int)<2147483629;decide),_,_,rfl,rfl,.inr ⟨by decide,by decide⟩,_,rfl,_,_,rfl,rfl,.inl ⟨by decide,by decide⟩,_,_,rfl,rfl,_,_,rfl,rfl,(by show(0:Int)<2147483629;decide),_,_,rfl,rfl,(by show 2<=sizeLine;decide),fun l hl=>?_⟩
    exact kk l _ (same_new hl _) hl ⟨_,_,upd_same⟩
end
end G07
namespace L2
open PySem PySem.Spec PyProof.Rows
theorem empty_app{z:Str}:Str.empty++z=z:=by
 cases z with|mk c=>show(⟨#[]++c⟩:Str)=⟨c⟩;rw[Array.empty_append]
def fmtV(v:V)(Q:Str->Prop):Prop:=(∃x,v=.str x/\x.length<=65535/\Q x)\/∃i:Int,v=.int i/\i.natAbs<1000000/\Q (Str.ofString (toString i))
section
variable {X:Cx}{e:Expr}{te:TE}{z z':Str}{k k':Nat}{p1 p2 p3 p4:Pos}
theorem fv_ok{pins:List (Addr×Obj)}{σ:St}{H:Hp}{s:Shared}{R:Str->Hp->Prop}(he:PE X e te)(I:Inv X pins σ H s)(h:te σ H fun v H1=>fmtV v fun y=>R y H1){Q:Value->Shared->Prop}
  (hq:∀s' H' y t,Inv X pins σ H' s'->R y H'->y.length<=sizeLine->Q (.str y t) s'):wpAny (model X.prog X.w) X.A (eval (.FormattedValue e (-1) none p1) X.env) Q X.xe s:=by
 refine wpAny_FormattedValue_plain (thn (he pins s σ H _ I h) fun u s1 ⟨v,H1,I1,r1,q1⟩=>?_)
 rcases q1 with⟨x,rfl,hx,q⟩|⟨i,rfl,hi,q⟩
 ·obtain⟨t,rfl⟩:=r1
  have hx':x.length<=sizeLine:=by rw[sizeLine_eq];omega
  exact wpAny_formatField_str (hq _ _ _ _ I1 q hx') (hq _ _ _ _ (I1.tok _) q hx') hx'
 ·obtain⟨t,rfl⟩:=r1
  have hl:i.natAbs.log2<1920:=by
   have:i.natAbs.log2<=i.natAbs:=Nat.log2_le_self _
   by_cases h0:i.natAbs=0
   ·rw[h0];decide
   ·exact(Nat.log2_lt h0).mpr (Nat.lt_of_lt_of_le hi (Nat.le_trans (by decide:1000000<=2 ^ 20) (Nat.pow_le_pow_right (by decide) (by decide))))
  exact wpAny_formatField_int hl (hq _ _ _ _ (I1.tok _) q (int_text_fits hl))
def tFA(z:Str)(te:TE):TE:=fun σ H Q=>te σ H fun v H1=>fmtV v fun y=>z.length+y.length<=100000/\Q (.str (z++y)) H1
theorem pe_fA(he:PE X e te)(hz:z.length<=1000:=by decide):PE X (.JoinedStr [.Constant (.str z) k p1,.FormattedValue e (-1) none p2] p3) (tFA z te):=by
 intro pins s σ H Q I h
 have hz1:(Str.empty++z).length<=sizeLine:=by rw[empty_app,sizeLine_eq];omega
 refine wpAny_JoinedStr (v₁:=.Constant (.str z) k p1) (v₂:=.FormattedValue e (-1) none p2) (rest:=[]) ?_
 refine Calls.Constant_str ⟨_,_,rfl,hz1,?_⟩
 refine fv_ok (R:=fun y H1=>z.length+y.length<=100000/\Q (.str (z++y)) H1) he (I.tok _) h fun s' H' y t I' ⟨hl,q⟩ hy=>?_
 have e1:Str.empty++z++y=z++y:=by rw[empty_app]
 have hl2:(Str.empty++z++y).length<=sizeLine:=by rw[e1,strLen_append,sizeLine_eq];omega
 exact⟨_,_,rfl,hl2,hl2,.str (z++y),H',I'.tok _,⟨_,by rw[e1]⟩,q⟩
def tFB(z z':Str)(te:TE):TE:=fun σ H Q=>te σ H fun v H1=>fmtV v fun y=>z.length+y.length+z'.length<=100000/\Q (.str (z++y++z')) H1
theorem pe_fB(he:PE X e te)(hz:z.length<=1000:=by decide):PE X (.JoinedStr [.Constant (.str z) k p1,.FormattedValue e (-1) none p2,.Constant (.str z') k' p3] p4) (tFB z z' te):=by
 intro pins s σ H Q I h
 have hz1:(Str.empty++z).length<=sizeLine:=by rw[empty_app,sizeLine_eq];omega
 refine wpAny_JoinedStr (v₁:=.Constant (.str z) k p1) (v₂:=.FormattedValue e (-1) none p2) (rest:=[.Constant (.str z') k' p3]) ?_
 refine Calls.Constant_str ⟨_,_,rfl,hz1,?_⟩
 refine fv_ok (R:=fun y H1=>z.length+y.length+z'.length<=100000/\Q (.str (z++y++z')) H1) he (I.tok _) h fun s' H' y t I' ⟨hl,q⟩ hy=>?_
 have e1:Str.empty++z++y=z++y:=by rw[empty_app]
 have hl2:(Str.empty++z++y).length<=sizeLine:=by rw[e1,strLen_append,sizeLine_eq];omega
 have hl3:(Str.empty++z++y++z').length<=sizeLine:=by rw[e1,strLen_append,strLen_append,sizeLine_eq];omega
 exact⟨_,_,rfl,hl2,Calls.Constant_str ⟨_,_,rfl,hl3,hl3,.str (z++y++z'),H',(I'.tok _),⟨_,by rw[e1]⟩,q⟩⟩
theorem mt_startswith:MtR X "str.startswith" (fun x vs H Q=>∃z y,x=.str z/\vs=[.str y]/\Q (.bl (Txt.startswith z y)) H):=by
 intro pins s σ H x xs v us Q I rx rs h
 obtain⟨z,y,rfl,rfl,q⟩:=h
 obtain⟨t,rfl⟩:=rx
 obtain⟨u,rfl,t',rfl⟩:=vals1 rs
 exact call_gives F.slot_str_startswith (typeIs_str _ _ _) F.entry_str_startswith (F.args_str_startswith_2 _ _) (gives_str_startswith z y t t') ⟨.bl _,H,I,rfl,q⟩
theorem vals_strs:∀(l:List (Str×Tok)),Vals ((l.map (·.1)).map V.str) (strValues l)
 | []=>.nil
 |(x,t)::r=>.cons ⟨t,rfl⟩ (vals_strs r)
theorem mt_split:MtR X "str.split" (fun x vs H Q=>∃z y,x=.str z/\vs=[.str y]/\(y.length == 0)=false/\z.length<=100000/\∀p,H p=none->Q (.ref p) (upd H p (.lst ((Txt.split z y).map V.str)))):=by
 intro pins s σ H x xs v us Q I rx rs h
 obtain⟨z,y,rfl,rfl,hy,hz,q⟩:=h
 obtain⟨t,rfl⟩:=rx
 obtain⟨u,rfl,t',rfl⟩:=vals1 rs
 have hn:(Builtin.Str.partsBetween z (Builtin.Str.occurrences z y 0 z.length (z.length+1)) y.length).length<=sizeLine:=by
  have e1:=StrLaws.occ_length_le z y 0 z.length (z.length+1)
  rw[length_partsBetween,sizeLine_eq]
  omega
 have fin:∀(l:List (Str×Tok)) (k:Nat),l.map (·.1)=Txt.split z y->l.length<=sizeLine->EP X pins σ Q (.ref s.heap.objs.size) {s with toks:=k,heap:=s.heap.push {cls:=.type "list",data:=.seq (strValues l).toArray}}:=fun l k el hl=>by
  refine⟨.ref s.heap.objs.size,upd H s.heap.objs.size (.lst ((Txt.split z y).map V.str)),I.laid (t':=k) (fun b o e=>Heap.get?_push_of_some _ e) (Nat.le_refl _) ?_,rfl,q _ (I.hok.fresh (Nat.le_refl _))⟩
  refine⟨by rw[List.length_map,←el,List.length_map];exact hl,strValues l,0,?_,Heap.get?_push_size _ rfl⟩
  rw[←el]
  exact vals_strs l
 cases h1:(decide (z.length<y.length)||decide (Builtin.Str.strKind z<Builtin.Str.strKind y))
 ·cases hf:(Builtin.Str.occurrences z y 0 z.length (z.length+1)).isEmpty
  ·refine call_meets F.slot_str_split (typeIs_str _ _ _) F.entry_str_split (F.args_str_split_2 _ _) (meets_str_split_sep z y t t' h1 hy hf (by rw[sizeLine_eq];omega) hn) ?_
   show wants _ _ _ {s with toks:=_,heap:=s.heap.push {cls:=.type "list",data:=.seq (strsFrom s.toks (Builtin.Str.partsBetween z (Builtin.Str.occurrences z y 0 z.length (z.length+1)) y.length)).toArray}}
   rw[strsFrom_eq]
   have e:(numbered s.toks (Builtin.Str.partsBetween z (Builtin.Str.occurrences z y 0 z.length (z.length+1)) y.length)).map (·.1)=Txt.split z y:=((numbered_texts s.toks (Builtin.Str.partsBetween z (Builtin.Str.occurrences z y 0 z.length (z.length+1)) y.length)).trans ((if_neg (ne_true_of_eq_false h1)).trans (if_neg (ne_true_of_eq_false hf))).symm)
   refine fin (numbered s.toks _) _ e ?_
   have e2:=congrArg List.length (numbered_texts s.toks (Builtin.Str.partsBetween z (Builtin.Str.occurrences z y 0 z.length (z.length+1)) y.length))
   rw[List.length_map]at e2
   rw[e2]
   exact hn
  ·exact call_meets F.slot_str_split (typeIs_str _ _ _) F.entry_str_split (F.args_str_split_2 _ _) (meets_str_split_not_found z y t t' h1 hy hf)
    (fin [(z,t)] s.toks ((if_neg (ne_true_of_eq_false h1)).trans (if_pos hf)).symm (by show 1<=sizeLine;decide))
 ·exact call_meets F.slot_str_split (typeIs_str _ _ _) F.entry_str_split (F.args_str_split_2 _ _) (meets_str_split_cannot_occur z y t t' h1)
   (fin [(z,t)] s.toks (if_pos h1).symm (by show 1<=sizeLine;decide))
theorem call_intS:CallR X (.type "int") (fun xs H Q=>∃n:Int,xs=[.str (Str.ofString (toString n))]/\0<=n/\n<1000000/\Q (.int n) H):=by
 intro pins s σ H xs us Q I r h
 obtain⟨n,rfl,h0,h1,q⟩:=h
 obtain⟨u,rfl,t,rfl⟩:=vals1 r
 exact PySem.W.KIN.call_num h0 (by omega) ⟨.int n,H,I.tok _,⟨_,rfl⟩,q⟩
theorem call_strV:CallR X (.type "str") (fun xs H Q=>(∃x,xs=[.str x]/\Q (.str x) H)\/∃i:Int,xs=[.int i]/\i.natAbs<1000000/\Q (.str (Str.ofString (toString i))) H):=by
 intro pins s σ H xs us Q I r h
 rcases h with⟨x,rfl,q⟩|⟨i,rfl,hi,q⟩
 ·obtain⟨u,rfl,t,rfl⟩:=vals1 r
  exact PySem.P.str_of_str ⟨.str x,H,I,⟨_,rfl⟩,q⟩
 ·obtain⟨u,rfl,t,rfl⟩:=vals1 r
  have hl:i.natAbs.log2<1920:=by
   by_cases h0:i.natAbs=0
   ·rw[h0];decide
   ·exact(Nat.log2_lt h0).mpr (Nat.lt_of_lt_of_le hi (Nat.le_trans (by decide:1000000<=2 ^ 20) (Nat.pow_le_pow_right (by decide) (by decide))))
  exact PySem.P.str_of_int hl ⟨.str _,H,I.tok _,⟨_,rfl⟩,q⟩
end
section
variable {X:Cx}{pins:List (Addr×Obj)}{σ:St}{H:Hp}{s:Shared}
theorem store_exact{M:Model}{A:Around}{E:Value->Shared->Prop}{i:Nat}{x:Str}{v:V}{u:Value}{Q:Unit->Shared->Prop}(I:Inv X pins σ H s)(hN:X.N.Nodup)(hi:X.N[i]?=some x)(hk:X.env.scope.names.lookup x=some .local)(r:RelV v u)
  (h:∀h' m,Inv X pins (σ.set i (some v)) H {s with heap:=h',toks:=s.toks+1}->h'.Ns X.env.locals m->m x=some u->Heap.SameBut X.env.locals s.heap h'->Q () {s with heap:=h',toks:=s.toks+1}):wpAny M A (storeName X.env x u) Q E s:=by
 obtain⟨m,hn,hl⟩:=id I.loc
 obtain⟨oL,_,_,hoL,_⟩:=id hn
 have hiσ:i<σ.length:=by rw[I.len];exact(List.getElem?_eq_some_iff.mp hi).1
 refine wpAny_storeName_local hk hn (fun h' hn' hs=>h h' _ ?_ hn' (by simp) hs) (by rw[I.ok.kind];rfl)
 have old:∀b o,X.s₀.heap.get? b=some o->h'.get? b=s.heap.get? b:=fun b o e=>hs.2 b (Nat.ne_of_lt (Nat.lt_of_lt_of_le (Heap.lt_size e) I.ok.above))
 exact{
  ok:=I.ok
  os:=I.os
  bare:=I.bare
  base:={
   keep:=fun b o e n hb hx=>(old b o e).trans (I.base.keep b o e n hb hx)
   slot:=fun b o e n hb hx=>let⟨sl,q⟩:=I.base.slot b o e n hb hx;⟨sl,(old b o e).trans q⟩
   free:=I.base.free
   there:=fun b o e hx=>let⟨o',q⟩:=I.base.there b o e hx;⟨o',(old b o e).trans q⟩
   tups:=I.base.tups
   frzs:=I.base.frzs
   tbls:=I.base.tbls}
  loc:=⟨_,hn',fun j y v' e1 e2 e3=>by
   by_cases hj:j=i
   ·subst hj
    rw[hi]at e1
    cases e1
    rw[List.getElem?_set_self hiσ]at e2
    cases e2
    exact⟨u,r,.inl ⟨hk,by simp⟩⟩
   ·rw[List.getElem?_set_ne (Ne.symm hj)]at e2
    obtain⟨u',r',q⟩:=hl j y v' e1 e2 e3
    refine⟨u',r',?_⟩
    rcases q with⟨k,e⟩|⟨k,c,e,z⟩
    ·have ne:y≠x:=fun e=>hj (nodup_ix hN e1 (e▸hi))
     exact .inl ⟨k,by simp[ne,e]⟩
    ·exact .inr ⟨k,c,e,z.sameBut hs (I.cne y c e)⟩⟩
  cell:=fun y c e=>let⟨w',z⟩:=I.cell y c e;⟨w',z.sameBut hs (I.cne y c e)⟩
  free:=I.free
  freeC:=I.freeC
  pin:=fun p hp=>let⟨e,n,ne,nf,d⟩:=I.pin p hp;⟨(hs.2 p.1 ne).trans e,n,ne,nf,d⟩
  hok:=fun b ob e=>by
   refine(I.hok b ob e).stay (fun c w' hc q=>(hs.2 c ?_).trans q) (fun _ q=>q) fun _ _ q=>q
   rintro rfl
   rcases hc with rfl|hc
   ·rw[I.free]at e;cases e
   ·rw[I.free]at hc;cases hc
  len:=by simpa using I.len}
def Jo(X:Cx)(sg:Str)(jo:Expr)(g:Nat->Str):Prop:=∀(s:Shared) (m:Str->Option Value) (c:Nat) (t:Tok) (Q E:Value->Shared->Prop),X.env.scope.kind=.function->s.heap.Ns X.env.locals m->m sg=some (.str ⟨#[c]⟩ t) ->
 (∀(v k:Nat),s.toks<=v->v<k->Q (.str (g c) v) {s with toks:=k})->wpAny (model X.prog X.w) X.A (eval jo X.env) Q E s
theorem jo_behind{sg z:Str}{p1 p2 p3 p4:Pos}{k:Nat}(hk:X.env.scope.names.lookup sg=some .local)(hz:z.length<=1000)(hd:(sg == ("__debug__":Str))=false:=by decide) :
  Jo X sg (.JoinedStr [.FormattedValue (.Name sg p1) (-1) none p2,.Constant (.str z) k p3] p4) (fun c=>Str.empty++⟨#[c]⟩++z):=by
 intro s m c t Q E hf hn hm h
 have hs1:(Str.empty++(⟨#[c]⟩:Str)).length<=sizeLine:=by rw[strLen_append];show 0+1<=sizeLine;decide
 have hs2:(Str.empty++(⟨#[c]⟩:Str)++z).length<=sizeLine:=by
  rw[strLen_append,strLen_append]
  show 0+1+z.length<=sizeLine
  have:(1001:Nat)<=sizeLine:=by decide
  omega
 refine wpAny_JoinedStr (v₁:=.FormattedValue (.Name sg p1) (-1) none p2) (v₂:=.Constant (.str z) k p3) (rest:=[]) ?_
 refine wpAny_FormattedValue_plain (wpAny_Name (wpAny_loadName_local hf hk hn hm ?_) hd)
 refine wpAny_formatField_str ?_ ?_ (by show 1<=sizeLine;decide)
 ·exact⟨_,_,rfl,hs1,Calls.Constant_str ⟨_,_,rfl,hs2,hs2,h _ _ (Nat.le_succ _) (Nat.lt_succ_self _)⟩⟩
 ·exact⟨_,_,rfl,hs1,Calls.Constant_str ⟨_,_,rfl,hs2,hs2,h _ _ (Nat.le_trans (Nat.le_succ _) (Nat.le_succ _)) (Nat.lt_succ_self _)⟩⟩
theorem jo_ahead{sg z:Str}{p1 p2 p3 p4:Pos}{k:Nat}(hk:X.env.scope.names.lookup sg=some .local)(hz:z.length<=1000)(hd:(sg == ("__debug__":Str))=false:=by decide) :
  Jo X sg (.JoinedStr [.Constant (.str z) k p3,.FormattedValue (.Name sg p1) (-1) none p2] p4) (fun c=>Str.empty++z++⟨#[c]⟩):=by
 intro s m c t Q E hf hn hm h
 have hs1:(Str.empty++z).length<=sizeLine:=by
  rw[strLen_append]
  show 0+z.length<=sizeLine
  have:(1000:Nat)<=sizeLine:=by decide
  omega
 have hs2:(Str.empty++z++(⟨#[c]⟩:Str)).length<=sizeLine:=by
  rw[strLen_append,strLen_append]
  show 0+z.length+1<=sizeLine
  have:(1001:Nat)<=sizeLine:=by decide
  omega
 refine wpAny_JoinedStr (v₁:=.Constant (.str z) k p3) (v₂:=.FormattedValue (.Name sg p1) (-1) none p2) (rest:=[]) ?_
 refine Calls.Constant_str ⟨_,_,rfl,hs1,?_⟩
 refine wpAny_FormattedValue_plain (wpAny_Name (wpAny_loadName_local hf hk hn hm ?_) hd)
 refine wpAny_formatField_str ?_ ?_ (by show 1<=sizeLine;decide)
 ·exact⟨_,_,rfl,hs2,hs2,h _ _ (Nat.le_succ _) (Nat.lt_succ_self _)⟩
 ·exact⟨_,_,rfl,hs2,hs2,h _ _ (Nat.le_trans (Nat.le_succ _) (Nat.le_succ _)) (Nat.lt_succ_self _)⟩
end
def repl(g:Nat->Str)(x:Str)(cs:List Nat):Str:=cs.foldl (fun x c=>Txt.replace x ⟨#[c]⟩ (g c)) x
def tRepl(i j:Nat)(g:Nat->Str)(cs:Str):TS:=fun D σ H=>∃x,σ[i]?=some (some (.str x))/\(∀k,(repl g x (cs.cps.toList.take k)).length<=65535)/\D.nx ((σ.set i (some (.str (repl g x cs.cps.toList)))).set j none) H
section
variable {X:Cx}
theorem ps_repl{i j:Nat}{sg tx cs:Str}{jo:Expr}{g:Nat->Str}{k:Nat}{p0 p1 p2 p3 p4 p5 p6 p7 p8:Pos}(hc:X.calm=true)(hN:X.N.Nodup)(hi:X.N[i]?=some tx)(hj:X.N[j]?=some sg)
  (ht:X.env.scope.names.lookup tx=some .local) (hg:X.env.scope.names.lookup sg=some .local) (hjo:Jo X sg jo g) (hgl:∀c,(g c).length<=100) (hgn:∀c,((⟨#[c]⟩:Str) == g c)=false) (hij:i≠j) (hascii:cs.cps.all (· < 128)=true)
  (hd:(tx == ("__debug__":Str))=false:=by decide) (hd2:(sg == ("__debug__":Str))=false:=by decide)
  (hbase:attributeBase (.Name tx p3) "replace" X.env (eval (.Name tx p3) X.env)=eval (.Name tx p3) X.env:=by rfl)
  (hfew:((backTo p6 (starEach [.Name sg p5,jo] X.env)).all (fun x=>!x.1)&&(backToKw p6 (keywordEach [] X.env)).all (fun x=>x.1.isSome)
   && decide (([.Name sg p5,jo]:List Expr).length+([]:List Keyword).length+(if([]:List Keyword).isEmpty then 0 else 1)<30))=true:=by rfl)
  (hline:(p4.endLine == p6.line)=true:=by rfl)
  (hs1:starEach [.Name sg p5,jo] X.env=[(false,eval (.Name sg p5) X.env),(false,eval jo X.env)]:=by rfl)
  (hbt:backTo p6 [(false,eval (.Name sg p5) X.env),(false,eval jo X.env)]=[(false,eval (.Name sg p5) X.env),(false,eval jo X.env)]:=by rfl)
  (hsw:swapsWith (.Call (.Attribute (.Name tx p3) "replace" p4) [.Name sg p5,jo] [] p6) (some (.Name tx p2)) p7.line X.env=pure false:=by rfl)
  (hfs:∀x,foldedSetIterable (.Constant (.str cs) k p1) X.env x=pure x:=by intro _;rfl) :
  PS X (.For (.Name sg p0) (.Constant (.str cs) k p1) [.Assign [.Name tx p2] (.Call (.Attribute (.Name tx p3) "replace" p4) [.Name sg p5,jo] [] p6) p7] [] p8) (tRepl i j g cs):=by
 intro pins s σ H D I h
 obtain⟨x,hx,hlen,hq⟩:=h
 have hiσ:i<σ.length:=by rw[I.len];exact(List.getElem?_eq_some_iff.mp hi).1
 have hjσ:j<σ.length:=by rw[I.len];exact(List.getElem?_eq_some_iff.mp hj).1
 refine wpAny_For (Calls.Constant_str (wpAny_pyIter_ascii hascii ?_)) hfs
 have hb:s.heap.objs.size<=s.heap.objs.size:=Nat.le_refl _
 have hn0:H s.heap.objs.size=none:=I.hok.fresh hb
 have fpk:FpOk X pins H s.heap.objs.size:=I.fpOk hb hn0
 obtain⟨f0,f1,f2,f3,f4,f5⟩:=fpk
 refine codeAny_forLoop_any (fun n s'=>∃a,n=cs.cps.size-a/\a<=cs.cps.size/\1<=s'.toks/\s'.heap.IsStrIter s.heap.objs.size "str_ascii_iterator" cs s.toks a /\
  Inv X pins ((σ.set i (some (.str (repl g x (cs.cps.toList.take a))))).set j none) H s') ?_ cs.cps.size ⟨0,rfl,Nat.zero_le _,Nat.le_add_left 1 s.toks,⟨_,Heap.get?_push_size _ rfl,rfl,rfl⟩,?_⟩
 ·rintro n s3 ⟨a,rfl,ha,ht3,st3,I3⟩
  by_cases hlt:a<cs.cps.size
  ·-- a sign
   have hgc:cs.cps[a]?=some cs.cps[a]:=Array.getElem?_eq_getElem hlt
   refine wpAny_pyNext_ascii_item st3 hgc fun h' st4 sb=>?_
   have I4:Inv X pins ((σ.set i (some (.str (repl g x (cs.cps.toList.take a))))).set j none) H {s3 with heap:=h',toks:=s3.toks+1} :=
    I3.turned (fun b o hb e=>(sb.2 b hb).trans e) f0 f1 f3 f4 f5
   obtain⟨o4,e4,c4,d4⟩:=id st4
   refine go_of (s:={s3 with heap:=h',toks:=s3.toks+1}) (n:="str_ascii_iterator") e4 c4 d4 (by decide) ?_
   refine wpAny_assign_Name (store_exact I4 hN hj hg (v:=.str ⟨#[cs.cps[a]]⟩) ⟨_,rfl⟩ fun h5 m5 I5 n5 m5e sb5=>?_)
   have st5:h5.IsStrIter s.heap.objs.size "str_ascii_iterator" cs s.toks (a+1):=⟨o4,(sb5.2 _ f1).trans e4,c4,d4⟩
   rw[List.set_set]at I5
   refine wpAny_execs_cons (wpAny_Assign_Name ?_ hsw)
   -- the text
   obtain⟨m6,n6,l6⟩:=I5.loc
   obtain⟨u6,⟨t6,rfl⟩,k6⟩:=l6 i tx (.str (repl g x (cs.cps.toList.take a))) hi (by rw[List.getElem?_set_ne (Ne.symm hij),List.getElem?_set_self hiσ]) (.inl ht)
   have k6':m6 tx=some (.str (repl g x (cs.cps.toList.take a)) t6):=by
    rcases k6 with⟨_,e⟩|⟨z,_⟩
    ·exact e
    ·have z':X.env.scope.names.lookup tx=some .cell\/X.env.scope.names.lookup tx=some .free:=z
     rw[ht]at z'
     rcases z' with z'|z'<;>cases z'
   refine wpAny_Call_method_late hbase hfew hline rfl (wpAny_Name (wpAny_loadName_local I5.ok.kind ht n6 k6' ?_) hd)
   refine⟨"str","str.replace",F.plainAttrs_str,F.slot_str_replace,F.type_str_replace,typeIs_str _ _ _,fun a e=>(by cases e),?_⟩
   rw[hs1,hbt]
   refine Calls.callWith_builtin rfl (Calls.evalArgs_plain ?_)
   refine Calls.spliced_cons (wpAny_Name (wpAny_loadName_local I5.ok.kind hg n5 m5e ?_) hd2)
   refine Calls.spliced_cons (hjo _ m5 _ _ _ _ I5.ok.kind n5 m5e fun v kk hv1 hv2=>?_)
   refine Calls.spliced_nil ?_
   have hv1':s3.toks+1+1<=v:=hv1
   have hl:=hlen a
   have hgb:=hgl cs.cps[a]
   refine SC.replace (u:=s3.toks) (v:=v) (by show(s3.toks:Nat)≠0;omega) (by show(v:Nat)≠0;omega) (by show(s3.toks:Nat)≠v;omega) (hgn _) ?_ fun t' k'=>?_
   ·have h1:((repl g x (cs.cps.toList.take a)).length+1)*(g cs.cps[a]).length<=65536*100:=Nat.mul_le_mul (by omega) hgb
    omega
   -- the text is stored
   have tk:cs.cps.toList.take (a+1)=cs.cps.toList.take a++[cs.cps[a]]:=by
    have hla:a<cs.cps.toList.length:=by simpa using hlt
    rw[List.take_succ,List.getElem?_eq_getElem hla]
    simp
   have rp:repl g x (cs.cps.toList.take (a+1))=Txt.replace (repl g x (cs.cps.toList.take a)) ⟨#[cs.cps[a]]⟩ (g cs.cps[a]):=by
    rw[tk]
    unfold repl
    rw[List.foldl_append]
    rfl
   refine store_exact (I5.tok k') hN hi ht (v:=.str (repl g x (cs.cps.toList.take (a+1)))) ⟨t',by rw[rp]⟩ fun h8 m8 I8 n8 m8e sb8=>?_
   refine wpAny_execs_nil ⟨cs.cps.size - (a+1),by omega,a+1,rfl,hlt,Nat.le_add_left 1 _,⟨o4,(sb8.2 _ f1).trans ((sb5.2 _ f1).trans e4),c4,d4⟩,I8.weak ?_ ?_⟩
   ·simp
   ·intro q v hv
    by_cases hqj:q=j
    ·subst hqj
     rw[List.getElem?_set_self (by simpa using hjσ)]at hv
     cases hv
    ·rw[List.getElem?_set_ne (Ne.symm hqj)]at hv
     by_cases hqi:q=i
     ·subst hqi
      rw[List.getElem?_set_self (by simpa using hiσ)]at hv⊢
      exact hv
     ·rw[List.getElem?_set_ne (Ne.symm hqi)]at hv⊢
      rw[List.getElem?_set_ne (Ne.symm hqj),List.getElem?_set_ne (Ne.symm hqi)]
      exact hv
  ·have ea:a=cs.cps.size:=by omega
   subst ea
   refine wpAny_pyNext_ascii_end (I.ok.hd hc) st3 (by simp) fun h' he=>?_
   have I4:Inv X pins ((σ.set i (some (.str (repl g x (cs.cps.toList.take cs.cps.size))))).set j none) H {s3 with heap:=h'} :=
    I3.turned (t':=s3.toks) (fun b o hb e=>he b o hb e) f0 f1 f3 f4 f5
   refine wpAny_execs_nil ⟨_,H,I4,?_⟩
   have e:cs.cps.toList.take cs.cps.size=cs.cps.toList:=by rw[List.take_of_length_le];simp
   rw[e]
   exact hq
 ·have I1:Inv X pins σ H {s with heap:=s.heap.push {cls:=.type "str_ascii_iterator",data:=.fields #[.str cs s.toks,.int 0 0]},toks:=s.toks+1}:=I.kept (t':=s.toks+1) fun b o e=>Heap.get?_push_of_some _ e
  refine I1.weak (by simp) fun q v hv=>?_
  by_cases hqj:q=j
  ·subst hqj
   rw[List.getElem?_set_self (by simpa using hjσ)]at hv
   cases hv
  ·rw[List.getElem?_set_ne (Ne.symm hqj)]at hv
   by_cases hqi:q=i
   ·subst hqi
    rw[List.getElem?_set_self (by simpa using hiσ)]at hv
    rw[hx]
    exact hv
   ·rw[List.getElem?_set_ne (Ne.symm hqi)]at hv
    exact hv
end
def subst1(c:Nat)(z:List Nat)(a:Nat):List Nat:=if a=c then z else [a]
theorem flat_free{c:Nat}{z:List Nat}:∀{l:List Nat},c∉l->l.flatMap (subst1 c z)=l
 | [],_=>rfl
 |a::r,h=>by
  have e:subst1 c z a=[a]:=by unfold subst1;rw[if_neg];intro e;exact h (by rw[e];exact List.mem_cons_self)
  rw[List.flatMap_cons,e,flat_free fun m=>h (List.mem_cons_of_mem _ m)]
  rfl
theorem flat_join{c:Nat}{z:Str}:∀{ps:List Str},(∀p∈ps,c∉p.cps.toList)->(Str.join ⟨#[c]⟩ ps).cps.toList.flatMap (subst1 c z.cps.toList)=(Str.join z ps).cps.toList
 | [],_=>rfl
 | [p],h=>flat_free (h p (List.mem_singleton.mpr rfl))
 |p::q::r,h=>by
  have ih:=flat_join (z:=z) (ps:=q::r) fun a ha=>h a (List.mem_cons_of_mem _ ha)
  show(p++⟨#[c]⟩++Str.join ⟨#[c]⟩ (q::r)).cps.toList.flatMap _=(p++z++Str.join z (q::r)).cps.toList
  simp only[Str.cps_append,Array.toList_append,List.flatMap_append]
  rw[ih,flat_free (h p List.mem_cons_self)]
  simp[subst1]
theorem rep_flat(x z:Str)(c:Nat):(Txt.replace x ⟨#[c]⟩ z).cps.toList=x.cps.toList.flatMap (subst1 c z.cps.toList):=by
 rw[StrLaws.replace_one,←flat_join (StrLaws.split_free x c),StrLaws.join_split]
def sp(c:Nat):List Nat->List (List Nat)
 | []=>[[]]
 |a::l=>if a=c then []::sp c l else match sp c l with
  |p::r=>(a::p)::r
  | []=>[[a]]
theorem sp_app{c:Nat}:∀{p l:List Nat},c∉p->sp c (p++c::l)=p::sp c l
 | [],l,_=>by show(if c=c then _ else _)=_;rw[if_pos rfl]
 |a::p,l,h=>by
  have ne:a≠c:=fun e=>h (by rw[e];exact List.mem_cons_self)
  have ih:=sp_app (p:=p) (l:=l) fun m=>h (List.mem_cons_of_mem _ m)
  show(if a=c then _ else match sp c (p++c::l)with|p::r=>(a::p)::r|[]=>[[a]])=_
  rw[if_neg ne,ih]
theorem sp_free{c:Nat}:∀{p:List Nat},c∉p->sp c p=[p]
 | [],_=>rfl
 |a::p,h=>by
  have ne:a≠c:=fun e=>h (by rw[e];exact List.mem_cons_self)
  show(if a=c then _ else match sp c p with|p::r=>(a::p)::r|[]=>[[a]])=_
  rw[if_neg ne,sp_free fun m=>h (List.mem_cons_of_mem _ m)]
theorem sp_join{c:Nat}:∀{ps:List Str},ps≠[]->(∀p∈ps,c∉p.cps.toList)->sp c (Str.join ⟨#[c]⟩ ps).cps.toList=ps.map fun p=>p.cps.toList
 | [],h,_=>absurd rfl h
 | [p],_,h=>sp_free (h p (List.mem_singleton.mpr rfl))
 |p::q::r,_,h=>by
  have ih:=sp_join (ps:=q::r) (by simp) fun a ha=>h a (List.mem_cons_of_mem _ ha)
  show sp c (p++⟨#[c]⟩++Str.join ⟨#[c]⟩ (q::r)).cps.toList=_
  simp only[Str.cps_append,Array.toList_append,List.append_assoc]
  show sp c (p.cps.toList++c::(Str.join ⟨#[c]⟩ (q::r)).cps.toList)=_
  rw[sp_app (h p List.mem_cons_self),ih]
  rfl
theorem split_sp(x:Str)(c:Nat):(Txt.split x ⟨#[c]⟩).map (fun p=>p.cps.toList)=sp c x.cps.toList:=by
 have h:=sp_join (c:=c) (ps:=Txt.split x ⟨#[c]⟩) (fun e=>by have:=split_pos x ⟨#[c]⟩;rw[e]at this;cases this) (StrLaws.split_free x c)
 rw[StrLaws.join_split]at h
 exact h.symm
def ofL(l:List Nat):Str:=⟨l.toArray⟩
theorem ofL_toList(x:Str):ofL x.cps.toList=x:=by cases x with|mk c=>rfl
theorem toList_ofL(l:List Nat):(ofL l).cps.toList=l:=by unfold ofL;simp
theorem ofL_len(l:List Nat):(ofL l).length=l.length:=by unfold ofL;show l.toArray.size=_;simp
theorem str_ofL{x:Str}{l:List Nat}(h:x.cps.toList=l):x=ofL l:=by rw[←h,ofL_toList]
theorem split_ofL(l:List Nat)(c:Nat):Txt.split (ofL l) ⟨#[c]⟩=(sp c l).map ofL:=by
 have h:=split_sp (ofL l) c
 rw[toList_ofL]at h
 rw[←h,List.map_map]
 conv=>lhs;rw[←List.map_id (Txt.split (ofL l) ⟨#[c]⟩)]
 exact List.map_congr_left fun p _=>(ofL_toList p).symm
theorem rep_ofL(l:List Nat)(z:Str)(c:Nat):Txt.replace (ofL l) ⟨#[c]⟩ z=ofL (l.flatMap (subst1 c z.cps.toList)):=by
 have h:=rep_flat (ofL l) z c
 rw[toList_ofL]at h
 exact str_ofL h
def wd(l:List Nat):List (List Nat):=(sp 32 l).filter fun p=>!p.isEmpty
theorem wd_nil:wd []=[]:=rfl
theorem wd_one{w:List Nat}(h:32∉w)(h0:w≠[]):wd w=[w]:=by
 unfold wd
 rw[sp_free h]
 cases w with
 |nil=>exact absurd rfl h0
 |cons a r=>rfl
theorem wd_word{w l:List Nat}(h:32∉w)(h0:w≠[]):wd (w++32::l)=w::wd l:=by
 unfold wd
 rw[sp_app h]
 cases w with
 |nil=>exact absurd rfl h0
 |cons a r=>rfl
theorem wd_blank{l:List Nat}:wd (32::l)=wd l:=by
 unfold wd
 rw[show(32::l)=[]++32::l from rfl,sp_app (by simp)]
 rfl
theorem app_ofL(a b:List Nat):ofL a++ofL b=ofL (a++b):=str_ofL (by rw[Str.cps_append,Array.toList_append,toList_ofL,toList_ofL])
end L2
namespace G07
open PySem L2
abbrev letS:Str:="abcdefghijklmnopqrstuvwxyz"
def keptS:List Str:=["num","row","kind","def","more","first","others","long","match","if","let","fold","call","gap","in","world","fault","left"]
abbrev keptV:List V:=keptS.map V.str
inductive Cr|num|kd (x:Str)|op (n:Int)|an (n:Int)
def digs(n:Int):List Nat:=(Str.ofString (toString n)).cps.toList
def Cr.L:Cr->List Nat
 |.num=>[110,117,109]
 |.kd x=>x.cps.toList
 |.op n=>63::digs n
 |.an n=>39::digs n
def low(c:Nat):Prop:=97<=c/\c<=122
def Cr.ok:Cr->Prop
 |.num=>True
 |.kd x=>1<=x.length/\x.length<=6/\(∀c∈x.cps.toList,low c)/\x∉keptS
 |.op n=>0<=n/\n<100
 |.an n=>0<=n/\n<100
def crT:Cr->T
 |.num=>.s "num"
 |.kd x=>.t [.s "kind",.s x]
 |.op n=>.t [.s "open",.i n]
 |.an n=>.t [.s "any",.i n]
def kT(c:Cr):Nat->T
 |0=>crT c
 |d+1=>.t [.s "row",kT c d]
def kL(c:Cr):Nat->List Nat
 |0=>c.L
 |d+1=>40::114::111::119::32::(kL c d++[41])
abbrev kS(c:Cr)(d:Nat):Str:=ofL (kL c d)
def ws(c:Cr):Nat->List (List Nat)
 |0=>[c.L]
 |d+1=>[40]::[114,111,119]::(ws c d++[[41]])
theorem digs_small:∀m:Nat,m<100->(1<=((Nat.toDigits 10 m).map Char.toNat).length/\((Nat.toDigits 10 m).map Char.toNat).length<=2/\(∀c∈(Nat.toDigits 10 m).map Char.toNat,48<=c/\c<=57)/\(((Nat.toDigits 10 m).map Char.toNat).length=1\/((Nat.toDigits 10 m).map Char.toNat)[0]?≠some 48)):=by
 decide +kernel
theorem digs_ok{n:Int}(h:0<=n/\n<100):1<=(digs n).length/\(digs n).length<=2/\(∀c∈digs n,48<=c/\c<=57)/\((digs n).length=1\/(digs n)[0]?≠some 48):=by
 obtain⟨m,rfl⟩:=Int.eq_ofNat_of_zero_le h.1
 unfold digs
 rw[PySem.W.KIN.signs_num]
 exact digs_small m (by omega)
def wsgn(c:Nat):Prop:=c≠32/\c≠40/\c≠41/\c≠91/\c≠93
theorem Cr.sg:∀{c:Cr},c.ok->∀a∈c.L,wsgn a
 |.num,_,a,ha=>by
  have ha:a∈[110,117,109]:=ha
  simp at ha
  unfold wsgn
  omega
 |.kd x,h,a,ha=>by
  have:=h.2.2.1 a ha
  unfold low at this
  unfold wsgn
  omega
 |.op n,h,a,ha=>by
  unfold wsgn
  cases ha with
  |head=>omega
  |tail _ ha=>have:=(digs_ok h).2.2.1 a ha;omega
 |.an n,h,a,ha=>by
  unfold wsgn
  cases ha with
  |head=>omega
  |tail _ ha=>have:=(digs_ok h).2.2.1 a ha;omega
theorem Cr.len:∀{c:Cr},c.ok->1<=c.L.length/\c.L.length<=6
 |.num,_=>⟨by decide,by decide⟩
 |.kd x,h=>by
  have e:(Cr.kd x).L.length=x.length:=by show x.cps.toList.length=x.cps.size;simp
  rw[e]
  exact⟨h.1,h.2.1⟩
 |.op n,h=>by have:=digs_ok h;show 1<=(digs n).length+1/\(digs n).length+1<=6;omega
 |.an n,h=>by have:=digs_ok h;show 1<=(digs n).length+1/\(digs n).length+1<=6;omega
theorem Cr.ne{c:Cr}(h:c.ok):c.L≠[]:=fun e=>by have:=(c.len h).1;rw[e]at this;cases this
theorem kL_len{c:Cr}(h:c.ok):∀d,(kL c d).length<=6*d+6
 |0=>Nat.le_trans (c.len h).2 (by omega)
 |d+1=>by
  have:=kL_len h d
  show((kL c d++[41]).length+1+1+1+1+1)<=_
  rw[List.length_append]
  show(kL c d).length+1+1+1+1+1+1<=_
  omega
abbrev opn1:Nat->Str:=fun c=>Str.empty++⟨#[c]⟩++" "
abbrev cls1:Nat->Str:=fun c=>Str.empty++" "++⟨#[c]⟩
def R1(l:List Nat):List Nat:=(l.flatMap (subst1 40 [40,32])).flatMap (subst1 91 [91,32])
def R2(l:List Nat):List Nat:=(l.flatMap (subst1 41 [32,41])).flatMap (subst1 93 [32,93])
theorem R1_app(a b:List Nat):R1 (a++b)=R1 a++R1 b:=by unfold R1;rw[List.flatMap_append,List.flatMap_append]
theorem R2_app(a b:List Nat):R2 (a++b)=R2 a++R2 b:=by unfold R2;rw[List.flatMap_append,List.flatMap_append]
theorem R1_free{l:List Nat}(h:∀a∈l,wsgn a):R1 l=l:=by
 unfold R1
 rw[flat_free (fun m=>(h _ m).2.1 rfl),flat_free (fun m=>(h _ m).2.2.2.1 rfl)]
theorem R2_free{l:List Nat}(h:∀a∈l,wsgn a):R2 l=l:=by
 unfold R2
 rw[flat_free (fun m=>(h _ m).2.2.1 rfl),flat_free (fun m=>(h _ m).2.2.2.2 rfl)]
def Ft(c:Cr):Nat->List Nat
 |0=>c.L
 |d+1=>40::32::114::111::119::32::(Ft c d++[32,41])
theorem R_eq{c:Cr}(h:c.ok):∀d,R2 (R1 (kL c d))=Ft c d
 |0=>by show R2 (R1 c.L)=c.L;rw[R1_free (c.sg h),R2_free (c.sg h)]
 |d+1=>by
  have ih:=R_eq h d
  show R2 (R1 ([40,114,111,119,32]++(kL c d++[41])))=_
  rw[R1_app,R1_app,R2_app,R2_app,ih]
  rfl
theorem wd_F{c:Cr}(h:c.ok):∀(d:Nat) (tl:List Nat),(tl=[]\/∃t,tl=32::t)->wd (Ft c d++tl)=ws c d++wd tl
 |0,tl,ht=>by
  have n32:32∉c.L:=fun m=>(c.sg h _ m).1 rfl
  rcases ht with rfl|⟨t,rfl⟩
  ·show wd (c.L++[])=[c.L]++wd []
   rw[List.append_nil,wd_one n32 (c.ne h),wd_nil]
   rfl
  ·show wd (c.L++32::t)=[c.L]++wd (32::t)
   rw[wd_word n32 (c.ne h),wd_blank]
   rfl
 |d+1,tl,ht=>by
  have ih:=wd_F h d (32::41::tl) (.inr ⟨_,rfl⟩)
  have e0:Ft c (d+1)++tl=[40]++32::([114,111,119]++32::(Ft c d++32::41::tl)):=by
   show 40::32::114::111::119::32::((Ft c d++[32,41])++tl)=_
   rw[List.append_assoc]
   rfl
  rw[e0,wd_word (by decide) (by decide),wd_word (by decide) (by decide),ih,wd_blank]
  have e1:wd (41::tl)=[41]::wd tl:=by
   rcases ht with rfl|⟨t,rfl⟩
   ·exact wd_one (w:=[41]) (by decide) (by decide)
   ·rw[wd_blank]
    exact wd_word (w:=[41]) (by decide) (by decide)
  rw[e1]
  show _=([40]::[114,111,119]::(ws c d++[[41]]))++wd tl
  simp
theorem words_eq{c:Cr}(h:c.ok)(d:Nat):wd (R2 (R1 (kL c d)))=ws c d:=by
 have:=wd_F h d [] (.inl rfl)
 rw[List.append_nil,wd_nil,List.append_nil]at this
 rw[R_eq h,this]
theorem fm2_le{c:Nat}{z:List Nat}(hz:z.length<=2):∀l:List Nat,(l.flatMap (subst1 c z)).length<=2*l.length
 | []=>Nat.le_refl _
 |a::l=>by
  have:=fm2_le (c:=c) hz l
  have h1:(subst1 c z a).length<=2:=by
   unfold subst1
   split
   ·exact hz
   ·show 1<=2;decide
  rw[List.flatMap_cons,List.length_append,List.length_cons]
  omega
theorem op1_l(c:Nat):(opn1 c).cps.toList=[c,32]:=rfl
theorem cl1_l(c:Nat):(cls1 c).cps.toList=[32,c]:=rfl
theorem repl1(l:List Nat):repl opn1 (ofL l) [40,91]=ofL (R1 l):=by
 unfold repl
 show Txt.replace (Txt.replace (ofL l) ⟨#[40]⟩ (opn1 40)) ⟨#[91]⟩ (opn1 91)=_
 rw[rep_ofL,rep_ofL,op1_l,op1_l]
 rfl
theorem repl2(l:List Nat):repl cls1 (ofL l) [41,93]=ofL (R2 l):=by
 unfold repl
 show Txt.replace (Txt.replace (ofL l) ⟨#[41]⟩ (cls1 41)) ⟨#[93]⟩ (cls1 93)=_
 rw[rep_ofL,rep_ofL,cl1_l,cl1_l]
 rfl
theorem R1_le(l:List Nat):(R1 l).length<=4*l.length:=by
 have h1:=fm2_le (c:=40) (z:=[40,32]) (by decide) l
 have h2:=fm2_le (c:=91) (z:=[91,32]) (by decide) (l.flatMap (subst1 40 [40,32]))
 unfold R1
 omega
theorem R2_le(l:List Nat):(R2 l).length<=4*l.length:=by
 have h1:=fm2_le (c:=41) (z:=[32,41]) (by decide) l
 have h2:=fm2_le (c:=93) (z:=[32,93]) (by decide) (l.flatMap (subst1 41 [32,41]))
 unfold R2
 omega
theorem repl1_len{l:List Nat}(h:l.length<=1000)(k:Nat):(repl opn1 (ofL l) (([40,91]:List Nat).take k)).length<=65535:=by
 match k with
 |0=>show(ofL l).length<=_;rw[ofL_len];omega
 |1 =>
  show(Txt.replace (ofL l) ⟨#[40]⟩ (opn1 40)).length<=_
  have:=fm2_le (c:=40) (z:=[40,32]) (by decide) l
  rw[rep_ofL,ofL_len,op1_l]
  omega
 |k+2 =>
  have e:([40,91]:List Nat).take (k+2)=[40,91]:=List.take_of_length_le (by show 2<=k+2;omega)
  have:=R1_le l
  rw[e,repl1,ofL_len]
  omega
theorem repl2_len{l:List Nat}(h:l.length<=4000)(k:Nat):(repl cls1 (ofL l) (([41,93]:List Nat).take k)).length<=65535:=by
 match k with
 |0=>show(ofL l).length<=_;rw[ofL_len];omega
 |1 =>
  show(Txt.replace (ofL l) ⟨#[41]⟩ (cls1 41)).length<=_
  have:=fm2_le (c:=41) (z:=[32,41]) (by decide) l
  rw[rep_ofL,ofL_len,cl1_l]
  omega
 |k+2 =>
  have e:([41,93]:List Nat).take (k+2)=[41,93]:=List.take_of_length_le (by show 2<=k+2;omega)
  have:=R2_le l
  rw[e,repl2,ofL_len]
  omega
def srt(c:Nat):Str:=if c=32 then "blank" else if c=40\/c=91 then "start" else if c=41\/c=93 then "end" else "word"
def folV(a:Str):List V:=if a="blank" then [.str "start",.str "word"]else if a="start" then [.str "start",.str "word",.str "end"]else if a="word" then [.str "word",.str "blank",.str "end"]else [.str "end",.str "blank"]
def folS(a b:Str):Bool:=inV (.str b) (folV a)
def Ad(l:List Nat):Prop:=(List.zipWith (fun a b=>folS (srt a) (srt b)) l (l.drop 1)).all id=true
theorem srt_w{a:Nat}(h:wsgn a):srt a="word":=by
 unfold srt
 unfold wsgn at h
 rw[if_neg h.1,if_neg (by omega),if_neg (by omega)]
theorem ad_cons{a b:Nat}{l:List Nat}(h1:folS (srt a) (srt b)=true)(h2:Ad (b::l)):Ad (a::b::l):=by
 unfold Ad at h2⊢
 show(List.zipWith _ (a::b::l) (b::l)).all id=true
 rw[List.zipWith_cons_cons,List.all_cons,Bool.and_eq_true]
 exact⟨h1,h2⟩
theorem ad_word:∀(l:List Nat),(∀a∈l,wsgn a)->∀(h:Nat) (tl:List Nat),folS "word" (srt h)=true->Ad (h::tl)->Ad (l++h::tl)
 | [],_,_,_,_,ad=>ad
 | [a],hl,h,tl,hf,ad=>ad_cons (by rw[srt_w (hl a (.head _))];exact hf) ad
 |a::b::l,hl,h,tl,hf,ad=>ad_cons (by rw[srt_w (hl a (.head _)),srt_w (hl b (.tail _ (.head _)))];decide +kernel) (ad_word (b::l) (fun x hx=>hl x (.tail _ hx)) h tl hf ad)
theorem kL_head{c:Cr}(h:c.ok):∀d,∃a r,kL c d=a::r/\(srt a="start"\/srt a="word")
 |0=>by
  cases e:c.L with
  |nil=>exact absurd e (c.ne h)
  |cons a r=>exact⟨a,r,e,.inr (srt_w (c.sg h a (by rw[e];exact .head _)))⟩
 |d+1=>⟨40,_,rfl,.inl (by decide +kernel)⟩
theorem ad_kL{c:Cr}(hc:c.ok):∀(d h:Nat) (tl:List Nat),(srt h="end"\/srt h="blank")->Ad (h::tl)->Ad (kL c d++h::tl)
 |0,h,tl,hh,ad=>ad_word c.L (c.sg hc) h tl (by rcases hh with e|e<;>rw[e]<;>decide +kernel) ad
 |d+1,h,tl,hh,ad=>by
  have ih:=ad_kL hc d 41 (h::tl) (.inl (by decide +kernel)) (ad_cons (by rcases hh with e|e<;>rw[e]<;>decide +kernel) ad)
  obtain⟨a,r,e,ha⟩:=kL_head hc d
  show Ad (40::114::111::119::32::((kL c d++[41])++h::tl))
  rw[List.append_assoc]
  refine ad_cons (by decide +kernel) (ad_cons (by decide +kernel) (ad_cons (by decide +kernel) (ad_cons (by decide +kernel) ?_)))
  show Ad (32::(kL c d++41::h::tl))
  rw[e]at ih⊢
  exact ad_cons (by rcases ha with e|e<;>rw[e]<;>decide +kernel) ih
theorem ad_all{c:Cr}(hc:c.ok)(d:Nat):Ad (32::(kL c d++[32])):=by
 have h1:=ad_kL hc d 32 [] (.inr (by decide +kernel)) rfl
 obtain⟨a,r,e,ha⟩:=kL_head hc d
 rw[e]at h1⊢
 exact ad_cons (by rcases ha with e|e<;>rw[e]<;>decide +kernel) h1
end G07
namespace L2
open PySem PySem.Spec PyProof.Rows
section
variable {X:Cx}
theorem op_in_sign:OpR X (compareOp .In) (fun x y H Q=>∃c j,x=.str ⟨#[c]⟩/\y=.str j/\Q (.bl (decide (c∈j.cps.toList))) H):=by
 intro pins s σ H x y v u Q I rx ry h
 obtain⟨c,j,rfl,rfl,q⟩:=h
 refine op_in_str pins s σ H (.str ⟨#[c]⟩) (.str j) v u Q I rx ry ⟨_,_,rfl,rfl,?_⟩
 rw[StrLaws.found_one]
 exact q
theorem pt_truthK{a:Expr}{ta:TE}(K:PySem.W.Frag)(hK:X.K=K)(ha:PE X a ta)(he:∀whole,isTrue a X.env whole=(do let v ←whole;standAt a.pos;holding [v] (truthy v))) :
  PT X a (fun σ H Q=>ta σ H fun x H'=>∃k,TruV K x H' k/\Q k H'):=by
 subst hK
 exact pt_truth ha he
theorem pe_kgetK{o i:Expr}{pos:Pos}{td ty:TE}(K:PySem.W.Frag)(w:World)(hK:X.K=K)(hw:X.w=w)(ho:PE X o td)(hi:PE X i ty)(hs:NoSl i):PE X (.Subscript o i pos) (tKGet K w td ty):=by
 subst hK hw
 exact pe_kget ho hi hs
end
theorem comp_mapS{t:Str}{f:Nat->V}{g:TG}{te:TE}{Q:VK}{σ0:St}{H0:Hp}(hg:∀(v:V) (σ:St) (H:Hp) K,g v σ H K=K (σ.set 0 (some v)) H)
  (ht:∀c∈t.cps.toList,∀(H:Hp) (K:VK),Same H0 H->K (f c) H->te [some (.str ⟨#[c]⟩)] H K) (hl:σ0.length=1) (hn:t.cps.size<=sizeLine)
  (hd:∀p,H0 p=none->Q (.ref p) (upd H0 p (.lst (t.cps.toList.map f)))):CompW (Its t) g tNoIf te Q σ0 H0:=by
 refine comp_by t.cps.size (fun i σ vs H1=>σ.length=1/\H1=H0/\vs=(t.cps.toList.take i).map f) ⟨hl,rfl,rfl⟩ (fun i σ vs H1 hi ⟨_,_,e⟩=>by rw[e,List.length_map,List.length_take];omega) hn (fun _ _ _ _ h _=>h) (fun _ _ _ _=>rfl) ?_ ?_
 ·rintro i σ vs H1 x H' hi ⟨hσ,rfl,rfl⟩ ⟨rfl,c,hc,rfl⟩
  obtain⟨o,rfl⟩:∃o,σ=[o]:=by
   match σ,hσ with
   | [o],_=>exact⟨o,rfl⟩
  have hc':t.cps.toList[i]?=some c:=by simpa using hc
  rw[hg]
  refine ht c (List.mem_of_getElem? hc') _ _ (Same.refl _) ?_
  refine⟨rfl,rfl,?_⟩
  rw[List.take_add_one,hc',List.map_append]
  rfl
 ·rintro σ vs H1 ⟨_,rfl,rfl⟩ p hp
  have e:t.cps.toList.take t.cps.size=t.cps.toList:=List.take_of_length_le (by simp)
  rw[e]
  exact hd p hp
end L2
namespace L2
open PySem
theorem putF_lt'{f:Str}{v:V}{n:Nat}(k:Nat):∀{fs:List (Str×V)},fs.length+(k+1)<n->(putF f v fs).length+k<n
 | [],h=>by show 1+k<n;simp at h;omega
 |(g,x)::r,h=>by
  unfold putF
  split
  ·rw[List.length_cons]at h⊢;omega
  ·rw[List.length_cons]at h⊢
   have:=putF_lt' (f:=f) (v:=v) (n:=n) (k+1) (fs:=r) (by omega)
   omega
theorem putF_lt0{f:Str}{v:V}{n:Nat}{fs:List (Str×V)}(h:fs.length+1<n):(putF f v fs).length<n:=putF_lt' 0 h
theorem cx_K{X0:CXT}{P:Program}{w:World}{K:PySem.W.Frag}{mg:Str->Option Value}{base:Heap}{N:List Str}{nm:Str}{sc:Scope}{f:Addr}{cdv:Value}{A:Around}{outer:List PySem.Env}{s:Shared}{H:Hp}{E:XK}:(cxOf X0 P w K mg base N nm sc f cdv A outer s H E).nox.K=K:=rfl
def Cut(b:TS)(D:Ends)(N:St->Hp->Prop):Prop:=∀σ H,b D σ H->N σ H
theorem seq_cut{a b:TS}{D:Ends}{σ:St}{H:Hp}(h:∀N:St->Hp->Prop,Cut b D N->a {D with nx:=N} σ H):tSeq a b D σ H:=h (b D) (fun _ _ x=>x)
theorem next_of{D:Ends}{σ:St}{H:Hp}(h:D.nx σ H):tNext D σ H:=h
theorem asgc_of{D:Ends}{σ:St}{H:Hp}{v:V}{i:Nat}(h:D.nx (σ.set i (some v)) H):tAsg (tC v) (gName i) D σ H:=h
theorem seq_cut2{t0 t1 t2:TS}{D:Ends}{σ:St}{H:Hp}(h:∀N1 N2:St->Hp->Prop,Cut t1 {D with nx:=N2} N1->Cut t2 D N2->t0 {D with nx:=N1} σ H):tSeq t0 (tSeq t1 t2) D σ H:=h (tSeq t1 t2 D) (t2 D) (fun _ _ x=>x) (fun _ _ x=>x)
theorem seq_cut3{t0 t1 t2 t3:TS}{D:Ends}{σ:St}{H:Hp}(h:∀N1 N2 N3:St->Hp->Prop,Cut t1 {D with nx:=N2} N1->Cut t2 {D with nx:=N3} N2->Cut t3 D N3->t0 {D with nx:=N1} σ H):tSeq t0 (tSeq t1 (tSeq t2 t3)) D σ H:=h (tSeq t1 (tSeq t2 t3) D) (tSeq t2 t3 D) (t3 D) (fun _ _ x=>x) (fun _ _ x=>x) (fun _ _ x=>x)
theorem seq_cut4{t0 t1 t2 t3 t4:TS}{D:Ends}{σ:St}{H:Hp}(h:∀N1 N2 N3 N4:St->Hp->Prop,Cut t1 {D with nx:=N2} N1->Cut t2 {D with nx:=N3} N2->Cut t3 {D with nx:=N4} N3->Cut t4 D N4->t0 {D with nx:=N1} σ H):tSeq t0 (tSeq t1 (tSeq t2 (tSeq t3 t4))) D σ H:=h (tSeq t1 (tSeq t2 (tSeq t3 t4)) D) (tSeq t2 (tSeq t3 t4) D) (tSeq t3 t4 D) (t4 D) (fun _ _ x=>x) (fun _ _ x=>x) (fun _ _ x=>x) (fun _ _ x=>x)
theorem seq_cut5{t0 t1 t2 t3 t4 t5:TS}{D:Ends}{σ:St}{H:Hp}(h:∀N1 N2 N3 N4 N5:St->Hp->Prop,Cut t1 {D with nx:=N2} N1->Cut t2 {D with nx:=N3} N2->Cut t3 {D with nx:=N4} N3->Cut t4 {D with nx:=N5} N4->Cut t5 D N5->t0 {D with nx:=N1} σ H):tSeq t0 (tSeq t1 (tSeq t2 (tSeq t3 (tSeq t4 t5)))) D σ H:=h (tSeq t1 (tSeq t2 (tSeq t3 (tSeq t4 t5))) D) (tSeq t2 (tSeq t3 (tSeq t4 t5)) D) (tSeq t3 (tSeq t4 t5) D) (tSeq t4 t5 D) (t5 D) (fun _ _ x=>x) (fun _ _ x=>x) (fun _ _ x=>x) (fun _ _ x=>x) (fun _ _ x=>x)
theorem seq_cut6{t0 t1 t2 t3 t4 t5 t6:TS}{D:Ends}{σ:St}{H:Hp}(h:∀N1 N2 N3 N4 N5 N6:St->Hp->Prop,Cut t1 {D with nx:=N2} N1->Cut t2 {D with nx:=N3} N2->Cut t3 {D with nx:=N4} N3->Cut t4 {D with nx:=N5} N4->Cut t5 {D with nx:=N6} N5->Cut t6 D N6->t0 {D with nx:=N1} σ H):tSeq t0 (tSeq t1 (tSeq t2 (tSeq t3 (tSeq t4 (tSeq t5 t6))))) D σ H:=h (tSeq t1 (tSeq t2 (tSeq t3 (tSeq t4 (tSeq t5 t6)))) D) (tSeq t2 (tSeq t3 (tSeq t4 (tSeq t5 t6))) D) (tSeq t3 (tSeq t4 (tSeq t5 t6)) D) (tSeq t4 (tSeq t5 t6) D) (tSeq t5 t6 D) (t6 D) (fun _ _ x=>x) (fun _ _ x=>x) (fun _ _ x=>x) (fun _ _ x=>x) (fun _ _ x=>x) (fun _ _ x=>x)
theorem seq_cut8{t0 t1 t2 t3 t4 t5 t6 t7 t8:TS}{D:Ends}{σ:St}{H:Hp}(h:∀N1 N2 N3 N4 N5 N6 N7 N8:St->Hp->Prop,Cut t1 {D with nx:=N2} N1->Cut t2 {D with nx:=N3} N2->Cut t3 {D with nx:=N4} N3->Cut t4 {D with nx:=N5} N4->Cut t5 {D with nx:=N6} N5->Cut t6 {D with nx:=N7} N6->Cut t7 {D with nx:=N8} N7->Cut t8 D N8->t0 {D with nx:=N1} σ H):tSeq t0 (tSeq t1 (tSeq t2 (tSeq t3 (tSeq t4 (tSeq t5 (tSeq t6 (tSeq t7 t8))))))) D σ H:=h (tSeq t1 (tSeq t2 (tSeq t3 (tSeq t4 (tSeq t5 (tSeq t6 (tSeq t7 t8)))))) D) (tSeq t2 (tSeq t3 (tSeq t4 (tSeq t5 (tSeq t6 (tSeq t7 t8))))) D) (tSeq t3 (tSeq t4 (tSeq t5 (tSeq t6 (tSeq t7 t8)))) D) (tSeq t4 (tSeq t5 (tSeq t6 (tSeq t7 t8))) D) (tSeq t5 (tSeq t6 (tSeq t7 t8)) D) (tSeq t6 (tSeq t7 t8) D) (tSeq t7 t8 D) (t8 D) (fun _ _ x=>x) (fun _ _ x=>x) (fun _ _ x=>x) (fun _ _ x=>x) (fun _ _ x=>x) (fun _ _ x=>x) (fun _ _ x=>x) (fun _ _ x=>x)
theorem dpn{d:Nat}:T.deps []<=d:=by rw[T.deps];exact Nat.zero_le _
theorem dpc{x:T}{xs:List T}{d:Nat}(h:x.dep<=d)(r:T.deps xs<=d):T.deps (x::xs)<=d:=by rw[T.deps];exact Nat.max_le.mpr ⟨h,r⟩
theorem dpt{xs:List T}{d:Nat}(h:T.deps xs<=d):T.dep (.t xs)<=d+1:=by rw[T.dep];exact Nat.succ_le_succ h
theorem dps{x:Str}{d:Nat}:T.dep (.s x)<=d:=by simp[T.dep]
theorem dpi{x:Int}{d:Nat}:T.dep (.i x)<=d:=by simp[T.dep]
end L2
open L2 in
local macro_rules | `(tactic| fail "Z") => `(tactic| first | exact SqL.of (by first | assumption | exact upd_same) | exact SqT.of (by first | assumption | exact upd_same) | omega | (dsimp only [List.length_cons, List.length_nil]; decide) | decide | exact Nat.zero_le _ | (refine putF_lt0 ?_; (repeat with_reducible refine putF_lt' _ ?_); decide))
open L2 in
local macro_rules | `(tactic| fail "S") => `(tactic| first
  | ((with_reducible change @Eq _ _ _); (first | exact rfl | assumption | exact upd_same | (rw [upd_ne (by assumption)]; first | exact upd_same | assumption | (rw [upd_ne (by assumption)]; first | exact upd_same | assumption)) | omega))
  | ((with_reducible first | change @LT.lt _ _ _ _ | change @LE.le _ _ _ _); (first | omega | with_reducible assumption | fail "Z"))
  | assumption
  | ((with_reducible refine And.intro ?_ ?_) <;> fail "S")
  | ((with_reducible refine Or.inl ?_); fail "S")
  | ((with_reducible refine Or.inr ?_); fail "S")
  | ((with_reducible apply Exists.intro); fail "S")
  | ((with_reducible first | change tyV _ _ _ _ | change TruV _ _ _ _ | change CDiv _ _ | change CMul _ _ | change CPow _ _); first | ((first | refine (?_ : @Eq _ _ _) | refine (?_ : And _ _) | refine (?_ : Or _ _) | refine (?_ : Exists _)); fail "S") | exact True.intro)
  | fail "Z")
open L2 in
local macro_rules | `(tactic| fail "T") => `(tactic| first
  | ((with_reducible first | refine seq_cut8 ?_ | refine seq_cut6 ?_ | refine seq_cut5 ?_ | refine seq_cut4 ?_ | refine seq_cut3 ?_ | refine seq_cut2 ?_ | refine seq_cut ?_); intros)
  | (refine (?_ : Exists _); first
     | with_reducible first | apply @Exists.intro Hp | apply @Exists.intro Sp
     | ((fail_if_success (with_reducible apply @Exists.intro (_ → _))); apply Exists.intro))
  | (refine And.intro ?_ ?_; fail "S")
  | ((try with_reducible first | refine next_of ?_ | refine asgc_of ?_); refine (by with_reducible assumption : Cut _ _ _) _ _ ?_))
local macro_rules | `(tactic| fail "R") => `(tactic| first | (fail "T"; fail "R") | refine And.intro ?_ ?_ | refine (?_ : @ite _ _ _ _ _) | skip)
local macro_rules | `(tactic| fail "F") => `(tactic| first | ((with_reducible apply Exists.intro); fail "F") | ((with_reducible refine And.intro ?_ ?_); fail "S"))
local macro_rules | `(tactic| fail "O") => `(tactic| first | (fail "T"; fail "O") | refine And.intro ?_ ?_ | ((first | (refine Or.inl ?_; fail "F") | (refine Or.inr ?_; fail "F")); fail "O") | refine (?_ : @ite _ _ _ _ _) | skip)
open L2 in
local macro_rules | `(tactic| fail "D") => `(tactic| repeat' first | exact dpn | exact dps | exact dpi | assumption | exact Nat.le_trans (by assumption) (by decide) | refine dpt ?_ | refine dpc ?_ ?_)
namespace L2
open PySem
def isStar:Expr->Bool
 |.Starred _ _=>true
 |_=>false
theorem star_all{e:Expr}{es:List Expr}{env:PySem.Env}(h:isStar e=false):starEach (e::es) env=(false,eval e env)::starEach es env:=by
 cases e<;>first|rfl|cases h
theorem pa_c{X:Cx}{e:Expr}{es:List Expr}{te:TE}{t:TA}(ha:PE X e te)(hr:PA X es t)(hs:isStar e=false:=by rfl):PA X (e::es) (tCons te t):=pa_cons ha hr (star_all hs)
end L2
namespace L2
open PySem PySem.Spec PyProof.Rows
section
variable {prog:Program}{w:World}{A:Around}{E:Value->Shared->Prop}{s:Shared}
end
section
variable {prog:Program}{w:World}{A:Around}{R:Result->Shared->Prop}{s:Shared}
end
section
variable {prog:Program}{w:World}{A:Around}{E:Value->Shared->Prop}{s:Shared}
end
section
variable {prog:Program}{w:World}{A:Around}{E:Value->Shared->Prop}{s:Shared}
end
section
variable {X:Cx}{a b:Expr}{t:TA}{p1 p2 p3 p4:Pos}
end
def Isq(b:Bool)(h:Heap)(l:Addr)(xs:Array Value):Prop:=match b with|false=>h.IsList l xs|true=>h.IsTuple l xs
def Itq(b:Bool)(h:Heap)(i l:Addr)(k:Nat):Prop:=match b with|false=>h.IsListIter i l k|true=>h.IsTupleIter i l k
theorem Isq.at{b:Bool}{h h':Heap}{l:Addr}{xs:Array Value}(x:Isq b h l xs)(k:∀o,h.get? l=some o->h'.get? l=some o):Isq b h' l xs:=by
 cases b with
 |false=>exact Heap.IsList.at (show h.IsList l xs from x) k
 |true=>obtain⟨o,e,r⟩:=(show h.IsTuple l xs from x);exact⟨o,k o e,r⟩
theorem Itq.at{b:Bool}{h h':Heap}{i l:Addr}{n:Nat}(x:Itq b h i l n)(k:∀o,h.get? i=some o->h'.get? i=some o):Itq b h' i l n:=by
 cases b with
 |false=>exact Heap.IsListIter.at (show h.IsListIter i l n from x) k
 |true=>obtain⟨o,e,r⟩:=(show h.IsTupleIter i l n from x);exact⟨o,k o e,r⟩
theorem Isq.extBut{b:Bool}{h h':Heap}{l c:Addr}{xs:Array Value}(x:Isq b h l xs)(hs:Heap.ExtBut c h h')(hc:l≠c):Isq b h' l xs:=x.at fun o e=>hs l o hc e
theorem Itq.extBut{b:Bool}{h h':Heap}{i l c:Addr}{n:Nat}(x:Itq b h i l n)(hs:Heap.ExtBut c h h')(hc:i≠c):Itq b h' i l n:=x.at fun o e=>hs i o hc e
theorem Isq.got{b:Bool}{h:Heap}{l:Addr}{xs:Array Value}(x:Isq b h l xs):∃o,h.get? l=some o:=by
 cases b with
 |false=>obtain⟨o,e,_⟩:=(show h.IsList l xs from x);exact⟨o,e⟩
 |true=>obtain⟨o,e,_⟩:=(show h.IsTuple l xs from x);exact⟨o,e⟩
theorem Itq.got{b:Bool}{h:Heap}{i l:Addr}{n:Nat}(x:Itq b h i l n):∃o,h.get? i=some o:=by
 cases b with
 |false=>obtain⟨o,e,_⟩:=(show h.IsListIter i l n from x);exact⟨o,e⟩
 |true=>obtain⟨o,e,_⟩:=(show h.IsTupleIter i l n from x);exact⟨o,e⟩
section
variable {prog:Program}{w:World}{A:Around}{E:Value->Shared->Prop}{s:Shared}
theorem tup_next_item{it t:Addr}{i:Nat}{items:Array Value}{x:Value}{Q:Value->Shared->Prop}(hit:s.heap.IsTupleIter it t i)(ht:s.heap.IsTuple t items)(hx:items[i]?=some x)
  (hQ:∀h',h'.IsTupleIter it t (i+1)->Heap.SameBut it s.heap h'->Q x {s with heap:=h'}):wpAny (model prog w) A (Builtin.SmallTypes.nextOf (.ref it)) Q E s:=by
 obtain⟨o,ho,hc,hd⟩:=id hit
 obtain⟨ol,hol,_,nl,hdl⟩:=ht
 have hT:=hit.typeIs
 unfold Builtin.SmallTypes.nextOf
 refine wpAny_bind (wpAny_callSpecial?_slot (name:=Str.ofString "__next__") hT PySem.F.slot_tuple_iterator_next (wpAny_call_entry PySem.F.slot_tuple_iterator_next hT PySem.F.entry_tuple_iterator_next ?_ (PySem.F.args_tuple_iterator_next_1 _)))
 show wpAny _ _ (field (.ref it) 0>>=_) _ _ s
 refine wpAny_bind (wpAny_field ho hd (x:=.ref t) rfl ?_)
 show wpAny _ _ (if(Value.ref t == Value.none)=true then _ else _) _ _ s
 rw[if_neg (show ¬((Value.ref t == Value.none)=true)from Bool.false_ne_true)]
 show wpAny _ _ (field (.ref it) 1>>=_) _ _ s
 refine wpAny_bind (wpAny_field ho hd (x:=.int i 0) rfl ?_)
 show wpAny _ _ (seqItems? (.ref t)>>=_) _ _ s
 refine wpAny_bind (wpAny_seqItems hol hdl ?_)
 simp only[Int.toNat_natCast,hx]
 refine wpAny_bind (wpAny_setField ho hd (by simp) (wpAny_pure ⟨x,rfl,wpAny_pure (hQ _ ⟨_,Heap.get?_update_self _ ho (Obj.isFreed_of_fields (Obj.data_mapFields hd _)),(Obj.cls_mapFields ..).trans hc,?_⟩ (Heap.SameBut.update ..))⟩))
 rw[Obj.data_mapFields hd];simp[rawInt]
theorem tup_next_end{it t:Addr}{i:Nat}{items:Array Value}{Q:Value->Shared->Prop}(hh:A.handled=none)(hit:s.heap.IsTupleIter it t i)(ht:s.heap.IsTuple t items)(hx:items[i]?=none)
  (hE:∀h' e,Heap.ExtBut it s.heap h'->(∃o,h'.get? e=some o/\o.cls=.type "StopIteration")->E (.ref e) {s with heap:=h'}):wpAny (model prog w) A (Builtin.SmallTypes.nextOf (.ref it)) Q E s:=by
 obtain⟨o,ho,hc,hd⟩:=id hit
 obtain⟨ol,hol,_,nl,hdl⟩:=ht
 have hT:=hit.typeIs
 unfold Builtin.SmallTypes.nextOf
 refine wpAny_bind (wpAny_callSpecial?_slot (name:=Str.ofString "__next__") hT PySem.F.slot_tuple_iterator_next (wpAny_call_entry PySem.F.slot_tuple_iterator_next hT PySem.F.entry_tuple_iterator_next ?_ (PySem.F.args_tuple_iterator_next_1 _)))
 show wpAny _ _ (field (.ref it) 0>>=_) _ _ s
 refine wpAny_bind (wpAny_field ho hd (x:=.ref t) rfl ?_)
 show wpAny _ _ (if(Value.ref t == Value.none)=true then _ else _) _ _ s
 rw[if_neg (show ¬((Value.ref t == Value.none)=true)from Bool.false_ne_true)]
 show wpAny _ _ (field (.ref it) 1>>=_) _ _ s
 refine wpAny_bind (wpAny_field ho hd (x:=.int i 0) rfl ?_)
 show wpAny _ _ (seqItems? (.ref t)>>=_) _ _ s
 refine wpAny_bind (wpAny_seqItems hol hdl ?_)
 simp only[Int.toNat_natCast,hx]
 refine wpAny_bind (wpAny_rule (wpAny_bind (wpAny_setField ho hd (by simp) ?_)))
 show wpAny _ _ (newExc (.type "StopIteration") []>>=_) _ _ _
 refine wpAny_bind ?_
 simp only[newExc,newTuple]
 refine wpAny_bind (wpAny_newObj_type ?_ (by size_fits))
 refine wpAny_bind (m:=firstArgMember _ _) (wpAny_of_eq (a:=Value.none) (by first|rfl|(simp only[firstArgMember];rfl)) ?_)
 refine wpAny_newObj_type ?_ (by size_fits)
 simp only[raiseNew]
 refine wpAny_bind (wpAny_handled ?_)
 first|rw[show A.in1.handled=none from hh]|rw[hh]
 refine wpAny_bind (wpAny_pure (wpAny_throw ?_))
 exact hE _ _ (((Heap.SameBut.update ..).extBut.push _).push _) ⟨_,Heap.get?_push_size _ rfl,rfl⟩
theorem nxq_item{b:Bool}{it l:Addr}{i:Nat}{items:Array Value}{x:Value}{Q:Value->Shared->Prop}(hit:Itq b s.heap it l i)(hl:Isq b s.heap l items)(hx:items[i]?=some x)
  (hQ:∀h',Itq b h' it l (i+1)->Heap.SameBut it s.heap h'->Q x {s with heap:=h'}):wpAny (model prog w) A (Builtin.SmallTypes.nextOf (.ref it)) Q E s:=by
 cases b with
 |false=>exact wpAny_nextOf_list_item hit hl hx hQ
 |true=>exact tup_next_item hit hl hx hQ
theorem nxq_end{b:Bool}{it l:Addr}{i:Nat}{items:Array Value}{Q:Value->Shared->Prop}(hh:A.handled=none)(hit:Itq b s.heap it l i)(hl:Isq b s.heap l items)(hx:items[i]?=none)
  (hE:∀h' e,Heap.ExtBut it s.heap h'->(∃o,h'.get? e=some o/\o.cls=.type "StopIteration")->E (.ref e) {s with heap:=h'}):wpAny (model prog w) A (Builtin.SmallTypes.nextOf (.ref it)) Q E s:=by
 cases b with
 |false=>exact wpAny_nextOf_list_end hh hit hl hx hE
 |true=>exact tup_next_end hh hit hl hx hE
abbrev itObj(b:Bool)(l:Addr):Obj:={cls:=.type (cond b "tuple_iterator" "list_iterator"),data:=.fields #[.ref l,.int 0 0]}
theorem iterQ{b:Bool}{l:Addr}{items:Array Value}{Q:Value->Shared->Prop}(hl:Isq b s.heap l items)(hQ:Q (.ref s.heap.objs.size) {s with heap:=s.heap.push (itObj b l)}):wpAny (model prog w) A (pyIter (.ref l)) Q E s:=by
 cases b with
 |false=>exact wpAny_pyIter_list hl hQ
 |true=>exact wpAny_pyIter_tuple hl hQ
end
abbrev zq1(b1:Bool)(h:Heap)(l1:Addr):Heap:=h.push (itObj b1 l1)
abbrev zq2(b1 b2:Bool)(h:Heap)(l1 l2:Addr):Heap:=(zq1 b1 h l1).push (itObj b2 l2)
abbrev zq3(b1 b2:Bool)(h:Heap)(l1 l2:Addr):Heap:=(zq2 b1 b2 h l1 l2).push {cls:=.type "tuple",data:=.seq #[.ref h.objs.size,.ref (zq1 b1 h l1).objs.size]}
abbrev zq4(b1 b2:Bool)(h:Heap)(l1 l2:Addr):Heap:=(zq3 b1 b2 h l1 l2).push {cls:=.type "tuple",data:=.seq #[.none,.none]}
abbrev zq5(b1 b2:Bool)(h:Heap)(l1 l2:Addr):Heap:=(zq4 b1 b2 h l1 l2).push {cls:=.type "zip",data:=.fields #[.none,.bool false,.bool false,.ref (zq2 b1 b2 h l1 l2).objs.size,.ref (zq3 b1 b2 h l1 l2).objs.size]}
theorem zq_new(b1 b2:Bool)(l1 l2:Addr)(xs ys:Array Value) :
  Meets (Builtin.«zip.__new__» ⟨[.type "zip",.ref l1,.ref l2],[]⟩) (fun _ R s=>Isq b1 s.heap l1 xs/\Isq b2 s.heap l2 ys/\R (.ok (.ret (.ref (zq4 b1 b2 s.heap l1 l2).objs.size))) {s with heap:=zq5 b1 b2 s.heap l1 l2}) :=
 .of_wp fun prog w A R s h=>by
  obtain⟨hp,g,d,tk,os⟩:=s
  obtain⟨hl1,hl2,h⟩:=h
  have hsub:=sub_zip
  have hL1:Isq b1 (Shared.heap ⟨hp,g,d,tk,os⟩) l1 xs:=hl1
  have hL2:Isq b2 (Shared.heap ⟨hp.push (itObj b1 l1),g,d,tk,os⟩) l2 ys:=hl2.at fun o e=>Heap.get?_push_of_some _ e
  wp_walk using iterQ hL1,iterQ hL2
  exact⟨_,rfl,h⟩
section
variable {prog:Program}{w:World}{A:Around}{E:Value->Shared->Prop}{s:Shared}{b1 b2:Bool}
theorem it_of{b:Bool}{h:Heap}{i l:Addr}(e:h.get? i=some (itObj b l)):Itq b h i l 0:=by
 cases b with
 |false=>exact⟨_,e,rfl,rfl⟩
 |true=>exact⟨_,e,rfl,rfl⟩
theorem zq_call{l1 l2:Addr}{xs ys:Array Value}{Q:Value->Shared->Prop}(hl1:Isq b1 s.heap l1 xs)(hl2:Isq b2 s.heap l2 ys)
  (h:∀h',IsZip h' (s.heap.objs.size+4) (s.heap.objs.size+2) (s.heap.objs.size+3) .none->IsPair h' (s.heap.objs.size+2) (.ref s.heap.objs.size) (.ref (s.heap.objs.size+1)) ->
   IsPair h' (s.heap.objs.size+3) .none .none->Itq b1 h' s.heap.objs.size l1 0->Itq b2 h' (s.heap.objs.size+1) l2 0->h'.objs.size=s.heap.objs.size+5 ->
   (∀c o,s.heap.get? c=some o->h'.get? c=some o)->Q (.ref (s.heap.objs.size+4)) {s with heap:=h'}) :
  wpAny (model prog w) A (call (.type "zip") [.ref l1,.ref l2]) Q E s:=by
 refine callType_new PySem.F.called_zip (by decide) (PySem.F.typeCall_zip_2 _ _) (PySem.F.newCall_zip_2 _ _) (fun obj=>PySem.F.args_object_init_3 obj _ _) PySem.F.entry_zip_new (zq_new b1 b2 l1 l2 xs ys) ⟨hl1,hl2,?_⟩
 have z1:(zq1 b1 s.heap l1).objs.size=s.heap.objs.size+1:=Heap.size_push ..
 have z2:(zq2 b1 b2 s.heap l1 l2).objs.size=s.heap.objs.size+2:=by rw[Heap.size_push,z1]
 have z3:(zq3 b1 b2 s.heap l1 l2).objs.size=s.heap.objs.size+3:=by rw[Heap.size_push,z2]
 have z4:(zq4 b1 b2 s.heap l1 l2).objs.size=s.heap.objs.size+4:=by rw[Heap.size_push,z3]
 have z5:(zq5 b1 b2 s.heap l1 l2).objs.size=s.heap.objs.size+5:=by rw[Heap.size_push,z4]
 have up:∀{h:Heap}{c:Addr}{o:Obj}(x:Obj),h.get? c=some o->(h.push x).get? c=some o:=fun x e=>Heap.get?_push_of_some _ e
 have g5:(zq5 b1 b2 s.heap l1 l2).get? (zq4 b1 b2 s.heap l1 l2).objs.size=some _:=Heap.get?_push_size _ rfl
 have g4:(zq5 b1 b2 s.heap l1 l2).get? (zq3 b1 b2 s.heap l1 l2).objs.size=some _:=up _ (Heap.get?_push_size _ rfl)
 have g3:(zq5 b1 b2 s.heap l1 l2).get? (zq2 b1 b2 s.heap l1 l2).objs.size=some _:=up _ (up _ (Heap.get?_push_size _ rfl))
 have g2:(zq5 b1 b2 s.heap l1 l2).get? (zq1 b1 s.heap l1).objs.size=some (itObj b2 l2):=up _ (up _ (up _ (Heap.get?_push_size _ rfl)))
 have g1:(zq5 b1 b2 s.heap l1 l2).get? s.heap.objs.size=some (itObj b1 l1):=up _ (up _ (up _ (up _ (Heap.get?_push_size _ rfl))))
 show _/\_
 rw[z2,z3,z4]at g5
 rw[z1,z2]at g3
 rw[z3]at g4
 rw[z1]at g2
 rw[z4]
 exact⟨⟨_,g5,rfl⟩,h _ g5 g3 g4 (it_of g1) (it_of g2) z5 fun c o x=>up _ (up _ (up _ (up _ (up _ x))))⟩
theorem zq_item{z TI TO i1 i2 l1 l2:Addr}{k1 k2:Nat}{xs ys:Array Value}{x y a b:Value}{Q:Option Value->Shared->Prop}(D:ZipApart z TI TO i1 i2 l1 l2)(hz:IsZip s.heap z TI TO .none)(hTI:IsPair s.heap TI (.ref i1) (.ref i2))(hTO:IsPair s.heap TO a b)
  (h1:Itq b1 s.heap i1 l1 k1) (h2:Itq b2 s.heap i2 l2 k2) (hl1:Isq b1 s.heap l1 xs) (hl2:Isq b2 s.heap l2 ys) (hx:xs[k1]?=some x) (hy:ys[k2]?=some y)
  (hQ:∀h',IsZip h' z TI TO (rawInt s.heap.objs.size)->IsPair h' TO x y->Itq b1 h' i1 l1 (k1+1)->Itq b2 h' i2 l2 (k2+1)->IsPair h' s.heap.objs.size x y->h'.objs.size=s.heap.objs.size+1 ->
   (∀c o,c≠z->c≠TO->c≠i1->c≠i2->s.heap.get? c=some o->h'.get? c=some o)->Q (some (.ref s.heap.objs.size)) {s with heap:=h'}) :
  wpAny (model prog w) A (pyNext (.ref z)) Q E s:=by
 have hTy:s.TypeIs (.ref z) "zip":=⟨_,hz,rfl⟩
 unfold pyNext
 refine wpAny_bind (wpAny_attempt (wpAny_callSpecial?_slot (name:=Str.ofString "__next__") hTy PySem.F.slot_zip_next (wpAny_call_entry PySem.F.slot_zip_next hTy PySem.F.entry_zip_next ?_ (PySem.F.args_zip_next_1 _))))
 show wpAny _ _ (field (.ref z) 2>>=_) _ _ _
 refine wpAny_bind (wpAny_field hz rfl (x:=.bool false) rfl ?_)
 show wpAny _ _ (field (.ref z) 3>>=_) _ _ _
 refine wpAny_bind (wpAny_field hz rfl (x:=.ref TI) rfl (wpAny_bind (wpAny_seqItems hTI rfl ?_)))
 show wpAny _ _ (Builtin.SmallTypes.ownedTupleIsFree (.ref z)>>=_) _ _ _
 refine wpAny_bind ?_
 unfold Builtin.SmallTypes.ownedTupleIsFree
 refine wpAny_bind (wpAny_field hz rfl (x:=.none) rfl (wpAny_pure ?_))
 simp only[if_true]
 refine wpAny_bind (wpAny_rule (wpAny_bind (wpAny_field hz rfl (x:=.ref TO) rfl ?_)))
 refine wpAny_bind (wpAny_setField_rec hz (by simp) fun h₁ hz₁ hs₁=>?_)
 replace hz₁:IsZip h₁ z TI TO .ellipsis:=hz₁
 refine wpAny_bind ?_
 simp only[List.zipIdx_cons,List.zipIdx_nil,List.forIn_cons,List.forIn_nil]
 refine wpAny_bind (wpAny_bind (wpAny_onRaise ?_))
 show wpAny _ _ (Builtin.SmallTypes.nextOf (.ref i1)>>=_) _ _ _
 refine wpAny_bind (nxq_item (h1.extBut hs₁.extBut D.i1z) (hl1.extBut hs₁.extBut D.l1z) hx fun h₂ h1₂ hs₂=>wpAny_pure ?_)
 have hTO₂:IsPair h₂ TO a b:=hs₂.extBut _ _ D.TOi1 (hs₁.extBut _ _ D.TOz hTO)
 refine wpAny_bind (wpAny_seqItems hTO₂ rfl (wpAny_bind (wpAny_updateSeq_pair hTO₂ fun h₃ hTO₃ hs₃=>?_)))
 replace hTO₃:IsPair h₃ TO x b:=hTO₃
 refine wpAny_bind (wpAny_letGo (wpAny_pure ?_))
 refine wpAny_bind (wpAny_bind (wpAny_onRaise ?_))
 show wpAny _ _ (Builtin.SmallTypes.nextOf (.ref i2)>>=_) _ _ _
 refine wpAny_bind (nxq_item (((h2.extBut hs₁.extBut D.i2z).extBut hs₂.extBut D.i12.symm).extBut hs₃.extBut D.TOi2.symm) (((hl2.extBut hs₁.extBut D.l2z).extBut hs₂.extBut D.l2i1).extBut hs₃.extBut D.l2TO) hy fun h₄ h2₄ hs₄=>wpAny_pure ?_)
 have hTO₄:IsPair h₄ TO x b:=hs₄.extBut _ _ D.TOi2 hTO₃
 refine wpAny_bind (wpAny_seqItems hTO₄ rfl (wpAny_bind (wpAny_updateSeq_pair hTO₄ fun h₅ hTO₅ hs₅=>?_)))
 replace hTO₅:IsPair h₅ TO x y:=hTO₅
 refine wpAny_bind (wpAny_letGo (wpAny_pure (wpAny_pure (wpAny_bind (wpAny_seqItems hTO₅ rfl (wpAny_bind (wpAny_newTuple ?_)))))))
 have hsz:h₅.objs.size=s.heap.objs.size:=by rw[hs₅.1,hs₄.1,hs₃.1,hs₂.1,hs₁.1]
 have hz₅:IsZip h₅ z TI TO .ellipsis:=hs₅.extBut _ _ D.TOz.symm (hs₄.extBut _ _ D.i2z.symm (hs₃.extBut _ _ D.TOz.symm (hs₂.extBut _ _ D.i1z.symm hz₁)))
 have hk₅:∀c o,c≠z->c≠TO->c≠i1->c≠i2->s.heap.get? c=some o->h₅.get? c=some o:=fun c o c1 c2 c3 c4 e=>hs₅.extBut _ _ c2 (hs₄.extBut _ _ c4 (hs₃.extBut _ _ c2 (hs₂.extBut _ _ c3 (hs₁.extBut _ _ c1 e))))
 have h1₅:Itq b1 h₅ i1 l1 (k1+1):=((h1₂.extBut hs₃.extBut D.TOi1.symm).extBut hs₄.extBut D.i12).extBut hs₅.extBut D.TOi1.symm
 have h2₅:Itq b2 h₅ i2 l2 (k2+1):=h2₄.extBut hs₅.extBut D.TOi2.symm
 have hzlt:z<h₅.objs.size:=Heap.lt_size hz₅
 show wpAny _ _ (Builtin.SmallTypes.ownedTupleHandOut (.ref z) (.ref h₅.objs.size)>>=_) _ _ _
 refine wpAny_bind ?_
 unfold Builtin.SmallTypes.ownedTupleHandOut
 have hz₆:IsZip (h₅.push {cls:=.type "tuple",data:=.seq #[x,y]}) z TI TO .ellipsis:=Heap.get?_push_of_some _ hz₅
 refine wpAny_bind (wpAny_setField_rec hz₆ (by simp) fun h₇ hz₇ hs₇=>?_)
 replace hz₇:IsZip h₇ z TI TO (rawInt h₅.objs.size):=hz₇
 refine wpAny_setField_rec hz₇ (by simp) fun h₈ hz₈ hs₈=>?_
 replace hz₈:IsZip h₈ z TI TO (rawInt h₅.objs.size):=hz₈
 have up:∀c o,c≠z->h₅.get? c=some o->h₈.get? c=some o:=fun c o c1 e=>hs₈.extBut _ _ c1 (hs₇.extBut _ _ c1 (Heap.get?_push_of_some _ e))
 have hT₈:IsPair h₈ h₅.objs.size x y:=hs₈.extBut _ _ (Nat.ne_of_gt hzlt) (hs₇.extBut _ _ (Nat.ne_of_gt hzlt) (Heap.get?_push_size _ rfl))
 have hz8:h₈.objs.size=h₅.objs.size+1:=by rw[hs₈.1,hs₇.1,Heap.size_push]
 rw[hsz]at hz₈ hT₈ hz8
 refine wpAny_pure ⟨_,rfl,wpAny_pure ?_⟩
 show Q (some (.ref h₅.objs.size)) _
 rw[hsz]
 exact hQ h₈ hz₈ (up _ _ D.TOz hTO₅) (h1₅.at fun o e=>up _ o D.i1z e) (h2₅.at fun o e=>up _ o D.i2z e) hT₈ hz8 fun c o c1 c2 c3 c4 e=>up c o c1 (hk₅ c o c1 c2 c3 c4 e)
theorem zq_end{z TI TO i1 i2 l1 l2:Addr}{k1 k2:Nat}{xs ys:Array Value}{a b:Value}{Q:Option Value->Shared->Prop}(hh:A.handled=none)(D:ZipApart z TI TO i1 i2 l1 l2)(hz:IsZip s.heap z TI TO .none)(hTI:IsPair s.heap TI (.ref i1) (.ref i2))(hTO:IsPair s.heap TO a b)
  (h1:Itq b1 s.heap i1 l1 k1) (h2:Itq b2 s.heap i2 l2 k2) (hl1:Isq b1 s.heap l1 xs) (hl2:Isq b2 s.heap l2 ys) (hend:xs[k1]?=none\/ys[k2]?=none)
  (hQ:∀h',(∀c o,c≠z->c≠TO->c≠i1->c≠i2->s.heap.get? c=some o->h'.get? c=some o)->Q none {s with heap:=h'}):wpAny (model prog w) A (pyNext (.ref z)) Q E s:=by
 have hTy:s.TypeIs (.ref z) "zip":=⟨_,hz,rfl⟩
 have stop:∀(h':Heap) (e:Addr),(∀c o,c≠z->c≠TO->c≠i1->c≠i2->s.heap.get? c=some o->h'.get? c=some o)->(∃o,h'.get? e=some o/\o.cls=.type "StopIteration") ->
   wpAny (model prog w) A (do if(←isInstance (.ref e) (.type "StopIteration"))then pure none else throw (.ref e)) Q E {s with heap:=h'}:=fun h' e hk ⟨o,ho,hc⟩ =>
  wpAny_bind (wpAny_isInstance (T:="StopIteration") (b:=true) ⟨o,ho,hc⟩ isSubtype_stop (wpAny_pure (hQ _ hk)))
 unfold pyNext
 refine wpAny_bind (wpAny_attempt (wpAny_callSpecial?_slot (name:=Str.ofString "__next__") hTy PySem.F.slot_zip_next (wpAny_call_entry PySem.F.slot_zip_next hTy PySem.F.entry_zip_next ?_ (PySem.F.args_zip_next_1 _))))
 show wpAny _ _ (field (.ref z) 2>>=_) _ _ _
 refine wpAny_bind (wpAny_field hz rfl (x:=.bool false) rfl ?_)
 show wpAny _ _ (field (.ref z) 3>>=_) _ _ _
 refine wpAny_bind (wpAny_field hz rfl (x:=.ref TI) rfl (wpAny_bind (wpAny_seqItems hTI rfl ?_)))
 show wpAny _ _ (Builtin.SmallTypes.ownedTupleIsFree (.ref z)>>=_) _ _ _
 refine wpAny_bind ?_
 unfold Builtin.SmallTypes.ownedTupleIsFree
 refine wpAny_bind (wpAny_field hz rfl (x:=.none) rfl (wpAny_pure ?_))
 simp only[if_true]
 refine wpAny_bind (wpAny_rule (wpAny_bind (wpAny_field hz rfl (x:=.ref TO) rfl ?_)))
 refine wpAny_bind (wpAny_setField_rec hz (by simp) fun h₁ hz₁ hs₁=>?_)
 replace hz₁:IsZip h₁ z TI TO .ellipsis:=hz₁
 refine wpAny_bind ?_
 simp only[List.zipIdx_cons,List.zipIdx_nil,List.forIn_cons,List.forIn_nil]
 refine wpAny_bind (wpAny_bind (wpAny_onRaise ?_))
 show wpAny _ _ (Builtin.SmallTypes.nextOf (.ref i1)>>=_) _ _ _
 cases hx:xs[k1]? with
 |none =>
  refine wpAny_bind (nxq_end hh (h1.extBut hs₁.extBut D.i1z) (hl1.extBut hs₁.extBut D.l1z) hx fun h₂ e hs₂ he=>?_)
  obtain⟨oe,hoe,hce⟩:=he
  have hz₂:IsZip h₂ z TI TO .ellipsis:=hs₂ _ _ D.i1z.symm hz₁
  have hez:e≠z:=fun x=>by subst x;rw[hz₂]at hoe;cases hoe;simp at hce
  exact wpAny_setField_rec hz₂ (by simp) fun h₃ _ hs₃=>stop h₃ e (fun c o c1 _ c3 _ x=>hs₃.extBut _ _ c1 (hs₂ _ _ c3 (hs₁.extBut _ _ c1 x))) ⟨oe,hs₃.extBut _ _ hez hoe,hce⟩
 |some x =>
  have hy:ys[k2]?=none:=by
   rcases hend with h|h
   ·rw[hx]at h;cases h
   ·exact h
  refine wpAny_bind (nxq_item (h1.extBut hs₁.extBut D.i1z) (hl1.extBut hs₁.extBut D.l1z) hx fun h₂ h1₂ hs₂=>wpAny_pure ?_)
  have hTO₂:IsPair h₂ TO a b:=hs₂.extBut _ _ D.TOi1 (hs₁.extBut _ _ D.TOz hTO)
  refine wpAny_bind (wpAny_seqItems hTO₂ rfl (wpAny_bind (wpAny_updateSeq_pair hTO₂ fun h₃ hTO₃ hs₃=>?_)))
  refine wpAny_bind (wpAny_letGo (wpAny_pure ?_))
  refine wpAny_bind (wpAny_bind (wpAny_onRaise ?_))
  show wpAny _ _ (Builtin.SmallTypes.nextOf (.ref i2)>>=_) _ _ _
  refine wpAny_bind (nxq_end hh (((h2.extBut hs₁.extBut D.i2z).extBut hs₂.extBut D.i12.symm).extBut hs₃.extBut D.TOi2.symm) (((hl2.extBut hs₁.extBut D.l2z).extBut hs₂.extBut D.l2i1).extBut hs₃.extBut D.l2TO) hy fun h₄ e hs₄ he=>?_)
  obtain⟨oe,hoe,hce⟩:=he
  have hz₄:IsZip h₄ z TI TO .ellipsis:=hs₄ _ _ D.i2z.symm (hs₃.extBut _ _ D.TOz.symm (hs₂.extBut _ _ D.i1z.symm hz₁))
  have hez:e≠z:=fun x=>by subst x;rw[hz₄]at hoe;cases hoe;simp at hce
  exact wpAny_setField_rec hz₄ (by simp) fun h₅ _ hs₅=>stop h₅ e (fun c o c1 c2 c3 c4 x=>hs₅.extBut _ _ c1 (hs₄ _ _ c4 (hs₃.extBut _ _ c2 (hs₂.extBut _ _ c3 (hs₁.extBut _ _ c1 x))))) ⟨oe,hs₅.extBut _ _ hez hoe,hce⟩
end
section
variable {prog:Program}{w:World}{A:Around}{E:Value->Shared->Prop}{s:Shared}{b1 b2:Bool}
end
section
variable {prog:Program}{w:World}{A:Around}{R:Result->Shared->Prop}{s:Shared}{b1 b2:Bool}
end
section
variable {prog:Program}{w:World}{A:Around}{E:Value->Shared->Prop}{s:Shared}{b1 b2:Bool}
end
def SqB(K:PySem.W.Frag)(b:Bool)(H:Hp)(p:Addr)(xs:List V):Prop:=match b with|false=>SqL K H p xs|true=>SqT K H p xs
section
variable {X:Cx}{a b:Expr}{t:TA}{p1 p2 p3 p4:Pos}
theorem isq_of{c:Bool}{pins:List (Addr×Obj)}{σ:St}{H:Hp}{s:Shared}{p:Addr}{xs:List V}(I:Inv X pins σ H s)(h:SqB X.K c H p xs):∃its:List Value,Vals xs its/\Isq c s.heap p its.toArray/\xs.length<=sizeLine:=by
 cases c with
 |false =>
  obtain⟨its,rv,pl,hz⟩:=I.list h
  exact⟨its,rv,pl.isList,hz⟩
 |true =>
  obtain⟨its,rv,pl,hz⟩:=I.tuple h
  exact⟨its,rv,(show Heap.IsTuple _ _ _ by obtain⟨o,e,r⟩:=pl;exact⟨o,e,r⟩),hz⟩
end
section
variable {X:Cx}{pins:List (Addr×Obj)}{σ:St}{H:Hp}{s:Shared}{h':Heap}
theorem Inv.turnedL{t':Nat}{fp:List Addr}(I:Inv X pins σ H s)(hf:∀b∈fp,FpOk X pins H b)(k:∀b o,b∉fp->s.heap.get? b=some o->h'.get? b=some o):Inv X pins σ H {s with heap:=h',toks:=t'}:=by
 have nit:∀b u,H b=some u->b∉fp:=fun b u e z=>by rw[(hf b z).1]at e;cases e
 have hL:X.env.locals∉fp:=fun z=>(hf _ z).2.1 rfl
 refine I.step (g':=s.gens) (d':=s.drawn) (ch:=fp) (fun b hb=>?_) (fun b o _ _ hc e _=>k b o hc e) (fun b o _ _ hc e _=>⟨o.slots,k b o hc e⟩) (fun _ _ _ _ n=>n)
  (fun b o hc e=>⟨o,k b o hc e⟩) (fun _ _ e=>e) (fun _ _ _ e=>e) (fun b ps e=>⟨#[],by rw[e];simp⟩) (fun m hm=>?_) (fun b u e=>?_) I.bare
 ·obtain⟨_,f1,_,f3,f4,f5⟩:=hf b hb
  exact⟨f3,f1,f4,f5⟩
 ·obtain⟨o,es,ep,ho,r⟩:=hm
  exact⟨o,es,ep,k _ o hL ho,r⟩
 ·refine(I.hok b u e).stay (fun c v hc q=>k c v ?_ q) (fun _ q=>q) fun _ _ q=>q
  rcases hc with z|z
  ·rw[z];exact nit b u e
  ·exact nit c _ z
theorem Inv.turnedN{t':Nat}{fp:List Addr}{a:Addr}{o:HO}(I:Inv X pins σ H s)(hf:∀b∈fp,FpOk X pins H b)(k:∀b o,b∉fp->s.heap.get? b=some o->h'.get? b=some o)(ha:s.heap.objs.size<=a)(new:ObjOk X.prog X.w (upd H a o) h' a o) :
  Inv X pins σ (upd H a o) {s with heap:=h',toks:=t'}:=by
 have nit:∀b u,H b=some u->b∉fp:=fun b u e z=>by rw[(hf b z).1]at e;cases e
 have hL:X.env.locals∉fp:=fun z=>(hf _ z).2.1 rfl
 have hn:H a=none:=I.hok.fresh ha
 have up:∀b u,H b=some u->upd H a o b=some u:=fun b u e=>by rw[upd_ne (ne_of_none e hn)];exact e
 refine I.step (g':=s.gens) (d':=s.drawn) (ch:=fp) (fun b hb=>?_) (fun b o _ _ hc e _=>k b o hc e) (fun b o _ _ hc e _=>⟨o.slots,k b o hc e⟩) (fun b ob _ e n=>?_)
  (fun b o hc e=>⟨o,k b o hc e⟩) (fun b _ e=>up b _ e) (fun b _ _ e=>up b _ e) (fun b ps e=>⟨#[],by rw[up b _ e];simp⟩) (fun m hm=>?_) (fun b u e=>?_) I.bare
 ·obtain⟨_,f1,_,f3,f4,f5⟩:=hf b hb
  exact⟨f3,f1,f4,f5⟩
 ·rw[upd_ne (Nat.ne_of_lt (Nat.lt_of_lt_of_le (Heap.lt_size e) ha))];exact n
 ·obtain⟨o,es,ep,ho,r⟩:=hm
  exact⟨o,es,ep,k _ o hL ho,r⟩
 ·by_cases hb:b=a
  ·subst hb;rw[upd_same]at e;cases e;exact new
  ·rw[upd_ne hb]at e
   refine(I.hok b u e).stay (fun c v hc q=>k c v ?_ q) (fun c q=>up c _ q) fun c _ q=>up c _ q
   rcases hc with z|z
   ·rw[z];exact nit b u e
   ·exact nit c _ z
end
def Itz (K : PySem.W.Frag) (b1 : Bool) (l1 : Addr) (b2 : Bool) (l2 : Addr) : It :=
  ⟨fun i H => ∃ xs ys x y, SqB K b1 H l1 xs ∧ SqB K b2 H l2 ys ∧ xs[i]? = some x ∧ ys[i]? = some y,
   fun i H v H' => ∃ p x y, H p = none ∧ v = .ref p ∧ H' = upd H p (.tup [x, y]) ∧ (∀ xs, SqB K b1 H l1 xs → xs[i]? = some x) ∧ ∀ ys, SqB K b2 H l2 ys → ys[i]? = some y,
   fun i H => ∃ xs ys, SqB K b1 H l1 xs ∧ SqB K b2 H l2 ys ∧ (xs.length ≤ i ∨ ys.length ≤ i)⟩
theorem SqB.inj{X:Cx}{pins:List (Addr×Obj)}{σ:St}{H:Hp}{s:Shared}{b:Bool}{a:Addr}{xs ys:List V}(I:Inv X pins σ H s)(h:SqB X.K b H a xs)(h2:SqB X.K b H a ys):xs=ys:=by
 cases b with
 |false=>exact I.list_inj h h2
 |true=>exact I.tuple_inj h h2
theorem turn_zip{P:Program}{w:World}{K:PySem.W.Frag}{elts:List Expr}{x1:Nat}{pos:Pos}{b1 b2:Bool}(z TI TO i1 i2 l1 l2:Addr)(D:ZipApart z TI TO i1 i2 l1 l2):Turn P w K (.Tuple elts x1 pos) (Itz K b1 l1 b2 l2) [z,TI,TO,i1,i2] z
  (fun i h=>IsZip h z TI TO .none/\IsPair h TI (.ref i1) (.ref i2)/\(∃a b,IsPair h TO a b)/\Itq b1 h i1 l1 i/\Itq b2 h i2 l2 i) where
 mem:=by simp
 obj:=fun i h st b hb=>by
  obtain⟨hz,hTI,⟨a,c,hTO⟩,h1,h2⟩:=st
  have itc:∀{b:Bool}{i l:Addr}{k:Nat},Itq b h i l k->∃o,h.get? i=some o/\∀v,o.data≠.cell v:=fun{b i l k} q=>by
   cases b with
   |false=>obtain⟨o,e,_,d⟩:=(show h.IsListIter i l k from q);exact⟨o,e,fun v z=>by rw[d]at z;cases z⟩
   |true=>obtain⟨o,e,_,d⟩:=(show h.IsTupleIter i l k from q);exact⟨o,e,fun v z=>by rw[d]at z;cases z⟩
  simp only[List.mem_cons,List.not_mem_nil,or_false]at hb
  rcases hb with rfl|rfl|rfl|rfl|rfl
  ·exact⟨_,hz,fun v z=>by cases z⟩
  ·exact⟨_,hTI,fun v z=>by cases z⟩
  ·exact⟨_,hTO,fun v z=>by cases z⟩
  ·exact itc h1
  ·exact itc h2
 keep:=fun i h h' st k=>by
  obtain⟨hz,hTI,⟨a,c,hTO⟩,h1,h2⟩:=st
  exact⟨k z (by simp) _ hz,k TI (by simp) _ hTI,⟨a,c,k TO (by simp) _ hTO⟩,h1.at fun o e=>k i1 (by simp) o e,h2.at fun o e=>k i2 (by simp) o e⟩
 item:=by
  intro X hP hw hK hc i pins s σ H E I hf st hg
  subst hP hw hK
  obtain⟨xs,ys,x,y,hq1,hq2,hx,hy⟩:=hg
  obtain⟨hz,hTI,⟨a,c,hTO⟩,h1,h2⟩:=st
  obtain⟨its,rv,p1,_⟩:=isq_of I hq1
  obtain⟨jts,rw',p2,_⟩:=isq_of I hq2
  obtain⟨u,hu,ru⟩:=rv.get hx
  obtain⟨v,hv,rv2⟩:=rw'.get hy
  refine zq_item D hz hTI hTO h1 h2 p1 p2 (x:=u) (y:=v) (by simpa using hu) (by simpa using hv) fun h' a1 a2 a3 a4 a5 a6 hk=>?_
  refine⟨.ref s.heap.objs.size,rfl,wpAny_letOwnedTupleGo_zip (s:={s with heap:=h'}) a1 fun h2' hz' hs'=>?_⟩
  have np:∀b∈[z,TI,TO,i1,i2],b≠s.heap.objs.size:=fun b hb e=>by
   obtain⟨o,e2⟩:∃o,s.heap.get? b=some o:=by
    simp only[List.mem_cons,List.not_mem_nil,or_false]at hb
    rcases hb with rfl|rfl|rfl|rfl|rfl
    ·exact⟨_,hz⟩
    ·exact⟨_,hTI⟩
    ·exact⟨_,hTO⟩
    ·exact h1.got
    ·exact h2.got
   have:=Heap.lt_size e2
   rw[e]at this
   exact Nat.lt_irrefl _ this
  have kk:∀b o,b∉[z,TI,TO,i1,i2]->s.heap.get? b=some o->h2'.get? b=some o:=fun b o hb e=>by
   simp only[List.mem_cons,List.not_mem_nil,or_false,not_or]at hb
   obtain⟨n1,n2,n3,n4,n5⟩:=hb
   exact hs'.extBut _ _ n1 (hk b o n1 n3 n4 n5 e)
  have a5':IsPair h2' s.heap.objs.size u v:=hs'.extBut _ _ (np z (by simp)).symm a5
  refine⟨.ref s.heap.objs.size,upd H s.heap.objs.size (.tup [x,y]),I.turnedN (t':=s.toks) hf kk (Nat.le_refl _) ⟨(by show 2<=sizeLine;decide),_,.cons ru (.cons rv2 .nil),⟨_,a5',rfl,_,rfl⟩,_,a5',rfl⟩,rfl,
   ⟨_,x,y,I.hok.fresh (Nat.le_refl _),rfl,rfl,fun zs hz2=>by rw[SqB.inj I hz2 hq1];exact hx,fun zs hz2=>by rw[SqB.inj I hz2 hq2];exact hy⟩,?_,fun b hb=>?_⟩
  ·exact⟨hz',hs'.extBut _ _ D.TIz (hk TI _ D.TIz D.TITO D.TIi1 D.TIi2 hTI),⟨u,v,hs'.extBut _ _ D.TOz a2⟩,a3.extBut hs'.extBut D.i1z,a4.extBut hs'.extBut D.i2z⟩
  ·rw[upd_ne (np b hb)];exact(hf b hb).1
 done:=by
  intro X hP hw hK hc i pins s σ H E I hf st hg
  subst hP hw hK
  obtain⟨xs,ys,hq1,hq2,hl⟩:=hg
  obtain⟨hz,hTI,⟨a,c,hTO⟩,h1,h2⟩:=st
  obtain⟨its,rv,p1,_⟩:=isq_of I hq1
  obtain⟨jts,rw',p2,_⟩:=isq_of I hq2
  have e1:=rv.length
  have e2:=rw'.length
  refine zq_end (I.ok.hd hc) D hz hTI hTO h1 h2 p1 p2 ?_ fun h' hk=>⟨rfl,I.turnedL (t':=s.toks) hf fun b o hb e=>?_⟩
  ·rcases hl with hl|hl
   ·left;simp;omega
   ·right;simp;omega
  ·simp only[List.mem_cons,List.not_mem_nil,or_false,not_or]at hb
   exact hk b o hb.1 hb.2.2.1 hb.2.2.2.1 hb.2.2.2.2 e
 self:=fun _ _ _ _ _ st h=>wpAny_pyIter_zip st.1 h
def iZip(K:PySem.W.Frag)(t:TA):TI:=fun σ H R=>t σ H fun vs H2=>∃b1 b2 p q xs ys,vs=[.ref p,.ref q]/\SqB K b1 H2 p xs/\SqB K b2 H2 q ys/\R (Itz K b1 p b2 q) H2
theorem pi_zip{X:Cx}{a b:Expr}{t:TA}{p1 p2 pos:Pos}{elts:List Expr}{x1:Nat}(K:PySem.W.Frag)(hK:X.K=K)(hg:Gl X "zip")(hm:X.mg "zip"=none)(ha:PA X [a,b] t)
  (he:starEach [a,b] X.env=(false,eval a X.env)::starEach [b] X.env:=by rfl) (hpl:(backTo p2 (starEach [b] X.env)).any (·.1)=false:=by rfl):PI X (.Tuple elts x1 pos) (.Call (.Name "zip" p1) [a,b] [] p2) (iZip K t):=by
 subst hK
 intro pins s σ H R I h
 refine wpAny_Call_Name_kw (ld_blt I hg hm boot_zip ?_ (by decide) (by decide))
 refine PyProof.Rows.callWith_type1 ?_ he hpl
 refine thn (ha p2 pins s σ H _ I h) fun us s1 ⟨vs,H1,I1,r1,q1⟩=>?_
 obtain⟨c1,c2,p,q,xs,ys,rfl,hx,hy,hq⟩:=q1
 obtain⟨u,w',rfl,r1,r2⟩:=vals2 r1
 cases r1
 cases r2
 obtain⟨its,rv,pl,_⟩:=isq_of I1 hx
 obtain⟨jts,rw',pm,_⟩:=isq_of I1 hy
 have lt1:@LT.lt Nat _ p s1.heap.objs.size:=by obtain⟨_,e⟩:=pl.got;exact Heap.lt_size e
 have lt2:@LT.lt Nat _ q s1.heap.objs.size:=by obtain⟨_,e⟩:=pm.got;exact Heap.lt_size e
 refine zq_call pl pm fun g hz hTI hTO h1 h2 hsz hk=>?_
 have D:ZipApart (s1.heap.objs.size+4) (s1.heap.objs.size+2) (s1.heap.objs.size+3) s1.heap.objs.size (s1.heap.objs.size+1) p q:=by
  refine⟨?_,?_,?_,?_,?_,?_,?_,?_,?_,?_,?_,?_,?_,?_,?_,?_,?_,?_⟩<;>(show @Ne Nat _ _;omega)
 refine wpAny_pyIter_zip (s:={s1 with heap:=g}) hz ?_
 refine⟨s1.heap.objs.size+4,[s1.heap.objs.size+4,s1.heap.objs.size+2,s1.heap.objs.size+3,s1.heap.objs.size,s1.heap.objs.size+1],_,_,H1,rfl,I1.kept (t':=s1.toks) hk,turn_zip _ _ _ _ _ p q D,⟨hz,hTI,⟨_,_,hTO⟩,h1,h2⟩,fun b hb=>?_,hq⟩
 have hb':s1.heap.objs.size<=b:=by
  simp only[List.mem_cons,List.not_mem_nil,or_false]at hb
  rcases hb with rfl|rfl|rfl|rfl|rfl
  ·exact Nat.le_add_right _ 4
  ·exact Nat.le_add_right _ 2
  ·exact Nat.le_add_right _ 3
  ·exact Nat.le_refl _
  ·exact Nat.le_add_right _ 1
 exact I1.fpOk hb' (I1.hok.fresh hb')
section
variable {g:TG}{tt:TT}{te:TE}{Q:VK}{σ0:St}{H0:Hp}
theorem comp_zip{K:PySem.W.Frag}{b1 b2:Bool}{a b:Addr}{xs ys:List V}(Pv:Nat->St->List V->Hp->Prop)(h0:Pv 0 σ0 [] H0)(hlen:∀i σ vs H,i<=min xs.length ys.length->Pv i σ vs H->vs.length<=i)(hn:min xs.length ys.length<=sizeLine)
  (hl1:∀i σ vs H,i<=min xs.length ys.length->Pv i σ vs H->SqB K b1 H a xs) (hl2:∀i σ vs H,i<=min xs.length ys.length->Pv i σ vs H->SqB K b2 H b ys)
  (hs:∀i x y σ vs H p,xs[i]?=some x->ys[i]?=some y->Pv i σ vs H->H p=none->g (.ref p) σ (upd H p (.tup [x,y])) fun σ2 H2=>tt σ2 H2 fun ok H3=>if ok=true then te σ2 H3 fun v H4=>Pv (i+1) σ2 (vs++[v]) H4 else Pv (i+1) σ2 vs H3)
  (hd:∀σ vs H,Pv (min xs.length ys.length) σ vs H->∀p,H p=none->Q (.ref p) (upd H p (.lst vs))):CompW (Itz K b1 a b2 b) g tt te Q σ0 H0:=by
 refine comp_by (min xs.length ys.length) Pv h0 hlen hn (fun i σ vs H hi p=>?_) (fun σ vs H p=>⟨xs,ys,hl1 _ σ vs H (Nat.le_refl _) p,hl2 _ σ vs H (Nat.le_refl _) p,by omega⟩) (fun i σ vs H x H' hi p y=>?_) hd
 ·have k1:i<xs.length:=by omega
  have k2:i<ys.length:=by omega
  exact⟨xs,ys,xs[i],ys[i],hl1 i σ vs H (Nat.le_of_lt hi) p,hl2 i σ vs H (Nat.le_of_lt hi) p,by simp[k1],by simp[k2]⟩
 ·obtain⟨pp,x',y',hp,rfl,rfl,e1,e2⟩:=y
  exact hs i x' y' σ vs H pp (e1 xs (hl1 i σ vs H (Nat.le_of_lt hi) p)) (e2 ys (hl2 i σ vs H (Nat.le_of_lt hi) p)) p hp
end
end L2
namespace L2
open PySem
theorem Same.updF{H H1:Hp}{l:Addr}(s:Same H H1)(h:H l=none)(o:HO):Same H (upd H1 l o):=fun b o' e=>by rw[upd_ne (ne_of_none e h)];exact s b o' e
structure MSt(K:PySem.W.Frag) (Ps:St->Prop) (H2:Hp) (us:List V) (ys:List T) (σ:St) (H5:Hp):Prop where
 p:Ps σ
 s:Same H2 H5
 r:Rps K H5 ys us
section
variable {K:PySem.W.Frag}{σ0:St}{H0:Hp}{g:TG}{tt:TT}{te:TE}{Q:VK}
theorem fm1_le{α β:Type}{φ:α->List β}(h1:∀p,(φ p).length<=1):∀ps:List α,(ps.flatMap φ).length<=ps.length
 | []=>Nat.zero_le _
 |x::r=>by
  rw[List.flatMap_cons,List.length_append,List.length_cons]
  have:=h1 x
  have:=fm1_le h1 r
  omega
theorem comp_mapL{α:Type}{e:α->T}{φ:α->List T}{ps:List α}{vs:List V}{a:Addr}(Ps:St->Prop)(hS:H0 a=some (.lst vs))(hr:Rps K H0 (ps.map e) vs)(hl:ps.length<=900)(h1:∀p,(φ p).length<=1)(h0:Ps σ0)
  (hs:∀p∈ps,∀x σ H2 (N:List V->St->Hp->Prop),Same H0 H2->Ps σ->Rp K H2 (e p) x->(∀us σ2 H5,MSt K Ps H2 us (φ p) σ2 H5->N us σ2 H5)->g x σ H2 fun σ2 H3=>tt σ2 H3 fun ok H4=>if ok=true then te σ2 H4 fun v H5=>N [v] σ2 H5 else N [] σ2 H4)
  (k:∀l H' ws,Same H0 H'->H0 l=none->H' l=some (.lst ws)->Rps K H' (ps.flatMap φ) ws->Q (.ref l) H'):CompW (Itl K a) g tt te Q σ0 H0:=by
 have l:=hr.length
 rw[List.length_map]at l
 refine comp_list (xs:=vs) (fun i σ us H2=>Ps σ/\Same H0 H2/\Rps K H2 ((ps.take i).flatMap φ) us) ⟨h0,Same.refl _,.nil⟩ ?_ (small (by omega)) ?_ ?_ ?_
 ·rintro i σ us H2 hi ⟨_,_,r⟩
  rw[r.length]
  exact Nat.le_trans (fm1_le h1 _) (by rw[List.length_take];exact Nat.min_le_left _ _)
 ·rintro i σ us H2 hi ⟨_,s,_⟩
  exact SqL.of (s _ _ hS)
 ·rintro i x σ us H2 hx ⟨p,s,r⟩
  obtain⟨y,hy,ry⟩:=hr.get' hx
  rw[List.getElem?_map]at hy
  obtain⟨q,hq,rfl⟩:=Option.map_eq_some_iff.mp hy
  have hil:i<ps.length:=(List.getElem?_eq_some_iff.mp hq).1
  have ep:ps[i]=q:=(List.getElem?_eq_some_iff.mp hq).2
  have z:=hs q (List.mem_of_getElem? hq) x σ H2 (fun ws σ2 H5=>Ps σ2/\Same H0 H5/\Rps K H5 ((ps.take (i+1)).flatMap φ) (us++ws)) s p (ry.same s) fun ws σ2 H5 m=>by
   refine⟨m.p,s.trans m.s,?_⟩
   rw[List.take_succ_eq_append_getElem hil,ep,List.flatMap_append]
   exact(r.same m.s).append (by rw[List.flatMap_cons,List.flatMap_nil,List.append_nil];exact m.r)
  simp only[List.append_nil]at z
  exact z
 ·rintro σ us H2 ⟨_,s,r⟩ p hp
  rw[l,List.take_length]at r
  exact k p _ us (s.trans (same_new hp _)) (s.free hp) upd_same (r.same (same_new hp _))
theorem Rps.strs_inv{H:Hp}:∀{ns:List Str}{vs:List V},Rps K H (ns.map .s) vs->vs=ns.map V.str
 | [],_,h=>h.inv0
 |n::r,_,h=>by
  obtain⟨v,us,rfl,g,h⟩:=Rps.inv (K:=K) (x:=.s n) h
  rw[g.inv_s,strs_inv h]
  rfl
end
structure Frm(M:List Addr) (f:Addr) (H H':Hp):Prop where
 oth:∀b o,b∉M->b≠f->H b=some o->H' b=some o
 kt:Kt H H'
 ff:FeedAt H' f
section
variable {M:List Addr}{f:Addr}{H H1 H2:Hp}
theorem Frm.trans(a:Frm M f H H1)(b:Frm M f H1 H2):Frm M f H H2:=⟨fun c o n1 n2 h=>b.oth c o n1 n2 (a.oth c o n1 n2 h),a.kt.trans b.kt,b.ff⟩
theorem Frm.upd{l:Addr}{us:List V}{o:HO}(a:Frm M f H H1)(hm:l∈M)(n:l≠f)(h:H1 l=some (.lst us)):Frm M f H (upd H1 l o):=⟨fun b o' n1 n2 e=>by have z:b≠l:=(fun z=>n1 (by rw[z];exact hm));rw[upd_ne z];exact a.oth b o' n1 n2 e,a.kt.trans (Kt.lst h o),let⟨p,q,e⟩:=a.ff;⟨p,q,by rw[upd_ne n.symm];exact e⟩⟩
theorem Frm.more{l:Addr}(a:Frm M f H H1):Frm (l::M) f H H1:=⟨fun b o n1 n2 h=>a.oth b o (fun z=>n1 (.tail _ z)) n2 h,a.kt,a.ff⟩
theorem Frm.ex(a:Frm [] f H H1):Ext f H H1:=⟨fun b o n h=>a.oth b o (fun z=>nomatch z) n h,a.ff⟩
theorem Frm.free(a:Frm M f H H1){p:Addr}(hp:H1 p=none)(hm:p∉M):H p=none:=by
 cases e:H p with
 |none=>rfl
 |some o =>
  by_cases c:p=f
  ·subst c;obtain⟨x,y,z⟩:=a.ff;rw[z]at hp;cases hp
  ·rw[a.oth p o hm c e]at hp;cases hp
end
theorem cut_takeL(xs:List V)(n:Nat):cutV xs none (some (n:Int))=xs.take n:=by
 unfold cutV
 rw[HT.sIx_nat,HT.sIx_none,List.drop_zero,Nat.sub_zero]
 rcases Nat.le_total n xs.length with h|h
 ·rw[Nat.min_eq_left h]
 ·rw[Nat.min_eq_right h,List.take_of_length_le (Nat.le_refl _),List.take_of_length_le h]
theorem cut_fromL(xs:List V)(j:Nat):cutV xs (some (j:Int)) none=xs.drop j:=by
 unfold cutV
 rw[HT.sIx_nat,HT.sIx_none]
 rcases Nat.le_total j xs.length with h|h
 ·rw[Nat.min_eq_left h,List.take_of_length_le (by rw[List.length_drop];omega)]
 ·rw[Nat.min_eq_right h,List.drop_of_length_le h,List.drop_of_length_le (Nat.le_refl _)];simp
end L2
namespace G07
open PySem L2
def spSort:Sp:=fun vs H Q _=>∃c:Nat,vs=[.str ⟨#[c]⟩]/\Q (.str (srt c)) H
def spWell:Sp:=fun vs H Q _=>∃(c:Cr) (d:Nat),vs=[.str (kS c d)]/\c.ok/\d<=20/\∀H',Same H H'->Q (.bl true) H'
theorem sgn_eq{c k:Nat}:(V.str ⟨#[c]⟩=V.str ⟨#[k]⟩)↔c=k:=⟨fun h=>by injection h with h;injection h with h;simpa using h,fun h=>by rw[h]⟩
theorem in_open{c:Nat}:c∈("([":Str).cps.toList↔(c=40\/c=91):=by
 rw[show("([":Str).cps.toList=[40,91] by decide +kernel]
 simp
theorem in_close{c:Nat}:c∈(")]":Str).cps.toList↔(c=41\/c=93):=by
 rw[show(")]":Str).cps.toList=[41,93] by decide +kernel]
 simp
section
variable {P:Program}{w:World}{K:PySem.W.Frag}{mg:Str->Option Value}{base:Heap}{gS:Addr}{sfd:FuncData}
theorem nm_sort_of:Nm ["sign"] (defScope s_sort_of):=by decide +kernel
theorem sc_sort_of:FnScope ["sign"] ["sign"] (defScope s_sort_of):=⟨rfl,rfl,rfl,by decide +kernel,rfl,by decide +kernel,by decide +kernel⟩
theorem ok_sort{f:Addr}{fd:FuncData}(F:Fun K "sort_of" "sort_of" s_sort_of f fd):FnOk P w K mg base CX0 1 f fd ["sign"] spSort:=by
 refine F.ok sc_sort_of (fun vs H Q E h=>?_) (fun cdv A outer s H vs Q E hr h=>?_)
 ·obtain⟨_,rfl,_⟩:=h
  rfl
 obtain⟨c,rfl,k⟩:=h
 refine⟨_,(@pss_cons _ _ _ _ _ (@ps_if _ _ _ _ _ _ _ _ (pt_cmpR op_eq (va nm_sort_of 0) pe_str (nomark _)) (pss_one (ps_ret pe_str)) pss_nil) (@pss_cons _ _ _ _ _ (@ps_if _ _ _ _ _ _ _ _ (pt_cmpR op_in_sign (va nm_sort_of 0) pe_str (by with_unfolding_all rfl)) (pss_one (ps_ret pe_str)) pss_nil) (@pss_cons _ _ _ _ _ (@ps_if _ _ _ _ _ _ _ _ (pt_cmpR op_in_sign (va nm_sort_of 0) pe_str (by with_unfolding_all rfl)) (pss_one (ps_ret pe_str)) pss_nil) (pss_one (ps_ret pe_str))))),?_⟩
 try dsimp only[cx_K]
 try dsimp only[cx_K]
 unfold srt at k
 fail "R"
 refine ite2 (fun c1=>?_) (fun c1=>?_)
 ·have e:c=32:=sgn_eq.mp (of_decide_eq_true c1)
  rw[if_pos e]at k
  fail "R"
  exact k
 have ne:¬c=32:=fun e=>c1 (decide_eq_true (sgn_eq.mpr e))
 rw[if_neg ne]at k
 fail "R"
 refine ite2 (fun c2=>?_) (fun c2=>?_)
 ·rw[if_pos (in_open.mp (of_decide_eq_true c2))]at k
  fail "R"
  exact k
 rw[if_neg (fun e=>c2 (decide_eq_true (in_open.mpr e)))]at k
 fail "R"
 refine ite2 (fun c3=>?_) (fun c3=>?_)
 ·rw[if_pos (in_close.mp (of_decide_eq_true c3))]at k
  fail "R"
  exact k
 rw[if_neg (fun e=>c3 (decide_eq_true (in_close.mpr e)))]at k
 fail "R"
 exact k
theorem nm_well_parted:Nm ["text","sorts"] (defScope s_well_parted):=by decide +kernel
theorem lm_well_parted:Lm ["text","sorts"] (defScope s_well_parted):=by decide +kernel
theorem sc_well_parted:FnScope ["text","sorts"] ["text"] (defScope s_well_parted):=⟨rfl,rfl,rfl,by decide +kernel,rfl,by decide +kernel,by decide +kernel⟩
theorem ok_well{f aF aB aS aW aE:Addr}{fd:FuncData}(F:Fun K "well_parted" "well_parted" s_well_parted f fd)(SO:Has P w K mg base "sort_of" 1 ["sign"] spSort gS sfd)(z_all:mg "all"=none)(z_zip:mg "zip"=none)(mF:mg "FOLLOWERS"=some (.ref aF))
  (dF:KD K w aF [("blank",.ref aB),("start",.ref aS),("word",.ref aW),("end",.ref aE)]) (hB:∀H,SqT K H aB (folV "blank")) (hS:∀H,SqT K H aS (folV "start")) (hW:∀H,SqT K H aW (folV "word")) (hE:∀H,SqT K H aE (folV "end")):FnOk P w K mg base CX0 2 f fd ["text"] spWell:=by
 refine F.ok sc_well_parted (fun vs H Q E h=>?_) (fun cdv A outer s H vs Q E hr h=>?_)
 ·obtain⟨_,_,rfl,_⟩:=h
  rfl
 obtain⟨c,d,rfl,hc,hd,k⟩:=h
 refine⟨_,(@pss_cons _ _ _ _ _ (@ps_compC _ _ _ _ _ _ _ _ _ _ _ _ _ _ _ (defScope s_well_parted) ["text","sorts"] ["sign"] [] rfl rfl rfl (by decide +kernel) (pi_str (pe_fB (va nm_well_parted 0))) (fun _ _ _ _=>(pg_name (i:=0) (show(["sign"]:List Str).Nodup by decide +kernel) rfl (Or.inl (by kernel_rfl)) (by first|exact .inl rfl|exact .inr (by kernel_rfl)))) (fun _ _ _ _=>pifs_nil) (fun _ _ _ _=>(@pe_call _ _ _ _ _ _ _ _ _ _ _ _ _ _ _ _ SO.ok (hr.mono (by omega)) (by show _=_;kernel_rfl) SO.at' SO.kp SO.bd .nil pass0 (pa_c (va (show Nm ["sign"] _ by show _=_;kernel_rfl) 0) pa_nil) (by decide) (by rfl) (by rfl))) (ga sc_well_parted.nd lm_well_parted 1) (by kernel_rfl) (by intro _;rfl)) (@pss_one _ _ _ (@ps_ret _ _ _ _ (@pe_callB _ _ _ _ _ _ _ _ _ (call_all rfl) (by show _=_;kernel_rfl) z_all PyProof.Rows.boot_all (@pa_c _ _ _ _ _ (@pe_compC _ _ _ _ _ _ _ _ _ _ _ (defScope s_well_parted) ["text","sorts"] ["left","right"] [] rfl rfl rfl (by decide +kernel) (pi_zip K rfl (by show _=_;kernel_rfl) z_zip (@pa_c _ _ _ _ _ (va nm_well_parted 1) (@pa_c _ _ _ _ _ (pe_slice sl_list (va nm_well_parted 1) (po_some pe_int) po_none) pa_nil (by rfl)) (by rfl))) (fun _ _ _ _=>(@pg_tupK _ _ _ _ _ (2) K rfl rfl (@pgs_cons _ _ _ _ _ (pg_name (i:=0) (show(["left","right"]:List Str).Nodup by decide +kernel) rfl (Or.inl (by kernel_rfl)) (by first|exact .inl rfl|exact .inr (by kernel_rfl))) (pgs_cons (pg_name (i:=1) (show(["left","right"]:List Str).Nodup by decide +kernel) rfl (Or.inl (by kernel_rfl)) (by first|exact .inl rfl|exact .inr (by kernel_rfl))) pgs_nil) (by rfl)) (by rfl) (by rfl))) (fun _ _ _ _=>pifs_nil) (fun _ _ _ _=>(pe_cmpR (op_in_seqK K rfl) (va (show Nm ["left","right"] _ by show _=_;kernel_rfl) 1) (pe_kgetK K w rfl rfl (pe_glob (v:=.ref aF) (by show _=_;kernel_rfl) mF rfl) (va (show Nm ["left","right"] _ by show _=_;kernel_rfl) 0) (fun _ _=>rfl)) (by with_unfolding_all rfl))) (by intro _;rfl)) pa_nil (by rfl)) (by decide) (by decide) (by rfl) (by rfl))))),?_⟩
 try dsimp only[cx_K]
 try dsimp only[cx_K]
 have hlen:=kL_len hc d
 have hl9:(kS c d).length<=200:=by rw[ofL_len];omega
 refine seq_cut ?_
 intro N1 c1
 fail "R"
 refine .inl ⟨_,rfl,by omega,(by show 1+(kS c d).length+1<=100000;omega),_,rfl,?_⟩
 have et:(" ":Str)++kS c d++(" ":Str)=ofL (32::(kL c d++[32])):=by
  show ofL [32]++ofL (kL c d)++ofL [32]=_
  rw[app_ofL,app_ofL]
  rfl
 rw[et]
 refine comp_mapS (f:=fun a=>.str (srt a)) (fun _ _ _ _=>rfl) (fun a ha H1 K1 s1 q=>?_) rfl (by show(ofL _).length<=sizeLine;rw[ofL_len];exact small (by simp;omega)) (fun p hp=>?_)
 ·fail "R"
  exact q
 rw[toList_ofL]
 generalize hL:32::(kL c d++[32])=L
 have hLl:L.length<=200:=by rw[←hL];simp;omega
 have s1:=same_new hp (.lst (L.map fun a=>V.str (srt a)))
 have h1:upd H p (.lst (L.map fun a=>V.str (srt a))) p=some (.lst (L.map fun a=>V.str (srt a))):=upd_same
 generalize upd H p (.lst (L.map fun a=>V.str (srt a)))=H1 at s1 h1⊢
 have hbs:(List.zipWith (fun a b=>folS (srt a) (srt b)) L (L.drop 1)).all id=true:=by rw[←hL];exact ad_all hc d
 have e1:cutV (L.map fun a=>V.str (srt a)) (some 1) none=(L.drop 1).map fun a=>V.str (srt a):=by rw[show(some (1:Int))=some ((1:Nat):Int)from rfl,cut_fromL,List.map_drop]
 fail "R"
 intro p2 hp2
 rw[e1]
 have s2:=same_new hp2 (.lst ((L.drop 1).map fun a=>V.str (srt a)))
 have h2:upd H1 p2 (.lst ((L.drop 1).map fun a=>V.str (srt a))) p2=some (.lst ((L.drop 1).map fun a=>V.str (srt a))):=upd_same
 have h2p:=s2 _ _ h1
 generalize upd H1 p2 (.lst ((L.drop 1).map fun a=>V.str (srt a)))=H2 at s2 h2 h2p⊢
 have hb1:SqB K false H2 p (L.map fun a=>V.str (srt a)):=SqL.of h2p
 have hb2:SqB K false H2 p2 ((L.drop 1).map fun a=>V.str (srt a)):=SqL.of h2
 have s02:=s1.trans s2
 have hm:min (L.map fun a=>V.str (srt a)).length ((L.drop 1).map fun a=>V.str (srt a)).length=(List.zipWith (fun a b=>folS (srt a) (srt b)) L (L.drop 1)).length:=by
  rw[List.length_map,List.length_map,List.length_zipWith]
 have hml:(List.zipWith (fun a b=>folS (srt a) (srt b)) L (L.drop 1)).length<=200:=by rw[List.length_zipWith];omega
 fail "R"
 refine comp_zip (K:=K) (xs:=L.map fun a=>V.str (srt a)) (ys:=(L.drop 1).map fun a=>V.str (srt a)) (fun i σ us H5=>(∃x y,σ=[x,y])/\Same H2 H5/\us=((List.zipWith (fun a b=>folS (srt a) (srt b)) L (L.drop 1)).take i).map V.bl) ⟨⟨_,_,rfl⟩,Same.refl _,rfl⟩ ?_ (small (by rw[hm];omega)) ?_ ?_ ?_ ?_
 ·rintro i σ us H5 hi ⟨_,_,rfl⟩
  rw[List.length_map,List.length_take]
  exact Nat.min_le_left _ _
 ·rintro i σ us H5 hi ⟨_,s5,_⟩
  exact SqL.of (s5 _ _ h2p)
 ·rintro i σ us H5 hi ⟨_,s5,_⟩
  exact SqL.of (s5 _ _ h2)
 ·rintro i x y σ us H5 p6 hx hy ⟨⟨_,_,rfl⟩,s5,rfl⟩ hp6
  rw[List.getElem?_map]at hx hy
  obtain⟨a6,ha6,rfl⟩:=Option.map_eq_some_iff.mp hx
  obtain⟨b6,hb6,rfl⟩:=Option.map_eq_some_iff.mp hy
  have s6:=same_new hp6 (.tup [.str (srt a6),.str (srt b6)])
  have h6:upd H5 p6 (.tup [.str (srt a6),.str (srt b6)]) p6=some (.tup [.str (srt a6),.str (srt b6)]):=upd_same
  generalize upd H5 p6 (.tup [.str (srt a6),.str (srt b6)])=H6 at s6 h6⊢
  have hz:(List.zipWith (fun a b=>folS (srt a) (srt b)) L (L.drop 1))[i]?=some (folS (srt a6) (srt b6)):=by rw[List.getElem?_zipWith,ha6,hb6]
  have hfin:((List.zipWith (fun a b=>folS (srt a) (srt b)) L (L.drop 1)).take (i+1)).map V.bl=((List.zipWith (fun a b=>folS (srt a) (srt b)) L (L.drop 1)).take i).map V.bl++[V.bl (folS (srt a6) (srt b6))]:=by
   rw[List.take_add_one,hz,List.map_append]
   rfl
  obtain⟨af,xf,hlk,hsq,hxf⟩:∃af xf,([("blank",V.ref aB),("start",.ref aS),("word",.ref aW),("end",.ref aE)]:List (Str×V)).lookup (srt a6)=some (.ref af)/\SqT K H6 af xf/\xf=folV (srt a6):=by
   unfold srt
   split
   ·exact⟨aB,_,rfl,hB _,rfl⟩
   ·split
    ·exact⟨aS,_,rfl,hS _,rfl⟩
    ·split
     ·exact⟨aE,_,rfl,hE _,rfl⟩
     ·exact⟨aW,_,rfl,hW _,rfl⟩
  subst hxf
  have hfl:(folV (srt a6)).all flatV=true:=by
   unfold srt
   split
   ·decide +kernel
   ·split
    ·decide +kernel
    ·split<;>decide +kernel
  fail "R"
  ·exact s5.trans s6
  ·exact hfin.symm
 ·rintro σ us H5 ⟨_,s5,rfl⟩ p6 hp6
  rw[hm,List.take_length]
  fail "R"
  rw[hbs]
  exact k _ ((s02.trans s5).trans (same_new hp6 _))
end
theorem opn1_len(c:Nat):(opn1 c).length<=100:=by show 2<=100;decide
theorem cls1_len(c:Nat):(cls1 c).length<=100:=by show 2<=100;decide
theorem opn1_ne(c:Nat):((⟨#[c]⟩:Str) == opn1 c)=false:=by
 apply beq_eq_false_iff_ne.mpr
 intro e
 have e2:(1:Nat)=2:=congrArg Str.length e
 cases e2
theorem cls1_ne(c:Nat):((⟨#[c]⟩:Str) == cls1 c)=false:=by
 apply beq_eq_false_iff_ne.mpr
 intro e
 have e2:(1:Nat)=2:=congrArg Str.length e
 cases e2
def wV(l:List (List Nat)):List V:=l.map fun w=>V.str (ofL w)
def spSplit:Sp:=fun vs H Q _=>∃(c:Cr) (d:Nat),vs=[.str (kS c d)]/\c.ok/\d<=20/\∀(p:Addr) (H':Hp),Same H H'->H p=none->H' p=some (.lst (wV (ws c d)))->Q (.ref p) H'
theorem wd_flat(l:List (List Nat)):(l.flatMap fun p=>if p.isEmpty then []else [T.s (ofL p)])=(l.filter fun p=>!p.isEmpty).map fun p=>T.s (ofL p):=by
 induction l with
 |nil=>rfl
 |cons p r ih =>
  rw[List.flatMap_cons,ih]
  cases p with
  |nil=>rfl
  |cons a q=>rfl
theorem Ft_len{c:Cr}(h:c.ok):∀d,(Ft c d).length<=8*d+6
 |0=>Nat.le_trans (c.len h).2 (by omega)
 |d+1=>by
  have:=Ft_len h d
  show((Ft c d++[32,41]).length+1+1+1+1+1+1)<=_
  rw[List.length_append]
  show(Ft c d).length+2+1+1+1+1+1+1<=_
  omega
theorem rps_strs{K:PySem.W.Frag}{H:Hp}:∀l:List (List Nat),Rps K H (l.map fun q=>T.s (ofL q)) (l.map (V.str ∘ ofL))
 | []=>.nil
 |_::r=>.cons .s (rps_strs r)
section
variable {P:Program}{w:World}{K:PySem.W.Frag}{mg:Str->Option Value}{base:Heap}{gS:Addr}{sfd:FuncData}
theorem nm_split_words:Nm ["text","sign"] (defScope s_split_words):=by decide +kernel
theorem sc_split_words:FnScope ["text","sign"] ["text"] (defScope s_split_words):=⟨rfl,rfl,rfl,by decide +kernel,rfl,by decide +kernel,by decide +kernel⟩
theorem ok_split{f:Addr}{fd:FuncData}(F:Fun K "split_words" "split_words" s_split_words f fd):FnOk P w K mg base CX0 1 f fd ["text"] spSplit:=by
 refine F.ok sc_split_words (fun vs H Q E h=>?_) (fun cdv A outer s H vs Q E hr h=>?_)
 ·obtain⟨_,_,rfl,_⟩:=h
  rfl
 obtain⟨c,d,rfl,hc,hd,k⟩:=h
 refine⟨_,(@pss_cons _ _ _ _ _ (ps_repl (i:=0) (j:=1) (g:=opn1) rfl sc_split_words.nd rfl rfl rfl rfl (jo_behind rfl (by decide)) opn1_len opn1_ne (by decide) (by decide +kernel)) (@pss_cons _ _ _ _ _ (ps_repl (i:=0) (j:=1) (g:=cls1) rfl sc_split_words.nd rfl rfl rfl rfl (jo_ahead rfl (by decide)) cls1_len cls1_ne (by decide) (by decide +kernel)) (@pss_one _ _ _ (@ps_ret _ _ _ _ (@pe_compC _ _ _ _ _ _ _ _ _ _ _ (defScope s_split_words) ["text","sign"] ["word"] [] rfl rfl rfl (by decide +kernel) (pi_list (by exact pe_bm PySem.F.plainAttrs_str PySem.F.slot_str_split PySem.F.type_str_split mt_split (va nm_split_words 0) (pa_c pe_str pa_nil) (hbase:=by kernel_rfl) (hfew:=by kernel_rfl) (hline:=by kernel_rfl) (hs:=by kernel_rfl) (hplain:=by kernel_rfl))) (fun _ _ _ _=>(pg_name (i:=0) (show(["word"]:List Str).Nodup by decide +kernel) rfl (Or.inl (by kernel_rfl)) (by first|exact .inl rfl|exact .inr (by kernel_rfl)))) (fun _ _ _ _=>(pifs_one (pt_truthK K rfl (va (show Nm ["word"] _ by show _=_;kernel_rfl) 0) (fun _=>rfl)))) (fun _ _ _ _=>(va (show Nm ["word"] _ by show _=_;kernel_rfl) 0)) (by intro _;rfl)))))),?_⟩
 try dsimp only[cx_K]
 try dsimp only[cx_K]
 have hlen:=kL_len hc d
 have hR1:=R1_le (kL c d)
 have hR2:=R2_le (R1 (kL c d))
 refine seq_cut2 ?_
 intro N1 N2 c1 c2
 have e1:("([":Str).cps.toList=[40,91]:=by decide +kernel
 have e2:(")]":Str).cps.toList=[41,93]:=by decide +kernel
 refine⟨kS c d,rfl,fun j=>by rw[e1];exact repl1_len (by omega) j,?_⟩
 rw[e1,repl1]
 refine c1 _ _ ?_
 refine⟨_,rfl,fun j=>by rw[e2];exact repl2_len (by omega) j,?_⟩
 rw[e2,repl2]
 refine c2 _ _ ?_
 have ew:=words_eq hc d
 have hF:=Ft_len hc d
 rw[R_eq hc]at ew⊢
 have hsl:(ofL (Ft c d)).length<=100000:=by rw[ofL_len];omega
 have esp:=split_ofL (Ft c d) 32
 have espl:(sp 32 (Ft c d)).length<=900:=by
  have:=PyProof.Rows.split_le (ofL (Ft c d)) ⟨#[32]⟩
  rw[esp,List.length_map,ofL_len]at this
  omega
 fail "R"
 intro p hp
 rw[show(" ":Str)=⟨#[32]⟩from rfl,esp,List.map_map]
 have s1:=same_new hp (.lst ((sp 32 (Ft c d)).map (V.str ∘ ofL)))
 have h1:upd H p (.lst ((sp 32 (Ft c d)).map (V.str ∘ ofL))) p=some (.lst ((sp 32 (Ft c d)).map (V.str ∘ ofL))):=upd_same
 generalize upd H p (.lst ((sp 32 (Ft c d)).map (V.str ∘ ofL)))=H1 at s1 h1⊢
 fail "R"
 refine comp_mapL (K:=K) (e:=fun q=>T.s (ofL q)) (φ:=fun q=>if q.isEmpty then []else [T.s (ofL q)]) (ps:=sp 32 (Ft c d)) (fun σ=>∃x,σ=[x]) h1 (rps_strs _) espl ?_ ⟨_,rfl⟩ ?_ ?_
 ·intro q
  cases q<;>simp
 ·rintro q hq x σ H2 N s2 ⟨y,rfl⟩ rx kN
  obtain rfl:=rx.inv_s
  have hql:(ofL q).length<=sizeLine:=by
   have hm:ofL q∈Txt.split (ofL (Ft c d)) ⟨#[32]⟩:=by rw[esp];exact List.mem_map_of_mem hq
   have:=PyProof.Rows.part_short hm
   rw[ofL_len (Ft c d)]at this
   exact small (by omega)
  refine⟨_,rfl,_,⟨hql,rfl⟩,?_⟩
  cases q with
  |nil=>exact kN [] _ _ ⟨⟨_,rfl⟩,Same.refl _,.nil⟩
  |cons a r=>exact⟨_,rfl,kN _ _ _ ⟨⟨_,rfl⟩,Same.refl _,.one .s⟩⟩
 ·intro l H' us s3 hl h3 r3
  rw[wd_flat]at r3
  have e3:us=wV (ws c d):=by
   have z:Rps K H' ((((sp 32 (Ft c d)).filter fun p=>!p.isEmpty).map ofL).map T.s) us:=by rw[List.map_map];exact r3
   rw[z.strs_inv,List.map_map]
   show((sp 32 (Ft c d)).filter fun p=>!p.isEmpty).map _=_
   rw[show((sp 32 (Ft c d)).filter fun p=>!p.isEmpty)=ws c d from ew]
   rfl
  rw[e3]at h3
  exact k l H' (s1.trans s3) (s1.free hl) h3
end
end G07
namespace L2
open PySem PySem.Spec PyProof.Rows
section
variable {prog:Program}{w:World}{A:Around}{E:Value->Shared->Prop}{s:Shared}
end
section
variable {X:Cx}{pins:List (Addr×Obj)}{σ:St}{H:Hp}{s:Shared}
end
section
variable {prog:Program}{w:World}{A:Around}{R:Result->Shared->Prop}{s:Shared}
end
section
variable {X:Cx}{pins:List (Addr×Obj)}{σ:St}{H:Hp}{s:Shared}
end
section
variable {X:Cx}
end
section
variable {g:TG}{tt:TT}{tk tv:TE}{Q:VK}{σ0:St}{H0:Hp}
end
end L2
namespace L2
open PySem
section
variable {K:PySem.W.Frag}{H:Hp}{v:V}
theorem Rp.t1{x:T}(h:Rp K H (.t [x]) v):∃a u,v=.ref a/\SqT K H a [u]/\Rp K H x u:=by
 obtain⟨a,vs,rfl,sq,r⟩:=h.inv_t
 obtain⟨u,q,rfl,g,r2⟩:=r.inv
 obtain rfl:=r2.inv0
 exact⟨a,u,rfl,sq,g⟩
theorem Rp.t2{x y:T}(h:Rp K H (.t [x,y]) v):∃a u1 u2,v=.ref a/\SqT K H a [u1,u2]/\Rp K H x u1/\Rp K H y u2:=by
 obtain⟨a,vs,rfl,sq,r⟩:=h.inv_t
 obtain⟨u,q,rfl,g,r2⟩:=r.inv
 obtain⟨u2,q2,rfl,g2,r3⟩:=r2.inv
 obtain rfl:=r3.inv0
 exact⟨a,u,u2,rfl,sq,g,g2⟩
theorem Rp.t3{x y z:T}(h:Rp K H (.t [x,y,z]) v):∃a u1 u2 u3,v=.ref a/\SqT K H a [u1,u2,u3]/\Rp K H x u1/\Rp K H y u2/\Rp K H z u3:=by
 obtain⟨a,vs,rfl,sq,r⟩:=h.inv_t
 obtain⟨u,q,rfl,g,r2⟩:=r.inv
 obtain⟨u2,q2,rfl,g2,r3⟩:=r2.inv
 obtain⟨u3,q3,rfl,g3,r4⟩:=r3.inv
 obtain rfl:=r4.inv0
 exact⟨a,u,u2,u3,rfl,sq,g,g2,g3⟩
theorem Rp.t4{x y z x4:T}(h:Rp K H (.t [x,y,z,x4]) v):∃a u1 u2 u3 u4,v=.ref a/\SqT K H a [u1,u2,u3,u4]/\Rp K H x u1/\Rp K H y u2/\Rp K H z u3/\Rp K H x4 u4:=by
 obtain⟨a,vs,rfl,sq,r⟩:=h.inv_t
 obtain⟨u,q,rfl,g,r2⟩:=r.inv
 obtain⟨u2,q2,rfl,g2,r3⟩:=r2.inv
 obtain⟨u3,q3,rfl,g3,r4⟩:=r3.inv
 obtain⟨u4,q4,rfl,g4,r5⟩:=r4.inv
 obtain rfl:=r5.inv0
 exact⟨a,u,u2,u3,u4,rfl,sq,g,g2,g3,g4⟩
theorem Rp.t5{x y z x4 x5:T}(h:Rp K H (.t [x,y,z,x4,x5]) v):∃a u1 u2 u3 u4 u5,v=.ref a/\SqT K H a [u1,u2,u3,u4,u5]/\Rp K H x u1/\Rp K H y u2/\Rp K H z u3/\Rp K H x4 u4/\Rp K H x5 u5:=by
 obtain⟨a,vs,rfl,sq,r⟩:=h.inv_t
 obtain⟨u,q,rfl,g,r2⟩:=r.inv
 obtain⟨u2,q2,rfl,g2,r3⟩:=r2.inv
 obtain⟨u3,q3,rfl,g3,r4⟩:=r3.inv
 obtain⟨u4,q4,rfl,g4,r5⟩:=r4.inv
 obtain⟨u5,q5,rfl,g5,r6⟩:=r5.inv
 obtain rfl:=r6.inv0
 exact⟨a,u,u2,u3,u4,u5,rfl,sq,g,g2,g3,g4,g5⟩
end
end L2
namespace L2
open PySem PySem.Spec PyProof.Rows
section
variable {X:Cx}
def tCallV(T:Addr->Sp->Prop)(tf:TE)(t:TA):TE:=fun σ H Q=>tf σ H fun x H0=>∃f sp,x=.ref f/\T f sp/\t σ H0 fun vs H1=>sp vs H1 Q E0
theorem pe_callV{T:Addr->Sp->Prop}{x:Str}{p pos:Pos}{e:Expr}{es:List Expr}{tf:TE}{t:TA}
  (hT:∀f sp,T f sp->∃k fd ps,FnOk X.prog X.w X.K X.mg X.base CX0 k f fd ps sp/\Room k X.A/\PySem.W.keepIn X.K (.ref f)=true/\Binds X.K fd ps [])
  (hf:PE X (.Name x p) tf) (ha:PA X (e::es) t) (he:starEach (e::es) X.env=(false,eval e X.env)::starEach es X.env:=by rfl) (hpl:(backTo pos (starEach es X.env)).any (·.1)=false:=by rfl) :
  PE X (.Call (.Name x p) (e::es) [] pos) (tCallV T tf t):=by
 intro pins s σ H Q I h
 refine wpAny_Call_Name_kw (thn (hf pins s σ H _ I h) fun u s0 ⟨v,H0,I0,rx,f,sp,ev,hTf,q⟩=>?_)
 subst ev
 obtain rfl:u=Value.ref f:=rx
 obtain⟨k,fd,ps,F,hr,hk,hb⟩:=hT f sp hTf
 refine PySem.W.callWith_K (h₀:=X.base) I0.ok.mod.kin hk (thn (ha pos pins s0 σ H0 _ I0 q) fun us s1 ⟨vs,H1,I1,r,q⟩=>⟨I1.kIn,?_⟩) he hpl
 exact run_fn (E:=E0) (dvs:=[]) F hr hb .nil pass0 I1 r (by simpa using q)
section
variable {prog:Program}{w:World}{A:Around}{E:Value->Shared->Prop}{s:Shared}
end
end
end L2
namespace G07
open PySem L2
def spKeepL:Sp:=fun vs H Q _=>∃v:V,vs=[.str "(",v]/\Q v H
def ItAt(H:Hp)(c:Cr):Nat->V->Prop
 |0,v=>v=.str (ofL c.L)
 |d+1,v=>∃a v',v=.ref a/\H a=some (.lst [.str "row",v'])/\ItAt H c d v'
def spScan(gK:Addr):Sp:=fun vs H Q _=>∃(c:Cr) (d:Nat),vs=[.str (kS c d),.ref gK]/\c.ok/\d<=20/\∀(p:Addr) (v:V) (H':Hp),Same H H'->H' p=some (.lst [v])->ItAt H' c d v->Q (.ref p) H'
def spScan1(gK:Addr):Sp:=fun vs H Q _=>∃(c:Cr) (d:Nat),vs=[.str (kS c d),.ref gK]/\c.ok/\d<=20/\∀(v:V) (H':Hp),Same H H'->ItAt H' c d v->Q v H'
theorem ws_len(c:Cr):∀d,(ws c d).length=3*d+1
 |0=>rfl
 |d+1=>by
  show(ws c d++[[41]]).length+1+1=_
  rw[List.length_append,ws_len c d]
  show 3*d+1+1+1+1=_
  omega
theorem ws_in{c:Cr}{d i:Nat}{w:List Nat}(h:(ws c d)[i]?=some w):(ws c (d+1))[i+2]?=some w:=by
 show(ws c d++[[41]])[i]?=_
 rw[List.getElem?_append_left (List.getElem?_eq_some_iff.mp h).1]
 exact h
theorem ws_open(c:Cr):∀(d a:Nat),a<d->(ws c d)[2*a]?=some [40]
 |d+1,0,_=>rfl
 |d+1,a+1,h=>ws_in (i:=2*a) (ws_open c d a (by omega))
theorem ws_row(c:Cr):∀(d a:Nat),a<d->(ws c d)[2*a+1]?=some [114,111,119]
 |d+1,0,_=>rfl
 |d+1,a+1,h=>ws_in (i:=2*a+1) (ws_row c d a (by omega))
theorem ws_core(c:Cr):∀d,(ws c d)[2*d]?=some c.L
 |0=>rfl
 |d+1=>ws_in (i:=2*d) (ws_core c d)
theorem ws_close(c:Cr):∀(d m:Nat),m<d->(ws c d)[2*d+1+m]?=some [41]
 |d+1,m,h=>by
  by_cases hm:m<d
  ·have:=ws_in (ws_close c d m hm)
   rw[show 2*(d+1)+1+m=2*d+1+m+2 by omega]
   exact this
  ·obtain rfl:m=d:=by omega
   rw[show 2*(m+1)+1+m=(3*m+1)+2 by omega]
   show(ws c m++[[41]])[3*m+1]?=_
   rw[List.getElem?_append_right (by rw[ws_len];omega),ws_len]
   simp
def pre(k:Nat):List V:=if k=0 then []else [.str "row"]
structure Ph1(H0:Hp) (o hl:Addr) (hs:List Addr) (a:Nat) (fu:Bool) (H:Hp):Prop where
 same:Same H0 H
 new:∀x∈o::hl::hs,H0 x=none
 nd:(o::hl::hs).Nodup
 len:hs.length=a+1
 op:H o=some (.lst (List.replicate a (.str "(")))
 hd:H hl=some (.lst (hs.map V.ref))
 ct:∀k h,hs[k]?=some h->H h=some (.lst (if k=a/\fu=false then []else pre k))
def itm(c:Cr)(hs:List Addr)(k:Nat):V:=match hs[k]? with|some h=>.ref h|none=>.str (ofL c.L)
structure Ph3(H0:Hp) (c:Cr) (d:Nat) (o hl:Addr) (hs:List Addr) (m:Nat) (H:Hp):Prop where
 same:Same H0 H
 new:∀x∈o::hl::hs,H0 x=none
 nd:(o::hl::hs).Nodup
 len:hs.length=d+1
 op:H o=some (.lst (List.replicate m (.str "(")))
 hd:H hl=some (.lst ((hs.take (m+1)).map V.ref))
 ct:∀k h,hs[k]?=some h->H h=some (.lst (pre k++if m<=k then [itm c hs (k+1)]else []))
theorem ne_ix{hs:List Addr}(nd:hs.Nodup){i j:Nat}{x y:Addr}(h1:hs[i]?=some x)(h2:hs[j]?=some y)(n:i≠j):x≠y:=fun e=>by
 subst e
 obtain⟨l1,e1⟩:=List.getElem?_eq_some_iff.mp h1
 obtain⟨l2,e2⟩:=List.getElem?_eq_some_iff.mp h2
 exact n ((List.getElem_inj nd).mp (e1.trans e2.symm))
section
variable {H0 H:Hp}{o hl:Addr}{hs:List Addr}{a m d:Nat}{c:Cr}
theorem nd_o(nd:(o::hl::hs).Nodup):o≠hl/\(∀x∈hs,o≠x)/\(∀x∈hs,hl≠x)/\hs.Nodup:=by
 obtain⟨h1,h2⟩:=List.nodup_cons.mp nd
 obtain⟨h3,h4⟩:=List.nodup_cons.mp h2
 exact⟨fun e=>h1 (by rw[e];exact .head _),fun x hx e=>h1 (by rw[e];exact .tail _ hx),fun x hx e=>h3 (by rw[e];exact hx),h4⟩
theorem Ph1.same_up{fu:Bool}{H':Hp}(p:Ph1 H0 o hl hs a fu H)(s:Same H H'):Ph1 H0 o hl hs a fu H' :=
 ⟨p.same.trans s,p.new,p.nd,p.len,s _ _ p.op,s _ _ p.hd,fun k h e=>s _ _ (p.ct k h e)⟩
theorem Ph3.same_up{H':Hp}(p:Ph3 H0 c d o hl hs m H)(s:Same H H'):Ph3 H0 c d o hl hs m H' :=
 ⟨p.same.trans s,p.new,p.nd,p.len,s _ _ p.op,s _ _ p.hd,fun k h e=>s _ _ (p.ct k h e)⟩
theorem Ph1.opn(p:Ph1 H0 o hl hs a true H){q:Addr}(hq:H q=none):Ph1 H0 o hl (hs++[q]) (a+1) false (upd (upd (upd H o (.lst (List.replicate (a+1) (.str "(")))) q (.lst [])) hl (.lst ((hs++[q]).map V.ref))):=by
 obtain⟨n1,n2,n3,n4⟩:=nd_o p.nd
 have qo:q≠o:=fun e=>by rw[e,p.op]at hq;cases hq
 have ql:q≠hl:=fun e=>by rw[e,p.hd]at hq;cases hq
 have qs:∀x∈hs,q≠x:=fun x hx e=>by
  obtain⟨i,hi⟩:=List.getElem?_of_mem hx
  rw[e,p.ct i x hi]at hq
  cases hq
 have q0:H0 q=none:=by
  cases e:H0 q with
  |none=>rfl
  |some u=>rw[p.same _ _ e]at hq;cases hq
 refine⟨((p.same.updF (p.new o (.head _)) _).updF q0 _).updF (p.new hl (.tail _ (.head _))) _,?_,?_,by rw[List.length_append,p.len];rfl,?_,upd_same,?_⟩
 ·intro x hx
  rcases List.mem_cons.mp hx with rfl|hx
  ·exact p.new _ (.head _)
  rcases List.mem_cons.mp hx with rfl|hx
  ·exact p.new _ (.tail _ (.head _))
  rcases List.mem_append.mp hx with hx|hx
  ·exact p.new _ (.tail _ (.tail _ hx))
  ·rw[List.mem_singleton.mp hx];exact q0
 ·refine List.nodup_cons.mpr ⟨fun h=>?_,List.nodup_cons.mpr ⟨fun h=>?_,List.nodup_append.mpr ⟨n4,by simp,fun x hx y hy e=>?_⟩⟩⟩
  ·rcases List.mem_cons.mp h with h|h
   ·exact n1 h
   rcases List.mem_append.mp h with h|h
   ·exact n2 _ h rfl
   ·exact qo (List.mem_singleton.mp h).symm
  ·rcases List.mem_append.mp h with h|h
   ·exact n3 _ h rfl
   ·exact ql (List.mem_singleton.mp h).symm
  ·rw[List.mem_singleton.mp hy]at e
   exact qs x hx e.symm
 ·rw[upd_ne n1,upd_ne (Ne.symm qo),upd_same]
 ·intro k h hk
  by_cases hkl:k<hs.length
  ·rw[List.getElem?_append_left hkl]at hk
   have hm:=List.mem_of_getElem? hk
   rw[upd_ne (Ne.symm (n3 h hm)),upd_ne (Ne.symm (qs h hm)),upd_ne (Ne.symm (n2 h hm)),p.ct k h hk]
   have:=p.len
   rw[if_neg (by simp),if_neg (by omega)]
  ·rw[List.getElem?_append_right (by omega)]at hk
   have hk0:k-hs.length=0:=by
    cases e:k-hs.length with
    |zero=>rfl
    |succ j=>rw[e]at hk;cases hk
   rw[hk0]at hk
   have hk':q=h:=by simpa using hk
   subst hk'
   rw[upd_ne ql,upd_same]
   have:=p.len
   rw[if_pos ⟨by omega,rfl⟩]
theorem Ph1.row(p:Ph1 H0 o hl hs (a+1) false H){h:Addr}(hh:hs[a+1]?=some h):Ph1 H0 o hl hs (a+1) true (upd H h (.lst [.str "row"])):=by
 obtain⟨n1,n2,n3,n4⟩:=nd_o p.nd
 have hm:=List.mem_of_getElem? hh
 refine⟨p.same.updF (p.new h (.tail _ (.tail _ hm))) _,p.new,p.nd,p.len,by rw[upd_ne (n2 h hm)];exact p.op,by rw[upd_ne (n3 h hm)];exact p.hd,fun k x hk=>?_⟩
 rw[if_neg (by simp)]
 by_cases e:k=a+1
 ·subst e
  rw[hh]at hk
  cases hk
  rw[upd_same]
  rfl
 ·rw[upd_ne (ne_ix n4 hk hh e),p.ct k x hk,if_neg (fun z=>e z.1)]
theorem Ph1.core(p:Ph1 H0 o hl hs d true H){h:Addr}(hh:hs[d]?=some h):Ph3 H0 c d o hl hs d (upd H h (.lst (pre d++[.str (ofL c.L)]))):=by
 obtain⟨n1,n2,n3,n4⟩:=nd_o p.nd
 have hm:=List.mem_of_getElem? hh
 refine⟨p.same.updF (p.new h (.tail _ (.tail _ hm))) _,p.new,p.nd,p.len,by rw[upd_ne (n2 h hm)];exact p.op,by rw[upd_ne (n3 h hm),p.hd,List.take_of_length_le (by rw[p.len];exact Nat.le_refl _)],fun k x hk=>?_⟩
 have hkl:=(List.getElem?_eq_some_iff.mp hk).1
 rw[p.len]at hkl
 by_cases e:k=d
 ·subst e
  rw[hh]at hk
  cases hk
  rw[upd_same,if_pos (Nat.le_refl _)]
  have:hs[k+1]?=none:=List.getElem?_eq_none (by rw[p.len];exact Nat.le_refl _)
  unfold itm
  rw[this]
 ·rw[upd_ne (ne_ix n4 hk hh e),p.ct k x hk,if_neg (by simp),if_neg (by omega),List.append_nil]
theorem Ph3.cls(p:Ph3 H0 c d o hl hs (m+1) H){h h2:Addr}(hh:hs[m]?=some h)(hh2:hs[m+1]?=some h2) :
  Ph3 H0 c d o hl hs m (upd (upd (upd H hl (.lst ((hs.take (m+1)).map V.ref))) o (.lst (List.replicate m (.str "(")))) h (.lst (pre m++[.ref h2]))):=by
 obtain⟨n1,n2,n3,n4⟩:=nd_o p.nd
 have hm:=List.mem_of_getElem? hh
 refine⟨((p.same.updF (p.new hl (.tail _ (.head _))) _).updF (p.new o (.head _)) _).updF (p.new h (.tail _ (.tail _ hm))) _,p.new,p.nd,p.len,by rw[upd_ne (n2 h hm),upd_same],by rw[upd_ne (n3 h hm),upd_ne (Ne.symm n1),upd_same],fun k x hk=>?_⟩
 have hxm:=List.mem_of_getElem? hk
 by_cases e:k=m
 ·subst e
  rw[hh]at hk
  cases hk
  rw[upd_same,if_pos (Nat.le_refl _)]
  unfold itm
  rw[hh2]
 ·rw[upd_ne (ne_ix n4 hk hh e),upd_ne (Ne.symm (n2 x hxm)),upd_ne (Ne.symm (n3 x hxm)),p.ct k x hk]
  by_cases hk2:m+1<=k
  ·rw[if_pos hk2,if_pos (by omega)]
  ·rw[if_neg hk2,if_neg (by omega)]
theorem Ph3.it(p:Ph3 H0 c d o hl hs 0 H):∀(j:Nat),j<=d->ItAt H c j (itm c hs (d+1-j))
 |0,_=>by
  have:hs[d+1-0]?=none:=List.getElem?_eq_none (by rw[p.len];exact Nat.le_refl _)
  unfold itm
  rw[this]
  rfl
 |j+1,hj=>by
  have ih:=p.it j (by omega)
  have hl:d+1 - (j+1)<hs.length:=by rw[p.len];omega
  have e:=List.getElem?_eq_getElem hl
  have ct:=p.ct _ _ e
  have hp:pre (d+1 - (j+1))=[.str "row"]:=by unfold pre;rw[if_neg (by omega)]
  rw[if_pos (Nat.zero_le _),hp,show d+1 - (j+1)+1=d+1-j by omega]at ct
  refine⟨_,_,?_,ct,ih⟩
  unfold itm
  rw[e]
end
section
variable {P:Program}{w:World}{K:PySem.W.Frag}{mg:Str->Option Value}{base:Heap}{gW gS gK:Addr}{wfd sfd kfd:FuncData}
theorem nm_kept_list:Nm ["opener","items"] (defScope s_kept_list):=by decide +kernel
theorem sc_kept_list:FnScope ["opener","items"] ["opener","items"] (defScope s_kept_list):=⟨rfl,rfl,rfl,by decide +kernel,rfl,by decide +kernel,by decide +kernel⟩
theorem ok_keepL{f:Addr}{fd:FuncData}(F:Fun K "kept_list" "kept_list" s_kept_list f fd):FnOk P w K mg base CX0 1 f fd ["opener","items"] spKeepL:=by
 refine F.ok sc_kept_list (fun vs H Q E h=>?_) (fun cdv A outer s H vs Q E hr h=>?_)
 ·obtain⟨_,rfl,_⟩:=h
  rfl
 obtain⟨v,rfl,k⟩:=h
 refine⟨_,(@pss_cons _ _ _ _ _ (@ps_if _ _ _ _ _ _ _ _ (pt_cmpR op_ne (va nm_kept_list 0) pe_str (nomark _)) (pss_one ps_never) pss_nil) (@pss_one _ _ _ (ps_ret (va nm_kept_list 1)))),?_⟩
 try dsimp only[cx_K]
 try dsimp only[cx_K]
 fail "R"
 exact k
end
theorem cx_w{X0:CXT}{P:Program}{w:World}{K:PySem.W.Frag}{mg:Str->Option Value}{base:Heap}{N:List Str}{nm:Str}{sc:Scope}{f:Addr}{cdv:Value}{A:Around}{outer:List PySem.Env}{s:Shared}{H:Hp}{E:XK}:(cxOf X0 P w K mg base N nm sc f cdv A outer s H E).w=w:=rfl
theorem at_last{α:Type}{l:List α}{x:α}{n:Nat}(hl:l.length=n+1)(h:l[n]?=some x):atI l (-1)=some x:=by
 unfold atI ixN
 rw[if_neg (by decide),if_pos (by omega)]
 show l[((-1:Int)+(l.length:Int)).toNat]?=some x
 rw[show((-1:Int)+(l.length:Int)).toNat=n by omega]
 exact h
inductive ScI(B:Hp) (c:Cr) (d:Nat) (o hl:Addr) (i:Nat) (H:Hp):Prop
 |a (hs:List Addr) (a:Nat) (hi:i=2*a) (ha:a<=d) (p:Ph1 B o hl hs a true H)
 |b (hs:List Addr) (a:Nat) (hi:i=2*a+1) (ha:a<d) (p:Ph1 B o hl hs (a+1) false H)
 |c (hs:List Addr) (m:Nat) (hi:i+m=3*d+1) (hm:m<=d) (p:Ph3 B c d o hl hs m H)
theorem ScI.same{B H:Hp}{c:Cr}{d i:Nat}{o hl:Addr}(h:ScI B c d o hl i H):Same B H:=by
 cases h with
 |a _ _ _ _ p=>exact p.same
 |b _ _ _ _ p=>exact p.same
 |c _ _ _ _ p=>exact p.same
abbrev cofV:List (Str×V):=[("(",.str ")"),("[",.str "]")]
theorem core_ne{c:Cr}(hc:c.ok){k:Nat}(hk:k=40\/k=41\/k=91\/k=93):ofL c.L≠⟨#[k]⟩:=fun e=>by
 have e2:c.L=[k]:=by rw[←toList_ofL c.L,e]
 have:=c.sg hc k (by rw[e2];exact .head _)
 unfold wsgn at this
 omega
theorem core_cof{c:Cr}(hc:c.ok):cofV.lookup (ofL c.L)=none:=by
 have h1:(ofL c.L == ("(":Str))=false:=beq_eq_false_iff_ne.mpr (core_ne hc (.inl rfl))
 have h2:(ofL c.L == ("[":Str))=false:=beq_eq_false_iff_ne.mpr (core_ne hc (.inr (.inr (.inl rfl))))
 rw[List.lookup_cons,h1,List.lookup_cons,h2]
 rfl
theorem core_end{c:Cr}(hc:c.ok):inV (.str (ofL c.L)) [.str ")",.str "]"]=false:=by
 have h1:((")":Str) == ofL c.L)=false:=beq_eq_false_iff_ne.mpr (Ne.symm (core_ne hc (.inr (.inl rfl))))
 have h2:(("]":Str) == ofL c.L)=false:=beq_eq_false_iff_ne.mpr (Ne.symm (core_ne hc (.inr (.inr (.inr rfl)))))
 show((")":Str) == ofL c.L||((("]":Str) == ofL c.L)||false))=false
 rw[h1,h2]
 rfl
section
variable {P:Program}{w:World}{K:PySem.W.Frag}{mg:Str->Option Value}{base:Heap}{gW gS gK gC:Addr}{wfd sfd kfd cfd:FuncData}
theorem nm_scanned:Nm ["text","close","openers","held","word","inner"] (defScope s_scanned):=by decide +kernel
theorem lm_scanned:Lm ["text","close","openers","held","word","inner"] (defScope s_scanned):=by decide +kernel
theorem sc_scanned:FnScope ["text","close","openers","held","word","inner"] ["text","close"] (defScope s_scanned):=⟨rfl,rfl,rfl,by decide +kernel,rfl,by decide +kernel,by decide +kernel⟩
theorem ok_scan{f aC:Addr}{fd:FuncData}(F:Fun K "scanned" "scanned" s_scanned f fd)(WE:Has P w K mg base "well_parted" 2 ["text"] spWell gW wfd)(SP:Has P w K mg base "split_words" 1 ["text"] spSplit gS sfd)(KL:Has P w K mg base "kept_list" 1 ["opener","items"] spKeepL gK kfd)
  (mC:mg "CLOSE_OF"=some (.ref aC)) (dC:KD K w aC [("(",.str ")"),("[",.str "]")]):FnOk P w K mg base CX0 3 f fd ["text","close"] (spScan gK):=by
 refine F.ok sc_scanned (fun vs H Q E h=>?_) (fun cdv A outer s H vs Q E hr h=>?_)
 ·obtain⟨_,_,rfl,_⟩:=h
  rfl
 obtain⟨c,d,rfl,hc,hd,k⟩:=h
 refine⟨_,(@pss_cons _ _ _ _ _ (@ps_if _ _ _ _ _ _ _ _ (@pt_not _ _ _ _ (@pt_val _ _ _ (@pe_call _ _ _ _ _ _ _ _ _ _ _ _ _ _ _ _ WE.ok (hr.mono (by omega)) (by show _=_;kernel_rfl) WE.at' WE.kp WE.bd .nil pass0 (pa_c (va nm_scanned 0) pa_nil) (by decide) (by rfl) (by rfl)) (by intro _;rfl))) (pss_one ps_never) pss_nil) (@pss_cons _ _ _ _ _ (sa sc_scanned.nd lm_scanned 2 (pe_lst pa_nil)) (@pss_cons _ _ _ _ _ (@sa _ _ _ _ _ _ sc_scanned.nd lm_scanned 3 (@pe_lst _ _ _ _ (pa_c (pe_lst pa_nil) pa_nil)) (by rfl) (by kernel_rfl) (by exact .inl rfl)) (@pss_cons _ _ _ _ _ (@ps_for _ _ _ _ _ _ _ _ PassesOwn.never rfl (@pi_list _ _ _ _ (@pe_call _ _ _ _ _ _ _ _ _ _ _ _ _ _ _ _ SP.ok (hr.mono (by omega)) (by show _=_;kernel_rfl) SP.at' SP.kp SP.bd .nil pass0 (pa_c (va nm_scanned 0) pa_nil) (by decide) (by rfl) (by rfl))) (ga sc_scanned.nd lm_scanned 4) (@pss_one _ _ _ (@ps_if _ _ _ _ _ _ _ _ (pt_cmpR op_inKD (va nm_scanned 4) (pe_glob (v:=.ref aC) (by show _=_;kernel_rfl) mC rfl) (by with_unfolding_all rfl)) (@pss_cons _ _ _ _ _ (@ps_expr _ _ _ _ (@pe_bm _ _ _ _ _ _ _ _ _ _ _ _ PySem.F.plainAttrs_list PySem.F.slot_list_append PySem.F.type_list_append mt_append (va nm_scanned 2) (pa_c (va nm_scanned 4) pa_nil) (by rfl) (by rfl) (by rfl) (by rfl) (by rfl)) (by rfl)) (@pss_one _ _ _ (@ps_expr _ _ _ _ (@pe_bm _ _ _ _ _ _ _ _ _ _ _ _ PySem.F.plainAttrs_list PySem.F.slot_list_append PySem.F.type_list_append mt_append (va nm_scanned 3) (pa_c (pe_lst pa_nil) pa_nil) (by rfl) (by rfl) (by rfl) (by rfl) (by rfl)) (by rfl)))) (@pss_one _ _ _ (@ps_if _ _ _ _ _ _ _ _ (@pt_cmpR _ _ _ _ _ _ _ _ op_in_seq (va nm_scanned 4) (@pe_tup _ _ _ _ _ (pa_c pe_str (pa_c pe_str pa_nil))) (by with_unfolding_all rfl)) (@pss_cons _ _ _ _ _ (@ps_if _ _ _ _ _ _ _ _ (PW.pt (@pw_or _ _ _ _ _ _ _ (@pt_not _ _ _ _ (pt_truth (va nm_scanned 2) (fun _=>rfl))) (@pw_or1 _ _ _ _ (@pt_cmpR _ _ _ _ _ _ _ _ op_ne (@pe_kget _ _ _ _ _ _ (pe_glob (v:=.ref aC) (by show _=_;kernel_rfl) mC rfl) (pe_ix ix_list (va nm_scanned 2) (pe_un un_neg pe_int) (fun _ _=>rfl)) (fun _ _=>rfl)) (va nm_scanned 4) (nomark _))))) (pss_one ps_never) pss_nil) (@pss_cons _ _ _ _ _ (@sa _ _ _ _ _ _ sc_scanned.nd lm_scanned 5 (pe_bm0 PySem.F.plainAttrs_list PySem.F.slot_list_pop PySem.F.type_list_pop mt_pop (va nm_scanned 3)) (by rfl) (by kernel_rfl) (by exact .inl rfl)) (@pss_one _ _ _ (@ps_expr _ _ _ _ (@pe_bm _ _ _ _ _ _ _ _ _ _ _ _ PySem.F.plainAttrs_list PySem.F.slot_list_append PySem.F.type_list_append mt_append (pe_ix ix_list (va nm_scanned 3) (pe_un un_neg pe_int) (fun _ _=>rfl)) (@pa_c _ _ _ _ _ (@pe_callV _ (fun f sp=>f=gK/\sp=spKeepL) _ _ _ _ _ _ _ (fun f sp h=>by obtain⟨rfl,rfl⟩:=h;exact⟨1,_,_,KL.ok,hr.mono (by omega),KL.kp,KL.bd⟩) (va nm_scanned 1) (@pa_c _ _ _ _ _ (pe_bm0 PySem.F.plainAttrs_list PySem.F.slot_list_pop PySem.F.type_list_pop mt_pop (va nm_scanned 2)) (pa_c (va nm_scanned 5) pa_nil) (by rfl)) (by rfl) (by rfl)) pa_nil (by rfl)) (by rfl) (by rfl) (by rfl) (by rfl) (by rfl)) (by rfl))))) (@pss_one _ _ _ (@ps_expr _ _ _ _ (@pe_bm _ _ _ _ _ _ _ _ _ _ _ _ PySem.F.plainAttrs_list PySem.F.slot_list_append PySem.F.type_list_append mt_append (pe_ix ix_list (va nm_scanned 3) (pe_un un_neg pe_int) (fun _ _=>rfl)) (pa_c (va nm_scanned 4) pa_nil) (by rfl) (by rfl) (by rfl) (by rfl) (by rfl)) (by rfl))))))) (by intro _;rfl)) (@pss_cons _ _ _ _ _ (@ps_if _ _ _ _ _ _ _ _ (pt_truth (va nm_scanned 2) (fun _=>rfl)) (pss_one ps_never) pss_nil) (@pss_one _ _ _ (@ps_ret _ _ _ _ (pe_ix ix_list (va nm_scanned 3) pe_int (fun _ _=>rfl))))))))),?_⟩
 try dsimp only[cx_K]
 try dsimp only[cx_K,cx_w]
 refine seq_cut5 ?_
 intro N1 N2 N3 N4 N5 c1 c2 c3 c4 c5
 fail "R"
 intro H1 s1
 fail "R"
 intro o ho
 have s2:=same_new ho (.lst [])
 have h2o:upd H1 o (.lst []) o=some (.lst []):=upd_same
 generalize upd H1 o (.lst [])=H2 at s2 h2o⊢
 fail "R"
 intro h0 hh0
 have s3:=same_new hh0 (.lst [])
 have h3h:upd H2 h0 (.lst []) h0=some (.lst []):=upd_same
 have h3o:=s3 _ _ h2o
 generalize upd H2 h0 (.lst [])=H3 at s3 h3h h3o⊢
 fail "R"
 intro hl hhl
 have s4:=same_new hhl (.lst [.ref h0])
 have h4l:upd H3 hl (.lst [.ref h0]) hl=some (.lst [.ref h0]):=upd_same
 have h4h:=s4 _ _ h3h
 have h4o:=s4 _ _ h3o
 generalize upd H3 hl (.lst [.ref h0])=H4 at s4 h4l h4h h4o⊢
 fail "R"
 intro p H5 s5 hp h5
 have hp1:H1 p=none:=((s2.trans s3).trans s4).free hp
 have sB:Same H1 (upd H1 p (.lst (wV (ws c d)))):=same_new hp1 _
 have hBp:upd H1 p (.lst (wV (ws c d))) p=some (.lst (wV (ws c d))):=upd_same
 have hB5:Same (upd H1 p (.lst (wV (ws c d)))) H5:=fun b u e=>by
  by_cases hb:b=p
  ·subst hb
   rw[upd_same]at e
   cases e
   exact h5
  ·rw[upd_ne hb]at e
   exact s5 _ _ (s4 _ _ (s3 _ _ (s2 _ _ e)))
 have hBn:∀x u,H4 x=some u->H1 x=none->upd H1 p (.lst (wV (ws c d))) x=none:=fun x u e1 e2=>by
  have hx:x≠p:=fun z=>by rw[z,hp]at e1;cases e1
  rw[upd_ne hx]
  exact e2
 generalize upd H1 p (.lst (wV (ws c d)))=B at sB hBp hB5 hBn
 have p1:Ph1 B o hl [h0] 0 true H5:={
  same:=hB5
  new:=fun x hx=>by
   rcases List.mem_cons.mp hx with rfl|hx
   ·exact hBn _ _ h4o ho
   rcases List.mem_cons.mp hx with rfl|hx
   ·exact hBn _ _ h4l ((s2.trans s3).free hhl)
   ·rw[List.mem_singleton.mp hx];exact hBn _ _ h4h (s2.free hh0)
  nd:=by
   have n1:o≠hl:=fun e=>by rw[←e,h3o]at hhl;cases hhl
   have n2:o≠h0:=fun e=>by rw[←e,h2o]at hh0;cases hh0
   have n3:hl≠h0:=fun e=>by rw[e,h3h]at hhl;cases hhl
   simp[n1,n2,n3]
  len:=rfl
  op:=s5 _ _ h4o
  hd:=s5 _ _ h4l
  ct:=fun k h hk=>by
   cases k with
   |zero=>cases hk;exact s5 _ _ h4h
   |succ k=>cases hk}
 fail "R"
 refine for_list (K:=K) (xs:=wV (ws c d)) (fun i σ H6=>(∃y z,σ=[some (.str (kS c d)),some (.ref gK),some (.ref o),some (.ref hl),y,z])/\ScI B c d o hl i H6) ⟨⟨_,_,rfl⟩,.a [h0] 0 rfl (Nat.zero_le _) p1⟩ ?_ ?_ ?_
 ·rintro i σ H6 hi ⟨_,h6⟩
  exact SqL.of (h6.same _ _ hBp)
 ·rintro i x σ H6 hx ⟨⟨_,_,rfl⟩,h6⟩
  unfold wV at hx
  rw[List.getElem?_map]at hx
  obtain⟨w6,hw6,rfl⟩:=Option.map_eq_some_iff.mp hx
  cases h6 with
  |a hs a hi ha p6 =>
   by_cases had:a<d
   ·have hw:w6=[40]:=by rw[hi,ws_open c d a had]at hw6;exact(Option.some.inj hw6).symm
    subst hw
    have hlk:(cofV.lookup (ofL [40])).isSome=true:=by decide +kernel
    have h6o:=p6.op
    have h6h:=p6.hd
    have n1:=(nd_o p6.nd).1
    have lo:(List.replicate a (V.str "(")).length<sizeLine:=small1000 (by rw[List.length_replicate];omega)
    have lh:(hs.map V.ref).length<sizeLine:=small1000 (by rw[List.length_map,p6.len];omega)
    have er:List.replicate a (V.str "(")++[V.str (ofL [40])]=List.replicate (a+1) (V.str "("):=by rw[List.replicate_succ'];rfl
    have h7h:upd H6 o (.lst (List.replicate a (V.str "(")++[V.str (ofL [40])])) hl=some (.lst (hs.map V.ref)):=by rw[upd_ne (Ne.symm n1)];exact h6h
    fail "R"
    intro q hq
    have qo:q≠o:=fun e=>by rw[e,upd_same]at hq;cases hq
    have hq6:H6 q=none:=by rw[upd_ne qo]at hq;exact hq
    have h8h:=same_new hq (.lst []) _ _ h7h
    fail "R"
    refine .b (hs++[q]) a (by omega) had ?_
    have z:=p6.opn hq6
    rw[←er]at z
    rw[List.map_append]at z
    exact z
   ·obtain rfl:a=d:=by omega
    have hw:w6=c.L:=by rw[hi,ws_core c a]at hw6;exact(Option.some.inj hw6).symm
    subst hw
    have hlk:¬(cofV.lookup (ofL c.L)).isSome=true:=by rw[core_cof hc];simp
    have hin:inV (.str (ofL c.L)) [.str ")",.str "]"]=false:=core_end hc
    have h6h:=p6.hd
    obtain⟨n1,n2,n3,n4⟩:=nd_o p6.nd
    have hal:a<hs.length:=by rw[p6.len];omega
    have hat:=List.getElem?_eq_getElem hal
    have hct:=p6.ct _ _ hat
    rw[if_neg (by simp)]at hct
    have hla:atI (hs.map V.ref) (-1)=some (.ref hs[a]):=at_last (n:=a) (by rw[List.length_map,p6.len]) (by rw[List.getElem?_map,hat];rfl)
    fail "R"
    refine ite2 (fun z=>absurd z hlk) (fun _=>?_)
    fail "R"
    intro t ht
    have s7:=same_new ht (.tup [.str ")",.str "]"])
    have h7:upd H6 t (.tup [.str ")",.str "]"]) t=some (.tup [.str ")",.str "]"]):=upd_same
    have h7h:=s7 _ _ h6h
    have h7c:=s7 _ _ hct
    have p7:=p6.same_up s7
    generalize upd H6 t (.tup [.str ")",.str "]"])=H7 at s7 h7 h7h h7c p7⊢
    have lc:(pre a).length<sizeLine:=small1000 (by unfold pre;split<;>simp)
    fail "R"
    refine ite2 (fun z=>absurd (show inV (.str (ofL c.L)) [.str ")",.str "]"]=true from z) (by rw[hin];simp)) (fun _=>?_)
    fail "R"
    exact .c hs a (by omega) (Nat.le_refl _) (p7.core hat)
  |b hs a hi ha p6 =>
   have hw:w6=[114,111,119]:=by rw[hi,ws_row c d a ha]at hw6;exact(Option.some.inj hw6).symm
   subst hw
   have hlk:¬(cofV.lookup (ofL [114,111,119])).isSome=true:=by decide +kernel
   have hin:inV (.str (ofL [114,111,119])) [.str ")",.str "]"]=false:=by decide +kernel
   have h6h:=p6.hd
   have hal:a+1<hs.length:=by rw[p6.len];omega
   have hat:=List.getElem?_eq_getElem hal
   have hct:=p6.ct _ _ hat
   rw[if_pos ⟨rfl,rfl⟩]at hct
   have hla:atI (hs.map V.ref) (-1)=some (.ref hs[a+1]):=at_last (n:=a+1) (by rw[List.length_map,p6.len]) (by rw[List.getElem?_map,hat];rfl)
   fail "R"
   intro t ht
   have s7:=same_new ht (.tup [.str ")",.str "]"])
   have h7:upd H6 t (.tup [.str ")",.str "]"]) t=some (.tup [.str ")",.str "]"]):=upd_same
   have h7h:=s7 _ _ h6h
   have h7c:=s7 _ _ hct
   have p7:=p6.same_up s7
   generalize upd H6 t (.tup [.str ")",.str "]"])=H7 at s7 h7 h7h h7c p7⊢
   fail "R"
   exact .a hs (a+1) (by omega) ha (p7.row hat)
  |c hs m hi hm p6 =>
   have hil:i<3*d+1:=by
    have:=(List.getElem?_eq_some_iff.mp hw6).1
    rw[ws_len]at this
    exact this
   obtain⟨m,rfl⟩:∃n,m=n+1:=⟨m-1,by omega⟩
   have hw:w6=[41]:=by
    rw[show i=2*d+1+(d - (m+1)) by omega,ws_close c d (d - (m+1)) (by omega)]at hw6
    exact(Option.some.inj hw6).symm
   subst hw
   have hlk:¬(cofV.lookup (ofL [41])).isSome=true:=by decide +kernel
   have hin:inV (.str (ofL [41])) [.str ")",.str "]"]=true:=by decide +kernel
   fail "R"
   intro t ht
   have s7:=same_new ht (.tup [.str ")",.str "]"])
   have h7:upd H6 t (.tup [.str ")",.str "]"]) t=some (.tup [.str ")",.str "]"]):=upd_same
   have p7:=p6.same_up s7
   generalize upd H6 t (.tup [.str ")",.str "]"])=H7 at s7 h7 p7⊢
   have h7o:=p7.op
   have h7h:=p7.hd
   have hal:m<hs.length:=by rw[p7.len];omega
   have hal2:m+1<hs.length:=by rw[p7.len];omega
   have hat:=List.getElem?_eq_getElem hal
   have hat2:=List.getElem?_eq_getElem hal2
   have hct:=p7.ct _ _ hat
   rw[if_neg (by omega),List.append_nil]at hct
   obtain⟨n1,n2,n3,n4⟩:=nd_o p7.nd
   have hla:atI (List.replicate (m+1) (V.str "(")) (-1)=some (V.str "("):=at_last (n:=m) List.length_replicate (by rw[List.getElem?_replicate,if_pos (by omega)])
   have hlk2:cofV.lookup ("(":Str)=some (.str ")"):=by decide +kernel
   have e8:(hs.take (m+1+1)).map V.ref=(hs.take (m+1)).map V.ref++[.ref hs[m+1]]:=by
    rw[List.take_succ_eq_append_getElem hal2,List.map_append]
    rfl
   have eD:((hs.take (m+1)).map V.ref++[V.ref hs[m+1]]).dropLast=(hs.take (m+1)).map V.ref:=List.dropLast_concat
   have eO:(List.replicate (m+1) (V.str "(")).dropLast=List.replicate m (V.str "("):=by rw[List.replicate_succ',List.dropLast_concat]
   rw[e8]at h7h
   have f1:((hs.take (m+1)).map V.ref++[V.ref hs[m+1]])[((hs.take (m+1)).map V.ref++[V.ref hs[m+1]]).length-1]?=some (.ref hs[m+1]):=by simp
   have f9:atI ((hs.take (m+1)).map V.ref++[V.ref hs[m+1]]).dropLast (-1)=some (.ref hs[m]):=by
    rw[eD]
    refine at_last (n:=m) (by rw[List.length_map,List.length_take,p7.len];omega) ?_
    rw[List.getElem?_map,List.getElem?_take_of_lt (by omega),hat]
    rfl
   have f10:upd H7 hl (.lst ((hs.take (m+1)).map V.ref++[V.ref hs[m+1]]).dropLast) o=some (.lst (List.replicate (m+1) (V.str "("))):=by rw[upd_ne n1];exact h7o
   have f11:(List.replicate (m+1) (V.str "("))[(List.replicate (m+1) (V.str "(")).length-1]?=some (.str "("):=by rw[List.getElem?_replicate,if_pos (by rw[List.length_replicate];omega)]
   have hmm:hs[m]∈hs:=List.getElem_mem hal
   have f12:upd (upd H7 hl (.lst ((hs.take (m+1)).map V.ref++[V.ref hs[m+1]]).dropLast)) o (.lst (List.replicate (m+1) (V.str "(")).dropLast) hs[m]=some (.lst (pre m)):=by
    rw[upd_ne (Ne.symm (n2 _ hmm)),upd_ne (Ne.symm (n3 _ hmm))]
    exact hct
   have f13:upd H7 hl (.lst ((hs.take (m+1)).map V.ref++[V.ref hs[m+1]]).dropLast) hs[m]=some (.lst (pre m)):=by
    rw[upd_ne (Ne.symm (n3 _ hmm))]
    exact hct
   have lc:(pre m).length<sizeLine:=small1000 (by unfold pre;split<;>simp)
   fail "R"
   refine .c hs m (by omega) (by omega) ?_
   rw[eD,eO]
   exact p7.cls hat hat2
 ·rintro σ H6 ⟨⟨_,_,rfl⟩,h6⟩
  rw[show(wV (ws c d)).length=3*d+1 by unfold wV;rw[List.length_map,ws_len]]at h6
  cases h6 with
  |a hs a hi ha p6=>omega
  |b hs a hi ha p6=>omega
  |c hs m hi hm p6 =>
   obtain rfl:m=0:=by omega
   have h6o:H6 o=some (.lst []):=p6.op
   have h0l:0<hs.length:=by rw[p6.len];omega
   have hat:=List.getElem?_eq_getElem h0l
   have e8:(hs.take (0+1)).map V.ref=[.ref hs[0]]:=by
    rw[List.take_succ_eq_append_getElem h0l]
    rfl
   have h6h:=p6.hd
   rw[e8]at h6h
   have hct:=p6.ct _ _ hat
   rw[if_pos (Nat.le_refl _)]at hct
   have hit:=p6.it d (Nat.le_refl _)
   rw[show d+1-d=0+1 by omega]at hit
   fail "R"
   exact k _ _ _ ((s1.trans sB).trans p6.same) hct hit
theorem nm_scanned_one:Nm ["text","close","found"] (defScope s_scanned_one):=by decide +kernel
theorem lm_scanned_one:Lm ["text","close","found"] (defScope s_scanned_one):=by decide +kernel
theorem sc_scanned_one:FnScope ["text","close","found"] ["text","close"] (defScope s_scanned_one):=⟨rfl,rfl,rfl,by decide +kernel,rfl,by decide +kernel,by decide +kernel⟩
theorem ok_scan1{f:Addr}{fd:FuncData}(F:Fun K "scanned_one" "scanned_one" s_scanned_one f fd)(SC:Has P w K mg base "scanned" 3 ["text","close"] (spScan gK) gC cfd)(z_len:mg "len"=none):FnOk P w K mg base CX0 4 f fd ["text","close"] (spScan1 gK):=by
 refine F.ok sc_scanned_one (fun vs H Q E h=>?_) (fun cdv A outer s H vs Q E hr h=>?_)
 ·obtain⟨_,_,rfl,_⟩:=h
  rfl
 obtain⟨c,d,rfl,hc,hd,k⟩:=h
 refine⟨_,(@pss_cons _ _ _ _ _ (@sa _ _ _ _ _ _ sc_scanned_one.nd lm_scanned_one 2 (@pe_call _ _ _ _ _ _ _ _ _ _ _ _ _ _ _ _ SC.ok (hr.mono (by omega)) (by show _=_;kernel_rfl) SC.at' SC.kp SC.bd .nil pass0 (@pa_c _ _ _ _ _ (va nm_scanned_one 0) (pa_c (va nm_scanned_one 1) pa_nil) (by rfl)) (by decide) (by rfl) (by rfl)) (by rfl) (by kernel_rfl) (by exact .inl rfl)) (@pss_cons _ _ _ _ _ (@ps_if _ _ _ _ _ _ _ _ (@pt_cmpR _ _ _ _ _ _ _ _ op_ne (@pe_callB _ _ _ _ _ _ _ _ _ call_len_seq (by show _=_;kernel_rfl) z_len PySem.boot_len (pa_c (va nm_scanned_one 2) pa_nil) (by decide) (by decide) (by rfl) (by rfl)) pe_int (nomark _)) (pss_one ps_never) pss_nil) (@pss_one _ _ _ (@ps_ret _ _ _ _ (pe_ix ix_list (va nm_scanned_one 2) pe_int (fun _ _=>rfl)))))),?_⟩
 try dsimp only[cx_K]
 try dsimp only[cx_K,cx_w]
 fail "R"
 intro p v H1 s1 h1 it1
 fail "R"
 exact k _ _ s1 it1
end
def spInn(K:PySem.W.Frag):Sp:=fun vs H Q _=>∃(v:V) (c:Cr) (d:Nat),vs=[v]/\Rp K H (kT c d) v/\∀v',Rp K H (crT c) v'->Q v' H
def spDeep(K:PySem.W.Frag):Sp:=fun vs H Q _=>∃(v:V) (c:Cr) (d:Nat),vs=[v]/\Rp K H (kT c d) v/\Q (.int d) H
def spRows(K:PySem.W.Frag):Sp:=fun vs H Q _=>∃(v:V) (c:Cr) (d:Nat),vs=[v,.int d]/\Rp K H (crT c) v/\d<=100/\∀v' H',Same H H'->Rp K H' (kT c d) v'->Q v' H'
theorem not_row{s:Str}(hs:s≠"row"):¬(decide (V.str s=V.str "row")=true):=fun h=>by
 have e:=of_decide_eq_true h
 injection e with e
 exact hs e
theorem kd_first{K:PySem.W.Frag}{H:Hp}{c:Cr}{v:V}(r:Rp K H (crT c) v){Q:V->Hp->Prop}(hq:∀s:Str,s≠"row"->Q (.str s) H):rIx K v (.int 0) H Q:=by
 cases c with
 |num =>
  obtain rfl:=(show Rp K H (.s "num") v from r).inv_s
  exact .inr (.inr ⟨_,0,110,rfl,rfl,(by decide +kernel),(by decide +kernel),hq _ (by decide +kernel)⟩)
 |kd x =>
  obtain⟨ka,k1,k2,rfl,ksq,g1,g2⟩:=(show Rp K H (.t [.s "kind",.s x]) v from r).t2
  obtain rfl:=g1.inv_s
  exact .inr (.inl ⟨ka,_,0,.str "kind",rfl,rfl,ksq,rfl,hq _ (by decide +kernel)⟩)
 |op n =>
  obtain⟨ka,k1,k2,rfl,ksq,g1,g2⟩:=(show Rp K H (.t [.s "open",.i n]) v from r).t2
  obtain rfl:=g1.inv_s
  exact .inr (.inl ⟨ka,_,0,.str "open",rfl,rfl,ksq,rfl,hq _ (by decide +kernel)⟩)
 |an n =>
  obtain⟨ka,k1,k2,rfl,ksq,g1,g2⟩:=(show Rp K H (.t [.s "any",.i n]) v from r).t2
  obtain rfl:=g1.inv_s
  exact .inr (.inl ⟨ka,_,0,.str "any",rfl,rfl,ksq,rfl,hq _ (by decide +kernel)⟩)
section
variable {P:Program}{w:World}{K:PySem.W.Frag}{mg:Str->Option Value}{base:Heap}
theorem nm_innermost:Nm ["kind"] (defScope s_innermost):=by decide +kernel
theorem lm_innermost:Lm ["kind"] (defScope s_innermost):=by decide +kernel
theorem sc_innermost:FnScope ["kind"] ["kind"] (defScope s_innermost):=⟨rfl,rfl,rfl,by decide +kernel,rfl,by decide +kernel,by decide +kernel⟩
theorem ok_inn{f:Addr}{fd:FuncData}(F:Fun K "innermost" "innermost" s_innermost f fd):FnOk P w K mg base CX0 1 f fd ["kind"] (spInn K):=by
 refine F.ok sc_innermost (fun vs H Q E h=>?_) (fun cdv A outer s H vs Q E hr h=>?_)
 ·obtain⟨_,_,_,rfl,_⟩:=h
  rfl
 obtain⟨v,c,d,rfl,r0,k⟩:=h
 refine⟨_,(@pss_cons _ _ _ _ _ (@ps_while _ _ _ _ _ _ PassesOwn.never (@pt_cmpR _ _ _ _ _ _ _ _ op_eq (pe_ix ix_seq (va nm_innermost 0) pe_int (fun _ _=>rfl)) pe_str (nomark _)) (@pss_one _ _ _ (@sa _ _ _ _ _ _ sc_innermost.nd lm_innermost 0 (pe_ix ix_seq (va nm_innermost 0) pe_int (fun _ _=>rfl)) (by rfl) (by kernel_rfl) (by exact .inl rfl)))) (@pss_one _ _ _ (ps_ret (va nm_innermost 0)))),?_⟩
 try dsimp only[cx_K]
 try dsimp only[cx_K]
 refine⟨fun m σ H1=>H1=H/\∃v:V,σ=[some v]/\Rp K H (kT c m) v,⟨d,rfl,v,rfl,r0⟩,?_⟩
 rintro m σ H1 ⟨rfl,v,rfl,r1⟩
 cases m with
 |zero =>
  refine⟨_,rfl,kd_first r1 fun s hs=>?_⟩
  refine⟨rfl,_,rfl,ite2 (fun z=>absurd z (not_row hs)) (fun _=>?_)⟩
  fail "R"
  exact k _ r1
 |succ m =>
  obtain⟨ka,v1,v2,rfl,ksq,g1,g2⟩:=(show Rp K H1 (.t [.s "row",kT c m]) v from r1).t2
  obtain rfl:=g1.inv_s
  refine⟨_,rfl,.inr (.inl ⟨ka,_,0,.str "row",rfl,rfl,ksq,rfl,rfl,_,rfl,ite2 (fun _=>?_) (fun c=>absurd (by decide +kernel) c)⟩)⟩
  refine⟨fun σ' H'=>H'=H1/\σ'=[some v2],fun σ' H' ⟨e1,e2⟩=>⟨m,Nat.lt_succ_self _,e1,v2,e2,g2⟩,?_⟩
  exact⟨_,rfl,.inr (.inl ⟨ka,_,1,v2,rfl,rfl,ksq,rfl,rfl,rfl⟩)⟩
theorem nm_kind_deep:Nm ["kind","depth"] (defScope s_kind_deep):=by decide +kernel
theorem lm_kind_deep:Lm ["kind","depth"] (defScope s_kind_deep):=by decide +kernel
theorem sc_kind_deep:FnScope ["kind","depth"] ["kind"] (defScope s_kind_deep):=⟨rfl,rfl,rfl,by decide +kernel,rfl,by decide +kernel,by decide +kernel⟩
theorem ok_deep{f:Addr}{fd:FuncData}(F:Fun K "kind_deep" "kind_deep" s_kind_deep f fd):FnOk P w K mg base CX0 1 f fd ["kind"] (spDeep K):=by
 refine F.ok sc_kind_deep (fun vs H Q E h=>?_) (fun cdv A outer s H vs Q E hr h=>?_)
 ·obtain⟨_,_,_,rfl,_⟩:=h
  rfl
 obtain⟨v,c,d,rfl,r0,k⟩:=h
 refine⟨_,(@pss_cons _ _ _ _ _ (sa sc_kind_deep.nd lm_kind_deep 1 pe_int) (@pss_cons _ _ _ _ _ (@ps_while _ _ _ _ _ _ PassesOwn.never (@pt_cmpR _ _ _ _ _ _ _ _ op_eq (pe_ix ix_seq (va nm_kind_deep 0) pe_int (fun _ _=>rfl)) pe_str (nomark _)) (@pss_cons _ _ _ _ _ (@sa _ _ _ _ _ _ sc_kind_deep.nd lm_kind_deep 0 (pe_ix ix_seq (va nm_kind_deep 0) pe_int (fun _ _=>rfl)) (by rfl) (by kernel_rfl) (by exact .inl rfl)) (pss_one (ps_aug (i:=1) sc_kind_deep.nd rfl (Or.inl rfl) pe_int ip_add)))) (@pss_one _ _ _ (ps_ret (va nm_kind_deep 1))))),?_⟩
 try dsimp only[cx_K]
 try dsimp only[cx_K]
 refine⟨fun m σ H1=>H1=H/\∃(v:V) (j:Nat),σ=[some v,some (.int j)]/\Rp K H (kT c m) v/\m+j=d,⟨d,rfl,v,0,rfl,r0,rfl⟩,?_⟩
 rintro m σ H1 ⟨rfl,v,j,rfl,r1,hj⟩
 cases m with
 |zero =>
  refine⟨_,rfl,kd_first r1 fun s hs=>?_⟩
  refine⟨rfl,_,rfl,ite2 (fun z=>absurd z (not_row hs)) (fun _=>?_)⟩
  fail "R"
  obtain rfl:j=d:=by omega
  exact k
 |succ m =>
  obtain⟨ka,v1,v2,rfl,ksq,g1,g2⟩:=(show Rp K H1 (.t [.s "row",kT c m]) v from r1).t2
  obtain rfl:=g1.inv_s
  refine⟨_,rfl,.inr (.inl ⟨ka,_,0,.str "row",rfl,rfl,ksq,rfl,rfl,_,rfl,ite2 (fun _=>?_) (fun c=>absurd (by decide +kernel) c)⟩)⟩
  refine⟨fun σ' H'=>H'=H1/\σ'=[some v2,some (.int (j+1:Nat))],fun σ' H' ⟨e1,e2⟩=>⟨m,Nat.lt_succ_self _,e1,v2,j+1,e2,g2,by omega⟩,?_⟩
  exact⟨_,rfl,.inr (.inl ⟨ka,_,1,v2,rfl,rfl,ksq,rfl,_,rfl,_,_,rfl,rfl,rfl,rfl⟩)⟩
theorem nm_in_rows:Nm ["kind","depth","row"] (defScope s_in_rows):=by decide +kernel
theorem lm_in_rows:Lm ["kind","depth","row"] (defScope s_in_rows):=by decide +kernel
theorem sc_in_rows:FnScope ["kind","depth","row"] ["kind","depth"] (defScope s_in_rows):=⟨rfl,rfl,rfl,by decide +kernel,rfl,by decide +kernel,by decide +kernel⟩
theorem ok_rows{f:Addr}{fd:FuncData}(F:Fun K "in_rows" "in_rows" s_in_rows f fd)(z_range:mg "range"=none):FnOk P w K mg base CX0 1 f fd ["kind","depth"] (spRows K):=by
 refine F.ok sc_in_rows (fun vs H Q E h=>?_) (fun cdv A outer s H vs Q E hr h=>?_)
 ·obtain⟨_,_,_,rfl,_⟩:=h
  rfl
 obtain⟨v,c,d,rfl,r0,hd,k⟩:=h
 refine⟨_,(@pss_cons _ _ _ _ _ (@ps_for _ _ _ _ _ _ _ _ PassesOwn.never rfl (@pi_range1 _ _ _ _ _ _ (by show _=_;kernel_rfl) z_range (pa_c (va nm_in_rows 1) pa_nil) (by rfl)) (ga sc_in_rows.nd lm_in_rows 2) (@pss_one _ _ _ (@sa _ _ _ _ _ _ sc_in_rows.nd lm_in_rows 0 (@pe_tup _ _ _ _ _ (@pa_c _ _ _ _ _ pe_str (pa_c (va nm_in_rows 0) pa_nil) (by rfl))) (by rfl) (by kernel_rfl) (by exact .inl rfl))) (by intro _;rfl)) (@pss_one _ _ _ (ps_ret (va nm_in_rows 0)))),?_⟩
 try dsimp only[cx_K]
 try dsimp only[cx_K]
 fail "R"
 refine for_range (fun i σ H1=>∃v1 y,σ=[some v1,some (.int d),y]/\Same H H1/\Rp K H1 (kT c i) v1) ⟨v,_,rfl,Same.refl _,r0⟩ ?_ ?_
 ·rintro i σ H1 hi ⟨v1,y,rfl,s1,r1⟩
  fail "R"
  intro p hp
  exact⟨_,_,rfl,s1.trans (same_new hp _),Rp.new (K:=K) hp (.cons .s (.one r1))⟩
 ·rintro σ H1 ⟨v1,y,rfl,s1,r1⟩
  fail "R"
  exact k _ _ s1 r1
end
end G07
namespace L2
open PySem PySem.Spec PyProof.Rows
theorem starts_one(l:List Nat)(k:Nat):Txt.startswith (ofL l) ⟨#[k]⟩=decide (l[0]?=some k):=by
 have h:=StrLaws.subAt_one (ofL l) k 0
 rw[toList_ofL]at h
 unfold Txt.startswith
 by_cases e:l[0]?=some k
 ·have:=h.mpr e
  rw[decide_eq_true e,decide_eq_true this.1,this.2]
  rfl
 ·rw[decide_eq_false e]
  cases h1:decide (0+(⟨#[k]⟩:Str).length<=(ofL l).length)with
  |false=>rfl
  |true =>
   cases h2:Builtin.Str.subAt (ofL l) ⟨#[k]⟩ 0 with
   |false=>rfl
   |true=>exact absurd (h.mp ⟨of_decide_eq_true h1,h2⟩) e
theorem slice_tail{a:Nat}{l:List Nat}:Txt.slice (ofL (a::l)) (some 1) none=ofL l:=by
 show StrLaws.sliceText (ofL (a::l)) (some 1) none=_
 rw[StrLaws.sliceText_from ⟨by decide,by rw[toList_ofL];show(1:Int)<=((l.length+1:Nat):Int);omega⟩,toList_ofL]
 show ofL (((a::l).drop 1).take _)=ofL l
 rw[List.drop_one,List.tail_cons,List.take_of_length_le]
 show l.length<=(((l.length+1:Nat):Int) - 1).toNat
 omega
theorem slice_init{l:List Nat}(h:l≠[]):Txt.slice (ofL l) none (some (-1))=ofL l.dropLast:=by
 have hl:1<=l.length:=by cases l with|nil=>exact absurd rfl h|cons=>exact Nat.le_add_left 1 _
 show StrLaws.sliceText (ofL l) none (some (-1))=_
 rw[StrLaws.sliceText_to_neg (by decide) (by rw[ofL_len];omega),toList_ofL,ofL_len]
 show ofL ((l.drop 0).take ((-1:Int)+(l.length:Int) - 0).toNat)=_
 rw[List.drop_zero,List.dropLast_eq_take,show((-1:Int)+(l.length:Int) - 0).toNat=l.length-1 by omega]
section
variable {X:Cx}
theorem call_isSl(K:PySem.W.Frag)(hK:X.K=K):CallR X (.builtin "isinstance") (fun xs H Q=>∃x,xs=[x,.ty "str"]/\((∃p ys,x=.ref p/\SqL K H p ys/\Q (.bl false) H)\/∃z,x=.str z/\Q (.bl true) H)):=by
 subst hK
 intro pins s σ H xs us Q I r h
 obtain⟨x,rfl,h⟩:=h
 obtain⟨u,w',rfl,r1,r2⟩:=vals2 r
 obtain rfl:w'=Value.type "str":=r2
 rcases h with⟨p,ys,rfl,hq,q⟩|⟨z,rfl,q⟩
 ·obtain rfl:u=Value.ref p:=r1
  obtain⟨its,rv,pl,hz⟩:=I.list hq
  obtain⟨o,ho,hc,hd⟩:=pl.isList
  exact IsiPair.list_str ho hc ⟨.bl false,H,I.tok _,rfl,q⟩
 ·obtain⟨t,rfl⟩:=r1
  exact IsiPair.str_str ⟨.bl true,H,I.tok _,rfl,q⟩
end
theorem foldl_app:∀(ls:List (Array Nat)) (a:Array Nat),(ls.foldl (·++·) a).toList=a.toList++(ls.map Array.toList).flatten
 | [],a=>by simp
 |x::r,a=>by
  rw[List.foldl_cons,foldl_app r (a++x),Array.toList_append,List.map_cons,List.flatten_cons,List.append_assoc]
theorem mul_ofL{l:List Nat}(hl:l≠[])(d:Nat):Txt.mul (ofL l) (d:Int)=ofL (List.replicate d l).flatten:=by
 unfold Txt.mul
 cases d with
 |zero=>rfl
 |succ d =>
  rw[if_neg (by omega)]
  cases d with
  |zero =>
   rw[if_pos (by rfl)]
   show ofL l=ofL (l++[])
   rw[List.append_nil]
  |succ d =>
   have h1:((((d+1+1:Nat):Int) == 1)||(ofL l).length == 0)=false:=by
    rw[ofL_len,Bool.or_eq_false_iff]
    refine⟨beq_eq_false_iff_ne.mpr (by omega),beq_eq_false_iff_ne.mpr fun e=>hl (List.eq_nil_of_length_eq_zero e)⟩
   rw[if_neg (by rw[h1];exact Bool.false_ne_true)]
   refine str_ofL ?_
   show((List.replicate ((d+1+1:Nat):Int).toNat (ofL l).cps).foldl (·++·) #[]).toList=_
   rw[foldl_app,List.map_replicate,toList_ofL]
   rfl
theorem pe_disp3{X:Cx}{pos:Pos}{k1 k2 k3 v1 v2 v3:Expr}{t1 t2 t3 s1 s2 s3:TE}(a1:PE X k1 t1)(b1:PE X v1 s1)(a2:PE X k2 t2)(b2:PE X v2 s2)(a3:PE X k3 t3)(b3:PE X v3 s3) :
  PE X (.Dict [some k1,some k2,some k3] [v1,v2,v3] pos) (tDisp [(t1,s1),(t2,s2),(t3,s3)]) :=
 pe_disp (pps_cons a1 b1 (pps_cons a2 b2 (pps_cons a3 b3 pps_nil))) rfl rfl (List.cons_ne_nil _ _) (by show 3<=15;decide)
end L2
namespace G07
open PySem L2
abbrev figS:Str:="0123456789"
def spIsName:Sp:=fun vs H Q _=>∃x:Str,vs=[.str x]/\(Cr.kd x).ok/\∀H',Same H H'->Q (.bl true) H'
def spIsFig:Sp:=fun vs H Q _=>∃n:Int,vs=[.str (ofL (digs n)),.int 2]/\(0<=n/\n<100)/\∀H',Same H H'->Q (.bl true) H'
def spNameOf:Sp:=fun vs H Q _=>∃x:Str,vs=[.str x]/\(Cr.kd x).ok/\∀H',Same H H'->Q (.str x) H'
def spNumB:Sp:=fun vs H Q _=>∃(n:Int) (a:Nat),vs=[.str (ofL (a::digs n))]/\(0<=n/\n<100)/\∀H',Same H H'->Q (.int n) H'
def spCoreOf(K:PySem.W.Frag):Sp:=fun vs H Q _=>∃c:Cr,vs=[.str (ofL c.L)]/\c.ok/\∀v H',Same H H'->Rp K H' (crT c) v->Q v H'
def spKindOf(K:PySem.W.Frag):Sp:=fun vs H Q _=>∃(c:Cr) (d:Nat) (v:V),vs=[v]/\c.ok/\d<=20/\ItAt H c d v/\∀v' H',Same H H'->Rp K H' (kT c d) v'->Q v' H'
def spRead(K:PySem.W.Frag):Sp:=fun vs H Q _=>∃(c:Cr) (d:Nat),vs=[.str (kS c d)]/\c.ok/\d<=20/\∀v' H',Same H H'->Rp K H' (kT c d) v'->Q v' H'
theorem not_kept{x:Str}(h:x∉keptS):inV (.str x) keptV=false:=by
 unfold inV
 rw[List.any_eq_false]
 intro y hy e
 obtain⟨z,hz,rfl⟩:=List.mem_map.mp hy
 have:z=x:=eq_of_beq (show(z == x)=true from e)
 exact h (this▸hz)
theorem kept_flat:keptV.all flatV=true:=by decide +kernel
theorem all_true{f:Nat->Bool}:∀{l:List Nat},(∀a∈l,f a=true)->(l.map f).all id=true
 | [],_=>rfl
 |a::r,h=>by
  rw[List.map_cons,List.all_cons,all_true fun b hb=>h b (.tail _ hb),Bool.and_true]
  exact h a (.head _)
theorem low_in:∀c:Nat,low c->c∈letS.cps.toList:=by
 intro c h
 rw[show letS.cps.toList=(List.range 26).map (·+97) by decide +kernel]
 unfold low at h
 exact List.mem_map.mpr ⟨c-97,List.mem_range.mpr (by omega),by omega⟩
theorem fig_in:∀c:Nat,48<=c/\c<=57->c∈figS.cps.toList:=by
 intro c h
 rw[show figS.cps.toList=(List.range 10).map (·+48) by decide +kernel]
 exact List.mem_map.mpr ⟨c-48,List.mem_range.mpr (by omega),by omega⟩
section
variable {P:Program}{w:World}{K:PySem.W.Frag}{mg:Str->Option Value}{base:Heap}{aK gI gF gN gB gC gK gS gR gO:Addr}{tkL tkF:Tok}{ifd ffd nfd bfd cfd kfd sfd rfd ofd:FuncData}
theorem nm_is_name:Nm ["text"] (defScope s_is_name):=by decide +kernel
theorem sc_is_name:FnScope ["text"] ["text"] (defScope s_is_name):=⟨rfl,rfl,rfl,by decide +kernel,rfl,by decide +kernel,by decide +kernel⟩
theorem ok_isname{f:Addr}{fd:FuncData}(F:Fun K "is_name" "is_name" s_is_name f fd)(z_len:mg "len"=none)(z_all:mg "all"=none)(mK:mg "KEPT"=some (.ref aK))(hK:∀H,SqT K H aK keptV)(mL:mg "SMALL_LETTERS"=some (.str letS tkL)):FnOk P w K mg base CX0 1 f fd ["text"] spIsName:=by
 refine F.ok sc_is_name (fun vs H Q E h=>?_) (fun cdv A outer s H vs Q E hr h=>?_)
 ·obtain⟨_,rfl,_⟩:=h
  rfl
 obtain⟨x,rfl,⟨x1,x2,x3,x4⟩,k⟩:=h
 refine⟨_,(@pss_one _ _ _ (@ps_ret _ _ _ _ (@pe_and _ _ _ _ _ _ _ (@pe_chain _ _ _ _ _ _ _ _ _ _ _ _ op_le op_le pe_int (@pe_callB _ _ _ _ _ _ _ _ _ call_len_str (by show _=_;kernel_rfl) z_len PySem.boot_len (pa_c (va nm_is_name 0) pa_nil) (by decide) (by decide) (by rfl) (by rfl)) pe_int (by with_unfolding_all rfl)) (@pe_and _ _ _ _ _ _ _ (pe_cmpR op_notIn_seq (va nm_is_name 0) (pe_glob (v:=.ref aK) (by show _=_;kernel_rfl) mK rfl) (by with_unfolding_all rfl)) (@pe_one _ _ _ _ _ (@pe_callB _ _ _ _ _ _ _ _ _ (call_all rfl) (by show _=_;kernel_rfl) z_all PyProof.Rows.boot_all (@pa_c _ _ _ _ _ (@pe_compC _ _ _ _ _ _ _ _ _ _ _ (defScope s_is_name) ["text"] ["sign"] [] rfl rfl rfl (by decide +kernel) (pi_str (va nm_is_name 0)) (fun _ _ _ _=>(pg_name (i:=0) (show(["sign"]:List Str).Nodup by decide +kernel) rfl (Or.inl (by kernel_rfl)) (by first|exact .inl rfl|exact .inr (by kernel_rfl)))) (fun _ _ _ _=>pifs_nil) (fun _ _ _ _=>(pe_cmpR op_in_sign (va (show Nm ["sign"] _ by show _=_;kernel_rfl) 0) (pe_glob (v:=.str letS) (by show _=_;kernel_rfl) mL ⟨_,rfl⟩) (by with_unfolding_all rfl))) (by intro _;rfl)) pa_nil (by rfl)) (by decide) (by decide) (by rfl) (by rfl))))))),?_⟩
 try dsimp only[cx_K]
 try dsimp only[cx_K]
 have hz:x.length<=sizeLine:=small (by omega)
 have b1:decide ((1:Int)<=(x.length:Int))=true:=decide_eq_true (by omega)
 have b2:decide ((x.length:Int)<=6)=true:=decide_eq_true (by omega)
 have b3:=not_kept x4
 have b4:=hK H
 have b5:=kept_flat
 fail "R"
 refine ifT b1 ?_
 fail "R"
 refine ifT b2 ?_
 fail "R"
 refine ifT (by rw[b3];rfl) ?_
 fail "R"
 refine comp_mapS (f:=fun c=>.bl (decide (c∈letS.cps.toList))) (fun _ _ _ _=>rfl) (fun a ha H1 K1 s1 q=>?_) rfl hz (fun p hp=>?_)
 ·fail "R"
  exact q
 have e:(x.cps.toList.map fun c=>V.bl (decide (c∈letS.cps.toList)))=(x.cps.toList.map fun c=>decide (c∈letS.cps.toList)).map V.bl:=by rw[List.map_map];rfl
 rw[e]
 fail "R"
 rw[all_true fun a ha=>decide_eq_true (low_in a (x3 a ha))]
 exact k _ (same_new hp _)
theorem nm_is_figures:Nm ["text","most"] (defScope s_is_figures):=by decide +kernel
theorem sc_is_figures:FnScope ["text","most"] ["text","most"] (defScope s_is_figures):=⟨rfl,rfl,rfl,by decide +kernel,rfl,by decide +kernel,by decide +kernel⟩
theorem ok_isfig{f:Addr}{fd:FuncData}(F:Fun K "is_figures" "is_figures" s_is_figures f fd)(z_len:mg "len"=none)(z_all:mg "all"=none)(mFi:mg "FIGURES"=some (.str figS tkF)):FnOk P w K mg base CX0 1 f fd ["text","most"] spIsFig:=by
 refine F.ok sc_is_figures (fun vs H Q E h=>?_) (fun cdv A outer s H vs Q E hr h=>?_)
 ·obtain⟨_,rfl,_⟩:=h
  rfl
 obtain⟨n,rfl,hn,k⟩:=h
 refine⟨_,(@pss_cons _ _ _ _ _ (@ps_if _ _ _ _ _ _ _ _ (PW.pt (@pw_or _ _ _ _ _ _ _ (@pt_not _ _ _ _ (@pt_chain _ _ _ _ _ _ _ _ _ _ _ _ op_le op_le pe_int (@pe_callB _ _ _ _ _ _ _ _ _ call_len_str (by show _=_;kernel_rfl) z_len PySem.boot_len (pa_c (va nm_is_figures 0) pa_nil) (by decide) (by decide) (by rfl) (by rfl)) (va nm_is_figures 1) (by with_unfolding_all rfl))) (@pw_or1 _ _ _ _ (@pt_not _ _ _ _ (@pt_val _ _ _ (@pe_callB _ _ _ _ _ _ _ _ _ (call_all rfl) (by show _=_;kernel_rfl) z_all PyProof.Rows.boot_all (@pa_c _ _ _ _ _ (@pe_compC _ _ _ _ _ _ _ _ _ _ _ (defScope s_is_figures) ["text","most"] ["sign"] [] rfl rfl rfl (by decide +kernel) (pi_str (va nm_is_figures 0)) (fun _ _ _ _=>(pg_name (i:=0) (show(["sign"]:List Str).Nodup by decide +kernel) rfl (Or.inl (by kernel_rfl)) (by first|exact .inl rfl|exact .inr (by kernel_rfl)))) (fun _ _ _ _=>pifs_nil) (fun _ _ _ _=>(pe_cmpR op_in_sign (va (show Nm ["sign"] _ by show _=_;kernel_rfl) 0) (pe_glob (v:=.str figS) (by show _=_;kernel_rfl) mFi ⟨_,rfl⟩) (by with_unfolding_all rfl))) (by intro _;rfl)) pa_nil (by rfl)) (by decide) (by decide) (by rfl) (by rfl)) (by intro _;rfl)))))) (pss_one (ps_ret pe_bl)) pss_nil) (@pss_one _ _ _ (@ps_ret _ _ _ _ (@pe_or _ _ _ _ _ _ _ (@pe_cmpR _ _ _ _ _ _ _ _ op_eq (@pe_callB _ _ _ _ _ _ _ _ _ call_len_str (by show _=_;kernel_rfl) z_len PySem.boot_len (pa_c (va nm_is_figures 0) pa_nil) (by decide) (by decide) (by rfl) (by rfl)) pe_int (nomark _)) (@pe_one _ _ _ _ _ (@pe_cmpR _ _ _ _ _ _ _ _ op_ne (pe_ix ix_str (va nm_is_figures 0) pe_int (fun _ _=>rfl)) pe_str (nomark _))))))),?_⟩
 try dsimp only[cx_K]
 try dsimp only[cx_K]
 obtain⟨d1,d2,d3,d4⟩:=digs_ok hn
 have hl:=ofL_len (digs n)
 have hz:(ofL (digs n)).length<=sizeLine:=small (by omega)
 have b1:decide ((1:Int)<=((ofL (digs n)).length:Int))=true:=decide_eq_true (by omega)
 have b2:decide (((ofL (digs n)).length:Int)<=2)=true:=decide_eq_true (by omega)
 refine seq_cut ?_
 intro N1 c1
 fail "R"
 refine ifT b1 ?_
 fail "R"
 refine ifF (by rw[b2];rfl) ?_
 fail "R"
 refine comp_mapS (f:=fun c=>.bl (decide (c∈figS.cps.toList))) (fun _ _ _ _=>rfl) (fun a ha H1 K1 s1 q=>?_) rfl hz (fun p hp=>?_)
 ·fail "R"
  exact q
 rw[toList_ofL]
 have e:((digs n).map fun c=>V.bl (decide (c∈figS.cps.toList)))=((digs n).map fun c=>decide (c∈figS.cps.toList)).map V.bl:=by rw[List.map_map];rfl
 rw[e]
 have s1:=same_new hp (.lst (((digs n).map fun c=>decide (c∈figS.cps.toList)).map V.bl))
 have h1:upd H p (.lst (((digs n).map fun c=>decide (c∈figS.cps.toList)).map V.bl)) p=some (.lst (((digs n).map fun c=>decide (c∈figS.cps.toList)).map V.bl)):=upd_same
 generalize upd H p (.lst (((digs n).map fun c=>decide (c∈figS.cps.toList)).map V.bl))=H1 at s1 h1⊢
 have hall:=all_true (f:=fun c=>decide (c∈figS.cps.toList)) (l:=digs n) fun a ha=>decide_eq_true (fig_in a (d3 a ha))
 fail "R"
 refine ifF (by rw[hall];rfl) ?_
 fail "R"
 refine ite2 (fun _=>k _ s1) (fun cn=>?_)
 obtain⟨a,l,ea⟩:∃a l,digs n=a::l:=by
  cases e:digs n with
  |nil=>rw[e]at d1;cases d1
  |cons a l=>exact⟨a,l,rfl⟩
 have hat:atI (ofL (digs n)).cps.toList 0=some a:=by rw[toList_ofL,ea];unfold atI ixN;simp
 have ha:a≠48:=fun z=>by
  rcases d4 with h|h
  ·exact cn (decide_eq_true (by rw[hl,h];rfl))
  ·rw[ea,z]at h;exact h rfl
 have hne:(!decide (V.str ⟨#[a]⟩=V.str "0"))=true:=by
  rw[decide_eq_false]
  ·rfl
  ·intro e
   exact ha (sgn_eq (k:=48).mp e)
 fail "R"
 rw[hne]
 exact k _ s1
theorem nm_name_of:Nm ["item"] (defScope s_name_of):=by decide +kernel
theorem sc_name_of:FnScope ["item"] ["item"] (defScope s_name_of):=⟨rfl,rfl,rfl,by decide +kernel,rfl,by decide +kernel,by decide +kernel⟩
theorem ok_nameof{f:Addr}{fd:FuncData}(F:Fun K "name_of" "name_of" s_name_of f fd)(IN:Has P w K mg base "is_name" 1 ["text"] spIsName gI ifd)(z_isinstance:mg "isinstance"=none)(z_str:mg "str"=none):FnOk P w K mg base CX0 2 f fd ["item"] spNameOf:=by
 refine F.ok sc_name_of (fun vs H Q E h=>?_) (fun cdv A outer s H vs Q E hr h=>?_)
 ·obtain⟨_,rfl,_⟩:=h
  rfl
 obtain⟨x,rfl,hx,k⟩:=h
 refine⟨_,(@pss_cons _ _ _ _ _ (@ps_if _ _ _ _ _ _ _ _ (PW.pt (@pw_or _ _ _ _ _ _ _ (@pt_not _ _ _ _ (@pt_val _ _ _ (@pe_callB _ _ _ _ _ _ _ _ _ (call_isSl K rfl) (by show _=_;kernel_rfl) z_isinstance PyProof.Rows.boot_isinstance (@pa_c _ _ _ _ _ (va nm_name_of 0) (pa_c (pe_bltn (v:=.ty "str") (by show _=_;kernel_rfl) z_str (by decide +kernel) rfl) pa_nil) (by rfl)) (by decide) (by decide) (by rfl) (by rfl)) (by intro _;rfl))) (@pw_or1 _ _ _ _ (@pt_not _ _ _ _ (@pt_val _ _ _ (@pe_call _ _ _ _ _ _ _ _ _ _ _ _ _ _ _ _ IN.ok (hr.mono (by omega)) (by show _=_;kernel_rfl) IN.at' IN.kp IN.bd .nil pass0 (pa_c (va nm_name_of 0) pa_nil) (by decide) (by rfl) (by rfl)) (by intro _;rfl)))))) (pss_one ps_never) pss_nil) (@pss_one _ _ _ (ps_ret (va nm_name_of 0)))),?_⟩
 try dsimp only[cx_K]
 try dsimp only[cx_K]
 refine seq_cut ?_
 intro N1 c1
 fail "R"
 refine .inr ⟨_,rfl,?_⟩
 fail "R"
 intro H1 s1
 fail "R"
 exact k _ s1
theorem nm_number_behind:Nm ["word"] (defScope s_number_behind):=by decide +kernel
theorem sc_number_behind:FnScope ["word"] ["word"] (defScope s_number_behind):=⟨rfl,rfl,rfl,by decide +kernel,rfl,by decide +kernel,by decide +kernel⟩
theorem ok_numb{f:Addr}{fd:FuncData}(F:Fun K "number_behind" "number_behind" s_number_behind f fd)(IFG:Has P w K mg base "is_figures" 1 ["text","most"] spIsFig gF ffd)(z_int:mg "int"=none):FnOk P w K mg base CX0 2 f fd ["word"] spNumB:=by
 refine F.ok sc_number_behind (fun vs H Q E h=>?_) (fun cdv A outer s H vs Q E hr h=>?_)
 ·obtain⟨_,_,rfl,_⟩:=h
  rfl
 obtain⟨n,a,rfl,hn,k⟩:=h
 refine⟨_,(@pss_cons _ _ _ _ _ (@ps_if _ _ _ _ _ _ _ _ (@pt_not _ _ _ _ (@pt_val _ _ _ (@pe_call _ _ _ _ _ _ _ _ _ _ _ _ _ _ _ _ IFG.ok (hr.mono (by omega)) (by show _=_;kernel_rfl) IFG.at' IFG.kp IFG.bd .nil pass0 (@pa_c _ _ _ _ _ (pe_slice sl_str (va nm_number_behind 0) (po_some pe_int) po_none) (pa_c pe_int pa_nil) (by rfl)) (by decide) (by rfl) (by rfl)) (by intro _;rfl))) (pss_one ps_never) pss_nil) (@pss_one _ _ _ (@ps_ret _ _ _ _ (@pe_callTy _ _ _ _ _ _ _ _ _ call_intS (by show _=_;kernel_rfl) z_int PyProof.Rows.boot_int (@pa_c _ _ _ _ _ (pe_slice sl_str (va nm_number_behind 0) (po_some pe_int) po_none) pa_nil (by rfl)) (by decide) (by decide) (by rfl) (by rfl))))),?_⟩
 try dsimp only[cx_K]
 try dsimp only[cx_K]
 have hz:(ofL (a::digs n)).length<=sizeLine:=small (by have:=digs_ok hn;rw[ofL_len,List.length_cons];omega)
 have es:=slice_tail (a:=a) (l:=digs n)
 have e2:ofL (digs n)=Str.ofString (toString n):=ofL_toList _
 refine seq_cut ?_
 intro N1 c1
 fail "R"
 ·(rw[es]<;>rfl)
 fail "R"
 intro H1 s1
 fail "R"
 ·(rw[es,e2]<;>rfl)
 fail "R"
 exact k _ s1
theorem nm_core_of:Nm ["word"] (defScope s_core_of):=by decide +kernel
theorem sc_core_of:FnScope ["word"] ["word"] (defScope s_core_of):=⟨rfl,rfl,rfl,by decide +kernel,rfl,by decide +kernel,by decide +kernel⟩
theorem ok_coreof{f:Addr}{fd:FuncData}(F:Fun K "core_of" "core_of" s_core_of f fd)(NB:Has P w K mg base "number_behind" 2 ["word"] spNumB gB bfd)(NO:Has P w K mg base "name_of" 2 ["item"] spNameOf gN nfd):FnOk P w K mg base CX0 3 f fd ["word"] (spCoreOf K):=by
 refine F.ok sc_core_of (fun vs H Q E h=>?_) (fun cdv A outer s H vs Q E hr h=>?_)
 ·obtain⟨_,rfl,_⟩:=h
  rfl
 obtain⟨c,rfl,hc,k⟩:=h
 refine⟨_,(@pss_cons _ _ _ _ _ (@ps_if _ _ _ _ _ _ _ _ (pt_cmpR op_eq (va nm_core_of 0) pe_str (nomark _)) (pss_one (ps_ret pe_str)) pss_nil) (@pss_cons _ _ _ _ _ (@ps_if _ _ _ _ _ _ _ _ (@pt_val _ _ _ (pe_bm PySem.F.plainAttrs_str PySem.F.slot_str_startswith PySem.F.type_str_startswith mt_startswith (va nm_core_of 0) (pa_c pe_str pa_nil) (hbase:=by kernel_rfl) (hfew:=by kernel_rfl) (hline:=by kernel_rfl) (hs:=by kernel_rfl) (hplain:=by kernel_rfl)) (by intro _;rfl)) (@pss_one _ _ _ (@ps_ret _ _ _ _ (@pe_tup _ _ _ _ _ (@pa_c _ _ _ _ _ pe_str (@pa_c _ _ _ _ _ (@pe_call _ _ _ _ _ _ _ _ _ _ _ _ _ _ _ _ NB.ok (hr.mono (by omega)) (by show _=_;kernel_rfl) NB.at' NB.kp NB.bd .nil pass0 (pa_c (va nm_core_of 0) pa_nil) (by decide) (by rfl) (by rfl)) pa_nil (by rfl)) (by rfl))))) pss_nil) (@pss_cons _ _ _ _ _ (@ps_if _ _ _ _ _ _ _ _ (@pt_val _ _ _ (pe_bm PySem.F.plainAttrs_str PySem.F.slot_str_startswith PySem.F.type_str_startswith mt_startswith (va nm_core_of 0) (pa_c pe_str pa_nil) (hbase:=by kernel_rfl) (hfew:=by kernel_rfl) (hline:=by kernel_rfl) (hs:=by kernel_rfl) (hplain:=by kernel_rfl)) (by intro _;rfl)) (@pss_one _ _ _ (@ps_ret _ _ _ _ (@pe_tup _ _ _ _ _ (@pa_c _ _ _ _ _ pe_str (@pa_c _ _ _ _ _ (@pe_call _ _ _ _ _ _ _ _ _ _ _ _ _ _ _ _ NB.ok (hr.mono (by omega)) (by show _=_;kernel_rfl) NB.at' NB.kp NB.bd .nil pass0 (pa_c (va nm_core_of 0) pa_nil) (by decide) (by rfl) (by rfl)) pa_nil (by rfl)) (by rfl))))) pss_nil) (@pss_one _ _ _ (@ps_ret _ _ _ _ (@pe_tup _ _ _ _ _ (@pa_c _ _ _ _ _ pe_str (@pa_c _ _ _ _ _ (@pe_call _ _ _ _ _ _ _ _ _ _ _ _ _ _ _ _ NO.ok (hr.mono (by omega)) (by show _=_;kernel_rfl) NO.at' NO.kp NO.bd .nil pass0 (pa_c (va nm_core_of 0) pa_nil) (by decide) (by rfl) (by rfl)) pa_nil (by rfl)) (by rfl)))))))),?_⟩
 try dsimp only[cx_K]
 try dsimp only[cx_K]
 cases c with
 |num =>
  fail "R"
  exact k _ _ (Same.refl _) .s
 |kd x =>
  have ex:ofL (Cr.kd x).L=x:=ofL_toList x
  rw[ex]
  have n1:¬decide (V.str x=V.str "num")=true:=fun z=>by
   have e:=of_decide_eq_true z
   injection e with e
   exact hc.2.2.2 (by rw[e];decide +kernel)
  have low0:∀k,¬low k->Txt.startswith x ⟨#[k]⟩=false:=fun k hk=>by
   rw[←ofL_toList x,starts_one]
   refine decide_eq_false fun e=>hk (hc.2.2.1 k (List.mem_of_getElem? e))
  have n2:Txt.startswith x "?"=false:=low0 63 (by unfold low;omega)
  have n3:Txt.startswith x "'"=false:=low0 39 (by unfold low;omega)
  refine seq_cut3 ?_
  intro N1 N2 N3 c1 c2 c3
  fail "R"
  refine ite2 (fun z=>absurd z n1) (fun _=>?_)
  fail "R"
  refine ifF n2 ?_
  fail "R"
  refine ifF n3 ?_
  fail "R"
  intro H1 s1
  fail "R"
  intro p hp
  exact k _ _ (s1.trans (same_new hp _)) (Rp.new (K:=K) hp (.cons .s (.one .s)))
 |op n =>
  have n1:¬decide (V.str (ofL (63::digs n))=V.str "num")=true:=fun z=>by
   have e:=of_decide_eq_true z
   injection e with e
   have e2:63::digs n=[110,117,109]:=by rw[←toList_ofL (63::digs n),e];rfl
   injection e2 with e3 _
   cases e3
  have n2:Txt.startswith (ofL (63::digs n)) "?"=true:=by
   show Txt.startswith _ ⟨#[63]⟩=true
   rw[starts_one]
   rfl
  show tSeq _ _ _ (L2.start ["word"] [.str (ofL (63::digs n))]) H
  refine seq_cut3 ?_
  intro N1 N2 N3 c1 c2 c3
  fail "R"
  refine ite2 (fun z=>absurd z n1) (fun _=>?_)
  fail "R"
  refine ifT n2 ?_
  fail "R"
  intro H1 s1
  fail "R"
  intro p hp
  exact k _ _ (s1.trans (same_new hp _)) (Rp.new (K:=K) hp (.cons .s (.one .i)))
 |an n =>
  have n1:¬decide (V.str (ofL (39::digs n))=V.str "num")=true:=fun z=>by
   have e:=of_decide_eq_true z
   injection e with e
   have e2:39::digs n=[110,117,109]:=by rw[←toList_ofL (39::digs n),e];rfl
   injection e2 with e3 _
   cases e3
  have n2:Txt.startswith (ofL (39::digs n)) "?"=false:=by
   show Txt.startswith _ ⟨#[63]⟩=false
   rw[starts_one]
   rfl
  have n3:Txt.startswith (ofL (39::digs n)) "'"=true:=by
   show Txt.startswith _ ⟨#[39]⟩=true
   rw[starts_one]
   rfl
  show tSeq _ _ _ (L2.start ["word"] [.str (ofL (39::digs n))]) H
  refine seq_cut3 ?_
  intro N1 N2 N3 c1 c2 c3
  fail "R"
  refine ite2 (fun z=>absurd z n1) (fun _=>?_)
  fail "R"
  refine ifF n2 ?_
  fail "R"
  refine ifT n3 ?_
  fail "R"
  intro H1 s1
  fail "R"
  intro p hp
  exact k _ _ (s1.trans (same_new hp _)) (Rp.new (K:=K) hp (.cons .s (.one .i)))
theorem nm_kind_of:Nm ["item","depth"] (defScope s_kind_of):=by decide +kernel
theorem lm_kind_of:Lm ["item","depth"] (defScope s_kind_of):=by decide +kernel
theorem sc_kind_of:FnScope ["item","depth"] ["item"] (defScope s_kind_of):=⟨rfl,rfl,rfl,by decide +kernel,rfl,by decide +kernel,by decide +kernel⟩
theorem ok_kindof{f:Addr}{fd:FuncData}(F:Fun K "kind_of" "kind_of" s_kind_of f fd)(COF:Has P w K mg base "core_of" 3 ["word"] (spCoreOf K) gC cfd)(IR:Has P w K mg base "in_rows" 1 ["kind","depth"] (spRows K) gR rfd)(z_isinstance:mg "isinstance"=none)(z_str:mg "str"=none)(z_len:mg "len"=none):FnOk P w K mg base CX0 4 f fd ["item"] (spKindOf K):=by
 refine F.ok sc_kind_of (fun vs H Q E h=>?_) (fun cdv A outer s H vs Q E hr h=>?_)
 ·obtain⟨_,_,_,rfl,_⟩:=h
  rfl
 obtain⟨c,d,v,rfl,hc,hd,it,k⟩:=h
 refine⟨_,(@pss_cons _ _ _ _ _ (sa sc_kind_of.nd lm_kind_of 1 pe_int) (@pss_cons _ _ _ _ _ (@ps_while _ _ _ _ _ _ PassesOwn.never (@pt_not _ _ _ _ (@pt_val _ _ _ (@pe_callB _ _ _ _ _ _ _ _ _ (call_isSl K rfl) (by show _=_;kernel_rfl) z_isinstance PyProof.Rows.boot_isinstance (@pa_c _ _ _ _ _ (va nm_kind_of 0) (pa_c (pe_bltn (v:=.ty "str") (by show _=_;kernel_rfl) z_str (by decide +kernel) rfl) pa_nil) (by rfl)) (by decide) (by decide) (by rfl) (by rfl)) (by intro _;rfl))) (@pss_cons _ _ _ _ _ (@ps_if _ _ _ _ _ _ _ _ (PW.pt (@pw_or _ _ _ _ _ _ _ (@pt_cmpR _ _ _ _ _ _ _ _ op_ne (@pe_callB _ _ _ _ _ _ _ _ _ call_len_seq (by show _=_;kernel_rfl) z_len PySem.boot_len (pa_c (va nm_kind_of 0) pa_nil) (by decide) (by decide) (by rfl) (by rfl)) pe_int (nomark _)) (@pw_or1 _ _ _ _ (@pt_cmpR _ _ _ _ _ _ _ _ op_ne (pe_ix ix_list (va nm_kind_of 0) pe_int (fun _ _=>rfl)) pe_str (nomark _))))) (pss_one ps_never) pss_nil) (@pss_cons _ _ _ _ _ (@sa _ _ _ _ _ _ sc_kind_of.nd lm_kind_of 0 (pe_ix ix_list (va nm_kind_of 0) pe_int (fun _ _=>rfl)) (by rfl) (by kernel_rfl) (by exact .inl rfl)) (pss_one (ps_aug (i:=1) sc_kind_of.nd rfl (Or.inl rfl) pe_int ip_add))))) (@pss_one _ _ _ (@ps_ret _ _ _ _ (@pe_call _ _ _ _ _ _ _ _ _ _ _ _ _ _ _ _ IR.ok (hr.mono (by omega)) (by show _=_;kernel_rfl) IR.at' IR.kp IR.bd .nil pass0 (@pa_c _ _ _ _ _ (@pe_call _ _ _ _ _ _ _ _ _ _ _ _ _ _ _ _ COF.ok (hr.mono (by omega)) (by show _=_;kernel_rfl) COF.at' COF.kp COF.bd .nil pass0 (pa_c (va nm_kind_of 0) pa_nil) (by decide) (by rfl) (by rfl)) (pa_c (va nm_kind_of 1) pa_nil) (by rfl)) (by decide) (by rfl) (by rfl)))))),?_⟩
 try dsimp only[cx_K]
 try dsimp only[cx_K]
 refine seq_cut2 ?_
 intro N1 N2 c1 c2
 fail "R"
 refine⟨fun m σ H1=>H1=H/\∃(v:V) (j:Nat),σ=[some v,some (.int j)]/\ItAt H c m v/\m+j=d,⟨d,rfl,v,0,rfl,it,rfl⟩,?_⟩
 rintro m σ H1 ⟨rfl,v,j,rfl,it1,hj⟩
 cases m with
 |zero =>
  obtain rfl:v=.str (ofL c.L):=it1
  obtain rfl:j=d:=by omega
  fail "R"
  refine .inr ⟨_,rfl,?_⟩
  fail "R"
  intro v1 H2 s2 r2
  fail "R"
  intro v' H3 s3 r3
  exact k _ _ (s2.trans s3) r3
 |succ m =>
  obtain⟨a,v',rfl,ha,it2⟩:=it1
  fail "R"
  refine .inl ⟨a,_,rfl,SqL.of ha,?_⟩
  refine⟨false,rfl,?_⟩
  refine iteT ⟨fun σ' H'=>H'=H1/\σ'=[some v',some (.int (j+1:Nat))],fun σ' H' ⟨e1,e2⟩=>⟨m,Nat.lt_succ_self _,e1,v',j+1,e2,it2,by omega⟩,?_⟩
  fail "R"
  rfl
theorem nm_read_kind:Nm ["text"] (defScope s_read_kind):=by decide +kernel
theorem sc_read_kind:FnScope ["text"] ["text"] (defScope s_read_kind):=⟨rfl,rfl,rfl,by decide +kernel,rfl,by decide +kernel,by decide +kernel⟩
theorem ok_read{f:Addr}{fd:FuncData}(F:Fun K "read_kind" "read_kind" s_read_kind f fd)(KL:Has P w K mg base "kept_list" 1 ["opener","items"] spKeepL gK kfd)(SC1:Has P w K mg base "scanned_one" 4 ["text","close"] (spScan1 gK) gS sfd)(KOF:Has P w K mg base "kind_of" 4 ["item"] (spKindOf K) gO ofd):FnOk P w K mg base CX0 5 f fd ["text"] (spRead K):=by
 refine F.ok sc_read_kind (fun vs H Q E h=>?_) (fun cdv A outer s H vs Q E hr h=>?_)
 ·obtain⟨_,_,rfl,_⟩:=h
  rfl
 obtain⟨c,d,rfl,hc,hd,k⟩:=h
 refine⟨_,(@pss_one _ _ _ (@ps_ret _ _ _ _ (@pe_call _ _ _ _ _ _ _ _ _ _ _ _ _ _ _ _ KOF.ok (hr.mono (by omega)) (by show _=_;kernel_rfl) KOF.at' KOF.kp KOF.bd .nil pass0 (@pa_c _ _ _ _ _ (@pe_call _ _ _ _ _ _ _ _ _ _ _ _ _ _ _ _ SC1.ok (hr.mono (by omega)) (by show _=_;kernel_rfl) SC1.at' SC1.kp SC1.bd .nil pass0 (@pa_c _ _ _ _ _ (va nm_read_kind 0) (pa_c (pe_glob (v:=.ref gK) (by show _=_;kernel_rfl) KL.at' rfl) pa_nil) (by rfl)) (by decide) (by rfl) (by rfl)) pa_nil (by rfl)) (by decide) (by rfl) (by rfl)))),?_⟩
 try dsimp only[cx_K]
 try dsimp only[cx_K]
 fail "R"
 intro v H1 s1 it1
 fail "R"
 intro v' H2 s2 r2
 exact k _ _ (s1.trans s2) r2
end
def Un(xs:List Str):Prop:=∀(i j:Nat) (x:Str),xs[i]?=some x->xs[j]?=some x->i=j
def lets:List Nat:=(Str.ofString "abcdefghijklmnopqrstuvwxyz").cps.toList
def Lo(x:Str):Prop:=∀c∈x.cps.toList,c<1000
theorem lets_lo:∀c∈lets,c<1000:=by decide +kernel
theorem Lo.one{c:Nat}(h:c∈lets):Lo ⟨#[c]⟩:=fun d hd=>by
 have:d=c:=by simpa using hd
 rw[this]
 exact lets_lo c h
theorem Lo.q(b:Bool):Lo (Txt.mul "q" (if b then 1 else 0)):=by
 have h:∀b:Bool,((Txt.mul "q" (if b then 1 else 0)).cps.toList.all (· < 1000))=true:=by decide +kernel
 intro c hc
 have:=List.all_eq_true.mp (h b) c hc
 simpa using this
theorem Ext.free{f:Addr}{H H':Hp}(e:Ext f H H'){l:Addr}(h:H' l=none):H l=none:=by
 cases q:H l with
 |none=>rfl
 |some o =>
  by_cases n:l=f
  ·subst n;obtain⟨a,b,z⟩:=e.2;rw[h]at z;cases z
  ·rw[e.1 l o n q]at h;cases h
def spKeptW:Sp:=fun vs H Q _=>vs=[]/\∀(p:Addr) (H':Hp),Same H H'->H' p=some (.lst keptV)->Q (.ref p) H'
def spWord:Sp:=fun vs H Q _=>∃f:Addr,vs=[.ref f]/\FeedAt H f/\∀(x:Str) (H':Hp),Ext f H H'->(Cr.kd x).ok->Q (.str x) H'
@[irreducible] def esK1:List Expr:=match defBody s_L_kept with
 |.Assign _ (.List es _) _::_=>es
 |_=>[]
@[irreducible] def esK2:List Expr:=match defBody s_L_kept with
 | [_,.Return (some (.BinOp _ _ (.List es _) _)) _]=>es
 |_=>[]
@[irreducible] def posK (i:Nat):Pos:=match defBody s_L_kept with
 | [.Assign [.Name _ a] (.List _ b) c,.Return (some (.BinOp (.Name _ e) _ (.List _ f) g)) h]=>[a,b,c,e,f,g,h].getD i a
 |_=>⟨0,0,0,0⟩
def keptA:List Str:=["num","row","kind","def","more","first","others","long","match","if","let","fold","call"]
def keptB:List Str:=["gap","in","world","fault","left"]
theorem kept_body:defBody s_L_kept=[.Assign [.Name "_law_kept_here" (posK 0)] (.List esK1 (posK 1)) (posK 2),.Return (some (.BinOp (.Name "_law_kept_here" (posK 3)) .Add (.List esK2 (posK 4)) (posK 5))) (posK 6)]:=by unfold esK1 esK2 posK;kernel_rfl
theorem sK1:strsOf esK1=some keptA:=by unfold esK1;kernel_rfl
theorem sK2:strsOf esK2=some keptB:=by unfold esK2;kernel_rfl
theorem kept_cat:keptA.map V.str++keptB.map V.str=keptV:=rfl
theorem no_z:∀x∈keptS,x.cps.toList.getLast?≠some 122:=by decide +kernel
theorem inV_not{x:Str}(h:¬inV (.str x) keptV=true):x∉keptS:=fun hx=>h (by
 unfold inV
 rw[List.any_eq_true]
 exact⟨.str x,List.mem_map_of_mem hx,show(x == x)=true from beq_self_eq_true x⟩)
theorem lets_low:∀c∈("abcdefghijklmnopqrstuvwxyz":Str).cps.toList,low c:=by
 rw[show("abcdefghijklmnopqrstuvwxyz":Str).cps.toList=(List.range 26).map (·+97) by decide +kernel]
 intro c h
 obtain⟨i,hi,rfl⟩:=List.mem_map.mp h
 have:=List.mem_range.mp hi
 unfold low
 omega
theorem kd_ok{l:List Nat}(h1:1<=l.length)(h2:l.length<=6)(h3:∀a∈l,low a)(h4:ofL l∉keptS):(Cr.kd (ofL l)).ok :=
 ⟨by rw[ofL_len];exact h1,by rw[ofL_len];exact h2,by rw[toList_ofL];exact h3,h4⟩
theorem lst_ne_feed{f:Addr}{H:Hp}{l:Addr}(hf:FeedAt H f)(h:H l=none):l≠f:=fun z=>by
 obtain⟨p,q,e⟩:=hf
 rw[←z,h]at e
 cases e
section
variable {P:Program}{w:World}{K:PySem.W.Frag}{mg:Str->Option Value}{base:Heap}{gT gK:Addr}{tfd kfd:FuncData}
theorem nm_L_kept:Nm ["_law_kept_here"] (defScope s_L_kept):=by decide +kernel
theorem lm_L_kept:Lm ["_law_kept_here"] (defScope s_L_kept):=by decide +kernel
theorem sc_L_kept:FnScope ["_law_kept_here"] [] (defScope s_L_kept):=⟨rfl,rfl,rfl,by decide +kernel,rfl,by decide +kernel,by decide +kernel⟩
theorem ok_kept{f:Addr}{fd:FuncData}(F:Fun K "_law_kept" "_law_kept" s_L_kept f fd):FnOk P w K mg base CX0 1 f fd [] spKeptW:=by
 refine F.ok sc_L_kept (fun vs H Q E h=>?_) (fun cdv A outer s H vs Q E hr h=>?_)
 ·obtain⟨rfl,_⟩:=h
  rfl
 obtain⟨rfl,k⟩:=h
 rw[kept_body]
 refine⟨_,pss_cons (sa sc_L_kept.nd lm_L_kept 0 (pe_lst (pa_strs sK1))) (pss_one (ps_ret (pe_op op_cat (va nm_L_kept 0) (pe_lst (pa_strs sK2))))),?_⟩
 refine⟨(by show 13<=sizeLine;decide),fun l hl=>?_⟩
 refine⟨_,rfl,(by show 5<=sizeLine;decide),fun l2 hl2=>?_⟩
 refine⟨l,l2,_,_,rfl,rfl,same_new hl2 _ _ _ upd_same,upd_same,(by show 18<=sizeLine;decide),fun p hp=>?_⟩
 refine k p _ ((same_new hl _).trans ((same_new hl2 _).trans (same_new hp _))) ?_
 rw[upd_same,kept_cat]
theorem nm_L_word:Nm ["_law_feed_here","_law_word_here"] (defScope s_L_word):=by decide +kernel
theorem lm_L_word:Lm ["_law_feed_here","_law_word_here"] (defScope s_L_word):=by decide +kernel
theorem sc_L_word:FnScope ["_law_feed_here","_law_word_here"] ["_law_feed_here"] (defScope s_L_word):=⟨rfl,rfl,rfl,by decide +kernel,rfl,by decide +kernel,by decide +kernel⟩
theorem ok_word{f:Addr}{fd:FuncData}(F:Fun K "_law_word" "_law_word" s_L_word f fd)(TK:Has P w K mg base "_law_take" 1 ["_law_feed_here","_law_many"] spTake gT tfd)(KP:Has P w K mg base "_law_kept" 1 [] spKeptW gK kfd)(z_range:mg "range"=none):FnOk P w K mg base CX0 2 f fd ["_law_feed_here"] spWord:=by
 refine F.ok sc_L_word (fun vs H Q E h=>?_) (fun cdv A outer s H vs Q E hr h=>?_)
 ·obtain⟨_,rfl,_⟩:=h
  rfl
 obtain⟨r,rfl,hf,k⟩:=h
 refine⟨_,(@pss_cons _ _ _ _ _ (@sa _ _ _ _ _ _ sc_L_word.nd lm_L_word 1 (@pe_bm _ _ _ _ _ _ _ _ _ _ _ _ PySem.F.plainAttrs_str PySem.F.slot_str_join PySem.F.type_str_join mt_join pe_str (@pa_c _ _ _ _ _ (@pe_compC _ _ _ _ _ _ _ _ _ _ _ (defScope s_L_word) ["_law_feed_here","_law_word_here"] ["_law_k"] [0] rfl rfl rfl (by decide +kernel) (@pi_range1 _ _ _ _ _ _ (by show _=_;kernel_rfl) z_range (@pa_c _ _ _ _ _ (@pe_op _ _ _ _ _ _ _ _ op_add pe_int (@pe_call _ _ _ _ _ _ _ _ _ _ _ _ _ _ _ _ TK.ok (hr.mono (by omega)) (by show _=_;kernel_rfl) TK.at' TK.kp TK.bd .nil pass0 (pa_c (va nm_L_word 0) (pa_c pe_int pa_nil)) (by decide) (by rfl) (by rfl))) pa_nil (by rfl)) (by rfl)) (fun _ _ _ _=>(pg_name (i:=0) (show(["_law_k","_law_feed_here"]:List Str).Nodup by decide +kernel) rfl (Or.inl (by kernel_rfl)) (by first|exact .inl rfl|exact .inr (by kernel_rfl)))) (fun _ _ _ _=>pifs_nil) (fun _ _ _ _=>(@pe_ix _ _ _ _ _ _ _ ix_str pe_str (@pe_call _ _ _ _ _ _ _ _ _ _ _ _ _ _ _ _ TK.ok (hr.mono (by omega)) (by show _=_;kernel_rfl) TK.at' TK.kp TK.bd .nil pass0 (pa_c (va (show Nm ["_law_k","_law_feed_here"] _ by show _=_;kernel_rfl) 1) (pa_c pe_int pa_nil)) (by decide) (by rfl) (by rfl)) (fun _ _=>rfl))) (by intro _;rfl)) pa_nil (by rfl)) (by kernel_rfl) (by kernel_rfl) (by kernel_rfl) (by kernel_rfl) (by kernel_rfl)) (by rfl) (by kernel_rfl) (by exact .inl rfl)) (@pss_cons _ _ _ _ _ (@ps_if _ _ _ _ _ _ _ _ (pt_cmpR op_in_seq (va nm_L_word 1) (pe_call0 KP.ok (hr.mono (by omega)) (by show _=_;kernel_rfl) KP.at' KP.kp KP.bd .nil pass0) (by with_unfolding_all rfl)) (@pss_one _ _ _ (@ps_ret _ _ _ _ (@pe_op _ _ _ _ _ _ _ _ op_add_str (@pe_slice _ _ _ _ _ _ _ _ _ _ sl_str (va nm_L_word 1) po_none (po_some (pe_un un_neg pe_int))) pe_str))) pss_nil) (@pss_one _ _ _ (ps_ret (va nm_L_word 1))))),?_⟩
 try dsimp only[cx_K]
 try dsimp only[cx_K]
 refine seq_cut2 ?_
 intro N1 N2 c1 c2
 fail "R"
 intro q H2 q0 q6 e2
 fail "R"
 refine comp_range (n:=(1+q).toNat) (fun i σ vs Hc=>(∃v,σ=[v,some (.ref r)])/\Ext r H2 Hc/\∃cs:List Nat,vs=(cs.map fun c=>(⟨#[c]⟩:Str)).map V.str/\cs.length=i/\∀c∈cs,low c)
  ⟨⟨none,rfl⟩,Ext.refl e2.2,[],rfl,rfl,fun _ h=>nomatch h⟩ (fun i σ vs Hc _ ⟨_,_,cs,e,el,_⟩=>by rw[e,List.length_map,List.length_map];omega) (small (by omega)) ?_ ?_
 ·rintro i' σ vs Hc hi' ⟨⟨v,rfl⟩,ext,cs,rfl,hcl,hlo⟩
  refine⟨_,rfl,r,26,rfl,by decide,by decide,ext.2,fun d H3 d0 d1 ext2=>?_⟩
  obtain⟨c,hc1,hc2⟩:=atS (z:="abcdefghijklmnopqrstuvwxyz") d0 d1
  refine⟨_,d,c,rfl,rfl,(by decide +kernel),hc1,?_⟩
  exact⟨⟨_,rfl⟩,ext.trans ext2,cs++[c],by rw[List.map_append,List.map_append];rfl,by rw[List.length_append,hcl];rfl,fun c' h=>by rcases List.mem_append.mp h with h|h;exact hlo c' h;rw[List.mem_singleton.mp h];exact lets_low c hc2⟩
 rintro σ vs Hc ⟨⟨v,rfl⟩,ext,cs,rfl,hcl,hlo⟩ p hp
 refine⟨_,p,_,rfl,rfl,SqL.of upd_same,?_,?_⟩
 ·have z:(Str.ofString "").length=0:=by decide
  rw[sum_ones,z]
  omega
 rw[join_cs]
 have kp1:Ext r H (upd Hc p (.lst ((cs.map fun c=>(⟨#[c]⟩:Str)).map V.str))):=(e2.trans ext).new hp _
 generalize upd Hc p (.lst ((cs.map fun c=>(⟨#[c]⟩:Str)).map V.str))=H4 at kp1⊢
 have ecs:(⟨cs.toArray⟩:Str)=ofL cs:=rfl
 rw[ecs]
 have lx:(ofL cs).length<=sizeLine:=small (by rw[ofL_len];omega)
 have hfl:=kept_flat
 fail "R"
 intro pk H5 s5 h5
 have kp5:=kp1.same s5
 have sq5:SqL K H5 pk keptV:=SqL.of h5
 fail "R"
 have hne:cs≠[]:=fun z=>by rw[z]at hcl;have:(0:Nat)=(1+q).toNat:=hcl;omega
 have es:=slice_init hne
 refine ite2 (fun c=>?_) (fun c=>?_)
 ·have hld:cs.dropLast.length=cs.length-1:=List.length_dropLast
  have l1:(Txt.slice (ofL cs) none (some (-1))).length+("z":Str).length<=sizeLine:=small (by rw[es,ofL_len];show cs.dropLast.length+1<=1000;omega)
  fail "R"
  have ez:ofL cs.dropLast++("z":Str)=ofL (cs.dropLast++[122]):=by
   show ofL cs.dropLast++ofL [122]=_
   rw[app_ofL]
  show Q (.str (Txt.slice (ofL cs) none (some (-1))++("z":Str))) H5
  rw[es,ez]
  refine k _ _ kp5 (kd_ok (by rw[List.length_append];show 1<=cs.dropLast.length+1;omega) (by rw[List.length_append];show cs.dropLast.length+1<=6;omega) (fun a ha=>?_) (fun hm=>?_))
  ·rcases List.mem_append.mp ha with h|h
   ·exact hlo a (List.dropLast_subset cs h)
   ·rw[List.mem_singleton.mp h];exact⟨by decide,by decide⟩
  ·exact no_z _ hm (by rw[toList_ofL];simp)
 ·fail "R"
  exact k _ _ kp5 (kd_ok (by omega) (by omega) hlo (inV_not c))
def spAnyK(K:PySem.W.Frag):Sp:=fun vs H Q _=>∃(f l:Addr) (x1 x2:Str),vs=[.ref f,.ref l,.int 4]/\FeedAt H f/\H l=some (.lst [.str x1,.str x2])/\(Cr.kd x1).ok/\(Cr.kd x2).ok /\
 ∀(v:V) (H':Hp) (c:Cr) (d:Nat),Ext f H H'->Rp K H' (kT c d) v->c.ok->d<=5->Q v H'
theorem nm_L_any_kind:Nm ["_law_feed_here","_law_words","_law_sorts","_law_form","_law_kind","_law_k"] (defScope s_L_any_kind):=by decide +kernel
theorem lm_L_any_kind:Lm ["_law_feed_here","_law_words","_law_sorts","_law_form","_law_kind","_law_k"] (defScope s_L_any_kind):=by decide +kernel
theorem sc_L_any_kind:FnScope ["_law_feed_here","_law_words","_law_sorts","_law_form","_law_kind","_law_k"] ["_law_feed_here","_law_words","_law_sorts"] (defScope s_L_any_kind):=⟨rfl,rfl,rfl,by decide +kernel,rfl,by decide +kernel,by decide +kernel⟩
theorem ok_anyk{f:Addr}{fd:FuncData}(F:Fun K "_law_any_kind" "_law_any_kind" s_L_any_kind f fd)(TK:Has P w K mg base "_law_take" 1 ["_law_feed_here","_law_many"] spTake gT tfd)(z_range:mg "range"=none)(z_len:mg "len"=none):FnOk P w K mg base CX0 2 f fd ["_law_feed_here","_law_words","_law_sorts"] (spAnyK K):=by
 refine F.ok sc_L_any_kind (fun vs H Q E h=>?_) (fun cdv A outer s H vs Q E hr h=>?_)
 ·obtain⟨_,_,_,_,rfl,_⟩:=h
  rfl
 obtain⟨fe,l,x1,x2,rfl,hf,hl,o1,o2,k⟩:=h
 refine⟨_,(@pss_cons _ _ _ _ _ (@sa _ _ _ _ _ _ sc_L_any_kind.nd lm_L_any_kind 3 (@pe_call _ _ _ _ _ _ _ _ _ _ _ _ _ _ _ _ TK.ok (hr.mono (by omega)) (by show _=_;kernel_rfl) TK.at' TK.kp TK.bd .nil pass0 (@pa_c _ _ _ _ _ (va nm_L_any_kind 0) (pa_c (va nm_L_any_kind 2) pa_nil) (by rfl)) (by decide) (by rfl) (by rfl)) (by rfl) (by kernel_rfl) (by exact .inl rfl)) (@pss_cons _ _ _ _ _ (sa sc_L_any_kind.nd lm_L_any_kind 4 pe_str) (@pss_cons _ _ _ _ _ (@ps_if _ _ _ _ _ _ _ _ (pt_cmpR op_eq (va nm_L_any_kind 3) pe_int (nomark _)) (@pss_one _ _ _ (@sa _ _ _ _ _ _ sc_L_any_kind.nd lm_L_any_kind 4 (@pe_tup _ _ _ _ _ (@pa_c _ _ _ _ _ pe_str (@pa_c _ _ _ _ _ (@pe_ix _ _ _ _ _ _ _ ix_list (va nm_L_any_kind 1) (@pe_call _ _ _ _ _ _ _ _ _ _ _ _ _ _ _ _ TK.ok (hr.mono (by omega)) (by show _=_;kernel_rfl) TK.at' TK.kp TK.bd .nil pass0 (@pa_c _ _ _ _ _ (va nm_L_any_kind 0) (@pa_c _ _ _ _ _ (@pe_callB _ _ _ _ _ _ _ _ _ call_len_seq (by show _=_;kernel_rfl) z_len PySem.boot_len (pa_c (va nm_L_any_kind 1) pa_nil) (by decide) (by decide) (by rfl) (by rfl)) pa_nil (by rfl)) (by rfl)) (by decide) (by rfl) (by rfl)) (fun _ _=>rfl)) pa_nil (by rfl)) (by rfl))) (by rfl) (by kernel_rfl) (by exact .inl rfl))) pss_nil) (@pss_cons _ _ _ _ _ (@ps_if _ _ _ _ _ _ _ _ (pt_cmpR op_gt (va nm_L_any_kind 3) pe_int (nomark _)) (@pss_one _ _ _ (@sa _ _ _ _ _ _ sc_L_any_kind.nd lm_L_any_kind 4 (@pe_tup _ _ _ _ _ (@pa_c _ _ _ _ _ (@pe_ix _ _ _ _ _ _ _ ix_list (@pe_lst _ _ _ _ (pa_c pe_str (pa_c pe_str pa_nil))) (pe_op op_sub (va nm_L_any_kind 3) pe_int) (fun _ _=>rfl)) (@pa_c _ _ _ _ _ (@pe_ix _ _ _ _ _ _ _ ix_list (@pe_lst _ _ _ _ (@pa_c _ _ _ _ _ (@pe_call _ _ _ _ _ _ _ _ _ _ _ _ _ _ _ _ TK.ok (hr.mono (by omega)) (by show _=_;kernel_rfl) TK.at' TK.kp TK.bd .nil pass0 (pa_c (va nm_L_any_kind 0) (pa_c pe_int pa_nil)) (by decide) (by rfl) (by rfl)) (@pa_c _ _ _ _ _ (@pe_call _ _ _ _ _ _ _ _ _ _ _ _ _ _ _ _ TK.ok (hr.mono (by omega)) (by show _=_;kernel_rfl) TK.at' TK.kp TK.bd .nil pass0 (pa_c (va nm_L_any_kind 0) (pa_c pe_int pa_nil)) (by decide) (by rfl) (by rfl)) pa_nil (by rfl)) (by rfl))) (@pe_call _ _ _ _ _ _ _ _ _ _ _ _ _ _ _ _ TK.ok (hr.mono (by omega)) (by show _=_;kernel_rfl) TK.at' TK.kp TK.bd .nil pass0 (pa_c (va nm_L_any_kind 0) (pa_c pe_int pa_nil)) (by decide) (by rfl) (by rfl)) (fun _ _=>rfl)) pa_nil (by rfl)) (by rfl))) (by rfl) (by kernel_rfl) (by exact .inl rfl))) pss_nil) (@pss_cons _ _ _ _ _ (@ps_for _ _ _ _ _ _ _ _ PassesOwn.never rfl (@pi_range1 _ _ _ _ _ _ (by show _=_;kernel_rfl) z_range (@pa_c _ _ _ _ _ (@pe_call _ _ _ _ _ _ _ _ _ _ _ _ _ _ _ _ TK.ok (hr.mono (by omega)) (by show _=_;kernel_rfl) TK.at' TK.kp TK.bd .nil pass0 (pa_c (va nm_L_any_kind 0) (pa_c pe_int pa_nil)) (by decide) (by rfl) (by rfl)) pa_nil (by rfl)) (by rfl)) (ga sc_L_any_kind.nd lm_L_any_kind 5) (@pss_one _ _ _ (@sa _ _ _ _ _ _ sc_L_any_kind.nd lm_L_any_kind 4 (@pe_tup _ _ _ _ _ (@pa_c _ _ _ _ _ pe_str (pa_c (va nm_L_any_kind 4) pa_nil) (by rfl))) (by rfl) (by kernel_rfl) (by exact .inl rfl))) (by intro _;rfl)) (@pss_one _ _ _ (ps_ret (va nm_L_any_kind 4)))))))),?_⟩
 try dsimp only[cx_K]
 try dsimp only[cx_K]
 have nlf:l≠fe:=fun z=>by obtain⟨p,q,e⟩:=hf;rw[←z,hl]at e;cases e
 refine seq_cut5 ?_
 intro N1 N2 N3 N4 N5 c1 c2 c3 c4 c5
 fail "R"
 intro fm H1 f0 f4 e1
 have hf1:=e1.2
 have hl1:=e1.1 _ _ nlf hl
 have rest:∀(v:V) (H3:Hp) (c:Cr),Ext fe H H3->Rp K H3 (crT c) v->c.ok->N4 [some (.ref fe),some (.ref l),some (.int 4),some (.int fm),some v,none] H3:=fun v H3 c e3 r3 hc=>by
  have hf3:=e3.2
  clear c1 c2 c3
  fail "R"
  intro m H4 m0 m6 e4
  fail "R"
  refine for_range (fun i σ H5=>∃v5 y,σ=[some (.ref fe),some (.ref l),some (.int 4),some (.int fm),some v5,y]/\Ext fe H H5/\Rp K H5 (kT c i) v5) ⟨v,_,rfl,e3.trans e4,r3.kt (e4.kt hf3)⟩ ?_ ?_
  ·rintro i σ H5 hi ⟨v5,y,rfl,e5,r5⟩
   fail "R"
   intro p hp
   exact⟨_,_,rfl,e5.same (same_new hp _),Rp.new (K:=K) hp (.cons .s (.one r5))⟩
  ·rintro σ H5 ⟨v5,y,rfl,e5,r5⟩
   fail "R"
   exact k _ _ c _ e5 r5 hc (by omega)
 clear c4 c5
 have two:∀(H3:Hp) (nm:Str) (g:Int->Cr),Ext fe H H3->(∀n,crT (g n)=.t [.s nm,.i n])->(∀n,0<=n/\n<100->(g n).ok)->∀n:Int,0<=n->n<100->∀p,H3 p=none->N4 [some (.ref fe),some (.ref l),some (.int 4),some (.int fm),some (.ref p),none] (upd H3 p (.tup [.str nm,.int n])):=fun H3 nm g e3 hg ho n n0 n1 p hp =>
  rest _ _ (g n) (e3.same (same_new hp _)) (by rw[hg];exact Rp.new (K:=K) hp (.cons .s (.one .i))) (ho n ⟨n0,n1⟩)
 have hfm:fm=0\/fm=1\/fm=2\/fm=3:=by omega
 rcases hfm with rfl|rfl|rfl|rfl
 ·fail "R"
  exact rest _ _ .num e1 .s trivial
 ·fail "R"
  intro r5 H5 r50 r51 x5
  have h5:=x5.1 _ _ (fun z=>by obtain⟨p,q,e⟩:=hf1;rw[←z,hl1]at e;cases e) hl1
  obtain⟨v5,hv5,hm5⟩:=atI_of (xs:=[V.str x1,V.str x2]) r50 r51
  obtain⟨y5,rfl,hy5⟩:∃y,v5=.str y/\(Cr.kd y).ok:=by
   rcases List.mem_cons.mp hm5 with rfl|hm5
   ·exact⟨x1,rfl,o1⟩
   ·rw[List.mem_singleton.mp hm5];exact⟨x2,rfl,o2⟩
  fail "R"
  intro p6 hp6
  have r6:=Rp.new (K:=K) (xs:=[.s "kind",.s y5]) hp6 (.cons .s (.one .s))
  have e6:=(e1.trans x5).same (same_new hp6 (.tup [.str "kind",.str y5]))
  fail "R"
  exact rest _ _ (.kd y5) e6 r6 hy5
 ·fail "R"
  intro p hp
  have e2:Ext fe H _:=e1.same (same_new hp (.lst [.str "open",.str "any"]))
  have h2:upd H1 p (.lst [.str "open",.str "any"]) p=some (.lst [.str "open",.str "any"]):=upd_same
  have hf2:=e2.2
  generalize upd H1 p (.lst [.str "open",.str "any"])=H2 at e2 h2 hf2⊢
  fail "R"
  intro a3 H3 a30 a31 e3
  have hf3:=e3.2
  fail "R"
  intro b4 H4 b40 b41 e4
  have hf4:=e4.2
  fail "R"
  intro p5 hp5
  have e5:Ext fe H _:=((e2.trans e3).trans e4).same (same_new hp5 (.lst [.int a3,.int b4]))
  have h5:upd H4 p5 (.lst [.int a3,.int b4]) p5=some (.lst [.int a3,.int b4]):=upd_same
  have hf5:=e5.2
  have n5:p5≠fe:=lst_ne_feed hf4 hp5
  generalize upd H4 p5 (.lst [.int a3,.int b4])=H5 at e5 h5 hf5⊢
  fail "R"
  intro j6 H6 j60 j61 e6
  have h6:=e6.1 _ _ n5 h5
  have e06:=e5.trans e6
  have hj:j6=0\/j6=1:=by omega
  rcases hj with rfl|rfl
  ·fail "R"
   intro p7 hp7
   exact two _ _ .op e06 (fun _=>rfl) (fun _ h=>h) a3 a30 (by omega) p7 hp7
  ·fail "R"
   intro p7 hp7
   exact two _ _ .op e06 (fun _=>rfl) (fun _ h=>h) b4 b40 (by omega) p7 hp7
 ·fail "R"
  intro p hp
  have e2:Ext fe H _:=e1.same (same_new hp (.lst [.str "open",.str "any"]))
  have h2:upd H1 p (.lst [.str "open",.str "any"]) p=some (.lst [.str "open",.str "any"]):=upd_same
  have hf2:=e2.2
  generalize upd H1 p (.lst [.str "open",.str "any"])=H2 at e2 h2 hf2⊢
  fail "R"
  intro a3 H3 a30 a31 e3
  have hf3:=e3.2
  fail "R"
  intro b4 H4 b40 b41 e4
  have hf4:=e4.2
  fail "R"
  intro p5 hp5
  have e5:Ext fe H _:=((e2.trans e3).trans e4).same (same_new hp5 (.lst [.int a3,.int b4]))
  have h5:upd H4 p5 (.lst [.int a3,.int b4]) p5=some (.lst [.int a3,.int b4]):=upd_same
  have hf5:=e5.2
  have n5:p5≠fe:=lst_ne_feed hf4 hp5
  generalize upd H4 p5 (.lst [.int a3,.int b4])=H5 at e5 h5 hf5⊢
  fail "R"
  intro j6 H6 j60 j61 e6
  have h6:=e6.1 _ _ n5 h5
  have e06:=e5.trans e6
  have hj:j6=0\/j6=1:=by omega
  rcases hj with rfl|rfl
  ·fail "R"
   intro p7 hp7
   exact two _ _ .an e06 (fun _=>rfl) (fun _ h=>h) a3 a30 (by omega) p7 hp7
  ·fail "R"
   intro p7 hp7
   exact two _ _ .an e06 (fun _=>rfl) (fun _ h=>h) b4 b40 (by omega) p7 hp7
end
end G07
namespace L2
open PySem PySem.Spec PyProof.Rows
section
variable {X:Cx}
theorem call_isTt(K:PySem.W.Frag)(hK:X.K=K):CallR X (.builtin "isinstance") (fun xs H Q=>∃x,xs=[x,.ty "tuple"]/\((∃p ys,x=.ref p/\SqT K H p ys/\Q (.bl true) H)\/(∃z,x=.str z/\Q (.bl false) H)\/∃z,x=.int z/\Q (.bl false) H)):=by
 subst hK
 intro pins s σ H xs us Q I r h
 obtain⟨x,rfl,h⟩:=h
 obtain⟨u,w',rfl,r1,r2⟩:=vals2 r
 obtain rfl:w'=Value.type "tuple":=r2
 rcases h with⟨p,ys,rfl,hq,q⟩|⟨z,rfl,q⟩|⟨z,rfl,q⟩
 ·obtain rfl:u=Value.ref p:=r1
  obtain⟨its,rv,pl,hz⟩:=I.tuple hq
  obtain⟨o,ho,hc,n,hd⟩:=pl
  exact IsiPair.tuple_tuple ho hc ⟨.bl true,H,I,rfl,q⟩
 ·obtain⟨t,rfl⟩:=r1
  exact IsiPair.str_tuple ⟨.bl false,H,I.tok _,rfl,q⟩
 ·obtain⟨t,rfl⟩:=r1
  exact IsiPair.int_tuple ⟨.bl false,H,I.tok _,rfl,q⟩
end
section
variable {X:Cx}
theorem call_isSt(K:PySem.W.Frag)(hK:X.K=K):CallR X (.builtin "isinstance") (fun xs H Q=>∃x,xs=[x,.ty "str"]/\((∃p ys,x=.ref p/\SqT K H p ys/\Q (.bl false) H)\/(∃z,x=.str z/\Q (.bl true) H)\/∃z,x=.int z/\Q (.bl false) H)):=by
 subst hK
 intro pins s σ H xs us Q I r h
 obtain⟨x,rfl,h⟩:=h
 obtain⟨u,w',rfl,r1,r2⟩:=vals2 r
 obtain rfl:w'=Value.type "str":=r2
 rcases h with⟨p,ys,rfl,hq,q⟩|⟨z,rfl,q⟩|⟨z,rfl,q⟩
 ·obtain rfl:u=Value.ref p:=r1
  obtain⟨its,rv,pl,hz⟩:=I.tuple hq
  obtain⟨o,ho,hc,n,hd⟩:=pl
  exact IsiPair.tuple_str ho hc ⟨.bl false,H,I.tok _,rfl,q⟩
 ·obtain⟨t,rfl⟩:=r1
  exact IsiPair.str_str ⟨.bl true,H,I.tok _,rfl,q⟩
 ·obtain⟨t,rfl⟩:=r1
  exact IsiPair.int_str ⟨.bl false,H,I.tok _,rfl,q⟩
end
end L2
namespace G07
open PySem L2
inductive Tw:T->Prop
 |s (x:Str):Tw (.s x)
 |i (n:Int):Tw (.i n)
 |p {a b:T}:Tw a->Tw b->Tw (.t [a,b])
theorem kT_tw(c:Cr):∀d,Tw (kT c d)
 |0=>by
  cases c with
  |num=>exact .s _
  |kd x=>exact .p (.s _) (.s _)
  |op n=>exact .p (.s _) (.i _)
  |an n=>exact .p (.s _) (.i _)
 |d+1=>.p (.s _) (kT_tw c d)
def spAlike(K:PySem.W.Frag)(n:Nat):Sp:=fun vs H Q _=>∃(v u:V) (t:T),vs=[v,u]/\Rp K H t v/\Rp K H t u/\Tw t/\t.dep<n/\∀H',Same H H'->Q (.bl true) H'
section
variable {P:Program}{w:World}{K:PySem.W.Frag}{mg:Str->Option Value}{base:Heap}{gA:Addr}{afd:FuncData}
theorem nm_L_alike:Nm ["_law_found","_law_due"] (defScope s_L_alike):=by decide +kernel
theorem sc_L_alike:FnScope ["_law_found","_law_due"] ["_law_found","_law_due"] (defScope s_L_alike):=⟨rfl,rfl,rfl,by decide +kernel,rfl,by decide +kernel,by decide +kernel⟩
theorem ok_alike{f:Addr}{fd:FuncData}{n j:Nat}(hj:1<=j)(F:Fun K "_law_alike" "_law_alike" s_L_alike f fd)(LA:Has P w K mg base "_law_alike" j ["_law_found","_law_due"] (spAlike K n) gA afd)(z_tuple:mg "tuple"=none)(z_str:mg "str"=none)(z_int:mg "int"=none)(z_bool:mg "bool"=none)(z_isinstance:mg "isinstance"=none)(z_len:mg "len"=none)(z_all:mg "all"=none)(z_zip:mg "zip"=none) :
  FnOk P w K mg base CX0 (j+1) f fd ["_law_found","_law_due"] (spAlike K (n+1)):=by
 refine F.ok sc_L_alike (fun vs H Q E h=>?_) (fun cdv A outer s H vs Q E hr h=>?_)
 ·obtain⟨_,_,_,rfl,_⟩:=h
  rfl
 obtain⟨v,u,t,rfl,rv,ru,tw,hd,k⟩:=h
 refine⟨_,(@pss_cons _ _ _ _ _ (@ps_if _ _ _ _ _ _ _ _ (@pt_val _ _ _ (@pe_callB _ _ _ _ _ _ _ _ _ (call_isTt K rfl) (by show _=_;kernel_rfl) z_isinstance PyProof.Rows.boot_isinstance (@pa_c _ _ _ _ _ (va nm_L_alike 1) (pa_c (pe_bltn (v:=.ty "tuple") (by show _=_;kernel_rfl) z_tuple (by decide +kernel) rfl) pa_nil) (by rfl)) (by decide) (by decide) (by rfl) (by rfl)) (by intro _;rfl)) (@pss_cons _ _ _ _ _ (@ps_if _ _ _ _ _ _ _ _ (PW.pt (@pw_or _ _ _ _ _ _ _ (@pt_not _ _ _ _ (@pt_val _ _ _ (@pe_callB _ _ _ _ _ _ _ _ _ (call_isTt K rfl) (by show _=_;kernel_rfl) z_isinstance PyProof.Rows.boot_isinstance (@pa_c _ _ _ _ _ (va nm_L_alike 0) (pa_c (pe_bltn (v:=.ty "tuple") (by show _=_;kernel_rfl) z_tuple (by decide +kernel) rfl) pa_nil) (by rfl)) (by decide) (by decide) (by rfl) (by rfl)) (by intro _;rfl))) (@pw_or1 _ _ _ _ (@pt_cmpR _ _ _ _ _ _ _ _ op_ne (@pe_callB _ _ _ _ _ _ _ _ _ call_len_seq (by show _=_;kernel_rfl) z_len PySem.boot_len (pa_c (va nm_L_alike 0) pa_nil) (by decide) (by decide) (by rfl) (by rfl)) (@pe_callB _ _ _ _ _ _ _ _ _ call_len_seq (by show _=_;kernel_rfl) z_len PySem.boot_len (pa_c (va nm_L_alike 1) pa_nil) (by decide) (by decide) (by rfl) (by rfl)) (nomark _))))) (pss_one (ps_ret pe_bl)) pss_nil) (@pss_one _ _ _ (@ps_ret _ _ _ _ (@pe_callB _ _ _ _ _ _ _ _ _ (call_all rfl) (by show _=_;kernel_rfl) z_all PyProof.Rows.boot_all (@pa_c _ _ _ _ _ (@pe_compC _ _ _ _ _ _ _ _ _ _ _ (defScope s_L_alike) ["_law_found","_law_due"] ["_law_one","_law_other"] [] rfl rfl rfl (by decide +kernel) (pi_zip K rfl (by show _=_;kernel_rfl) z_zip (@pa_c _ _ _ _ _ (va nm_L_alike 0) (pa_c (va nm_L_alike 1) pa_nil) (by rfl))) (fun _ _ _ _=>(@pg_tupK _ _ _ _ _ (2) K rfl rfl (@pgs_cons _ _ _ _ _ (pg_name (i:=0) (show(["_law_one","_law_other"]:List Str).Nodup by decide +kernel) rfl (Or.inl (by kernel_rfl)) (by first|exact .inl rfl|exact .inr (by kernel_rfl))) (pgs_cons (pg_name (i:=1) (show(["_law_one","_law_other"]:List Str).Nodup by decide +kernel) rfl (Or.inl (by kernel_rfl)) (by first|exact .inl rfl|exact .inr (by kernel_rfl))) pgs_nil) (by rfl)) (by rfl) (by rfl))) (fun _ _ _ _=>pifs_nil) (fun _ _ _ _=>(@pe_call _ _ _ _ _ _ _ _ _ _ _ _ _ _ _ _ LA.ok (hr.mono (by omega)) (by show _=_;kernel_rfl) LA.at' LA.kp LA.bd .nil pass0 (@pa_c _ _ _ _ _ (va (show Nm ["_law_one","_law_other"] _ by show _=_;kernel_rfl) 0) (pa_c (va (show Nm ["_law_one","_law_other"] _ by show _=_;kernel_rfl) 1) pa_nil) (by rfl)) (by decide) (by rfl) (by rfl))) (by intro _;rfl)) pa_nil (by rfl)) (by decide) (by decide) (by rfl) (by rfl))))) pss_nil) (@pss_cons _ _ _ _ _ (@ps_if _ _ _ _ _ _ _ _ (@pt_val _ _ _ (@pe_callB _ _ _ _ _ _ _ _ _ (call_isSt K rfl) (by show _=_;kernel_rfl) z_isinstance PyProof.Rows.boot_isinstance (@pa_c _ _ _ _ _ (va nm_L_alike 1) (pa_c (pe_bltn (v:=.ty "str") (by show _=_;kernel_rfl) z_str (by decide +kernel) rfl) pa_nil) (by rfl)) (by decide) (by decide) (by rfl) (by rfl)) (by intro _;rfl)) (@pss_one _ _ _ (@ps_ret _ _ _ _ (@pe_and _ _ _ _ _ _ _ (@pe_callB _ _ _ _ _ _ _ _ _ (call_isSt K rfl) (by show _=_;kernel_rfl) z_isinstance PyProof.Rows.boot_isinstance (@pa_c _ _ _ _ _ (va nm_L_alike 0) (pa_c (pe_bltn (v:=.ty "str") (by show _=_;kernel_rfl) z_str (by decide +kernel) rfl) pa_nil) (by rfl)) (by decide) (by decide) (by rfl) (by rfl)) (@pe_one _ _ _ _ _ (pe_cmpR op_eq (va nm_L_alike 0) (va nm_L_alike 1) (nomark _)))))) pss_nil) (@pss_one _ _ _ (@ps_ret _ _ _ _ (@pe_and _ _ _ _ _ _ _ (@pe_callB _ _ _ _ _ _ _ _ _ call_isB (by show _=_;kernel_rfl) z_isinstance PyProof.Rows.boot_isinstance (@pa_c _ _ _ _ _ (va nm_L_alike 0) (pa_c (pe_bltn (v:=.ty "int") (by show _=_;kernel_rfl) z_int (by decide +kernel) rfl) pa_nil) (by rfl)) (by decide) (by decide) (by rfl) (by rfl)) (@pe_and _ _ _ _ _ _ _ (@pe_not _ _ _ _ (@pe_callB _ _ _ _ _ _ _ _ _ call_isB (by show _=_;kernel_rfl) z_isinstance PyProof.Rows.boot_isinstance (@pa_c _ _ _ _ _ (va nm_L_alike 0) (pa_c (pe_bltn (v:=.ty "bool") (by show _=_;kernel_rfl) z_bool (by decide +kernel) rfl) pa_nil) (by rfl)) (by decide) (by decide) (by rfl) (by rfl))) (@pe_one _ _ _ _ _ (pe_cmpR op_eq (va nm_L_alike 0) (va nm_L_alike 1) (nomark _))))))))),?_⟩
 try dsimp only[cx_K]
 try dsimp only[cx_K]
 refine seq_cut2 ?_
 intro N1 N2 c1 c2
 cases tw with
 |s x =>
  obtain rfl:=rv.inv_s
  obtain rfl:=ru.inv_s
  fail "R"
  refine .inr (.inl ⟨_,rfl,?_⟩)
  fail "R"
  refine .inr (.inl ⟨_,rfl,?_⟩)
  fail "R"
  refine .inr (.inl ⟨_,rfl,?_⟩)
  fail "R"
  rw[show decide (V.str x=V.str x)=true from decide_eq_true rfl]
  exact k _ (Same.refl _)
 |i m =>
  obtain rfl:=rv.inv_i
  obtain rfl:=ru.inv_i
  fail "R"
  refine .inr (.inr ⟨_,rfl,?_⟩)
  fail "R"
  refine .inr (.inr ⟨_,rfl,?_⟩)
  fail "R"
  rw[show decide (V.int m=V.int m)=true from decide_eq_true rfl]
  exact k _ (Same.refl _)
 |@p a b ta tb =>
  obtain⟨va,v1,v2,rfl,vsq,g1,g2⟩:=rv.t2
  obtain⟨ua,u1,u2,rfl,usq,q1,q2⟩:=ru.t2
  fail "R"
  refine .inl ⟨_,_,rfl,usq,?_⟩
  fail "R"
  refine .inl ⟨_,_,rfl,vsq,?_⟩
  have hb1:SqB K true H va [v1,v2]:=vsq
  have hb2:SqB K true H ua [u1,u2]:=usq
  have da:a.dep<n:=by have:=T.deps_mem (xs:=[a,b]) (x:=a) (.head _);unfold T.dep at hd;omega
  have db:b.dep<n:=by have:=T.deps_mem (xs:=[a,b]) (x:=b) (.tail _ (.head _));unfold T.dep at hd;omega
  fail "R"
  refine comp_zip (K:=K) (xs:=[v1,v2]) (ys:=[u1,u2]) (fun i σ us H5=>(∃x y,σ=[x,y])/\Same H H5/\us=(List.replicate i true).map V.bl) ⟨⟨_,_,rfl⟩,Same.refl _,rfl⟩ ?_ (by show min 2 2<=sizeLine;decide) ?_ ?_ ?_ ?_
  ·rintro i σ us H5 hi ⟨_,_,rfl⟩
   rw[List.length_map,List.length_replicate]
   exact Nat.le_refl _
  ·rintro i σ us H5 hi ⟨_,s5,_⟩
   exact vsq.same s5
  ·rintro i σ us H5 hi ⟨_,s5,_⟩
   exact usq.same s5
  ·rintro i x y σ us H5 p6 hx hy ⟨⟨_,_,rfl⟩,s5,rfl⟩ hp6
   obtain⟨t6,ht6,rx,ry,hd6⟩:∃t6,Tw t6/\Rp K H t6 x/\Rp K H t6 y/\t6.dep<n:=by
    match i,hx,hy with
    |0,hx,hy=>cases hx;cases hy;exact⟨a,ta,g1,q1,da⟩
    |1,hx,hy=>cases hx;cases hy;exact⟨b,tb,g2,q2,db⟩
    |i+2,hx,_=>simp at hx
   have s6:=same_new hp6 (.tup [x,y])
   have h6:upd H5 p6 (.tup [x,y]) p6=some (.tup [x,y]):=upd_same
   have rx6:=rx.same (s5.trans s6)
   have ry6:=ry.same (s5.trans s6)
   generalize upd H5 p6 (.tup [x,y])=H6 at s6 h6 rx6 ry6⊢
   fail "R"
   intro H7 s7
   fail "R"
   ·exact(s5.trans s6).trans s7
   ·rw[List.replicate_succ',List.map_append]
    rfl
  ·rintro σ us H5 ⟨_,s5,rfl⟩ p6 hp6
   fail "R"
   exact k _ (s5.trans (same_new hp6 _))
end
def spCoreTx(K:PySem.W.Frag):Sp:=fun vs H Q _=>∃(v:V) (c:Cr),vs=[v]/\Rp K H (crT c) v/\c.ok/\Q (.str (ofL c.L)) H
def spKindTx(K:PySem.W.Frag):Sp:=fun vs H Q _=>∃(v:V) (c:Cr) (d:Nat),vs=[v]/\Rp K H (kT c d) v/\c.ok/\d<=20/\Q (.str (kS c d)) H
def spLKT(K:PySem.W.Frag)(n:Nat):Sp:=fun vs H Q _=>∃(v:V) (c:Cr) (d:Nat),vs=[v]/\Rp K H (kT c d) v/\c.ok/\d<=20/\d<n/\∀H',Same H H'->Q (.str (kS c d)) H'
theorem kL_flat(c:Cr):∀d,kL c d=(List.replicate d [40,114,111,119,32]).flatten++c.L++(List.replicate d [41]).flatten
 |0=>by simp[kL]
 |d+1=>by
  show [40,114,111,119,32]++(kL c d++[41])=_
  rw[kL_flat c d,List.replicate_succ,List.flatten_cons,List.replicate_succ',List.flatten_append]
  simp
theorem crT_dep(c:Cr):(crT c).dep<=1:=by
 cases c with
 |num=>exact Nat.zero_le _
 |kd x=>exact dpt (d:=0) (dpc dps (dpc dps dpn))
 |op n=>exact dpt (d:=0) (dpc dps (dpc dpi dpn))
 |an n=>exact dpt (d:=0) (dpc dps (dpc dpi dpn))
theorem kT_dep(c:Cr):∀d,(kT c d).dep<=d+1
 |0=>crT_dep c
 |d+1=>dpt (d:=d+1) (dpc dps (dpc (kT_dep c d) dpn))
abbrev kv3:List (Key×V):=[(.inr "kind",.str ""),(.inr "open",.str "?"),(.inr "any",.str "'")]
theorem mg_kv3:mergeK [] kv3=kv3:=by kernel_rfl
section
variable {P:Program}{w:World}{K:PySem.W.Frag}{mg:Str->Option Value}{base:Heap}{gC gD gI gL:Addr}{cfd dfd ifd lfd:FuncData}
theorem nm_core_text:Nm ["core"] (defScope s_core_text):=by decide +kernel
theorem sc_core_text:FnScope ["core"] ["core"] (defScope s_core_text):=⟨rfl,rfl,rfl,by decide +kernel,rfl,by decide +kernel,by decide +kernel⟩
theorem ok_coretx{f:Addr}{fd:FuncData}(F:Fun K "core_text" "core_text" s_core_text f fd):FnOk P w K mg base CX0 1 f fd ["core"] (spCoreTx K):=by
 refine F.ok sc_core_text (fun vs H Q E h=>?_) (fun cdv A outer s H vs Q E hr h=>?_)
 ·obtain⟨_,_,rfl,_⟩:=h
  rfl
 obtain⟨v,c,rfl,r,hc,k⟩:=h
 refine⟨_,(@pss_cons _ _ _ _ _ (@ps_if _ _ _ _ _ _ _ _ (pt_cmpR (op_eqT hr.u150) (va nm_core_text 0) pe_str (nomark _)) (pss_one (ps_ret pe_str)) pss_nil) (@pss_cons _ _ _ _ _ (@ps_if _ _ _ _ _ _ _ _ (@pt_cmpR _ _ _ _ _ _ _ _ op_eq (pe_ix ix_tup (va nm_core_text 0) pe_int (fun _ _=>rfl)) pe_str (nomark _)) (@pss_one _ _ _ (@ps_ret _ _ _ _ (pe_fA (pe_ix ix_tup (va nm_core_text 0) pe_int (fun _ _=>rfl))))) pss_nil) (@pss_cons _ _ _ _ _ (@ps_if _ _ _ _ _ _ _ _ (@pt_cmpR _ _ _ _ _ _ _ _ op_eq (pe_ix ix_tup (va nm_core_text 0) pe_int (fun _ _=>rfl)) pe_str (nomark _)) (@pss_one _ _ _ (@ps_ret _ _ _ _ (pe_fA (pe_ix ix_tup (va nm_core_text 0) pe_int (fun _ _=>rfl))))) pss_nil) (@pss_one _ _ _ (@ps_ret _ _ _ _ (pe_ix ix_tup (va nm_core_text 0) pe_int (fun _ _=>rfl))))))),?_⟩
 try dsimp only[cx_K]
 try dsimp only[cx_K]
 have rn:Rp K H (.s "num") (.str "num"):=.s
 have dep:=crT_dep c
 cases c with
 |num =>
  obtain rfl:=(show Rp K H (.s "num") v from r).inv_s
  fail "R"
  refine ite2 (fun _=>?_) (fun z=>absurd (decide_eq_true rfl) z)
  fail "R"
  exact k
 |kd x =>
  obtain⟨ka,k1,k2,rfl,ksq,g1,g2⟩:=(show Rp K H (.t [.s "kind",.s x]) v from r).t2
  obtain rfl:=g1.inv_s
  obtain rfl:=g2.inv_s
  fail "R"
  rw[show ofL (Cr.kd x).L=x from ofL_toList x]at k
  exact k
 |op n =>
  obtain⟨ka,k1,k2,rfl,ksq,g1,g2⟩:=(show Rp K H (.t [.s "open",.i n]) v from r).t2
  obtain rfl:=g1.inv_s
  obtain rfl:=g2.inv_i
  have hn:0<=n/\n<100:=hc
  have hl:(Str.ofString (toString n)).length<=2:=by have:=(digs_ok hn).2.1;unfold digs at this;rw[Array.length_toList]at this;exact this
  fail "R"
  refine .inr ⟨n,rfl,by omega,(by show 1+(Str.ofString (toString n)).length<=100000;omega),?_⟩
  have e:ofL [63]++Str.ofString (toString n)=ofL (63::digs n):=by
   rw[←ofL_toList (Str.ofString (toString n)),app_ofL]
   rfl
  rw[show ofL (Cr.op n).L=ofL [63]++Str.ofString (toString n)from e.symm]at k
  exact k
 |an n =>
  obtain⟨ka,k1,k2,rfl,ksq,g1,g2⟩:=(show Rp K H (.t [.s "any",.i n]) v from r).t2
  obtain rfl:=g1.inv_s
  obtain rfl:=g2.inv_i
  have hn:0<=n/\n<100:=hc
  have hl:(Str.ofString (toString n)).length<=2:=by have:=(digs_ok hn).2.1;unfold digs at this;rw[Array.length_toList]at this;exact this
  fail "R"
  refine .inr ⟨n,rfl,by omega,(by show 1+(Str.ofString (toString n)).length<=100000;omega),?_⟩
  have e:ofL [39]++Str.ofString (toString n)=ofL (39::digs n):=by
   rw[←ofL_toList (Str.ofString (toString n)),app_ofL]
   rfl
  rw[show ofL (Cr.an n).L=ofL [39]++Str.ofString (toString n)from e.symm]at k
  exact k
theorem nm_kind_text:Nm ["kind","depth"] (defScope s_kind_text):=by decide +kernel
theorem lm_kind_text:Lm ["kind","depth"] (defScope s_kind_text):=by decide +kernel
theorem sc_kind_text:FnScope ["kind","depth"] ["kind"] (defScope s_kind_text):=⟨rfl,rfl,rfl,by decide +kernel,rfl,by decide +kernel,by decide +kernel⟩
theorem ok_kindtx{f:Addr}{fd:FuncData}(F:Fun K "kind_text" "kind_text" s_kind_text f fd)(KDP:Has P w K mg base "kind_deep" 1 ["kind"] (spDeep K) gD dfd)(IM:Has P w K mg base "innermost" 1 ["kind"] (spInn K) gI ifd)(CTX:Has P w K mg base "core_text" 1 ["core"] (spCoreTx K) gC cfd):FnOk P w K mg base CX0 2 f fd ["kind"] (spKindTx K):=by
 refine F.ok sc_kind_text (fun vs H Q E h=>?_) (fun cdv A outer s H vs Q E hr h=>?_)
 ·obtain⟨_,_,_,rfl,_⟩:=h
  rfl
 obtain⟨v,c,d,rfl,r,hc,hd,k⟩:=h
 refine⟨_,(@pss_cons _ _ _ _ _ (@sa _ _ _ _ _ _ sc_kind_text.nd lm_kind_text 1 (@pe_call _ _ _ _ _ _ _ _ _ _ _ _ _ _ _ _ KDP.ok (hr.mono (by omega)) (by show _=_;kernel_rfl) KDP.at' KDP.kp KDP.bd .nil pass0 (pa_c (va nm_kind_text 0) pa_nil) (by decide) (by rfl) (by rfl)) (by rfl) (by kernel_rfl) (by exact .inl rfl)) (@pss_one _ _ _ (@ps_ret _ _ _ _ (@pe_op _ _ _ _ _ _ _ _ op_add_str (@pe_op _ _ _ _ _ _ _ _ op_add_str (pe_op op_mul_str pe_str (va nm_kind_text 1)) (@pe_call _ _ _ _ _ _ _ _ _ _ _ _ _ _ _ _ CTX.ok (hr.mono (by omega)) (by show _=_;kernel_rfl) CTX.at' CTX.kp CTX.bd .nil pass0 (@pa_c _ _ _ _ _ (@pe_call _ _ _ _ _ _ _ _ _ _ _ _ _ _ _ _ IM.ok (hr.mono (by omega)) (by show _=_;kernel_rfl) IM.at' IM.kp IM.bd .nil pass0 (pa_c (va nm_kind_text 0) pa_nil) (by decide) (by rfl) (by rfl)) pa_nil (by rfl)) (by decide) (by rfl) (by rfl))) (pe_op op_mul_str pe_str (va nm_kind_text 1)))))),?_⟩
 try dsimp only[cx_K]
 try dsimp only[cx_K]
 have lc:=(c.len hc).2
 have e1:Txt.mul "(row " (d:Int)=ofL (List.replicate d [40,114,111,119,32]).flatten:=mul_ofL (l:=[40,114,111,119,32]) (by simp) d
 have e2:Txt.mul ")" (d:Int)=ofL (List.replicate d [41]).flatten:=mul_ofL (l:=[41]) (by simp) d
 have n1:(List.replicate d [40,114,111,119,32]).flatten.length=d*5:=by simp
 have n2:(List.replicate d [41]).flatten.length=d*1:=by simp
 have m1:("(row ":Str).length*(d:Int).toNat<=sizeLine:=small (by show 5*(d:Int).toNat<=1000;omega)
 have m2:(")":Str).length*(d:Int).toNat<=sizeLine:=small (by show 1*(d:Int).toNat<=1000;omega)
 have l1:(Txt.mul "(row " (d:Int)).length+(ofL c.L).length<=sizeLine:=small (by rw[e1,ofL_len,ofL_len,n1];omega)
 have l2:(Txt.mul "(row " (d:Int)++ofL c.L).length+(Txt.mul ")" (d:Int)).length<=sizeLine:=small (by rw[strLen_append,e1,e2,ofL_len,ofL_len,ofL_len,n1,n2];omega)
 have fin:Txt.mul "(row " (d:Int)++ofL c.L++Txt.mul ")" (d:Int)=kS c d:=by
  rw[e1,e2,app_ofL,app_ofL,←kL_flat]
 fail "R"
 intro v1 r1
 fail "R"
 rw[fin]
 exact k
theorem nm_L_kind_text:Nm ["_law_kind"] (defScope s_L_kind_text):=by decide +kernel
theorem sc_L_kind_text:FnScope ["_law_kind"] ["_law_kind"] (defScope s_L_kind_text):=⟨rfl,rfl,rfl,by decide +kernel,rfl,by decide +kernel,by decide +kernel⟩
theorem ok_lkt{f:Addr}{fd:FuncData}{n j:Nat}(hj:1<=j)(F:Fun K "_law_kind_text" "_law_kind_text" s_L_kind_text f fd)(LKT:Has P w K mg base "_law_kind_text" j ["_law_kind"] (spLKT K n) gL lfd)(z_str:mg "str"=none):FnOk P w K mg base CX0 (j+1) f fd ["_law_kind"] (spLKT K (n+1)):=by
 refine F.ok sc_L_kind_text (fun vs H Q E h=>?_) (fun cdv A outer s H vs Q E hr h=>?_)
 ·obtain⟨_,_,_,rfl,_⟩:=h
  rfl
 obtain⟨v,c,d,rfl,r,hc,hd,hdn,k⟩:=h
 refine⟨_,(@pss_cons _ _ _ _ _ (@ps_if _ _ _ _ _ _ _ _ (pt_cmpR (op_eqT hr.u150) (va nm_L_kind_text 0) pe_str (nomark _)) (@pss_one _ _ _ (ps_ret (va nm_L_kind_text 0))) pss_nil) (@pss_cons _ _ _ _ _ (@ps_if _ _ _ _ _ _ _ _ (@pt_cmpR _ _ _ _ _ _ _ _ op_eq (pe_ix ix_tup (va nm_L_kind_text 0) pe_int (fun _ _=>rfl)) pe_str (nomark _)) (@pss_one _ _ _ (@ps_ret _ _ _ _ (@pe_op _ _ _ _ _ _ _ _ op_add_str (@pe_op _ _ _ _ _ _ _ _ op_add_str pe_str (@pe_call _ _ _ _ _ _ _ _ _ _ _ _ _ _ _ _ LKT.ok (hr.mono (by omega)) (by show _=_;kernel_rfl) LKT.at' LKT.kp LKT.bd .nil pass0 (@pa_c _ _ _ _ _ (pe_ix ix_tup (va nm_L_kind_text 0) pe_int (fun _ _=>rfl)) pa_nil (by rfl)) (by decide) (by rfl) (by rfl))) pe_str))) pss_nil) (@pss_one _ _ _ (@ps_ret _ _ _ _ (@pe_op _ _ _ _ _ _ _ _ op_add_str (@pe_dget _ _ _ _ _ _ (hu_of hr) (pe_disp3 pe_str pe_str pe_str pe_str pe_str pe_str) (pe_ix ix_tup (va nm_L_kind_text 0) pe_int (fun _ _=>rfl)) (fun _ _=>rfl)) (@pe_callTy _ _ _ _ _ _ _ _ _ call_strV (by show _=_;kernel_rfl) z_str PyProof.Rows.boot_str (@pa_c _ _ _ _ _ (pe_ix ix_tup (va nm_L_kind_text 0) pe_int (fun _ _=>rfl)) pa_nil (by rfl)) (by decide) (by decide) (by rfl) (by rfl))))))),?_⟩
 try dsimp only[cx_K]
 try dsimp only[cx_K]
 have rn:Rp K H (.s "num") (.str "num"):=.s
 have dep:=kT_dep c d
 refine seq_cut2 ?_
 intro N1 N2 c1 c2
 cases d with
 |succ d =>
  obtain⟨ka,v1,v2,rfl,ksq,g1,g2⟩:=(show Rp K H (.t [.s "row",kT c d]) v from r).t2
  obtain rfl:=g1.inv_s
  have hlen:=kL_len hc d
  fail "R"
  intro H1 s1
  have hl1:("(row ":Str).length+(kS c d).length<=sizeLine:=small (by rw[ofL_len];show 5+(kL c d).length<=1000;omega)
  have hl2:(("(row ":Str)++kS c d).length+(")":Str).length<=sizeLine:=small (by rw[strLen_append,ofL_len];show 5+(kL c d).length+1<=1000;omega)
  have fin:("(row ":Str)++kS c d++(")":Str)=kS c (d+1):=by
   show ofL [40,114,111,119,32]++ofL (kL c d)++ofL [41]=_
   rw[app_ofL,app_ofL]
   show ofL ([40,114,111,119,32]++kL c d++[41])=ofL ([40,114,111,119,32]++(kL c d++[41]))
   rw[List.append_assoc]
  fail "R"
  rw[fin]
  exact k _ s1
 |zero =>
  cases c with
  |num =>
   obtain rfl:=(show Rp K H (.s "num") v from r).inv_s
   fail "R"
   exact k _ (Same.refl _)
  |kd x =>
   obtain⟨ka,k1,k2,rfl,ksq,g1,g2⟩:=(show Rp K H (.t [.s "kind",.s x]) v from r).t2
   obtain rfl:=g1.inv_s
   obtain rfl:=g2.inv_s
   fail "R"
   intro p hp
   fail "R"
   ·exact(show _=List.map (fun kv=>(kV kv.1,kv.2)) kv3 from rfl)
   refine⟨by decide,?_⟩
   rw[upd_upd,mg_kv3]
   have s1:=same_new hp (.dK kv3)
   have h1:upd H p (.dK kv3) p=some (.dK kv3):=upd_same
   generalize upd H p (.dK kv3)=H1 at s1 h1⊢
   have ksq1:=ksq.same s1
   have dg:DGet H1 p (.str "kind") (some (.str "")):=.inl ⟨kv3,.inr "kind",.inl h1,rfl,by decide +kernel⟩
   fail "R"
   have hl:("":Str).length+x.length<=sizeLine:=small (by show 0+x.length<=1000;have:=hc.2.1;omega)
   refine .inl ⟨_,rfl,_,_,rfl,rfl,hl,?_⟩
   rw[show("":Str)++x=x from empty_app]
   rw[show kS (Cr.kd x) 0=x from ofL_toList x]at k
   exact k _ s1
  |op n =>
   obtain⟨ka,k1,k2,rfl,ksq,g1,g2⟩:=(show Rp K H (.t [.s "open",.i n]) v from r).t2
   obtain rfl:=g1.inv_s
   obtain rfl:=g2.inv_i
   fail "R"
   intro p hp
   fail "R"
   ·exact(show _=List.map (fun kv=>(kV kv.1,kv.2)) kv3 from rfl)
   refine⟨by decide,?_⟩
   rw[upd_upd,mg_kv3]
   have s1:=same_new hp (.dK kv3)
   have h1:upd H p (.dK kv3) p=some (.dK kv3):=upd_same
   generalize upd H p (.dK kv3)=H1 at s1 h1⊢
   have ksq1:=ksq.same s1
   have dg:DGet H1 p (.str "open") (some (.str "?")):=.inl ⟨kv3,.inr "open",.inl h1,rfl,by decide +kernel⟩
   have hn:0<=n/\n<100:=hc
   have hl:(Str.ofString (toString n)).length<=2:=by have:=(digs_ok hn).2.1;unfold digs at this;rw[Array.length_toList]at this;exact this
   fail "R"
   refine .inr ⟨n,rfl,by omega,_,_,rfl,rfl,small (by show 1+(Str.ofString (toString n)).length<=1000;omega),?_⟩
   have e:ofL [63]++Str.ofString (toString n)=ofL (63::digs n):=by
    rw[←ofL_toList (Str.ofString (toString n)),app_ofL]
    rfl
   rw[show kS (Cr.op n) 0=ofL [63]++Str.ofString (toString n)from e.symm]at k
   exact k _ s1
  |an n =>
   obtain⟨ka,k1,k2,rfl,ksq,g1,g2⟩:=(show Rp K H (.t [.s "any",.i n]) v from r).t2
   obtain rfl:=g1.inv_s
   obtain rfl:=g2.inv_i
   fail "R"
   intro p hp
   fail "R"
   ·exact(show _=List.map (fun kv=>(kV kv.1,kv.2)) kv3 from rfl)
   refine⟨by decide,?_⟩
   rw[upd_upd,mg_kv3]
   have s1:=same_new hp (.dK kv3)
   have h1:upd H p (.dK kv3) p=some (.dK kv3):=upd_same
   generalize upd H p (.dK kv3)=H1 at s1 h1⊢
   have ksq1:=ksq.same s1
   have dg:DGet H1 p (.str "any") (some (.str "'")):=.inl ⟨kv3,.inr "any",.inl h1,rfl,by decide +kernel⟩
   have hn:0<=n/\n<100:=hc
   have hl:(Str.ofString (toString n)).length<=2:=by have:=(digs_ok hn).2.1;unfold digs at this;rw[Array.length_toList]at this;exact this
   fail "R"
   refine .inr ⟨n,rfl,by omega,_,_,rfl,rfl,small (by show 1+(Str.ofString (toString n)).length<=1000;omega),?_⟩
   have e:ofL [39]++Str.ofString (toString n)=ofL (39::digs n):=by
    rw[←ofL_toList (Str.ofString (toString n)),app_ofL]
    rfl
   rw[show kS (Cr.an n) 0=ofL [39]++Str.ofString (toString n)from e.symm]at k
   exact k _ s1
end
def spGreater(K:PySem.W.Frag):Sp:=fun vs H Q _=>∃(a:Addr) (ns:List Int),vs=[.ref a]/\SqL K H a (ns.map V.int)/\ns.length<=63/\∀H',Q (.bl true) H'
theorem T_dep_s{x:Str}:(T.s x).dep<25:=by simp[T.dep]
section
variable {P:Program}{w:World}{K:PySem.W.Frag}{mg:Str->Option Value}{base:Heap}{gF gT gW gA gL gR gX gG gK:Addr}{ffd tfd wfd afd lfd rfd xfd gfd kfd:FuncData}
theorem nm_L_greater:Nm ["_law_script","_law_feed_here","_law_kind","_law_k"] (defScope s_L_greater):=by decide +kernel
theorem lm_L_greater:Lm ["_law_script","_law_feed_here","_law_kind","_law_k"] (defScope s_L_greater):=by decide +kernel
theorem sc_L_greater:FnScope ["_law_script","_law_feed_here","_law_kind","_law_k"] ["_law_script"] (defScope s_L_greater):=⟨rfl,rfl,rfl,by decide +kernel,rfl,by decide +kernel,by decide +kernel⟩
theorem ok_greater{f:Addr}{fd:FuncData}(F:Fun K "_law_greater" "_law_greater" s_L_greater f fd)(FD:Has P w K mg base "_law_feed" 1 ["_law_script","_law_k"] (spFeed K) gF ffd)(TK:Has P w K mg base "_law_take" 1 ["_law_feed_here","_law_many"] spTake gT tfd)(LWD:Has P w K mg base "_law_word" 2 ["_law_feed_here"] spWord gW wfd)
  (AK:Has P w K mg base "_law_any_kind" 2 ["_law_feed_here","_law_words","_law_sorts"] (spAnyK K) gA afd) (LKT:Has P w K mg base "_law_kind_text" 23 ["_law_kind"] (spLKT K 22) gL lfd) (RK:Has P w K mg base "read_kind" 5 ["text"] (spRead K) gR rfd) (LA:Has P w K mg base "_law_alike" 26 ["_law_found","_law_due"] (spAlike K 25) gX xfd) (z_range:mg "range"=none) :
  FnOk P w K mg base CX0 27 f fd ["_law_script"] (spGreater K):=by
 refine F.ok sc_L_greater (fun vs H Q E h=>?_) (fun cdv A outer s H vs Q E hr h=>?_)
 ·obtain⟨a,ns,rfl,_⟩:=h
  rfl
 obtain⟨a,ns,rfl,hS,hn,k⟩:=h
 refine⟨_,(@pss_cons _ _ _ _ _ (@sa _ _ _ _ _ _ sc_L_greater.nd lm_L_greater 1 (@pe_call _ _ _ _ _ _ _ _ _ _ _ _ _ _ _ _ FD.ok (hr.mono (by omega)) (by show _=_;kernel_rfl) FD.at' FD.kp FD.bd .nil pass0 (pa_c (va nm_L_greater 0) (pa_c pe_int pa_nil)) (by decide) (by rfl) (by rfl)) (by rfl) (by kernel_rfl) (by exact .inl rfl)) (@pss_cons _ _ _ _ _ (@sa _ _ _ _ _ _ sc_L_greater.nd lm_L_greater 2 (@pe_call _ _ _ _ _ _ _ _ _ _ _ _ _ _ _ _ AK.ok (hr.mono (by omega)) (by show _=_;kernel_rfl) AK.at' AK.kp AK.bd .nil pass0 (@pa_c _ _ _ _ _ (va nm_L_greater 1) (@pa_c _ _ _ _ _ (@pe_lst _ _ _ _ (@pa_c _ _ _ _ _ (@pe_call _ _ _ _ _ _ _ _ _ _ _ _ _ _ _ _ LWD.ok (hr.mono (by omega)) (by show _=_;kernel_rfl) LWD.at' LWD.kp LWD.bd .nil pass0 (pa_c (va nm_L_greater 1) pa_nil) (by decide) (by rfl) (by rfl)) (@pa_c _ _ _ _ _ (@pe_call _ _ _ _ _ _ _ _ _ _ _ _ _ _ _ _ LWD.ok (hr.mono (by omega)) (by show _=_;kernel_rfl) LWD.at' LWD.kp LWD.bd .nil pass0 (pa_c (va nm_L_greater 1) pa_nil) (by decide) (by rfl) (by rfl)) pa_nil (by rfl)) (by rfl))) (pa_c pe_int pa_nil) (by rfl)) (by rfl)) (by decide) (by rfl) (by rfl)) (by rfl) (by kernel_rfl) (by exact .inl rfl)) (@pss_cons _ _ _ _ _ (@ps_for _ _ _ _ _ _ _ _ PassesOwn.never rfl (@pi_range1 _ _ _ _ _ _ (by show _=_;kernel_rfl) z_range (@pa_c _ _ _ _ _ (@pe_op _ _ _ _ _ _ _ _ op_add pe_int (@pe_call _ _ _ _ _ _ _ _ _ _ _ _ _ _ _ _ TK.ok (hr.mono (by omega)) (by show _=_;kernel_rfl) TK.at' TK.kp TK.bd .nil pass0 (pa_c (va nm_L_greater 1) (pa_c pe_int pa_nil)) (by decide) (by rfl) (by rfl))) pa_nil (by rfl)) (by rfl)) (ga sc_L_greater.nd lm_L_greater 3) (@pss_one _ _ _ (@sa _ _ _ _ _ _ sc_L_greater.nd lm_L_greater 2 (@pe_tup _ _ _ _ _ (@pa_c _ _ _ _ _ pe_str (pa_c (va nm_L_greater 2) pa_nil) (by rfl))) (by rfl) (by kernel_rfl) (by exact .inl rfl))) (by intro _;rfl)) (@pss_one _ _ _ (@ps_ret _ _ _ _ (@pe_call _ _ _ _ _ _ _ _ _ _ _ _ _ _ _ _ LA.ok (hr.mono (by omega)) (by show _=_;kernel_rfl) LA.at' LA.kp LA.bd .nil pass0 (@pa_c _ _ _ _ _ (@pe_call _ _ _ _ _ _ _ _ _ _ _ _ _ _ _ _ RK.ok (hr.mono (by omega)) (by show _=_;kernel_rfl) RK.at' RK.kp RK.bd .nil pass0 (@pa_c _ _ _ _ _ (@pe_call _ _ _ _ _ _ _ _ _ _ _ _ _ _ _ _ LKT.ok (hr.mono (by omega)) (by show _=_;kernel_rfl) LKT.at' LKT.kp LKT.bd .nil pass0 (pa_c (va nm_L_greater 2) pa_nil) (by decide) (by rfl) (by rfl)) pa_nil (by rfl)) (by decide) (by rfl) (by rfl)) (pa_c (va nm_L_greater 2) pa_nil) (by rfl)) (by decide) (by rfl) (by rfl))))))),?_⟩
 try dsimp only[cx_K]
 try dsimp only[cx_K]
 fail "R"
 intro r H1 s1 nr hf1
 fail "R"
 intro x1 H2 e2 o1
 have hf2:=e2.2
 fail "R"
 intro x2 H3 e3 o2
 have hf3:=e3.2
 fail "R"
 intro p hp
 have h4:upd H3 p (.lst [.str x1,.str x2]) p=some (.lst [.str x1,.str x2]):=upd_same
 have hf4:=hf3.same (same_new hp (.lst [.str x1,.str x2]))
 generalize upd H3 p (.lst [.str x1,.str x2])=H4 at h4 hf4⊢
 fail "R"
 intro v H5 c d e5 r5 hc hd
 have hf5:=e5.2
 fail "R"
 intro m H6 m0 m5 e6
 have r6:=r5.kt (e6.kt hf5)
 fail "R"
 refine for_range (n:=(6+m).toNat) (fun i σ H7=>∃v7 y,σ=[some (.ref a),some (.ref r),some v7,y]/\Rp K H7 (kT c (d+i)) v7) ⟨v,_,rfl,r6⟩ ?_ ?_
 ·rintro i σ H7 hi ⟨v7,y,rfl,r7⟩
  fail "R"
  intro p8 hp8
  exact⟨_,_,rfl,Rp.new (K:=K) hp8 (.cons .s (.one r7))⟩
 ·rintro σ H7 ⟨v7,y,rfl,r7⟩
  have hdd:d+(6+m).toNat<=20:=by omega
  generalize d+(6+m).toNat=dd at hdd r7
  have dep:=kT_dep c dd
  fail "R"
  intro H8 s8
  fail "R"
  intro v9 H9 s9 r9
  have r99:=(r7.same s8).same s9
  have tw:=kT_tw c dd
  fail "R"
  intro H10 s10
  exact k _
end
def spLaw(K:PySem.W.Frag):Sp:=fun vs H Q _=>∃(a:Addr) (ns:List Int),vs=[.ref a]/\SqL K H a (ns.map V.int)/\ns.length<=63/\∀H',Q (.bl true) H'
structure PrAt(K:PySem.W.Frag) (H:Hp) (x:V):Prop where
 ex:∃(p:Addr) (v:V) (c:Cr) (d:Nat),x=.ref p/\SqT K H p [v,.str (kS c d)]/\Rp K H (kT c d) v/\c.ok/\d<=20
theorem PrAt.kt{K:PySem.W.Frag}{H H':Hp}{x:V}(h:PrAt K H x)(s:Kt H H'):PrAt K H' x:=by
 obtain⟨p,v,c,d,e,sq,r,f⟩:=h.ex
 exact⟨p,v,c,d,e,sq.kt s,r.kt s,f⟩
structure LI(K:PySem.W.Frag) (H:Hp) (p1:Addr) (m:Nat) (H5:Hp):Prop where
 x:∃us,H5 p1=some (.lst us)/\us.length=m/\(∀u∈us,PrAt K H5 u)/\Same H H5
section
variable {P:Program}{w:World}{K:PySem.W.Frag}{mg:Str->Option Value}{base:Heap}{gF gT gW gA gL gR gX gG gK:Addr}{ffd tfd wfd afd lfd rfd xfd gfd kfd:FuncData}
theorem nm_law:Nm ["_law_script","_law_some","_law_k","_law_feed_here","_law_kind","_law_text"] (defScope s_law):=by decide +kernel
theorem lm_law:Lm ["_law_script","_law_some","_law_k","_law_feed_here","_law_kind","_law_text"] (defScope s_law):=by decide +kernel
theorem sc_law:FnScope ["_law_script","_law_some","_law_k","_law_feed_here","_law_kind","_law_text"] ["_law_script"] (defScope s_law):=⟨rfl,rfl,rfl,by decide +kernel,rfl,by decide +kernel,by decide +kernel⟩
theorem ok_law{f:Addr}{fd:FuncData}(F:Fun K "law" "law" s_law f fd)(FD:Has P w K mg base "_law_feed" 1 ["_law_script","_law_k"] (spFeed K) gF ffd)(LWD:Has P w K mg base "_law_word" 2 ["_law_feed_here"] spWord gW wfd)
  (AK:Has P w K mg base "_law_any_kind" 2 ["_law_feed_here","_law_words","_law_sorts"] (spAnyK K) gA afd) (LKT:Has P w K mg base "_law_kind_text" 23 ["_law_kind"] (spLKT K 22) gL lfd) (RK:Has P w K mg base "read_kind" 5 ["text"] (spRead K) gR rfd) (LA:Has P w K mg base "_law_alike" 26 ["_law_found","_law_due"] (spAlike K 25) gX xfd)
  (KTX:Has P w K mg base "kind_text" 2 ["kind"] (spKindTx K) gK kfd) (LG:Has P w K mg base "_law_greater" 27 ["_law_script"] (spGreater K) gG gfd) (z_range:mg "range"=none) (z_max:mg "max"=none) (z_len:mg "len"=none):FnOk P w K mg base CX0 28 f fd ["_law_script"] (spLaw K):=by
 refine F.ok sc_law (fun vs H Q E h=>?_) (fun cdv A outer s H vs Q E hr h=>?_)
 ·obtain⟨a,ns,rfl,_⟩:=h
  rfl
 obtain⟨a,ns,rfl,hS,hn,k⟩:=h
 refine⟨_,(@pss_cons _ _ _ _ _ (sa sc_law.nd lm_law 1 (pe_lst pa_nil)) (@pss_cons _ _ _ _ _ (@ps_for _ _ _ _ _ _ _ _ PassesOwn.never rfl (@pi_range1 _ _ _ _ _ _ (by show _=_;kernel_rfl) z_range (@pa_c _ _ _ _ _ (@pe_callB _ _ _ _ _ _ _ _ _ (call_max2 rfl) (by show _=_;kernel_rfl) z_max PyProof.Rows.boot_max (@pa_c _ _ _ _ _ pe_int (@pa_c _ _ _ _ _ (@pe_callB _ _ _ _ _ _ _ _ _ call_len_seq (by show _=_;kernel_rfl) z_len PySem.boot_len (@pa_c _ _ _ _ _ (pe_slice sl_list (va nm_law 0) po_none (po_some pe_int)) pa_nil (by rfl)) (by decide) (by decide) (by rfl) (by rfl)) pa_nil (by rfl)) (by rfl)) (by decide) (by decide) (by rfl) (by rfl)) pa_nil (by rfl)) (by rfl)) (ga sc_law.nd lm_law 2) (@pss_cons _ _ _ _ _ (@sa _ _ _ _ _ _ sc_law.nd lm_law 3 (@pe_call _ _ _ _ _ _ _ _ _ _ _ _ _ _ _ _ FD.ok (hr.mono (by omega)) (by show _=_;kernel_rfl) FD.at' FD.kp FD.bd .nil pass0 (@pa_c _ _ _ _ _ (va nm_law 0) (pa_c (va nm_law 2) pa_nil) (by rfl)) (by decide) (by rfl) (by rfl)) (by rfl) (by kernel_rfl) (by exact .inl rfl)) (@pss_cons _ _ _ _ _ (@sa _ _ _ _ _ _ sc_law.nd lm_law 4 (@pe_call _ _ _ _ _ _ _ _ _ _ _ _ _ _ _ _ AK.ok (hr.mono (by omega)) (by show _=_;kernel_rfl) AK.at' AK.kp AK.bd .nil pass0 (@pa_c _ _ _ _ _ (va nm_law 3) (@pa_c _ _ _ _ _ (@pe_lst _ _ _ _ (@pa_c _ _ _ _ _ (@pe_call _ _ _ _ _ _ _ _ _ _ _ _ _ _ _ _ LWD.ok (hr.mono (by omega)) (by show _=_;kernel_rfl) LWD.at' LWD.kp LWD.bd .nil pass0 (pa_c (va nm_law 3) pa_nil) (by decide) (by rfl) (by rfl)) (@pa_c _ _ _ _ _ (@pe_call _ _ _ _ _ _ _ _ _ _ _ _ _ _ _ _ LWD.ok (hr.mono (by omega)) (by show _=_;kernel_rfl) LWD.at' LWD.kp LWD.bd .nil pass0 (pa_c (va nm_law 3) pa_nil) (by decide) (by rfl) (by rfl)) pa_nil (by rfl)) (by rfl))) (pa_c pe_int pa_nil) (by rfl)) (by rfl)) (by decide) (by rfl) (by rfl)) (by rfl) (by kernel_rfl) (by exact .inl rfl)) (@pss_one _ _ _ (@ps_expr _ _ _ _ (@pe_bm _ _ _ _ _ _ _ _ _ _ _ _ PySem.F.plainAttrs_list PySem.F.slot_list_append PySem.F.type_list_append mt_append (va nm_law 1) (@pa_c _ _ _ _ _ (@pe_tup _ _ _ _ _ (@pa_c _ _ _ _ _ (va nm_law 4) (@pa_c _ _ _ _ _ (@pe_call _ _ _ _ _ _ _ _ _ _ _ _ _ _ _ _ LKT.ok (hr.mono (by omega)) (by show _=_;kernel_rfl) LKT.at' LKT.kp LKT.bd .nil pass0 (pa_c (va nm_law 4) pa_nil) (by decide) (by rfl) (by rfl)) pa_nil (by rfl)) (by rfl))) pa_nil (by rfl)) (by rfl) (by rfl) (by rfl) (by rfl) (by rfl)) (by rfl))))) (by intro _;rfl)) (@pss_cons _ _ _ _ _ (@ps_for _ _ _ _ _ _ _ _ PassesOwn.never rfl (@pi_list _ _ _ _ (@pe_op _ _ _ _ _ _ _ _ op_cat (va nm_law 1) (@pe_slice3 _ _ _ _ _ _ _ _ _ _ _ (va nm_law 1) po_none po_none (po_some (pe_un un_neg pe_int))))) (@pg_tupK _ _ _ _ _ (2) K rfl rfl (@pgs_cons _ _ _ _ _ (ga sc_law.nd lm_law 4) (pgs_cons (ga sc_law.nd lm_law 5) pgs_nil) (by rfl)) (by rfl) (by rfl)) (@pss_one _ _ _ (@ps_if _ _ _ _ _ _ _ _ (PW.pt (@pw_or _ _ _ _ _ _ _ (@pt_not _ _ _ _ (@pt_val _ _ _ (@pe_call _ _ _ _ _ _ _ _ _ _ _ _ _ _ _ _ LA.ok (hr.mono (by omega)) (by show _=_;kernel_rfl) LA.at' LA.kp LA.bd .nil pass0 (@pa_c _ _ _ _ _ (@pe_call _ _ _ _ _ _ _ _ _ _ _ _ _ _ _ _ KTX.ok (hr.mono (by omega)) (by show _=_;kernel_rfl) KTX.at' KTX.kp KTX.bd .nil pass0 (pa_c (va nm_law 4) pa_nil) (by decide) (by rfl) (by rfl)) (pa_c (va nm_law 5) pa_nil) (by rfl)) (by decide) (by rfl) (by rfl)) (by intro _;rfl))) (@pw_or1 _ _ _ _ (@pt_not _ _ _ _ (@pt_val _ _ _ (@pe_call _ _ _ _ _ _ _ _ _ _ _ _ _ _ _ _ LA.ok (hr.mono (by omega)) (by show _=_;kernel_rfl) LA.at' LA.kp LA.bd .nil pass0 (@pa_c _ _ _ _ _ (@pe_call _ _ _ _ _ _ _ _ _ _ _ _ _ _ _ _ RK.ok (hr.mono (by omega)) (by show _=_;kernel_rfl) RK.at' RK.kp RK.bd .nil pass0 (pa_c (va nm_law 5) pa_nil) (by decide) (by rfl) (by rfl)) (pa_c (va nm_law 4) pa_nil) (by rfl)) (by decide) (by rfl) (by rfl)) (by intro _;rfl)))))) (pss_one (ps_ret pe_bl)) pss_nil)) (by intro _;rfl)) (@pss_one _ _ _ (@ps_ret _ _ _ _ (@pe_call _ _ _ _ _ _ _ _ _ _ _ _ _ _ _ _ LG.ok (hr.mono (by omega)) (by show _=_;kernel_rfl) LG.at' LG.kp LG.bd .nil pass0 (pa_c (va nm_law 0) pa_nil) (by decide) (by rfl) (by rfl))))))),?_⟩
 try dsimp only[cx_K]
 try dsimp only[cx_K]
 refine seq_cut3 ?_
 intro N1 N2 N3 c1 c2 c3
 fail "R"
 intro p1 hp1
 have s1:=same_new hp1 (.lst [])
 have h1:upd H p1 (.lst []) p1=some (.lst []):=upd_same
 generalize upd H p1 (.lst [])=H1 at s1 h1⊢
 have hS1:=s1.seq hS
 fail "R"
 intro p2 hp2
 rw[show(some (8:Int))=some ((8:Nat):Int)from rfl,cut_takeL]
 have s2:=same_new hp2 (.lst ((ns.map V.int).take 8))
 have h2:upd H1 p2 (.lst ((ns.map V.int).take 8)) p2=some (.lst ((ns.map V.int).take 8)):=upd_same
 generalize upd H1 p2 (.lst ((ns.map V.int).take 8))=H2 at s2 h2⊢
 have h2':SqL K H2 p2 ((ns.map V.int).take 8)\/SqT K H2 p2 ((ns.map V.int).take 8):=.inl (SqL.of h2)
 have l2:((ns.map V.int).take 8).length<=8:=by rw[List.length_take];omega
 generalize(ns.map V.int).take 8=ys at h2' l2 h2
 have hm:∃mx:Int,(if(ys.length:Int)>3 then(ys.length:Int)else 3)=mx/\0<=mx/\mx<=8:=by
  refine⟨_,rfl,?_⟩
  split<;>omega
 obtain⟨mx,emx,mx0,mx3⟩:=hm
 have s12:=s1.trans s2
 have h12:=s2 _ _ h1
 fail "R"
 rw[emx]
 fail "R"
 refine for_range (n:=mx.toNat) (fun i σ H5=>(∃x2 x3 x4 x5,σ=[some (.ref a),some (.ref p1),x2,x3,x4,x5])/\LI K H p1 i H5) ⟨⟨_,_,_,_,rfl⟩,⟨[],h12,rfl,(fun u hu=>nomatch hu),s12⟩⟩ ?_ ?_
 ·rintro i σ H5 hi ⟨⟨x2,x3,x4,x5,rfl⟩,⟨us,h5,l5,d5,s5⟩⟩
  have hS5:=s5.seq hS
  have hi3:i<8:=by omega
  fail "R"
  intro r H6 s6 nr hf6
  fail "R"
  intro y1 H7 e7 o1
  have hf7:=e7.2
  fail "R"
  intro y2 H8 e8 o2
  have hf8:=e8.2
  fail "R"
  intro p9 hp9
  have s9:=same_new hp9 (.lst [.str y1,.str y2])
  have h9:upd H8 p9 (.lst [.str y1,.str y2]) p9=some (.lst [.str y1,.str y2]):=upd_same
  have e9:=(e7.trans e8).same s9
  generalize upd H8 p9 (.lst [.str y1,.str y2])=H9 at s9 h9 e9⊢
  have hf9:=e9.2
  fail "R"
  intro v10 H10 c d e10 r10 hc hd
  have e610:=e9.trans e10
  have s510:Same H5 H10:=fun b o e=>e610.1 _ _ (ne_of_none e nr) (s6 _ _ e)
  have hd20:d<=20:=by omega
  have h510:=s510 _ _ h5
  fail "R"
  intro H11 s11
  have r11:=r10.same s11
  fail "R"
  intro p12 hp12
  have s12':=same_new hp12 (.tup [v10,.str (kS c d)])
  have h12':upd H11 p12 (.tup [v10,.str (kS c d)]) p12=some (.tup [v10,.str (kS c d)]):=upd_same
  have r12:=r11.same s12'
  generalize upd H11 p12 (.tup [v10,.str (kS c d)])=H12 at s12' h12' r12⊢
  have s512:=(s510.trans s11).trans s12'
  have h512:=s512 _ _ h5
  have lus:us.length<sizeLine:=small1000 (by omega)
  fail "R"
  refine⟨us++[.ref p12],upd_same,by rw[List.length_append,l5];rfl,fun u hu=>?_,(s5.trans s512).updF hp1 _⟩
  rcases List.mem_append.mp hu with h|h
  ·exact((d5 u h).kt (Kt.same s512)).kt (Kt.lst h512 _)
  ·rw[List.mem_singleton.mp h]
   exact PrAt.kt ⟨p12,v10,c,d,rfl,SqT.of h12',r12,hc,hd20⟩ (Kt.lst h512 _)
 ·rintro σ H5 ⟨⟨x2,x3,x4,x5,rfl⟩,⟨us,h5,l5,d5,s5⟩⟩
  have l5':us.length<=8:=by omega
  have hz:(pickV us none none (some (-1))).length<=sizeLine:=by rw[pick_rev,List.length_reverse];exact small (by omega)
  clear h2 h2' h12 s12 s2 hS1 s1 h1
  fail "R"
  intro p6 hp6
  rw[pick_rev]
  have s6:=same_new hp6 (.lst us.reverse)
  have e6:=s6 _ _ h5
  have e6':upd H5 p6 (.lst us.reverse) p6=some (.lst us.reverse):=upd_same
  have d6:∀u∈us,PrAt K (upd H5 p6 (.lst us.reverse)) u:=fun u h=>(d5 u h).kt (Kt.same s6)
  have s06:=s5.trans s6
  generalize upd H5 p6 (.lst us.reverse)=H6 at s6 e6 e6' d6 s06⊢
  have ll:us.length+us.reverse.length<=sizeLine:=Nat.le_of_lt (small1000 (by rw[List.length_reverse];omega))
  fail "R"
  intro p7 hp7
  have e7:upd H6 p7 (.lst (us++us.reverse)) p7=some (.lst (us++us.reverse)):=upd_same
  have s07:=s06.trans (same_new hp7 (.lst (us++us.reverse)))
  have d7:∀u∈us++us.reverse,PrAt K (upd H6 p7 (.lst (us++us.reverse))) u:=fun u h=>by
   have:u∈us:=by
    rcases List.mem_append.mp h with h|h
    ·exact h
    ·exact List.mem_reverse.mp h
   exact(d6 u this).kt (Kt.same (same_new hp7 _))
  have l7:(us++us.reverse).length<=16:=by rw[List.length_append,List.length_reverse];omega
  generalize upd H6 p7 (.lst (us++us.reverse))=H7 at e7 d7 s07⊢
  generalize us++us.reverse=ws at e7 d7 l7
  clear s6 e6 e6' d6 ll hp6 hp7 h5 d5 s06 hz
  fail "R"
  refine for_list (K:=K) (xs:=ws) (fun i σ H8=>(∃x2 x3 x4 x5,σ=[some (.ref a),some (.ref p1),x2,x3,x4,x5])/\Same H7 H8) ⟨⟨_,_,_,_,rfl⟩,Same.refl _⟩ ?_ ?_ ?_
  ·rintro i σ H8 hi ⟨_,s8⟩
   exact SqL.of (s8 _ _ e7)
  ·rintro i x σ H8 hx ⟨⟨_,_,_,_,rfl⟩,s8⟩
   obtain⟨p,v,c,d,rfl,sq,r,hc,hd⟩:=((d7 x (List.mem_of_getElem? hx)).kt (Kt.same s8)).ex
   have rs:Rp K H8 (.s (kS c d)) (.str (kS c d)):=.s
   have tws:Tw (.s (kS c d)):=.s _
   have ds:(T.s (kS c d)).dep<25:=T_dep_s
   have tw:=kT_tw c d
   have dep:=kT_dep c d
   have dk:(kT c d).dep<25:=by omega
   fail "R"
   intro H9 s9
   have r9:=r.same s9
   fail "R"
   intro v10 H10 s10 r10
   have r10':=r9.same s10
   fail "R"
   intro H11 s11
   fail "R"
   exact((s8.trans s9).trans s10).trans s11
  ·rintro σ H8 ⟨⟨_,_,_,_,rfl⟩,s8⟩
   have hS8:=(s07.trans s8).seq hS
   fail "R"
   exact k
end
theorem len0{α:Type}{P:List α->Prop}(h:P []):∀us:List α,us.length=0->P us
 | [],_=>h
theorem len1{α:Type}{P:List α->Prop}(h:∀a,P [a]):∀us:List α,us.length=1->P us
 | [a],_=>h a
theorem len2{α:Type}{P:List α->Prop}(h:∀a b,P [a,b]):∀us:List α,us.length=2->P us
 | [a,b],_=>h a b
theorem len3{α:Type}{P:List α->Prop}(h:∀a b c,P [a,b,c]):∀us:List α,us.length=3->P us
 | [a,b,c],_=>h a b c
section
variable {P:Program}{w:World}{K:PySem.W.Frag}{mg:Str->Option Value}{base:Heap}{gA:Addr}{afd:FuncData}
theorem lkt_all(F:Fun K "_law_kind_text" "_law_kind_text" s_L_kind_text gA afd)(mA:mg "_law_kind_text"=some (.ref gA))(bA:Binds K afd ["_law_kind"] [])(z_str:mg "str"=none):∀n,FnOk P w K mg base CX0 (n+1) gA afd ["_law_kind"] (spLKT K n)
 |0=>fn_none fun vs H Q E ⟨_,_,_,_,_,_,_,h,_⟩=>by omega
 |n+1=>ok_lkt (j:=n+1) (by omega) F ⟨lkt_all F mA bA z_str n,mA,F.kp,bA⟩ z_str
theorem alike_all(F:Fun K "_law_alike" "_law_alike" s_L_alike gA afd)(mA:mg "_law_alike"=some (.ref gA))(bA:Binds K afd ["_law_found","_law_due"] [])(z_tuple:mg "tuple"=none)(z_str:mg "str"=none)(z_int:mg "int"=none)(z_bool:mg "bool"=none)(z_isinstance:mg "isinstance"=none)(z_len:mg "len"=none)(z_all:mg "all"=none)(z_zip:mg "zip"=none):∀n,FnOk P w K mg base CX0 (n+1) gA afd ["_law_found","_law_due"] (spAlike K n)
 |0=>fn_none fun vs H Q E ⟨_,_,_,_,_,_,_,h,_⟩=>by omega
 |n+1=>ok_alike (j:=n+1) (by omega) F ⟨alike_all F mA bA z_tuple z_str z_int z_bool z_isinstance z_len z_all z_zip n,mA,F.kp,bA⟩ z_tuple z_str z_int z_bool z_isinstance z_len z_all z_zip
end
end G07
namespace G07
open PySem L2 PySem.W
structure FnAt(K:Frag) (x qual:Str) (st:Stmt) (f:Addr) (fd:FuncData):Prop where
 ex:∃(od:Option Addr) (kV doc pm:Value) (an:Option Addr) (cdv ct:Value) (osl:Array (Option Value)),
  fd=fnOf x qual (defArgs st) (defBody st) (defScope st) .none kV doc pm an cdv ct/\K.lookup f=some ⟨.type "function",od,.func fd,osl⟩/\codeIn K cdv qual=true
 kp:keepIn K (.ref f)=true
theorem FnAt.f{K:Frag}{x qual:Str}{st:Stmt}{f:Addr}{fd:FuncData}(F:FnAt K x qual st f fd):Fun K x qual st f fd:=by
 obtain⟨od,kV,doc,pm,an,cdv,ct,osl,e,l,c⟩:=F.ex
 exact⟨⟨_,od,kV,doc,pm,an,cdv,ct,osl,e,l,c⟩,F.kp⟩
theorem fnAt_mk{K:Frag}{x qual:Str}{st:Stmt}{f:Addr}{od an:Option Addr}{osl:Array (Option Value)}{kV doc pm cdv ct:Value}(l:K.lookup f=some ⟨.type "function",od,.func (fnOf x qual (defArgs st) (defBody st) (defScope st) .none kV doc pm an cdv ct),osl⟩)
  (c:codeIn K cdv qual=true) (k:keepIn K (.ref f)=true):FnAt K x qual st f (fnOf x qual (defArgs st) (defBody st) (defScope st) .none kV doc pm an cdv ct):=⟨⟨od,kV,doc,pm,an,cdv,ct,osl,rfl,l,c⟩,k⟩
def tupS(K:Frag)(a:Addr)(ns:List Str):Bool:=match K.lookup a with
 |some ⟨.type "tuple",none,.seq its _,_⟩=>its.toList.length == ns.length&&(its.toList.zip ns).all (fun p=>match p.1 with|.str i _=>i == p.2|_=>false)
 |_=>false
theorem tupS_T{K:Frag}{a:Addr}{ns:List Str}(h:tupS K a ns=true)(hn:ns.length<=20):∀H,SqT K H a (ns.map V.str):=by
 intro H
 unfold tupS at h
 split at h
 ·rename_i its n sl e
  rw[Bool.and_eq_true]at h
  obtain⟨h1,h2⟩:=h
  replace h1:=eq_of_beq h1
  have hz:its.size<=sizeLine:=by
   have z:its.toList.length=its.size:=by simp
   exact small (by omega)
  refine .inr ⟨_,its,n,e,rfl,rfl,hz,?_,rfl⟩
  clear hz e
  generalize its.toList=l at h1 h2
  clear hn
  induction l generalizing ns with
  |nil=>cases ns with
   |nil=>exact .nil
   |cons _ _=>simp at h1
  |cons v r ih =>
   cases ns with
   |nil=>simp at h1
   |cons m q =>
    rw[List.zip_cons_cons,List.all_cons,Bool.and_eq_true]at h2
    obtain⟨h3,h4⟩:=h2
    refine .cons ?_ (ih (by simpa using h1) h4)
    split at h3
    ·rename_i i t e'
     have:i=m:=eq_of_beq h3
     subst this
     exact⟨t,e'⟩
    ·cases h3
 ·cases h
theorem all_mk{l:OpenLaw}{w:World}{K:Frag}{h:Heap}{mg:Str->Option Value}{g1 g2 g3 g4 g5 g6 g7 g8 g9 g10 g11 g12 g13 g14 g15 g16 g17 g18 g19 g20 g21 g22 g23 g24 g25 g26 g27 fa dC dF aK t0 t1 t2 t3:Addr}{e1 e2 e3 e4 e5 e6 e7 e8 e9 e10 e11 e12 e13 e14 e15 e16 e17 e18 e19 e20 e21 e22 e23 e24 e25 e26 e27:FuncData}{esC esF:Array DictEntry}{nC nF:Nat}{tkL tkF:Tok}(X:K.In h)(G:h.Ns mainGlobals mg)(hfa:mg "law"=some (.ref fa))
  (a1:nsIn K mainGlobals "sort_of"=some (some (.ref g1)))
  (a2:nsIn K mainGlobals "well_parted"=some (some (.ref g2)))
  (a3:nsIn K mainGlobals "split_words"=some (some (.ref g3)))
  (a4:nsIn K mainGlobals "scanned"=some (some (.ref g4)))
  (a5:nsIn K mainGlobals "scanned_one"=some (some (.ref g5)))
  (a6:nsIn K mainGlobals "kind_deep"=some (some (.ref g6)))
  (a7:nsIn K mainGlobals "innermost"=some (some (.ref g7)))
  (a8:nsIn K mainGlobals "in_rows"=some (some (.ref g8)))
  (a9:nsIn K mainGlobals "is_name"=some (some (.ref g9)))
  (a10:nsIn K mainGlobals "is_figures"=some (some (.ref g10)))
  (a11:nsIn K mainGlobals "name_of"=some (some (.ref g11)))
  (a12:nsIn K mainGlobals "number_behind"=some (some (.ref g12)))
  (a13:nsIn K mainGlobals "core_of"=some (some (.ref g13)))
  (a14:nsIn K mainGlobals "kept_list"=some (some (.ref g14)))
  (a15:nsIn K mainGlobals "kind_of"=some (some (.ref g15)))
  (a16:nsIn K mainGlobals "read_kind"=some (some (.ref g16)))
  (a17:nsIn K mainGlobals "core_text"=some (some (.ref g17)))
  (a18:nsIn K mainGlobals "kind_text"=some (some (.ref g18)))
  (a19:nsIn K mainGlobals "_law_feed"=some (some (.ref g19)))
  (a20:nsIn K mainGlobals "_law_take"=some (some (.ref g20)))
  (a21:nsIn K mainGlobals "_law_kept"=some (some (.ref g21)))
  (a22:nsIn K mainGlobals "_law_word"=some (some (.ref g22)))
  (a23:nsIn K mainGlobals "_law_any_kind"=some (some (.ref g23)))
  (a24:nsIn K mainGlobals "_law_kind_text"=some (some (.ref g24)))
  (a25:nsIn K mainGlobals "_law_alike"=some (some (.ref g25)))
  (a26:nsIn K mainGlobals "_law_greater"=some (some (.ref g26)))
  (a27:nsIn K mainGlobals "law"=some (some (.ref g27)))
  (F1:FnAt K "sort_of" "sort_of" s_sort_of g1 e1)
  (F2:FnAt K "well_parted" "well_parted" s_well_parted g2 e2)
  (F3:FnAt K "split_words" "split_words" s_split_words g3 e3)
  (F4:FnAt K "scanned" "scanned" s_scanned g4 e4)
  (F5:FnAt K "scanned_one" "scanned_one" s_scanned_one g5 e5)
  (F6:FnAt K "kind_deep" "kind_deep" s_kind_deep g6 e6)
  (F7:FnAt K "innermost" "innermost" s_innermost g7 e7)
  (F8:FnAt K "in_rows" "in_rows" s_in_rows g8 e8)
  (F9:FnAt K "is_name" "is_name" s_is_name g9 e9)
  (F10:FnAt K "is_figures" "is_figures" s_is_figures g10 e10)
  (F11:FnAt K "name_of" "name_of" s_name_of g11 e11)
  (F12:FnAt K "number_behind" "number_behind" s_number_behind g12 e12)
  (F13:FnAt K "core_of" "core_of" s_core_of g13 e13)
  (F14:FnAt K "kept_list" "kept_list" s_kept_list g14 e14)
  (F15:FnAt K "kind_of" "kind_of" s_kind_of g15 e15)
  (F16:FnAt K "read_kind" "read_kind" s_read_kind g16 e16)
  (F17:FnAt K "core_text" "core_text" s_core_text g17 e17)
  (F18:FnAt K "kind_text" "kind_text" s_kind_text g18 e18)
  (F19:FnAt K "_law_feed" "_law_feed" s_L_feed g19 e19)
  (F20:FnAt K "_law_take" "_law_take" s_L_take g20 e20)
  (F21:FnAt K "_law_kept" "_law_kept" s_L_kept g21 e21)
  (F22:FnAt K "_law_word" "_law_word" s_L_word g22 e22)
  (F23:FnAt K "_law_any_kind" "_law_any_kind" s_L_any_kind g23 e23)
  (F24:FnAt K "_law_kind_text" "_law_kind_text" s_L_kind_text g24 e24)
  (F25:FnAt K "_law_alike" "_law_alike" s_L_alike g25 e25)
  (F26:FnAt K "_law_greater" "_law_greater" s_L_greater g26 e26)
  (F27:FnAt K "law" "law" s_law g27 e27)
  (pC:nsIn K mainGlobals "CLOSE_OF"=some (some (.ref dC)))
  (lC:K.lookup dC=some {cls:=.type "dict",dict:=none,data:=.dict esC nC,slots:=#[]})
  (kC:KDs w esC.toList [("(",V.str ")"),("[",V.str "]")])
  (sC:(dC == sysModules)=false)
  (pF:nsIn K mainGlobals "FOLLOWERS"=some (some (.ref dF)))
  (lF:K.lookup dF=some {cls:=.type "dict",dict:=none,data:=.dict esF nF,slots:=#[]})
  (kF:KDs w esF.toList [("blank",V.ref t0),("start",V.ref t1),("word",V.ref t2),("end",V.ref t3)])
  (sF:(dF == sysModules)=false)
  (q0:tupS K t0 ["start","word"]=true)
  (q1:tupS K t1 ["start","word","end"]=true)
  (q2:tupS K t2 ["word","blank","end"]=true)
  (q3:tupS K t3 ["end","blank"]=true)
  (pK:nsIn K mainGlobals "KEPT"=some (some (.ref aK)))
  (qK:tupS K aK keptS=true)
  (pL:nsIn K mainGlobals "SMALL_LETTERS"=some (some (.str letS tkL)))
  (pI:nsIn K mainGlobals "FIGURES"=some (some (.str figS tkF)))
  (z0:nsIn K mainGlobals "len"=some none)
  (z1:nsIn K mainGlobals "range"=some none)
  (z2:nsIn K mainGlobals "int"=some none)
  (z3:nsIn K mainGlobals "tuple"=some none)
  (z4:nsIn K mainGlobals "zip"=some none)
  (z5:nsIn K mainGlobals "all"=some none)
  (z6:nsIn K mainGlobals "max"=some none)
  (z7:nsIn K mainGlobals "isinstance"=some none)
  (z8:nsIn K mainGlobals "str"=some none)
  (z9:nsIn K mainGlobals "bool"=some none) :
  ∃fd:FuncData,(∀(s:Shared) (v:Value),BindsTo s fd ⟨[v],[]⟩ [("_law_script",v)])/\∀base:Heap,K.In base->base.Ns mainGlobals mg->FnOk l.prog w K mg base CX0 28 fa fd ["_law_script"] (spLaw K):=by
 have e:=hfa.symm.trans (mg_of X G a27)
 cases e
 have B1:=F1.f.binds (ps:=["sign"]) fun _ _ _ _ _ _=>len1 fun _=>rfl
 have u1:=mg_of X G a1
 have B2:=F2.f.binds (ps:=["text"]) fun _ _ _ _ _ _=>len1 fun _=>rfl
 have u2:=mg_of X G a2
 have B3:=F3.f.binds (ps:=["text"]) fun _ _ _ _ _ _=>len1 fun _=>rfl
 have u3:=mg_of X G a3
 have B4:=F4.f.binds (ps:=["text","close"]) fun _ _ _ _ _ _=>len2 fun _ _=>rfl
 have u4:=mg_of X G a4
 have B5:=F5.f.binds (ps:=["text","close"]) fun _ _ _ _ _ _=>len2 fun _ _=>rfl
 have u5:=mg_of X G a5
 have B6:=F6.f.binds (ps:=["kind"]) fun _ _ _ _ _ _=>len1 fun _=>rfl
 have u6:=mg_of X G a6
 have B7:=F7.f.binds (ps:=["kind"]) fun _ _ _ _ _ _=>len1 fun _=>rfl
 have u7:=mg_of X G a7
 have B8:=F8.f.binds (ps:=["kind","depth"]) fun _ _ _ _ _ _=>len2 fun _ _=>rfl
 have u8:=mg_of X G a8
 have B9:=F9.f.binds (ps:=["text"]) fun _ _ _ _ _ _=>len1 fun _=>rfl
 have u9:=mg_of X G a9
 have B10:=F10.f.binds (ps:=["text","most"]) fun _ _ _ _ _ _=>len2 fun _ _=>rfl
 have u10:=mg_of X G a10
 have B11:=F11.f.binds (ps:=["item"]) fun _ _ _ _ _ _=>len1 fun _=>rfl
 have u11:=mg_of X G a11
 have B12:=F12.f.binds (ps:=["word"]) fun _ _ _ _ _ _=>len1 fun _=>rfl
 have u12:=mg_of X G a12
 have B13:=F13.f.binds (ps:=["word"]) fun _ _ _ _ _ _=>len1 fun _=>rfl
 have u13:=mg_of X G a13
 have B14:=F14.f.binds (ps:=["opener","items"]) fun _ _ _ _ _ _=>len2 fun _ _=>rfl
 have u14:=mg_of X G a14
 have B15:=F15.f.binds (ps:=["item"]) fun _ _ _ _ _ _=>len1 fun _=>rfl
 have u15:=mg_of X G a15
 have B16:=F16.f.binds (ps:=["text"]) fun _ _ _ _ _ _=>len1 fun _=>rfl
 have u16:=mg_of X G a16
 have B17:=F17.f.binds (ps:=["core"]) fun _ _ _ _ _ _=>len1 fun _=>rfl
 have u17:=mg_of X G a17
 have B18:=F18.f.binds (ps:=["kind"]) fun _ _ _ _ _ _=>len1 fun _=>rfl
 have u18:=mg_of X G a18
 have B19:=F19.f.binds (ps:=["_law_script","_law_k"]) fun _ _ _ _ _ _=>len2 fun _ _=>rfl
 have u19:=mg_of X G a19
 have B20:=F20.f.binds (ps:=["_law_feed_here","_law_many"]) fun _ _ _ _ _ _=>len2 fun _ _=>rfl
 have u20:=mg_of X G a20
 have B21:=F21.f.binds (ps:=[]) fun _ _ _ _ _ _=>len0 rfl
 have u21:=mg_of X G a21
 have B22:=F22.f.binds (ps:=["_law_feed_here"]) fun _ _ _ _ _ _=>len1 fun _=>rfl
 have u22:=mg_of X G a22
 have B23:=F23.f.binds (ps:=["_law_feed_here","_law_words","_law_sorts"]) fun _ _ _ _ _ _=>len3 fun _ _ _=>rfl
 have u23:=mg_of X G a23
 have B24:=F24.f.binds (ps:=["_law_kind"]) fun _ _ _ _ _ _=>len1 fun _=>rfl
 have u24:=mg_of X G a24
 have B25:=F25.f.binds (ps:=["_law_found","_law_due"]) fun _ _ _ _ _ _=>len2 fun _ _=>rfl
 have u25:=mg_of X G a25
 have B26:=F26.f.binds (ps:=["_law_script"]) fun _ _ _ _ _ _=>len1 fun _=>rfl
 have u26:=mg_of X G a26
 have B27:=F27.f.binds (ps:=["_law_script"]) fun _ _ _ _ _ _=>len1 fun _=>rfl
 have u27:=mg_of X G a27
 have z_len:=mg_none_of X G z0
 have z_range:=mg_none_of X G z1
 have z_int:=mg_none_of X G z2
 have z_tuple:=mg_none_of X G z3
 have z_zip:=mg_none_of X G z4
 have z_all:=mg_none_of X G z5
 have z_max:=mg_none_of X G z6
 have z_isinstance:=mg_none_of X G z7
 have z_str:=mg_none_of X G z8
 have z_bool:=mg_none_of X G z9
 have kC1:KD K w dC [("(",V.str ")"),("[",V.str "]")]:=⟨esC,nC,lC,kC,by decide +kernel,sC⟩
 have kF1:KD K w dF [("blank",V.ref t0),("start",V.ref t1),("word",V.ref t2),("end",V.ref t3)]:=⟨esF,nF,lF,kF,(show(["blank","start","word","end"]:List Str).Nodup by decide +kernel),sF⟩
 have T0:∀H,SqT K H t0 (folV "blank"):=tupS_T q0 (by decide)
 have T1:∀H,SqT K H t1 (folV "start"):=tupS_T q1 (by decide)
 have T2:∀H,SqT K H t2 (folV "word"):=tupS_T q2 (by decide)
 have T3:∀H,SqT K H t3 (folV "end"):=tupS_T q3 (by decide)
 have TK0:∀H,SqT K H aK keptV:=tupS_T qK (by decide)
 obtain⟨od,kV,doc,pm,an,cdv,ct,osl,rfl,lk,cc⟩:=F27.ex
 refine⟨fnOf "law" "law" (defArgs s_law) (defBody s_law) (defScope s_law) .none kV doc pm an cdv ct,fun s v=>.of_eq rfl,fun base _ _=>?_⟩
 have SO:Has l.prog w K mg base "sort_of" 1 _ _ g1 e1:=⟨ok_sort F1.f,u1,F1.kp,B1⟩
 have WE:Has l.prog w K mg base "well_parted" 2 _ _ g2 e2:=⟨ok_well F2.f SO z_all z_zip (mg_of X G pF) kF1 T0 T1 T2 T3,u2,F2.kp,B2⟩
 have SP:Has l.prog w K mg base "split_words" 1 _ _ g3 e3:=⟨ok_split F3.f,u3,F3.kp,B3⟩
 have KL:Has l.prog w K mg base "kept_list" 1 _ _ g14 e14:=⟨ok_keepL F14.f,u14,F14.kp,B14⟩
 have SC:Has l.prog w K mg base "scanned" 3 _ _ g4 e4:=⟨ok_scan F4.f WE SP KL (mg_of X G pC) kC1,u4,F4.kp,B4⟩
 have SC1:Has l.prog w K mg base "scanned_one" 4 _ _ g5 e5:=⟨ok_scan1 F5.f SC z_len,u5,F5.kp,B5⟩
 have KDP:Has l.prog w K mg base "kind_deep" 1 _ _ g6 e6:=⟨ok_deep F6.f,u6,F6.kp,B6⟩
 have IM:Has l.prog w K mg base "innermost" 1 _ _ g7 e7:=⟨ok_inn F7.f,u7,F7.kp,B7⟩
 have IR:Has l.prog w K mg base "in_rows" 1 _ _ g8 e8:=⟨ok_rows F8.f z_range,u8,F8.kp,B8⟩
 have IN:Has l.prog w K mg base "is_name" 1 _ _ g9 e9:=⟨ok_isname F9.f z_len z_all (mg_of X G pK) TK0 (mg_of X G pL),u9,F9.kp,B9⟩
 have IFG:Has l.prog w K mg base "is_figures" 1 _ _ g10 e10:=⟨ok_isfig F10.f z_len z_all (mg_of X G pI),u10,F10.kp,B10⟩
 have NO:Has l.prog w K mg base "name_of" 2 _ _ g11 e11:=⟨ok_nameof F11.f IN z_isinstance z_str,u11,F11.kp,B11⟩
 have NB:Has l.prog w K mg base "number_behind" 2 _ _ g12 e12:=⟨ok_numb F12.f IFG z_int,u12,F12.kp,B12⟩
 have COF:Has l.prog w K mg base "core_of" 3 _ _ g13 e13:=⟨ok_coreof F13.f NB NO,u13,F13.kp,B13⟩
 have KOF:Has l.prog w K mg base "kind_of" 4 _ _ g15 e15:=⟨ok_kindof F15.f COF IR z_isinstance z_str z_len,u15,F15.kp,B15⟩
 have RK:Has l.prog w K mg base "read_kind" 5 _ _ g16 e16:=⟨ok_read F16.f KL SC1 KOF,u16,F16.kp,B16⟩
 have CTX:Has l.prog w K mg base "core_text" 1 _ _ g17 e17:=⟨ok_coretx F17.f,u17,F17.kp,B17⟩
 have KTX:Has l.prog w K mg base "kind_text" 2 _ _ g18 e18:=⟨ok_kindtx F18.f KDP IM CTX,u18,F18.kp,B18⟩
 have FD:Has l.prog w K mg base "_law_feed" 1 _ _ g19 e19:=⟨ok_feed F19.f z_len,u19,F19.kp,B19⟩
 have TK:Has l.prog w K mg base "_law_take" 1 _ _ g20 e20:=⟨ok_take F20.f,u20,F20.kp,B20⟩
 have KP:Has l.prog w K mg base "_law_kept" 1 _ _ g21 e21:=⟨ok_kept F21.f,u21,F21.kp,B21⟩
 have LWD:Has l.prog w K mg base "_law_word" 2 _ _ g22 e22:=⟨ok_word F22.f TK KP z_range,u22,F22.kp,B22⟩
 have AK:Has l.prog w K mg base "_law_any_kind" 2 _ _ g23 e23:=⟨ok_anyk F23.f TK z_range z_len,u23,F23.kp,B23⟩
 have LKT:Has l.prog w K mg base "_law_kind_text" 23 _ _ g24 e24:=⟨lkt_all F24.f u24 B24 z_str 22,u24,F24.kp,B24⟩
 have LA:Has l.prog w K mg base "_law_alike" 26 _ _ g25 e25:=⟨alike_all F25.f u25 B25 z_tuple z_str z_int z_bool z_isinstance z_len z_all z_zip 25,u25,F25.kp,B25⟩
 have LG:Has l.prog w K mg base "_law_greater" 27 _ _ g26 e26:=⟨ok_greater F26.f FD TK LWD AK LKT RK LA z_range,u26,F26.kp,B26⟩
 exact ok_law ⟨⟨_,od,kV,doc,pm,an,cdv,ct,osl,rfl,lk,cc⟩,F27.kp⟩ FD LWD AK LKT RK LA KTX LG z_range z_max z_len
theorem walk{l:PySem.W.OpenLaw}{q:Program}{loose:List Str}{XP:(Str->Option Value)->Heap->Prop}{YP:World->Heap->Prop}{d:DefRec}{K:Params->PySem.W.Frag}(hn:l.most=some 63)(hdf:d.params.defaults=[])
  (hY:∀(w:World) (h:Heap),YP w h->(K w.params).In h)
  (F:∀(w:World) (mg:Str->Option Value) (fa:Addr) (h:Heap),(K w.params).In h->h.Ns mainGlobals mg->mg d.name=some (.ref fa) ->
   ∃fd:FuncData,(∀(s:Shared) (u:Value),BindsTo s fd ⟨[u],[]⟩ [("_law_script",u)])/\∀base:Heap,(K w.params).In base->base.Ns mainGlobals mg->FnOk l.prog w (K w.params) mg base CX0 28 fa fd ["_law_script"] (spLaw (K w.params))) :
  PySem.W.WalkO q loose XP YP l.row.toRowW d [] (fun f vs=>PySem.call f vs) :=
 L2.walk_of (n:=63) (k:=28) (x:="_law_script") (CX:=fun _=>CX0) (sp:=fun w=>spLaw (K w.params)) hn (by decide) hdf ⟨rfl,by decide,by decide,rfl⟩ hY F (fun _ _ a ns hl _ hS=>⟨a,ns,rfl,hS,hl,fun _=>rfl⟩) fun _ _ _ _ _ z=>z
end G07
def PySem.W.Fast.tw7523051466196921421 : Unit := ()
def PySem.W.Fast.tw2788911044880282161 : Unit := ()
def PySem.W.Fast.tw11531781239298009751 : Unit := ()
def PySem.W.Fast.tw699285588471690093 : Unit := ()
def PySem.W.Fast.tw3698220417947286604 : Unit := ()
def PySem.W.Fast.tw9916998557184614028 : Unit := ()
def PySem.W.Fast.tw8502033769051159957 : Unit := ()
def PySem.W.Fast.tw10365644939234184112 : Unit := ()
def PySem.W.Fast.tw3879403724834431407 : Unit := ()
def PySem.W.Fast.tw1234202520903855119 : Unit := ()
def PySem.W.Fast.tw12812685151637670266 : Unit := ()
def PySem.W.Fast.tw14107742727735957260 : Unit := ()
def PySem.W.Fast.tw15363490573035743177 : Unit := ()
def PySem.W.Fast.tw10342533319250740596 : Unit := ()
def PySem.W.Fast.tw3691564234913493051 : Unit := ()
open PySem PySem.W PyProof.Rows
set_option maxRecDepth 100000 in
set_option maxHeartbeats 0 in
theorem PySem.Challenge.cw_gapwork_k07_kinds_written_and_read_holds : PySem.Challenge.rw_gapwork_k07_kinds_written_and_read.Holds := by
  w_on; o_law; k_head; (case hw => w_witness2)
  k_fill
  refine G07.walk (l := PySem.Challenge.rw_gapwork_k07_kinds_written_and_read) rfl rfl (fun w h Y => PySem.W.kIn_of Y) ?F
  case F =>
    intro w mg fa h KX G hmg
    refine' G07.all_mk KX G hmg ?a1 ?a2 ?a3 ?a4 ?a5 ?a6 ?a7 ?a8 ?a9 ?a10 ?a11 ?a12 ?a13 ?a14 ?a15 ?a16 ?a17 ?a18 ?a19 ?a20 ?a21 ?a22 ?a23 ?a24 ?a25 ?a26 ?a27 ?F1 ?F2 ?F3 ?F4 ?F5 ?F6 ?F7 ?F8 ?F9 ?F10 ?F11 ?F12 ?F13 ?F14 ?F15 ?F16 ?F17 ?F18 ?F19 ?F20 ?F21 ?F22 ?F23 ?F24 ?F25 ?F26 ?F27 ?pC ?lC ?kC ?sC ?pF ?lF ?kF ?sF ?q0 ?q1 ?q2 ?q3 ?pK ?qK ?pL ?pI ?z0 ?z1 ?z2 ?z3 ?z4 ?z5 ?z6 ?z7 ?z8 ?z9
    (case a1 => k_is)
    (case a2 => k_is)
    (case a3 => k_is)
    (case a4 => k_is)
    (case a5 => k_is)
    (case a6 => k_is)
    (case a7 => k_is)
    (case a8 => k_is)
    (case a9 => k_is)
    (case a10 => k_is)
    (case a11 => k_is)
    (case a12 => k_is)
    (case a13 => k_is)
    (case a14 => k_is)
    (case a15 => k_is)
    (case a16 => k_is)
    (case a17 => k_is)
    (case a18 => k_is)
    (case a19 => k_is)
    (case a20 => k_is)
    (case a21 => k_is)
    (case a22 => k_is)
    (case a23 => k_is)
    (case a24 => k_is)
    (case a25 => k_is)
    (case a26 => k_is)
    (case a27 => k_is)
    (case F1 => exact G07.fnAt_mk (by k_is) (by k_is) (by k_is))
    (case F2 => exact G07.fnAt_mk (by k_is) (by k_is) (by k_is))
    (case F3 => exact G07.fnAt_mk (by k_is) (by k_is) (by k_is))
    (case F4 => exact G07.fnAt_mk (by k_is) (by k_is) (by k_is))
    (case F5 => exact G07.fnAt_mk (by k_is) (by k_is) (by k_is))
    (case F6 => exact G07.fnAt_mk (by k_is) (by k_is) (by k_is))
    (case F7 => exact G07.fnAt_mk (by k_is) (by k_is) (by k_is))
    (case F8 => exact G07.fnAt_mk (by k_is) (by k_is) (by k_is))
    (case F9 => exact G07.fnAt_mk (by k_is) (by k_is) (by k_is))
    (case F10 => exact G07.fnAt_mk (by k_is) (by k_is) (by k_is))
    (case F11 => exact G07.fnAt_mk (by k_is) (by k_is) (by k_is))
    (case F12 => exact G07.fnAt_mk (by k_is) (by k_is) (by k_is))
    (case F13 => exact G07.fnAt_mk (by k_is) (by k_is) (by k_is))
    (case F14 => exact G07.fnAt_mk (by k_is) (by k_is) (by k_is))
    (case F15 => exact G07.fnAt_mk (by k_is) (by k_is) (by k_is))
    (case F16 => exact G07.fnAt_mk (by k_is) (by k_is) (by k_is))
    (case F17 => exact G07.fnAt_mk (by k_is) (by k_is) (by k_is))
    (case F18 => exact G07.fnAt_mk (by k_is) (by k_is) (by k_is))
    (case F19 => exact G07.fnAt_mk (by k_is) (by k_is) (by k_is))
    (case F20 => exact G07.fnAt_mk (by k_is) (by k_is) (by k_is))
    (case F21 => exact G07.fnAt_mk (by k_is) (by k_is) (by k_is))
    (case F22 => exact G07.fnAt_mk (by k_is) (by k_is) (by k_is))
    (case F23 => exact G07.fnAt_mk (by k_is) (by k_is) (by k_is))
    (case F24 => exact G07.fnAt_mk (by k_is) (by k_is) (by k_is))
    (case F25 => exact G07.fnAt_mk (by k_is) (by k_is) (by k_is))
    (case F26 => exact G07.fnAt_mk (by k_is) (by k_is) (by k_is))
    (case F27 => exact G07.fnAt_mk (by k_is) (by k_is) (by k_is))
    (case pC => k_is)
    (case lC => k_is)
    (case kC => exact ⟨_, _, _, rfl, ⟨_, rfl⟩, rfl, ⟨_, rfl⟩, ⟨_, _, _, rfl, ⟨_, rfl⟩, rfl, ⟨_, rfl⟩, rfl⟩⟩)
    (case sC => kernel_rfl)
    (case pF => k_is)
    (case lF => k_is)
    (case kF => exact ⟨_, _, _, rfl, ⟨_, rfl⟩, rfl, rfl, ⟨_, _, _, rfl, ⟨_, rfl⟩, rfl, rfl, ⟨_, _, _, rfl, ⟨_, rfl⟩, rfl, rfl, ⟨_, _, _, rfl, ⟨_, rfl⟩, rfl, rfl, rfl⟩⟩⟩⟩)
    (case sF => kernel_rfl)
    (case q0 => kernel_rfl)
    (case q1 => kernel_rfl)
    (case q2 => kernel_rfl)
    (case q3 => kernel_rfl)
    (case pK => k_is)
    (case qK => kernel_rfl)
    (case pL => k_is)
    (case pI => k_is)
    (case z0 => k_is)
    (case z1 => k_is)
    (case z2 => k_is)
    (case z3 => k_is)
    (case z4 => k_is)
    (case z5 => k_is)
    (case z6 => k_is)
    (case z7 => k_is)
    (case z8 => k_is)
    (case z9 => k_is)
#print axioms PySem.Challenge.cw_gapwork_k07_kinds_written_and_read_holds
