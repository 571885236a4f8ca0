import PyProof.Rows.All
import Wide.All
import OpenK.AllK
import Wide.FinOn
import PyProof.EqAt
import PyProof.EqKinds
import PyProof.NeKinds
import PyProof.TupleCall
import PyProof.StrLawsRepr
import KE.KIsAll
import KE.KItem
import KE.KDictOf
import KE.KBytesAny
import Lean
import PySem.Challenge.RW_gapwork_k28_faults_reached_or_not
set_option Elab.async false
set_option linter.all false
set_option maxRecDepth 100000
namespace L2
open PySem PySem.Spec PyProof.Rows
abbrev Key:=Sum Int Str
def keyIs:Key->Value->Bool
 | .inl k,v=>Value.isInt k v
 | .inr x,v=>Value.isStrOf x v
def keyH (w:World):Key->Int
 | .inl k=>hashInt k
 | .inr x=>hashStr w x
theorem keyIs_shape:∀ {k:Key} {v:Value},keyIs k v=true->(∃ i t,k=Sum.inl i/\v=Value.int i t)\/(∃ x t,k=Sum.inr x/\v=Value.str x t)
 | .inl i,v,h=>by
  obtain ⟨t,e⟩:=Value.isInt_shape (k:=i) (v:=v) h
  exact .inl ⟨i,t,rfl,e⟩
 | .inr x,v,h=>by
  obtain ⟨t,e⟩:=Value.isStrOf_shape (x:=x) (v:=v) h
  exact .inr ⟨x,t,rfl,e⟩
theorem keyIs_int (i:Int)(t:Tok):keyIs (.inl i) (.int i t)=true:=by simp [keyIs,Value.isInt]
theorem keyIs_str (x:Str)(t:Tok):keyIs (.inr x) (.str x t)=true:=by simp [keyIs,Value.isStrOf]
theorem key_ll (a b:Int):decide ((Sum.inl a:Key)=Sum.inl b)=(a == b):=by
 by_cases e:a=b
 ·subst e;simp
 ·have h:¬ (Sum.inl a:Key)=Sum.inl b:=fun q=>e (Sum.inl.inj q)
  rw [decide_eq_false h]
  exact (beq_eq_false_iff_ne.mpr e).symm
theorem key_rr (a b:Str):decide ((Sum.inr a:Key)=Sum.inr b)=decide (a=b):=by
 by_cases e:a=b
 ·subst e;simp
 ·have h:¬ (Sum.inr a:Key)=Sum.inr b:=fun q=>e (Sum.inr.inj q)
  rw [decide_eq_false h,decide_eq_false e]
theorem key_lr (a:Int)(b:Str):decide ((Sum.inl a:Key)=Sum.inr b)=false:=decide_eq_false (fun q=>nomatch q)
theorem key_rl (a:Str)(b:Int):decide ((Sum.inr a:Key)=Sum.inl b)=false:=decide_eq_false (fun q=>nomatch q)
def mixKind (prog:Program)(w:World):PySem.KeyKind prog w Key where
 is:=keyIs
 hash:=keyH w
 inj:=fun v a b ha hb=>by
  rcases keyIs_shape ha with ⟨i,t,rfl,rfl⟩ | ⟨x,t,rfl,rfl⟩
  ·rcases keyIs_shape hb with ⟨j,u,rfl,e⟩ | ⟨y,u,rfl,e⟩
   ·injection e with e1 _;rw [e1]
   ·exact nomatch e
  ·rcases keyIs_shape hb with ⟨j,u,rfl,e⟩ | ⟨y,u,rfl,e⟩
   ·exact nomatch e
   ·injection e with e1 _;rw [e1]
 byValue:=fun k v h=>by
  rcases keyIs_shape h with ⟨i,t,rfl,rfl⟩ | ⟨x,t,rfl,rfl⟩ <;> rfl
 pyHash:=fun hv h=>by
  rcases keyIs_shape hv with ⟨i,t,rfl,rfl⟩ | ⟨x,t,rfl,rfl⟩
  ·exact wpAny_pyHash_int h
  ·exact wpAny_pyHash_str h
 eqBool:=fun hu hv h=>by
  rcases keyIs_shape hu with ⟨i,t,rfl,rfl⟩ | ⟨x,t,rfl,rfl⟩
  ·rcases keyIs_shape hv with ⟨j,u,rfl,rfl⟩ | ⟨y,u,rfl,rfl⟩
   ·rw [key_ll] at h;exact wpAny_eqBool_int h
   ·rw [key_lr] at h;exact SeqAt.EqAt.int_str i t y u _ _ _ _ h
  ·rcases keyIs_shape hv with ⟨j,u,rfl,rfl⟩ | ⟨y,u,rfl,rfl⟩
   ·rw [key_rl] at h;exact SeqAt.EqAt.str_int x t j u _ _ _ _ h
   ·rw [key_rr] at h;exact wpAny_eqBool_str h
 «strs»:=fun k x t v h=>by
  rcases keyIs_shape h with ⟨i,u,rfl,e⟩ | ⟨y,u,rfl,e⟩
  ·exact nomatch e
  ·injection e with e1 _
   subst e1
   cases v <;> rfl
theorem mixKind_int (prog:Program)(w:World)(i:Int)(t:Tok):(mixKind prog w).is (.inl i) (.int i t)=true:=keyIs_int i t
theorem mixKind_str (prog:Program)(w:World)(x:Str)(t:Tok):(mixKind prog w).is (.inr x) (.str x t)=true:=keyIs_str x t
end L2
namespace L2
open PySem PySem.Spec PyProof.Rows
inductive V where
 | non | bl (b:Bool) | int (i:Int) | str (x:Str) | byt (b:Array UInt8) | flt (b:UInt64) | ref (a:Addr) | ty (n:String)
 deriving DecidableEq
def RelV:V->Value->Prop
 | .non,u=>u=Value.none
 | .bl b,u=>u=Value.bool b
 | .int i,u=>∃ t,u=Value.int i t
 | .str x,u=>∃ t,u=Value.str x t
 | .byt b,u=>∃ t,u=Value.bytes b t
 | .flt b,u=>∃ t,u=Value.float b t
 | .ref a,u=>u=Value.ref a
 | .ty n,u=>u=Value.type n
abbrev Vals:List V->List Value->Prop:=Paired RelV
theorem Vals.length {xs:List V}{us:List Value}(r:Vals xs us):xs.length=us.length:=Paired.length r
theorem Vals.get:∀ {xs:List V} {us:List Value} {i:Nat} {x:V},Vals xs us->xs[i]?=some x->∃ u,us[i]?=some u/\RelV x u
 | _,_,_,_,.nil,e=>by simp at e
 | _,_,0,_,.cons r _,e=>by simp at e;subst e;exact ⟨_,rfl,r⟩
 | _,_,i + 1,x,.cons _ t,e=>by
  obtain ⟨u,h1,h2⟩:=Vals.get (i:=i) (x:=x) t (by simpa using e)
  exact ⟨u,by simpa using h1,h2⟩
theorem Vals.set {x:V}{u:Value}(r:RelV x u):∀ {xs:List V} {us:List Value} (i:Nat),Vals xs us->Vals (xs.set i x) (us.set i u)
 | _,_,_,.nil=>.nil
 | _,_,0,.cons _ t=>.cons r t
 | _,_,i + 1,.cons q t=>.cons q (Vals.set r i t)
theorem Vals.append:∀ {xs ys:List V} {us ws:List Value},Vals xs us->Vals ys ws->Vals (xs++ys) (us++ws)
 | _,_,_,_,.nil,s=>s
 | _,_,_,_,.cons r t,s=>.cons r (Vals.append t s)
theorem Vals.take:∀ {xs:List V} {us:List Value} (n:Nat),Vals xs us->Vals (xs.take n) (us.take n)
 | _,_,0,_=>.nil
 | _,_,_ + 1,.nil=>.nil
 | _,_,n + 1,.cons r t=>.cons r (Vals.take n t)
theorem Vals.drop:∀ {xs:List V} {us:List Value} (n:Nat),Vals xs us->Vals (xs.drop n) (us.drop n)
 | _,_,0,r=>r
 | _,_,_ + 1,.nil=>.nil
 | _,_,n + 1,.cons _ t=>Vals.drop n t
theorem Vals.none_of:∀ {xs:List V} {us:List Value} {i:Nat},Vals xs us->xs[i]?=none->us[i]?=none:=fun {xs us i} r e=>by
 have h1:=r.length
 have h2:xs.length<=i:=List.getElem?_eq_none_iff.mp e
 exact List.getElem?_eq_none_iff.mpr (by omega)
def RelO:Option V->Option Value->Prop
 | some v,some u=>RelV v u
 | none,none=>True
 | _,_=>False
def KV {κ:Type}:List (κ × V)->List (κ × Value)->Prop:=Paired fun (p:κ × V) (q:κ × Value)=>p.1=q.1/\RelV p.2 q.2
def kV:Key->V
 | .inl i=>.int i
 | .inr x=>.str x
inductive HO where
 /-- a list -/
 | lst (xs:List V)
 /-- a tuple (never changes) -/
 | tup (xs:List V)
 /-- a dict whose keys are ints and texts;one whose keys are tuples of ints and texts (the empty one is both) -/
 | dK (kvs:List (Key × V)) | dT (kvs:List (List Key × V))
 /-- a set of ints: its members,its size -/
 | set (S:Int->Bool) (n:Nat)
 /-- an instance of the class at C,its dict at dx,its attributes -/
 | ins (C dx:Addr) (fs:List (Str × V))
 /-- the dict of the instance at x -/
 | own (x:Addr)
 /-- the dict of an exception -/
 | xd (fs:List (Str × V))
 /-- a bound method,f of x -/
 | met (f x:Addr)
 /-- a range object lo,lo + 1,.. below hi -/
 | rng (lo hi:Int)
 /-- a thing that is known to the object (the script;a dict while a loop walks it): read,never written while it is so -/
 | frz (o:Obj) (u:HO)
 /-- a code object's table -/
 | tbl (ps:Array Value)
 /-- any other thing,by what is true of its one object (a def of one's own: SetO a S n:=HO.ext fun h=>..) -/
 | ext (φ:Heap->Prop)
abbrev Hp:=Addr->Option HO
def upd (H:Hp)(a:Addr)(o:HO):Hp:=fun b=>if b=a then some o else H b
theorem upd_same {H:Hp}{a:Addr}{o:HO}:upd H a o a=some o:=by unfold upd;rw [if_pos rfl]
theorem upd_ne {H:Hp}{a b:Addr}{o:HO}(h:b≠a):upd H a o b=H b:=by unfold upd;rw [if_neg h]
theorem upd_upd {H:Hp}{a:Addr}{o u:HO}:upd (upd H a o) a u=upd H a u:=by
 funext b;unfold upd;split <;> rfl
theorem ne_of {H:Hp}{a b:Addr}{o u:HO}(h:H a=some o)(h':H b=some u)(d:o≠u):a≠b:=by
 intro e;subst e;rw [h] at h';exact d (Option.some.inj h')
theorem ne_of_none {H:Hp}{a b:Addr}{o:HO}(h:H a=some o)(h':H b=none):a≠b:=by
 intro e;subst e;rw [h] at h';cases h'
section
variable (P : Program) (w : World)
def PlT (h:Heap)(a:Addr):Prop:=∃ o,h.get? a=some o/\o.dict=none
def ObjOk (H:Hp)(h:Heap)(a:Addr):HO->Prop
 | .lst xs=>xs.length<=sizeLine/\∃ (its:List Value) (n:Nat),Vals xs its/\h.get? a=some { cls:=.type "list",data:=.seq its.toArray n }
 | .tup xs=>xs.length<=sizeLine/\∃ its:List Value,Vals xs its/\IsTup h a its.toArray/\PlT h a
 | .dK kvs=>kvs.length<=sizeLine/\(a == sysModules)=false/\∃ vs,KV kvs vs/\h.DictOf (mixKind P w) a vs
 | .dT kvs=>kvs.length<=sizeLine/\(a == sysModules)=false/\∃ xs:List (List Key × Addr × Value),
   Paired (fun (p:List Key × V) (q:List Key × Addr × Value)=>p.1=q.1/\H q.2.1=some (.tup (p.1.map kV))/\RelV p.2 q.2.2) kvs xs /\
   ∃ o es ep,h.get? a=some o/\o.ExactDict/\o.data=.dict es ep/\es.toList=xs.map (entryOfKey (tupleKind (mixKind P w)))/\(xs.map (·.1)).Nodup
 | .set S n=>h.SetOf (intKind P w) a S n
 | .ins C dx fs=>H dx=some (.own a)/\fs.length<=1000/\dx≠a/\h.get? a=some (PySem.W.instObj C dx) /\
   ∃ mA,h.Ns1 dx mA/\(∀ f,RelO (fs.lookup f) (mA f))/\PySem.Within mA (fs.map (·.1))
 | .own _=>∃ o,h.get? a=some o
 | .xd fs=>∃ mA,h.Ns1 a mA/\∀ f,RelO (fs.lookup f) (mA f)
 | .rng lo hi=>∃ t u v,h.get? a=some { cls:=.type "range",data:=.fields #[.int lo t,.int hi u,.int 1 v] }
 | .frz o u=>h.get? a=some o/\ObjOk H h a u
 | .tbl ps=>h.get? a=some { cls:=.none,data:=.fields ps }
 | .met f x=>h.get? a=some (PySem.W.methodObj (.ref f) (.ref x))
 | .ext φ=>φ h/\(∃ o,h.get? a=some o)/\∀ h1 h2:Heap,φ h1->(∀ o,h1.get? a=some o->h2.get? a=some o)->φ h2
def HOk (H:Hp)(h:Heap):Prop:=∀ a o,H a=some o->ObjOk P w H h a o
end
section
variable {P : Program} {w : World} {H H' : Hp} {h h' : Heap} {a : Addr} {o : HO}
theorem ObjOk.lt (x:ObjOk P w H h a o):a < h.objs.size:=by
 cases o with
 | lst xs=>obtain ⟨_,_,_,_,e⟩:=x;exact Heap.lt_size e
 | tup xs=>obtain ⟨_,_,_,p,_⟩:=x;exact p.lt
 | dK kvs=>obtain ⟨_,_,_,_,o,_,_,e,_⟩:=x;exact Heap.lt_size e
 | dT kvs=>obtain ⟨_,_,_,_,o,_,_,e,_⟩:=x;exact Heap.lt_size e
 | set S n=>obtain ⟨o,_,_,_,e,_⟩:=x;exact Heap.lt_size e
 | ins C dx fs=>obtain ⟨_,_,_,e,_⟩:=x;exact Heap.lt_size e
 | own y=>obtain ⟨_,e⟩:=x;exact Heap.lt_size e
 | xd fs=>obtain ⟨_,⟨_,_,_,e,_⟩,_⟩:=x;exact Heap.lt_size e
 | rng lo hi=>obtain ⟨_,_,_,e⟩:=x;exact Heap.lt_size e
 | frz ob u=>obtain ⟨e,_⟩:=x;exact Heap.lt_size e
 | tbl ps=>exact Heap.lt_size (show h.get? a=some _ from x)
 | met f y=>exact Heap.lt_size (show h.get? a=some _ from x)
 | ext φ=>obtain ⟨_,⟨_,e⟩,_⟩:=x;exact Heap.lt_size e
theorem Paired.mapP {α β:Type}{F G:α->β->Prop}:∀ {l₁:List α} {l₂:List β},Paired F l₁ l₂->(∀ a b,F a b->G a b)->Paired G l₁ l₂
 | _,_,.nil,_=>.nil
 | _,_,.cons r t,f=>.cons (f _ _ r) (Paired.mapP t f)
theorem ObjOk.stay (x:ObjOk P w H h a o)(k:∀ b u,(b=a\/H b=some (.own a))->h.get? b=some u->h'.get? b=some u)
  (ho:∀ b,H b=some (.own a)->H' b=some (.own a)) (ht:∀ b xs,H b=some (.tup xs)->H' b=some (.tup xs)):ObjOk P w H' h' a o:=by
 induction o with
 | lst xs=>obtain ⟨z,its,n,r,e⟩:=x;exact ⟨z,its,n,r,k _ _ (.inl rfl) e⟩
 | tup xs=>obtain ⟨z,its,r,⟨ob,e,c⟩,o2,e2,d2⟩:=x;exact ⟨z,its,r,⟨ob,k _ _ (.inl rfl) e,c⟩,o2,k _ _ (.inl rfl) e2,d2⟩
 | dK kvs=>obtain ⟨z,y,vs,r,ob,es,ep,e,c⟩:=x;exact ⟨z,y,vs,r,ob,es,ep,k _ _ (.inl rfl) e,c⟩
 | dT kvs =>
  obtain ⟨z,y,xs,r,ob,es,ep,e,c⟩:=x
  exact ⟨z,y,xs,Paired.mapP r fun p q z=>⟨z.1,ht _ _ z.2.1,z.2.2⟩,ob,es,ep,k _ _ (.inl rfl) e,c⟩
 | set S n=>obtain ⟨ob,es,ep,t,e,c⟩:=x;exact ⟨ob,es,ep,t,k _ _ (.inl rfl) e,c⟩
 | ins C dx fs =>
  obtain ⟨d,z,ne,e,mA,⟨od,es,ep,e2,c⟩,r⟩:=x
  exact ⟨ho _ d,z,ne,k _ _ (.inl rfl) e,mA,⟨od,es,ep,k _ _ (.inr d) e2,c⟩,r⟩
 | own y=>obtain ⟨ob,e⟩:=x;exact ⟨ob,k _ _ (.inl rfl) e⟩
 | xd fs=>obtain ⟨mA,⟨od,es,ep,e,c⟩,r⟩:=x;exact ⟨mA,⟨od,es,ep,k _ _ (.inl rfl) e,c⟩,r⟩
 | rng lo hi=>obtain ⟨t,u,v,e⟩:=x;exact ⟨t,u,v,k _ _ (.inl rfl) e⟩
 | frz ob u ih=>obtain ⟨e,q⟩:=x;exact ⟨k _ _ (.inl rfl) e,ih q⟩
 | tbl ps =>
  have e:h.get? a=some { cls:=.none,data:=.fields ps }:=x
  show h'.get? a=some { cls:=.none,data:=.fields ps }
  exact k a _ (.inl rfl) e
 | met f y =>
  have e:h.get? a=some (PySem.W.methodObj (.ref f) (.ref y)):=x
  show h'.get? a=some (PySem.W.methodObj (.ref f) (.ref y))
  exact k a _ (.inl rfl) e
 | ext φ=>obtain ⟨p,⟨o,e⟩,st⟩:=x;exact ⟨st _ _ p fun o q=>k _ _ (.inl rfl) q,⟨o,k _ _ (.inl rfl) e⟩,st⟩
theorem HOk.lt (x:HOk P w H h)(e:H a=some o):a < h.objs.size:=(x a o e).lt
theorem HOk.fresh (x:HOk P w H h)(e:h.objs.size<=a):H a=none:=by
 cases q:H a with
 | none=>rfl
 | some u=>exact absurd (Nat.lt_of_lt_of_le (x.lt q) e) (Nat.lt_irrefl _)
theorem HOk.kept (x:HOk P w H h)(k:∀ b u,h.get? b=some u->h'.get? b=some u):HOk P w H h':=fun a o e =>
 (x a o e).stay (fun b u _ q=>k b u q) (fun _ q=>q) fun _ _ q=>q
theorem HOk.laid (x:HOk P w H h)(k:∀ b u,h.get? b=some u->h'.get? b=some u)(hp:h.objs.size<=a)(new:ObjOk P w (upd H a o) h' a o):HOk P w (upd H a o) h':=fun b u e=>by
 have hn:=x.fresh hp
 by_cases hb:b=a
 ·subst hb;rw [upd_same] at e;cases e;exact new
 ·rw [upd_ne hb] at e
  exact (x b u e).stay (fun c v _ q=>k c v q) (fun c q=>by rw [upd_ne (ne_of_none q hn)];exact q) fun c xs q=>by rw [upd_ne (ne_of_none q hn)];exact q
end
def Rd (H:Hp)(a:Addr)(u:HO):Prop:=H a=some u\/∃ o,H a=some (.frz o u)
theorem Rd.ok {P:Program}{w:World}{H:Hp}{h:Heap}{a:Addr}{u:HO}(r:Rd H a u)(x:HOk P w H h):ObjOk P w H h a u:=by
 rcases r with r | ⟨o,r⟩
 ·exact x a u r
 ·obtain ⟨_,q⟩:=x a _ r
  exact q
def Mut:Option HO->Prop
 | some (.lst _)=>True
 | some (.dK _)=>True
 | some (.dT _)=>True
 | some (.set _ _)=>True
 | some (.ins _ _ _)=>True
 | some (.ext _)=>True
 | _=>False
section
variable {P : Program} {w : World} {H : Hp} {h h' : Heap} {x e : Addr} {o' : HO}
theorem HOk.write (ok:HOk P w H h)(mu:Mut (H x))(he:e=x\/H e=some (.own x))(k:∀ b u,b≠e->h.get? b=some u->h'.get? b=some u)(heo:∃ u,h'.get? e=some u)
  (new:ObjOk P w (upd H x o') h' x o'):HOk P w (upd H x o') h':=fun b u q=>by
 have nown:∀ c y,H c=some (.own y)->c≠x:=fun c y r z=>by subst z;rw [r] at mu;exact mu
 have ntup:∀ c xs,H c=some (.tup xs)->c≠x:=fun c xs r z=>by subst z;rw [r] at mu;exact mu
 by_cases hb:b=x
 ·subst hb;rw [upd_same] at q;cases q;exact new
 ·rw [upd_ne hb] at q
  by_cases hbe:b=e
  ·have q':H b=some (.own x):=by
    rcases he with z | z
    ·exact absurd (hbe.trans z) hb
    ·rw [hbe];exact z
   rw [q] at q';cases q'
   obtain ⟨v,hv⟩:=heo
   exact ⟨v,by rw [hbe];exact hv⟩
  ·refine (ok b u q).stay (fun c v hc r=>k c v ?_ r) (fun c r=>by rw [upd_ne (nown c b r)];exact r) fun c xs r=>by rw [upd_ne (ntup c xs r)];exact r
   rcases hc with rfl | hc
   ·exact hbe
   ·rintro rfl
    rcases he with z | z
    ·exact nown c b hc z
    ·rw [hc] at z;cases z;exact hb rfl
end
structure Un (fs ex:List Addr) (H H':Hp) (h h':Heap):Prop where
 keep:∀ b o,h.get? b=some o->H b=none->b ∉ fs->b ∉ ex->h'.get? b=some o
 slot:∀ b o,h.get? b=some o->H b=none->b∈fs->b ∉ ex->∃ sl,h'.get? b=some { o with slots:=sl }
 free:∀ b o,h.get? b=some o->H b=none->b ∉ ex->H' b=none
 there:∀ b o,h.get? b=some o->b ∉ ex->∃ o',h'.get? b=some o'
 tups:∀ b xs,H b=some (.tup xs)->H' b=some (.tup xs)
 frzs:∀ b o u,H b=some (.frz o u)->H' b=some (.frz o u)
 tbls:∀ b ps,H b=some (.tbl ps)->∃ more,H' b=some (.tbl (ps++more))
section
variable {fs fs' ex ex' : List Addr} {H H1 H2 : Hp} {h h1 h2 h' : Heap} {a x e : Addr} {o : HO}
theorem Un.any (u:Un fs ex H H1 h h1){b:Addr}{ob:Obj}(q:h.get? b=some ob)(n:H b=none)(hx:b ∉ ex):∃ sl,h1.get? b=some { ob with slots:=sl }:=by
 by_cases hb:b∈fs
 ·exact u.slot b ob q n hb hx
 ·exact ⟨ob.slots,u.keep b ob q n hb hx⟩
theorem Un.trans (a:Un fs ex H H1 h h1)(b:Un fs ex H1 H2 h1 h2):Un fs ex H H2 h h2 where
 keep:=fun c ob q n hc hx=>b.keep c ob (a.keep c ob q n hc hx) (a.free c ob q n hx) hc hx
 slot:=fun c ob q n hc hx=>by
  obtain ⟨sl,e1⟩:=a.slot c ob q n hc hx
  obtain ⟨sl',e2⟩:=b.slot c _ e1 (a.free c ob q n hx) hc hx
  exact ⟨sl',e2⟩
 free:=fun c ob q n hx=>by
  obtain ⟨o',e1⟩:=a.there c ob q hx
  exact b.free c o' e1 (a.free c ob q n hx) hx
 there:=fun c ob q hx=>by
  obtain ⟨o',e1⟩:=a.there c ob q hx
  exact b.there c o' e1 hx
 tups:=fun c xs q=>b.tups c xs (a.tups c xs q)
 frzs:=fun c ob xs q=>b.frzs c ob xs (a.frzs c ob xs q)
 tbls:=fun c ps q=>by
  obtain ⟨m1,e1⟩:=a.tbls c ps q
  obtain ⟨m2,e2⟩:=b.tbls c _ e1
  exact ⟨m1++m2,by rw [e2,Array.append_assoc]⟩
theorem Un.kept (k:∀ b u,h.get? b=some u->h'.get? b=some u):Un fs ex H H h h' :=
 ⟨fun b ob q _ _ _=>k b ob q,fun b ob q _ _ _=>⟨ob.slots,k b ob q⟩,fun _ _ _ n _=>n,fun b ob q _=>⟨ob,k b ob q⟩,fun _ _ q=>q,fun _ _ _ q=>q,fun _ ps q=>⟨#[],by rw [q];simp⟩⟩
theorem Un.refl:Un fs ex H H h h:=Un.kept fun _ _ q=>q
theorem Un.laid (k:∀ b u,h.get? b=some u->h'.get? b=some u)(hp:h.objs.size<=a)(hn:H a=none):Un fs ex H (upd H a o) h h' where
 keep:=fun b u q _ _ _=>k b u q
 slot:=fun b u q _ _ _=>⟨u.slots,k b u q⟩
 free:=fun b u q n _=>by rw [upd_ne (Nat.ne_of_lt (Nat.lt_of_lt_of_le (Heap.lt_size q) hp))];exact n
 there:=fun b u q _=>⟨u,k b u q⟩
 tups:=fun b xs q=>by rw [upd_ne (ne_of_none q hn)];exact q
 frzs:=fun b u xs q=>by rw [upd_ne (ne_of_none q hn)];exact q
 tbls:=fun b ps q=>⟨#[],by rw [upd_ne (ne_of_none q hn),q];simp⟩
theorem Un.write (mu:Mut (H x))(he:e=x\/H e=some (.own x))(k:∀ b u,b≠e->h.get? b=some u->h'.get? b=some u)(heo:∃ u,h'.get? e=some u):Un fs ex H (upd H x o) h h':=by
 have hx:∀ b,H b=none->b≠x:=fun b n z=>by subst z;rw [n] at mu;exact mu
 have hb:∀ b,H b=none->b≠e:=fun b n z=>by
  subst z
  rcases he with r | r
  ·exact hx b n r
  ·rw [n] at r;cases r
 have hm:∀ b u,H b=some u->¬ Mut (some u)->b≠x:=fun b u q nm z=>by subst z;rw [q] at mu;exact nm mu
 refine ⟨fun b u q n _ _=>k b u (hb b n) q,fun b u q n _ _=>⟨u.slots,k b u (hb b n) q⟩,fun b u q n _=>by rw [upd_ne (hx b n)];exact n,fun b u q _=>?_,
  fun b xs q=>by rw [upd_ne (hm b _ q fun z=>z)];exact q,fun b u xs q=>by rw [upd_ne (hm b _ q fun z=>z)];exact q,fun b ps q=>⟨#[],by rw [upd_ne (hm b _ q fun z=>z),q];simp⟩⟩
 by_cases hbe:b=e
 ·subst hbe;exact heo
 ·exact ⟨u,k b u hbe q⟩
end
def trk (h:Heap)(H:Hp):List Addr:=(List.range h.objs.size).filter fun a=>(H a).isSome
def hidT (h:Heap)(H:Hp):Heap:=PySem.W.hideAll h (trk h H)
theorem hidT_size (h:Heap)(H:Hp):(hidT h H).objs.size=h.objs.size:=PySem.W.hideAll_size _ _
theorem hidT_get {h:Heap}{H:Hp}{b:Addr}{o:Obj}(e:h.get? b=some o)(n:H b=none):(hidT h H).get? b=some o :=
 PySem.W.hideAll_get _ e fun hm=>by
  have q:(H b).isSome=true:=(List.mem_filter.mp hm).2
  rw [n] at q;simp at q
theorem of_hidT {h:Heap}{H:Hp}{b:Addr}{o:Obj}(e:(hidT h H).get? b=some o):h.get? b=some o/\H b=none:=by
 have e':h.get? b=some o:=PySem.W.of_hideAll (trk h H) e
 refine ⟨e',?_⟩
 cases q:H b with
 | none=>rfl
 | some x =>
  have hm:b∈trk h H:=List.mem_filter.mpr ⟨List.mem_range.mpr (Heap.lt_size e'),by simp [q]⟩
  have z:(hidT h H).get? b=none:=PySem.W.hideAll_none (trk h H) hm
  rw [z] at e;cases e
end L2
namespace L2
open PySem PySem.Spec PyProof.Rows
structure Mod (K:PySem.W.Frag) (mg:Str->Option Value) (base:Heap):Prop where
 kin:K.In base
 glob:base.Ns mainGlobals mg
 blt:∃ mb,base.Ns builtinsNs mb/\∀ x:Str,x≠"__name__"->mb x=bootBuiltins x
 nolimit:base.NoLimit
structure Cx where
 prog:Program
 w:World
 K:PySem.W.Frag
 mg:Str->Option Value
 base:Heap
 A:Around
 N:List Str
 s₀:Shared
 H₀:Hp
 env:Env
 outer:List Env
 stack:List Env
 ex:List Addr
 fn:Str->Bool
 calm:Bool
 pn:List (Addr × Obj)
 xe:Value->Shared->Prop
def frs (l:List Env):List Addr:=l.filterMap (·.frame)
abbrev Cx.fs (X:Cx):List Addr:=frs X.outer
def Vis (sc:Scope)(x:Str):Prop:=sc.names.lookup x=some .local\/sc.names.lookup x=some .cell\/sc.names.lookup x=some .free
def Loc (sc:Scope)(x:Str):Prop:=sc.names.lookup x=some .local\/sc.names.lookup x=some .cell
def Look (env:Env)(h:Heap)(m:Str->Option Value)(x:Str)(u:Value):Prop :=
 (env.kindOf x=some .local/\m x=some u)\/((env.kindOf x=some .cell\/env.kindOf x=some .free)/\∃ c,env.cells.lookup x=some c/\h.IsCell c (some u))
structure Cx.Ok (X:Cx):Prop where
 mod:Mod X.K X.mg X.base
 kind:X.env.scope.kind=.function
 glob:X.env.globals=mainGlobals
 blt:X.env.builtins=builtinsNs
 above:X.s₀.heap.objs.size<=X.env.locals
 inj:∀ x y c,X.env.cells.lookup x=some c->X.env.cells.lookup y=some c->x=y
 has:∀ x,(X.env.kindOf x=some .cell\/X.env.kindOf x=some .free)->∃ c,X.env.cells.lookup x=some c
 cab:∀ x c,X.fn x=true->X.env.cells.lookup x=some c->X.s₀.heap.objs.size<=c
 hd:X.calm=true->X.A.handled=none
 frames:X.A.frames=some X.stack
 stk:X.stack=X.outer\/(X.stack=X.env::X.outer/\X.env.frame=some X.env.locals)
 exf:∀ b∈X.ex,b≠X.env.locals/\∀ x c,X.env.cells.lookup x=some c->c≠b
 bs:∀ b o,X.base.get? b=some o->X.s₀.heap.get? b=some o/\X.H₀ b=none
 bsz:X.base.objs.size<=X.s₀.heap.objs.size
 noex:∀ b o,X.base.get? b=some o->b ∉ X.ex
 exfs:∀ b∈X.ex,b ∉ X.fs
 funs:X.s₀.heap.FunFrames X.base X.outer
 frf:∀ b∈X.fs,X.H₀ b=none
structure Inv (X:Cx) (pins:List (Addr × Obj)) (σ:List (Option V)) (H:Hp) (s:Shared):Prop where
 ok:X.Ok
 os:s.os=X.s₀.os
 bare:AllBare s.gens
 base:Un X.fs X.ex X.H₀ H X.s₀.heap s.heap
 loc:∃ m,s.heap.Ns X.env.locals m/\∀ (i:Nat) (x:Str) (v:V),X.N[i]?=some x->σ[i]?=some (some v)->Vis X.env.scope x->∃ u,RelV v u/\Look X.env s.heap m x u
 cell:∀ x c,X.env.cells.lookup x=some c->∃ v,s.heap.IsCell c v
 free:H X.env.locals=none
 freeC:∀ x c,X.env.cells.lookup x=some c->H c=none
 pin:∀ p∈X.pn++pins,s.heap.get? p.1=some p.2/\H p.1=none/\p.1≠X.env.locals/\p.1 ∉ X.fs/\∀ v,p.2.data≠.cell v
 hok:HOk X.prog X.w H s.heap
 len:σ.length=X.N.length
section
variable {X : Cx} {pins : List (Addr × Obj)} {σ : List (Option V)} {H H' : Hp} {s : Shared} {h' : Heap}
theorem Cx.Ok.nofr (ok:X.Ok){b:Addr}{o:Obj}(e:X.base.get? b=some o):b ∉ X.fs:=fun hb=>by
 have:=(ok.funs.mem hb).1
 rw [e] at this;cases this
theorem Inv.bs (I:Inv X pins σ H s):∀ b o,X.base.get? b=some o->s.heap.get? b=some o/\H b=none:=fun b o e =>
 ⟨I.base.keep b o (I.ok.bs b o e).1 (I.ok.bs b o e).2 (I.ok.nofr e) (I.ok.noex b o e),I.base.free b o (I.ok.bs b o e).1 (I.ok.bs b o e).2 (I.ok.noex b o e)⟩
theorem Inv.bk (I:Inv X pins σ H s):∀ b o,X.base.get? b=some o->s.heap.get? b=some o:=fun b o e=>(I.bs b o e).1
theorem Inv.mod (I:Inv X pins σ H s):Mod X.K X.mg X.base:=I.ok.mod
theorem Inv.kIn (I:Inv X pins σ H s):X.K.In s.heap:=I.ok.mod.kin.keeps I.bk
theorem Inv.lt (I:Inv X pins σ H s):X.env.locals < s.heap.objs.size:=let ⟨_,hn,_⟩:=I.loc;hn.lt
theorem Inv.sz (I:Inv X pins σ H s):X.s₀.heap.objs.size<=s.heap.objs.size:=Nat.le_trans I.ok.above (Nat.le_of_lt I.lt)
theorem Inv.nofs (I:Inv X pins σ H s){a:Addr}(h:s.heap.objs.size<=a):a ∉ X.fs:=fun hb=>by
 obtain ⟨_,o,ho,_⟩:=I.ok.funs.mem hb
 exact absurd (Nat.lt_of_lt_of_le (Heap.lt_size ho) (Nat.le_trans I.sz h)) (Nat.lt_irrefl _)
theorem Inv.cne (I:Inv X pins σ H s):∀ x c,X.env.cells.lookup x=some c->c≠X.env.locals:=fun x c e z=>by
 obtain ⟨v,o,ho,hd⟩:=I.cell x c e
 obtain ⟨m,⟨o',es,ep,ho',hd',_⟩,_⟩:=I.loc
 rw [z,ho'] at ho;cases ho;rw [hd'] at hd;cases hd
theorem Inv.funs (I:Inv X pins σ H s):s.heap.FunFrames X.base X.outer:=by
 have all:∀ (l:List Env),(∀ b∈frs l,b∈X.fs)->X.s₀.heap.FunFrames X.base l->s.heap.FunFrames X.base l:=by
  intro l
  induction l with
  | nil=>intro _ _;trivial
  | cons env r ih =>
   intro hs hl
   obtain ⟨hk,⟨L,o,hf,hn,ho,hd⟩,hr⟩:=hl
   have hL:L∈X.fs:=hs L (by unfold frs;rw [List.filterMap_cons,hf];exact List.mem_cons_self)
   obtain ⟨sl,e⟩:=I.base.slot L o ho (I.ok.frf L hL) hL fun z=>I.ok.exfs L z hL
   exact ⟨hk,⟨L,_,hf,hn,e,hd⟩,ih (fun b hb=>hs b (by unfold frs;rw [List.filterMap_cons,hf];exact List.mem_cons_of_mem _ hb)) hr⟩
 exact all X.outer (fun _ hb=>hb) I.ok.funs
theorem Inv.stack (I:Inv X pins σ H s):s.heap.FunFrames X.base X.stack:=by
 rcases I.ok.stk with e | ⟨e,hf⟩
 ·rw [e];exact I.funs
 ·rw [e]
  obtain ⟨m,hn,_⟩:=I.loc
  refine .cons (by rw [I.ok.kind];decide) hf hn ?_ I.funs
  exact Heap.get?_none_of_le (Nat.le_trans I.ok.bsz I.ok.above)
theorem Inv.stkSub (I:Inv X pins σ H s):∀ b∈frs X.stack,b∈X.env.locals::X.fs:=fun b hb=>by
 rcases I.ok.stk with e | ⟨e,hf⟩
 ·rw [e] at hb;exact List.mem_cons_of_mem _ hb
 ·rw [e] at hb
  unfold frs at hb
  rw [List.filterMap_cons,hf] at hb
  exact hb
theorem Inv.stkFree (I:Inv X pins σ H s):∀ b∈frs X.stack,H b=none:=fun b hb=>by
 rcases List.mem_cons.mp (I.stkSub b hb) with e | hb
 ·rw [e];exact I.free
 ·obtain ⟨_,o,ho,_⟩:=I.ok.funs.mem hb
  exact I.base.free b o ho (I.ok.frf b hb) fun z=>I.ok.exfs b z hb
theorem Inv.step {g':Array GenState}{t':Nat}{d':Drawn}{ch:List Addr}(I:Inv X pins σ H s)
  (hch:∀ b∈ch,(b∈X.ex\/X.s₀.heap.objs.size<=b)/\b≠X.env.locals/\(∀ x c,X.env.cells.lookup x=some c->c≠b)/\∀ p∈X.pn++pins,p.1≠b)
  (keep:∀ b o,b≠X.env.locals->b ∉ X.fs->b ∉ ch->s.heap.get? b=some o->H b=none->h'.get? b=some o)
  (slot:∀ b o,b≠X.env.locals->b∈X.fs->b ∉ ch->s.heap.get? b=some o->H b=none->∃ sl,h'.get? b=some { o with slots:=sl }) (free:∀ b o,b ∉ ch->s.heap.get? b=some o->H b=none->H' b=none)
  (there:∀ b o,b ∉ ch->s.heap.get? b=some o->∃ o',h'.get? b=some o')
  (tups:∀ b xs,H b=some (.tup xs)->H' b=some (.tup xs)) (frzs:∀ b o u,H b=some (.frz o u)->H' b=some (.frz o u)) (tbls:∀ b ps,H b=some (.tbl ps)->∃ more,H' b=some (.tbl (ps++more)))
  (ns:∀ m,s.heap.Ns X.env.locals m->h'.Ns X.env.locals m) (hok:HOk X.prog X.w H' h') (hg:AllBare g') :
  Inv X pins σ H' { s with heap:=h',gens:=g',drawn:=d',toks:=t' }:=by
 have neL:∀ b o,X.s₀.heap.get? b=some o->b≠X.env.locals:=fun b o e=>Nat.ne_of_lt (Nat.lt_of_lt_of_le (Heap.lt_size e) I.ok.above)
 have neC:∀ b o,X.s₀.heap.get? b=some o->b ∉ X.ex->b ∉ ch:=fun b o e hx hb=>by
  rcases (hch b hb).1 with z | z
  ·exact hx z
  ·exact absurd (Nat.lt_of_lt_of_le (Heap.lt_size e) z) (Nat.lt_irrefl _)
 have cellK:∀ x c,X.env.cells.lookup x=some c->∀ v,s.heap.IsCell c v->h'.IsCell c v:=fun x c e v ⟨o,ho,hd⟩=>by
  have nch:c ∉ ch:=fun z=>(hch c z).2.2.1 x c e rfl
  by_cases hc:c∈X.fs
  ·obtain ⟨sl,q⟩:=slot c o (I.cne x c e) hc nch ho (I.freeC x c e)
   exact ⟨_,q,hd⟩
  ·exact ⟨o,keep c o (I.cne x c e) hc nch ho (I.freeC x c e),hd⟩
 refine ⟨I.ok,I.os,hg,⟨fun b o e n hb hx=>?_,fun b o e n hb hx=>?_,fun b o e n hx=>?_,fun b o e hx=>?_,fun b xs e=>tups b xs (I.base.tups b xs e),fun b o xs e=>frzs b o xs (I.base.frzs b o xs e),fun b ps e=>?_⟩,?_,fun x c e=>?_,?_,fun x c e=>?_,fun p hp=>?_,hok,I.len⟩
 ·exact keep b o (neL b o e) hb (neC b o e hx) (I.base.keep b o e n hb hx) (I.base.free b o e n hx)
 ·obtain ⟨sl,e1⟩:=I.base.slot b o e n hb hx
  obtain ⟨sl',e2⟩:=slot b _ (neL b o e) hb (neC b o e hx) e1 (I.base.free b o e n hx)
  exact ⟨sl',e2⟩
 ·obtain ⟨o',e1⟩:=I.base.there b o e hx
  exact free b o' (neC b o e hx) e1 (I.base.free b o e n hx)
 ·obtain ⟨o',e1⟩:=I.base.there b o e hx
  exact there b o' (neC b o e hx) e1
 ·obtain ⟨m1,e1⟩:=I.base.tbls b ps e
  obtain ⟨m2,e2⟩:=tbls b _ e1
  exact ⟨m1++m2,by rw [e2,Array.append_assoc]⟩
 ·obtain ⟨m,hn,hl⟩:=I.loc
  refine ⟨m,ns m hn,fun i x v e1 e2 e3=>?_⟩
  obtain ⟨u,r,l⟩:=hl i x v e1 e2 e3
  refine ⟨u,r,?_⟩
  rcases l with l | ⟨k,c,e,z⟩
  ·exact .inl l
  ·exact .inr ⟨k,c,e,cellK x c e _ z⟩
 ·obtain ⟨v,z⟩:=I.cell x c e
  exact ⟨v,cellK x c e v z⟩
 ·obtain ⟨m,⟨o,_,_,ho,_⟩,_⟩:=I.loc
  exact free _ o (fun z=>(hch _ z).2.1 rfl) ho I.free
 ·obtain ⟨v,o,ho,hd⟩:=I.cell x c e
  exact free c o (fun z=>(hch c z).2.2.1 x c e rfl) ho (I.freeC x c e)
 ·obtain ⟨e,n,ne,nf,d⟩:=I.pin p hp
  have nch:p.1 ∉ ch:=fun z=>(hch p.1 z).2.2.2 p hp rfl
  exact ⟨keep p.1 p.2 ne nf nch e n,free p.1 p.2 nch e n,ne,nf,d⟩
theorem Inv.un {t':Nat}(I:Inv X pins σ H s)(u:Un X.fs [] H H' s.heap h')(hok:HOk X.prog X.w H' h'):Inv X pins σ H' { s with heap:=h',toks:=t' }:=by
 obtain ⟨m,⟨o,es,ep,ho,r⟩,_⟩:=id I.loc
 obtain ⟨sl,hL⟩:=u.any ho I.free (by simp)
 exact I.step (g':=s.gens) (d':=s.drawn) (ch:=[]) (fun _ z=>nomatch z) (fun b o _ hb _ e n=>u.keep b o e n hb (by simp)) (fun b o _ hb _ e n=>u.slot b o e n hb (by simp)) (fun b o _ e n=>u.free b o e n (by simp)) (fun b o _ e=>u.there b o e (by simp)) u.tups u.frzs u.tbls (fun m' hm=>by
  obtain ⟨o',es',ep',ho',r'⟩:=hm
  rw [ho] at ho';cases ho'
  exact ⟨_,es',ep',hL,r'⟩) hok I.bare
theorem Inv.call {g':Array GenState}{t':Nat}{d':Drawn}{ch:List Addr}(I:Inv X pins σ H s)(u:Un (frs X.stack) ch H H' s.heap h')(hok:HOk X.prog X.w H' h')(hg:AllBare g')
  (hch:∀ b∈ch,(b∈X.ex\/X.s₀.heap.objs.size<=b)/\b≠X.env.locals/\(∀ x c,X.env.cells.lookup x=some c->c≠b)/\∀ p∈X.pn++pins,p.1≠b) :
  Inv X pins σ H' { s with heap:=h',gens:=g',drawn:=d',toks:=t' }:=by
 obtain ⟨m,⟨o,es,ep,ho,r⟩,_⟩:=id I.loc
 obtain ⟨sl,hL⟩:=u.any ho I.free fun z=>(hch _ z).2.1 rfl
 exact I.step (ch:=ch) hch (fun b o hL hb hc e n=>u.keep b o e n (fun z=>(List.mem_cons.mp (I.stkSub b z)).elim hL hb) hc) (fun b o _ _ hc e n=>u.any e n hc) (fun b o hc e n=>u.free b o e n hc) (fun b o hc e=>u.there b o e hc) u.tups u.frzs u.tbls (fun m' hm=>by
  obtain ⟨o',es',ep',ho',r'⟩:=hm
  rw [ho] at ho';cases ho'
  exact ⟨_,es',ep',hL,r'⟩) hok hg
theorem Inv.turned {t':Nat}{it:Addr}(I:Inv X pins σ H s)(k:∀ b o,b≠it->s.heap.get? b=some o->h'.get? b=some o)(hn:H it=none)(hL:it≠X.env.locals)
  (h1:it∈X.ex\/X.s₀.heap.objs.size<=it) (h2:∀ x c,X.env.cells.lookup x=some c->c≠it) (h3:∀ p∈X.pn++pins,p.1≠it):Inv X pins σ H { s with heap:=h',toks:=t' }:=by
 have nit:∀ b u,H b=some u->b≠it:=fun b u e z=>by rw [z,hn] at e;cases e
 refine I.step (g':=s.gens) (d':=s.drawn) (ch:=[it]) (fun b hb=>?_) (fun b o _ _ hc e _=>k b o (fun z=>hc (by simp [z])) e) (fun b o _ _ hc e _=>⟨o.slots,k b o (fun z=>hc (by simp [z])) e⟩) (fun _ _ _ _ n=>n)
  (fun b o hc e=>⟨o,k b o (fun z=>hc (by simp [z])) e⟩) (fun _ _ e=>e) (fun _ _ _ e=>e) (fun b ps e=>⟨#[],by rw [e];simp⟩) (fun m hm=>?_) (fun b u e=>?_) I.bare
 ·have e:b=it:=by simpa using hb
  subst e
  exact ⟨h1,hL,h2,h3⟩
 ·obtain ⟨o,es,ep,ho,r⟩:=hm
  exact ⟨o,es,ep,k _ o (Ne.symm hL) ho,r⟩
 ·refine (I.hok b u e).stay (fun c v hc q=>k c v ?_ q) (fun _ q=>q) fun _ _ q=>q
  rcases hc with z | z
  ·rw [z];exact nit b u e
  ·exact nit c _ z
theorem Inv.tok (I:Inv X pins σ H s)(t:Nat):Inv X pins σ H { s with toks:=t }:=I.un (h':=s.heap) (t':=t) Un.refl I.hok
theorem Inv.kept {t':Nat}(I:Inv X pins σ H s)(k:∀ b u,s.heap.get? b=some u->h'.get? b=some u):Inv X pins σ H { s with heap:=h',toks:=t' }:=I.un (Un.kept k) (I.hok.kept k)
theorem Inv.laid {a:Addr}{o:HO}{t':Nat}(I:Inv X pins σ H s)(k:∀ b u,s.heap.get? b=some u->h'.get? b=some u)(hp:s.heap.objs.size<=a)(new:ObjOk X.prog X.w (upd H a o) h' a o) :
  Inv X pins σ (upd H a o) { s with heap:=h',toks:=t' }:=I.un (Un.laid k hp (I.hok.fresh hp)) (I.hok.laid k hp new)
theorem Inv.write {x e:Addr}{o:HO}{t':Nat}(I:Inv X pins σ H s)(mu:Mut (H x))(he:e=x\/H e=some (.own x))(k:∀ b u,b≠e->s.heap.get? b=some u->h'.get? b=some u)(heo:∃ u,h'.get? e=some u)
  (new:ObjOk X.prog X.w (upd H x o) h' x o):Inv X pins σ (upd H x o) { s with heap:=h',toks:=t' }:=I.un (Un.write mu he k heo) (I.hok.write mu he k heo new)
theorem Inv.pins_of {pins':List (Addr × Obj)}(I:Inv X pins σ H s)(h:∀ p∈pins',s.heap.get? p.1=some p.2/\H p.1=none/\p.1≠X.env.locals/\p.1 ∉ X.fs/\∀ v,p.2.data≠.cell v):Inv X pins' σ H s :=
 ⟨I.ok,I.os,I.bare,I.base,I.loc,I.cell,I.free,I.freeC,fun p hp=>(List.mem_append.mp hp).elim (fun z=>I.pin p (List.mem_append_left _ z)) (h p),I.hok,I.len⟩
theorem nodup_ix {N:List Str}(hN:N.Nodup){i j:Nat}{x:Str}(a:N[i]?=some x)(b:N[j]?=some x):i=j:=by
 obtain ⟨h1,e1⟩:=List.getElem?_eq_some_iff.mp a
 obtain ⟨h2,e2⟩:=List.getElem?_eq_some_iff.mp b
 exact (List.getElem_inj hN).mp (e1.trans e2.symm)
theorem store_ok2 {M:Model}{A:Around}{E:Value->Shared->Prop}{i:Nat}{x:Str}{v:V}{u:Value}{Q:Unit->Shared->Prop}(I:Inv X pins σ H s)(hN:X.N.Nodup)(hi:X.N[i]?=some x)(hx:Loc X.env.scope x)(r:RelV v u)
  (h:∀ s',Inv X pins (σ.set i (some v)) H s'->(∃ a,Heap.SameBut a s.heap s'.heap/\(a=X.env.locals\/X.env.cells.lookup x=some a))->Q () s') (hf:X.fn x=true\/X.env.scope.names.lookup x=some .local:=by first | exact .inl rfl | exact .inr rfl | assumption):wpAny M A (storeName X.env x u) Q E s:=by
 obtain ⟨m,hn,hl⟩:=id I.loc
 have hcls:(X.env.scope.kind == .class || (X.env.scope.kind == .module && X.env.locals != X.env.globals))=false:=by rw [I.ok.kind];rfl
 have hiσ:i < σ.length:=by rw [I.len];exact (List.getElem?_eq_some_iff.mp hi).1
 have cne:=I.cne
 have tracked:∀ {a:Addr} {h':Heap},(∃ o,s.heap.get? a=some o/\H a=none)->Heap.SameBut a s.heap h'->HOk X.prog X.w H h':=fun {a h'} ha hs b ob e=>by
  obtain ⟨_,_,hfree⟩:=ha
  refine (I.hok b ob e).stay (fun c w' hc q=>(hs.2 c ?_).trans q) (fun _ q=>q) fun _ _ q=>q
  rintro rfl
  rcases hc with rfl | hc
  ·rw [hfree] at e;cases e
  ·rw [hfree] at hc;cases hc
 rcases hx with hk | hk
 ·refine wpAny_storeName_local hk hn (fun h' hn' hs=>?_) hcls
  obtain ⟨oL,_,_,hoL,_⟩:=id hn
  refine h _ ⟨I.ok,I.os,I.bare,⟨fun b o e n hb hx=>?_,fun b o e n hb hx=>?_,I.base.free,fun b o e hx=>?_,I.base.tups,I.base.frzs,I.base.tbls⟩,⟨_,hn',fun j y v' e1 e2 e3=>?_⟩,fun y c e=>?_,I.free,I.freeC,fun p hp=>?_,tracked ⟨oL,hoL,I.free⟩ hs,by simpa using I.len⟩ ⟨_,hs,.inl rfl⟩
  ·exact (hs.2 b (Nat.ne_of_lt (Nat.lt_of_lt_of_le (Heap.lt_size e) I.ok.above))).trans (I.base.keep b o e n hb hx)
  ·obtain ⟨sl,e1⟩:=I.base.slot b o e n hb hx
   exact ⟨sl,(hs.2 b (Nat.ne_of_lt (Nat.lt_of_lt_of_le (Heap.lt_size e) I.ok.above))).trans e1⟩
  ·obtain ⟨o',e1⟩:=I.base.there b o e hx
   exact ⟨o',(hs.2 b (Nat.ne_of_lt (Nat.lt_of_lt_of_le (Heap.lt_size e) I.ok.above))).trans e1⟩
  ·by_cases hj:j=i
   ·subst hj
    rw [hi] at e1;cases e1
    rw [List.getElem?_set_self hiσ] at e2
    cases e2
    exact ⟨u,r,.inl ⟨hk,by simp⟩⟩
   ·rw [List.getElem?_set_ne (Ne.symm hj)] at e2
    obtain ⟨u',r',q⟩:=hl j y v' e1 e2 e3
    refine ⟨u',r',?_⟩
    rcases q with ⟨k,e⟩ | ⟨k,c,e,z⟩
    ·refine .inl ⟨k,?_⟩
     have:y≠x:=fun e=>hj (nodup_ix hN e1 (e ▸ hi))
     simp [this,e]
    ·exact .inr ⟨k,c,e,z.sameBut hs (cne y c e)⟩
  ·obtain ⟨w',z⟩:=I.cell y c e
   exact ⟨w',z.sameBut hs (cne y c e)⟩
  ·obtain ⟨e,n,ne,nf,d⟩:=I.pin p hp
   exact ⟨(hs.2 p.1 ne).trans e,n,ne,nf,d⟩
 ·have hfn:X.fn x=true:=by
   rcases hf with z | z
   ·exact z
   ·rw [z] at hk;cases hk
  obtain ⟨c,hc⟩:=I.ok.has x (.inl hk)
  obtain ⟨w',z⟩:=I.cell x c hc
  refine wpAny_storeName_cell I.ok.kind hk hc z (fun h' hc' hs=>?_)
  obtain ⟨oc,hoc,hocd⟩:=id z
  refine h { s with heap:=h' } ⟨I.ok,I.os,I.bare,⟨fun b o e n hb hx=>?_,fun b o e n hb hx=>?_,I.base.free,fun b o e hx=>?_,I.base.tups,I.base.frzs,I.base.tbls⟩,⟨m,hn.sameBut hs (Ne.symm (cne x c hc)),fun j y v' e1 e2 e3=>?_⟩,fun y c' e=>?_,I.free,I.freeC,fun p hp=>?_,tracked ⟨oc,hoc,I.freeC x c hc⟩ hs,by simpa using I.len⟩ ⟨c,hs,.inr hc⟩
  ·exact (hs.2 b (Nat.ne_of_lt (Nat.lt_of_lt_of_le (Heap.lt_size e) (I.ok.cab x c hfn hc)))).trans (I.base.keep b o e n hb hx)
  ·obtain ⟨sl,e1⟩:=I.base.slot b o e n hb hx
   exact ⟨sl,(hs.2 b (Nat.ne_of_lt (Nat.lt_of_lt_of_le (Heap.lt_size e) (I.ok.cab x c hfn hc)))).trans e1⟩
  ·obtain ⟨o',e1⟩:=I.base.there b o e hx
   exact ⟨o',(hs.2 b (Nat.ne_of_lt (Nat.lt_of_lt_of_le (Heap.lt_size e) (I.ok.cab x c hfn hc)))).trans e1⟩
  ·by_cases hj:j=i
   ·subst hj
    rw [hi] at e1;cases e1
    rw [List.getElem?_set_self hiσ] at e2
    cases e2
    exact ⟨u,r,.inr ⟨.inl hk,c,hc,hc'⟩⟩
   ·rw [List.getElem?_set_ne (Ne.symm hj)] at e2
    obtain ⟨u',r',q⟩:=hl j y v' e1 e2 e3
    refine ⟨u',r',?_⟩
    rcases q with q | ⟨k,c',e,z'⟩
    ·exact .inl q
    ·refine .inr ⟨k,c',e,z'.sameBut hs ?_⟩
     rintro rfl
     exact hj (nodup_ix hN e1 (I.ok.inj _ _ _ e hc ▸ hi))
  ·by_cases hcc:c'=c
   ·subst hcc;exact ⟨_,hc'⟩
   ·obtain ⟨w2,z2⟩:=I.cell y c' e
    exact ⟨w2,z2.sameBut hs hcc⟩
  ·obtain ⟨e,n,ne,nf,d⟩:=I.pin p hp
   refine ⟨(hs.2 p.1 ?_).trans e,n,ne,nf,d⟩
   intro q
   rw [q,hoc] at e
   have q':oc=p.2:=Option.some.inj e
   exact d w' (by rw [←q'];exact hocd)
theorem store_ok {M:Model}{A:Around}{E:Value->Shared->Prop}{i:Nat}{x:Str}{v:V}{u:Value}{Q:Unit->Shared->Prop}(I:Inv X pins σ H s)(hN:X.N.Nodup)(hi:X.N[i]?=some x)(hx:Loc X.env.scope x)(r:RelV v u)
  (h:∀ s',Inv X pins (σ.set i (some v)) H s'->Q () s') (hf:X.fn x=true\/X.env.scope.names.lookup x=some .local:=by first | exact .inl rfl | exact .inr rfl | assumption):wpAny M A (storeName X.env x u) Q E s :=
 store_ok2 I hN hi hx r (fun s' I' _=>h s' I') hf
theorem Inv.call' {s':Shared}{ch:List Addr}(I:Inv X pins σ H s)(ho:s'.os=s.os)(u:Un (frs X.stack) ch H H' s.heap s'.heap)(hok:HOk X.prog X.w H' s'.heap)(hg:AllBare s'.gens)
  (hch:∀ b∈ch,(b∈X.ex\/X.s₀.heap.objs.size<=b)/\b≠X.env.locals/\(∀ x c,X.env.cells.lookup x=some c->c≠b)/\∀ p∈X.pn++pins,p.1≠b):Inv X pins σ H' s':=by
 obtain ⟨h',g',d',t',o'⟩:=s'
 have e:o'=s.os:=ho
 subst e
 exact I.call (g':=g') (t':=t') (d':=d') u hok hg hch
end
abbrev XK:=Value->Option Addr->Hp->Prop
abbrev St:=List (Option V)
abbrev VK:=V->Hp->Prop
abbrev TE:=St->Hp->VK->Prop
abbrev TT:=St->Hp->(Bool->Hp->Prop)->Prop
abbrev TA:=St->Hp->(List V->Hp->Prop)->Prop
structure Ends where
 nx:St->Hp->Prop
 rt:VK
 bk:St->Hp->Prop:=fun _ _=>False
 ct:St->Hp->Prop:=fun _ _=>False
abbrev TS:=Ends->St->Hp->Prop
def EP (X:Cx)(pins:List (Addr × Obj))(σ:St)(Q:VK)(u:Value)(s':Shared):Prop:=∃ v H',Inv X pins σ H' s'/\RelV v u/\Q v H'
def TP (X:Cx)(pins:List (Addr × Obj))(σ:St)(Q:Bool->Hp->Prop)(b:Bool)(s':Shared):Prop:=∃ H',Inv X pins σ H' s'/\Q b H'
def AP (X:Cx)(pins:List (Addr × Obj))(σ:St)(Q:List V->Hp->Prop)(us:List Value)(s':Shared):Prop:=∃ vs H',Inv X pins σ H' s'/\Vals vs us/\Q vs H'
def SP (X:Cx)(pins:List (Addr × Obj))(D:Ends)(f:Flow)(s':Shared):Prop :=
 match f with
 | .next=>∃ σ' H',Inv X pins σ' H' s'/\D.nx σ' H'
 | .brk=>∃ σ' H',Inv X pins σ' H' s'/\D.bk σ' H'
 | .cont=>∃ σ' H',Inv X pins σ' H' s'/\D.ct σ' H'
 | .ret u=>∃ v σ' H',Inv X pins σ' H' s'/\RelV v u/\D.rt v H'
def PE (X:Cx)(e:Expr)(t:TE):Prop :=
 ∀ (pins:List (Addr × Obj)) (s:Shared) (σ:St) (H:Hp) (Q:VK),Inv X pins σ H s->t σ H Q->wpAny (model X.prog X.w) X.A (eval e X.env) (EP X pins σ Q) X.xe s
def PT (X:Cx)(e:Expr)(t:TT):Prop :=
 ∀ (pins:List (Addr × Obj)) (s:Shared) (σ:St) (H:Hp) (Q:Bool->Hp->Prop),Inv X pins σ H s->t σ H Q->wpAny (model X.prog X.w) X.A (isTrue e X.env (eval e X.env)) (TP X pins σ Q) X.xe s
def PW (X:Cx)(e:Expr)(t:TT):Prop :=
 ∀ (whole:Sem Value) (pins:List (Addr × Obj)) (s:Shared) (σ:St) (H:Hp) (Q:Bool->Hp->Prop),Inv X pins σ H s->t σ H Q->wpAny (model X.prog X.w) X.A (isTrue e X.env whole) (TP X pins σ Q) X.xe s
theorem PW.pt {X:Cx}{e:Expr}{t:TT}(h:PW X e t):PT X e t:=h _
def PA (X:Cx)(es:List Expr)(t:TA):Prop :=
 ∀ (pos:Pos) (pins:List (Addr × Obj)) (s:Shared) (σ:St) (H:Hp) (Q:List V->Hp->Prop),Inv X pins σ H s->t σ H Q->wpAny (model X.prog X.w) X.A (spliced (backTo pos (starEach es X.env))) (AP X pins σ Q) X.xe s
def PS (X:Cx)(st:Stmt)(t:TS):Prop :=
 ∀ (pins:List (Addr × Obj)) (s:Shared) (σ:St) (H:Hp) (D:Ends),Inv X pins σ H s->t D σ H->wpAny (model X.prog X.w) X.A (exec st X.env) (SP X pins D) X.xe s
def PSs (X:Cx)(st:List Stmt)(t:TS):Prop :=
 ∀ (pins:List (Addr × Obj)) (s:Shared) (σ:St) (H:Hp) (D:Ends),Inv X pins σ H s->t D σ H->wpAny (model X.prog X.w) X.A (execs st X.env) (SP X pins D) X.xe s
theorem thn {α:Type}{t:Sem α}{Q Q':α->Shared->Prop}{M:Model}{A:Around}{E:Value->Shared->Prop}{s:Shared}(h:wpAny M A t Q E s)(hQ:∀ a s,Q a s->Q' a s):wpAny M A t Q' E s:=wpAny_mono h hQ fun _ _ x=>x
end L2
namespace L2
open PySem PySem.Spec PyProof.Rows
section
variable {X : Cx}
def tVar (i:Nat):TE:=fun σ H Q=>∃ v,σ[i]?=some (some v)/\Q v H
def tC (v:V):TE:=fun _ H Q=>Q v H
theorem pe_var {i:Nat}{x:Str}{pos:Pos}(hN:X.N[i]?=some x)(hv:Vis X.env.scope x)(hd:(x == ("__debug__":Str))=false:=by decide)(hcd:(x == ("__classdict__":Str))=false:=by decide):PE X (.Name x pos) (tVar i):=by
 intro pins s σ H Q I h
 obtain ⟨v,e,h⟩:=h
 obtain ⟨m,hn,hl⟩:=I.loc
 obtain ⟨u,r,l⟩:=hl i x v hN e hv
 have fin:EP X pins σ Q u s:=⟨v,H,I,r,h⟩
 rcases l with ⟨hk,hm⟩ | ⟨hk,c,hc,hcell⟩
 ·exact wpAny_Name (wpAny_loadName_local I.ok.kind hk hn hm fin) hd
 ·rcases hk with hk | hk
  ·exact wpAny_Name (wpAny_loadName_cell I.ok.kind hk hc hcell fin) hd
  ·exact wpAny_Name (wpAny_loadName_free I.ok.kind hk hc hcell fin hcd) hd
theorem pe_int {i j pos}:PE X (.Constant (.int i) j pos) (tC (.int i)):=fun _ _ _ H _ I h=>wpAny_Constant_int ⟨.int i,H,I.tok _,⟨_,rfl⟩,h⟩
theorem pe_bl {b j pos}:PE X (.Constant (.bool b) j pos) (tC (.bl b)):=fun _ _ _ H _ I h=>Constant_bool ⟨.bl b,H,I,rfl,h⟩
theorem pe_non {j pos}:PE X (.Constant .none j pos) (tC .non):=fun _ _ _ H _ I h=>Constant_none ⟨.non,H,I,rfl,h⟩
theorem pe_str {x j pos}:PE X (.Constant (.str x) j pos) (tC (.str x)):=fun _ _ _ H _ I h=>Calls.Constant_str ⟨.str x,H,I.tok _,⟨_,rfl⟩,h⟩
def Gl (X:Cx)(x:Str):Prop:=X.env.kindOf x=some .globalImplicit
theorem ld_glob {E:Value->Shared->Prop}{pins:List (Addr × Obj)}{s:Shared}{σ:St}{H:Hp}{x:Str}{u:Value}{pos:Pos}{Q:Value->Shared->Prop}(I:Inv X pins σ H s)(hg:Gl X x)(hm:X.mg x=some u)(h:Q u s)
  (hd:(x == ("__debug__":Str))=false:=by decide):wpAny (model X.prog X.w) X.A (eval (.Name x pos) X.env) Q E s :=
 Calls.Name_function_global I.ok.kind hg (Calls.loadGlobal_global (by rw [I.ok.glob];exact I.mod.glob.keeps I.bk) hm h) hd
theorem ld_blt {E:Value->Shared->Prop}{pins:List (Addr × Obj)}{s:Shared}{σ:St}{H:Hp}{x:Str}{u:Value}{pos:Pos}{Q:Value->Shared->Prop}(I:Inv X pins σ H s)(hg:Gl X x)(hm:X.mg x=none)(hv:bootBuiltins x=some u)(h:Q u s)
  (hn:x≠"__name__":=by decide) (hd:(x == ("__debug__":Str))=false:=by decide):wpAny (model X.prog X.w) X.A (eval (.Name x pos) X.env) Q E s:=by
 obtain ⟨mb,h1,h2⟩:=I.mod.blt
 exact Calls.Name_function_global I.ok.kind hg (Calls.loadGlobal_builtin (by rw [I.ok.glob];exact I.mod.glob.keeps I.bk) hm (by rw [I.ok.blt];exact h1.keeps I.bk) ((h2 x hn).trans hv) h) hd
theorem pe_glob {x:Str}{v:V}{u:Value}{pos:Pos}(hg:Gl X x)(hm:X.mg x=some u)(r:RelV v u)(hd:(x == ("__debug__":Str))=false:=by decide):PE X (.Name x pos) (tC v) :=
 fun _ _ _ H _ I h=>ld_glob I hg hm ⟨v,H,I,r,h⟩ hd
variable {a b : Expr} {ta tb : TE} {pos : Pos}
def tB (t:TE):TT:=fun σ H Q=>t σ H fun x H1=>∃ c,x=.bl c/\Q c H1
theorem pt_val {e:Expr}{t:TE}(h:PE X e t)(he:∀ whole,isTrue e X.env whole=(do let v ←whole;standAt e.pos;holding [v] (truthy v)):=by intro _;rfl):PT X e (tB t):=by
 intro pins s σ H Q I hw
 refine isTrue_plain (thn (h pins s σ H _ I hw) fun v s1 ⟨x,H1,I1,r1,q1⟩=>?_) (he _)
 obtain ⟨d,rfl,q⟩:=q1
 cases r1
 exact wpAny_truthy_bool ⟨H1,I1,q⟩
variable {tA tB' : TT} {rest : List Expr}
def tAnd (t u:TT):TT:=fun σ H Q=>t σ H fun c H1=>if c=true then u σ H1 Q else Q false H1
def tOr (t u:TT):TT:=fun σ H Q=>t σ H fun c H1=>if c=true then Q true H1 else u σ H1 Q
def tNot (t:TT):TT:=fun σ H Q=>t σ H fun c H1=>Q (!c) H1
theorem pw_and1 (ha:PT X a tA):PW X (.BoolOp .And [a] pos) tA:=by
 intro wh pins s σ H Q I h
 refine isTrue_and (thn (ha pins s σ H Q I h) fun c s1 e=>?_)
 cases c with
 | true=>exact isTrue_and_nil e
 | false=>exact e
theorem pw_or1 (ha:PT X a tA):PW X (.BoolOp .Or [a] pos) tA:=by
 intro wh pins s σ H Q I h
 refine isTrue_or (thn (ha pins s σ H Q I h) fun c s1 e=>?_)
 cases c with
 | false=>exact isTrue_or_nil e
 | true=>exact e
theorem pw_and (ha:PT X a tA)(hb:PW X (.BoolOp .And (b::rest) pos) tB'):PW X (.BoolOp .And (a::b::rest) pos) (tAnd tA tB'):=by
 intro wh pins s σ H Q I h
 refine isTrue_and (thn (ha pins s σ H _ I h) fun c s1 ⟨H1,I1,q1⟩=>?_)
 cases c with
 | true=>exact hb wh pins s1 σ H1 Q I1 q1
 | false=>exact ⟨H1,I1,q1⟩
theorem pw_or (ha:PT X a tA)(hb:PW X (.BoolOp .Or (b::rest) pos) tB'):PW X (.BoolOp .Or (a::b::rest) pos) (tOr tA tB'):=by
 intro wh pins s σ H Q I h
 refine isTrue_or (thn (ha pins s σ H _ I h) fun c s1 ⟨H1,I1,q1⟩=>?_)
 cases c with
 | true=>exact ⟨H1,I1,q1⟩
 | false=>exact hb wh pins s1 σ H1 Q I1 q1
theorem pt_not (ha:PT X a tA):PT X (.UnaryOp .Not a pos) (tNot tA):=by
 intro pins s σ H Q I h
 exact isTrue_not (ha pins s σ H (fun c H1=>Q (!c) H1) I h)
def tAndV (ta tb:TE):TE:=fun σ H Q=>ta σ H fun x H1=>∃ c,x=.bl c/\if c=true then tb σ H1 Q else Q (.bl false) H1
theorem pe_one {op}{t:TE}(h:PE X a t):PE X (.BoolOp op [a] pos) t:=fun pins s σ H Q I hw=>BoolOp_one (h pins s σ H Q I hw)
theorem pe_and (ha:PE X a ta)(hb:PE X (.BoolOp .And (b::rest) pos) tb):PE X (.BoolOp .And (a::b::rest) pos) (tAndV ta tb):=by
 intro pins s σ H Q I h
 refine BoolOp_and (thn (ha pins s σ H _ I h) fun v s1 ⟨x,H1,I1,r1,q1⟩=>?_)
 obtain ⟨c,rfl,q1⟩:=q1
 cases r1
 refine wpAny_truthy_bool ?_
 cases c with
 | true=>exact hb pins s1 σ H1 Q I1 q1
 | false=>exact ⟨.bl false,H1,I1,rfl,q1⟩
def tIf (t:TT)(ta tb:TE):TE:=fun σ H Q=>t σ H fun c H1=>if c=true then ta σ H1 Q else tb σ H1 Q
theorem pe_ifExp {c:Expr}(hc:PT X c tA)(ha:PE X a ta)(hb:PE X b tb):PE X (.IfExp c a b pos) (tIf tA ta tb):=by
 intro pins s σ H Q I h
 refine wpAny_IfExp (thn (hc pins s σ H _ I h) fun d s1 ⟨H1,I1,q1⟩=>?_)
 cases d with
 | true=>exact ha pins s1 σ H1 Q I1 q1
 | false=>exact hb pins s1 σ H1 Q I1 q1
end
end L2
namespace L2
open PySem PySem.Spec PyProof.Rows
def SqL (K:PySem.W.Frag)(H:Hp)(a:Addr)(xs:List V):Prop :=
 Rd H a (.lst xs) \/
  ∃ (o:Obj) (its:Array Value) (n:Nat),K.lookup a=some o/\o.cls=.type "list"/\o.dict=none/\o.data=.seq its n/\its.size<=sizeLine/\Vals xs its.toList
def SqT (K:PySem.W.Frag)(H:Hp)(a:Addr)(xs:List V):Prop :=
 Rd H a (.tup xs) \/
  ∃ (o:Obj) (its:Array Value) (n:Nat),K.lookup a=some o/\o.cls=.type "tuple"/\o.data=.seq its n/\its.size<=sizeLine/\Vals xs its.toList/\o.dict=none
def absV:Value->Option V
 | .none=>some .non
 | .bool b=>some (.bl b)
 | .int i _=>some (.int i)
 | .str x _=>some (.str x)
 | .bytes b _=>some (.byt b)
 | .float b _=>some (.flt b)
 | .ref a=>some (.ref a)
 | .type n=>some (.ty n)
 | _=>none
theorem RelV.abs {x:V}{u:Value}(r:RelV x u):absV u=some x:=by
 cases x with
 | non=>cases r;rfl
 | bl _=>cases r;rfl
 | int _=>obtain ⟨t,rfl⟩:=r;rfl
 | str _=>obtain ⟨t,rfl⟩:=r;rfl
 | byt _=>obtain ⟨t,rfl⟩:=r;rfl
 | flt _=>obtain ⟨t,rfl⟩:=r;rfl
 | ref _=>cases r;rfl
 | ty _=>cases r;rfl
theorem RelV.inj {x y:V}{u:Value}(r:RelV x u)(q:RelV y u):x=y:=Option.some.inj (r.abs.symm.trans q.abs)
theorem Vals.inj:∀ {xs ys:List V} {us:List Value},Vals xs us->Vals ys us->xs=ys
 | _,_,_,.nil,.nil=>rfl
 | _,_,_,.cons r t,.cons r' t'=>by rw [r.inj r',Vals.inj t t']
section
variable {X : Cx} {pins : List (Addr × Obj)} {σ : St} {H : Hp} {s : Shared} {a : Addr} {xs ys : List V}
theorem SqL.of {K:PySem.W.Frag}(h:H a=some (.lst xs)):SqL K H a xs:=.inl (.inl h)
theorem SqT.of {K:PySem.W.Frag}(h:H a=some (.tup xs)):SqT K H a xs:=.inl (.inl h)
theorem Inv.list (I:Inv X pins σ H s)(h:SqL X.K H a xs):∃ its:List Value,Vals xs its/\PlainL s.heap a its.toArray/\xs.length<=sizeLine:=by
 rcases h with h | ⟨o,its,n,hk,hc,hd,hs,hz,r⟩
 ·obtain ⟨z,its,n,r,e⟩:=h.ok I.hok
  exact ⟨its,r,⟨_,n,e,rfl,rfl,rfl⟩,z⟩
 ·refine ⟨its.toList,r,⟨o,n,I.kIn a o hk,hc,hd,by simpa using hs⟩,?_⟩
  have e:=r.length
  simp only [Array.length_toList] at e
  omega
theorem Inv.tuple (I:Inv X pins σ H s)(h:SqT X.K H a xs):∃ its:List Value,Vals xs its/\IsTup s.heap a its.toArray/\xs.length<=sizeLine:=by
 rcases h with h | ⟨o,its,n,hk,hc,hs,hz,r,_⟩
 ·obtain ⟨z,its,r,p,_⟩:=h.ok I.hok
  exact ⟨its,r,p,z⟩
 ·refine ⟨its.toList,r,⟨o,I.kIn a o hk,hc,n,by simpa using hs⟩,?_⟩
  have e:=r.length
  simp only [Array.length_toList] at e
  omega
theorem Inv.list_inj (I:Inv X pins σ H s)(h:SqL X.K H a xs)(h':SqL X.K H a ys):xs=ys:=by
 obtain ⟨its,r,⟨o,n,e,_,_,d⟩,_⟩:=I.list h
 obtain ⟨its',r',⟨o',n',e',_,_,d'⟩,_⟩:=I.list h'
 rw [e] at e';cases e'
 rw [d] at d'
 injection d' with d1 _
 have:its=its':=by simpa using congrArg Array.toList d1
 subst this
 exact r.inj r'
theorem Inv.tuple_inj (I:Inv X pins σ H s)(h:SqT X.K H a xs)(h':SqT X.K H a ys):xs=ys:=by
 obtain ⟨its,r,⟨o,e,_,n,d⟩,_⟩:=I.tuple h
 obtain ⟨its',r',⟨o',e',_,n',d'⟩,_⟩:=I.tuple h'
 rw [e] at e';cases e'
 rw [d] at d'
 injection d' with d1 _
 have:its=its':=by simpa using congrArg Array.toList d1
 subst this
 exact r.inj r'
end
abbrev Cx.wish (X:Cx)(E:Value->Shared->Prop):Cx:={ X with xe:=E }
abbrev Cx.nox (X:Cx):Cx:=X.wish fun _ _=>False
theorem Cx.Ok.wish {X:Cx}(ok:X.Ok)(E:Value->Shared->Prop):(X.wish E).Ok :=
 ⟨ok.mod,ok.kind,ok.glob,ok.blt,ok.above,ok.inj,ok.has,ok.cab,ok.hd,ok.frames,ok.stk,ok.exf,ok.bs,ok.bsz,ok.noex,ok.exfs,ok.funs,ok.frf⟩
theorem Cx.Ok.unwish {X:Cx}{E:Value->Shared->Prop}(ok:(X.wish E).Ok):X.Ok :=
 ⟨ok.mod,ok.kind,ok.glob,ok.blt,ok.above,ok.inj,ok.has,ok.cab,ok.hd,ok.frames,ok.stk,ok.exf,ok.bs,ok.bsz,ok.noex,ok.exfs,ok.funs,ok.frf⟩
section
variable {X : Cx} {pins : List (Addr × Obj)} {σ : St} {H : Hp} {s : Shared} {E : Value → Shared → Prop}
theorem Inv.wish (I:Inv X pins σ H s)(E:Value->Shared->Prop):Inv (X.wish E) pins σ H s:=⟨I.ok.wish E,I.os,I.bare,I.base,I.loc,I.cell,I.free,I.freeC,I.pin,I.hok,I.len⟩
theorem Inv.unwish (I:Inv (X.wish E) pins σ H s):Inv X pins σ H s:=⟨I.ok.unwish,I.os,I.bare,I.base,I.loc,I.cell,I.free,I.freeC,I.pin,I.hok,I.len⟩
theorem SP.unwish {D:Ends}{f:Flow}{s':Shared}(h:SP (X.wish E) pins D f s'):SP X pins D f s':=by
 cases f with
 | next=>obtain ⟨σ',H',I,q⟩:=h;exact ⟨σ',H',I.unwish,q⟩
 | brk=>obtain ⟨σ',H',I,q⟩:=h;exact ⟨σ',H',I.unwish,q⟩
 | cont=>obtain ⟨σ',H',I,q⟩:=h;exact ⟨σ',H',I.unwish,q⟩
 | ret u=>obtain ⟨v,σ',H',I,r,q⟩:=h;exact ⟨v,σ',H',I.unwish,r,q⟩
theorem PSs.nox {st:List Stmt}{t:TS}(h:PSs X.nox st t):PSs X st t:=fun pins s σ H D I hw =>
 wpAny_mono (h pins s σ H D (I.wish _) hw) (fun _ _ q=>q.unwish) fun _ _ z=>False.elim z
end
section
variable {X : Cx} {st : Stmt} {rest : List Stmt} {t u : TS} {e : Expr} {te : TE} {pos : Pos}
def tNext:TS:=fun D σ H=>D.nx σ H
def tSeq (t u:TS):TS:=fun D σ H=>t { D with nx:=u D } σ H
theorem pss_nil:PSs X [] tNext:=fun _ _ σ H _ I h=>wpAny_execs_nil ⟨σ,H,I,h⟩
theorem pss_cons (h1:PS X st t)(h2:PSs X rest u):PSs X (st::rest) (tSeq t u):=by
 intro pins s σ H D I h
 refine wpAny_execs_cons (thn (h1 pins s σ H { D with nx:=u D } I h) fun f s1 q=>?_)
 cases f with
 | next =>
  obtain ⟨σ',H',I',q⟩:=q
  exact h2 pins s1 σ' H' D I' q
 | ret v=>exact q
 | brk=>exact q
 | cont=>exact q
theorem pss_one (h1:PS X st t):PSs X [st] t:=by
 intro pins s σ H D I h
 refine wpAny_execs_cons (thn (h1 pins s σ H D I h) fun f s1 q=>?_)
 cases f with
 | next=>exact wpAny_execs_nil q
 | ret v=>exact q
 | brk=>exact q
 | cont=>exact q
theorem Inv.quiet {pins:List (Addr × Obj)}{σ:St}{H:Hp}{s:Shared}(I:Inv X pins σ H s):interactive X.env=false:=by simp [interactive,I.ok.kind]
def tDrop (te:TE):TS:=fun D σ H=>te σ H fun _ H1=>D.nx σ H1
theorem ps_expr (he:PE X e te)(hs:swapsWith e none pos.line X.env=pure false:=by rfl):PS X (.Expr e pos) (tDrop te):=by
 intro pins s σ H D I h
 exact wpAny_Expr_any (thn (he pins s σ H _ I h) fun v s1 ⟨x,H1,I1,r1,q1⟩=>⟨σ,H1,I1,q1⟩) I.quiet hs
def tRet (te:TE):TS:=fun D σ H=>te σ H D.rt
theorem ps_ret (he:PE X e te):PS X (.Return (some e) pos) (tRet te):=by
 intro pins s σ H D I h
 exact wpAny_Return_some (thn (he pins s σ H _ I h) fun v s1 ⟨x,H1,I1,r1,q1⟩=>⟨x,σ,H1,I1,r1,q1⟩)
def tIfS (c:TT)(t u:TS):TS:=fun D σ H=>c σ H fun b H1=>if b=true then t D σ H1 else u D σ H1
theorem ps_if {c:Expr}{a b:List Stmt}{tc:TT}(hc:PT X c tc)(ha:PSs X a t)(hb:PSs X b u):PS X (.If c a b pos) (tIfS tc t u):=by
 intro pins s σ H D I h
 refine wpAny_If (thn (hc pins s σ H _ I h) fun d s1 ⟨H1,I1,q1⟩=>?_)
 cases d with
 | true=>exact ha pins s1 σ H1 D I1 q1
 | false=>exact hb pins s1 σ H1 D I1 q1
def tNever:TS:=fun _ _ _=>False
theorem ps_never:PS X st tNever:=fun _ _ _ _ _ _ h=>h.elim
end
abbrev TG:=V->St->Hp->(St->Hp->Prop)->Prop
abbrev TGs:=List V->St->Hp->(St->Hp->Prop)->Prop
def PG (X:Cx)(target:Expr)(t:TG):Prop :=
 ∀ (pins:List (Addr × Obj)) (s:Shared) (σ:St) (H:Hp) (v:V) (u:Value) (Q:St->Hp->Prop),Inv X pins σ H s->RelV v u->t v σ H Q ->
  wpAny (model X.prog X.w) X.A (assign target X.env u) (fun _ s'=>∃ σ' H',Inv X pins σ' H' s'/\Q σ' H') X.xe s
def PGs (X:Cx)(ts:List Expr)(t:TGs):Prop :=
 ∀ (pins:List (Addr × Obj)) (s:Shared) (σ:St) (H:Hp) (vs:List V) (us:List Value) (Q:St->Hp->Prop),Inv X pins σ H s->Vals vs us->t vs σ H Q ->
  wpAny (model X.prog X.w) X.A (assignInOrder ((assignEach ts X.env).map (·.2)) us) (fun _ s'=>∃ σ' H',Inv X pins σ' H' s'/\Q σ' H') X.xe s
abbrev TSet:=V->V->V->Hp->(Hp->Prop)->Prop
def PSet (X:Cx)(t:TSet):Prop :=
 ∀ (pins:List (Addr × Obj)) (s:Shared) (σ:St) (H:Hp) (o i v:V) (ov iv u:Value) (Q:Hp->Prop),Inv X pins σ H s->RelV o ov->RelV i iv->RelV v u->t o i v H Q ->
  wpAny (model X.prog X.w) X.A (setItem ov iv u) (fun _ s'=>∃ H',Inv X pins σ H' s'/\Q H') X.xe s
section
variable {X : Cx} {pos : Pos}
def gName (i:Nat):TG:=fun v σ H Q=>Q (σ.set i (some v)) H
theorem pg_name {i:Nat}{x:Str}(hN:X.N.Nodup)(hi:X.N[i]?=some x)(hx:Loc X.env.scope x)(hf:X.fn x=true\/X.env.scope.names.lookup x=some .local:=by first | exact .inl rfl | exact .inr rfl | assumption):PG X (.Name x pos) (gName i):=by
 intro pins s σ H v u Q I r h
 exact wpAny_assign_Name (store_ok I hN hi hx r (fun s' I'=>⟨_,H,I',h⟩) hf)
def gNil:TGs:=fun vs σ H Q=>vs=[]/\Q σ H
def gCons (t:TG)(u:TGs):TGs:=fun vs σ H Q=>∃ v r,vs=v::r/\t v σ H fun σ' H'=>u r σ' H' Q
theorem pgs_nil:PGs X [] gNil:=by
 intro pins s σ H vs us Q I r h
 obtain ⟨e,h⟩:=h
 subst e
 cases r
 exact assignInOrder_nil ⟨σ,H,I,h⟩
theorem pgs_cons {e:Expr}{es:List Expr}{t:TG}{u:TGs}(h1:PG X e t)(h2:PGs X es u)
  (hs:(assignEach (e::es) X.env).map (·.2)=assign e X.env::(assignEach es X.env).map (·.2):=by rfl):PGs X (e::es) (gCons t u):=by
 intro pins s σ H vs us Q I r h
 obtain ⟨v,vr,e1,h⟩:=h
 subst e1
 cases r with
 | cons r rr =>
  rw [hs]
  refine assignInOrder_cons (thn (h1 pins s σ H _ _ _ I r h) fun _ s1 ⟨σ1,H1,I1,q1⟩=>?_)
  exact h2 pins s1 σ1 H1 _ _ Q I1 rr q1
def gTup (K:PySem.W.Frag)(n:Nat)(t:TGs):TG:=fun v σ H Q=>∃ a xs,v=.ref a/\SqT K H a xs/\xs.length=n/\t xs σ H Q
theorem pg_tup {es:List Expr}{k:Nat}{t:TGs}{n:Nat}(hc:X.calm=true)(h:PGs X es t)
  (hn:(assignEach es X.env).length=n:=by rfl) (hst:(assignEach es X.env).findIdx? (·.1)=none:=by rfl):PG X (.Tuple es k pos) (gTup X.K n t):=by
 intro pins s σ H v u Q I r hw
 obtain ⟨a,xs,e1,hq,hl,hw⟩:=hw
 subst e1
 cases r
 obtain ⟨its,rv,ht,hz⟩:=I.tuple hq
 refine assign_Tuple_tuple (I.ok.hd hc) ht (by simp [hn,←hl,rv.length]) hst fun h' hx=>?_
 have I1:Inv X pins σ H { s with heap:=h' }:=I.kept (t':=s.toks) fun b o e=>hx b o (Nat.ne_of_lt (Heap.lt_size e)) e
 exact h pins _ σ H xs _ Q I1 (by simpa using rv) hw
def gSub (to ti:TE)(t:TSet):TG:=fun v σ H Q=>to σ H fun o H1=>ti σ H1 fun i H2=>t o i v H2 fun H3=>Q σ H3
theorem pg_sub {o i:Expr}{to ti:TE}{t:TSet}(ho:PE X o to)(hi:PE X i ti)(hs:PSet X t)
  (ha:∀ v,assign (.Subscript o i pos) X.env v=(do
   let ov ←holding [v] (eval o X.env)
   let iv ←holding [v,ov] (eval i X.env)
   standAt pos
   holding [v,ov,iv] (setItem ov iv v)
   release [v,ov,iv] []):=by intro _;rfl):PG X (.Subscript o i pos) (gSub to ti t):=by
 intro pins s σ H v u Q I r h
 rw [ha]
 refine wpAny_bind (wpAny_holding (thn (ho pins s σ H _ I h) fun ov s1 ⟨x,H1,I1,r1,q1⟩=>?_))
 refine wpAny_bind (wpAny_holding (thn (hi pins s1 σ H1 _ I1 q1) fun iv s2 ⟨y,H2,I2,r2,q2⟩=>?_))
 refine wpAny_bind (wpAny_standAt (wpAny_bind (wpAny_holding (thn (hs pins s2 σ H2 x y v ov iv u _ I2 r1 r2 r q2) fun _ s3 ⟨H3,I3,q3⟩=>?_))))
 exact wpAny_release ⟨σ,H3,I3,q3⟩
def tAsg (te:TE)(g:TG):TS:=fun D σ H=>te σ H fun x H1=>g x σ H1 D.nx
theorem ps_asg {tg e:Expr}{te:TE}{g:TG}(he:PE X e te)(hg:PG X tg g)(hs:swapsWithSole [tg] e pos.line X.env=pure false:=by rfl)(hw:swappedStores [tg] e X.env=pure none:=by rfl)
  (h1:(assignEach [tg] X.env).map (·.2)=[assign tg X.env]:=by rfl):PS X (.Assign [tg] e pos) (tAsg te g):=by
 intro pins s σ H D I h
 refine wpAny_Assign_stores (thn (he pins s σ H _ I h) fun v s1 ⟨x,H1,I1,r1,q1⟩=>?_) hs hw
 rw [h1]
 exact thn (hg pins s1 σ H1 x v _ I1 r1 q1) fun _ s2 q=>q
theorem ps_set {i:Nat}{x:Str}{e:Expr}{te:TE}{pos':Pos}(hN:X.N.Nodup)(hi:X.N[i]?=some x)(hx:Loc X.env.scope x)(he:PE X e te)(hs:swapsWith e (some (.Name x pos')) pos.line X.env=pure false:=by rfl)(hf:X.fn x=true\/X.env.scope.names.lookup x=some .local:=by first | exact .inl rfl | exact .inr rfl | assumption) :
  PS X (.Assign [.Name x pos'] e pos) (tAsg te (gName i)):=by
 intro pins s σ H D I h
 refine wpAny_Assign_Name (thn (he pins s σ H _ I h) fun v s1 ⟨y,H1,I1,r1,q1⟩=>?_) hs
 exact store_ok I1 hN hi hx r1 (fun s2 I2=>⟨_,H1,I2,q1⟩) hf
def tPar (i j:Nat)(ta:TA):TS:=fun D σ H=>ta σ H fun vs H1=>∃ v w,vs=[v,w]/\D.nx ((σ.set i (some v)).set j (some w)) H1
theorem ps_par {i j:Nat}{x y:Str}{a b:Expr}{ta:TA}{px py pt:Pos}{kt k2 pt2}(hc:X.calm=true)(hN:X.N.Nodup)(hi:X.N[i]?=some x)(hj:X.N[j]?=some y)(hij:i≠j)
  (hx:X.env.scope.names.lookup x=some .local) (hy:X.env.scope.names.lookup y=some .local) (ha:PA X [a,b] ta)
  (hw:swappedStores [.Tuple [.Name x px,.Name y py] kt pt] (.Tuple [a,b] k2 pt2) X.env=pure (some [x,y]))
  (hs:swapsWithSole [.Tuple [.Name x px,.Name y py] kt pt] (.Tuple [a,b] k2 pt2) pos.line X.env=pure false:=by rfl) :
  PS X (.Assign [.Tuple [.Name x px,.Name y py] kt pt] (.Tuple [a,b] k2 pt2) pos) (tPar i j ta):=by
 intro pins s σ H D I h
 rw [exec_Assign_arm]
 refine wpAny_bind (wpAny_standAt ?_)
 rw [hs]
 refine wpAny_bind (wpAny_pure ?_)
 rw [if_neg (by decide)]
 refine wpAny_bind (Tuple_ (thn (ha _ pins s σ H _ I h) fun us s1 ⟨vs,H1,I1,r1,q1⟩=>?_))
 obtain ⟨v,w,e1,q1⟩:=q1
 subst e1
 obtain ⟨u1,u2,rfl,rv,rw'⟩:∃ u1 u2,us=[u1,u2]/\RelV v u1/\RelV w u2:=by
  cases r1 with
  | cons p q =>
   cases q with
   | cons p' q' =>
    cases q'
    exact ⟨_,_,rfl,p,p'⟩
 refine wpAny_newObj_type ?_ (by show 2<=sizeLine;decide)
 have I2:Inv X pins σ H1 { s1 with heap:=s1.heap.push { cls:=.type "tuple",data:=.seq [u1,u2].toArray } }:=I1.kept (t':=s1.toks) fun b o e=>Heap.get?_push_of_some _ e
 rw [hw]
 refine wpAny_bind (wpAny_pure ?_)
 show wpAny (model X.prog X.w) X.A (do rule "assign.swapped-stores";let items ←unpackItems (.ref s1.heap.objs.size) 2 none;assignInOrder [fun v=>bindName X.env y v,fun v=>bindName X.env x v] items.reverse;pure Flow.next) _ _ _
 refine wpAny_bind (wpAny_rule (wpAny_bind (unpackItems_tuple (items:=#[u1,u2]) (I.ok.hd hc) (IsTup.new s1.heap _) fun h' hx'=>?_)))
 have I3:=I2.kept (h':=h') (t':=s1.toks) fun b o e=>hx' b o (Nat.ne_of_lt (Heap.lt_size e)) e
 show wpAny _ _ (assignInOrder [fun v=>bindName X.env y v,fun v=>bindName X.env x v] [u2,u1] >>= fun _=>pure Flow.next) _ _ _
 refine wpAny_bind (assignInOrder_cons (wpAny_bindName (store_ok I3 hN hj (.inl hy) rw' (fun s2 I4=>?_) (.inr hy))))
 refine assignInOrder_cons (wpAny_bindName (store_ok I4 hN hi (.inl hx) rv (fun s3 I5=>assignInOrder_nil (wpAny_pure ?_)) (.inr hx)))
 rw [List.set_comm _ _ (Ne.symm hij)] at I5
 exact ⟨_,H1,I5,q1⟩
end
section
variable {X : Cx} {pos : Pos}
def tWhile (c:TT)(tb:TS):TS:=fun D σ H=>∃ W:Nat->St->Hp->Prop,(∃ m,W m σ H)/\∀ m σ H,W m σ H ->
 c σ H fun b H1=>if b=true then ∃ N:St->Hp->Prop,(∀ σ' H',N σ' H'->∃ m',m' < m/\W m' σ' H')/\tb { D with nx:=N,ct:=N,bk:=D.nx } σ H1 else D.nx σ H1
theorem ps_while {c:Expr}{body:List Stmt}{tc:TT}{tb:TS}(hp:PassesOwn (model X.prog X.w) X.A X.env X.xe)(hc:PT X c tc)(hb:PSs X body tb):PS X (.While c body [] pos) (tWhile tc tb):=by
 intro pins s σ H D I h
 obtain ⟨W,⟨m0,w0⟩,turn⟩:=h
 refine wpAny_While (codeAny_whileLoop (fun n s'=>∃ σ' H',Inv X pins σ' H' s'/\W n σ' H') ?_ m0 ⟨σ,H,I,w0⟩)
 rintro n s1 ⟨σ1,H1,I1,w1⟩
 refine wpAny_passesOwn hp (thn (hc pins s1 σ1 H1 _ I1 (turn n σ1 H1 w1)) fun b s2 ⟨H2,I2,q2⟩=>?_)
 cases b with
 | true =>
  obtain ⟨N,hN,q2⟩:=q2
  rw [if_pos rfl]
  refine wpAny_passesOwn hp (thn (hb pins s2 σ1 H2 _ I2 q2) fun f s3 q3=>?_)
  cases f with
  | next =>
   obtain ⟨σ3,H3,I3,n3⟩:=q3
   obtain ⟨m',hm,w3⟩:=hN σ3 H3 n3
   exact ⟨m',hm,σ3,H3,I3,w3⟩
  | cont =>
   obtain ⟨σ3,H3,I3,n3⟩:=q3
   obtain ⟨m',hm,w3⟩:=hN σ3 H3 n3
   exact ⟨m',hm,σ3,H3,I3,w3⟩
  | brk=>exact q3
  | ret v=>exact q3
 | false =>
  rw [if_neg Bool.false_ne_true]
  exact wpAny_execs_nil ⟨σ1,H2,I2,q2⟩
end
structure It where
 go:Nat->Hp->Prop
 yld:Nat->Hp->V->Hp->Prop
 stop:Nat->Hp->Prop
def FpOk (X:Cx)(pins:List (Addr × Obj))(H:Hp)(b:Addr):Prop :=
 H b=none/\b≠X.env.locals/\b ∉ X.fs/\(b∈X.ex\/X.s₀.heap.objs.size<=b)/\(∀ x c,X.env.cells.lookup x=some c->c≠b)/\∀ p∈X.pn++pins,p.1≠b
theorem Inv.fpOk {X:Cx}{pins:List (Addr × Obj)}{σ:St}{H H':Hp}{s:Shared}{b:Addr}(I:Inv X pins σ H s)(hb:s.heap.objs.size<=b)(hn:H' b=none):FpOk X pins H' b:=by
 refine ⟨hn,Nat.ne_of_gt (Nat.lt_of_lt_of_le I.lt hb),I.nofs hb,.inr (Nat.le_trans I.sz hb),fun x c e z=>?_,fun p hp z=>?_⟩
 ·obtain ⟨v,q⟩:=I.cell x c e
  exact absurd (Nat.lt_of_lt_of_le q.lt (by rw [z];exact hb)) (Nat.lt_irrefl _)
 ·exact absurd (Nat.lt_of_lt_of_le (Heap.lt_size (I.pin p hp).1) (by rw [z];exact hb)) (Nat.lt_irrefl _)
structure Turn (P:Program) (w:World) (K:PySem.W.Frag) (tg:Expr) (J:It) (fp:List Addr) (it:Addr) (tn:Nat->Heap->Prop):Prop where
 mem:it∈fp
 obj:∀ i h,tn i h->∀ b∈fp,∃ o,h.get? b=some o/\∀ v,o.data≠.cell v
 keep:∀ i h h',tn i h->(∀ b∈fp,∀ o,h.get? b=some o->h'.get? b=some o)->tn i h'
 item:∀ (X:Cx),X.prog=P->X.w=w->X.K=K->X.calm=true->∀ (i:Nat) (pins:List (Addr × Obj)) (s:Shared) (σ:St) (H:Hp) (E:Value->Shared->Prop),Inv X pins σ H s->(∀ b∈fp,FpOk X pins H b)->tn i s.heap->J.go i H ->
  wpAny (model P w) X.A (pyNext (.ref it)) (fun r s1=>∃ u,r=some u /\
   wpAny (model P w) X.A (letOwnedTupleGo tg (.ref it) u) (fun _ s2=>∃ x H',Inv X pins σ H' s2/\RelV x u/\J.yld i H x H'/\tn (i + 1) s2.heap/\∀ b∈fp,H' b=none) E s1) E s
 done:∀ (X:Cx),X.prog=P->X.w=w->X.K=K->X.calm=true->∀ (i:Nat) (pins:List (Addr × Obj)) (s:Shared) (σ:St) (H:Hp) (E:Value->Shared->Prop),Inv X pins σ H s->(∀ b∈fp,FpOk X pins H b)->tn i s.heap->J.stop i H ->
  wpAny (model P w) X.A (pyNext (.ref it)) (fun r s1=>r=none/\Inv X pins σ H s1) E s
 self:∀ (A:Around) (i:Nat) (s:Shared) (Q:Value->Shared->Prop) (E:Value->Shared->Prop),tn i s.heap->Q (.ref it) s->wpAny (model P w) A (pyIter (.ref it)) Q E s
abbrev TI:=St->Hp->(It->Hp->Prop)->Prop
def PIE (X:Cx)(pins:List (Addr × Obj))(σ:St)(tg:Expr)(R:It->Hp->Prop)(itv:Value)(s2:Shared):Prop :=
 ∃ (it:Addr) (fp:List Addr) (tn:Nat->Heap->Prop) (J:It) (H':Hp),itv=.ref it/\Inv X pins σ H' s2/\Turn X.prog X.w X.K tg J fp it tn/\tn 0 s2.heap/\(∀ b∈fp,FpOk X pins H' b)/\R J H'
def PI (X:Cx)(tg iter:Expr)(wi:TI):Prop :=
 ∀ (pins:List (Addr × Obj)) (s:Shared) (σ:St) (H:Hp) (R:It->Hp->Prop),Inv X pins σ H s->wi σ H R ->
  wpAny (model X.prog X.w) X.A (eval iter X.env) (fun v s1=>wpAny (model X.prog X.w) X.A (pyIter v) (PIE X pins σ tg R) X.xe s1) X.xe s
theorem go_of {M : Model} {A : Around} {E : Value → Shared → Prop} {s : Shared} {tg : Expr} {it : Addr} {u : Value} {o : Obj} {n : String} {vs : Array Value} {Q : Unit → Shared → Prop} (ho : s.heap.get? it = some o) (hc : o.cls = .type n) (hd : o.data = .fields vs)
    (hn : ["enumerate", "zip", "dict_itemiterator", "dict_reverseitemiterator", "odict_iterator", "itertools.zip_longest", "itertools.pairwise"].contains n = false) (hQ : Q () s) : wpAny M A (letOwnedTupleGo tg (.ref it) u) Q E s := by
  unfold letOwnedTupleGo
  cases tg <;> first
    | exact wpAny_pure hQ
    | (cases u <;> first
        | exact wpAny_pure hQ
        | (refine wpAny_bind (wpAny_load ho ?_)
           rw [hc, hd]
           show wpAny M A (if (["enumerate", "zip", "dict_itemiterator", "dict_reverseitemiterator", "odict_iterator", "itertools.zip_longest", "itertools.pairwise"].contains n && vs[0]? == some (rawInt _)) = true then _ else _) Q E s
           rw [if_neg (by intro h; rw [hn, Bool.false_and] at h; cases h)]
           exact wpAny_pure hQ))
def Itl (K:PySem.W.Frag)(a:Addr):It :=
 ⟨fun i H=>∃ xs x,SqL K H a xs/\xs[i]?=some x,fun i H x H'=>H'=H/\∀ xs,SqL K H a xs->xs[i]?=some x,fun i H=>∃ xs,SqL K H a xs/\xs.length<=i⟩
def Itt (K:PySem.W.Frag)(a:Addr):It :=
 ⟨fun i H=>∃ xs x,SqT K H a xs/\xs[i]?=some x,fun i H x H'=>H'=H/\∀ xs,SqT K H a xs->xs[i]?=some x,fun i H=>∃ xs,SqT K H a xs/\xs.length<=i⟩
def Itr (lo:Int)(n:Nat):It:=⟨fun i _=>i < n,fun i H x H'=>H'=H/\x=.int (lo + i),fun i _=>n<=i⟩
theorem turn_list {P:Program}{w:World}{K:PySem.W.Frag}{tg:Expr}(a it:Addr):Turn P w K tg (Itl K a) [it] it (fun i h=>h.IsListIter it a i) where
 mem:=by simp
 obj:=fun i h st b hb=>by
  have e:b=it:=by simpa using hb
  subst e
  obtain ⟨o,e,c,d⟩:=st
  exact ⟨o,e,fun v z=>by rw [d] at z;cases z⟩
 keep:=fun i h h' st k=>st.at fun o e=>k it (by simp) o e
 item:=by
  intro X hP hw hK hc i pins s σ H E I hf st hg
  subst hP hw hK
  obtain ⟨xs,x,hq,hx⟩:=hg
  obtain ⟨its,rv,p,hz⟩:=I.list hq
  obtain ⟨u,hu,ru⟩:=rv.get hx
  obtain ⟨f0,f1,f2,f3,f4,f5⟩:=hf it (by simp)
  refine wpAny_pyNext_list_item st p.isList (x:=u) (by simpa using hu) fun h' st' sb=>?_
  have I1:Inv X pins σ H { s with heap:=h' }:=I.turned (t':=s.toks) (fun b o hb e=>(sb.2 b hb).trans e) f0 f1 f3 f4 f5
  obtain ⟨o,e,c,d⟩:=id st'
  exact ⟨u,rfl,go_of (s:={ s with heap:=h' }) e c d (by decide) ⟨x,H,I1,ru,⟨rfl,fun ys hy=>by rw [I.list_inj hy hq];exact hx⟩,st',fun b hb=>(hf b hb).1⟩⟩
 done:=by
  intro X hP hw hK hc i pins s σ H E I hf st hg
  subst hP hw hK
  obtain ⟨xs,hq,hx⟩:=hg
  obtain ⟨its,rv,p,hz⟩:=I.list hq
  obtain ⟨f0,f1,f2,f3,f4,f5⟩:=hf it (by simp)
  have hl:=rv.length
  exact wpAny_pyNext_list_end (I.ok.hd hc) st p.isList (by simp;omega) fun h' eb=>⟨rfl,I.turned (t':=s.toks) (fun b o hb e=>eb b o hb e) f0 f1 f3 f4 f5⟩
 self:=fun _ _ _ _ _ st h=>wpAny_pyIter_listiter st h
theorem turn_tuple {P:Program}{w:World}{K:PySem.W.Frag}{tg:Expr}(a it:Addr):Turn P w K tg (Itt K a) [it] it (fun i h=>h.IsTupleIter it a i) where
 mem:=by simp
 obj:=fun i h st b hb=>by
  have e:b=it:=by simpa using hb
  subst e
  obtain ⟨o,e,c,d⟩:=st
  exact ⟨o,e,fun v z=>by rw [d] at z;cases z⟩
 keep:=fun i h h' st k=>st.at fun o e=>k it (by simp) o e
 item:=by
  intro X hP hw hK hc i pins s σ H E I hf st hg
  subst hP hw hK
  obtain ⟨xs,x,hq,hx⟩:=hg
  obtain ⟨its,rv,p,hz⟩:=I.tuple hq
  obtain ⟨u,hu,ru⟩:=rv.get hx
  obtain ⟨f0,f1,f2,f3,f4,f5⟩:=hf it (by simp)
  refine wpAny_pyNext_tuple_item st (show s.heap.IsTuple a its.toArray from p) (x:=u) (by simpa using hu) fun h' st' sb=>?_
  have I1:Inv X pins σ H { s with heap:=h' }:=I.turned (t':=s.toks) (fun b o hb e=>(sb.2 b hb).trans e) f0 f1 f3 f4 f5
  obtain ⟨o,e,c,d⟩:=id st'
  exact ⟨u,rfl,go_of (s:={ s with heap:=h' }) e c d (by decide) ⟨x,H,I1,ru,⟨rfl,fun ys hy=>by rw [I.tuple_inj hy hq];exact hx⟩,st',fun b hb=>(hf b hb).1⟩⟩
 done:=by
  intro X hP hw hK hc i pins s σ H E I hf st hg
  subst hP hw hK
  obtain ⟨xs,hq,hx⟩:=hg
  obtain ⟨its,rv,p,hz⟩:=I.tuple hq
  obtain ⟨f0,f1,f2,f3,f4,f5⟩:=hf it (by simp)
  have hl:=rv.length
  exact wpAny_pyNext_tuple_end (I.ok.hd hc) st (show s.heap.IsTuple a its.toArray from p) (by simp;omega) fun h' eb=>⟨rfl,I.turned (t':=s.toks) (fun b o hb e=>eb b o hb e) f0 f1 f3 f4 f5⟩
 self:=fun _ _ _ _ _ st h=>wpAny_pyIter_tupleiter st h
theorem turn_range {P:Program}{w:World}{K:PySem.W.Frag}{tg:Expr}(it:Addr)(lo:Int)(n:Nat):Turn P w K tg (Itr lo n) [it] it (fun i h=>IsRangeIter h it (lo + (i:Nat) * 1) ((n:Int) - (i:Nat)) 1) where
 mem:=by simp
 obj:=fun i h st b hb=>by
  have e:b=it:=by simpa using hb
  subst e
  exact ⟨_,st,fun v z=>by
   have z':Data.fields _=Data.cell v:=z
   cases z'⟩
 keep:=fun i h h' st k=>k it (by simp) _ st
 item:=by
  intro X hP hw hK hc i pins s σ H E I hf st hg
  subst hP hw hK
  obtain ⟨f0,f1,f2,f3,f4,f5⟩:=hf it (by simp)
  have W:=Walks.range (prog:=X.prog) (w:=X.w) (I.ok.hd hc) it lo 1 n
  refine W.item i s _ _ hg st fun v h' tk hv st' kk=>?_
  obtain ⟨t,rfl⟩:=hv
  have I1:Inv X pins σ H { s with heap:=h',toks:=tk }:=I.turned (fun b o hb e=>kk b o (by simpa using hb) e) f0 f1 f3 f4 f5
  refine ⟨_,rfl,go_of (s:={ s with heap:=h',toks:=tk }) (n:="range_iterator") st' rfl rfl (by decide) ⟨.int (lo + i),H,I1,⟨t,?_⟩,⟨rfl,rfl⟩,st',fun b hb=>(hf b hb).1⟩⟩
  rw [Int.mul_one]
 done:=by
  intro X hP hw hK hc i pins s σ H E I hf st hg
  subst hP hw hK
  obtain ⟨f0,f1,f2,f3,f4,f5⟩:=hf it (by simp)
  exact wpAny_pyNext_range_end (I.ok.hd hc) st (by have:n<=i:=hg;omega) fun h' eb=>⟨rfl,I.turned (t':=s.toks) (fun b o hb e=>eb b o hb e) f0 f1 f3 f4 f5⟩
 self:=fun _ _ _ _ _ st h=>wpAny_pyIter_rangeiter st h
end L2
namespace L2
open PySem PySem.Spec PyProof.Rows
section
variable {X : Cx} {tg : Expr}
def iList (K:PySem.W.Frag)(tl:TE):TI:=fun σ H R=>tl σ H fun x H1=>∃ a,x=.ref a/\(∃ xs,SqL K H1 a xs)/\R (Itl K a) H1
def iTup (K:PySem.W.Frag)(tl:TE):TI:=fun σ H R=>tl σ H fun x H1=>∃ a,x=.ref a/\(∃ xs,SqT K H1 a xs)/\R (Itt K a) H1
theorem pi_list {l:Expr}{tl:TE}(hl:PE X l tl):PI X tg l (iList X.K tl):=by
 intro pins s σ H R I h
 refine thn (hl pins s σ H _ I h) fun v s1 ⟨x,H1,I1,r1,q1⟩=>?_
 obtain ⟨a,e,⟨xs,hq⟩,q⟩:=q1
 subst e
 cases r1
 obtain ⟨its,rv,p,hz⟩:=I1.list hq
 refine wpAny_pyIter_list p.isList ?_
 refine ⟨s1.heap.objs.size,[s1.heap.objs.size],_,_,H1,rfl,I1.kept (t':=s1.toks) fun b o e=>Heap.get?_push_of_some _ e,turn_list a _,⟨_,Heap.get?_push_size _ rfl,rfl,rfl⟩,fun b hb=>?_,q⟩
 have e:b=s1.heap.objs.size:=by simpa using hb
 subst e
 exact I1.fpOk (Nat.le_refl _) (I1.hok.fresh (Nat.le_refl _))
theorem pi_tup {l:Expr}{tl:TE}(hl:PE X l tl):PI X tg l (iTup X.K tl):=by
 intro pins s σ H R I h
 refine thn (hl pins s σ H _ I h) fun v s1 ⟨x,H1,I1,r1,q1⟩=>?_
 obtain ⟨a,e,⟨xs,hq⟩,q⟩:=q1
 subst e
 cases r1
 obtain ⟨its,rv,p,hz⟩:=I1.tuple hq
 refine wpAny_pyIter_tuple (show s1.heap.IsTuple a its.toArray from p) ?_
 refine ⟨s1.heap.objs.size,[s1.heap.objs.size],_,_,H1,rfl,I1.kept (t':=s1.toks) fun b o e=>Heap.get?_push_of_some _ e,turn_tuple a _,⟨_,Heap.get?_push_size _ rfl,rfl,rfl⟩,fun b hb=>?_,q⟩
 have e:b=s1.heap.objs.size:=by simpa using hb
 subst e
 exact I1.fpOk (Nat.le_refl _) (I1.hok.fresh (Nat.le_refl _))
theorem range_it {pins:List (Addr × Obj)}{σ:St}{H:Hp}{s:Shared}{R:It->Hp->Prop}{E:Value->Shared->Prop}{lo hi:Int}{t u v:Tok}{tk:Nat}(I:Inv X pins σ H s)(h1:-(2 ^ 62)<=lo)(h2:lo < 2 ^ 62)(h3:-(2 ^ 62)<=hi)(h4:hi < 2 ^ 62)
  (q:R (Itr lo (hi - lo).toNat) H):wpAny (model X.prog X.w) X.A (pyIter (.ref s.heap.objs.size)) (PIE X pins σ tg R) E { s with heap:=s.heap.push { cls:=.type "range",data:=.fields #[.int lo t,.int hi u,.int 1 v] },toks:=tk }:=by
 refine wpAny_pyIter_range (IsRange.new ..) (small_one h1 h2 h3 h4) ?_
 have I1:Inv X pins σ H { s with heap:=s.heap.push { cls:=.type "range",data:=.fields #[.int lo t,.int hi u,.int 1 v] },toks:=tk }:=I.kept fun b o e=>Heap.get?_push_of_some _ e
 refine ⟨(s.heap.push { cls:=.type "range",data:=.fields #[.int lo t,.int hi u,.int 1 v] }).objs.size,[(s.heap.push { cls:=.type "range",data:=.fields #[.int lo t,.int hi u,.int 1 v] }).objs.size],_,_,H,rfl,
  I1.kept (t':=tk) fun b o e=>Heap.get?_push_of_some _ e,turn_range _ lo (hi - lo).toNat,?_,fun b hb=>?_,q⟩
 ·have e1:lo + ((0:Nat):Int) * 1=lo:=by simp
  have e2:(((hi - lo).toNat:Nat):Int) - ((0:Nat):Int)=Builtin.Range.rangeSize lo hi 1:=by rw [rangeSize_one];split <;> omega
  show IsRangeIter _ _ (lo + ((0:Nat):Int) * 1) ((((hi - lo).toNat:Nat):Int) - ((0:Nat):Int)) 1
  rw [e1,e2]
  exact Heap.get?_push_size _ rfl
 ·have e:b=(s.heap.push { cls:=.type "range",data:=.fields #[.int lo t,.int hi u,.int 1 v] }).objs.size:=by simpa using hb
  subst e
  exact I1.fpOk (Nat.le_refl _) (I1.hok.fresh (Nat.le_refl _))
def iRng1 (ta:TA):TI:=fun σ H R=>ta σ H fun vs H1=>∃ j:Int,vs=[.int j]/\-(2 ^ 62)<=j/\j < 2 ^ 62/\R (Itr 0 j.toNat) H1
theorem pi_range1 {a:Expr}{ta:TA}{p pos:Pos}(hg:Gl X "range")(hm:X.mg "range"=none)(ha:PA X [a] ta)(hs:starEach [a] X.env=[(false,eval a X.env)]:=by rfl):PI X tg (.Call (.Name "range" p) [a] [] pos) (iRng1 ta):=by
 intro pins s σ H R I h
 refine Call_ (ld_blt I hg hm boot_range (PyProof.Rows.callWith_type1 (thn (ha pos pins s σ H _ I h) fun us s1 ⟨vs,H1,I1,r1,q1⟩=>?_) hs rfl))
 obtain ⟨j,e,q1,q2,q⟩:=q1
 subst e
 cases r1 with
 | cons r rr =>
  cases rr
  obtain ⟨t,rfl⟩:=r
  exact call_range_1 (range_it I1 (by omega) (by omega) q1 q2 (by simpa using q))
def tFor (wi:TI)(g:TG)(tb:TS):TS:=fun D σ H=>wi σ H fun J H1=>∃ W:Nat->Nat->St->Hp->Prop,(∃ m,W 0 m σ H1)/\∀ i m σ H,W i m σ H ->
 (J.stop i H/\D.nx σ H)\/(J.go i H/\∃ N:St->Hp->Prop,(∀ σ' H',N σ' H'->∃ m',m' < m/\W (i + 1) m' σ' H')/\∀ x H',J.yld i H x H'->g x σ H' fun σ2 H2=>tb { D with nx:=N,ct:=N,bk:=D.nx } σ2 H2)
def pinsAt (fp:List Addr)(h:Heap):List (Addr × Obj):=fp.filterMap fun b=>(h.get? b).map fun o=>(b,o)
theorem mem_pinsAt {fp:List Addr}{h:Heap}{b:Addr}{o:Obj}(hb:b∈fp)(e:h.get? b=some o):(b,o)∈pinsAt fp h:=List.mem_filterMap.mpr ⟨b,hb,by rw [e];rfl⟩
theorem of_pinsAt {fp:List Addr}{h:Heap}{p:Addr × Obj}(hp:p∈pinsAt fp h):p.1∈fp/\h.get? p.1=some p.2:=by
 obtain ⟨b,hb,e⟩:=List.mem_filterMap.mp hp
 cases q:h.get? b with
 | none=>rw [q] at e;cases e
 | some o =>
  rw [q] at e
  have e':(b,o)=p:=Option.some.inj e
  subst e'
  exact ⟨hb,q⟩
theorem Inv.pinned {pins:List (Addr × Obj)}{σ:St}{H:Hp}{s:Shared}{fp:List Addr}(I:Inv X pins σ H s)(hf:∀ b∈fp,FpOk X pins H b)(ho:∀ b∈fp,∃ o,s.heap.get? b=some o/\∀ v,o.data≠.cell v):Inv X (pins++pinsAt fp s.heap) σ H s :=
 I.pins_of fun p hp=>(List.mem_append.mp hp).elim (fun z=>I.pin p (List.mem_append_right _ z)) fun z=>by
  obtain ⟨hb,e⟩:=of_pinsAt z
  obtain ⟨f0,f1,f2,_⟩:=hf p.1 hb
  obtain ⟨o,e',d⟩:=ho p.1 hb
  rw [e] at e';cases e'
  exact ⟨e,f0,f1,f2,d⟩
theorem Inv.unpinned {pins pl:List (Addr × Obj)}{σ:St}{H:Hp}{s:Shared}(I:Inv X (pins++pl) σ H s):Inv X pins σ H s:=I.pins_of fun p hp=>I.pin p (List.mem_append_right _ (List.mem_append_left _ hp))
theorem ps_for {iter:Expr}{body:List Stmt}{wi:TI}{g:TG}{tb:TS}{pos:Pos}(hp:PassesOwn (model X.prog X.w) X.A X.env X.xe)(hc:X.calm=true)(hi:PI X tg iter wi)(hg:PG X tg g)(hb:PSs X body tb)
  (hs:∀ x,foldedSetIterable iter X.env x=pure x:=by intro _;rfl):PS X (.For tg iter body [] pos) (tFor wi g tb):=by
 intro pins s σ H D I h
 refine wpAny_For (thn (hi pins s σ H _ I h) fun v s1 h1=>thn h1 fun itv s2 h2=>?_) hs
 obtain ⟨it,fp,tn,J,H2,e,I2,T,st2,f2,W,⟨m0,w0⟩,turn⟩:=h2
 subst e
 -- what stays true of the iterator's objects through the loop
 have stat:∀ {H':Hp},(∀ b∈fp,H' b=none)->∀ b∈fp,FpOk X pins H' b:=fun hn b hb=>⟨hn b hb,(f2 b hb).2⟩
 refine codeAny_forLoop_any (fun n s'=>∃ i σ' H',Inv X pins σ' H' s'/\tn i s'.heap/\(∀ b∈fp,H' b=none)/\W i n σ' H') ?_ m0 ⟨0,σ,H2,I2,st2,fun b hb=>(f2 b hb).1,w0⟩
 rintro n s3 ⟨i,σ3,H3,I3,st3,fr3,w3⟩
 rcases turn i n σ3 H3 w3 with ⟨stop,qn⟩ | ⟨go,N,hN,step⟩
 ·refine wpAny_passesOwn hp (thn (T.done X rfl rfl rfl hc i pins s3 σ3 H3 X.xe I3 (stat fr3) st3 stop) fun r s4 ⟨hr,I4⟩=>?_)
  subst hr
  exact wpAny_execs_nil ⟨σ3,H3,I4,qn⟩
 ·refine wpAny_passesOwn hp (thn (T.item X rfl rfl rfl hc i pins s3 σ3 H3 X.xe I3 (stat fr3) st3 go) fun r s4 ⟨u,hr,h4⟩=>?_)
  subst hr
  refine wpAny_passesOwn hp (thn h4 fun _ s5 ⟨x,H5,I5,r5,y5,st5,fr5⟩=>?_)
  have I5':=I5.pinned (stat fr5) (T.obj _ _ st5)
  refine wpAny_passesOwn hp (thn (hg _ s5 σ3 H5 x u _ I5' r5 (step x H5 y5)) fun _ s6 ⟨σ6,H6,I6,q6⟩=>?_)
  refine wpAny_passesOwn hp (thn (hb _ s6 σ6 H6 _ I6 q6) fun f s7 q7=>?_)
  have again:∀ {σ7:St} {H7:Hp},Inv X (pins++pinsAt fp s5.heap) σ7 H7 s7->N σ7 H7->∃ m,m < n/\∃ i σ' H',Inv X pins σ' H' s7/\tn i s7.heap/\(∀ b∈fp,H' b=none)/\W i m σ' H':=fun {σ7 H7} I7 n7=>by
   obtain ⟨m',hm,w7⟩:=hN σ7 H7 n7
   refine ⟨m',hm,i + 1,σ7,H7,I7.unpinned,T.keep _ _ _ st5 fun b hb o e=>(I7.pin (b,o) (List.mem_append_right _ (List.mem_append_right _ (mem_pinsAt hb e)))).1,fun b hb=>?_,w7⟩
   obtain ⟨o,e,d⟩:=T.obj _ _ st5 b hb
   exact (I7.pin (b,o) (List.mem_append_right _ (List.mem_append_right _ (mem_pinsAt hb e)))).2.1
  cases f with
  | next=>obtain ⟨σ7,H7,I7,n7⟩:=q7;exact again I7 n7
  | cont=>obtain ⟨σ7,H7,I7,n7⟩:=q7;exact again I7 n7
  | brk=>obtain ⟨σ7,H7,I7,q7⟩:=q7;exact ⟨σ7,H7,I7.unpinned,q7⟩
  | ret v=>obtain ⟨x7,σ7,H7,I7,r7,q7⟩:=q7;exact ⟨x7,σ7,H7,I7.unpinned,r7,q7⟩
end
theorem for_list {K:PySem.W.Frag}{a:Addr}{xs:List V}{g:TG}{tb:TS}{D:Ends}{σ:St}{H:Hp}(Pv:Nat->St->Hp->Prop)(h0:Pv 0 σ H)(hl:∀ i σ H,i<=xs.length->Pv i σ H->SqL K H a xs)
  (hs:∀ i x σ H,xs[i]?=some x->Pv i σ H->g x σ H fun σ2 H2=>tb { D with nx:=Pv (i + 1),ct:=Pv (i + 1),bk:=D.nx } σ2 H2) (hd:∀ σ H,Pv xs.length σ H->D.nx σ H) :
  ∃ W:Nat->Nat->St->Hp->Prop,(∃ m,W 0 m σ H)/\∀ i m σ H,W i m σ H ->
   ((Itl K a).stop i H/\D.nx σ H)\/((Itl K a).go i H/\∃ N:St->Hp->Prop,(∀ σ' H',N σ' H'->∃ m',m' < m/\W (i + 1) m' σ' H')/\∀ x H',(Itl K a).yld i H x H'->g x σ H' fun σ2 H2=>tb { D with nx:=N,ct:=N,bk:=D.nx } σ2 H2):=by
 refine ⟨fun i m σ H=>m=xs.length - i/\i<=xs.length/\Pv i σ H,⟨xs.length,by simp,Nat.zero_le _,h0⟩,?_⟩
 rintro i m σ H ⟨rfl,hi,p⟩
 have q:=hl i σ H hi p
 by_cases hlt:i < xs.length
 ·refine .inr ⟨⟨xs,xs[i],q,by simp [hlt]⟩,Pv (i + 1),fun σ' H' p'=>⟨xs.length - (i + 1),by omega,rfl,hlt,p'⟩,fun x H' y=>?_⟩
  obtain ⟨e,y⟩:=y
  subst e
  exact hs i x σ _ (y xs q) p
 ·have e:i=xs.length:=by omega
  subst e
  exact .inl ⟨⟨xs,q,Nat.le_refl _⟩,hd σ H p⟩
theorem for_range {lo:Int}{n:Nat}{g:TG}{tb:TS}{D:Ends}{σ:St}{H:Hp}(Pv:Nat->St->Hp->Prop)(h0:Pv 0 σ H)
  (hs:∀ i σ H,i < n->Pv i σ H->g (.int (lo + i)) σ H fun σ2 H2=>tb { D with nx:=Pv (i + 1),ct:=Pv (i + 1),bk:=D.nx } σ2 H2) (hd:∀ σ H,Pv n σ H->D.nx σ H) :
  ∃ W:Nat->Nat->St->Hp->Prop,(∃ m,W 0 m σ H)/\∀ i m σ H,W i m σ H ->
   ((Itr lo n).stop i H/\D.nx σ H)\/((Itr lo n).go i H/\∃ N:St->Hp->Prop,(∀ σ' H',N σ' H'->∃ m',m' < m/\W (i + 1) m' σ' H')/\∀ x H',(Itr lo n).yld i H x H'->g x σ H' fun σ2 H2=>tb { D with nx:=N,ct:=N,bk:=D.nx } σ2 H2):=by
 refine ⟨fun i m σ H=>m=n - i/\i<=n/\Pv i σ H,⟨n,by simp,Nat.zero_le _,h0⟩,?_⟩
 rintro i m σ H ⟨rfl,hi,p⟩
 by_cases hlt:i < n
 ·refine .inr ⟨hlt,Pv (i + 1),fun σ' H' p'=>⟨n - (i + 1),by omega,rfl,hlt,p'⟩,fun x H' y=>?_⟩
  obtain ⟨e,y⟩:=y
  subst e y
  exact hs i σ _ hlt p
 ·have e:i=n:=by omega
  subst e
  exact .inl ⟨Nat.le_refl _,hd σ H p⟩
end L2
namespace L2
open PySem PySem.Spec PyProof.Rows
abbrev R2:=V->V->Hp->VK->Prop
def OpR (X:Cx)(f:Value->Value->Sem Value)(r:R2):Prop :=
 ∀ (pins:List (Addr × Obj)) (s:Shared) (σ:St) (H:Hp) (x y:V) (v u:Value) (Q:VK),Inv X pins σ H s->RelV x v->RelV y u->r x y H Q ->
  wpAny (model X.prog X.w) X.A (f v u) (EP X pins σ Q) X.xe s
def UnR (X:Cx)(f:Value->Sem Value)(r:V->Hp->VK->Prop):Prop :=
 ∀ (pins:List (Addr × Obj)) (s:Shared) (σ:St) (H:Hp) (x:V) (v:Value) (Q:VK),Inv X pins σ H s->RelV x v->r x H Q ->
  wpAny (model X.prog X.w) X.A (f v) (EP X pins σ Q) X.xe s
def CallR (X:Cx)(f:Value)(r:List V->Hp->VK->Prop):Prop :=
 ∀ (pins:List (Addr × Obj)) (s:Shared) (σ:St) (H:Hp) (xs:List V) (us:List Value) (Q:VK),Inv X pins σ H s->Vals xs us->r xs H Q ->
  wpAny (model X.prog X.w) X.A (call f us) (EP X pins σ Q) X.xe s
def TruR (X:Cx)(r:V->Hp->(Bool->Hp->Prop)->Prop):Prop :=
 ∀ (pins:List (Addr × Obj)) (s:Shared) (σ:St) (H:Hp) (x:V) (v:Value) (Q:Bool->Hp->Prop),Inv X pins σ H s->RelV x v->r x H Q ->
  wpAny (model X.prog X.w) X.A (truthy v) (TP X pins σ Q) X.xe s
def tOp (r:R2)(ta tb:TE):TE:=fun σ H Q=>ta σ H fun x H1=>tb σ H1 fun y H2=>r x y H2 Q
def tUn (r:V->Hp->VK->Prop)(ta:TE):TE:=fun σ H Q=>ta σ H fun x H1=>r x H1 Q
def rI (C:Int->Int->Prop)(g:Int->Int->V):R2:=fun x y H Q=>∃ i j,x=.int i/\y=.int j/\C i j/\Q (g i j) H
def rI0 (g:Int->Int->V):R2:=fun x y H Q=>∃ i j,x=.int i/\y=.int j/\Q (g i j) H
def rU (g:Int->V):V->Hp->VK->Prop:=fun x H Q=>∃ i,x=.int i/\Q (g i) H
section
variable {X : Cx} {a b c : Expr} {ta tb tc : TE} {pos : Pos}
theorem binT (ha:PE X a ta)(hb:PE X b tb){pins:List (Addr × Obj)}{s:Shared}{σ:St}{H:Hp}{R:V->V->Hp->Prop}(I:Inv X pins σ H s)
  (h:ta σ H fun x H1=>tb σ H1 fun y H2=>R x y H2) {Q:Value->Shared->Prop} {f:Value->Value->Sem Value}
  (hf:∀ v u s2 x y H2,Inv X pins σ H2 s2->RelV x v->RelV y u->R x y H2->wpAny (model X.prog X.w) X.A (f v u) Q X.xe s2) :
  wpAny (model X.prog X.w) X.A (eval a X.env) (fun v s₁=>wpAny (model X.prog X.w) X.A (eval b X.env) (fun u s₂=>wpAny (model X.prog X.w) X.A (f v u) Q X.xe s₂) X.xe s₁) X.xe s:=by
 refine thn (ha pins s σ H _ I h) fun v s1 ⟨x,H1,I1,r1,q1⟩=>?_
 refine thn (hb pins s1 σ H1 _ I1 q1) fun u s2 ⟨y,H2,I2,r2,q2⟩=>?_
 exact hf v u s2 x y H2 I2 r1 r2 q2
theorem pe_op {op:Operator}{r:R2}(ho:OpR X (binaryOp op) r)(ha:PE X a ta)(hb:PE X b tb):PE X (.BinOp a op b pos) (tOp r ta tb):=by
 intro pins s σ H Q I h
 exact wpAny_BinOp (binT ha hb I h fun v u s2 x y H2 I2 rx ry q=>ho pins s2 σ H2 x y v u Q I2 rx ry q)
theorem pe_un {op:UnaryOp}{r:V->Hp->VK->Prop}(ho:UnR X (unaryOp op) r)(ha:PE X a ta):PE X (.UnaryOp op a pos) (tUn r ta):=by
 intro pins s σ H Q I h
 exact UnaryOp_ (thn (ha pins s σ H _ I h) fun v s1 ⟨x,H1,I1,r1,q1⟩=>ho pins s1 σ H1 x v Q I1 r1 q1)
theorem opI {f:Value->Value->Sem Value}{C:Int->Int->Prop}{g:Int->Int->Int}
  (rule:∀ (i j:Int) (t u:Tok) (s:Shared) (Q:Value->Shared->Prop) (E:Value->Shared->Prop),C i j->Q (.int (g i j) s.toks) { s with toks:=s.toks + 1 }->wpAny (model X.prog X.w) X.A (f (.int i t) (.int j u)) Q E s) :
  OpR X f (rI C fun i j=>.int (g i j)):=by
 intro pins s σ H x y v u Q I rx ry h
 obtain ⟨i,j,rfl,rfl,hc,q⟩:=h
 obtain ⟨t,rfl⟩:=rx
 obtain ⟨t',rfl⟩:=ry
 exact rule i j t t' s _ _ hc ⟨.int (g i j),H,I.tok _,⟨_,rfl⟩,q⟩
theorem opI0 {f:Value->Value->Sem Value}{g:Int->Int->Int}
  (rule:∀ (i j:Int) (t u:Tok) (s:Shared) (Q:Value->Shared->Prop) (E:Value->Shared->Prop),Q (.int (g i j) s.toks) { s with toks:=s.toks + 1 }->wpAny (model X.prog X.w) X.A (f (.int i t) (.int j u)) Q E s) :
  OpR X f (rI0 fun i j=>.int (g i j)):=by
 intro pins s σ H x y v u Q I rx ry h
 obtain ⟨i,j,rfl,rfl,q⟩:=h
 obtain ⟨t,rfl⟩:=rx
 obtain ⟨t',rfl⟩:=ry
 exact rule i j t t' s _ _ ⟨.int (g i j),H,I.tok _,⟨_,rfl⟩,q⟩
theorem opB0 {f:Value->Value->Sem Value}{g:Int->Int->Bool}
  (rule:∀ (i j:Int) (t u:Tok) (s:Shared) (Q:Value->Shared->Prop) (E:Value->Shared->Prop),Q (.bool (g i j)) s->wpAny (model X.prog X.w) X.A (f (.int i t) (.int j u)) Q E s) :
  OpR X f (rI0 fun i j=>.bl (g i j)):=by
 intro pins s σ H x y v u Q I rx ry h
 obtain ⟨i,j,rfl,rfl,q⟩:=h
 obtain ⟨t,rfl⟩:=rx
 obtain ⟨t',rfl⟩:=ry
 exact rule i j t t' s _ _ ⟨.bl (g i j),H,I,rfl,q⟩
def CDiv (i j:Int):Prop:=0 < j/\j < 1073741824
def CPow (i j:Int):Prop:=0<=j/\j<=1000000/\i.natAbs < 2 ^ 64
def CMul (i j:Int):Prop:=(-(2 ^ 64) < i/\i < 2 ^ 64)\/(-(2 ^ 64) < j/\j < 2 ^ 64)
theorem CMul.ok {i j:Int}(h:CMul i j):IntMulOk i j:=by
 rcases h with ⟨h1,h2⟩ | ⟨h1,h2⟩
 ·exact .of_left (intBits_le_64 h1 h2)
 ·exact .of_right (intBits_le_64 h1 h2)
theorem op_add:OpR X (binaryOp .Add) (rI0 fun i j=>.int (i + j)):=opI0 fun _ _ _ _ _ _ _ q=>add_int q
theorem op_sub:OpR X (binaryOp .Sub) (rI0 fun i j=>.int (i - j)):=opI0 fun _ _ _ _ _ _ _ q=>sub_int q
theorem op_mul:OpR X (binaryOp .Mult) (rI CMul fun i j=>.int (i * j)):=opI fun _ _ _ _ _ _ _ hc q=>mul_int q hc.ok
theorem op_fdiv:OpR X (binaryOp .FloorDiv) (rI CDiv fun i j=>.int (i / j)):=opI fun i j _ _ _ _ _ hc q=>by
 have h1:(0:Int) < j:=hc.1
 have h2:j < 1073741824:=hc.2
 exact floordiv_int (by omega) (by rw [Int.fdiv_eq_ediv_of_nonneg i (by omega)];exact q) (.inl (PyProof.noPylong_small (by omega)))
theorem op_mod:OpR X (binaryOp .Mod) (rI (fun _ j=>0 < j) fun i j=>.int (i % j)):=opI fun i j _ _ _ _ _ hc q=>by
 have h1:(0:Int) < j:=hc
 exact mod_int' (by omega) (by rw [Int.fmod_eq_emod_of_nonneg i (by omega)];exact q)
theorem op_pow:OpR X (binaryOp .Pow) (rI CPow fun i j=>.int (i ^ j.toNat)):=opI fun _ _ _ _ _ _ _ hc q=>pow_int_small hc.1 hc.2.1 hc.2.2 q
theorem unI {f:Value->Sem Value}{g:Int->Int}
  (rule:∀ (i:Int) (t:Tok) (s:Shared) (Q:Value->Shared->Prop) (E:Value->Shared->Prop),Q (.int (g i) s.toks) { s with toks:=s.toks + 1 }->wpAny (model X.prog X.w) X.A (f (.int i t)) Q E s) :
  UnR X f (rU fun i=>.int (g i)):=by
 intro pins s σ H x v Q I rx h
 obtain ⟨i,rfl,q⟩:=h
 obtain ⟨t,rfl⟩:=rx
 exact rule i t s _ _ ⟨.int (g i),H,I.tok _,⟨_,rfl⟩,q⟩
theorem un_neg:UnR X (unaryOp .USub) (rU fun i=>.int (-i)):=unI fun _ _ _ _ _ q=>neg_int q
end
def scal:V->V->Bool
 | .non,.non=>true | .non,.int _=>true | .int _,.non=>true | .non,.bl _=>true | .bl _,.non=>true | .non,.str _=>true | .str _,.non=>true
 | .int _,.int _=>true | .bl _,.bl _=>true | .str _,.str _=>true | .byt _,.byt _=>true
 | .int _,.str _=>true | .str _,.int _=>true | .bl _,.str _=>true | .str _,.bl _=>true
 | _,_=>false
def rEq:R2:=fun x y H Q=>scal x y=true/\Q (.bl (decide (x=y))) H
def rNe:R2:=fun x y H Q=>scal x y=true/\Q (.bl (!decide (x=y))) H
theorem dec_int {i j:Int}:decide (V.int i=V.int j)=(i == j):=by
 rw [Bool.eq_iff_iff]
 simp
theorem dec_bl {i j:Bool}:decide (V.bl i=V.bl j)=(i == j):=by
 rw [Bool.eq_iff_iff]
 simp
theorem dec_str {i j:Str}:decide (V.str i=V.str j)=(i == j):=by
 rw [Bool.eq_iff_iff]
 simp
theorem dec_byt {i j:Array UInt8}:decide (V.byt i=V.byt j)=(i.toList == j.toList):=by
 rw [Bool.eq_iff_iff]
 cases i
 cases j
 simp
section
variable {X : Cx} {a b c : Expr} {ta tb tc : TE} {pos : Pos}
theorem fin_bl {pins:List (Addr × Obj)}{σ:St}{H:Hp}{s:Shared}{Q:VK}{k k':Bool}(I:Inv X pins σ H s)(q:Q (.bl k) H)(e:k=k'):EP X pins σ Q (.bool k') s:=by
 subst e
 exact ⟨.bl k,H,I,rfl,q⟩
theorem op_eq:OpR X (compareOp .Eq) rEq:=by
 intro pins s σ H x y v u Q I rx ry h
 obtain ⟨hs,q⟩:=h
 cases x with
 | non =>
  cases rx
  cases y with
  | non=>cases ry;exact PySem.EqNone.eq_none_none (fin_bl I q (by simp))
  | bl j=>cases ry;exact PySem.EqNone.eq_none_bool (fin_bl I q (by simp))
  | int j=>obtain ⟨t',rfl⟩:=ry;exact PySem.EqNone.eq_none_int (fin_bl I q (by simp))
  | str j=>obtain ⟨t',rfl⟩:=ry;exact PySem.EqNone.eq_none_str (fin_bl I q (by simp))
  | _=>exact absurd (show false=true from hs) Bool.false_ne_true
 | bl i =>
  cases rx
  cases y with
  | non=>cases ry;exact PySem.EqNone.eq_bool_none (fin_bl I q (by simp))
  | bl j=>cases ry;exact eq_bool (fin_bl I q dec_bl)
  | str j=>obtain ⟨t',rfl⟩:=ry;exact PySem.EqMixed.eq_bool_str (fin_bl I q (by simp))
  | _=>exact absurd (show false=true from hs) Bool.false_ne_true
 | int i =>
  obtain ⟨t,rfl⟩:=rx
  cases y with
  | non=>cases ry;exact PySem.EqNone.eq_int_none (fin_bl I q (by simp))
  | int j=>obtain ⟨t',rfl⟩:=ry;exact eq_int (fin_bl I q dec_int)
  | str j=>obtain ⟨t',rfl⟩:=ry;exact PySem.EqMixed.eq_int_str (fin_bl I q (by simp))
  | _=>exact absurd (show false=true from hs) Bool.false_ne_true
 | str i =>
  obtain ⟨t,rfl⟩:=rx
  cases y with
  | non=>cases ry;exact PySem.EqNone.eq_str_none (fin_bl I q (by simp))
  | bl j=>cases ry;exact PySem.EqMixed.eq_str_bool (fin_bl I q (by simp))
  | int j=>obtain ⟨t',rfl⟩:=ry;exact PySem.EqMixed.eq_str_int (fin_bl I q (by simp))
  | str j=>obtain ⟨t',rfl⟩:=ry;exact eq_str (fin_bl I q dec_str)
  | _=>exact absurd (show false=true from hs) Bool.false_ne_true
 | byt i =>
  obtain ⟨t,rfl⟩:=rx
  cases y with
  | byt j=>obtain ⟨t',rfl⟩:=ry;exact PySem.W.eq_bytes (fin_bl I q dec_byt)
  | _=>exact absurd (show false=true from hs) Bool.false_ne_true
 | _=>cases y <;> exact absurd (show false=true from hs) Bool.false_ne_true
theorem op_ne:OpR X (compareOp .NotEq) rNe:=by
 intro pins s σ H x y v u Q I rx ry h
 obtain ⟨hs,q⟩:=h
 cases x with
 | non =>
  cases rx
  cases y with
  | non=>cases ry;exact PySem.EqNone.ne_none_none (fin_bl I q (by simp))
  | bl j=>cases ry;exact PySem.EqNone.ne_none_bool (fin_bl I q (by simp))
  | int j=>obtain ⟨t',rfl⟩:=ry;exact PySem.EqNone.ne_none_int (fin_bl I q (by simp))
  | str j=>obtain ⟨t',rfl⟩:=ry;exact PySem.EqNone.ne_none_str (fin_bl I q (by simp))
  | _=>exact absurd (show false=true from hs) Bool.false_ne_true
 | bl i =>
  cases rx
  cases y with
  | non=>cases ry;exact PySem.EqNone.ne_bool_none (fin_bl I q (by simp))
  | bl j=>cases ry;exact ne_bool (fin_bl I q (congrArg not dec_bl))
  | str j=>obtain ⟨t',rfl⟩:=ry;exact PySem.EqMixed.ne_bool_str (fin_bl I q (by simp))
  | _=>exact absurd (show false=true from hs) Bool.false_ne_true
 | int i =>
  obtain ⟨t,rfl⟩:=rx
  cases y with
  | non=>cases ry;exact PySem.EqNone.ne_int_none (fin_bl I q (by simp))
  | int j=>obtain ⟨t',rfl⟩:=ry;exact ne_int (fin_bl I q (congrArg not dec_int))
  | str j=>obtain ⟨t',rfl⟩:=ry;exact PySem.EqMixed.ne_int_str (fin_bl I q (by simp))
  | _=>exact absurd (show false=true from hs) Bool.false_ne_true
 | str i =>
  obtain ⟨t,rfl⟩:=rx
  cases y with
  | non=>cases ry;exact PySem.EqNone.ne_str_none (fin_bl I q (by simp))
  | bl j=>cases ry;exact PySem.EqMixed.ne_str_bool (fin_bl I q (by simp))
  | int j=>obtain ⟨t',rfl⟩:=ry;exact PySem.EqMixed.ne_str_int (fin_bl I q (by simp))
  | str j=>obtain ⟨t',rfl⟩:=ry;exact ne_str (fin_bl I q (congrArg not dec_str))
  | _=>exact absurd (show false=true from hs) Bool.false_ne_true
 | byt i =>
  obtain ⟨t,rfl⟩:=rx
  cases y with
  | byt j=>obtain ⟨t',rfl⟩:=ry;exact PySem.W.ne_bytes (fin_bl I q (congrArg not dec_byt))
  | _=>exact absurd (show false=true from hs) Bool.false_ne_true
 | _=>cases y <;> exact absurd (show false=true from hs) Bool.false_ne_true
theorem op_lt:OpR X (compareOp .Lt) (rI0 fun i j=>.bl (decide (i < j))):=opB0 fun _ _ _ _ _ _ _ q=>lt_int q
theorem op_gt:OpR X (compareOp .Gt) (rI0 fun i j=>.bl (decide (j < i))):=opB0 fun _ _ _ _ _ _ _ q=>gt_int q
theorem op_ge:OpR X (compareOp .GtE) (rI0 fun i j=>.bl (decide (j<=i))):=opB0 fun _ _ _ _ _ _ _ q=>ge_int q
theorem nomark (b:Expr){op:CmpOp}(h:op≠.In:=by decide)(h2:op≠.NotIn:=by decide):behindInMarks op b=false:=by
 have e1:(op == CmpOp.In)=false:=by cases op <;> first | rfl | exact absurd rfl h
 have e2:(op == CmpOp.NotIn)=false:=by cases op <;> first | rfl | exact absurd rfl h2
 cases b <;> simp [behindInMarks,e1,e2]
theorem pe_cmpR {op:CmpOp}{r:R2}(ho:OpR X (compareOp op) r)(ha:PE X a ta)(hb:PE X b tb)(hm:behindInMarks op b=false):PE X (.Compare a [op] [b] pos) (tOp r ta tb):=by
 intro pins s σ H Q I h
 exact wpAny_Compare1 (binT ha hb I h fun v u s2 x y H2 I2 rx ry q=>ho pins s2 σ H2 x y v u Q I2 rx ry q) hm
def tTest (t:TE):TT:=fun σ H Q=>t σ H fun x H'=>∃ k,x=.bl k/\Q k H'
theorem pt_cmpR {op:CmpOp}{r:R2}(ho:OpR X (compareOp op) r)(ha:PE X a ta)(hb:PE X b tb)(hm:behindInMarks op b=false):PT X (.Compare a [op] [b] pos) (tTest (tOp r ta tb)):=by
 intro pins s σ H Q I h
 refine wpAny_isTrue_Compare1 (thn (ha pins s σ H _ I h) fun v s1 ⟨x,H1,I1,r1,q1⟩=>thn (hb pins s1 σ H1 _ I1 q1) fun u s2 ⟨y,H2,I2,r2,q2⟩ =>
  thn (ho pins s2 σ H2 x y v u _ I2 r1 r2 q2) fun c s3 ⟨z,H3,I3,r3,k,e,q3⟩=>?_) hm
 subst e
 cases r3
 exact wpAny_truthy_bool ⟨H3,I3,q3⟩
def TruV (K:PySem.W.Frag)(x:V)(H:Hp)(k:Bool):Prop :=
 match x with
 | .non=>k=false
 | .bl b=>k=b
 | .int i=>k=(i != 0)
 | .str y=>y.length<=sizeLine/\k=((y.length:Int) != 0)
 | .byt y=>y.size<=sizeLine/\k=((y.size:Int) != 0)
 | .ref p=>(∃ xs,SqL K H p xs/\k=!xs.isEmpty)\/(∃ xs,SqT K H p xs/\k=!xs.isEmpty)\/∃ kvs,H p=some (.dK kvs)/\k=!kvs.isEmpty
 | _=>False
theorem isEmpty_kv {κ:Type}{kvs:List (κ × V)}{vs:List (κ × Value)}(r:KV kvs vs):(!vs.isEmpty)=!kvs.isEmpty:=by
 cases r <;> rfl
theorem isEmpty_of {xs:List V}{its:List Value}(r:Vals xs its):(!its.toArray.isEmpty)=!xs.isEmpty:=by
 cases r <;> simp
theorem line63:(sizeLine:Nat) < 2 ^ 63:=by rw [sizeLine_eq];decide
theorem tru_ok:TruR X (fun x H Q=>∃ k,TruV X.K x H k/\Q k H):=by
 intro pins s σ H x v Q I rx h
 obtain ⟨k,e,q⟩:=h
 have hl:=line63
 have hs:sizeLine=16777216:=sizeLine_eq
 cases x with
 | non =>
  cases rx
  have e':k=false:=e
  subst e'
  exact truthy_none ⟨H,I,q⟩
 | bl b =>
  cases rx
  have e':k=b:=e
  subst e'
  exact wpAny_truthy_bool ⟨H,I,q⟩
 | int i =>
  obtain ⟨t,rfl⟩:=rx
  have e':k=(i != 0):=e
  subst e'
  exact PySem.P.truthy_int ⟨H,I,q⟩
 | str y =>
  obtain ⟨t,rfl⟩:=rx
  obtain ⟨hy,e'⟩:y.length<=sizeLine/\k=((y.length:Int) != 0):=e
  subst e'
  exact PySem.P.truthy_str (by omega) ⟨H,I.tok _,q⟩
 | byt y =>
  obtain ⟨t,rfl⟩:=rx
  obtain ⟨hy,e'⟩:y.size<=sizeLine/\k=((y.size:Int) != 0):=e
  subst e'
  exact PySem.W.truthy_bytes (by omega) ⟨H,I.tok _,q⟩
 | ref p =>
  cases rx
  have e':(∃ xs,SqL X.K H p xs/\k=!xs.isEmpty)\/(∃ xs,SqT X.K H p xs/\k=!xs.isEmpty)\/∃ kvs,H p=some (.dK kvs)/\k=!kvs.isEmpty:=e
  rcases e' with ⟨xs,hx,e'⟩ | ⟨xs,hx,e'⟩ | ⟨kvs,hx,e'⟩
  ·subst e'
   obtain ⟨its,r,pl,hz⟩:=I.list hx
   have hlen:=r.length
   exact wpAny_truthy_list pl.isList (by simp only [List.size_toArray];omega) ⟨H,I.tok _,by rw [isEmpty_of r];exact q⟩
  ·subst e'
   obtain ⟨its,r,pl,hz⟩:=I.tuple hx
   have hlen:=r.length
   exact truthy_tuple pl (by simp only [List.size_toArray];omega) ⟨H,I.tok _,by rw [isEmpty_of r];exact q⟩
  ·subst e'
   obtain ⟨hz,hS,vs,r,m⟩:kvs.length<=sizeLine/\(p == sysModules)=false/\∃ vs,KV kvs vs/\s.heap.DictOf (mixKind X.prog X.w) p vs:=I.hok p _ hx
   have hlen:kvs.length=vs.length:=Paired.length r
   exact wpAny_truthy_dict hS m (by omega) ⟨H,I.tok _,by rw [isEmpty_kv r];exact q⟩
 | _=>exact (show False from e).elim
theorem pt_truth (ha:PE X a ta)(he:∀ whole,isTrue a X.env whole=(do let v ←whole;standAt a.pos;holding [v] (truthy v))) :
  PT X a (fun σ H Q=>ta σ H fun x H'=>∃ k,TruV X.K x H' k/\Q k H'):=by
 intro pins s σ H Q I h
 exact isTrue_plain (thn (ha pins s σ H _ I h) fun v s1 ⟨x,H1,I1,r1,q1⟩=>tru_ok pins s1 σ H1 x v Q I1 r1 q1) (he _)
theorem op_add_str:OpR X (binaryOp .Add) (fun x y H Q=>∃ i j,x=.str i/\y=.str j/\i.length + j.length<=sizeLine/\Q (.str (i++j)) H):=by
 intro pins s σ H x y v u Q I rx ry h
 obtain ⟨i,j,rfl,rfl,hz,q⟩:=h
 obtain ⟨t,rfl⟩:=rx
 obtain ⟨t',rfl⟩:=ry
 exact add_str (fun t' tk=>⟨.str (i++j),H,I.tok _,⟨_,rfl⟩,q⟩) hz
theorem vals1 {x:V}{us:List Value}(r:Vals [x] us):∃ u,us=[u]/\RelV x u:=by
 cases r with
 | cons r1 r2=>cases r2;exact ⟨_,rfl,r1⟩
theorem vals2 {x y:V}{us:List Value}(r:Vals [x,y] us):∃ u w',us=[u,w']/\RelV x u/\RelV y w':=by
 cases r with
 | cons r1 r2 =>
  cases r2 with
  | cons r3 r4=>cases r4;exact ⟨_,_,rfl,r1,r3⟩
theorem call_int1:CallR X (.type "int") (fun xs H Q=>(∃ i,xs=[.int i]/\Q (.int i) H)\/∃ k,xs=[.bl k]/\Q (.int (if k then 1 else 0)) H):=by
 intro pins s σ H xs us Q I r h
 rcases h with ⟨i,rfl,q⟩ | ⟨k,rfl,q⟩
 ·obtain ⟨u,rfl,t,rfl⟩:=vals1 r
  exact call_int_int ⟨.int i,H,I,⟨_,rfl⟩,q⟩
 ·obtain ⟨u,rfl,r1⟩:=vals1 r
  cases r1
  exact call_int_bool ⟨.int (if k then 1 else 0),H,I.tok _,⟨_,rfl⟩,q⟩
end
end L2
namespace L2
open PySem PySem.Spec PyProof.Rows
structure ObjM (h:Heap) (x dx C:Addr) (mA:Str->Option Value):Prop where
 obj:h.get? x=some (PySem.W.instObj C dx)
 ns:h.Ns1 dx mA
 ne:dx≠x
theorem lookIn_ns {h:Heap}{dx:Addr}{mA:Str->Option Value}(n:h.Ns1 dx mA):∃ od,h.get? dx=some od/\∀ name,PySem.W.lookIn name od=some (mA name):=by
 obtain ⟨o,es,ep,ho,hd,hk,_,hm⟩:=n
 refine ⟨o,ho,fun name=>?_⟩
 have e:=hm name
 unfold nsFind findBy at e
 rw [←Array.find?_toList] at e
 unfold PySem.W.lookIn
 rw [hd]
 dsimp only
 split
 ·rename_i y q
  rw [q] at e
  exact congrArg some e
 ·rename_i q
  rw [q] at e
  have a:es.toList.any (·.refKey)=false:=by
   rw [List.any_eq_false]
   intro y hy
   obtain ⟨z,t,hkey⟩:=hk y (Array.mem_toList_iff.mp hy)
   simp [DictEntry.refKey,hkey]
  have a':¬ es.toList.any (·.refKey)=true:=by rw [a];exact Bool.false_ne_true
  rw [if_neg a']
  exact congrArg some e
theorem ObjM.look {h:Heap}{x dx C:Addr}{mA:Str->Option Value}(I:ObjM h x dx C mA):∃ od,PySem.W.InstAt h x (PySem.W.instObj C dx) C (some od)/\∀ name,PySem.W.lookIn name od=some (mA name) :=
 let ⟨od,ho,hl⟩:=lookIn_ns I.ns
 ⟨od,⟨I.obj,rfl,rfl,ho⟩,hl⟩
section
variable {prog : Program} {w : World} {A : Around} {E : Value → Shared → Prop} {s : Shared} {K : PySem.W.Frag} {x dx C f : Addr} {mA : Str → Option Value} {name : Str} {v : Value}
theorem get_map {expr:Bool}{Q:Value->Shared->Prop}(X:K.In s.heap)(I:ObjM s.heap x dx C mA)(hg:PySem.W.plainGet K C name=true)(hh:PySem.W.hasDictIn K C=true)
  (ha:PySem.W.findIn K (.ref C) name=some none) (hv:mA name=some v) (hv':PySem.W.handedIn v=true) (h:Q v { s with toks:=s.toks + 1 }) :
  wpAny (model prog w) A (getAttr (.ref x) name expr) Q E s:=by
 obtain ⟨od,J,hl⟩:=I.look
 exact PySem.W.get_value X J (PySem.W.plainGet_of hg).1 (PySem.W.findObj_own hh ha rfl (by rw [hl,hv])) hv' h
theorem get_meth {pl:Sem Bool}{Q:Value × List Value->Shared->Prop}(X:K.In s.heap)(I:ObjM s.heap x dx C mA)(hg:PySem.W.plainGet K C name=true)
  (hf:PySem.W.findIn K (.ref C) name=some (some (.ref f))) (ht:PySem.W.isFn K (.ref f)=true) (hv:mA name=none) (h:Q (.ref f,[.ref x]) s) :
  wpAny (model prog w) A (getMethod (.ref x) name pl) Q E s:=by
 obtain ⟨od,J,hl⟩:=I.look
 exact PySem.W.method_fn X J (PySem.W.plainGet_of hg).1 (PySem.W.plainGet_of hg).2 hf (beq_iff_eq.mp ht) (by show (PySem.W.lookIn name od).map (·.isSome)=some false;rw [hl,hv];rfl) h
theorem set_map {ns:List Str}{Q:Unit->Shared->Prop}(X:K.In s.heap)(I:ObjM s.heap x dx C mA)
  (hs:PySem.W.findIn K (.ref C) "__setattr__"=some (some (.builtin "object.__setattr__"))) (hp:PySem.W.plainOver K C=true) (ht:PySem.W.takerIn K C name=some none) (hh:PySem.W.hasDictIn K C=true)
  (hw:PySem.Within mA ns) (hsz:ns.length<=sizeLine)
  (h:∀ h',ObjM h' x dx C (fun y=>if y=name then some v else mA y)->Heap.SameBut dx s.heap h'->Q () { s with heap:=h',toks:=s.toks + 2 }) :
  wpAny (model prog w) A (setAttr (.ref x) name v) Q E s:=by
 obtain ⟨od,J,hl⟩:=I.look
 refine PySem.W.set_plain X J hs (PySem.W.osa_open (s:={ s with toks:=s.toks + 1 }) (r:=none) X J hp ht fun b=>?_)
 obtain ⟨cd,hc,hd'⟩:=PySem.W.any_some hh
 have hx:s.heap.get? x=some ⟨.ref C,some dx,.plain,#[]⟩:=I.obj
 refine wpAny_bind (wpAny_pure (wpAny_bind (wpAny_bind (wpAny_loadPart hx (wpAny_bind (PySem.W.Looks.here (s:={ s with toks:=s.toks + 1 }) (PySem.W.looks_clsIn X hc) ?_))))))
 rw [hd']
 refine wpAny_pure (a:=some dx) (wpAny_bind (wpAny_pure (wpAny_bind ?_)))
 refine wpAny_nsSet1 (s:={ s with toks:=s.toks + 1 }) I.ns fun h' hn2 hs2=>?_
 obtain ⟨oD,esD,epD,hoD,hdD,hcD⟩:=hn2.count (PySem.Within.cons name v hw)
 refine wpAny_bind (wpAny_lookBehind hoD (by rw [hdD];exact pastItsLine_dict (Nat.le_trans hcD (by rw [List.length_cons];omega))) ?_)
 exact wpAny_pure (h _ ⟨(hs2.2 _ (Ne.symm I.ne)).trans I.obj,hn2,I.ne⟩ hs2)
theorem make_map {R:Result->Shared->Prop}{vs:List Value}{kw:List (Str × Value)}(X:K.In s.heap)(hm:PySem.W.makesIn K C=true)
  (hi:PySem.W.findIn K (.ref C) "__init__"=some (some (.ref f))) (hf:PySem.W.typeIn K (.ref f)=some (.type "function"))
  (h:codeAny (model prog w) (A.under (.builtin "type.__call__" ⟨.ref C::vs,kw⟩)) (.call (.ref f) ⟨.ref (s.heap.objs.size + 1)::vs,kw⟩) (PySem.W.InitBack (s.heap.objs.size + 1) R)
   { s with heap:=(s.heap.push PySem.W.emptyDict).push (PySem.W.instObj C s.heap.objs.size) }) :
  codeAny (model prog w) A (.call (.ref C) ⟨vs,kw⟩) R s:=by
 obtain ⟨hh,g,d,t,os⟩:=s
 exact PySem.W.make_core (PySem.W.makes_of X hm) (PySem.W.looks_findIn X hi) (fun self=>PySem.W.bind_fn X self hf) (.inl rfl) h
end
def putF (f:Str)(v:V):List (Str × V)->List (Str × V)
 | []=>[(f,v)]
 | (g,x)::r=>if g=f then (g,v)::r else (g,x)::putF f v r
theorem lookup_putF (f g:Str)(v:V):∀ fs:List (Str × V),(putF f v fs).lookup g=if g=f then some v else fs.lookup g
 | []=>by
  show List.lookup g [(f,v)]=_
  by_cases h:g=f
  ·have hb:(g == f)=true:=beq_iff_eq.mpr h
   simp only [List.lookup,hb,if_pos h]
  ·have hb:(g == f)=false:=beq_eq_false_iff_ne.mpr h
   simp only [List.lookup,hb,if_neg h]
 | (k,x)::r=>by
  have ih:=lookup_putF f g v r
  rw [show putF f v ((k,x)::r)=(if k=f then (k,v)::r else (k,x)::putF f v r) from rfl]
  by_cases hk:k=f
  ·rw [if_pos hk]
   by_cases h:g=k
   ·have hb:(g == k)=true:=beq_iff_eq.mpr h
    simp only [List.lookup,hb,if_pos (h.trans hk)]
   ·have hb:(g == k)=false:=beq_eq_false_iff_ne.mpr h
    simp only [List.lookup,hb,if_neg (fun e:g=f=>h (e.trans hk.symm))]
  ·rw [if_neg hk]
   by_cases h:g=k
   ·have hb:(g == k)=true:=beq_iff_eq.mpr h
    simp only [List.lookup,hb,if_neg (fun e:g=f=>hk (h.symm.trans e))]
   ·have hb:(g == k)=false:=beq_eq_false_iff_ne.mpr h
    simp only [List.lookup,hb]
    exact ih
theorem keys_putF (f:Str)(v:V):∀ fs:List (Str × V),f∈(putF f v fs).map (·.1)/\∀ g,g∈fs.map (·.1)->g∈(putF f v fs).map (·.1)
 | []=>⟨by simp [putF],fun g h=>by simp at h⟩
 | (k,x)::r=>by
  obtain ⟨i1,i2⟩:=keys_putF f v r
  rw [show putF f v ((k,x)::r)=(if k=f then (k,v)::r else (k,x)::putF f v r) from rfl]
  by_cases hk:k=f
  ·rw [if_pos hk]
   subst hk
   exact ⟨by simp,fun g h=>by simpa using h⟩
  ·rw [if_neg hk]
   refine ⟨?_,fun g h=>?_⟩
   ·rw [List.map_cons]
    exact List.mem_cons_of_mem _ i1
   ·rw [List.map_cons] at h ⊢
    rcases List.mem_cons.mp h with e | e
    ·exact List.mem_cons.mpr (.inl e)
    ·exact List.mem_cons_of_mem _ (i2 g e)
theorem length_putF (f:Str)(v:V):∀ fs:List (Str × V),(putF f v fs).length<=fs.length + 1
 | []=>by simp [putF]
 | (k,x)::r=>by
  have ih:=length_putF f v r
  rw [show putF f v ((k,x)::r)=(if k=f then (k,v)::r else (k,x)::putF f v r) from rfl]
  by_cases hk:k=f
  ·rw [if_pos hk,List.length_cons,List.length_cons];omega
  ·rw [if_neg hk,List.length_cons,List.length_cons];omega
theorem RelO.some_of {v:V}{o:Option Value}(r:RelO (some v) o):∃ u,o=some u/\RelV v u:=by
 cases o with
 | none=>exact (show False from r).elim
 | some u=>exact ⟨u,rfl,r⟩
theorem RelO.none_of {o:Option Value}(r:RelO none o):o=none:=by
 cases o with
 | none=>rfl
 | some u=>exact (show False from r).elim
theorem handed_of {v:V}{u:Value}(r:RelV v u):PySem.W.handedIn u=true:=by
 cases v with
 | non=>cases (show u=Value.none from r);rfl
 | bl b=>cases (show u=Value.bool b from r);rfl
 | int i=>obtain ⟨t,e⟩:=(show ∃ t,u=Value.int i t from r);cases e;rfl
 | str x=>obtain ⟨t,e⟩:=(show ∃ t,u=Value.str x t from r);cases e;rfl
 | byt b=>obtain ⟨t,e⟩:=(show ∃ t,u=Value.bytes b t from r);cases e;rfl
 | flt b=>obtain ⟨t,e⟩:=(show ∃ t,u=Value.float b t from r);cases e;rfl
 | ref a=>cases (show u=Value.ref a from r);rfl
 | ty n=>cases (show u=Value.type n from r);rfl
section
variable {P : Program} {w : World} {H H' : Hp} {h h' : Heap} {a C dx : Addr} {fs fs' : List (Str × V)}
theorem ins_get (hok:HOk P w H h)(e:H a=some (.ins C dx fs)):∃ mA,ObjM h a dx C mA/\(∀ f,RelO (fs.lookup f) (mA f))/\PySem.Within mA (fs.map (·.1))/\fs.length<=1000/\H dx=some (.own a):=by
 obtain ⟨d,z,ne,ob,mA,n,r,q⟩:=(show ObjOk P w H h a (.ins C dx fs) from hok a _ e)
 exact ⟨mA,⟨ob,n,ne⟩,r,q,z,d⟩
end
structure Cls (K:PySem.W.Frag) (C:Addr):Prop where
 pg:PySem.W.plainGet K C Str.empty=true
 hd:PySem.W.hasDictIn K C=true
 po:PySem.W.plainOver K C=true
 sa:PySem.W.findIn K (.ref C) "__setattr__"=some (some (.builtin "object.__setattr__"))
theorem Cls.get {K:PySem.W.Frag}{C:Addr}(c:Cls K C)(f:Str):PySem.W.plainGet K C f=true:=c.pg
def NoAttr (K:PySem.W.Frag)(C:Addr)(f:Str):Prop:=PySem.W.findIn K (.ref C) f=some none
theorem NoAttr.taker {K:PySem.W.Frag}{C:Addr}{f:Str}(n:NoAttr K C f):PySem.W.takerIn K C f=some none:=by
 unfold PySem.W.takerIn
 rw [show PySem.W.findIn K (.ref C) f=some none from n]
 rfl
structure Meth (K:PySem.W.Frag) (C:Addr) (m:Str) (f:Addr):Prop where
 at_:PySem.W.findIn K (.ref C) m=some (some (.ref f))
 fn:PySem.W.isFn K (.ref f)=true
 kp:PySem.W.keepIn K (.ref f)=true
section
variable {X : Cx} {pins : List (Addr × Obj)} {σ : St} {H : Hp} {s : Shared} {a C dx : Addr} {fs : List (Str × V)} {f : Str} {v : V} {A : Around} {E : Value → Shared → Prop}
theorem getattr_ok {b:Bool}{Q:Value->Shared->Prop}(I:Inv X pins σ H s)(e:H a=some (.ins C dx fs))(c:Cls X.K C)(n:NoAttr X.K C f)(l:fs.lookup f=some v)
  (h:∀ u s',Inv X pins σ H s'->RelV v u->Q u s'):wpAny (model X.prog X.w) A (getAttr (.ref a) f b) Q E s:=by
 obtain ⟨mA,O,r,_,_,_⟩:=ins_get I.hok e
 obtain ⟨u,hu,ru⟩:=RelO.some_of (v:=v) (o:=mA f) (by rw [←l];exact r f)
 exact get_map I.kIn O (c.get f) c.hd n hu (handed_of ru) (h u _ (I.tok _) ru)
theorem getmeth_ok {m:Str}{g:Addr}{pl:Sem Bool}{Q:Value × List Value->Shared->Prop}(I:Inv X pins σ H s)(e:H a=some (.ins C dx fs))(c:Cls X.K C)(k:Meth X.K C m g)(l:fs.lookup m=none)
  (h:Q (.ref g,[.ref a]) s):wpAny (model X.prog X.w) A (getMethod (.ref a) m pl) Q E s:=by
 obtain ⟨mA,O,r,_,_,_⟩:=ins_get I.hok e
 have hn:mA m=none:=RelO.none_of (by rw [←l];exact r m)
 exact get_meth I.kIn O (c.get m) k.at_ k.fn hn h
theorem setattr_ok {y:V}{u:Value}{Q:Unit->Shared->Prop}(I:Inv X pins σ H s)(e:H a=some (.ins C dx fs))(c:Cls X.K C)(n:NoAttr X.K C f)(hl:fs.length < 1000)(ry:RelV y u)
  (h:∀ s',Inv X pins σ (upd H a (.ins C dx (putF f y fs))) s'->Q () s'):wpAny (model X.prog X.w) A (setAttr (.ref a) f u) Q E s:=by
 obtain ⟨mA,O,r,wi,_,ho⟩:=ins_get I.hok e
 have hz:(fs.map (·.1)).length<=sizeLine:=by rw [List.length_map,sizeLine_eq];omega
 refine set_map I.kIn O c.sa c.po n.taker c.hd wi hz fun h' O' sb=>h _ ?_
 have hd:∃ o,h'.get? dx=some o:=let ⟨o,_,_,e',_⟩:=O'.ns;⟨o,e'⟩
 refine I.write (x:=a) (e:=dx) (by rw [e];exact True.intro) (.inr ho) (fun b q hb z=>(sb.2 b hb).trans z) hd ?_
 refine ⟨by rw [upd_ne O.ne];exact ho,?_,O.ne,O'.obj,_,O'.ns,fun g=>?_,fun g hg=>?_⟩
 ·have:=length_putF f y fs;omega
 ·show RelO ((putF f y fs).lookup g) (if g=f then some u else mA g)
  rw [lookup_putF]
  by_cases q:g=f
  ·rw [if_pos q,if_pos q];exact ry
  ·rw [if_neg q,if_neg q];exact r g
 ·by_cases q:g=f
  ·rw [q];exact (keys_putF f y fs).1
  ·refine (keys_putF f y fs).2 g (wi g fun z=>hg ?_)
   show (if g=f then some u else mA g)=none
   rw [if_neg q];exact z
theorem Inv.made (I:Inv X pins σ H s):Inv X pins σ (upd (upd H s.heap.objs.size (.own (s.heap.objs.size + 1))) (s.heap.objs.size + 1) (.ins C s.heap.objs.size []))
  { s with heap:=(s.heap.push PySem.W.emptyDict).push (PySem.W.instObj C s.heap.objs.size) }:=by
 have e1:(s.heap.push PySem.W.emptyDict).get? s.heap.objs.size=some PySem.W.emptyDict:=Heap.get?_push_size s.heap rfl
 have e2:((s.heap.push PySem.W.emptyDict).push (PySem.W.instObj C s.heap.objs.size)).get? (s.heap.objs.size + 1)=some (PySem.W.instObj C s.heap.objs.size):=by
  have:=Heap.get?_push_size (s.heap.push PySem.W.emptyDict) (o:=PySem.W.instObj C s.heap.objs.size) rfl
  rwa [Heap.size_push] at this
 have e3:(s.heap.push PySem.W.emptyDict).Ns s.heap.objs.size (fun _=>none):=⟨PySem.W.emptyDict,#[],_,e1,rfl,(fun e he=>absurd he (by simp)),fun _=>rfl⟩
 have I1:=I.laid (a:=s.heap.objs.size) (o:=.own (s.heap.objs.size + 1)) (h':=s.heap.push PySem.W.emptyDict) (t':=s.toks) (fun b u q=>Heap.get?_push_of_some _ q) (Nat.le_refl _) ⟨_,e1⟩
 refine I1.laid (a:=s.heap.objs.size + 1) (o:=.ins C s.heap.objs.size []) (t':=s.toks) (fun b u q=>Heap.get?_push_of_some _ q) (Nat.le_of_eq (Heap.size_push _ _)) ?_
 have ne:s.heap.objs.size≠s.heap.objs.size + 1:=Nat.ne_of_lt (Nat.lt_succ_self _)
 refine ⟨by rw [upd_ne ne,upd_same],Nat.zero_le _,ne,e2,fun _=>none,(Heap.Ns1.of_empty e3).at fun o q=>Heap.get?_push_of_some _ q,fun _=>True.intro,fun y hy=>absurd rfl hy⟩
theorem attr_of {prog:Program}{w:World}{env:Env}{e:Expr}{f:Str}{pos:Pos}{s:Shared}{Q:Value->Shared->Prop}(hb:attributeBase e f env (eval e env)=eval e env)
  (h:wpAny (model prog w) A (eval e env) (fun o s₁=>wpAny (model prog w) A (getAttr o f true) Q E s₁) E s):wpAny (model prog w) A (eval (.Attribute e f pos) env) Q E s :=
 Attribute_any_ h (by rw [arm_eval_Attribute,hb])
end
def tFld (K:PySem.W.Frag)(ta:TE)(f:Str):TE:=fun σ H Q=>ta σ H fun x H1=>∃ a C dx fs v,x=.ref a/\H1 a=some (.ins C dx fs)/\Cls K C/\NoAttr K C f/\fs.lookup f=some v/\Q v H1
def sFld (K:PySem.W.Frag)(ta tv:TE)(f:Str):TS:=fun D σ H=>tv σ H fun y H1=>ta σ H1 fun x H2=>∃ a C dx fs,x=.ref a/\H2 a=some (.ins C dx fs)/\Cls K C/\NoAttr K C f/\fs.length < 1000 /\
 D.nx σ (upd H2 a (.ins C dx (putF f y fs)))
def InOp (X:Cx)(op:Operator)(rd:V->V->Hp->VK->Prop):Prop :=
 ∀ (pins:List (Addr × Obj)) (s:Shared) (σ:St) (H:Hp) (x y:V) (u v:Value) (Q:VK),Inv X pins σ H s->RelV x u->RelV y v->rd x y H Q->wpAny (model X.prog X.w) X.A (inplaceOp op u v) (EP X pins σ Q) X.xe s
def sFldAug (K:PySem.W.Frag)(ta tv:TE)(rd:V->V->Hp->VK->Prop)(f:Str):TS:=fun D σ H=>ta σ H fun x H1=>∃ a C dx fs v,x=.ref a/\H1 a=some (.ins C dx fs)/\Cls K C/\NoAttr K C f/\fs.lookup f=some v /\
 tv σ H1 fun y H2=>rd v y H2 fun z H3=>∃ dx' fs',H3 a=some (.ins C dx' fs')/\fs'.length < 1000/\D.nx σ (upd H3 a (.ins C dx' (putF f z fs')))
section
variable {X : Cx} {o e value : Expr} {f : Str} {pos pos' tpos : Pos} {ta tv : TE}
theorem pe_fld (he:PE X e ta)(hb:attributeBase e f X.env (eval e X.env)=eval e X.env):PE X (.Attribute e f pos) (tFld X.K ta f):=by
 intro pins s σ H Q I h
 refine attr_of hb (thn (he pins s σ H _ I h) fun u s1 ⟨x,H1,I1,rx,a,C,dx,fs,v,ex,ea,c,n,l,q⟩=>?_)
 subst ex
 obtain rfl:u=Value.ref a:=rx
 exact getattr_ok I1 ea c n l fun u' s2 I2 ru=>⟨v,H1,I2,ru,q⟩
theorem ps_fld (ha:PE X o ta)(hv:PE X value tv)(hs:swapsWith value (some (.Attribute o f pos')) pos.line X.env=pure false):PS X (.Assign [.Attribute o f pos'] value pos) (sFld X.K ta tv f):=by
 intro pins s σ H D I h
 refine plainObj_wpAny_Assign_Attribute (thn (hv pins s σ H _ I h) fun u s1 ⟨y,H1,I1,ry,q⟩=>thn (ha pins s1 σ H1 _ I1 q) fun ov s2 ⟨x,H2,I2,rx,a,C,dx,fs,ex,ea,c,n,l,q2⟩=>?_) hs
 subst ex
 obtain rfl:ov=Value.ref a:=rx
 exact setattr_ok I2 ea c n l ry fun s3 I3=>⟨σ,_,I3,q2⟩
theorem ps_fldaug {op:Operator}{rd:V->V->Hp->VK->Prop}(ha:PE X o ta)(hv:PE X value tv)(hop:InOp X op rd):PS X (.AugAssign (.Attribute o f tpos) op value pos) (sFldAug X.K ta tv rd f):=by
 intro pins s σ H D I h
 refine wpAny_AugAssign_AttributeAny (thn (ha pins s σ H _ I h) fun ov s1 ⟨x,H1,I1,rx,a,C,dx,fs,v,ex,ea,c,n,l,q⟩=>?_)
 subst ex
 obtain rfl:ov=Value.ref a:=rx
 refine getattr_ok I1 ea c n l fun u s2 I2 ru=>thn (hv pins s2 σ H1 _ I2 q) fun w3 s3 ⟨y,H2,I3,ry,q3⟩=>thn (hop pins s3 σ H2 v y u w3 _ I3 ru ry q3) fun w4 s4 ⟨z,H3,I4,rz,dx',fs',ea',l',q4⟩=>?_
 exact setattr_ok I4 ea' c n l' rz fun s5 I5=>⟨σ,_,I5,q4⟩
def rAdd:V->V->Hp->VK->Prop:=fun x y H Q=>∃ i j,x=.int i/\y=.int j/\Q (.int (i + j)) H
theorem in_add:InOp X .Add rAdd:=by
 rintro pins s σ H x y u v Q I rx ry ⟨i,j,rfl,rfl,q⟩
 obtain ⟨t,rfl⟩:=(show ∃ t,u=Value.int i t from rx)
 obtain ⟨t',rfl⟩:=(show ∃ t',v=Value.int j t' from ry)
 exact PyProof.Rows.iadd_int ⟨.int (i + j),H,I.tok _,⟨_,rfl⟩,q⟩
end
section
variable {X : Cx} {pins : List (Addr × Obj)} {σ : St} {H : Hp} {s : Shared} {A : Around} {E : Value → Shared → Prop} {Q : Value → Shared → Prop} {c : Value} {b : Bool}
end
end L2
namespace L2
open PySem PySem.Spec PyProof.Rows
structure Room (k:Nat) (A:Around):Prop where
 hd:A.handled=none
 dp:A.depth + 3 * k + 5 < recursionLimit
 un:A.units + 16 * k + 200 < cLine
 gd:A.guards=some []
theorem Room.mono {j k:Nat}{A:Around}(r:Room k A)(h:j<=k):Room j A:=⟨r.hd,by have:=r.dp;omega,by have:=r.un;omega,r.gd⟩
theorem Room.deeper {k:Nat}{A:Around}(r:Room (k + 1) A)(env:Env):Room k (A.deeper env) :=
 ⟨r.hd,by have:=r.dp;show A.depth + 1 + 3 * k + 5 < _;omega,by have:=r.un;show A.units + 3 + 16 * k + 200 < _;omega,r.gd⟩
theorem make_depth {A:Around}{C:Addr}{us:List Value}{kw:List (Str × Value)}:(A.under (.builtin "type.__call__" ⟨.ref C::us,kw⟩)).depth=A.depth + 1:=by
 first | rfl | simp [Around.under,Code.weight,Code.isCreation,Code.isGuard,Code.isCaller,Code.frames,Code.isFrame,guardIds]
theorem make_units {A:Around}{C:Addr}{us:List Value}{kw:List (Str × Value)}:(A.under (.builtin "type.__call__" ⟨.ref C::us,kw⟩)).units=A.units + 1:=by
 first | rfl | simp [Around.under,Code.cUnits,Code.frames,Code.isFrame]
theorem make_guards {A:Around}{C:Addr}{us:List Value}{kw:List (Str × Value)}:(A.under (.builtin "type.__call__" ⟨.ref C::us,kw⟩)).guards=A.guards:=by
 first | rfl | simp [Around.under,pushGuards,Code.guards,Code.isGuard,guardIds]
theorem Room.make {k:Nat}{A:Around}(r:Room (k + 1) A)(C:Addr)(us:List Value)(kw:List (Str × Value)):Room k (A.under (.builtin "type.__call__" ⟨.ref C::us,kw⟩)) :=
 ⟨r.hd,by have:=r.dp;rw [make_depth];omega,by have:=r.un;rw [make_units];omega,by rw [make_guards];exact r.gd⟩
theorem Room.depth {k:Nat}{A:Around}(r:Room k A):A.depth < recursionLimit:=by have:=r.dp;omega
theorem Room.units {k:Nat}{A:Around}(r:Room k A):A.units + 64 < cLine:=by have:=r.un;omega
def tNil:TA:=fun _ H Q=>Q [] H
def tCons (ta:TE)(tr:TA):TA:=fun σ H Q=>ta σ H fun x H1=>tr σ H1 fun xs H2=>Q (x::xs) H2
section
variable {X : Cx} {e : Expr} {es : List Expr} {te : TE} {t : TA} {pos : Pos}
theorem pa_nil:PA X [] tNil:=fun _ _ _ _ H Q I h=>Calls.spliced_nil ⟨[],H,I,.nil,h⟩
theorem pa_cons (ha:PE X e te)(hr:PA X es t)(hs:starEach (e::es) X.env=(false,eval e X.env)::starEach es X.env:=by rfl):PA X (e::es) (tCons te t):=by
 intro pos pins s σ H Q I h
 rw [hs]
 show wpAny _ _ (spliced ((false,eval e X.env)::backTo pos (starEach es X.env))) _ _ s
 refine Calls.spliced_cons (thn (ha pins s σ H _ I h) fun u s1 ⟨x,H1,I1,r1,q1⟩=>?_)
 exact thn (hr pos pins s1 σ H1 _ I1 q1) fun us s2 ⟨xs,H2,I2,r2,q2⟩=>⟨x::xs,H2,I2,.cons r1 r2,q2⟩
def tTup (t:TA):TE:=fun σ H Q=>t σ H fun xs H1=>xs.length<=sizeLine/\∀ p,H1 p=none->Q (.ref p) (upd H1 p (.tup xs))
def tLst (t:TA):TE:=fun σ H Q=>t σ H fun xs H1=>xs.length<=sizeLine/\∀ p,H1 p=none->Q (.ref p) (upd H1 p (.lst xs))
theorem pe_tup {x1}(h:PA X es t):PE X (.Tuple es x1 pos) (tTup t):=by
 intro pins s σ H Q I hq
 refine wpAny_Tuple_spliced (thn (h pos pins s σ H _ I hq) fun us s1 ⟨xs,H1,I1,r,z,q⟩=>⟨by rw [←r.length];exact z,?_⟩)
 have hf:H1 s1.heap.objs.size=none:=I1.hok.fresh (Nat.le_refl _)
 refine ⟨.ref s1.heap.objs.size,upd H1 s1.heap.objs.size (.tup xs),I1.laid (t':=s1.toks) (fun b u e=>Heap.get?_push_of_some _ e) (Nat.le_refl _) ?_,rfl,q _ hf⟩
 exact ⟨z,us,r,⟨_,Heap.get?_push_size _ rfl,rfl,_,rfl⟩,_,Heap.get?_push_size _ rfl,rfl⟩
theorem pe_lst (h:PA X es t):PE X (.List es pos) (tLst t):=by
 intro pins s σ H Q I hq
 refine wpAny_List_spliced (thn (h pos pins s σ H _ I hq) fun us s1 ⟨xs,H1,I1,r,z,q⟩=>⟨by rw [←r.length];exact z,?_⟩)
 have hf:H1 s1.heap.objs.size=none:=I1.hok.fresh (Nat.le_refl _)
 refine ⟨.ref s1.heap.objs.size,upd H1 s1.heap.objs.size (.lst xs),I1.laid (t':=s1.toks) (fun b u e=>Heap.get?_push_of_some _ e) (Nat.le_refl _) ?_,rfl,q _ hf⟩
 exact ⟨z,us,0,r,Heap.get?_push_size _ rfl⟩
end
abbrev Sp:=List V->Hp->VK->XK->Prop
abbrev CXT:=List Env->Hp->Shared->XK->Value->Shared->Prop
structure Env0 (P:Program) (w:World) (K:PySem.W.Frag) (mg:Str->Option Value) (base:Heap) (A:Around) (outer:List Env) (s:Shared) (H:Hp):Prop where
 frames:A.frames=some outer
 mod:Mod K mg base
 bs:∀ b o,base.get? b=some o->s.heap.get? b=some o/\H b=none
 bsz:base.objs.size<=s.heap.objs.size
 funs:s.heap.FunFrames base outer
 frf:∀ b∈frs outer,H b=none
 hok:HOk P w H s.heap
 bare:AllBare s.gens
def CE (outer:List Env)(P:Program)(w:World)(H:Hp)(s:Shared)(Q:VK)(u:Value)(s':Shared):Prop :=
 ∃ v H',s'.os=s.os/\AllBare s'.gens/\Un (frs outer) [] H H' s.heap s'.heap/\HOk P w H' s'.heap/\RelV v u/\Q v H'
def CR (CX:CXT)(outer:List Env)(P:Program)(w:World)(H:Hp)(s:Shared)(Q:VK)(E:XK)(r:Result)(s':Shared):Prop :=
 match r with
 | .ok (.ret u)=>CE outer P w H s Q u s'
 | .ok _=>False
 | .error e=>CX outer H s E e s'
structure FnOk (P:Program) (w:World) (K:PySem.W.Frag) (mg:Str->Option Value) (base:Heap) (CX:CXT) (k:Nat) (f:Addr) (fd:FuncData) (ps:List Str) (sp:Sp):Prop where
 len:∀ vs H Q E,sp vs H Q E->vs.length=ps.length
 run:∀ (A:Around) (outer:List Env) (s:Shared) (H:Hp) (args:Args) (us:List Value) (vs:List V) (Q:VK) (E:XK),Room k A->Env0 P w K mg base A outer s H->BindsTo s fd args (ps.zip us)->Vals vs us->sp vs H Q E ->
  codeAny (model P w) A (.call (.ref f) args) (CR CX outer P w H s Q E) s
theorem Env0.make {P:Program}{w:World}{K:PySem.W.Frag}{mg:Str->Option Value}{base:Heap}{A:Around}{outer:List Env}{s:Shared}{H:Hp}(e:Env0 P w K mg base A outer s H)(C:Addr)(us:List Value)(kw:List (Str × Value)) :
  Env0 P w K mg base (A.under (.builtin "type.__call__" ⟨.ref C::us,kw⟩)) outer s H:=⟨by first | exact e.frames | (simpa [Around.under,Code.envs,Code.isFrame,pushEnvs] using e.frames),e.mod,e.bs,e.bsz,e.funs,e.frf,e.hok,e.bare⟩
section
variable {X : Cx} {pins : List (Addr × Obj)} {σ : St} {H : Hp} {s s' : Shared}
theorem Inv.env0 (I:Inv X pins σ H s):Env0 X.prog X.w X.K X.mg X.base X.A X.stack s H :=
 ⟨I.ok.frames,I.ok.mod,I.bs,Nat.le_trans I.ok.bsz I.sz,I.stack,I.stkFree,I.hok,I.bare⟩
theorem Inv.after {Q:VK}{u:Value}(I:Inv X pins σ H s)(h:CE X.stack X.prog X.w H s Q u s'):EP X pins σ Q u s':=by
 obtain ⟨v,H',os,bare,un,hok,r,q⟩:=h
 obtain ⟨hh,g,d,t,os'⟩:=s'
 obtain rfl:os'=s.os:=os
 exact ⟨v,H',I.call (h':=hh) (g':=g) (d':=d) (t':=t) (ch:=[]) un hok bare (fun b z=>absurd z (by simp)),r,q⟩
end
def tCall (sp:Sp)(dvs:List V)(E:XK)(t:TA):TE:=fun σ H Q=>t σ H fun vs H1=>sp (vs++dvs) H1 Q E
def tMeth (C:Addr)(m:Str)(sp:Sp)(dvs:List V)(E:XK)(ta:TE)(t:TA):TE:=fun σ H Q=>ta σ H fun x H1=>∃ a dx fs,x=.ref a/\H1 a=some (.ins C dx fs)/\fs.lookup m=none /\
 t σ H1 fun vs H2=>sp (x::(vs++dvs)) H2 Q E
def tMake (C:Addr)(sp:Sp)(dvs:List V)(E:XK)(t:TA):TE:=fun σ H Q=>t σ H fun vs H1=>∀ x dx,H1 x=none->H1 dx=none->dx≠x ->
 sp (.ref x::(vs++dvs)) (upd (upd H1 dx (.own x)) x (.ins C dx [])) (fun v H2=>v=.non/\Q (.ref x) H2) E
def Binds (K:PySem.W.Frag)(fd:FuncData)(ps:List Str)(ds:List Value):Prop :=
 ∀ (s:Shared) (us:List Value),K.In s.heap->(us++ds).length=ps.length->BindsTo s fd ⟨us,[]⟩ (ps.zip (us++ds))
theorem Binds.all {K:PySem.W.Frag}{fd:FuncData}{ps:List Str}(h:∀ us:List Value,us.length=ps.length->bindArgs fd ⟨us,[]⟩=pure (ps.zip us)):Binds K fd ps []:=fun s us _ hl=>by
 rw [List.append_nil] at hl ⊢
 exact .of_eq (h us hl)
def Passes (CX:CXT)(X:Cx)(E:XK):Prop:=∀ (pins:List (Addr × Obj)) (σ:St) (H:Hp) (s:Shared) (e:Value) (s':Shared),Inv X pins σ H s->CX X.stack H s E e s'->X.xe e s'
section
variable {X : Cx} {CX : CXT} {k : Nat} {f C : Addr} {fd : FuncData} {ps : List Str} {sp : Sp} {dvs : List V} {ds : List Value} {E : XK} {x m : Str} {p pos apos : Pos} {e o : Expr} {es : List Expr} {ta : TE} {t : TA}
theorem run_fn {pins:List (Addr × Obj)}{σ:St}{H:Hp}{s:Shared}{Q:VK}{us:List Value}{vs:List V}(F:FnOk X.prog X.w X.K X.mg X.base CX k f fd ps sp)(hr:Room k X.A)(hb:Binds X.K fd ps ds)(hd:Vals dvs ds)(hx:Passes CX X E)
  (I:Inv X pins σ H s) (r:Vals vs us) (h:sp (vs++dvs) H Q E):wpAny (model X.prog X.w) X.A (call (.ref f) us) (EP X pins σ Q) X.xe s:=by
 have r2:Vals (vs++dvs) (us++ds):=r.append hd
 have hl:(us++ds).length=ps.length:=by rw [←r2.length];exact F.len _ _ _ _ h
 refine wpAny_call (codeAny_mono (F.run X.A X.stack s H ⟨us,[]⟩ (us++ds) (vs++dvs) Q E hr I.env0 (hb s us I.kIn hl) r2 h) fun r s' hq=>?_)
 cases r with
 | error e=>exact hx pins σ H s e s' I hq
 | ok fl =>
  cases fl with
  | ret u=>exact I.after hq
  | next=>exact False.elim hq
  | brk=>exact False.elim hq
  | cont=>exact False.elim hq
theorem pe_call (F:FnOk X.prog X.w X.K X.mg X.base CX k f fd ps sp)(hr:Room k X.A)(hg:Gl X x)(hm:X.mg x=some (.ref f))(hk:PySem.W.keepIn X.K (.ref f)=true)(hb:Binds X.K fd ps ds)(hd:Vals dvs ds)(hx:Passes CX X E)
  (ha:PA X (e::es) t) (hdb:(x == ("__debug__":Str))=false:=by decide) (he:starEach (e::es) X.env=(false,eval e X.env)::starEach es X.env:=by rfl) (hpl:(backTo pos (starEach es X.env)).any (·.1)=false:=by rfl) :
  PE X (.Call (.Name x p) (e::es) [] pos) (tCall sp dvs E t):=by
 intro pins s σ H Q I h
 refine wpAny_Call_Name_kw (ld_glob I hg hm ?_ hdb)
 refine PySem.W.callWith_K (h₀:=X.base) I.ok.mod.kin hk (thn (ha pos pins s σ H _ I h) fun us s1 ⟨vs,H1,I1,r,q⟩=>⟨I1.kIn,?_⟩) he hpl
 exact run_fn F hr hb hd hx I1 r q
theorem pe_meth {pl:Sem Bool}(he:PE X o ta)(c:Cls X.K C)(hm:Meth X.K C m f)(F:FnOk X.prog X.w X.K X.mg X.base CX k f fd ps sp)(hr:Room k X.A)(hb:Binds X.K fd ps ds)(hd:Vals dvs ds)(hx:Passes CX X E)(ha:PA X (e::es) t)
  (hst:starEach (e::es) X.env=(false,eval e X.env)::starEach es X.env:=by rfl) (hpl:(backTo pos (starEach es X.env)).any (·.1)=false:=by rfl)
  (ht:eval (.Call (.Attribute o m apos) (e::es) [] pos) X.env=(do
   let ov ←eval o X.env
   standAt apos.atName
   let (f,first) ←holding [ov] (getMethod ov m pl)
   callWith pos f first (backTo pos (starEach (e::es) X.env)) (backToKw pos (keywordEach [] X.env))):=by rfl) :
  PE X (.Call (.Attribute o m apos) (e::es) [] pos) (tMeth C m sp dvs E ta t):=by
 intro pins s σ H Q I h
 refine PySem.W.methodCall_KW (pl:=pl) (thn (he pins s σ H _ I h) fun u s1 ⟨x,H1,I1,rx,a,dx,fs,ex,ea,l,q⟩=>?_) ht
 subst ex
 obtain rfl:u=Value.ref a:=rx
 refine getmeth_ok I1 ea c hm l ?_
 refine PySem.W.callWith_K (first:=[.ref a]) (h₀:=X.base) I.ok.mod.kin hm.kp (thn (ha pos pins s1 σ H1 _ I1 q) fun us s2 ⟨vs,H2,I2,r,q2⟩=>⟨I2.kIn,?_⟩) hst hpl
 exact run_fn (us:=.ref a::us) (vs:=.ref a::vs) F hr hb hd hx I2 (.cons rfl r) q2
theorem pe_meth0 {pl:Sem Bool}(he:PE X o ta)(c:Cls X.K C)(hm:Meth X.K C m f)(F:FnOk X.prog X.w X.K X.mg X.base CX k f fd ps sp)(hr:Room k X.A)(hb:Binds X.K fd ps ds)(hd:Vals dvs ds)(hx:Passes CX X E)
  (ht:eval (.Call (.Attribute o m apos) [] [] pos) X.env=(do
   let ov ←eval o X.env
   standAt apos.atName
   let (f,first) ←holding [ov] (getMethod ov m pl)
   callWith pos f first (backTo pos (starEach [] X.env)) (backToKw pos (keywordEach [] X.env))):=by rfl) :
  PE X (.Call (.Attribute o m apos) [] [] pos) (tMeth C m sp dvs E ta tNil):=by
 intro pins s σ H Q I h
 refine PySem.W.methodCall_KW (pl:=pl) (thn (he pins s σ H _ I h) fun u s1 ⟨x,H1,I1,rx,a,dx,fs,ex,ea,l,q⟩=>?_) ht
 subst ex
 obtain rfl:u=Value.ref a:=rx
 refine getmeth_ok I1 ea c hm l ?_
 exact PySem.W.callWith_K0 (first:=[.ref a]) I1.kIn hm.kp (run_fn (us:=[.ref a]) (vs:=[.ref a]) F hr hb hd hx I1 (.cons rfl .nil) q)
structure Mk (K:PySem.W.Frag) (C f:Addr):Prop where
 makes:PySem.W.makesIn K C=true
 init:PySem.W.findIn K (.ref C) "__init__"=some (some (.ref f))
 fn:PySem.W.isFn K (.ref f)=true
 kp:PySem.W.keepIn K (.ref C)=true
theorem run_make {pins:List (Addr × Obj)}{σ:St}{H:Hp}{s:Shared}{Q:VK}{us:List Value}{vs:List V}(M:Mk X.K C f)(F:FnOk X.prog X.w X.K X.mg X.base CX k f fd ps sp)(hr:Room (k + 1) X.A)(hb:Binds X.K fd ps ds)(hd:Vals dvs ds)
  (hx:Passes CX X E) (I:Inv X pins σ H s) (r:Vals vs us)
  (h:∀ x dx,H x=none->H dx=none->dx≠x->sp (.ref x::(vs++dvs)) (upd (upd H dx (.own x)) x (.ins C dx [])) (fun v H2=>v=.non/\Q (.ref x) H2) E) :
  wpAny (model X.prog X.w) X.A (call (.ref C) us) (EP X pins σ Q) X.xe s:=by
 have hq:=h (s.heap.objs.size + 1) s.heap.objs.size (I.hok.fresh (Nat.le_succ _)) (I.hok.fresh (Nat.le_refl _)) (Nat.ne_of_lt (Nat.lt_succ_self _))
 have I2:=Inv.made (C:=C) I
 have r2:Vals (V.ref (s.heap.objs.size + 1)::(vs++dvs)) (Value.ref (s.heap.objs.size + 1)::(us++ds)):=.cons rfl (r.append hd)
 have hl:(Value.ref (s.heap.objs.size + 1)::us++ds).length=ps.length:=by
  have e:=r2.length
  rw [F.len _ _ _ _ hq] at e
  exact e.symm
 refine wpAny_call (make_map (f:=f) I.kIn M.makes M.init (beq_iff_eq.mp M.fn) (codeAny_mono (F.run _ X.stack _ _ ⟨Value.ref (s.heap.objs.size + 1)::us,[]⟩ (Value.ref (s.heap.objs.size + 1)::(us++ds)) _ _ E (hr.make C us [])
  (I2.env0.make C us []) (hb _ (Value.ref (s.heap.objs.size + 1)::us) I2.kIn hl) r2 hq) fun r s' hq'=>?_))
 cases r with
 | error e=>exact hx pins σ _ _ e s' I2 hq'
 | ok fl =>
  cases fl with
  | ret u =>
   obtain ⟨v,H',I3,rv,ev,q3⟩:=I2.after hq'
   subst ev
   exact ⟨rv,⟨V.ref (s.heap.objs.size + 1),H',I3,rfl,q3⟩⟩
  | next=>exact False.elim hq'
  | brk=>exact False.elim hq'
  | cont=>exact False.elim hq'
theorem pe_make (M:Mk X.K C f)(F:FnOk X.prog X.w X.K X.mg X.base CX k f fd ps sp)(hr:Room (k + 1) X.A)(hg:Gl X x)(hm:X.mg x=some (.ref C))(hb:Binds X.K fd ps ds)(hd:Vals dvs ds)(hx:Passes CX X E)
  (ha:PA X (e::es) t) (hdb:(x == ("__debug__":Str))=false:=by decide) (he:starEach (e::es) X.env=(false,eval e X.env)::starEach es X.env:=by rfl) (hpl:(backTo pos (starEach es X.env)).any (·.1)=false:=by rfl) :
  PE X (.Call (.Name x p) (e::es) [] pos) (tMake C sp dvs E t):=by
 intro pins s σ H Q I h
 refine wpAny_Call_Name_kw (ld_glob I hg hm ?_ hdb)
 refine PySem.W.callWith_K (h₀:=X.base) I.ok.mod.kin M.kp (thn (ha pos pins s σ H _ I h) fun us s1 ⟨vs,H1,I1,r,q⟩=>⟨I1.kIn,?_⟩) he hpl
 exact run_make M F hr hb hd hx I1 r q
end
section
variable {X : Cx} {CX : CXT} {k : Nat} {f C : Addr} {fd : FuncData} {ps ks : List Str} {sp : Sp} {E : XK} {x m : Str} {p pos apos kpos : Pos} {e o : Expr} {es : List Expr} {kws : List Keyword} {te ta : TE} {t tk : TA} {nm : Option Str}
variable {g : List Value → List Value → List Value} {gV : List V → List V → List V}
end
structure FnScope (N P:List Str) (sc:Scope):Prop where
 kind:sc.kind=.function
 co:sc.isCoroutine=false
 gen:sc.isGenerator=false
 nd:N.Nodup
 pre:N.take P.length=P
 par:∀ x∈P,sc.names.lookup x=some .local\/sc.names.lookup x=some .cell
 nofree:∀ y∈sc.names,y.2≠.free
theorem bindL_out {kindOf:Str->Option NameKind}{x:Str}:∀ {binds:List (Str × Value)} {m:Str->Option Value},(∀ v,(x,v) ∉ binds)->bindL kindOf binds m x=m x
 | [],_,_=>rfl
 | (n,v)::r,m,h=>by
  unfold bindL
  rw [bindL_out fun w hw=>h w (List.mem_cons_of_mem _ hw)]
  split
  ·have:x≠n:=by rintro rfl;exact h v List.mem_cons_self
   simp [this]
  ·rfl
theorem bindC_out {kindOf:Str->Option NameKind}{x:Str}:∀ {binds:List (Str × Value)} {m:Str->Option Value},(∀ v,(x,v) ∉ binds)->bindC kindOf binds m x=m x
 | [],_,_=>rfl
 | (n,v)::r,m,h=>by
  unfold bindC
  rw [bindC_out fun w hw=>h w (List.mem_cons_of_mem _ hw)]
  split
  ·rfl
  ·have:x≠n:=by rintro rfl;exact h v List.mem_cons_self
   simp [this]
theorem bindL_get {kindOf:Str->Option NameKind}{x:Str}{v:Value}:∀ {P:List Str} {vs:List Value} {i:Nat} {m:Str->Option Value},P.Nodup->P[i]?=some x->vs[i]?=some v->kindOf x=some .local ->
  bindL kindOf (P.zip vs) m x=some v
 | [],_,_,_,_,h,_,_=>by simp at h
 | _::_,[],_,_,_,_,h,_=>by simp at h
 | p::P,w::vs,0,m,nd,h1,h2,hk=>by
  simp at h1 h2;subst h1;subst h2
  show bindL kindOf ((p,w)::P.zip vs) m p=_
  unfold bindL
  rw [bindL_out fun v hv=>(List.nodup_cons.mp nd).1 (List.of_mem_zip hv).1,if_pos hk]
  simp
 | p::P,w::vs,i + 1,m,nd,h1,h2,hk=>by
  show bindL kindOf ((p,w)::P.zip vs) m x=_
  unfold bindL
  exact bindL_get (i:=i) (List.nodup_cons.mp nd).2 (by simpa using h1) (by simpa using h2) hk
theorem bindC_get {kindOf:Str->Option NameKind}{x:Str}{v:Value}:∀ {P:List Str} {vs:List Value} {i:Nat} {m:Str->Option Value},P.Nodup->P[i]?=some x->vs[i]?=some v->kindOf x≠some .local ->
  bindC kindOf (P.zip vs) m x=some v
 | [],_,_,_,_,h,_,_=>by simp at h
 | _::_,[],_,_,_,_,h,_=>by simp at h
 | p::P,w::vs,0,m,nd,h1,h2,hk=>by
  simp at h1 h2;subst h1;subst h2
  show bindC kindOf ((p,w)::P.zip vs) m p=_
  unfold bindC
  rw [bindC_out fun v hv=>(List.nodup_cons.mp nd).1 (List.of_mem_zip hv).1,if_neg hk]
  simp
 | p::P,w::vs,i + 1,m,nd,h1,h2,hk=>by
  show bindC kindOf ((p,w)::P.zip vs) m x=_
  unfold bindC
  exact bindC_get (i:=i) (List.nodup_cons.mp nd).2 (by simpa using h1) (by simpa using h2) hk
def start (N:List Str)(vs:List V):St:=vs.map some++List.replicate (N.length - vs.length) none
def cxOf (CX:CXT)(P:Program)(w:World)(K:PySem.W.Frag)(mg:Str->Option Value)(base:Heap)(N:List Str)(qual:Str)(scope:Scope)(f:Addr)(cd:Value)(A:Around)(outer:List Env)(s:Shared)(H:Hp)(E:XK):Cx where
 prog:=P
 w:=w
 K:=K
 mg:=mg
 base:=base
 A:=A.deeper (envOfC qual scope s.heap.objs.size f cd)
 N:=N
 s₀:=s
 H₀:=H
 env:=envOfC qual scope s.heap.objs.size f cd
 outer:=outer
 stack:=envOfC qual scope s.heap.objs.size f cd::outer
 ex:=[]
 calm:=true
 fn:=fun _=>true
 pn:=[]
 xe:=fun e s'=>wpAny (model P w) (A.deeper (envOfC qual scope s.heap.objs.size f cd)) (leaving (envOfC qual scope s.heap.objs.size f cd) e) (fun _ s''=>CX outer H s E e s'') (fun e' s''=>CX outer H s E e' s'') s'
theorem cell_has {sc:Scope}{n:Nat}{x:Str}(h:sc.names.lookup x=some .cell):∃ c,(cellsFrom n sc.names []).lookup x=some c:=by
 have q:=PySem.W.cellsFrom_some sc.names n [] (.inl h)
 exact Option.isSome_iff_exists.mp q
theorem inv_start {CX:CXT}{P:Program}{w:World}{K:PySem.W.Frag}{mg:Str->Option Value}{base:Heap}{N ps:List Str}{qual:Str}{scope:Scope}{f:Addr}{cd:Value}{A:Around}{outer:List Env}{s s1:Shared}{H:Hp}{E:XK}{us:List Value}{vs:List V}
  (S:FnScope N ps scope) (hd:A.handled=none) (e0:Env0 P w K mg base A outer s H) (hl:vs.length=ps.length) (r:Vals vs us)
  (x:InCallC s s.heap.objs.size (bindL (envOfC qual scope s.heap.objs.size f cd).kindOf (ps.zip us) fun _=>none) (cellsFrom (s.heap.objs.size + 1) scope.names []) (bindC (envOfC qual scope s.heap.objs.size f cd).kindOf (ps.zip us) fun _=>none) s1) :
  Inv (cxOf CX P w K mg base N qual scope f cd A outer s H E) [] (start N vs) H s1:=by
 have hpl:ps.length<=N.length:=by have:=congrArg List.length S.pre;rw [List.length_take] at this;omega
 obtain ⟨h1,tk,rfl,hk⟩:=x.done
 have noA:∀ b:Addr,b ∉ (cxOf CX P w K mg base N qual scope f cd A outer s H E).ex:=fun b z=>absurd (show b∈([]:List Addr) from z) (by simp)
 refine ⟨⟨e0.mod,S.kind,rfl,rfl,Nat.le_refl _,fun y z c h1 h2=>?_,fun y hy=>?_,fun y c _ h=>?_,fun _=>hd,Around.frames_deeper e0.frames,.inr ⟨rfl,rfl⟩,fun b z=>absurd z (noA b),e0.bs,e0.bsz,fun b _ _=>noA b,fun b z=>absurd z (noA b),e0.funs,e0.frf⟩,
  rfl,e0.bare,Un.kept hk,⟨_,x.toInCall.ns,fun i y v h1 h2 h3=>?_⟩,fun y c h=>⟨_,x.cell y c h⟩,e0.hok.fresh (Nat.le_refl _),fun y c h=>?_,fun p hp=>absurd (show p∈([]:List (Addr × Obj)) from hp) (by simp),e0.hok.kept hk,?_⟩
 ·exact name_of_addr x.apart (PySem.mem_of_lookup h1) (PySem.mem_of_lookup h2)
 ·have hy:scope.names.lookup y=some .cell\/scope.names.lookup y=some .free:=hy
  rcases hy with hy | hy
  ·exact cell_has hy
  ·exact absurd rfl (S.nofree _ (PySem.mem_of_lookup hy))
 ·exact Nat.le_of_lt (x.above y c (PySem.mem_of_lookup h))
 ·have hi:i < vs.length:=by
   unfold start at h2
   by_cases hi:i < vs.length
   ·exact hi
   ·rw [List.getElem?_append_right (by simpa using hi)] at h2
    rw [List.getElem?_replicate] at h2
    split at h2 <;> cases h2
  have ha:vs[i]?=some v:=by
   unfold start at h2
   rw [List.getElem?_append_left (by simpa using hi),List.getElem?_map] at h2
   cases e:vs[i]? with
   | none=>rw [e] at h2;cases h2
   | some a=>rw [e] at h2;cases h2;rfl
  obtain ⟨u,hu,rv⟩:=r.get ha
  have hp:ps[i]?=some y:=by
   rw [←S.pre,List.getElem?_take_of_lt (by omega)];exact h1
  have ndP:ps.Nodup:=by rw [←S.pre];exact S.nd.sublist (List.take_sublist _ _)
  refine ⟨u,rv,?_⟩
  rcases S.par y (List.mem_of_getElem? hp) with k | k
  ·exact .inl ⟨k,bindL_get ndP hp hu k⟩
  ·obtain ⟨c,e⟩:=cell_has (n:=s.heap.objs.size + 1) k
   refine .inr ⟨.inl k,c,e,?_⟩
   have q:=x.cell y c e
   rw [bindC_get ndP hp hu (by show scope.names.lookup y≠_;rw [k];decide)] at q
   exact q
 ·exact e0.hok.fresh (Nat.le_of_lt (x.above y c (PySem.mem_of_lookup h)))
 ·unfold start
  show _=N.length
  rw [List.length_append,List.length_map,List.length_replicate]
  omega
theorem fn_of {CX:CXT}{P:Program}{w:World}{K:PySem.W.Frag}{mg:Str->Option Value}{base:Heap}{k:Nat}{f:Addr}{name qual:Str}{params:Arguments}{body:List Stmt}{scope:Scope}{dV kV doc pm cdv ct oc:Value}{an od:Option Addr}
  {osl:Array (Option Value)} {N ps:List Str} {sp:Sp} (lk:K.lookup f=some ⟨oc,od,.func (PySem.W.fnOf name qual params body scope dV kV doc pm an cdv ct),osl⟩) (hcd:PySem.W.codeIn K cdv qual=true) (S:FnScope N ps scope)
  (len:∀ vs H Q E,sp vs H Q E->vs.length=ps.length)
  (hbody:∀ (A:Around) (outer:List Env) (s:Shared) (H:Hp) (vs:List V) (Q:VK) (E:XK),Room k (A.deeper (envOfC qual scope s.heap.objs.size f cdv))->sp vs H Q E ->
   ∃ t,PSs (cxOf CX P w K mg base N qual scope f cdv A outer s H E) body t/\t { nx:=fun _ H'=>Q .non H',rt:=Q } (start N vs) H) :
  FnOk P w K mg base CX (k + 1) f (PySem.W.fnOf name qual params body scope dV kV doc pm an cdv ct) ps sp:=by
 refine ⟨len,fun A outer s H args us vs Q E hr e0 hb r hsp=>?_⟩
 have hl:=len _ _ _ _ hsp
 have KX:K.In s.heap:=e0.mod.kin.keeps fun b o e=>(e0.bs b o e).1
 have lim:s.heap.NoLimit:=e0.mod.nolimit.keeps fun b o e=>(e0.bs b o e).1
 have hkind:∀ y∈ps.zip us,scope.names.lookup y.1=some .local\/(scope.names.lookup y.1=some .cell/\((cellsFrom (s.heap.objs.size + 1) scope.names []).lookup y.1).isSome=true):=fun ⟨n,v⟩ hy=>by
  rcases S.par n (List.of_mem_zip hy).1 with q | q
  ·exact .inl q
  ·exact .inr ⟨q,PySem.W.cellsFrom_some _ _ _ (.inl q)⟩
 refine codeAny_call_function hr.depth (KX _ _ lk) rfl S.co S.gen rfl (PySem.W.codeRec_of KX hcd) (hb _ _ _ _ ?_)
 refine wpAny_newFunctionEnv_cells S.kind hkind fun env he s1 x=>?_
 subst he
 refine ⟨lim.keeps x.toInCall.keep,codeAny_func ?_⟩
 obtain ⟨t,ht,hq⟩:=hbody A outer s H vs Q E (hr.deeper _) hsp
 have I:Inv (cxOf CX P w K mg base N qual scope f cdv A outer s H E) [] (start N vs) H s1:=inv_start S hr.hd e0 hl r x
 refine wpAny_mono (ht [] s1 (start N vs) H _ I hq) (fun fl s' hs=>?_) fun e s' hs=>hs
 have fin:∀ {σ':St} {H':Hp} {v:V} {u:Value},Inv (cxOf CX P w K mg base N qual scope f cdv A outer s H E) [] σ' H' s'->RelV v u->Q v H'->CE outer P w H s Q u s' :=
  fun {σ' H' v u} J rv q=>⟨v,H',J.os,J.bare,J.base,J.hok,rv,q⟩
 cases fl with
 | ret u =>
  obtain ⟨v,σ',H',J,rv,q⟩:=hs
  exact fin J rv q
 | next =>
  obtain ⟨σ',H',J,q⟩:=hs
  exact fin (v:=V.non) (u:=Value.none) J rfl q
 | brk =>
  obtain ⟨_,_,_,q⟩:=hs
  exact False.elim q
 | cont =>
  obtain ⟨_,_,_,q⟩:=hs
  exact False.elim q
end L2
namespace L2
open PySem PySem.Spec PyProof.Rows
section
variable {X : Cx} {x : Str} {p pos : Pos} {e : Expr} {es : List Expr} {t : TA} {id T : String} {r : List V → Hp → VK → Prop}
def tCB (r:List V->Hp->VK->Prop)(t:TA):TE:=fun σ H Q=>t σ H fun vs H1=>r vs H1 Q
theorem pe_callB (hc:CallR X (.builtin id) r)(hg:Gl X x)(hm:X.mg x=none)(hv:bootBuiltins x=some (.builtin id))(ha:PA X (e::es) t)(hn:x≠"__name__":=by decide)(hdb:(x == ("__debug__":Str))=false:=by decide)
  (he:starEach (e::es) X.env=(false,eval e X.env)::starEach es X.env:=by rfl) (hpl:(backTo pos (starEach es X.env)).any (·.1)=false:=by rfl):PE X (.Call (.Name x p) (e::es) [] pos) (tCB r t):=by
 intro pins s σ H Q I h
 refine wpAny_Call_Name_kw (ld_blt I hg hm hv ?_ hn hdb)
 exact PyProof.Rows.callWith_builtin1 (thn (ha pos pins s σ H _ I h) fun us s1 ⟨vs,H1,I1,r1,q1⟩=>hc pins s1 σ H1 vs us Q I1 r1 q1) he hpl
theorem pe_callTy (hc:CallR X (.type T) r)(hg:Gl X x)(hm:X.mg x=none)(hv:bootBuiltins x=some (.type T))(ha:PA X (e::es) t)(hn:x≠"__name__":=by decide)(hdb:(x == ("__debug__":Str))=false:=by decide)
  (he:starEach (e::es) X.env=(false,eval e X.env)::starEach es X.env:=by rfl) (hpl:(backTo pos (starEach es X.env)).any (·.1)=false:=by rfl):PE X (.Call (.Name x p) (e::es) [] pos) (tCB r t):=by
 intro pins s σ H Q I h
 refine wpAny_Call_Name_kw (ld_blt I hg hm hv ?_ hn hdb)
 exact PyProof.Rows.callWith_type1 (thn (ha pos pins s σ H _ I h) fun us s1 ⟨vs,H1,I1,r1,q1⟩=>hc pins s1 σ H1 vs us Q I1 r1 q1) he hpl
end
end L2
namespace HT
open PySem PyProof.Rows
section
open PySem.SeqAt
open PySem.AutoSeq1 (wpAny_loadPart')
open PySem.MeetsSeq PySem.MeetsSeq2 PySem.MeetsSeq3
end
section
variable {prog : Program} {w : World} {A : Around} {E : Value → Shared → Prop} {s : Shared}
theorem cat_tup {t b:Addr}{vs ws:List Value}{Q:Value->Shared->Prop}(ht:IsTup s.heap t vs.toArray)(hb:IsTup s.heap b ws.toArray)(hv:vs≠[])
  (h1:ws=[]->Q (.ref t) s) (h2:ws≠[]->Q (.ref s.heap.objs.size) { s with heap:=s.heap.push { cls:=.type "tuple",data:=.seq (vs++ws).toArray } })
  (hsz:vs.length + ws.length<=sizeLine):wpAny (model prog w) A (binaryOp .Add (.ref t) (.ref b)) Q E s:=by
 obtain ⟨⟨cls,dd,data,sl⟩,ho,hc,n,hd⟩:=id ht
 obtain ⟨⟨cls2,dd2,data2,sl2⟩,ho2,hc2,n2,hd2⟩:=id hb
 simp only at hc hd hc2 hd2
 subst hc hd hc2 hd2
 have e:vs.toArray++ws.toArray=(vs++ws).toArray:=by simp
 by_cases hw:ws=[]
 ·exact concat_meets ⟨_,ho,rfl⟩ ⟨_,ho2,rfl⟩ noFill_tuple_add seq_tuple_add PySem.F.slot_tuple_add PySem.F.entry_tuple_add (PySem.F.args_tuple_add_2 _ _)
   (tuple_addW1 t b vs.toArray ws.toArray n n2 dd dd2 sl sl2 (by simpa using hv) (by simp [hw])) ⟨ho,ho2,h1 hw⟩
 ·refine concat_meets ⟨_,ho,rfl⟩ ⟨_,ho2,rfl⟩ noFill_tuple_add seq_tuple_add PySem.F.slot_tuple_add PySem.F.entry_tuple_add (PySem.F.args_tuple_add_2 _ _)
   (tuple_addW2 t b vs.toArray ws.toArray n n2 dd dd2 sl sl2 (by simpa using hv) (by simpa using hw) (by rw [List.size_toArray,List.size_toArray];exact hsz)) ⟨ho,ho2,?_⟩
  rw [e]
  exact h2 hw
def sIx (n d:Nat):Option Int->Nat
 | none=>d
 | some v=>if v < 0 then (v + (n:Int)).toNat else min v.toNat n
theorem sIx_none (n d:Nat):sIx n d none=d:=rfl
theorem sIx_nat (n d k:Nat):sIx n d (some (k:Int))=min k n:=by
 show (if (k:Int) < 0 then ((k:Int) + (n:Int)).toNat else min (k:Int).toNat n)=min k n
 rw [if_neg (by omega),Int.toNat_natCast]
theorem sIx_le (n d:Nat)(hd:d<=n)(o:Option Int):sIx n d o<=n:=by
 cases o with
 | none=>exact hd
 | some v =>
  show (if v < 0 then (v + (n:Int)).toNat else min v.toNat n)<=n
  by_cases hv:v < 0
  ·rw [if_pos hv];omega
  ·rw [if_neg hv];exact Nat.min_le_right _ _
theorem clip_eq (v:Int)(n d:Nat):(if v < 0 then max (v + (n:Int)) 0 else min v (n:Int))=((sIx n d (some v):Nat):Int):=by
 show (if v < 0 then max (v + (n:Int)) 0 else min v (n:Int))=(((if v < 0 then (v + (n:Int)).toNat else min v.toNat n):Nat):Int)
 by_cases hv:v < 0
 ·simp only [if_pos hv];omega
 ·simp only [if_neg hv];omega
theorem adjust_gen (lo hi:Option Int)(n:Nat):Builtin.Slice.sliceAdjust lo hi 1 (n:Int)=(((sIx n 0 lo:Nat):Int),((sIx n n hi:Nat):Int)):=by
 have h1:¬ ((1:Int) < 0):=by omega
 unfold Builtin.Slice.sliceAdjust
 simp only [h1,if_false]
 refine Prod.ext ?_ ?_
 ·cases lo with
  | none=>rfl
  | some v=>exact clip_eq v n 0
 ·cases hi with
  | none=>rfl
  | some v=>exact clip_eq v n n
theorem places_gen (i j:Nat):Builtin.Slice.slicePlaces (i:Int) (j:Int) 1=j - i:=by
 unfold Builtin.Slice.slicePlaces
 have h1:(1:Int) > 0:=by omega
 simp only [h1,if_true,Int.ediv_one]
 split <;> omega
theorem slicePart_ {v:Value}{o:Option Int}{Q:Option Int->Shared->Prop}(p:IsPart v o)(h:Q o s):wpAny (model prog w) A (Builtin.Slice.slicePartIndex v) Q E s:=by
 cases p with
 | none=>exact slicePart_none h
 | int i t=>exact slicePart_int h
theorem sliceApplied_gen {sl:Addr}{vl vu:Value}{lo hi:Option Int}{n:Nat}{Q:Int × Int × Nat->Shared->Prop}(hs:s.heap.IsSliceOf sl vl vu .none)(pl:IsPart vl lo)(pu:IsPart vu hi)
  (h:Q (((sIx n 0 lo:Nat):Int),1,sIx n n hi - sIx n 0 lo) s):wpAny (model prog w) A (Builtin.Slice.sliceApplied (.ref sl) (pure (n:Int))) Q E s:=by
 obtain ⟨os,hos,hcs,hds⟩:=id hs
 unfold Builtin.Slice.sliceApplied Builtin.Slice.sliceFields
 refine wpAny_bind (wpAny_bind (wpAny_field hos hds (x:=vl) rfl (wpAny_bind (wpAny_field hos hds (x:=vu) rfl (wpAny_bind (wpAny_field hos hds (x:=.none) rfl (wpAny_pure ?_)))))))
 refine wpAny_bind (slicePart_none ?_)
 show wpAny _ _ (if ((1:Int) == 0)=true then _ else _) _ _ s
 rw [if_neg (by decide)]
 refine wpAny_bind (slicePart_ pl (wpAny_bind (slicePart_ pu (wpAny_bind (wpAny_pure ?_)))))
 show wpAny _ _ (match Builtin.Slice.sliceAdjust lo hi 1 (n:Int) with | (lo,hi)=>pure (lo,(1:Int),Builtin.Slice.slicePlaces lo hi 1)) _ _ s
 rw [adjust_gen lo hi n]
 show wpAny _ _ (pure (((sIx n 0 lo:Nat):Int),(1:Int),Builtin.Slice.slicePlaces ((sIx n 0 lo:Nat):Int) ((sIx n n hi:Nat):Int) 1)) _ _ s
 rw [places_gen]
 exact wpAny_pure h
theorem pick_gen (xs:Array Value)(i k:Nat):((List.range k).filterMap fun (m:Nat)=>xs[((i:Int) + (m:Int) * 1).toNat]?).toArray=((xs.toList.drop i).take k).toArray:=by
 have e:(fun (m:Nat)=>xs[((i:Int) + (m:Int) * 1).toNat]?)=fun m=>xs[i + m]?:=by
  funext m
  have:((i:Int) + (m:Int) * 1).toNat=i + m:=by omega
  rw [this]
 rw [e]
 have:=pick_run xs i k
 rw [List.filterMap_map] at this
 have e2:((fun x=>xs[x]?) ∘ fun x=>i + x)=fun m=>xs[i + m]?:=rfl
 rw [e2] at this
 rw [this]
theorem getItem_tuple_cut {t sl:Addr}{items:Array Value}{vl vu:Value}{lo hi:Option Int}{Q:Value->Shared->Prop}(ht:IsTup s.heap t items)(hs:s.heap.IsSliceOf sl vl vu .none)(pl:IsPart vl lo)(pu:IsPart vu hi)
  (hw:¬ (sIx items.size 0 lo=0/\sIx items.size items.size hi=items.size))
  (h:Q (.ref s.heap.objs.size) { s with heap:=s.heap.push { cls:=.type "tuple",data:=.seq ((items.toList.drop (sIx items.size 0 lo)).take (sIx items.size items.size hi - sIx items.size 0 lo)).toArray } })
  (hsz:items.size<=sizeLine):wpAny (model prog w) A (getItem (.ref t) (.ref sl)) Q E s:=by
 have htake:sizeOk (.seq ((items.toList.drop (sIx items.size 0 lo)).take (sIx items.size items.size hi - sIx items.size 0 lo)).toArray):=by
  show ((items.toList.drop (sIx items.size 0 lo)).take (sIx items.size items.size hi - sIx items.size 0 lo)).toArray.size<=sizeLine
  rw [List.size_toArray,List.length_take,List.length_drop,Array.length_toList]
  omega
 have hj:sIx items.size items.size hi<=items.size:=sIx_le _ _ (Nat.le_refl _) hi
 obtain ⟨os,hos,hcs,hds⟩:=id hs
 have hTs:s.TypeIs (.ref sl) "slice":=⟨os,hos,hcs⟩
 unfold getItem
 try with_reducible refine wpAny_holding ?_
 first | refine wpAny_bind (wpAny_pure ?_) | skip
 refine wpAny_bind (wpAny_sequenceKey ht.typeIs (by decide) ?_)
 refine wpAny_bind (wpAny_callSpecial?_slot (name:=Str.ofString "__getitem__") ht.typeIs PyProof.Rows.slot_tuple_getitem
  (wpAny_call_entry PyProof.Rows.slot_tuple_getitem ht.typeIs entry_tuple_getitem ?_ (args_tuple_getitem _ _)))
 show wpAny _ _ (Builtin.Tuple.tupleItemsOf (.ref t) >>= _) _ _ s
 refine wpAny_bind (tupleItemsOf_ ht ?_)
 refine wpAny_bind (wpAny_typeOf hTs ?_)
 rw [if_pos (by decide)]
 refine wpAny_bind (sliceApplied_gen hs pl pu ?_)
 have hno:¬ ((((sIx items.size 0 lo:Nat):Int) == 0 && (1:Int) == 1 && (sIx items.size items.size hi - sIx items.size 0 lo) == items.size)=true):=by
  intro q
  rw [Bool.and_eq_true,Bool.and_eq_true] at q
  have q1:((sIx items.size 0 lo:Nat):Int)=0:=eq_of_beq q.1.1
  have q2:sIx items.size items.size hi - sIx items.size 0 lo=items.size:=eq_of_beq q.2
  exact hw ⟨by omega,by omega⟩
 show wpAny _ _ (if (((sIx items.size 0 lo:Nat):Int) == 0 && (1:Int) == 1 && (sIx items.size items.size hi - sIx items.size 0 lo) == items.size)=true then _ else _) _ _ s
 rw [if_neg hno,pick_gen]
 first
  | exact wpAny_bind (m:=Builtin.Tuple.tupleExact _) (wpAny_newObj_type (wpAny_pure ⟨_,rfl,wpAny_pure h⟩) htake)
  | exact wpAny_bind (m:=Builtin.Tuple.tupleExact _) (wpAny_newObj_type (wpAny_bind (wpAny_pure (wpAny_pure ⟨_,rfl,wpAny_pure h⟩))) htake)
  | exact wpAny_bind (wpAny_bind (m:=Builtin.Tuple.tupleExact _) (wpAny_newObj_type (wpAny_pure (wpAny_pure ⟨_,rfl,wpAny_pure h⟩)) htake))
  | exact wpAny_bind (wpAny_bind (m:=Builtin.Tuple.tupleExact _) (wpAny_newObj_type (wpAny_pure ⟨_,rfl,wpAny_pure h⟩) htake))
end
end HT
namespace L2
open PySem PySem.Spec PyProof.Rows
abbrev TO:=St->Hp->(Option Int->Hp->Prop)->Prop
def PO (X:Cx)(e:Option Expr)(t:TO):Prop :=
 ∀ (pins:List (Addr × Obj)) (s:Shared) (σ:St) (H:Hp) (Q:Option Int->Hp->Prop),Inv X pins σ H s->t σ H Q ->
  wpAny (model X.prog X.w) X.A (evalPart e X.env) (fun u s'=>∃ o H',Inv X pins σ H' s'/\IsPart u o/\Q o H') X.xe s
def tNoPart:TO:=fun _ H Q=>Q none H
def tPart (t:TE):TO:=fun σ H Q=>t σ H fun x H1=>∃ i,x=.int i/\Q (some i) H1
section
variable {X : Cx} {e : Expr} {te : TE} {lo hi : Option Expr} {tl th : TO} {pos p2 : Pos}
theorem po_none:PO X none tNoPart:=by
 intro pins s σ H Q I h
 rw [evalPart_none]
 exact wpAny_pure ⟨none,H,I,.none,h⟩
theorem po_some (h:PE X e te):PO X (some e) (tPart te):=by
 intro pins s σ H Q I hw
 rw [evalPart_some]
 refine thn (h pins s σ H _ I hw) fun u s1 ⟨x,H1,I1,r1,q1⟩=>?_
 obtain ⟨i,rfl,q⟩:=q1
 obtain ⟨t,rfl⟩:=r1
 exact ⟨some i,H1,I1,.int i t,q⟩
def SlR (X:Cx)(r:V->Option Int->Option Int->Hp->VK->Prop):Prop :=
 ∀ (pins:List (Addr × Obj)) (s:Shared) (σ:St) (H:Hp) (x:V) (v vl vu:Value) (lo hi:Option Int) (sl:Addr) (Q:VK),Inv X pins σ H s->RelV x v->s.heap.IsSliceOf sl vl vu .none->IsPart vl lo->IsPart vu hi->r x lo hi H Q ->
  ∃ T id,typeLookup (.type T) "__getitem__"=pure (some (.builtin id))/\s.TypeIs v T/\wpAny (model X.prog X.w) X.A (getItem v (.ref sl)) (EP X pins σ Q) X.xe s
def tSl (r:V->Option Int->Option Int->Hp->VK->Prop)(te:TE)(tl th:TO):TE:=fun σ H Q=>te σ H fun x H1=>tl σ H1 fun l H2=>th σ H2 fun u H3=>r x l u H3 Q
theorem pe_slice {r:V->Option Int->Option Int->Hp->VK->Prop}(hr:SlR X r)(he:PE X e te)(hl:PO X lo tl)(hu:PO X hi th):PE X (.Subscript e (.Slice lo hi none p2) pos) (tSl r te tl th):=by
 intro pins s σ H Q I h
 refine Subscript_ (thn (he pins s σ H _ I h) fun v s1 ⟨x,H1,I1,r1,q1⟩=>?_)
 refine wpAny_Slice (thn (hl pins s1 σ H1 _ I1 q1) fun vl s2 ⟨l,H2,I2,pl,q2⟩=>thn (hu pins s2 σ H2 _ I2 q2) fun vu s3 ⟨u,H3,I3,pu,q3⟩=>?_)
 rw [evalPart_none]
 refine wpAny_pure ?_
 have I4:Inv X pins σ H3 { s3 with heap:=s3.heap.push { cls:=.type "slice",data:=.fields #[vl,vu,.none] } }:=I3.kept (t':=s3.toks) fun b ob q=>Heap.get?_push_of_some _ q
 obtain ⟨T,id,hT,ht,hg⟩:=hr pins { s3 with heap:=s3.heap.push { cls:=.type "slice",data:=.fields #[vl,vu,.none] } } σ H3 x v vl vu l u s3.heap.objs.size Q I4 r1 (Heap.IsSliceOf.new ..) pl pu q3
 show wpAny (model X.prog X.w) X.A (subscriptTail e (.Slice lo hi none p2) v (.ref s3.heap.objs.size)) (EP X pins σ Q) X.xe { s3 with heap:=s3.heap.push { cls:=.type "slice",data:=.fields #[vl,vu,.none] } }
 exact tail_any (ops:=[.ref s3.heap.objs.size,v]) ht hT hg (by with_unfolding_all rfl)
def cutV (xs:List V)(lo hi:Option Int):List V:=(xs.drop (HT.sIx xs.length 0 lo)).take (HT.sIx xs.length xs.length hi - HT.sIx xs.length 0 lo)
theorem cutV_length (xs:List V)(lo hi:Option Int):(cutV xs lo hi).length<=xs.length:=by
 unfold cutV
 rw [List.length_take,List.length_drop]
 omega
def rSlT (K:PySem.W.Frag):V->Option Int->Option Int->Hp->VK->Prop:=fun x lo hi H Q=>∃ a xs,x=.ref a/\SqT K H a xs /\
 ¬ (HT.sIx xs.length 0 lo=0/\HT.sIx xs.length xs.length hi=xs.length)/\∀ p,H p=none->Q (.ref p) (upd H p (.tup (cutV xs lo hi)))
theorem sl_tup:SlR X (rSlT X.K):=by
 intro pins s σ H x v vl vu lo hi sl Q I rx hs pl pu h
 obtain ⟨a,xs,rfl,hx,hw,q⟩:=h
 cases rx
 obtain ⟨its,r,ht,hz⟩:=I.tuple hx
 have hlen:its.toArray.size=xs.length:=by rw [List.size_toArray];exact r.length.symm
 refine ⟨"tuple",_,PyProof.Rows.slot_tuple_getitem.lookup,ht.typeIs,?_⟩
 refine HT.getItem_tuple_cut ht hs pl pu (by rw [hlen];exact hw) ?_ (by rw [hlen];exact hz)
 rw [hlen]
 refine ⟨.ref s.heap.objs.size,_,I.laid (t':=s.toks) (o:=.tup (cutV xs lo hi)) (fun b ob q=>Heap.get?_push_of_some _ q) (Nat.le_refl _) ?_,rfl,q _ (I.hok.fresh (Nat.le_refl _))⟩
 exact ⟨Nat.le_trans (cutV_length xs lo hi) hz,_,(r.drop (HT.sIx xs.length 0 lo)).take (HT.sIx xs.length xs.length hi - HT.sIx xs.length 0 lo),IsTup.new _ _,_,Heap.get?_push_size _ rfl,rfl⟩
def rCatT (K:PySem.W.Frag):R2:=fun x y H Q=>∃ a b xs ys,x=.ref a/\y=.ref b/\SqT K H a xs/\SqT K H b ys/\xs≠[]/\xs.length + ys.length<=sizeLine /\
 (ys=[]->Q (.ref a) H)/\(ys≠[]->∀ p,H p=none->Q (.ref p) (upd H p (.tup (xs++ys))))
theorem Vals.nil_iff {xs:List V}{us:List Value}(r:Vals xs us):us=[]↔xs=[]:=by
 cases r with
 | nil=>simp
 | cons _ _=>simp
theorem op_catT:OpR X (binaryOp .Add) (rCatT X.K):=by
 intro pins s σ H x y v u Q I rx ry h
 obtain ⟨a,b,xs,ys,rfl,rfl,ha,hb,hx,hz,q1,q2⟩:=h
 cases rx
 cases ry
 obtain ⟨its,r1,p1,_⟩:=I.tuple ha
 obtain ⟨its2,r2,p2,_⟩:=I.tuple hb
 refine HT.cat_tup p1 p2 (fun z=>hx (r1.nil_iff.mp z)) (fun z=>⟨.ref a,H,I,rfl,q1 (r2.nil_iff.mp z)⟩) (fun z=>?_) (by rw [←r1.length,←r2.length];exact hz)
 refine ⟨.ref s.heap.objs.size,_,I.laid (t':=s.toks) (o:=.tup (xs++ys)) (fun b ob q=>Heap.get?_push_of_some _ q) (Nat.le_refl _) ?_,rfl,q2 (fun w=>z (r2.nil_iff.mpr w)) _ (I.hok.fresh (Nat.le_refl _))⟩
 exact ⟨by rw [List.length_append];exact hz,_,r1.append r2,IsTup.new _ _,_,Heap.get?_push_size _ rfl,rfl⟩
end
end L2
namespace L2
open PySem PySem.Spec PyProof.Rows
def ixN (n:Nat)(i:Int):Option Nat:=if 0<=i then (if i < n then some i.toNat else none) else if -(n:Int)<=i then some (i + n).toNat else none
def atI {α:Type}(xs:List α)(i:Int):Option α:=(ixN xs.length i).bind fun j=>xs[j]?
theorem ixN_seq {n:Nat}{i:Int}{j:Nat}(h:ixN n i=some j):seqIndex? i n=some j/\j < n/\-(n:Int)<=i/\i < n:=by
 unfold ixN at h
 by_cases h0:0<=i
 ·rw [if_pos h0] at h
  by_cases h1:i < n
  ·rw [if_pos h1] at h
   have e:i.toNat=j:=Option.some.inj h
   exact ⟨by rw [seqIndex_of h0 h1,e],by omega,by omega,h1⟩
  ·rw [if_neg h1] at h;cases h
 ·rw [if_neg h0] at h
  by_cases h1:-(n:Int)<=i
  ·rw [if_pos h1] at h
   have e:(i + n).toNat=j:=Option.some.inj h
   exact ⟨by rw [seqIndex_neg (by omega) h1,e],by omega,h1,by omega⟩
  ·rw [if_neg h1] at h;cases h
theorem atI_get {α:Type}{xs:List α}{i:Int}{v:α}(h:atI xs i=some v):∃ j,seqIndex? i xs.length=some j/\xs[j]?=some v/\j < xs.length/\-(xs.length:Int)<=i/\i < xs.length:=by
 unfold atI at h
 cases e:ixN xs.length i with
 | none=>rw [e] at h;cases h
 | some j =>
  rw [e] at h
  obtain ⟨h1,h2,h3,h4⟩:=ixN_seq e
  exact ⟨j,h1,h,h2,h3,h4⟩
theorem atI_nat {α:Type}{xs:List α}{j:Nat}{v:α}(h:xs[j]?=some v):atI xs (j:Int)=some v:=by
 have hj:j < xs.length:=(List.getElem?_eq_some_iff.mp h).1
 have e:ixN xs.length (j:Int)=some j:=by
  unfold ixN
  rw [if_pos (by omega),if_pos (by omega)];simp
 unfold atI;rw [e];exact h
theorem atI_last {α:Type}(xs:List α)(v:α):atI (xs++[v]) (-1)=some v:=by
 have hl:(xs++[v]).length=xs.length + 1:=by simp
 have e:ixN (xs++[v]).length (-1)=some xs.length:=by
  unfold ixN
  rw [hl,if_neg (by decide),if_pos (by omega)]
  congr 1
  omega
 unfold atI
 rw [e]
 show (xs++[v])[xs.length]?=some v
 simp
def PlainIx (b:Expr):Prop:=∀ o i,subscripted b false o i=operate [o,i] (getItem o i)
def IxR (X:Cx)(r:R2):Prop :=
 ∀ (value slice:Expr) (pins:List (Addr × Obj)) (s:Shared) (σ:St) (H:Hp) (x y:V) (v u:Value) (Q:VK),Inv X pins σ H s->RelV x v->RelV y u->r x y H Q ->
  subscripted slice false v u=operate [v,u] (getItem v u)->wpAny (model X.prog X.w) X.A (subscriptTail value slice v u) (EP X pins σ Q) X.xe s
def MtR (X:Cx)(id:String)(r:V->List V->Hp->VK->Prop):Prop :=
 ∀ (pins:List (Addr × Obj)) (s:Shared) (σ:St) (H:Hp) (x:V) (xs:List V) (v:Value) (us:List Value) (Q:VK),Inv X pins σ H s->RelV x v->Vals xs us->r x xs H Q ->
  wpAny (model X.prog X.w) X.A (call (.builtin id) (v::us)) (EP X pins σ Q) X.xe s
section
variable {X : Cx} {a b : Expr} {ta tb : TE} {pos : Pos}
theorem pe_ix {r:R2}(hr:IxR X r)(ha:PE X a ta)(hb:PE X b tb)(hs:PlainIx b):PE X (.Subscript a b pos) (tOp r ta tb):=by
 intro pins s σ H Q I h
 exact Subscript_ (binT ha hb I h fun v u s2 x y H2 I2 rx ry q=>hr a b pins s2 σ H2 x y v u Q I2 rx ry q (hs _ _))
def rIxL (K:PySem.W.Frag):R2:=fun x y H Q=>∃ p xs i v,x=.ref p/\y=.int i/\SqL K H p xs/\atI xs i=some v/\Q v H
def rIxT (K:PySem.W.Frag):R2:=fun x y H Q=>∃ p xs i v,x=.ref p/\y=.int i/\SqT K H p xs/\atI xs i=some v/\Q v H
def rIxS:R2:=fun x y H Q=>∃ z i c,x=.str z/\y=.int i/\z.length<=sizeLine/\atI z.cps.toList i=some c/\Q (.str ⟨#[c]⟩) H
theorem ix_list:IxR X (rIxL X.K):=by
 intro value slice pins s σ H x y v u Q I rx ry h hs
 obtain ⟨p,xs,i,z,rfl,rfl,hq,he,q⟩:=h
 cases rx
 obtain ⟨t,rfl⟩:=ry
 obtain ⟨its,r,pl,hz⟩:=I.list hq
 obtain ⟨j,h1,h2,h3,h4,h5⟩:=atI_get he
 obtain ⟨w,ew,rw'⟩:=r.get h2
 have hl:=r.length
 have hn:=line63
 have fin:EP X pins σ Q w s:=⟨z,H,I,rw',q⟩
 by_cases h0:0<=i
 ·have hj:i.toNat=j:=by
   rw [seqIndex_of h0 h5] at h1
   exact Option.some.inj h1
  exact item_listR pl.isList h0 (by omega) (by rw [hj];simpa using ew) fin hs
 ·have hj:(i + (its.toArray.size:Int)).toNat=j:=by
   rw [seqIndex_neg (by omega) h4] at h1
   rw [List.size_toArray,←hl]
   exact Option.some.inj h1
  exact subscriptTail_builtinR (x:=w) pl.isList.typeIs slot_list_getitem.lookup
   (wpAny_getItem_list_neg (Q:=fun r s'=>r=w/\EP X pins σ Q r s') pl.isList (by omega) (by rw [List.size_toArray] <;> omega) (by omega) (by rw [hj];simpa using ew) ⟨rfl,fin⟩) hs
theorem ix_tup:IxR X (rIxT X.K):=by
 intro value slice pins s σ H x y v u Q I rx ry h hs
 obtain ⟨p,xs,i,z,rfl,rfl,hq,he,q⟩:=h
 cases rx
 obtain ⟨t,rfl⟩:=ry
 obtain ⟨its,r,pl,hz⟩:=I.tuple hq
 obtain ⟨j,h1,h2,h3,h4,h5⟩:=atI_get he
 obtain ⟨w,ew,rw'⟩:=r.get h2
 have hl:=r.length
 have hn:=line63
 have fin:EP X pins σ Q w s:=⟨z,H,I,rw',q⟩
 exact subscriptTail_builtinR (x:=w) pl.typeIs slot_tuple_getitem.lookup
  (getItem_tuple (j:=j) (Q:=fun r s'=>r=w/\EP X pins σ Q r s') pl (by omega) (by omega) (by rw [List.size_toArray,←hl];exact h1) (by simpa using ew) ⟨rfl,fin⟩) hs
theorem ix_str:IxR X rIxS:=by
 intro value slice pins s σ H x y v u Q I rx ry h hs
 obtain ⟨z,i,c,rfl,rfl,hz,he,q⟩:=h
 obtain ⟨t,rfl⟩:=rx
 obtain ⟨t',rfl⟩:=ry
 obtain ⟨j,h1,h2,h3,h4,h5⟩:=atI_get he
 have hl:z.cps.toList.length=z.length:=by simp [Str.length]
 rw [hl] at h1 h4 h5
 have hn:=line63
 exact tail_any (typeIs_str s z t) slot_str_getitem.lookup (getItem_str (c:=c) (by
  have e1:decide (i < -(2 ^ 63:Int))=false:=decide_eq_false (by omega)
  have e2:decide (i ≥ 2 ^ 63)=false:=decide_eq_false (by omega)
  rw [e1,e2,Bool.or_false]) (by rw [h1];simpa using h2) ⟨.str ⟨#[c]⟩,H,I.tok _,⟨_,rfl⟩,q⟩) hs
theorem mapSeq_set (its:List Value)(n j:Nat)(u:Value):Obj.mapSeq (·.setIfInBounds j u) { cls:=.type "list",data:=.seq its.toArray n }={ cls:=.type "list",data:=.seq (its.set j u).toArray n }:=by
 simp [Obj.mapSeq]
theorem Inv.lst {pins:List (Addr × Obj)}{σ:St}{H:Hp}{s:Shared}{p:Addr}{xs:List V}(I:Inv X pins σ H s)(h:H p=some (.lst xs)) :
  ∃ (its:List Value) (n:Nat),Vals xs its/\s.heap.get? p=some { cls:=.type "list",data:=.seq its.toArray n }/\xs.length<=sizeLine:=by
 obtain ⟨z,its,n,r,e⟩:=I.hok p _ h
 exact ⟨its,n,r,e,z⟩
theorem Inv.lstUpd {pins:List (Addr × Obj)}{σ:St}{H:Hp}{s:Shared}{p:Addr}{xs ys:List V}{its its':List Value}{n n':Nat}{f:Obj->Obj}(I:Inv X pins σ H s)(h:H p=some (.lst xs))
  (ho:s.heap.get? p=some { cls:=.type "list",data:=.seq its.toArray n }) (hf:f { cls:=.type "list",data:=.seq its.toArray n }={ cls:=.type "list",data:=.seq its'.toArray n' }) (r:Vals ys its') (hz:ys.length<=sizeLine) (t:Nat) :
  Inv X pins σ (upd H p (.lst ys)) { s with heap:=s.heap.update p f,toks:=t }:=by
 have e:(s.heap.update p f).get? p=some { cls:=.type "list",data:=.seq its'.toArray n' }:=by
  rw [Heap.get?_update_self f ho (by rw [hf] <;> rfl),hf]
 refine I.write (x:=p) (e:=p) (by rw [h];trivial) (.inl rfl) (fun b u hb q=>(Heap.get?_update_other _ _ (Ne.symm hb)).trans q) ⟨_,e⟩ ?_
 exact ⟨hz,its',n',r,e⟩
def rSetL:V->V->V->Hp->(Hp->Prop)->Prop:=fun o i v H Q=>∃ p xs k j,o=.ref p/\i=.int k/\H p=some (.lst xs)/\ixN xs.length k=some j/\Q (upd H p (.lst (xs.set j v)))
theorem set_list:PSet X rSetL:=by
 intro pins s σ H o i v ov iv u Q I ro ri rv h
 obtain ⟨p,xs,k,j,rfl,rfl,hp,hj,q⟩:=h
 cases ro
 obtain ⟨t,rfl⟩:=ri
 obtain ⟨its,n,r,ho,hz⟩:=I.lst hp
 obtain ⟨h1,h2,h3,h4⟩:=ixN_seq hj
 have hl:=r.length
 have hn:=line63
 have I':Inv X pins σ (upd H p (.lst (xs.set j v))) { s with heap:=s.heap.update p (Obj.mapSeq (·.setIfInBounds j u)) } :=
  I.lstUpd hp ho (mapSeq_set its n j u) (r.set rv j) (by rw [List.length_set];exact hz) s.toks
 by_cases h0:0<=k
 ·have hk:k.toNat=j:=by
   rw [seqIndex_of h0 h4] at h1
   exact Option.some.inj h1
  exact PySem.W.ki_setAt ho h0 (by omega) (by rw [List.size_toArray,←hl];exact h4) (by rw [hk];exact ⟨_,I',q⟩)
 ·have hk:(k + (its.toArray.size:Int)).toNat=j:=by
   rw [seqIndex_neg (by omega) h3] at h1
   rw [List.size_toArray,←hl]
   exact Option.some.inj h1
  exact PySem.W.ki_setBack ho (by omega) (by rw [List.size_toArray,←hl];exact h3) (by omega) (by rw [hk];exact ⟨_,I',q⟩)
theorem slice_bounds (lo hi:Option Int)(n:Nat):(sliceBounds lo hi none n).1=((HT.sIx n 0 lo:Nat):Int)/\(sliceBounds lo hi none n).2.1=((HT.sIx n n hi:Nat):Int)/\(sliceBounds lo hi none n).2.2=1:=by
 refine ⟨?_,?_,rfl⟩
 ·cases lo with
  | none=>simp [sliceBounds,HT.sIx]
  | some i =>
   simp only [sliceBounds,HT.sIx,Option.getD_none,show (1:Int) > 0 by decide,if_true]
   by_cases h:i < 0
   ·simp only [h,if_true] <;> omega
   ·simp only [h,if_false] <;> omega
 ·cases hi with
  | none=>simp [sliceBounds,HT.sIx]
  | some i =>
   simp only [sliceBounds,HT.sIx,Option.getD_none,show (1:Int) > 0 by decide,if_true]
   by_cases h:i < 0
   ·simp only [h,if_true] <;> omega
   ·simp only [h,if_false] <;> omega
theorem slicePick_cut (its:List Value)(lo hi:Option Int):slicePick its.toArray lo hi none=((its.drop (HT.sIx its.length 0 lo)).take (HT.sIx its.length its.length hi - HT.sIx its.length 0 lo)).toArray:=by
 obtain ⟨h1,h2,h3⟩:=slice_bounds lo hi its.toArray.size
 unfold slicePick
 rw [h1,h2,h3]
 simp only [sliceRange_one,pick_run,List.size_toArray] <;> rfl
def rSlL (K:PySem.W.Frag):V->Option Int->Option Int->Hp->VK->Prop:=fun x lo hi H Q=>∃ a xs,x=.ref a/\SqL K H a xs/\∀ p,H p=none->Q (.ref p) (upd H p (.lst (cutV xs lo hi)))
theorem sl_list:SlR X (rSlL X.K):=by
 intro pins s σ H x v vl vu lo hi sl Q I rx hs pl pu h
 obtain ⟨a,xs,rfl,hx,q⟩:=h
 cases rx
 obtain ⟨its,r,ht,hz⟩:=I.list hx
 have hlen:=r.length
 refine ⟨"list",_,slot_list_getitem.lookup,ht.isList.typeIs,?_⟩
 refine wpAny_getItem_list_slice ht.isList hs pl pu .none (by simp) ?_ (by rw [List.size_toArray] <;> omega)
 rw [slicePick_cut,←hlen]
 refine ⟨.ref s.heap.objs.size,_,I.laid (t':=s.toks) (o:=.lst (cutV xs lo hi)) (fun b ob q=>Heap.get?_push_of_some _ q) (Nat.le_refl _) ?_,rfl,q _ (I.hok.fresh (Nat.le_refl _))⟩
 exact ⟨Nat.le_trans (cutV_length xs lo hi) hz,_,0,(r.drop (HT.sIx xs.length 0 lo)).take (HT.sIx xs.length xs.length hi - HT.sIx xs.length 0 lo),Heap.get?_push_size _ rfl⟩
def flatV:V->Bool
 | .non=>true
 | .bl _=>true
 | .int _=>true
 | .str _=>true
 | _=>false
def eqV:V->V->Bool
 | .non,.non=>true
 | .bl a,.bl b=>a == b
 | .bl a,.int b=>(if a then 1 else 0) == b
 | .int a,.bl b=>a == (if b then 1 else 0)
 | .int a,.int b=>a == b
 | .str a,.str b=>a == b
 | _,_=>false
theorem eqAt_V {A:Around}{s:Shared}{y x:V}{u v:Value}(ry:RelV y u)(rx:RelV x v)(fy:flatV y=true)(fx:flatV x=true):SeqAt.EqAt A s u v (eqV y x):=by
 cases y with
 | non =>
  cases ry
  cases x with
  | non=>cases rx;exact SeqAt.EqAt.same _
  | bl b=>cases rx;exact SeqAt.EqAt.none_bool b
  | int b=>obtain ⟨t,rfl⟩:=rx;exact SeqAt.EqAt.none_int b t
  | str b=>obtain ⟨t,rfl⟩:=rx;exact SeqAt.EqAt.none_str b t
  | _=>exact absurd (show false=true from fx) Bool.false_ne_true
 | bl a =>
  cases ry
  cases x with
  | non=>cases rx;exact SeqAt.EqAt.bool_none a
  | bl b=>cases rx;exact SeqAt.EqAt.bool_bool a b
  | int b=>obtain ⟨t,rfl⟩:=rx;exact SeqAt.EqAt.bool_int a b t
  | str b=>obtain ⟨t,rfl⟩:=rx;exact SeqAt.EqAt.bool_str a b t
  | _=>exact absurd (show false=true from fx) Bool.false_ne_true
 | int a =>
  obtain ⟨t',rfl⟩:=ry
  cases x with
  | non=>cases rx;exact SeqAt.EqAt.int_none a t'
  | bl b=>cases rx;exact SeqAt.EqAt.int_bool a t' b
  | int b=>obtain ⟨t,rfl⟩:=rx;exact SeqAt.EqAt.int_int a t' b t
  | str b=>obtain ⟨t,rfl⟩:=rx;exact SeqAt.EqAt.int_str a t' b t
  | _=>exact absurd (show false=true from fx) Bool.false_ne_true
 | str a =>
  obtain ⟨t',rfl⟩:=ry
  cases x with
  | non=>cases rx;exact SeqAt.EqAt.str_none a t'
  | bl b=>cases rx;exact SeqAt.EqAt.str_bool a t' b
  | int b=>obtain ⟨t,rfl⟩:=rx;exact SeqAt.EqAt.str_int a t' b t
  | str b=>obtain ⟨t,rfl⟩:=rx;exact SeqAt.EqAt.str_str a t' b t
  | _=>exact absurd (show false=true from fx) Bool.false_ne_true
 | _=>exact absurd (show false=true from fy) Bool.false_ne_true
def eqU (x:V)(u:Value):Bool:=match u with
 | .none=>eqV .non x
 | .bool b=>eqV (.bl b) x
 | .int i _=>eqV (.int i) x
 | .str z _=>eqV (.str z) x
 | _=>false
theorem eqU_of {x y:V}{u:Value}(r:RelV y u)(f:flatV y=true):eqU x u=eqV y x:=by
 cases y with
 | non=>cases r;rfl
 | bl b=>cases r;rfl
 | int i=>obtain ⟨t,rfl⟩:=r;rfl
 | str z=>obtain ⟨t,rfl⟩:=r;rfl
 | _=>exact absurd (show false=true from f) Bool.false_ne_true
theorem any_eqU {x:V}:∀ {xs:List V} {us:List Value},Vals xs us->xs.all flatV=true->us.any (eqU x)=xs.any fun y=>eqV y x
 | _,_,.nil,_=>rfl
 | y::xs,u::us,.cons r t,f=>by
  rw [List.all_cons,Bool.and_eq_true] at f
  rw [List.any_cons,List.any_cons,eqU_of r f.1,any_eqU t f.2]
theorem mem_eqAt {A:Around}{s:Shared}{x:V}{v:Value}(rx:RelV x v)(fx:flatV x=true):∀ {xs:List V} {us:List Value},Vals xs us->xs.all flatV=true->∀ u∈us,SeqAt.EqAt A s u v (eqU x u)
 | _,_,.nil,_=>fun u hu=>by cases hu
 | y::xs,u::us,.cons r t,f=>fun u' hu=>by
  rw [List.all_cons,Bool.and_eq_true] at f
  rcases List.mem_cons.mp hu with rfl | hu
  ·rw [eqU_of r f.1];exact eqAt_V r rx f.1 fx
  ·exact mem_eqAt rx fx t f.2 u' hu
def inV (x:V)(xs:List V):Bool:=xs.any fun y=>eqV y x
def rIn (K:PySem.W.Frag)(neg:Bool):R2:=fun x y H Q=>∃ p xs,y=.ref p/\(SqL K H p xs\/SqT K H p xs)/\flatV x=true/\xs.all flatV=true/\Q (.bl (if neg then !inV x xs else inV x xs)) H
theorem op_in_seq:OpR X (compareOp .In) (rIn X.K false):=by
 intro pins s σ H x y v u Q I rx ry h
 obtain ⟨p,xs,rfl,hq,fx,fs,q⟩:=h
 cases ry
 rcases hq with hq | hq
 ·obtain ⟨its,r,pl,hz⟩:=I.list hq
  refine SeqAt.in_listAt (eqU x) pl.isList (fun w hw=>mem_eqAt rx fx r fs w (by simpa using hw)) ⟨.bl _,H,I,rfl,?_⟩
  rw [show its.toArray.any (eqU x)=its.any (eqU x) by simp,any_eqU r fs]
  exact q
 ·obtain ⟨its,r,pl,hz⟩:=I.tuple hq
  refine SeqAt.in_tupleAt (eqU x) pl (fun w hw=>mem_eqAt rx fx r fs w (by simpa using hw)) ⟨.bl _,H,I,rfl,?_⟩
  rw [show its.toArray.any (eqU x)=its.any (eqU x) by simp,any_eqU r fs]
  exact q
theorem op_notIn_seq:OpR X (compareOp .NotIn) (rIn X.K true):=by
 intro pins s σ H x y v u Q I rx ry h
 obtain ⟨p,xs,rfl,hq,fx,fs,q⟩:=h
 cases ry
 rcases hq with hq | hq
 ·obtain ⟨its,r,pl,hz⟩:=I.list hq
  refine SeqAt.notIn_listAt (eqU x) pl.isList (fun w hw=>mem_eqAt rx fx r fs w (by simpa using hw)) ⟨.bl _,H,I,rfl,?_⟩
  rw [show its.toArray.any (eqU x)=its.any (eqU x) by simp,any_eqU r fs]
  exact q
 ·obtain ⟨its,r,pl,hz⟩:=I.tuple hq
  refine SeqAt.notIn_tupleAt (eqU x) pl (fun w hw=>mem_eqAt rx fx r fs w (by simpa using hw)) ⟨.bl _,H,I,rfl,?_⟩
  rw [show its.toArray.any (eqU x)=its.any (eqU x) by simp,any_eqU r fs]
  exact q
theorem call_len_seq:CallR X (.builtin "len") (fun xs H Q=>∃ p ys,xs=[.ref p]/\(SqL X.K H p ys\/SqT X.K H p ys)/\Q (.int ys.length) H):=by
 intro pins s σ H xs us Q I r h
 obtain ⟨p,ys,rfl,hq,q⟩:=h
 obtain ⟨u,rfl,rx⟩:=vals1 r
 cases rx
 have hn:=line63
 rcases hq with hq | hq
 ·obtain ⟨its,r',pl,hz⟩:=I.list hq
  have hlen:=r'.length
  exact Calls.call_len_list pl.isList (by simp only [List.size_toArray] <;> omega) ⟨.int ys.length,H,I.tok _,⟨s.toks + 1,by rw [List.size_toArray,hlen]⟩,q⟩
 ·obtain ⟨its,r',pl,hz⟩:=I.tuple hq
  have hlen:=r'.length
  exact len_tuple pl (by simp only [List.size_toArray] <;> omega) ⟨.int ys.length,H,I.tok _,⟨s.toks + 1,by rw [List.size_toArray,hlen]⟩,q⟩
theorem call_len_str:CallR X (.builtin "len") (fun xs H Q=>∃ z,xs=[.str z]/\z.length<=sizeLine/\Q (.int z.length) H):=by
 intro pins s σ H xs us Q I r h
 obtain ⟨z,rfl,hz,q⟩:=h
 obtain ⟨u,rfl,t,rfl⟩:=vals1 r
 have hn:=line63
 exact len_str (by omega) ⟨.int z.length,H,I.tok _,⟨_,rfl⟩,q⟩
theorem call_tuple_of:CallR X (.type "tuple") (fun xs H Q=>∃ p ys,xs=[.ref p]/\((SqL X.K H p ys/\∀ l,H l=none->Q (.ref l) (upd H l (.tup ys)))\/(SqT X.K H p ys/\Q (.ref p) H))):=by
 intro pins s σ H xs us Q I r h
 obtain ⟨p,ys,rfl,h⟩:=h
 obtain ⟨u,rfl,rx⟩:=vals1 r
 cases rx
 rcases h with ⟨hq,q⟩ | ⟨hq,q⟩
 ·obtain ⟨its,r',pl,hz⟩:=I.list hq
  have hlen:=r'.length
  refine call_tuple_list pl.isList (fun h' kp=>?_) (by simp only [List.size_toArray] <;> omega)
  have I1:Inv X pins σ H { s with heap:=h' }:=I.kept (t':=s.toks) kp
  have I2:Inv X pins σ (upd H h'.objs.size (.tup ys)) { s with heap:=h'.push { cls:=.type "tuple",data:=.seq its.toArray } } :=
   I1.laid (t':=s.toks) (fun b o e=>Heap.get?_push_of_some _ e) (Nat.le_refl _) (show ObjOk X.prog X.w _ _ _ (.tup ys) from ⟨hz,its,r',IsTup.new _ _,_,Heap.get?_push_size _ rfl,rfl⟩)
  exact ⟨.ref h'.objs.size,_,I2,rfl,q _ (I1.hok.fresh (Nat.le_refl _))⟩
 ·obtain ⟨its,r',pl,hz⟩:=I.tuple hq
  exact call_tuple_same pl ⟨.ref p,H,I,rfl,q⟩
def tyV (K:PySem.W.Frag)(T:String)(x:V)(H:Hp):Prop:=match x with
 | .str _=>T="str"
 | .int _=>T="int"
 | .ref p=>(T="list"/\∃ xs,SqL K H p xs)\/(T="tuple"/\∃ o,K.lookup p=some o/\o.cls=.type "tuple"/\o.dict=none) \/
   (T="dict"/\((∃ kvs,H p=some (.dK kvs))\/∃ kvs,H p=some (.dT kvs)))\/(T="set"/\∃ S n,H p=some (.set S n))
 | _=>False
theorem tyV_is {pins:List (Addr × Obj)}{σ:St}{H:Hp}{s:Shared}{T:String}{x:V}{v:Value}(I:Inv X pins σ H s)(r:RelV x v)(ty:tyV X.K T x H) :
  s.TypeIs v T/\∀ a,v=.ref a->∃ ob,s.heap.get? a=some ob/\ob.dict=none:=by
 cases x with
 | str z =>
  obtain ⟨t,rfl⟩:=r
  cases (show T="str" from ty)
  exact ⟨typeIs_str s z t,fun _ e=>nomatch e⟩
 | int i =>
  obtain ⟨t,rfl⟩:=r
  cases (show T="int" from ty)
  exact ⟨typeIs_int s i t,fun _ e=>nomatch e⟩
 | ref p =>
  cases r
  rcases ty with ⟨rfl,xs,hq⟩ | ⟨rfl,o,hk,hc,hd⟩ | ⟨rfl,hk⟩ | ⟨rfl,S,n,hk⟩
  ·obtain ⟨its,_,pl,_⟩:=I.list hq
   refine ⟨pl.isList.typeIs,fun a e=>?_⟩
   cases e
   obtain ⟨o,n,e,c,hd,_⟩:=pl
   exact ⟨o,e,hd⟩
  ·refine ⟨⟨o,I.kIn p o hk,hc⟩,fun a e=>?_⟩
   cases e
   exact ⟨o,I.kIn _ o hk,hd⟩
  ·have z:∃ o,s.heap.get? p=some o/\o.ExactDict:=by
    rcases hk with ⟨kvs,hk⟩ | ⟨kvs,hk⟩
    ·obtain ⟨_,_,_,_,o,_,_,e,ex,_⟩:=I.hok p _ hk
     exact ⟨o,e,ex⟩
    ·obtain ⟨_,_,_,_,o,_,_,e,ex,_⟩:=I.hok p _ hk
     exact ⟨o,e,ex⟩
   obtain ⟨o,e,ex⟩:=z
   refine ⟨⟨o,e,ex.1⟩,fun a e2=>?_⟩
   cases e2
   exact ⟨o,e,ex.2.1⟩
  ·obtain ⟨o,_,_,_,e,ex,_⟩:=I.hok p _ hk
   refine ⟨⟨o,e,ex.1⟩,fun a e2=>?_⟩
   cases e2
   exact ⟨o,e,ex.2.1⟩
 | _=>exact False.elim ty
def tBM0 (K:PySem.W.Frag)(T:String)(r:V->List V->Hp->VK->Prop)(to:TE):TE:=fun σ H Q=>to σ H fun x H1=>tyV K T x H1/\r x [] H1 Q
def tBM (K:PySem.W.Frag)(T:String)(r:V->List V->Hp->VK->Prop)(to:TE)(t:TA):TE:=fun σ H Q=>to σ H fun x H1=>tyV K T x H1/\t σ H1 fun xs H2=>r x xs H2 Q
variable {o e : Expr} {es : List Expr} {to : TE} {t : TA} {name : Str} {apos cpos : Pos} {T id : String} {r : V → List V → Hp → VK → Prop}
theorem pe_bm0 (pa:PlainAttrs T)(slot:Slot T name id)(hty:typeOf (.builtin id)=pure (.type "method_descriptor"))(hm:MtR X id r)(ho:PE X o to)
  (hbase:attributeBase o name X.env (eval o X.env)=eval o X.env:=by rfl) (hline:(apos.endLine == cpos.line)=true:=by rfl):PE X (.Call (.Attribute o name apos) [] [] cpos) (tBM0 X.K T r to):=by
 intro pins s σ H Q I h
 refine wpAny_Call_method0_late hbase hline (thn (ho pins s σ H _ I h) fun v s1 ⟨x,H1,I1,r1,ty,q1⟩=>?_)
 obtain ⟨h1,h2⟩:=tyV_is I1 r1 ty
 exact ⟨T,id,pa,slot,hty,h1,h2,Calls.callWith_builtin rfl (PySem.evalArgs_none (hm pins s1 σ H1 x [] v [] Q I1 r1 .nil q1))⟩
theorem pe_bm (pa:PlainAttrs T)(slot:Slot T name id)(hty:typeOf (.builtin id)=pure (.type "method_descriptor"))(hm:MtR X id r)(ho:PE X o to)(ha:PA X (e::es) t)
  (hbase:attributeBase o name X.env (eval o X.env)=eval o X.env:=by rfl)
  (hfew:((backTo cpos (starEach (e::es) X.env)).all (fun x=>!x.1) && (backToKw cpos (keywordEach [] X.env)).all (fun x=>x.1.isSome)
   && decide ((e::es).length + ([]:List Keyword).length + (if ([]:List Keyword).isEmpty then 0 else 1) < 30))=true:=by rfl)
  (hline:(apos.endLine == cpos.line)=true:=by rfl) (hs:starEach (e::es) X.env=(false,eval e X.env)::starEach es X.env:=by rfl) (hplain:(backTo cpos (starEach es X.env)).any (·.1)=false:=by rfl) :
  PE X (.Call (.Attribute o name apos) (e::es) [] cpos) (tBM X.K T r to t):=by
 intro pins s σ H Q I h
 refine wpAny_Call_method_late hbase hfew hline rfl (thn (ho pins s σ H _ I h) fun v s1 ⟨x,H1,I1,r1,ty,q1⟩=>?_)
 obtain ⟨h1,h2⟩:=tyV_is I1 r1 ty
 refine ⟨T,id,pa,slot,hty,h1,h2,?_⟩
 have hA:=ha cpos pins s1 σ H1 _ I1 q1
 rw [hs] at hA ⊢
 refine Calls.callWith_builtin (by show (false || (backTo cpos (starEach es X.env)).any (·.1))=false;rw [hplain] <;> rfl) (Calls.evalArgs_plain ?_)
 exact thn hA fun us s2 ⟨vs,H2,I2,r2,q2⟩=>hm pins s2 σ H2 x vs v us Q I2 r1 r2 q2
/- xs.append(e),list.index on a module's tuple .. are MtR facts of 06m -/
end
end L2
namespace L2
open PySem PySem.Spec PyProof.Rows
def MtM (X:Cx)(id:String)(r:V->List V->Hp->VK->Prop):Prop :=
 ∀ (pins:List (Addr × Obj)) (s:Shared) (σ:St) (H:Hp) (x:V) (xs:List V) (v:Value) (us:List Value) (Q:VK),Inv X pins σ H s->RelV x v->Vals xs us->r x xs H Q ->
  wpAny (model X.prog X.w) X.A (call (.builtin id) (v::us)) (EP X pins σ Q) X.xe s
theorem Vals.one:∀ {x:V} {us:List Value},Vals [x] us->∃ u,us=[u]/\RelV x u
 | _,_,.cons r .nil=>⟨_,rfl,r⟩
theorem Vals.zero:∀ {us:List Value},Vals [] us->us=[]
 | _,.nil=>rfl
theorem Vals.dropLast {xs:List V}{us:List Value}(h:Vals xs us):Vals xs.dropLast us.dropLast:=by
 induction h with
 | nil=>exact .nil
 | cons r t ih =>
  cases t with
  | nil=>exact .nil
  | cons q t'=>exact .cons r ih
theorem erase_last {α:Type}(l:List α):l.eraseIdx (l.length - 1)=l.dropLast:=by
 induction l with
 | nil=>rfl
 | cons a r ih =>
  cases r with
  | nil=>rfl
  | cons b r =>
   have e:(a::b::r).length - 1=((b::r).length - 1) + 1:=by
    have h1:(a::b::r).length=r.length + 2:=rfl
    have h2:(b::r).length=r.length + 1:=rfl
    omega
   rw [e,List.eraseIdx_cons_succ,ih]
   all_goals rfl
section
variable {X : Cx} {pins : List (Addr × Obj)} {σ : St} {H : Hp} {s : Shared} {l b : Addr} {xs ys zs : List V}
theorem Inv.lset {its its':List Value}{n:Nat}{f:Array Value->Array Value}{t':Nat}(I:Inv X pins σ H s)(hH:H l=some (.lst xs))
  (e:s.heap.get? l=some { cls:=.type "list",data:=.seq its.toArray n }) (hf:f its.toArray=its'.toArray) (hv:Vals ys its') (hz:ys.length<=sizeLine) :
  Inv X pins σ (upd H l (.lst ys)) { s with heap:=s.heap.update l (Obj.mapSeq f),toks:=t' }:=by
 have q:=PySem.IsL.update e f
 rw [hf] at q
 refine I.write (x:=l) (e:=l) (by rw [hH];exact trivial) (.inl rfl) (fun b' u hb hu=>(Heap.get?_update_other s.heap (Obj.mapSeq f) (Ne.symm hb)).trans hu) ⟨_,q⟩ ?_
 exact ⟨hz,its',_,hv,q⟩
theorem Inv.lnew {its:List Value}{t':Nat}(I:Inv X pins σ H s)(hv:Vals ys its)(hz:ys.length<=sizeLine) :
  Inv X pins σ (upd H s.heap.objs.size (.lst ys)) { s with heap:=s.heap.push { cls:=.type "list",data:=.seq its.toArray },toks:=t' } :=
 I.laid (fun _ _ q=>Heap.get?_push_of_some _ q) (Nat.le_refl _) ⟨hz,its,0,hv,Heap.get?_push_size _ rfl⟩
theorem Inv.fresh (I:Inv X pins σ H s):H s.heap.objs.size=none:=I.hok.fresh (Nat.le_refl _)
theorem Inv.lstM (I:Inv X pins σ H s)(hH:H l=some (.lst xs)):xs.length<=sizeLine/\∃ (its:List Value) (n:Nat),Vals xs its/\xs.length=its.length/\s.heap.get? l=some { cls:=.type "list",data:=.seq its.toArray n }:=by
 obtain ⟨z,its,n,r,e⟩:=I.hok l _ hH
 exact ⟨z,its,n,r,r.length,e⟩
end
section
variable {X : Cx}
def rAppend:V->List V->Hp->VK->Prop:=fun x vs H Q=>∃ l xs y,x=.ref l/\vs=[y]/\H l=some (.lst xs)/\xs.length < sizeLine/\Q .non (upd H l (.lst (xs++[y])))
theorem mt_append:MtM X "list.append" rAppend:=by
 intro pins s σ H x vs v us Q I rx rv h
 obtain ⟨l,xs,y,rfl,rfl,hH,hz,q⟩:=h
 cases rx
 obtain ⟨u,rfl,ru⟩:=rv.one
 obtain ⟨z,its,n,r,hl,e⟩:=I.lstM hH
 refine call_meets F.slot_list_append ⟨_,e,rfl⟩ F.entry_list_append (F.args_list_append_2 _ _) (PySem.list_append l its.toArray n u (by rw [List.size_toArray];omega)) ⟨e,?_⟩
 refine ⟨.non,_,I.lset (its':=its++[u]) hH e (by simp) (r.append (.cons ru .nil)) ?_,rfl,q⟩
 rw [List.length_append,List.length_singleton]
 omega
def rPop:V->List V->Hp->VK->Prop:=fun x vs H Q=>∃ l xs y,x=.ref l/\vs=[]/\H l=some (.lst xs)/\xs[xs.length - 1]?=some y/\Q y (upd H l (.lst xs.dropLast))
theorem mt_pop:MtM X "list.pop" rPop:=by
 intro pins s σ H x vs v us Q I rx rv h
 obtain ⟨l,xs,y,rfl,rfl,hH,hy,q⟩:=h
 cases rx
 have hus:=rv.zero
 subst hus
 obtain ⟨z,its,n,r,hl,e⟩:=I.lstM hH
 obtain ⟨u,hu,ru⟩:=r.get hy
 have hy':its.toArray[its.toArray.size - 1]?=some u:=by
  show its.toArray[its.length - 1]?=some u
  rw [←Array.getElem?_toList,←hl]
  exact hu
 refine call_meets F.slot_list_pop ⟨_,e,rfl⟩ F.entry_list_pop (F.args_list_pop_1 _) (MeetsSeq.list_pop_last l its.toArray n u hy' (by rw [List.size_toArray];omega)) ⟨e,?_⟩
 refine ⟨y,_,I.lset (its':=its.dropLast) hH e ?_ r.dropLast ?_,ru,q⟩
 ·show its.toArray.eraseIdxIfInBounds (its.toArray.size - 1)=its.dropLast.toArray
  rw [List.size_toArray,List.eraseIdxIfInBounds_toArray,erase_last]
 ·rw [List.length_dropLast]
  omega
def rCat:R2:=fun x y H Q=>∃ l b xs zs,x=.ref l/\y=.ref b/\H l=some (.lst xs)/\H b=some (.lst zs)/\xs.length + zs.length<=sizeLine/\∀ p,H p=none->Q (.ref p) (upd H p (.lst (xs++zs)))
theorem op_cat:OpR X (binaryOp .Add) rCat:=by
 intro pins s σ H x y v u Q I rx ry h
 obtain ⟨l,b,xs,zs,rfl,rfl,hH,hB,hz,q⟩:=h
 cases rx
 cases ry
 obtain ⟨z,its,n,r,hl,e⟩:=I.lstM hH
 obtain ⟨z2,its2,n2,r2,hl2,e2⟩:=I.lstM hB
 refine PySem.P.add_list e e2 ?_ (by rw [List.size_toArray,List.size_toArray];omega)
 have ea:its.toArray++its2.toArray=(its++its2).toArray:=by simp
 rw [ea]
 exact ⟨.ref _,_,I.lnew (t':=s.toks) (r.append r2) (by rw [List.length_append];omega),rfl,q _ I.fresh⟩
end
section
variable {prog : Program} {w : World} {A : Around} {E : Value → Shared → Prop} {s : Shared}
end
section
variable {X : Cx}
end
end L2
namespace Att
open PySem PySem.W PySem.Calls PyProof.Rows
theorem ints_of_wellAll {P:Params}{h:Heap}:∀ (ns:List Int) (vs:List Value),WellAll P h vs (ns.map WData.int)->IntsAre vs ns:=by
 intro ns
 induction ns with
 | nil =>
  intro vs w
  rw [List.map_nil] at w
  cases w
  exact .nil
 | cons n ns ih =>
  intro vs w
  rw [List.map_cons] at w
  cases w with
  | cons a b =>
   cases a
   exact .cons _ _ (ih _ b)
theorem script_of {l:OpenLaw}{n:Nat}(hn:l.most=some n){P:Params}{h:Heap}{args:List WData}{vals:List Value}
  (hpre:l.row.toRowW.claim.pre args=true) (hwl:WellAll P h vals args) :
  ∃ a vs ns,vals=[Value.ref a]/\args=[WData.list (ns.map WData.int)]/\h.get? a=some { cls:=.type "list",data:=.seq vs.toArray }/\IntsAre vs ns/\ns.length<=n:=by
 have hsh:WShape.hasAll [] args [.list .int]=true:=(pre_splitW hpre).1
 have hc:l.pre.holds [] { args:=args }=true:=(pre_splitW hpre).2
 obtain ⟨d,r,rfl,h1,h2⟩:=hasAllW_cons hsh
 obtain rfl:=hasAllW_nil h2
 obtain ⟨xs,rfl,h3⟩:=hasW_list h1
 obtain ⟨ns,rfl⟩:=items_int h3
 have hlen:ns.length<=n:=by
  unfold OpenLaw.pre at hc
  have h4:(WTm.not (.lt (.lit (.int (n:Int))) (.len (.arg 0)))).holds [] { args:=[.list (ns.map .int)] }=true:=by
   have h4:=(holds_andW hc).1
   rw [hn] at h4
   exact h4
  have h5:=condW_of h4 (w_not (w_lt w_lit (w_len_list (w_arg rfl))))
  rw [List.length_map] at h5
  refine Nat.le_of_not_lt fun q=>?_
  have q':(n:Int) < ((ns.length:Nat):Int):=by omega
  first
   | (rw [decide_eq_true q'] at h5;exact absurd h5 (by decide))
   | (simp at h5;omega)
 cases hwl with
 | cons w1 w2 =>
  cases w2
  cases w1 with
  | list ho hall=>exact ⟨_,_,ns,rfl,rfl,ho,ints_of_wellAll ns _ hall,hlen⟩
theorem post_true (l:OpenLaw)(args:List WData):l.row.toRowW.claim.post args (.bool true) args=true :=
 postW_of (r:=l.row.toRowW) (X:=(true == true))
  (show WShape.has [] (.bool true) .bool=true by first | rfl | decide | simp [WShape.has,WShape.arms,WShape.armsAll])
  (show (WTm.eq .res (.lit (.bool true))).value [] { args:=args,res:=some (.bool true),after:=args }=some (.bool (true == true)) from w_eq_bool (w_res rfl) w_lit) rfl
theorem attach_call {l:OpenLaw}{n:Nat}{q:Program}{loose:List Str}{XP:(Str->Option Value)->Heap->Prop}{YP:World->Heap->Prop}{d:DefRec}
  (hn:l.most=some n) (hdf:d.params.defaults=[])
  (call:∀ (w:World) (s₀ s₁:Shared) (mg mb:Str->Option Value) (fa:Addr) (o:Obj) (pm cd doc:Value) (a:Addr) (vs:List Value) (ns:List Int),
   Ground q loose [] XP w s₀ mg mb s₁.heap->YP w s₁.heap ->
   s₁.heap.get? fa=some o->o.data=.func (docDef d.name d.params d.body d.scope pm cd doc)->s₁.heap.CodeRec cd d.name->mg d.name=some (.ref fa) ->
   s₁.heap.get? a=some { cls:=.type "list",data:=.seq vs.toArray }->IntsAre vs ns->ns.length<=n->s₁.gens=#[] ->
   codeAny (model l.prog w) callerA (.call (.ref fa) ⟨[.ref a],[]⟩) (fun r s'=>r=.ok (.ret (.bool true))/\OldK s₁.heap s'.heap/\s'.os=s₁.os/\AllBare s'.gens) s₁) :
  WalkO q loose XP YP l.row.toRowW d [] (fun f vs=>PySem.call f vs):=by
 intro w s₀ s₁ mg mb G Y fa o pm cd doc dV kV ho hd hcd hD hmg hg args vals as hpre hlay hrd hwl hlo
 obtain rfl:dV=.none:=Dflts.none hD hdf
 obtain rfl:kV=.none:=Dflts.noKw hD
 obtain ⟨a,vs,ns,rfl,rfl,hobj,hints,hlen⟩:=script_of hn hpre hwl
 refine enter_call (codeAny_mono (call w s₀ s₁ mg mb fa o pm cd doc a vs ns G Y ho (fd_plain hd) hcd hmg hobj hints hlen hg) fun r s' hq=>?_)
 obtain ⟨rfl,h2,h3,h4⟩:=hq
 exact ⟨.inl ⟨.bool true,.bool true,[],rfl,fun _=>rfl,.bool true,post_true l _,fun _=>⟨List.Pairwise.nil,fun _ hm=>(nomatch hm)⟩⟩,h2,h3,h4⟩
section
variable {prog : Program} {w : World} {A : Around} {E : Value → Shared → Prop} {s : Shared} {K : Frag}
end
end Att
namespace L2
open PySem PySem.Spec PyProof.Rows
theorem vals_ints:∀ {vs:List Value} {ns:List Int},IntsAre vs ns->Vals (ns.map V.int) vs
 | _,_,.nil=>.nil
 | _,_,.cons n t h=>.cons ⟨t,rfl⟩ (vals_ints h)
def Only (H:Hp):Prop:=∀ b,H b=none\/∃ o xs,H b=some (.frz o (.lst xs))
theorem law_call {P:Program}{w:World}{K:PySem.W.Frag}{mg mb:Str->Option Value}{CX:CXT}{k:Nat}{fa a:Addr}{fd:FuncData}{x:Str}{sp:Sp}{s₁:Shared}{vs:List Value}{ns:List Int}
  (KX:K.In s₁.heap) (hns:s₁.heap.Ns mainGlobals mg) (hb:s₁.heap.Ns builtinsNs mb) (hbb:∀ x:Str,x≠"__name__"->mb x=bootBuiltins x) (hlim:s₁.heap.NoLimit) (hg:s₁.gens=#[])
  (ha:s₁.heap.get? a=some { cls:=.type "list",data:=.seq vs.toArray }) (hi:IntsAre vs ns) (hl:ns.length<=sizeLine) (hr:Room k callerA)
  (F:∀ base:Heap,K.In base->base.Ns mainGlobals mg->FnOk P w K mg base CX k fa fd [x] sp) (hbind:∀ (s:Shared) (u:Value),BindsTo s fd ⟨[u],[]⟩ [(x,u)])
  (hsp:∀ H:Hp,Only H->SqL K H a (ns.map V.int)->sp [.ref a] H (fun v _=>v=.bl true) fun _ _ _=>False)
  (hCX:∀ H e s',CX [] H s₁ (fun _ _ _=>False) e s'->False) :
  codeAny (model P w) callerA (.call (.ref fa) ⟨[.ref a],[]⟩) (fun r s'=>r=.ok (.ret (.bool true))/\OldK s₁.heap s'.heap/\s'.os=s₁.os/\AllBare s'.gens) s₁:=by
 have rv:=vals_ints hi
 have lenV:=hi.length
 -- from an abstract heap in which nothing but the script may be tracked
 have core:∀ H:Hp,Only H->SqL K H a (ns.map V.int)->HOk P w H s₁.heap->(∀ b,H b≠none->b=a)->(H a≠none->K.lookup a=none) ->
   codeAny (model P w) callerA (.call (.ref fa) ⟨[.ref a],[]⟩) (fun r s'=>r=.ok (.ret (.bool true))/\OldK s₁.heap s'.heap/\s'.os=s₁.os/\AllBare s'.gens) s₁:=by
  intro H hO hS hok hA hK
  have base_of:∀ {b:Addr} {o:Obj},s₁.heap.get? b=some o->H b=none->(hidT s₁.heap H).get? b=some o:=fun e n=>hidT_get e n
  have noA:∀ {b:Addr} {o:Obj} {es:Array DictEntry} {ep:Nat},s₁.heap.get? b=some o->o.data=.dict es ep->H b=none:=fun {b o es ep} e d=>by
   cases q:H b with
   | none=>rfl
   | some u =>
    have e':b=a:=hA b (by rw [q];simp)
    subst e'
    rw [ha] at e;cases e
    have d':Data.seq vs.toArray _=Data.dict es ep:=d
    cases d'
  have nsK:∀ {b:Addr} {m:Str->Option Value},s₁.heap.Ns b m->(hidT s₁.heap H).Ns b m:=fun {b m} ⟨o,es,ep,e,d,r⟩=>⟨o,es,ep,base_of e (noA e d),d,r⟩
  have hKb:K.In (hidT s₁.heap H):=fun b o e=>base_of (KX b o e) (by
   cases q:H b with
   | none=>rfl
   | some u =>
    have e':b=a:=hA b (by rw [q];simp)
    subst e'
    rw [hK (by rw [q];simp)] at e;cases e)
  have hM:Mod K mg (hidT s₁.heap H):=⟨hKb,nsK hns,⟨mb,nsK hb,hbb⟩,let ⟨mc,h1,h2⟩:=hlim;⟨mc,nsK h1,h2⟩⟩
  have e0:Env0 P w K mg (hidT s₁.heap H) callerA [] s₁ H:=⟨rfl,hM,fun b o e=>of_hidT e,Nat.le_of_eq (hidT_size _ _),trivial,fun b hb=>absurd (show b∈([]:List Addr) from hb) (by simp),hok,.of_eq hg⟩
  refine codeAny_mono ((F _ hKb (nsK hns)).run callerA [] s₁ H ⟨[.ref a],[]⟩ [.ref a] [.ref a] _ _ hr e0 (hbind s₁ (.ref a)) (.cons rfl .nil) (hsp H hO hS)) fun r s' h=>?_
  cases r with
  | error e=>exact (hCX H e s' h).elim
  | ok fl =>
   cases fl with
   | next=>exact False.elim h
   | brk=>exact False.elim h
   | cont=>exact False.elim h
   | ret u =>
    obtain ⟨v,H',os,bare,un,hok',r',q⟩:=h
    have q':v=.bl true:=q
    subst q'
    obtain rfl:u=Value.bool true:=r'
    refine ⟨rfl,OldK.of_keep fun b o e=>?_,os,bare⟩
    cases q:H b with
    | none=>exact un.keep b o e q (by intro z;exact absurd (show b∈([]:List Addr) from z) (by simp)) (by simp)
    | some u =>
     rcases hO b with z | ⟨ob,xs,z⟩
     ·rw [q] at z;cases z
     ·have z2:=un.frzs b ob _ z
      obtain ⟨e1,_⟩:=hok b _ z
      obtain ⟨e2,_⟩:=hok' b _ z2
      rw [e] at e1;cases e1
      exact e2
 cases hk:K.lookup a with
 | some o =>
  -- the script is one of the module's own objects
  have e:=KX a o hk
  rw [ha] at e
  cases e
  refine core (fun _=>none) (fun _=>.inl rfl) (.inr ⟨_,vs.toArray,_,hk,rfl,rfl,rfl,by rw [List.size_toArray,lenV];exact hl,by simpa using rv⟩) (fun b u z=>by have z':(none:Option HO)=some u:=z;cases z') (fun b z=>absurd rfl z) fun z=>absurd rfl z
 | none =>
  refine core (fun b=>if b=a then some (.frz { cls:=.type "list",data:=.seq vs.toArray } (.lst (ns.map V.int))) else none) (fun b=>?_) (.inl (.inr ⟨{ cls:=.type "list",data:=.seq vs.toArray },if_pos rfl⟩)) (fun b u z=>?_) (fun b z=>?_) fun _=>hk
  ·by_cases hb:b=a
   ·exact .inr ⟨_,_,if_pos hb⟩
   ·exact .inl (if_neg hb)
  ·by_cases hb:b=a
   ·have z':=(if_pos hb).symm.trans z
    cases z'
    subst hb
    exact ⟨ha,by rw [List.length_map];exact hl,vs,_,rv,ha⟩
   ·have z':=(if_neg hb).symm.trans z
    cases z'
  ·by_cases hb:b=a
   ·exact hb
   ·exact absurd (if_neg hb) z
end L2
namespace L2
open PySem PySem.Spec PyProof.Rows
theorem walk_of {l:PySem.W.OpenLaw}{n k:Nat}{q:Program}{loose:List Str}{XP:(Str->Option Value)->Heap->Prop}{YP:World->Heap->Prop}{d:DefRec}{K:Params->PySem.W.Frag}{CX:World->CXT}{sp:World->Sp}{x:Str}
  (hn:l.most=some n) (hn2:n<=sizeLine) (hdf:d.params.defaults=[]) (hr:Room k callerA)
  (hY:∀ (w:World) (h:Heap),YP w h->(K w.params).In h)
  (F:∀ (w:World) (mg:Str->Option Value) (fa:Addr) (h:Heap),(K w.params).In h->h.Ns mainGlobals mg->mg d.name=some (.ref fa) ->
   ∃ fd:FuncData,(∀ (s:Shared) (u:Value),BindsTo s fd ⟨[u],[]⟩ [(x,u)]) /\
    ∀ base:Heap,(K w.params).In base->base.Ns mainGlobals mg->FnOk l.prog w (K w.params) mg base (CX w) k fa fd [x] (sp w))
  (hsp:∀ (w:World) (H:Hp) (a:Addr) (ns:List Int),ns.length<=n->Only H->SqL (K w.params) H a (ns.map V.int)->sp w [.ref a] H (fun v _=>v=.bl true) fun _ _ _=>False)
  (hCX:∀ (w:World) (H:Hp) (s:Shared) (e:Value) (s':Shared),CX w [] H s (fun _ _ _=>False) e s'->False) :
  PySem.W.WalkO q loose XP YP l.row.toRowW d [] (fun f vs=>PySem.call f vs):=by
 refine Att.attach_call hn hdf fun w s₀ s₁ mg mb fa o pm cd doc a vs ns G Y ho hd hcd hmg hobj hints hlen hg=>?_
 have KX:=hY w _ Y
 obtain ⟨fd,hb,hF⟩:=F w mg fa _ KX G.T.g hmg
 exact law_call KX G.T.g G.T.b G.T.builtins G.T.nolimit hg hobj hints (Nat.le_trans hlen hn2) hr hF hb (fun H hO hS=>hsp w H a ns hlen hO hS) fun H e s'=>hCX w H s₁ e s'
end L2
namespace L2
open PySem PySem.Spec PyProof.Rows
def defArgs (s:Stmt):Arguments:=match s with
 | .FunctionDef _ a _ _ _ _ _ _ _ _=>a
 | _=>{ posonlyargs:=[],args:=[],vararg:=none,kwonlyargs:=[],kw_defaults:=[],kwarg:=none,defaults:=[] }
def defBody (s:Stmt):List Stmt:=match s with
 | .FunctionDef _ _ b _ _ _ _ _ _ _=>b
 | _=>[]
def defScope (s:Stmt):Scope:=match s with
 | .FunctionDef _ _ _ _ _ _ sc _ _ _=>sc
 | _=>{ kind:=.function,names:=[],isGenerator:=false,isCoroutine:=false }
abbrev CX0:CXT:=fun _ _ _ _ _ _=>False
abbrev E0:XK:=fun _ _ _=>False
theorem pass0 {X:Cx}:Passes CX0 X E0:=fun _ _ _ _ _ _ _ h=>h.elim
structure Fun (K:PySem.W.Frag) (x qual:Str) (st:Stmt) (f:Addr) (fd:FuncData):Prop where
 ex:∃ (oc:Value) (od:Option Addr) (kV doc pm:Value) (an:Option Addr) (cdv ct:Value) (osl:Array (Option Value)),
  fd=PySem.W.fnOf x qual (defArgs st) (defBody st) (defScope st) .none kV doc pm an cdv ct/\K.lookup f=some ⟨oc,od,.func fd,osl⟩/\PySem.W.codeIn K cdv qual=true
 kp:PySem.W.keepIn K (.ref f)=true
section
variable {P : Program} {w : World} {K : PySem.W.Frag} {mg : Str → Option Value} {base : Heap}
theorem Fun.ok {x qual:Str}{st:Stmt}{f:Addr}{fd:FuncData}{N ps:List Str}{k:Nat}{sp:Sp}(F:Fun K x qual st f fd)(S:FnScope N ps (defScope st))(len:∀ vs H Q E,sp vs H Q E->vs.length=ps.length)
  (hbody:∀ (cdv:Value) (A:Around) (outer:List Env) (s:Shared) (H:Hp) (vs:List V) (Q:VK) (E:XK),Room k (A.deeper (envOfC qual (defScope st) s.heap.objs.size f cdv))->sp vs H Q E ->
   ∃ t,PSs (cxOf CX0 P w K mg base N qual (defScope st) f cdv A outer s H E).nox (defBody st) t/\t { nx:=fun _ H'=>Q .non H',rt:=Q } (start N vs) H):FnOk P w K mg base CX0 (k + 1) f fd ps sp:=by
 obtain ⟨oc,od,kV,doc,pm,an,cdv,ct,osl,rfl,lk,hcd⟩:=F.ex
 refine fn_of lk hcd S len fun A outer s H vs Q E hr hsp=>?_
 obtain ⟨t,h,q⟩:=hbody cdv A outer s H vs Q E hr hsp
 exact ⟨t,h.nox,q⟩
theorem Fun.binds {x qual:Str}{st:Stmt}{f:Addr}{fd:FuncData}{ps:List Str}(F:Fun K x qual st f fd)
  (h:∀ (kV doc pm:Value) (an:Option Addr) (cdv ct:Value) (us:List Value),us.length=ps.length->bindArgs (PySem.W.fnOf x qual (defArgs st) (defBody st) (defScope st) .none kV doc pm an cdv ct) ⟨us,[]⟩=pure (ps.zip us)):Binds K fd ps []:=by
 obtain ⟨oc,od,kV,doc,pm,an,cdv,ct,osl,rfl,lk,hcd⟩:=F.ex
 exact .all (h kV doc pm an cdv ct)
end
theorem hu_of {A:Around}{k:Nat}(hr:Room k A):A.units + 1 < cLine:=Nat.lt_of_le_of_lt (Nat.add_le_add_left (by decide:1<=64) _) hr.units
theorem small1000 {n:Nat}(h:n<=1000):n < sizeLine:=Nat.lt_of_le_of_lt h (by decide)
section
variable {X : Cx}
theorem pv (i:Nat){x:Str}{pos:Pos}(hN:X.N[i]?=some x:=by rfl)(hv:Vis X.env.scope x:=by first | exact Or.inl rfl | exact Or.inr (Or.inl rfl) | exact Or.inr (Or.inr rfl))(hd:(x == ("__debug__":Str))=false:=by decide)
  (hcd:(x == ("__classdict__":Str))=false:=by decide):PE X (.Name x pos) (tVar i):=pe_var hN hv hd hcd
end
theorem ite2 {c A B:Prop}[Decidable c](h1:c->A)(h2:¬ c->B):if c then A else B:=by
 by_cases h:c
 ·rw [if_pos h]
  exact h1 h
 ·rw [if_neg h]
  exact h2 h
def Same (H H':Hp):Prop:=∀ b o,H b=some o->H' b=some o
theorem Same.refl (H:Hp):Same H H:=fun _ _ h=>h
theorem Same.trans {H H1 H2:Hp}(a:Same H H1)(b:Same H1 H2):Same H H2:=fun c o h=>b c o (a c o h)
theorem Same.free {H H':Hp}(e:Same H H'){l:Addr}(h:H' l=Option.none):H l=Option.none:=by
 cases q:H l with
 | none=>rfl
 | some o =>
  rw [e l o q] at h
  cases h
theorem Same.seq {K:PySem.W.Frag}{H H':Hp}{a:Addr}{xs:List V}(e:Same H H')(h:SqL K H a xs):SqL K H' a xs:=by
 rcases h with (h | ⟨o,h⟩) | h
 ·exact .inl (.inl (e _ _ h))
 ·exact .inl (.inr ⟨o,e _ _ h⟩)
 ·exact .inr h
end L2
namespace L2
open PySem PySem.Spec PyProof.Rows
section
variable {κ : Type} [DecidableEq κ]
def valV (kvs:List (κ × V))(k:κ):Option V:=(kvs.find? fun kv=>decide (kv.1=k)).map (·.2)
def putK (kvs:List (κ × V))(k:κ)(v:V):List (κ × V) :=
 if (kvs.any fun kv=>decide (kv.1=k))=true then kvs.map (fun kv=>if kv.1=k then (kv.1,v) else kv) else kvs++[(k,v)]
theorem valV_pos {p:κ × V}{r:List (κ × V)}{k:κ}(e:p.1=k):valV (p::r) k=some p.2:=by simp [valV,List.find?_cons,e]
theorem valV_neg {p:κ × V}{r:List (κ × V)}{k:κ}(e:¬ p.1=k):valV (p::r) k=valV r k:=by simp [valV,List.find?_cons,e]
theorem valV_any (k:κ):∀ kvs:List (κ × V),(kvs.any fun kv=>decide (kv.1=k))=(valV kvs k).isSome
 | []=>rfl
 | p::r=>by
  rw [List.any_cons]
  by_cases e:p.1=k
  ·simp only [valV_pos e,decide_eq_true e,Bool.true_or,Option.isSome_some]
  ·rw [valV_neg e,decide_eq_false e,Bool.false_or];exact valV_any k r
theorem valV_map (k j:κ)(y:V):∀ kvs:List (κ × V),valV (kvs.map fun kv=>if kv.1=k then (kv.1,y) else kv) j=(valV kvs j).map fun x=>if j=k then y else x
 | []=>rfl
 | p::r=>by
  have ih:=valV_map k j y r
  rw [List.map_cons]
  by_cases h:p.1=k
  ·rw [if_pos h]
   by_cases e:p.1=j
   ·rw [valV_pos (p:=(p.1,y)) e,valV_pos e,Option.map_some,if_pos (e.symm.trans h)]
   ·rw [valV_neg (p:=(p.1,y)) e,valV_neg e,ih]
  ·rw [if_neg h]
   by_cases e:p.1=j
   ·rw [valV_pos (p:=p) e,valV_pos e,Option.map_some,if_neg (fun z=>h (e.trans z))]
   ·rw [valV_neg (p:=p) e,valV_neg e,ih]
theorem valV_snoc (k j:κ)(y:V):∀ kvs:List (κ × V),valV kvs k=none->valV (kvs++[(k,y)]) j=if j=k then some y else valV kvs j
 | [],_=>by
  by_cases e:k=j
  ·rw [if_pos e.symm];exact valV_pos (p:=(k,y)) e
  ·rw [if_neg (fun z=>e z.symm)];exact valV_neg (p:=(k,y)) e
 | p::r,hn=>by
  rw [List.cons_append]
  have hk:¬ p.1=k:=fun z=>by rw [valV_pos z] at hn;cases hn
  rw [valV_neg hk] at hn
  have ih:=valV_snoc k j y r hn
  by_cases e:p.1=j
  ·rw [valV_pos e,valV_pos e,if_neg (fun z=>hk (e.trans z))]
  ·rw [valV_neg e,valV_neg e,ih]
theorem valV_put (kvs:List (κ × V))(k j:κ)(y:V):valV (putK kvs k y) j=if j=k then some y else valV kvs j:=by
 unfold putK
 by_cases a:(kvs.any fun kv=>decide (kv.1=k))=true
 ·rw [if_pos a,valV_map]
  rw [valV_any] at a
  by_cases e:j=k
  ·obtain ⟨x,hx⟩:=Option.isSome_iff_exists.mp a
   rw [if_pos e,e,hx,Option.map_some,if_pos rfl]
  ·rw [if_neg e]
   cases valV kvs j with
   | none=>rfl
   | some x=>rw [Option.map_some,if_neg e]
 ·rw [if_neg a]
  refine valV_snoc k j y kvs ?_
  rw [valV_any] at a
  cases q:valV kvs k with
  | none=>rfl
  | some x=>rw [q] at a;exact (a rfl).elim
theorem length_putK (kvs:List (κ × V))(k:κ)(v:V):(putK kvs k v).length<=kvs.length + 1:=by
 unfold putK
 split
 ·rw [List.length_map];omega
 ·rw [List.length_append,List.length_cons,List.length_nil];omega
theorem RelO.isSome_eq {o:Option V}{u:Option Value}(r:RelO o u):o.isSome=u.isSome:=by
 cases o with
 | none=>cases u with
  | none=>rfl
  | some _=>exact (show False from r).elim
 | some _=>cases u with
  | none=>exact (show False from r).elim
  | some _=>rfl
theorem KV.val {kvs:List (κ × V)}{vs:List (κ × Value)}(r:KV kvs vs)(k:κ):RelO (valV kvs k) (valueAt vs k):=by
 unfold KV at r
 induction r with
 | nil=>exact True.intro
 | @cons p q ps qs h t ih =>
  obtain ⟨h1,h2⟩:=h
  by_cases e:p.1=k
  ·have e':q.1=k:=h1.symm.trans e
   have b:valueAt (q::qs) k=some q.2:=by simp [valueAt,List.find?_cons,e']
   rw [valV_pos e,b];exact h2
  ·have e':¬ q.1=k:=fun z=>e (h1.trans z)
   have b:valueAt (q::qs) k=valueAt qs k:=by simp [valueAt,List.find?_cons,e']
   rw [valV_neg e,b];exact ih
theorem KV.any {kvs:List (κ × V)}{vs:List (κ × Value)}(r:KV kvs vs)(k:κ):(kvs.any fun kv=>decide (kv.1=k))=vs.any fun kv=>decide (kv.1=k):=by
 unfold KV at r
 induction r with
 | nil=>rfl
 | cons h t ih=>rw [List.any_cons,List.any_cons,ih,h.1]
theorem KV.repl {kvs:List (κ × V)}{vs:List (κ × Value)}(r:KV kvs vs)(k:κ){y:V}{u:Value}(ry:RelV y u) :
  KV (kvs.map fun kv=>if kv.1=k then (kv.1,y) else kv) (vs.map fun kv=>if kv.1=k then (kv.1,u) else kv):=by
 unfold KV at r ⊢
 induction r with
 | nil=>exact .nil
 | @cons p q ps qs h t ih =>
  rw [List.map_cons,List.map_cons]
  refine .cons ?_ ih
  obtain ⟨h1,h2⟩:=h
  by_cases e:p.1=k
  ·rw [if_pos e,if_pos (h1.symm.trans e)];exact ⟨h1,ry⟩
  ·rw [if_neg e,if_neg (fun z=>e (h1.trans z))];exact ⟨h1,h2⟩
theorem KV.put {kvs:List (κ × V)}{vs:List (κ × Value)}(r:KV kvs vs)(k:κ){y:V}{u:Value}(ry:RelV y u):KV (putK kvs k y) (stored vs k u):=by
 unfold putK stored
 rw [r.any k]
 by_cases e:(vs.any fun kv=>decide (kv.1=k))=true
 ·rw [if_pos e,if_pos e];exact r.repl k ry
 ·rw [if_neg e,if_neg e];exact Paired.snoc r ⟨rfl,ry⟩
theorem KV.length {kvs:List (κ × V)}{vs:List (κ × Value)}(r:KV kvs vs):kvs.length=vs.length:=Paired.length r
end
theorem kV_is {P:Program}{w:World}{k:Key}{u:Value}(r:RelV (kV k) u):(mixKind P w).is k u=true:=by
 cases k with
 | inl i=>obtain ⟨t,e⟩:=(show ∃ t,u=Value.int i t from r);subst e;exact mixKind_int P w i t
 | inr x=>obtain ⟨t,e⟩:=(show ∃ t,u=Value.str x t from r);subst e;exact mixKind_str P w x t
theorem items_are {P:Program}{w:World}:∀ {ks:List Key} {us:List Value},Vals (ks.map kV) us->ItemsAre (mixKind P w) ks us
 | [],_,r=>by rw [List.map_nil] at r;cases r;exact .nil
 | k::ks,_,r=>by
  rw [List.map_cons] at r
  cases r with
  | cons h t=>exact .cons (kV_is h) (items_are t)
abbrev KT (H:Hp):List (List Key × V)->List (List Key × Addr × Value)->Prop:=Paired fun p q=>p.1=q.1/\H q.2.1=some (.tup (p.1.map kV))/\RelV p.2 q.2.2
theorem KT.val {H:Hp}{kvs:List (List Key × V)}{xs:List (List Key × Addr × Value)}(r:KT H kvs xs)(k:List Key):RelO (valV kvs k) ((atKey xs k).map (·.2)):=by
 induction r with
 | nil=>exact True.intro
 | @cons p q ps qs h t ih =>
  obtain ⟨h1,_,h2⟩:=h
  by_cases e:p.1=k
  ·have e':q.1=k:=h1.symm.trans e
   have b:atKey (q::qs) k=some q.2:=by simp [atKey,List.find?_cons,e']
   rw [valV_pos e,b];exact h2
  ·have e':¬ q.1=k:=fun z=>e (h1.trans z)
   have b:atKey (q::qs) k=atKey qs k:=by simp [atKey,List.find?_cons,e']
   rw [valV_neg e,b];exact ih
theorem KT.repl {H:Hp}{kvs:List (List Key × V)}{xs:List (List Key × Addr × Value)}(r:KT H kvs xs)(k:List Key){y:V}{u:Value}(ry:RelV y u) :
  KT H (kvs.map fun kv=>if kv.1=k then (kv.1,y) else kv) (xs.map (putAt k u)):=by
 induction r with
 | nil=>exact .nil
 | @cons p q ps qs h t ih =>
  rw [List.map_cons,List.map_cons]
  refine .cons ?_ ih
  obtain ⟨h1,h2,h3⟩:=h
  unfold putAt
  by_cases e:p.1=k
  ·rw [if_pos e,if_pos (h1.symm.trans e)];exact ⟨h1,h2,ry⟩
  ·rw [if_neg e,if_neg (fun z=>e (h1.trans z))];exact ⟨h1,h2,h3⟩
theorem KT.put {H:Hp}{kvs:List (List Key × V)}{xs:List (List Key × Addr × Value)}(r:KT H kvs xs)(k:List Key){b:Addr}{y:V}{u:Value}(hb:H b=some (.tup (k.map kV)))(ry:RelV y u) :
  KT H (putK kvs k y) (storedH xs k b u):=by
 have e:(kvs.any fun kv=>decide (kv.1=k))=(atKey xs k).isSome:=by
  rw [valV_any,(r.val k).isSome_eq,Option.isSome_map]
 unfold putK storedH
 rw [e]
 by_cases q:(atKey xs k).isSome=true
 ·rw [if_pos q,if_pos q];exact r.repl k ry
 ·rw [if_neg q,if_neg q];exact Paired.snoc r ⟨rfl,hb,ry⟩
theorem KT.keeps {H H':Hp}{kvs:List (List Key × V)}{xs:List (List Key × Addr × Value)}(r:KT H kvs xs)(ht:∀ b ys,H b=some (.tup ys)->H' b=some (.tup ys)):KT H' kvs xs :=
 Paired.mapP r fun _ _ z=>⟨z.1,ht _ _ z.2.1,z.2.2⟩
section
variable {P : Program} {w : World} {H : Hp} {h : Heap} {a : Addr}
theorem rd_of {u:HO}(ok:HOk P w H h)(e:Rd H a u):ObjOk P w H h a u:=e.ok ok
theorem dk_rd {kvs:List (Key × V)}(ok:HOk P w H h)(e:Rd H a (.dK kvs)):kvs.length<=sizeLine/\(a == sysModules)=false/\∃ vs,KV kvs vs/\h.DictOf (mixKind P w) a vs :=
 show ObjOk P w H h a (.dK kvs) from rd_of ok e
theorem dk_of {kvs:List (Key × V)}(ok:HOk P w H h)(e:H a=some (.dK kvs)):kvs.length<=sizeLine/\(a == sysModules)=false/\∃ vs,KV kvs vs/\h.DictOf (mixKind P w) a vs:=dk_rd ok (.inl e)
theorem key_of {ks:List Key}(ok:HOk P w H h)(e:H a=some (.tup (ks.map kV))):(tupleKind (mixKind P w)).is h ks a:=by
 obtain ⟨_,its,r,⟨o,h1,h2,n,h3⟩,_⟩:=(show ObjOk P w H h a (.tup (ks.map kV)) from ok a _ e)
 exact ⟨o,its.toArray,n,h1,h2,h3,by simpa using items_are r⟩
theorem dt_rd {kvs:List (List Key × V)}(ok:HOk P w H h)(e:Rd H a (.dT kvs)):kvs.length<=sizeLine/\(a == sysModules)=false /\
  ∃ xs,KT H kvs xs/\h.DictOfH (tupleKind (mixKind P w)) a xs:=by
 obtain ⟨z,y,xs,r,o,es,ep,h1,h2,h3,h4,h5⟩:=(show ObjOk P w H h a (.dT kvs) from rd_of ok e)
 refine ⟨z,y,xs,r,o,es,ep,h1,h2,h3,h4,fun x hx=>?_,h5⟩
 have all:∀ {l:List (List Key × V)} {m:List (List Key × Addr × Value)},KT H l m->∀ x∈m,(tupleKind (mixKind P w)).is h x.1 x.2.1:=by
  intro l m q
  induction q with
  | nil=>intro x hx;exact nomatch hx
  | @cons p q ps qs hq t ih =>
   intro x hx
   rcases List.mem_cons.mp hx with e | hx
   ·subst e
    exact key_of ok (by rw [←hq.1];exact hq.2.1)
   ·exact ih x hx
 exact all r x hx
theorem dt_of {kvs:List (List Key × V)}(ok:HOk P w H h)(e:H a=some (.dT kvs)):kvs.length<=sizeLine/\(a == sysModules)=false /\
  ∃ xs,KT H kvs xs/\h.DictOfH (tupleKind (mixKind P w)) a xs:=dt_rd ok (.inl e)
end
def DGet (H:Hp)(a:Addr)(y:V)(r:Option V):Prop :=
 (∃ kvs k,Rd H a (.dK kvs)/\y=kV k/\r=valV kvs k)\/∃ kvs k b,Rd H a (.dT kvs)/\y=.ref b/\H b=some (.tup (k.map kV))/\r=valV kvs k
def DPut (H:Hp)(a:Addr)(y v:V)(H':Hp):Prop :=
 (∃ kvs k,H a=some (.dK kvs)/\y=kV k/\kvs.length < sizeLine/\H'=upd H a (.dK (putK kvs k v))) \/
 ∃ kvs k b,H a=some (.dT kvs)/\y=.ref b/\H b=some (.tup (k.map kV))/\kvs.length < sizeLine/\H'=upd H a (.dT (putK kvs k v))
theorem DGet.k {H:Hp}{a:Addr}{kvs:List (Key × V)}{k:Key}(e:H a=some (.dK kvs)):DGet H a (kV k) (valV kvs k):=.inl ⟨kvs,k,.inl e,rfl,rfl⟩
theorem DGet.t {H:Hp}{a b:Addr}{kvs:List (List Key × V)}{k:List Key}(e:H a=some (.dT kvs))(eb:H b=some (.tup (k.map kV))):DGet H a (.ref b) (valV kvs k):=.inr ⟨kvs,k,b,.inl e,rfl,eb,rfl⟩
theorem DPut.k {H:Hp}{a:Addr}{kvs:List (Key × V)}{k:Key}{v:V}(e:H a=some (.dK kvs))(hl:kvs.length < sizeLine):DPut H a (kV k) v (upd H a (.dK (putK kvs k v))):=.inl ⟨kvs,k,e,rfl,hl,rfl⟩
theorem DPut.t {H:Hp}{a b:Addr}{kvs:List (List Key × V)}{k:List Key}{v:V}(e:H a=some (.dT kvs))(eb:H b=some (.tup (k.map kV)))(hl:kvs.length < sizeLine) :
  DPut H a (.ref b) v (upd H a (.dT (putK kvs k v))):=.inr ⟨kvs,k,b,e,rfl,eb,hl,rfl⟩
section
variable {X : Cx} {pins : List (Addr × Obj)} {σ : St} {H : Hp} {s : Shared} {a : Addr} {y v : V} {u r : Value} {o : Option V} {A : Around} {E : Value → Shared → Prop}
theorem Inv.big (I:Inv X pins σ H s):sysModules < s.heap.objs.size:=by
 have h:mainGlobals < s.heap.objs.size:=(I.mod.glob.keeps I.bk).lt
 exact Nat.lt_trans (by decide) h
theorem d_getItem {Q:Value->Shared->Prop}(hu:A.units + 1 < cLine)(I:Inv X pins σ H s)(g:DGet H a y (some v))(ry:RelV y u)(h:∀ w' s',Inv X pins σ H s'->RelV v w'->Q w' s') :
  wpAny (model X.prog X.w) A (getItem (.ref a) u) Q E s:=by
 rcases g with ⟨kvs,k,e,ey,l⟩ | ⟨kvs,k,b,e,ey,eb,l⟩
 ·subst ey
  obtain ⟨z,hd,vs,rel,dd⟩:=dk_rd I.hok e
  obtain ⟨w',hw,rw'⟩:=RelO.some_of (v:=v) (o:=valueAt vs k) (by rw [l];exact rel.val k)
  exact wpAny_getItem_of (kV_is ry) dd.mapOf hw (h w' _ (I.tok _) rw')
 ·subst ey
  cases (show u=Value.ref b from ry)
  obtain ⟨z,hd,xs,rel,dd⟩:=dt_rd I.hok e
  obtain ⟨w',hw,rw'⟩:=RelO.some_of (v:=v) (o:=(atKey xs k).map (·.2)) (by rw [l];exact rel.val k)
  obtain ⟨p,hp,hp2⟩:=Option.map_eq_some_iff.mp hw
  refine wpAny_getItem_heap (tupleKind_room_in1 hu) (key_of I.hok eb) dd hp ?_
  rw [hp2]
  exact h w' _ (I.tok _) rw'
theorem d_write {h':Heap}{t':Nat}{ob:HO}(I:Inv X pins σ H s)(mu:Mut (H a))(hs:Heap.SameBut a s.heap h')(he:∃ q,h'.get? a=some q)(new:ObjOk X.prog X.w (upd H a ob) h' a ob) :
  Inv X pins σ (upd H a ob) { s with heap:=h',toks:=t' } :=
 I.write (x:=a) (e:=a) mu (.inl rfl) (fun b q hb z=>(hs.2 b hb).trans z) he new
theorem dk_new {P:Program}{w:World}{H':Hp}{h':Heap}{kvs:List (Key × V)}{vs:List (Key × Value)}(z:kvs.length<=sizeLine)(hd:(a == sysModules)=false)(rel:KV kvs vs)(dd:h'.DictOf (mixKind P w) a vs) :
  ObjOk P w H' h' a (.dK kvs):=⟨z,hd,vs,rel,dd⟩
theorem d_setItem {H':Hp}{Q:Unit->Shared->Prop}(hu:A.units + 1 < cLine)(I:Inv X pins σ H s)(g:DPut H a y v H')(ry:RelV y u)(rv:RelV v r)(h:∀ s',Inv X pins σ H' s'->Q () s') :
  wpAny (model X.prog X.w) A (setItem (.ref a) u r) Q E s:=by
 rcases g with ⟨kvs,k,e,ey,l,eH⟩ | ⟨kvs,k,b,e,ey,eb,l,eH⟩
 ·subst ey eH
  obtain ⟨z,hd,vs,rel,dd⟩:=dk_of I.hok e
  have hz:vs.length<=sizeLine:=by rw [←rel.length];exact z
  have hl:(putK kvs k v).length<=sizeLine:=by have:=length_putK kvs k v;omega
  refine wpAny_setItem_pairs (hsz:=hz) (kV_is ry) dd fun h' dd' hs=>h _ ?_
  have he:∃ q,h'.get? a=some q:=let ⟨q,_,_,hq,_⟩:=dd';⟨q,hq⟩
  exact d_write I (by rw [e];exact True.intro) hs he (dk_new hl hd (rel.put k rv) dd')
 ·subst ey eH
  cases (show u=Value.ref b from ry)
  obtain ⟨z,hd,xs,rel,dd⟩:=dt_of I.hok e
  have hz:xs.length<=sizeLine:=by rw [←Paired.length rel];exact z
  have hl:(putK kvs k v).length<=sizeLine:=by have:=length_putK kvs k v;omega
  refine wpAny_setItem_heap (hsz:=hz) (tupleKind_room_in1 hu) (key_of I.hok eb) dd fun h' dd' hs=>h _ ?_
  obtain ⟨q,es,ep,hq,h2,h3,h4,_,h5⟩:=dd'
  refine d_write I (by rw [e];exact True.intro) hs ⟨q,hq⟩ ⟨hl,hd,_,(rel.put k eb rv).keeps fun c ys ec=>?_,q,es,ep,hq,h2,h3,h4,h5⟩
  rw [upd_ne (ne_of ec e (fun z=>nomatch z))]
  exact ec
end
section
variable {X : Cx} {pins : List (Addr × Obj)} {σ : St} {H : Hp} {s : Shared} {a : Addr} {kvs : List (Key × V)} {k : Key} {u : Value} {A : Around} {E : Value → Shared → Prop}
end
def NoSl (i:Expr):Prop:=∀ ov iv,subscripted i false ov iv=operate [ov,iv] (getItem ov iv)
theorem subD_of {prog:Program}{w:World}{A:Around}{E:Value->Shared->Prop}{s:Shared}{env:Env}{value slice:Expr}{pos:Pos}{T id:String}{Q:Value->Shared->Prop}
  (hl:typeLookup (.type T) "__getitem__"=pure (some (.builtin id))) (hs:NoSl slice)
  (h:wpAny (model prog w) A (eval value env) (fun o s₁=>wpAny (model prog w) A (eval slice env) (fun i s₂=>s₂.TypeIs o T/\wpAny (model prog w) A (getItem o i) Q E s₂) E s₁) E s) :
  wpAny (model prog w) A (eval (.Subscript value slice pos) env) Q E s:=by
 refine Subscript_ (wpAny_mono h (fun o s₁ h₁=>wpAny_mono h₁ (fun i s₂ h₂=>?_) fun _ _ x=>x) fun _ _ x=>x)
 obtain ⟨hT,h₂⟩:=h₂
 unfold subscriptTail
 refine wpAny_bind ?_
 rw [getitemInPython_of_ne hT.not_modules]
 refine wpAny_bind (wpAny_specialOf hT hl ?_)
 have fin:wpAny (model prog w) A (subscripted slice false o i) (fun r s₃=>wpAny (model prog w) A (letTemporaryGo value o r >>= fun _=>pure r) Q E s₃) E s₂:=by
  rw [hs o i]
  exact wpAny_operating (wpAny_mono h₂ (fun r s₃ h₃=>wpAny_bind (wpAny_letTemporaryGo (wpAny_pure h₃))) fun _ _ x=>x)
 first
  | exact wpAny_pure (wpAny_bind fin)
  | exact wpAny_bind (wpAny_pure (wpAny_bind fin))
  | exact wpAny_bind fin
theorem dict_typeIs {X:Cx}{pins:List (Addr × Obj)}{σ:St}{H:Hp}{s:Shared}{a:Addr}{y:V}{o:Option V}(I:Inv X pins σ H s)(g:DGet H a y o):s.TypeIs (.ref a) "dict":=by
 rcases g with ⟨kvs,k,e,_,_⟩ | ⟨kvs,k,b,e,_,_,_⟩
 ·obtain ⟨_,_,vs,_,dd⟩:=dk_rd I.hok e
  exact dd.typeIs
 ·obtain ⟨_,_,xs,_,dd⟩:=dt_rd I.hok e
  exact dd.typeIs
def tDGet (td ty:TE):TE:=fun σ H Q=>td σ H fun x H1=>ty σ H1 fun y H2=>∃ a v,x=.ref a/\DGet H2 a y (some v)/\Q v H2
def sDPut (td ty tv:TE):TS:=fun D σ H=>tv σ H fun v H1=>td σ H1 fun x H2=>ty σ H2 fun y H3=>∃ a H4,x=.ref a/\DPut H3 a y v H4/\D.nx σ H4
section
variable {X : Cx} {o i e value : Expr} {pos pos' tpos : Pos} {td ty tv : TE}
theorem pe_dget (hu:X.A.units + 1 < cLine)(ho:PE X o td)(hi:PE X i ty)(hs:NoSl i):PE X (.Subscript o i pos) (tDGet td ty):=by
 intro pins s σ H Q I h
 refine subD_of PySem.F.slot_dict_getitem.lookup hs (thn (ho pins s σ H _ I h) fun u s1 ⟨x,H1,I1,rx,q1⟩=>thn (hi pins s1 σ H1 _ I1 q1) fun iv s2 ⟨y,H2,I2,ry,a,v,ex,g,q2⟩=>?_)
 subst ex
 obtain rfl:u=Value.ref a:=rx
 exact ⟨dict_typeIs I2 g,d_getItem hu I2 g ry fun w' s3 I3 rw'=>⟨v,H2,I3,rw',q2⟩⟩
theorem ps_dput (hu:X.A.units + 1 < cLine)(ho:PE X o td)(hi:PE X i ty)(hv:PE X value tv)(hs:swapsWith value (some (.Subscript o i pos')) pos.line X.env=pure false) :
  PS X (.Assign [.Subscript o i pos'] value pos) (sDPut td ty tv):=by
 intro pins s σ H D I h
 refine wpAny_Assign_Subscript (thn (hv pins s σ H _ I h) fun r s1 ⟨v,H1,I1,rv,q1⟩=>thn (ho pins s1 σ H1 _ I1 q1) fun u s2 ⟨x,H2,I2,rx,q2⟩=>thn (hi pins s2 σ H2 _ I2 q2) fun iv s3 ⟨y,H3,I3,ry,a,H4,ex,g,q3⟩=>?_) hs
 subst ex
 obtain rfl:u=Value.ref a:=rx
 exact d_setItem hu I3 g ry rv fun s4 I4=>⟨σ,H4,I4,q3⟩
end
theorem dk_empty {P:Program}{w:World}{H:Hp}(h:Heap)(hb:sysModules < h.objs.size):ObjOk P w H (h.push { cls:=.type "dict",data:=.dict #[] }) h.objs.size (.dK []) :=
 ⟨Nat.zero_le _,beq_eq_false_iff_ne.mpr (Ne.symm (Nat.ne_of_lt hb)),[],.nil,Heap.DictOf.new h⟩
section
variable {X : Cx} {pos : Pos}
end
def tPairs:List (TE × TE)->St->Hp->(List (V × V)->Hp->Prop)->Prop
 | [],_,H,Q=>Q [] H
 | (tk,tv)::r,σ,H,Q=>tk σ H fun x H1=>tv σ H1 fun y H2=>tPairs r σ H2 fun ps H3=>Q ((x,y)::ps) H3
abbrev VV:List (V × V)->List (Value × Value)->Prop:=Paired fun p q=>RelV p.1 q.1/\RelV p.2 q.2
def PPs (X:Cx)(pos:Pos)(keys:List (Option Expr))(values:List Expr)(trs:List (TE × TE)):Prop :=
 ∀ (pins:List (Addr × Obj)) (s:Shared) (σ:St) (H:Hp) (Q:List (V × V)->Hp->Prop),Inv X pins σ H s->tPairs trs σ H Q ->
  wpAny (model X.prog X.w) X.A (evalPairs (pairTrees keys values X.env pos)) (fun vs s'=>∃ ps H',Inv X pins σ H' s'/\VV ps vs/\Q ps H') X.xe s
theorem pps_nil {X:Cx}{pos:Pos}:PPs X pos [] [] []:=fun pins s σ H Q I h=>pairTrees_nil_walk ⟨[],H,I,.nil,h⟩
theorem pps_cons {X:Cx}{pos:Pos}{k v:Expr}{ks:List (Option Expr)}{vs:List Expr}{tk tv:TE}{trs:List (TE × TE)}(hk:PE X k tk)(hv:PE X v tv)(hr:PPs X pos ks vs trs) :
  PPs X pos (some k::ks) (v::vs) ((tk,tv)::trs):=fun pins s σ H Q I h =>
 pairTrees_cons_walk (thn (hk pins s σ H _ I h) fun u s1 ⟨x,H1,I1,rx,q1⟩=>thn (hv pins s1 σ H1 _ I1 q1) fun w2 s2 ⟨y,H2,I2,ry,q2⟩ =>
  thn (hr pins s2 σ H2 _ I2 q2) fun ws s3 ⟨ps,H3,I3,rel,q3⟩=>⟨(x,y)::ps,H3,I3,.cons ⟨rx,ry⟩ rel,q3⟩)
def mergeK (kvs more:List (Key × V)):List (Key × V):=more.foldl (fun acc kv=>putK acc kv.1 kv.2) kvs
theorem KV.merge:∀ {more:List (Key × V)} {rs:List (Key × Value)} {kvs:List (Key × V)} {vs:List (Key × Value)},KV more rs->KV kvs vs->KV (mergeK kvs more) (merged vs rs):=by
 intro more rs kvs vs r
 unfold KV at r
 induction r generalizing kvs vs with
 | nil=>intro q;exact q
 | @cons p q ps qs h t ih =>
  intro r0
  have e:KV (putK kvs p.1 p.2) (stored vs q.1 q.2):=by
   have:=r0.put p.1 h.2
   rw [←h.1];exact this
  exact ih e
theorem length_mergeK:∀ (more kvs:List (Key × V)),(mergeK kvs more).length<=kvs.length + more.length
 | [],kvs=>by show kvs.length<=kvs.length + 0;omega
 | p::r,kvs=>by
  have h1:=length_mergeK r (putK kvs p.1 p.2)
  have h2:=length_putK kvs p.1 p.2
  show (mergeK (putK kvs p.1 p.2) r).length<=_
  rw [List.length_cons];omega
theorem carries_of {P:Program}{w:World}:∀ {kvs:List (Key × V)} {ws:List (Value × Value)},VV (kvs.map fun kv=>(kV kv.1,kv.2)) ws->∃ rs,Carries (mixKind P w) ws rs/\KV kvs rs
 | [],_,r=>by rw [List.map_nil] at r;cases r;exact ⟨[],True.intro,.nil⟩
 | p::kvs,_,r=>by
  rw [List.map_cons] at r
  cases r with
  | @cons a b as bs h t =>
   obtain ⟨rs,c,q⟩:=carries_of (P:=P) (w:=w) t
   obtain ⟨b1,b2⟩:=b
   exact ⟨(p.1,b2)::rs,⟨kV_is h.1,rfl,c⟩,.cons ⟨rfl,h.2⟩ q⟩
def tDisp (trs:List (TE × TE)):TE:=fun σ H Q=>∀ p,H p=none->tPairs trs σ (upd H p (.dK [])) fun ps H2=>H2 p=some (.dK [])/\∃ kvs:List (Key × V),ps=kvs.map (fun kv=>(kV kv.1,kv.2))/\kvs.length<=15/\Q (.ref p) (upd H2 p (.dK (mergeK [] kvs)))
theorem pe_disp {X:Cx}{pos:Pos}{keys:List (Option Expr)}{values:List Expr}{trs:List (TE × TE)}(h:PPs X pos keys values trs)(hall:keys.all (·.isSome)=true)(hl:keys.length=values.length)(h0:keys≠[])
  (h15:keys.length<=15):PE X (.Dict keys values pos) (tDisp trs):=by
 intro pins s σ H Q I q
 have hn:=I.hok.fresh (Nat.le_refl s.heap.objs.size)
 have I1:=I.laid (a:=s.heap.objs.size) (o:=.dK []) (h':=s.heap.push { cls:=.type "dict",data:=.dict #[] }) (t':=s.toks) (fun _ _ q=>Heap.get?_push_of_some _ q) (Nat.le_refl _) (dk_empty s.heap I.big)
 refine wpAny_Dict_walk (knd:=mixKind X.prog X.w) hall hl h0 h15 (thn (h pins _ σ _ _ I1 (q _ hn)) fun ws s2 ⟨ps,H2,I2,rel,e,kvs,ep,lk,q2⟩=>?_)
 subst ep
 obtain ⟨rs,c,rk⟩:=carries_of (P:=X.prog) (w:=X.w) rel
 obtain ⟨z,hd,vs0,r0,dd⟩:=dk_of I2.hok e
 cases r0
 refine ⟨rs,c,dd,fun h' dd' hs=>⟨.ref s.heap.objs.size,_,?_,rfl,q2⟩⟩
 have hz:(mergeK [] kvs).length<=sizeLine:=by
  have h1:=length_mergeK kvs []
  rw [List.length_nil] at h1
  rw [sizeLine_eq];omega
 have he:∃ q,h'.get? s.heap.objs.size=some q:=let ⟨q,_,_,hq,_⟩:=dd';⟨q,hq⟩
 exact d_write I2 (by rw [e];exact True.intro) hs he (dk_new hz hd (rk.merge .nil) dd')
section
variable {X : Cx} {pins : List (Addr × Obj)} {σ : St} {H : Hp} {s : Shared} {a : Addr} {y d : V} {u r : Value} {o : Option V} {A : Around} {E : Value → Shared → Prop}
end
section
variable {X : Cx} {o e f : Expr} {apos cpos : Pos} {td ty tx : TE}
end
section
variable {X : Cx} {pins : List (Addr × Obj)} {σ : St} {H : Hp} {s : Shared} {a : Addr} {kvs : List (Key × V)} {A : Around} {E : Value → Shared → Prop}
end
section
variable {X : Cx} {pins : List (Addr × Obj)} {σ : St} {H : Hp} {s : Shared} {a : Addr} {y : V} {u : Value} {A : Around} {E : Value → Shared → Prop}
end
end L2
set_option maxHeartbeats 4000000
namespace L2
open PySem
inductive T where
 | s (x:Str) | i (n:Int) | n | t (xs:List T)
theorem T.induct {P:T->Prop}(hs:∀ x,P (.s x))(hi:∀ n,P (.i n))(hn:P .n)(ht:∀ xs,(∀ x∈xs,P x)->P (.t xs))(a:T):P a :=
 T.rec (motive_1:=P) (motive_2:=fun xs=>∀ x∈xs,P x) hs hi hn ht (fun _ h=>nomatch h) (fun _ _ h1 h2 y hy=>by
  cases hy with
  | head=>exact h1
  | tail _ h=>exact h2 y h) a
mutual
def T.dep:T->Nat
 | .t xs=>T.deps xs + 1
 | _=>0
def T.deps:List T->Nat
 | []=>0
 | x::r=>max x.dep (T.deps r)
end
theorem T.deps_mem {xs:List T}{x:T}(h:x∈xs):x.dep<=T.deps xs:=by
 induction xs with
 | nil=>cases h
 | cons y r ih =>
  unfold T.deps
  cases h with
  | head=>exact Nat.le_max_left _ _
  | tail _ h=>exact Nat.le_trans (ih h) (Nat.le_max_right _ _)
mutual
def T.eqB:T->T->Bool
 | .s x,.s y=>x == y
 | .i m,.i k=>m == k
 | .n,.n=>true
 | .t xs,.t ys=>T.eqBs xs ys
 | _,_=>false
def T.eqBs:List T->List T->Bool
 | [],[]=>true
 | x::r,y::q=>x.eqB y && T.eqBs r q
 | _,_=>false
end
theorem T.eqBs_iff {xs:List T}(h:∀ x∈xs,∀ y,T.eqB x y=true↔x=y):∀ ys,T.eqBs xs ys=true↔xs=ys:=by
 induction xs with
 | nil=>intro ys;cases ys <;> simp [T.eqBs]
 | cons x r ih =>
  intro ys
  cases ys with
  | nil=>simp [T.eqBs]
  | cons y q =>
   unfold T.eqBs
   rw [Bool.and_eq_true,h x (.head _) y,ih (fun z hz=>h z (.tail _ hz)) q,List.cons.injEq]
theorem T.eqB_iff (a:T):∀ b,T.eqB a b=true↔a=b:=by
 induction a using T.induct with
 | hs x=>intro b;cases b <;> simp [T.eqB]
 | hi x=>intro b;cases b <;> simp [T.eqB]
 | hn=>intro b;cases b <;> simp [T.eqB]
 | ht xs ih =>
  intro b
  cases b with
  | t ys=>unfold T.eqB;rw [T.eqBs_iff ih ys,T.t.injEq]
  | _=>simp [T.eqB]
theorem T.eqB_self (a:T):T.eqB a a=true:=(T.eqB_iff a a).mpr rfl
instance:DecidableEq T:=fun a b=>if h:T.eqB a b=true then .isTrue ((T.eqB_iff a b).mp h) else .isFalse fun z=>h ((T.eqB_iff a b).mpr z)
theorem T.eqB_dec (a b:T):T.eqB a b=decide (a=b):=by rw [Bool.eq_iff_iff,decide_eq_true_iff,T.eqB_iff]
theorem T.eqBs_range:∀ (xs ys:List T),T.eqBs xs ys=((List.range (min xs.length ys.length)).all (fun j=>T.eqB (xs.getD j .n) (ys.getD j .n)) && xs.length == ys.length)
 | [],[]=>rfl
 | [],y::q=>by simp [T.eqBs]
 | x::r,[]=>by simp [T.eqBs]
 | x::r,y::q=>by
  unfold T.eqBs
  rw [T.eqBs_range r q,List.length_cons,List.length_cons,Nat.succ_min_succ,List.range_succ_eq_map,List.all_cons,List.all_map]
  have e:(r.length + 1 == q.length + 1)=(r.length == q.length):=by simp
  rw [e,Bool.and_assoc]
  rfl
end L2
namespace L2
open PySem
inductive Hd where
 | num (n:Int) | name (x:Str) | gap (n:Int) | op (s:Str) | row | more | first | others | long | tag (t:Str) | call (f:Str) | mat (arms:List (Str × List Str)) | ife | lt (x:Str) | fold (x y:Str)
inductive Tm where
 | mk (h:Hd) (ks:List Tm)
def Tm.hd:Tm->Hd | .mk h _=>h
def Tm.ks:Tm->List Tm | .mk _ ks=>ks
theorem Tm.induct {P:Tm->Prop}(hm:∀ h ks,(∀ k∈ks,P k)->P (.mk h ks))(a:Tm):P a :=
 Tm.rec (motive_1:=P) (motive_2:=fun xs=>∀ x∈xs,P x) hm (fun _ h=>nomatch h) (fun _ _ h1 h2 y hy=>by
  cases hy with
  | head=>exact h1
  | tail _ h=>exact h2 y h) a
def arOk:Hd->Nat->Bool
 | .num _,n=>n == 0
 | .name _,n=>n == 0
 | .gap _,n=>n == 0
 | .op _,n=>n == 2
 | .row,_=>true
 | .more,n=>n == 2
 | .first,n=>n == 1
 | .others,n=>n == 1
 | .long,n=>n == 1
 | .tag _,_=>true
 | .call _,_=>true
 | .mat arms,n=>n == arms.length + 1
 | .ife,n=>n == 3
 | .lt _,n=>n == 2
 | .fold _ _,n=>n == 3
inductive Wf:Tm->Prop
 | mk {h:Hd} {ks:List Tm}:arOk h ks.length=true->(∀ k∈ks,Wf k)->Wf (.mk h ks)
def bnd:Hd->Nat->List (List Str)
 | .mat arms,_=>[]::arms.map (·.2)
 | .lt x,_=>[[],[x]]
 | .fold x y,_=>[[],[],[x,y]]
 | _,n=>List.replicate n []
def armT (a:Str × List Str)(k:T):T:=.t [.s a.1,.t (a.2.map .s),k]
def encH:Hd->List T->T
 | .num n,_=>.t [.s "num",.i n]
 | .name x,_=>.t [.s "name",.s x]
 | .gap n,_=>.t [.s "gap",.i n]
 | .op s,ks=>.t (.s "op"::.s s::ks)
 | .row,ks=>.t [.s "row",.t ks]
 | .more,ks=>.t (.s "more"::ks)
 | .first,ks=>.t (.s "first"::ks)
 | .others,ks=>.t (.s "others"::ks)
 | .long,ks=>.t (.s "long"::ks)
 | .tag t,ks=>.t [.s "tag",.s t,.t ks]
 | .call f,ks=>.t [.s "call",.s f,.t ks]
 | .mat arms,ks=>.t [.s "match",ks.headD .n,.t (List.zipWith armT arms ks.tail)]
 | .ife,ks=>.t (.s "if"::ks)
 | .lt x,ks=>.t (.s "let"::.s x::ks)
 | .fold x y,ks=>.t [.s "fold",ks.getD 0 .n,.s x,.s y,ks.getD 1 .n,ks.getD 2 .n]
mutual
def enc:Tm->T
 | .mk h ks=>encH h (encs ks)
def encs:List Tm->List T
 | []=>[]
 | k::r=>enc k::encs r
end
theorem encs_map:∀ ks:List Tm,encs ks=ks.map enc
 | []=>rfl
 | k::r=>by unfold encs;rw [encs_map r];rfl
theorem enc_mk (h:Hd)(ks:List Tm):enc (.mk h ks)=encH h (ks.map enc):=by unfold enc;rw [encs_map]
mutual
def Tm.size:Tm->Nat
 | .mk _ ks=>Tm.sizes ks + 1
def Tm.sizes:List Tm->Nat
 | []=>0
 | k::r=>k.size + Tm.sizes r
end
theorem Tm.sizes_cons (k:Tm)(r:List Tm):Tm.sizes (k::r)=k.size + Tm.sizes r:=by rw [Tm.sizes]
theorem Tm.size_mk (h:Hd)(ks:List Tm):(Tm.mk h ks).size=Tm.sizes ks + 1:=by rw [Tm.size]
theorem Tm.size_pos (a:Tm):0 < a.size:=by cases a;unfold Tm.size;omega
end L2
namespace L2
open PySem PySem.Spec PyProof.Rows
def cellsFor (env:Env):List (Str × NameKind)->List (Str × Addr)->List (Str × Addr)
 | [],cs=>cs
 | (n,k)::r,cs=>cellsFor env r (if k == .free then (n,(env.cells.lookup n).getD 0)::cs else cs)
theorem closureFor_eq {scope:Scope}{env:Env}(h:∀ x∈scope.names,x.2=.free->∃ c,env.cells.lookup x.1=some c):closureFor scope env=pure (cellsFor env scope.names []):=by
 have go:∀ (l:List (Str × NameKind)) (cs:List (Str × Addr)),(∀ x∈l,x.2=.free->∃ c,env.cells.lookup x.1=some c) ->
   (forIn l cs fun x r=>if (x.2 == NameKind.free)=true then do let a ←cellOf env x.1;pure (ForInStep.yield ((x.1,a)::r)) else pure (ForInStep.yield r):Sem (List (Str × Addr)))=pure (cellsFor env l cs):=by
  intro l
  induction l with
  | nil=>intro cs _;rfl
  | cons x r ih =>
   intro cs hx
   obtain ⟨n,k⟩:=x
   rw [List.forIn_cons]
   by_cases hk:k=.free
   ·subst hk
    obtain ⟨c,hc⟩:=hx (n,.free) List.mem_cons_self rfl
    have e:cellOf env n=pure c:=by unfold cellOf;rw [show env.cells.lookup n=some c from hc]
    simp only [beq_self_eq_true,if_true,e,pure_bind]
    rw [ih _ fun y hy=>hx y (List.mem_cons_of_mem _ hy)]
    unfold cellsFor
    rw [show env.cells.lookup n=some c from hc]
    cases r <;> rfl
   ·have hb:(k == NameKind.free)=false:=by simpa using hk
    simp only [hb,Bool.false_eq_true,if_false,pure_bind]
    rw [ih _ fun y hy=>hx y (List.mem_cons_of_mem _ hy)]
    conv=>rhs;unfold cellsFor
    simp only [hb,Bool.false_eq_true,if_false]
 simp only [closureFor]
 have g:=go scope.names [] h
 simp only [g]
 rfl
theorem cellsFor_sub {env:Env}:∀ (l:List (Str × NameKind)) (cs:List (Str × Addr)),(∀ x∈l,x.2=.free->∃ c,env.cells.lookup x.1=some c)->(∀ y c,cs.lookup y=some c->env.cells.lookup y=some c) ->
  ∀ y c,(cellsFor env l cs).lookup y=some c->env.cells.lookup y=some c
 | [],_,_,hc=>hc
 | (n,k)::r,cs,hl,hc=>by
  refine cellsFor_sub r _ (fun x hx=>hl x (List.mem_cons_of_mem _ hx)) fun y c e=>?_
  by_cases hk:(k == NameKind.free)=true
  ·rw [if_pos hk] at e
   rw [List.lookup_cons] at e
   by_cases hy:y=n
   ·subst hy
    simp only [beq_self_eq_true] at e
    obtain ⟨c',hc'⟩:=hl (y,k) List.mem_cons_self (by simpa using hk)
    have hc'':env.cells.lookup y=some c':=hc'
    rw [hc''] at e ⊢
    exact e
   ·have hb:(y == n)=false:=beq_eq_false_iff_ne.mpr hy
    rw [hb] at e
    exact hc y c e
  ·rw [if_neg hk] at e
   exact hc y c e
theorem cellsFor_keep {env:Env}:∀ (l:List (Str × NameKind)) (cs:List (Str × Addr)) (y:Str),(∃ c,cs.lookup y=some c)->∃ c,(cellsFor env l cs).lookup y=some c
 | [],_,_,h=>h
 | (n,k)::r,cs,y,h=>by
  refine cellsFor_keep r _ y ?_
  by_cases hk:(k == NameKind.free)=true
  ·rw [if_pos hk,List.lookup_cons]
   cases hb:(y == n) with
   | true=>exact ⟨_,rfl⟩
   | false=>exact h
  ·rw [if_neg hk];exact h
theorem cellsFor_has {env:Env}:∀ (l:List (Str × NameKind)) (cs:List (Str × Addr)) (y:Str),(y,NameKind.free)∈l->∃ c,(cellsFor env l cs).lookup y=some c
 | [],_,_,h=>nomatch h
 | (n,k)::r,cs,y,h=>by
  rcases List.mem_cons.mp h with e | h
  ·have e1:y=n:=congrArg Prod.fst e
   have e2:NameKind.free=k:=congrArg Prod.snd e
   subst e1
   subst e2
   refine cellsFor_keep r _ y ⟨(env.cells.lookup y).getD 0,?_⟩
   rw [if_pos (by rfl),List.lookup_cons,beq_self_eq_true]
  ·exact cellsFor_has r _ y h
theorem relabel_shape {env:Env}:∀ {names:List (Str × NameKind)} {x:Str} {k':NameKind},(names.map fun (n,k)=>if (k == NameKind.free && env.scope.kind == .function && env.kindOf n == some .cell) then (n,NameKind.cell) else (n,k)).lookup x=some k' ->
  names.lookup x=some k'\/(k'=.cell/\names.lookup x=some .free)
 | [],_,_,h=>by simp at h
 | (n,k)::r,x,k',h=>by
  have ih:=@relabel_shape env r x k'
  change List.lookup x ((if (k == NameKind.free && env.scope.kind == .function && env.kindOf n == some .cell)=true then (n,NameKind.cell) else (n,k))::_)=_ at h
  cases hx:x == n with
  | true =>
   by_cases hc:(k == NameKind.free && env.scope.kind == .function && env.kindOf n == some .cell)=true
   ·rw [if_pos hc] at h
    simp only [List.lookup_cons,hx] at h
    cases h
    have hk:k=.free:=by simp at hc;exact hc.1.1
    subst hk
    exact .inr ⟨rfl,by simp only [List.lookup_cons,hx]⟩
   ·rw [if_neg hc] at h
    simp only [List.lookup_cons,hx] at h
    cases h
    exact .inl (by simp only [List.lookup_cons,hx])
  | false =>
   by_cases hc:(k == NameKind.free && env.scope.kind == .function && env.kindOf n == some .cell)=true
   ·rw [if_pos hc] at h
    simp only [List.lookup_cons,hx] at h ⊢
    exact ih h
   ·rw [if_neg hc] at h
    simp only [List.lookup_cons,hx] at h ⊢
    exact ih h
theorem relabel_free {env:Env}:∀ {names:List (Str × NameKind)} {x:Str},names.lookup x=some .free ->
  (names.map fun (n,k)=>if (k == NameKind.free && env.scope.kind == .function && env.kindOf n == some .cell) then (n,NameKind.cell) else (n,k)).lookup x=some .cell \/
  (names.map fun (n,k)=>if (k == NameKind.free && env.scope.kind == .function && env.kindOf n == some .cell) then (n,NameKind.cell) else (n,k)).lookup x=some .free
 | [],_,h=>by simp at h
 | (n,k)::r,x,h=>by
  have ih:=@relabel_free env r x
  show List.lookup x ((if (k == NameKind.free && env.scope.kind == .function && env.kindOf n == some .cell)=true then (n,NameKind.cell) else (n,k))::_)=_\/List.lookup x ((if (k == NameKind.free && env.scope.kind == .function && env.kindOf n == some .cell)=true then (n,NameKind.cell) else (n,k))::_)=_
  cases hx:x == n with
  | true =>
   simp only [List.lookup_cons,hx] at h
   cases h
   by_cases hc:(NameKind.free == NameKind.free && env.scope.kind == .function && env.kindOf n == some .cell)=true
   ·rw [if_pos hc];exact .inl (by simp only [List.lookup_cons,hx])
   ·rw [if_neg hc];exact .inr (by simp only [List.lookup_cons,hx])
  | false =>
   simp only [List.lookup_cons,hx] at h
   by_cases hc:(k == NameKind.free && env.scope.kind == .function && env.kindOf n == some .cell)=true
   ·rw [if_pos hc];simp only [List.lookup_cons,hx];exact ih h
   ·rw [if_neg hc];simp only [List.lookup_cons,hx];exact ih h
section
variable {prog : Program} {w : World} {A : Around} {R : Result → Shared → Prop} {s : Shared}
theorem codeAny_compLoop_any {elt target iter:Expr}{ifs:List Expr}{scope:Scope}{pos:Pos}{it acc:Value}{env:Env}{E:Value->Shared->Prop}(I:Nat->Shared->Prop)
  (turn:∀ n s,I n s->wpAny (model prog w) A (pyNext it) (fun r s₁=>match r with
   | none=>R (.ok .next) s₁
   | some v=>wpAny (model prog w) A (letOwnedTupleGo target it v) (fun _ s₁'=>wpAny (model prog w) A (assign target env v) (fun _ s₂ =>
     wpAny (model prog w) A (forIn ifs true fun c r=>if r=true then do let ok ←isTrue c env (eval c env);pure (ForInStep.yield ok) else pure (ForInStep.yield r)) (fun ok s₃ =>
      if ok=true then wpAny (model prog w) A (eval elt env) (fun x s₄ =>
       wpAny (model prog w) A (call (.builtin "list.append") [acc,x]) (fun _ s₅=>∃ m,m < n/\I m s₅) E s₄) E s₃
      else ∃ m,m < n/\I m s₃) E s₂) E s₁') E s₁) E s)
  (hE:∀ e s',E e s'->notedBy (model prog w) A env (fun e s'=>R (.error e) s') e s')
  (n:Nat) (h:I n s) :
  codeAny (model prog w) A (.compLoop (.ListComp elt [⟨target,iter,ifs,0⟩] scope pos) 0 it acc env) R s:=by
 refine codeAny_loop rfl I (fun n s hI=>?_) n h
 show wpAny _ A ((compTurn (.ListComp elt [⟨target,iter,ifs,0⟩] scope pos) 0 it acc env).onRaise (fun x=>do noteFrame x env;theTreesLotGoes x)) _ _ s
 refine wpAny_noted ?_
 rw [compTurn_list]
 refine wpAny_bind (wpAny_standAt (wpAny_bind (wpAny_mono (turn n s hI) (fun r s₁ h₁=>?_) hE)))
 cases r with
 | none=>exact wpAny_pure h₁
 | some v =>
  refine wpAny_bind (wpAny_mono h₁ (fun _ s₁' h₁'=>?_) hE)
  refine wpAny_bind (wpAny_mono h₁' (fun _ s₂ h₂=>wpAny_bind (wpAny_mono h₂ (fun ok s₃ h₃=>?_) hE)) hE)
  cases ok with
  | false=>exact wpAny_pure ⟨rfl,h₃⟩
  | true =>
   exact wpAny_bind (wpAny_bind (wpAny_mono h₃ (fun x s₄ h₄=>wpAny_bind (wpAny_mono h₄ (fun _ s₅ h₅=>wpAny_pure (wpAny_pure ⟨rfl,h₅⟩)) hE)) hE))
end
def cxComp (X:Cx)(scope:Scope)(N':List Str)(fp:List Addr)(C:Addr)(s₂:Shared)(H₂:Hp):Cx where
 prog:=X.prog
 w:=X.w
 K:=X.K
 mg:=X.mg
 base:=X.base
 A:=X.A
 N:=N'
 s₀:=s₂
 H₀:=H₂
 env:=compEnvC scope (cellsFor X.env scope.names []) C X.env
 outer:=X.stack
 stack:=X.stack
 ex:=fp
 fn:=fun _=>false
 calm:=X.calm
 pn:=[]
 xe:=fun _ _=>False
def PIfs (X:Cx)(ifs:List Expr)(t:TT):Prop :=
 ∀ (pins:List (Addr × Obj)) (s:Shared) (σ:St) (H:Hp) (Q:Bool->Hp->Prop),Inv X pins σ H s->t σ H Q ->
  wpAny (model X.prog X.w) X.A (forIn ifs true fun c r=>if r=true then do let ok ←isTrue c X.env (eval c X.env);pure (ForInStep.yield ok) else pure (ForInStep.yield r)) (TP X pins σ Q) X.xe s
def tNoIf:TT:=fun _ H Q=>Q true H
theorem pifs_nil {X:Cx}:PIfs X [] tNoIf:=fun pins s σ H Q I h=>by
 rw [List.forIn_nil]
 exact wpAny_pure ⟨H,I,h⟩
theorem pifs_one {X:Cx}{c:Expr}{t:TT}(hc:PT X c t):PIfs X [c] t:=fun pins s σ H Q I h=>by
 simp only [List.forIn_cons,List.forIn_nil,if_true]
 exact wpAny_bind (wpAny_bind (wpAny_mono (hc pins s σ H Q I h) (fun b s' hb=>wpAny_pure (wpAny_pure hb)) fun _ _ x=>x))
def innerSt (own:Nat)(fr:List Nat)(σ:St):St:=List.replicate own none++fr.map fun j=>(σ[j]?).join
def CompW (J:It)(g:TG)(tt:TT)(te:TE)(Q:VK)(σ0:St)(H0:Hp):Prop:=∃ W:Nat->Nat->St->List V->Hp->Prop,(∃ m,W 0 m σ0 [] H0)/\∀ i m σ' vs H,W i m σ' vs H ->
 (J.stop i H/\vs.length<=sizeLine/\∀ p,H p=none->Q (.ref p) (upd H p (.lst vs))) \/
 (J.go i H/\vs.length < sizeLine/\∃ N:St->List V->Hp->Prop,(∀ σ2 vs2 H2,N σ2 vs2 H2->∃ m',m' < m/\W (i + 1) m' σ2 vs2 H2)/\∀ x H',J.yld i H x H'->g x σ' H' fun σ2 H2=>tt σ2 H2 fun ok H3 =>
  if ok=true then te σ2 H3 fun v H4=>N σ2 (vs++[v]) H4 else N σ2 vs H3)
def tComp (own:Nat)(fr:List Nat)(wi:TI)(g:TG)(tt:TT)(te:TE):TE:=fun σ H Q=>wi σ H fun J H1=>CompW J g tt te Q (innerSt own fr σ) H1
section
variable {X : Cx} {pins : List (Addr × Obj)} {σ : St} {H : Hp} {s : Shared}
theorem inner_ok {own:List Str}{fr:List Nat}(hl:σ.length=X.N.length){i:Nat}{x:Str}{v:V}(h1:(own++fr.map fun j=>X.N.getD j Str.empty)[i]?=some x)(h2:(innerSt own.length fr σ)[i]?=some (some v)) :
  ∃ j∈fr,X.N[j]?=some x/\X.N.getD j Str.empty=x/\σ[j]?=some (some v):=by
 unfold innerSt at h2
 by_cases hi:i < own.length
 ·rw [List.getElem?_append_left (by simpa using hi),List.getElem?_replicate,if_pos hi] at h2
  cases h2
 ·rw [List.getElem?_append_right (by simpa using hi),List.length_replicate,List.getElem?_map] at h2
  rw [List.getElem?_append_right (by omega),List.getElem?_map] at h1
  cases e:fr[i - own.length]? with
  | none=>rw [e] at h2;cases h2
  | some j =>
   rw [e] at h1 h2
   simp only [Option.map_some,Option.some.injEq] at h1 h2
   have hj:σ[j]?=some (some v):=by
    cases q:σ[j]? with
    | none=>rw [q] at h2;cases h2
    | some o=>rw [q] at h2;exact congrArg some h2
   have hjl:j < X.N.length:=by rw [←hl];exact (List.getElem?_eq_some_iff.mp hj).1
   refine ⟨j,List.mem_of_getElem? e,?_,h1,hj⟩
   rw [←h1,List.getD_eq_getElem?_getD,List.getElem?_eq_getElem hjl]
   rfl
theorem comp_enter {scope:Scope}{own:List Str}{fr:List Nat}{fp:List Addr}{C:Addr}{h₁:Heap}{tk:Nat}{m:Str->Option Value}(I:Inv X pins σ H s)
  (hkind:scope.kind=.function) (hcell:∀ x∈scope.names,x.2≠.cell) (hfr:∀ x∈scope.names,x.2=.free->X.env.scope.names.lookup x.1=some .cell\/X.env.scope.names.lookup x.1=some .free)
  (hin:∀ j∈fr,scope.names.lookup (X.N.getD j Str.empty)=some .free) (hC:s.heap.objs.size<=C) (hf:∀ b∈fp,FpOk X pins H b) (hfo:∀ b∈fp,b < s.heap.objs.size)
  (old:∀ b o,s.heap.get? b=some o->h₁.get? b=some o) (hn:h₁.Ns C m) :
  Inv (cxComp X scope (own++fr.map fun j=>X.N.getD j Str.empty) fp C s H) [] (innerSt own.length fr σ) H { s with heap:=h₁,toks:=tk }:=by
 have hfree:∀ x∈scope.names,x.2=.free->∃ c,X.env.cells.lookup x.1=some c:=fun x hx e=>I.ok.has x.1 (hfr x hx e)
 have sub:∀ y c,(cellsFor X.env scope.names []).lookup y=some c->X.env.cells.lookup y=some c:=cellsFor_sub _ _ hfree (by intro y c e;simp at e)
 have hasF:∀ y,scope.names.lookup y=some .free->∃ c,(cellsFor X.env scope.names []).lookup y=some c:=fun y e=>cellsFor_has _ _ _ (PySem.mem_of_lookup e)
 refine ⟨⟨I.ok.mod,?_,I.ok.glob,I.ok.blt,hC,fun x y c h1 h2=>I.ok.inj x y c (sub x c h1) (sub y c h2),fun x hx=>?_,(fun x c hx=>nomatch hx),I.ok.hd,I.ok.frames,.inl rfl,fun b hb=>?_,I.bs,Nat.le_trans I.ok.bsz I.sz,fun b o e hb=>?_,fun b hb z=>?_,I.stack,I.stkFree⟩,
  rfl,I.bare,Un.kept old,⟨m,hn,fun i x v h1 h2 h3=>?_⟩,fun x c e=>?_,I.hok.fresh hC,fun x c e=>I.freeC x c (sub x c e),fun p hp=>absurd (show p∈([]:List (Addr × Obj)) from hp) (by simp),I.hok.kept old,?_⟩
 ·exact hkind
 ·have hx':(relabel scope X.env).names.lookup x=some .cell\/(relabel scope X.env).names.lookup x=some .free:=hx
  have hx2:scope.names.lookup x=some .free:=by
   rcases hx' with e | e
   ·rcases relabel_shape e with e | ⟨_,e⟩
    ·exact absurd rfl (hcell _ (PySem.mem_of_lookup e))
    ·exact e
   ·rcases relabel_shape e with e | ⟨z,_⟩
    ·exact e
    ·cases z
  exact hasF x hx2
 ·refine ⟨Nat.ne_of_lt (Nat.lt_of_lt_of_le (hfo b hb) hC),fun x c e=>(hf b hb).2.2.2.2.1 x c (sub x c e)⟩
 ·rcases (hf b hb).2.2.2.1 with z | z
  ·exact I.ok.noex b o e z
  ·exact absurd (Nat.lt_of_lt_of_le (Heap.lt_size e) (Nat.le_trans I.ok.bsz z)) (Nat.lt_irrefl _)
 ·have hb':b∈fp:=hb
  have z':b∈frs X.stack:=z
  rcases List.mem_cons.mp (I.stkSub b z') with e | e
  ·exact (hf b hb').2.1 e
  ·exact (hf b hb').2.2.1 e
 ·obtain ⟨j,hj,e1,e2,e3⟩:=inner_ok (own:=own) I.len h1 h2
  have hxf:scope.names.lookup x=some .free:=by rw [←e2];exact hin j hj
  have hk:=hfr _ (PySem.mem_of_lookup hxf) rfl
  obtain ⟨m0,hn0,hl0⟩:=I.loc
  obtain ⟨u,r,l⟩:=hl0 j x v e1 e3 (.inr hk)
  refine ⟨u,r,?_⟩
  rcases l with ⟨k,_⟩ | ⟨_,c,ec,z⟩
  ·have k':X.env.scope.names.lookup x=some .local:=k
   rcases hk with q | q <;> (rw [show X.env.scope.names.lookup x=_ from q] at k';cases k')
  ·obtain ⟨c',ec'⟩:=hasF x hxf
   have:=sub x c' ec'
   rw [ec] at this
   cases this
   obtain ⟨o,ho,hd⟩:=z
   exact .inr ⟨relabel_free hxf,c,ec',o,old c o ho,hd⟩
 ·obtain ⟨v,o,ho,hd⟩:=I.cell x c (sub x c e)
  exact ⟨v,o,old c o ho,hd⟩
 ·show (innerSt own.length fr σ).length=(own++fr.map fun j=>X.N.getD j Str.empty).length
  simp [innerSt]
theorem comp_leave {scope:Scope}{N':List Str}{fp:List Addr}{C D:Addr}{s':Shared}{H':Hp}{σ':St}{pins':List (Addr × Obj)}{vs:List V}{ys:Array Value}{h'':Heap}(I:Inv X pins σ H s)(hf:∀ b∈fp,FpOk X pins H b)
  (I':Inv (cxComp X scope N' fp C s H) pins' σ' H' s') (hC:s.heap.objs.size<=C) (hD:s.heap.objs.size<=D) (hDC:D≠C) (hDn:H' D=none) (pl:s'.heap.PlainList D ys) (rv:Vals vs ys.toList) (hz:vs.length<=sizeLine) (hs:Heap.SameBut C s'.heap h'') :
  Inv X pins σ (upd H' D (.lst vs)) { s' with heap:=h'' }:=by
 have un:Un (frs X.stack) fp H H' s.heap s'.heap:=I'.base
 have hCn:H' C=none:=I'.free
 have at':∀ b,b≠C->h''.get? b=s'.heap.get? b:=fun b hb=>hs.2 b hb
 have neC:∀ b o,s.heap.get? b=some o->b≠C:=fun b o e=>Nat.ne_of_lt (Nat.lt_of_lt_of_le (Heap.lt_size e) hC)
 have neD:∀ b o,s.heap.get? b=some o->b≠D:=fun b o e=>Nat.ne_of_lt (Nat.lt_of_lt_of_le (Heap.lt_size e) hD)
 have okHD:∀ b u,H b=some u->b≠D:=fun b u e=>Nat.ne_of_lt (Nat.lt_of_lt_of_le (I.hok.lt e) hD)
 have un':Un (frs X.stack) fp H (upd H' D (.lst vs)) s.heap h'':=by
  refine ⟨fun b o e n h1 h2=>?_,fun b o e n h1 h2=>?_,fun b o e n h2=>?_,fun b o e h2=>?_,fun b xs e=>?_,fun b o u e=>?_,fun b ps e=>?_⟩
  ·rw [at' b (neC b o e)];exact un.keep b o e n h1 h2
  ·rw [at' b (neC b o e)];exact un.slot b o e n h1 h2
  ·rw [upd_ne (neD b o e)];exact un.free b o e n h2
  ·rw [at' b (neC b o e)];exact un.there b o e h2
  ·rw [upd_ne (okHD b _ e)];exact un.tups b xs e
  ·rw [upd_ne (okHD b _ e)];exact un.frzs b o u e
  ·rw [upd_ne (okHD b _ e)];exact un.tbls b ps e
 have hok:HOk X.prog X.w (upd H' D (.lst vs)) h'':=fun b u e=>by
  by_cases hb:b=D
  ·subst hb
   rw [upd_same] at e
   cases e
   obtain ⟨n,ho⟩:=pl
   refine ⟨hz,ys.toList,n,rv,?_⟩
   rw [at' b hDC]
   simpa using ho
  ·rw [upd_ne hb] at e
   refine (I'.hok b u e).stay (fun c v hc q=>?_) (fun c q=>?_) fun c xs q=>?_
   ·rw [at' c ?_];exact q
    rintro rfl
    rcases hc with z | z
    ·rw [←z,hCn] at e;cases e
    ·rw [hCn] at z;cases z
   ·rw [upd_ne (fun z=>by rw [z,hDn] at q;cases q)];exact q
   ·rw [upd_ne (fun z=>by rw [z,hDn] at q;cases q)];exact q
 exact I.call' (s':={ s' with heap:=h'' }) (ch:=fp) I'.os un' hok I'.bare fun b hb=>⟨(hf b hb).2.2.2.1,(hf b hb).2.1,(hf b hb).2.2.2.2.1,(hf b hb).2.2.2.2.2⟩
end
section
variable {X : Cx}
theorem pe_comp {elt iter tg:Expr}{ifs:List Expr}{scope:Scope}{pos:Pos}{wi:TI}{g:TG}{tt:TT}{te:TE}(own:List Str)(fr:List Nat)(hc:X.calm=true)
  (hkind:scope.kind=.function) (hcell:∀ x∈scope.names,x.2≠.cell) (hnames:∀ x∈scope.names,x.2=.local->scope.names.lookup x.1=some .local)
  (hfr:∀ x∈scope.names,x.2=.free->X.env.scope.names.lookup x.1=some .cell\/X.env.scope.names.lookup x.1=some .free)
  (hin:∀ j∈fr,scope.names.lookup (X.N.getD j Str.empty)=some .free)
  (hi:PI X tg iter wi) (hg:∀ fp C s H,PG (cxComp X scope (own++fr.map fun j=>X.N.getD j Str.empty) fp C s H) tg g)
  (ht:∀ fp C s H,PIfs (cxComp X scope (own++fr.map fun j=>X.N.getD j Str.empty) fp C s H) ifs tt)
  (he:∀ fp C s H,PE (cxComp X scope (own++fr.map fun j=>X.N.getD j Str.empty) fp C s H) elt te)
  (hs:∀ x,foldedSetIterable iter X.env x=pure x:=by intro _;rfl):PE X (.ListComp elt [⟨tg,iter,ifs,0⟩] scope pos) (tComp own.length fr wi g tt te):=by
 intro pins s σ H Q I h
 rw [eval_ListComp]
 have hfree:∀ x∈scope.names,x.2=.free->∃ c,X.env.cells.lookup x.1=some c:=fun x hx e=>I.ok.has x.1 (hfr x hx e)
 refine wpAny_comprehension_free (use:=none) rfl hs (closureFor_eq hfree) hkind hnames ?_
 refine thn (hi pins s σ H _ I h) fun v s1 h1=>thn h1 fun itv s2 h2=>?_
 obtain ⟨it,fp,tn,J,H2,e,I2,T,st2,f2,W,⟨m0,w0⟩,turn⟩:=h2
 subst e
 have hfo:∀ b∈fp,b < s2.heap.objs.size:=fun b hb=>by obtain ⟨o,e,_⟩:=T.obj 0 _ st2 b hb;exact Heap.lt_size e
 refine wpAny_newObj_type (wpAny_newFunctionEnv hcell (by intro y hy;simp at hy) (fun h₁ hns₁ hsb₁=>?_) hkind)
 dsimp only at hns₁ hsb₁ ⊢
 generalize hH2:s2.heap.push { cls:=.type "list",dict:=none,data:=.seq ([]:List Value).toArray }=G2 at hns₁ hsb₁ ⊢
 have hC:G2.objs.size=s2.heap.objs.size + 1:=by rw [←hH2,Heap.size_push]
 have hDC:s2.heap.objs.size≠G2.objs.size:=by rw [hC];exact Nat.ne_of_lt (Nat.lt_succ_self _)
 have hCle:s2.heap.objs.size<=G2.objs.size:=by rw [hC];exact Nat.le_succ _
 have old:∀ b o,s2.heap.get? b=some o->h₁.get? b=some o:=fun b o e=>hsb₁.extBut b o (by rw [hC];exact Nat.ne_of_lt (Nat.lt_succ_of_lt (Heap.lt_size e))) (Heap.get?_push_of_some _ (hH2 ▸ Heap.get?_push_of_some _ e))
 have hacc:h₁.PlainList s2.heap.objs.size #[]:=⟨_,hsb₁.extBut _ _ hDC (Heap.get?_push_of_some _ (hH2 ▸ Heap.get?_push_size _ rfl))⟩
 have I3:Inv (cxComp X scope (own++fr.map fun j=>X.N.getD j Str.empty) fp G2.objs.size s2 H2) [] (innerSt own.length fr σ) H2 { s2 with heap:=h₁,toks:=s2.toks + ([]:List (Str × Value)).length } :=
  comp_enter I2 hkind hcell hfr hin hCle f2 hfo old hns₁
 have st3:tn 0 h₁:=T.keep 0 _ _ st2 fun b _ o e=>old b o e
 have hDf:s2.heap.objs.size ∉ fp:=fun hm=>Nat.lt_irrefl _ (hfo _ hm)
 have hDn2:H2 s2.heap.objs.size=none:=I2.hok.fresh (Nat.le_refl _)
 have sub:∀ y c,(cellsFor X.env scope.names []).lookup y=some c->X.env.cells.lookup y=some c:=cellsFor_sub _ _ hfree (by intro y c e;simp at e)
 have cellD:∀ y c,(cellsFor X.env scope.names []).lookup y=some c->c≠s2.heap.objs.size:=fun y c e=>by
  obtain ⟨_,o,ho,_⟩:=I2.cell y c (sub y c e)
  exact Nat.ne_of_lt (Heap.lt_size ho)
 have Dfs:s2.heap.objs.size ∉ frs X.stack:=fun z=>by
  rcases List.mem_cons.mp (I2.stkSub _ z) with e | e
  ·exact absurd I2.lt (by rw [←e];exact Nat.lt_irrefl _)
  ·exact I2.nofs (Nat.le_refl _) e
 -- the iterator's records,in the block's context
 have stat:∀ {H':Hp} {pl:List (Addr × Obj)},(∀ b∈fp,H' b=none)->(∀ p∈pl,p.1=s2.heap.objs.size)->∀ b∈fp,FpOk (cxComp X scope (own++fr.map fun j=>X.N.getD j Str.empty) fp G2.objs.size s2 H2) pl H' b:=fun {H' pl} hn hp b hb=>by
  refine ⟨hn b hb,(I3.ok.exf b hb).1,I3.ok.exfs b hb,.inl hb,(I3.ok.exf b hb).2,fun p hpp z=>?_⟩
  have hpp':p∈pl:=by simpa [cxComp] using hpp
  exact hDf (by rw [←hp p hpp',z];exact hb)
 have pinD:∀ {σ':St} {H':Hp} {s':Shared} {ys:Array Value} {n:Nat},Inv (cxComp X scope (own++fr.map fun j=>X.N.getD j Str.empty) fp G2.objs.size s2 H2) [] σ' H' s'->H' s2.heap.objs.size=none->s'.heap.get? s2.heap.objs.size=some { cls:=.type "list",data:=.seq ys n } ->
   Inv (cxComp X scope (own++fr.map fun j=>X.N.getD j Str.empty) fp G2.objs.size s2 H2) [(s2.heap.objs.size,{ cls:=.type "list",data:=.seq ys n })] σ' H' s':=fun {σ' H' s' ys n} J hn e=>J.pins_of fun p hp=>by
  have e':p=(s2.heap.objs.size,{ cls:=.type "list",data:=.seq ys n }):=by simpa using hp
  subst e'
  exact ⟨e,hn,hDC,Dfs,fun v z=>nomatch z⟩
 have loop:codeAny (model X.prog X.w) X.A (.compLoop (.ListComp elt [⟨tg,iter,ifs,0⟩] scope pos) 0 (.ref it) (.ref s2.heap.objs.size) (compEnvC scope (cellsFor X.env scope.names []) G2.objs.size X.env))
   (compPost (model X.prog X.w) X.A X.xe none (EP X pins σ Q) (.ref s2.heap.objs.size) G2.objs.size) { s2 with heap:=h₁,toks:=s2.toks + ([]:List (Str × Value)).length }:=by
  refine codeAny_compLoop_any (E:=fun _ _=>False) (fun n s'=>∃ i σ' H' vs ys,Inv (cxComp X scope (own++fr.map fun j=>X.N.getD j Str.empty) fp G2.objs.size s2 H2) [] σ' H' s'/\tn i s'.heap/\(∀ b∈fp,H' b=none)/\H' s2.heap.objs.size=none/\s'.heap.PlainList s2.heap.objs.size ys/\Vals vs ys.toList/\W i n σ' vs H')
   ?_ (fun _ _ z=>z.elim) m0 ⟨0,_,H2,[],#[],I3,st3,fun b hb=>(f2 b hb).1,hDn2,hacc,.nil,w0⟩
  rintro n s3 ⟨i,σ3,H3,vs,ys,J3,st3,fr3,dn3,⟨pn,pl3⟩,rv,w3⟩
  have J3':=pinD J3 dn3 pl3
  have hpins:∀ p∈[(s2.heap.objs.size,({ cls:=.type "list",data:=.seq ys pn }:Obj))],p.1=s2.heap.objs.size:=fun p hp=>by
   have e':p=(s2.heap.objs.size,{ cls:=.type "list",data:=.seq ys pn }):=by simpa using hp
   rw [e']
  rcases turn i n σ3 vs H3 w3 with ⟨stop,hz,q⟩ | ⟨go,hz,N,hN,step⟩
  ·refine thn (T.done (cxComp X scope (own++fr.map fun j=>X.N.getD j Str.empty) fp G2.objs.size s2 H2) rfl rfl rfl hc i _ s3 σ3 H3 (fun _ _=>False) J3' (stat fr3 hpins) st3 stop) fun r s4 ⟨hr,J4⟩=>?_
   subst hr
   obtain ⟨m4,hn4,_⟩:=id J4.loc
   refine ⟨m4,hn4,fun h' hs'=>?_⟩
   have e4:s4.heap.get? s2.heap.objs.size=some { cls:=.type "list",data:=.seq ys pn }:=(J4.pin (s2.heap.objs.size,{ cls:=.type "list",data:=.seq ys pn }) (List.mem_append_right _ (by simp))).1
   exact ⟨.ref s2.heap.objs.size,_,comp_leave I2 f2 J4 hCle (Nat.le_refl _) hDC dn3 ⟨pn,e4⟩ rv hz hs',rfl,q _ dn3⟩
  ·refine thn (T.item (cxComp X scope (own++fr.map fun j=>X.N.getD j Str.empty) fp G2.objs.size s2 H2) rfl rfl rfl hc i _ s3 σ3 H3 (fun _ _=>False) J3' (stat fr3 hpins) st3 go) fun r s4 ⟨u,hr,h4⟩=>?_
   subst hr
   refine thn h4 fun _ s5 ⟨x,H5,J5,r5,y5,st5,fr5⟩=>?_
   have J5':=J5.pinned (stat fr5 hpins) (T.obj _ _ st5)
   refine thn (hg fp _ s2 H2 _ s5 σ3 H5 x u _ J5' r5 (step x H5 y5)) fun _ s6 ⟨σ6,H6,J6,q6⟩=>?_
   refine thn (ht fp _ s2 H2 _ s6 σ6 H6 _ J6 q6) fun ok s7 ⟨H7,J7,q7⟩=>?_
   -- what stood pinned through the turn
   have after:∀ {s8:Shared} {H8:Hp},Inv (cxComp X scope (own++fr.map fun j=>X.N.getD j Str.empty) fp G2.objs.size s2 H2) ([(s2.heap.objs.size,({ cls:=.type "list",data:=.seq ys pn }:Obj))]++pinsAt fp s5.heap) σ6 H8 s8 ->
     tn (i + 1) s8.heap/\(∀ b∈fp,H8 b=none)/\H8 s2.heap.objs.size=none/\s8.heap.get? s2.heap.objs.size=some { cls:=.type "list",data:=.seq ys pn }:=fun {s8 H8} J8=>by
    refine ⟨T.keep _ _ _ st5 fun b hb o e=>(J8.pin (b,o) (List.mem_append_right _ (List.mem_append_right _ (mem_pinsAt hb e)))).1,fun b hb=>?_,?_,?_⟩
    ·obtain ⟨o,e,d⟩:=T.obj _ _ st5 b hb
     exact (J8.pin (b,o) (List.mem_append_right _ (List.mem_append_right _ (mem_pinsAt hb e)))).2.1
    ·exact (J8.pin (s2.heap.objs.size,{ cls:=.type "list",data:=.seq ys pn }) (List.mem_append_right _ (List.mem_append_left _ (by simp)))).2.1
    ·exact (J8.pin (s2.heap.objs.size,{ cls:=.type "list",data:=.seq ys pn }) (List.mem_append_right _ (List.mem_append_left _ (by simp)))).1
   cases ok with
   | false =>
    obtain ⟨m',hm,w7⟩:=hN _ _ _ q7
    obtain ⟨a1,a2,a3,a4⟩:=after J7
    exact ⟨m',hm,i + 1,σ6,H7,vs,ys,J7.pins_of (fun p hp=>absurd hp (by simp)),a1,a2,a3,⟨pn,a4⟩,rv,w7⟩
   | true =>
    refine thn (he fp _ s2 H2 _ s7 σ6 H7 _ J7 q7) fun y s8 ⟨v8,H8,J8,r8,n8⟩=>?_
    obtain ⟨m',hm,w8⟩:=hN _ _ _ n8
    obtain ⟨a1,a2,a3,a4⟩:=after J8
    have J9:Inv (cxComp X scope (own++fr.map fun j=>X.N.getD j Str.empty) fp G2.objs.size s2 H2) [] σ6 H8 s8:=J8.pins_of (fun p hp=>absurd hp (by simp))
    have hys:ys.size<=sizeLine:=by
     have e1:vs.length=ys.toList.length:=rv.length
     have e2:ys.toList.length=ys.size:=by simp
     omega
    refine wpAny_list_append_plain (hsz:=hys) ⟨pn,a4⟩ fun h₅ hl₅ hs₅=>?_
    refine ⟨m',hm,i + 1,σ6,H8,vs++[v8],ys.push y,J9.turned (t':=s8.toks) (it:=s2.heap.objs.size) (fun b o hb e=>by rw [hs₅.2 b hb];exact e) a3 hDC (.inr (Nat.le_refl _)) cellD (fun p hp=>absurd (show p∈([]:List (Addr × Obj)) from hp) (by simp)),
     T.keep _ _ _ a1 fun b hb o e=>(hs₅.2 b (fun z=>hDf (z ▸ hb))).trans e,a2,a3,hl₅,?_,w8⟩
    have:Vals (vs++[v8]) (ys.toList++[y]):=rv.append (.cons r8 .nil)
    simpa using this
 exact codeAny_compStart_list loop (T.self X.A 0 _ _ _ st3 loop)
end
end L2
namespace L2
open PySem PySem.Spec PyProof.Rows
def compOk (scope sc:Scope)(N0:List Str)(fr:List Nat):Bool :=
 scope.kind == .function && scope.names.all (fun x=>x.2 != .cell && (x.2 != .local || scope.names.lookup x.1 == some .local) && (x.2 != .free || sc.names.lookup x.1 == some .cell || sc.names.lookup x.1 == some .free)) &&
  fr.all (fun j=>scope.names.lookup (N0.getD j Str.empty) == some .free)
theorem pe_compC {X:Cx}{elt iter tg:Expr}{ifs:List Expr}{scope:Scope}{pos:Pos}{wi:TI}{g:TG}{tt:TT}{te:TE}(sc:Scope)(N0 own:List Str)(fr:List Nat)(hc:X.calm=true)(hsc:X.env.scope=sc)(hN:X.N=N0)
  (ok:compOk scope sc N0 fr=true) (hi:PI X tg iter wi) (hg:∀ fp C s H,PG (cxComp X scope (own++fr.map fun j=>N0.getD j Str.empty) fp C s H) tg g)
  (ht:∀ fp C s H,PIfs (cxComp X scope (own++fr.map fun j=>N0.getD j Str.empty) fp C s H) ifs tt)
  (he:∀ fp C s H,PE (cxComp X scope (own++fr.map fun j=>N0.getD j Str.empty) fp C s H) elt te)
  (hs:∀ x,foldedSetIterable iter X.env x=pure x:=by intro _;rfl):PE X (.ListComp elt [⟨tg,iter,ifs,0⟩] scope pos) (tComp own.length fr wi g tt te):=by
 subst hsc hN
 unfold compOk at ok
 simp only [Bool.and_eq_true,List.all_eq_true,bne_iff_ne,beq_iff_eq,Bool.or_eq_true] at ok
 obtain ⟨⟨k1,k2⟩,k3⟩:=ok
 refine pe_comp own fr hc k1 (fun x hx=>(k2 x hx).1.1) (fun x hx e=>?_) (fun x hx e=>?_) (fun j hj=>k3 j hj) hi hg ht he hs
 ·rcases (k2 x hx).1.2 with z | z
  ·exact absurd e z
  ·exact z
 ·rcases (k2 x hx).2 with (z | z) | z
  ·exact absurd e z
  ·exact .inl z
  ·exact .inr z
end L2
namespace L2
open PySem PySem.Spec PyProof.Rows
section
variable {g : TG} {tt : TT} {te : TE} {Q : VK} {σ0 : St} {H0 : Hp}
theorem comp_by {J:It}(n:Nat)(Pv:Nat->St->List V->Hp->Prop)(h0:Pv 0 σ0 [] H0)(hlen:∀ i σ vs H,i<=n->Pv i σ vs H->vs.length<=i)(hn:n<=sizeLine)(hgo:∀ i σ vs H,i < n->Pv i σ vs H->J.go i H)(hst:∀ σ vs H,Pv n σ vs H->J.stop n H)
  (hs:∀ i σ vs H x H',i < n->Pv i σ vs H->J.yld i H x H'->g x σ H' fun σ2 H2=>tt σ2 H2 fun ok H3=>if ok=true then te σ2 H3 fun v H4=>Pv (i + 1) σ2 (vs++[v]) H4 else Pv (i + 1) σ2 vs H3)
  (hd:∀ σ vs H,Pv n σ vs H->∀ p,H p=none->Q (.ref p) (upd H p (.lst vs))):CompW J g tt te Q σ0 H0:=by
 refine ⟨fun i m σ vs H=>m=n - i/\i<=n/\Pv i σ vs H,⟨n,by simp,Nat.zero_le _,h0⟩,?_⟩
 rintro i m σ vs H ⟨rfl,hi,p⟩
 have hv:=hlen i σ vs H hi p
 by_cases hlt:i < n
 ·exact .inr ⟨hgo i σ vs H hlt p,by omega,Pv (i + 1),fun σ2 vs2 H2 q=>⟨n - (i + 1),by omega,rfl,hlt,q⟩,fun x H' y=>hs i σ vs H x H' hlt p y⟩
 ·have e:i=n:=by omega
  subst e
  exact .inl ⟨hst σ vs H p,by omega,hd σ vs H p⟩
theorem comp_range {lo:Int}{n:Nat}(Pv:Nat->St->List V->Hp->Prop)(h0:Pv 0 σ0 [] H0)(hlen:∀ i σ vs H,i<=n->Pv i σ vs H->vs.length<=i)(hn:n<=sizeLine)
  (hs:∀ i σ vs H,i < n->Pv i σ vs H->g (.int (lo + i)) σ H fun σ2 H2=>tt σ2 H2 fun ok H3=>if ok=true then te σ2 H3 fun v H4=>Pv (i + 1) σ2 (vs++[v]) H4 else Pv (i + 1) σ2 vs H3)
  (hd:∀ σ vs H,Pv n σ vs H->∀ p,H p=none->Q (.ref p) (upd H p (.lst vs))):CompW (Itr lo n) g tt te Q σ0 H0 :=
 comp_by n Pv h0 hlen hn (fun _ _ _ _ h _=>h) (fun _ _ _ _=>Nat.le_refl _) (fun i σ vs H x H' hi p y=>by obtain ⟨rfl,rfl⟩:=y;exact hs i σ vs _ hi p) hd
theorem comp_list {K:PySem.W.Frag}{a:Addr}{xs:List V}(Pv:Nat->St->List V->Hp->Prop)(h0:Pv 0 σ0 [] H0)(hlen:∀ i σ vs H,i<=xs.length->Pv i σ vs H->vs.length<=i)(hn:xs.length<=sizeLine)(hl:∀ i σ vs H,i<=xs.length->Pv i σ vs H->SqL K H a xs)
  (hs:∀ i x σ vs H,xs[i]?=some x->Pv i σ vs H->g x σ H fun σ2 H2=>tt σ2 H2 fun ok H3=>if ok=true then te σ2 H3 fun v H4=>Pv (i + 1) σ2 (vs++[v]) H4 else Pv (i + 1) σ2 vs H3)
  (hd:∀ σ vs H,Pv xs.length σ vs H->∀ p,H p=none->Q (.ref p) (upd H p (.lst vs))):CompW (Itl K a) g tt te Q σ0 H0:=by
 refine comp_by xs.length Pv h0 hlen hn (fun i σ vs H hi p=>⟨xs,xs[i],hl i σ vs H (Nat.le_of_lt hi) p,by simp [hi]⟩) (fun σ vs H p=>⟨xs,hl _ σ vs H (Nat.le_refl _) p,Nat.le_refl _⟩) (fun i σ vs H x H' hi p y=>?_) hd
 obtain ⟨rfl,y⟩:=y
 exact hs i x σ vs _ (y xs (hl i σ vs _ (Nat.le_of_lt hi) p)) p
end
end L2
namespace L2
open PySem PySem.Spec PyProof.Rows
abbrev ZipN (h:Heap)(z TI TO T:Addr)(flag:Bool):Prop :=
 h.get? z=some { cls:=.type "zip",dict:=none,data:=.fields #[rawInt T,.bool flag,.bool false,.ref TI,.ref TO],slots:=#[] }
section
variable {prog : Program} {w : World} {A : Around} {E : Value → Shared → Prop} {s : Shared}
theorem busy_free {z TI TO T:Addr}{flag:Bool}{oT:Obj}{Q:Bool->Shared->Prop}(hz:ZipN s.heap z TI TO T flag)(hT:s.heap.get? T=some oT)
  (hQ:∀ h',ZipN h' z TI TO T true->Heap.SameBut z s.heap h'->Q false { s with heap:=h' }):wpAny (model prog w) A (Builtin.SmallTypes.ownedTupleIsFree (.ref z)) Q E s:=by
 unfold Builtin.SmallTypes.ownedTupleIsFree
 refine wpAny_bind (wpAny_field hz rfl (x:=rawInt T) rfl ?_)
 show wpAny _ _ (loadIfAlive ((T:Int).toNat) >>= _) _ _ _
 rw [Int.toNat_natCast]
 refine wpAny_bind (PySem.W.kdx_alive hT ?_)
 simp only [Option.isNone_some,Bool.false_eq_true,if_false]
 refine wpAny_bind (wpAny_field hz rfl (x:=.bool flag) rfl ?_)
 cases flag with
 | true =>
  rw [if_neg (show ¬ ((Value.bool true != Value.bool true)=true) from Bool.false_ne_true)]
  exact wpAny_pure (hQ s.heap hz (Heap.SameBut.refl _ _))
 | false =>
  rw [if_pos (show (Value.bool false != Value.bool true)=true from rfl)]
  exact wpAny_bind (wpAny_setField_rec hz (by simp) fun h' hz' hs'=>wpAny_pure (hQ h' hz' hs'))
end
end L2
namespace L2
open PySem PySem.Spec PyProof.Rows
theorem zip_no_len:typeLookup (.type "zip") "__len__"=pure none:=by rw [typeLookup_type,builtinLookup_eq_fast];kernel_rfl
theorem zip_no_hint:typeLookup (.type "zip") "__length_hint__"=pure none:=by rw [typeLookup_type,builtinLookup_eq_fast];kernel_rfl
structure ZTold (h:Heap) (lo:Nat) (xs ys:Array Value) (as:List Nat):Prop where
 rise:as.Pairwise (· < ·)
 low:∀ a∈as,lo<=a
 pairs:∀ (j:Nat) (a:Nat),as[j]?=some a->∃ x y,xs[j]?=some x/\ys[j]?=some y/\IsPair h a x y
theorem ZTold.lt {h:Heap}{lo:Nat}{xs ys:Array Value}{as:List Nat}(g:ZTold h lo xs ys as){a:Nat}(ha:a∈as):a < h.objs.size:=by
 obtain ⟨j,hj⟩:=List.mem_iff_getElem?.mp ha
 obtain ⟨_,_,_,_,e⟩:=g.pairs j a hj
 exact Heap.lt_size e
theorem ZTold.keep {h h':Heap}{lo:Nat}{xs ys:Array Value}{as:List Nat}(g:ZTold h lo xs ys as)(k:∀ c o,lo<=c->h.get? c=some o->h'.get? c=some o):ZTold h' lo xs ys as :=
 ⟨g.rise,g.low,fun j a e=>by
  obtain ⟨x,y,e1,e2,e3⟩:=g.pairs j a e
  exact ⟨x,y,e1,e2,k a _ (g.low a (List.mem_of_getElem? e)) e3⟩⟩
theorem ZTold.snoc {h h':Heap}{lo:Nat}{xs ys:Array Value}{as:List Nat}{n:Nat}{x y:Value}(g:ZTold h lo xs ys as)(k:∀ c o,lo<=c->h.get? c=some o->h'.get? c=some o)(hn:lo<=n)(hn2:h.objs.size<=n)(hx:xs[as.length]?=some x)(hy:ys[as.length]?=some y)(hp:IsPair h' n x y) :
  ZTold h' lo xs ys (as++[n]):=by
 have g':=g.keep k
 refine ⟨List.pairwise_append.mpr ⟨g.rise,List.pairwise_singleton _ _,fun a ha b hb=>?_⟩,fun a ha=>?_,fun j a e=>?_⟩
 ·rw [List.mem_singleton.mp hb];exact Nat.lt_of_lt_of_le (g.lt ha) hn2
 ·rcases List.mem_append.mp ha with h | h
  ·exact g.low a h
  ·rw [List.mem_singleton.mp h];exact hn
 ·rcases Nat.lt_trichotomy j as.length with hj | hj | hj
  ·rw [List.getElem?_append_left hj] at e;exact g'.pairs j a e
  ·subst hj
   rw [List.getElem?_append_right (Nat.le_refl _),Nat.sub_self] at e
   cases e
   exact ⟨x,y,hx,hy,hp⟩
  ·rw [List.getElem?_eq_none (by rw [List.length_append,List.length_singleton];omega)] at e;cases e
section
variable {prog : Program} {w : World} {A : Around} {R : Result → Shared → Prop} {s : Shared}
end
section
variable {prog : Program} {w : World} {A : Around} {E : Value → Shared → Prop} {s : Shared}
end
end L2
namespace L2
open PySem PySem.Spec PyProof.Rows
section
variable {X : Cx} {pins : List (Addr × Obj)} {σ : St} {H H' : Hp} {s : Shared} {h' : Heap}
theorem Inv.grow {t':Nat}(I:Inv X pins σ H s)(k:∀ b u,s.heap.get? b=some u->h'.get? b=some u)(hH:∀ b,b < s.heap.objs.size->H' b=H b)
  (hnew:∀ b o,s.heap.objs.size<=b->H' b=some o->ObjOk X.prog X.w H' h' b o):Inv X pins σ H' { s with heap:=h',toks:=t' }:=by
 have up:∀ b o,H b=some o->H' b=some o:=fun b o e=>by rw [hH b (I.hok.lt e)];exact e
 refine I.un (h':=h') ⟨fun b o e _ _ _=>k b o e,fun b o e _ _ _=>⟨o.slots,k b o e⟩,fun b o e n _=>by rw [hH b (Heap.lt_size e)];exact n,fun b o e _=>⟨o,k b o e⟩,fun b xs e=>up b _ e,fun b o u e=>up b _ e,fun b ps e=>⟨#[],by rw [up b _ e];simp⟩⟩ fun b o e=>?_
 by_cases hb:b < s.heap.objs.size
 ·rw [hH b hb] at e
  exact (I.hok b o e).stay (fun c u _ q=>k c u q) (fun c q=>up c _ q) fun c xs q=>up c _ q
 ·exact hnew b o (Nat.not_lt.mp hb) e
end
def layT:List Nat->List V->List V->Hp->Hp
 | a::as,x::xs,y::ys,H=>upd (layT as xs ys H) a (.tup [x,y])
 | _,_,_,H=>H
theorem layT_out {H:Hp}{b:Nat}:∀ (as:List Nat) (xs ys:List V),b ∉ as->layT as xs ys H b=H b
 | [],_,_,_=>by unfold layT;rfl
 | a::as,[],_,_=>by unfold layT;rfl
 | a::as,_::_,[],_=>by unfold layT;rfl
 | a::as,x::xs,y::ys,h=>by
  unfold layT
  rw [upd_ne (fun z=>h (by rw [z];exact List.mem_cons_self))]
  exact layT_out as xs ys fun z=>h (List.mem_cons_of_mem _ z)
theorem layT_in {H:Hp}:∀ (as:List Nat) (xs ys:List V),as.Pairwise (· < ·)->∀ (j:Nat) (u:Nat) (x y:V),as[j]?=some u->xs[j]?=some x->ys[j]?=some y->layT as xs ys H u=some (.tup [x,y])
 | [],_,_,_,j,u,x,y,h,_,_=>by simp at h
 | a::as,[],_,_,j,u,x,y,_,h,_=>by simp at h
 | a::as,_::_,[],_,j,u,x,y,_,_,h=>by simp at h
 | a::as,x0::xs,y0::ys,hp,0,u,x,y,h1,h2,h3=>by
  simp at h1 h2 h3
  subst h1 h2 h3
  unfold layT
  exact upd_same
 | a::as,x0::xs,y0::ys,hp,j + 1,u,x,y,h1,h2,h3=>by
  simp at h1 h2 h3
  have hu:a < u:=(List.pairwise_cons.mp hp).1 u (List.mem_of_getElem? h1)
  unfold layT
  rw [upd_ne (Nat.ne_of_gt hu)]
  exact layT_in as xs ys (List.pairwise_cons.mp hp).2 j u x y h1 h2 h3
theorem layT_some {H:Hp}{b:Nat}{o:HO}:∀ (as:List Nat) (xs ys:List V),layT as xs ys H b=some o->H b=some o\/∃ (j:Nat) (x y:V),as[j]?=some b/\xs[j]?=some x/\ys[j]?=some y/\o=.tup [x,y]
 | [],_,_,h=>by unfold layT at h;exact .inl h
 | a::as,[],_,h=>by unfold layT at h;exact .inl h
 | a::as,_::_,[],h=>by unfold layT at h;exact .inl h
 | a::as,x::xs,y::ys,h=>by
  unfold layT at h
  by_cases hb:b=a
  ·subst hb
   rw [upd_same] at h
   cases h
   exact .inr ⟨0,x,y,rfl,rfl,rfl,rfl⟩
  ·rw [upd_ne hb] at h
   rcases layT_some as xs ys h with e | ⟨j,x',y',e1,e2,e3,e4⟩
   ·exact .inl e
   ·exact .inr ⟨j + 1,x',y',by simpa using e1,by simpa using e2,by simpa using e3,e4⟩
section
variable {X : Cx} {a b : Expr} {t : TA} {p1 p2 p3 p4 : Pos}
theorem vals_refs:∀ (as:List Nat),Vals (as.map V.ref) (as.map Value.ref)
 | []=>.nil
 | _::r=>.cons rfl (vals_refs r)
end
end L2
namespace L2
open PySem PySem.Spec PyProof.Rows
section
variable {X : Cx} {tg : Expr}
end
section
variable {X : Cx}
theorem strs_of:∀ {ys:List Str} {us:List Value},Vals (ys.map V.str) us->StrsAre us ys
 | [],_,.nil=>.nil
 | _::_,_,.cons ⟨t,e⟩ r=>by subst e;exact .cons _ t (strs_of r)
def rJoin (K:PySem.W.Frag):V->List V->Hp->VK->Prop:=fun x vs H Q=>∃ z p ys,x=.str z/\vs=[.ref p]/\SqL K H p (ys.map V.str)/\(ys.map (·.length)).sum + ys.length * z.length<=16777216/\Q (.str (Txt.join z ys)) H
theorem mt_join:MtR X "str.join" (rJoin X.K):=by
 intro pins s σ H x xs v us Q I rx rs h
 obtain ⟨z,p,ys,rfl,rfl,hq,hb,q⟩:=h
 obtain ⟨t,rfl⟩:=rx
 obtain ⟨u,rfl,ru⟩:=vals1 rs
 cases ru
 obtain ⟨its,rv,pl,hz⟩:=I.list hq
 exact join_list pl.isList (by simpa using strs_of rv) hb fun t' k=>⟨.str _,H,I.tok _,⟨_,rfl⟩,q⟩
def rSlS:V->Option Int->Option Int->Hp->VK->Prop:=fun x lo hi H Q=>∃ z,x=.str z/\z.length<=sizeLine/\Q (.str (Txt.slice z lo hi)) H
theorem part_of {v:Value}{o:Option Int}(h:IsPart v o):∃ p:Option (Int × Tok),v=partValue p/\p.map (·.1)=o:=by
 cases h with
 | none=>exact ⟨none,rfl,rfl⟩
 | int i t=>exact ⟨some (i,t),rfl,rfl⟩
theorem sl_str:SlR X rSlS:=by
 intro pins s σ H x v vl vu lo hi sl Q I rx hs pl pu h
 obtain ⟨z,rfl,hz,q⟩:=h
 obtain ⟨t,rfl⟩:=rx
 obtain ⟨p1,rfl,e1⟩:=part_of pl
 obtain ⟨p2,rfl,e2⟩:=part_of pu
 refine ⟨"str",_,PySem.F.slot_str_getitem.lookup,typeIs_str s z t,?_⟩
 refine wpAny_getItem_str_slice (l:=p1) (u:=p2) (st:=none) hs rfl ?_
 subst e1 e2
 cases p1 <;> cases p2 <;> exact post_val_or_str ⟨Nat.le_trans (Txt.slice_le z _ _) hz,fun t' k=>⟨.str _,H,I.tok _,⟨_,rfl⟩,q⟩⟩
end
end L2
namespace L2
open PySem PySem.Spec PyProof.Rows
def pickV (xs:List V)(lo hi st:Option Int):List V:=(sliceRange (sliceBounds lo hi st xs.length).1 (sliceBounds lo hi st xs.length).2.1 (sliceBounds lo hi st xs.length).2.2).filterMap (xs[·]?)
theorem vals_pick {xs:List V}{us:List Value}(r:Vals xs us):∀ ix:List Nat,Vals (ix.filterMap (xs[·]?)) (ix.filterMap (us[·]?))
 | []=>.nil
 | i::ix=>by
  rw [List.filterMap_cons,List.filterMap_cons]
  cases e:xs[i]? with
  | none=>rw [r.none_of e];exact vals_pick r ix
  | some x =>
   obtain ⟨u,e2,rx⟩:=r.get e
   rw [e2]
   exact .cons rx (vals_pick r ix)
section
variable {X : Cx} {e st : Expr} {lo hi : Option Expr} {te : TE} {tl th tk : TO} {p2 pos : Pos}
def tSl3 (K:PySem.W.Frag)(te:TE)(tl th tk:TO):TE:=fun σ H Q=>te σ H fun x H1=>tl σ H1 fun l H2=>th σ H2 fun u H3=>tk σ H3 fun k H4=>∃ a xs,x=.ref a/\SqL K H4 a xs/\k≠some 0/\(pickV xs l u k).length<=sizeLine /\
 ∀ p,H4 p=none->Q (.ref p) (upd H4 p (.lst (pickV xs l u k)))
theorem pe_slice3 (he:PE X e te)(hl:PO X lo tl)(hu:PO X hi th)(hk:PO X (some st) tk):PE X (.Subscript e (.Slice lo hi (some st) p2) pos) (tSl3 X.K te tl th tk):=by
 intro pins s σ H Q I h
 refine Subscript_ (thn (he pins s σ H _ I h) fun v s1 ⟨x,H1,I1,r1,q1⟩=>?_)
 refine wpAny_Slice (thn (hl pins s1 σ H1 _ I1 q1) fun vl s2 ⟨l,H2,I2,pl,q2⟩=>thn (hu pins s2 σ H2 _ I2 q2) fun vu s3 ⟨u,H3,I3,pu,q3⟩=>thn (hk pins s3 σ H3 _ I3 q3) fun vk s4 ⟨k,H4,I4,pk,q4⟩=>?_)
 obtain ⟨a,xs,rfl,hx,k0,hz2,q⟩:=q4
 cases r1
 have I5:Inv X pins σ H4 { s4 with heap:=s4.heap.push { cls:=.type "slice",data:=.fields #[vl,vu,vk] } }:=I4.kept (t':=s4.toks) fun b ob q=>Heap.get?_push_of_some _ q
 obtain ⟨its,r,ht,hz⟩:=I5.list hx
 have hlen:=r.length
 refine tail_any (T:="list") (ops:=[.ref a,.ref s4.heap.objs.size]) ht.isList.typeIs slot_list_getitem.lookup ?_ (by with_unfolding_all rfl)
 refine wpAny_getItem_list_slice ht.isList (Heap.IsSliceOf.new ..) pl pu pk k0 ?_ (by rw [List.size_toArray] <;> omega)
 have ep:slicePick its.toArray l u k=((sliceRange (sliceBounds l u k xs.length).1 (sliceBounds l u k xs.length).2.1 (sliceBounds l u k xs.length).2.2).filterMap (its[·]?)).toArray:=by
  unfold slicePick
  rw [List.size_toArray,←hlen]
  simp
 rw [ep]
 refine ⟨.ref _,_,I5.laid (t':=s4.toks) (o:=.lst (pickV xs l u k)) (fun b ob q=>Heap.get?_push_of_some _ q) (Nat.le_refl _) ?_,rfl,q _ (I5.hok.fresh (Nat.le_refl _))⟩
 exact ⟨hz2,_,0,vals_pick r _,Heap.get?_push_size _ rfl⟩
end
theorem pick_of {xs:List V}{lo hi st:Option Int}{ix:List Nat}(h:sliceRange (sliceBounds lo hi st xs.length).1 (sliceBounds lo hi st xs.length).2.1 (sliceBounds lo hi st xs.length).2.2=ix):pickV xs lo hi st=ix.filterMap (xs[·]?):=by
 unfold pickV
 rw [h]
end L2
namespace L2
open PySem PySem.Spec PyProof.Rows
def strsOf:List Expr->Option (List Str)
 | []=>some []
 | .Constant (.str x) _ _::r=>(strsOf r).map (x::·)
 | _=>none
def tStrs (xs:List Str):TA:=fun _ H Q=>Q (xs.map V.str) H
theorem pa_strs {X:Cx}:∀ {es:List Expr} {xs:List Str},strsOf es=some xs->PA X es (tStrs xs)
 | [],xs,h=>by
  cases h
  exact pa_nil
 | .Constant (.str x) j p::r,xs,h=>by
  unfold strsOf at h
  cases e:strsOf r with
  | none=>rw [e] at h;cases h
  | some ys =>
   rw [e] at h
   cases h
   exact pa_cons pe_str (pa_strs e) rfl
end L2
namespace L2
open PySem PySem.Spec PyProof.Rows PySem.SeqAt
section
variable {X : Cx}
end
end L2
namespace L2
open PySem PySem.Spec PyProof.Rows PySem.SeqAt
mutual
def Rp (K:PySem.W.Frag)(H:Hp):T->V->Prop
 | .s x,v=>v=.str x
 | .i n,v=>v=.int n
 | .n,v=>v=.non
 | .t xs,v=>∃ a vs,v=.ref a/\SqT K H a vs/\Rps K H xs vs
def Rps (K:PySem.W.Frag)(H:Hp):List T->List V->Prop
 | [],vs=>vs=[]
 | x::r,vs=>∃ v q,vs=v::q/\Rp K H x v/\Rps K H r q
end
def Kt (H H':Hp):Prop:=∀ a xs,Rd H a (.tup xs)->Rd H' a (.tup xs)
theorem Kt.refl {H:Hp}:Kt H H:=fun _ _ h=>h
theorem Kt.trans {H H1 H2:Hp}(a:Kt H H1)(b:Kt H1 H2):Kt H H2:=fun c xs h=>b c xs (a c xs h)
theorem Kt.same {H H':Hp}(s:Same H H'):Kt H H':=fun a xs h=>h.elim (fun e=>.inl (s _ _ e)) fun ⟨o,e⟩=>.inr ⟨o,s _ _ e⟩
theorem Kt.new {H:Hp}{p:Addr}(h:H p=none)(o:HO):Kt H (upd H p o):=fun a xs r=>r.elim (fun e=>.inl (by rw [upd_ne (ne_of_none e h)];exact e)) fun ⟨u,e⟩=>.inr ⟨u,by rw [upd_ne (ne_of_none e h)];exact e⟩
theorem Kt.upd {H:Hp}{l:Addr}{u:HO}(h:H l=some u)(h1:∀ xs,u≠.tup xs)(h2:∀ o xs,u≠.frz o (.tup xs))(o:HO):Kt H (upd H l o):=fun a xs r=>by
 rcases r with e | ⟨p,e⟩
 ·exact .inl (by rw [upd_ne (ne_of e h fun z=>h1 _ z.symm)];exact e)
 ·exact .inr ⟨p,by rw [upd_ne (ne_of e h fun z=>h2 _ _ z.symm)];exact e⟩
theorem Kt.lst {H:Hp}{l:Addr}{xs:List V}(h:H l=some (.lst xs))(o:HO):Kt H (L2.upd H l o):=Kt.upd h (fun _ z=>nomatch z) (fun _ _ z=>nomatch z) o
section
variable {K : PySem.W.Frag} {H H' : Hp}
theorem SqT.kt (k:Kt H H'){a:Addr}{xs:List V}(h:SqT K H a xs):SqT K H' a xs:=h.elim (fun e=>.inl (k _ _ e)) .inr
theorem Rps.all (f:∀ {x v},Rp K H x v->Rp K H' x v):∀ {xs:List T} {vs:List V},Rps K H xs vs->Rps K H' xs vs
 | [],vs,h=>by unfold Rps at h ⊢;exact h
 | x::r,vs,h=>by
  unfold Rps at h ⊢
  obtain ⟨v,q,e,h1,h2⟩:=h
  exact ⟨v,q,e,f h1,Rps.all f h2⟩
theorem Rps.nil:Rps K H [] []:=by unfold Rps;rfl
theorem Rps.cons {x:T}{v:V}{r:List T}{q:List V}(h:Rp K H x v)(t:Rps K H r q):Rps K H (x::r) (v::q):=by unfold Rps;exact ⟨v,q,rfl,h,t⟩
theorem Rps.inv {x:T}{r:List T}{vs:List V}(h:Rps K H (x::r) vs):∃ v q,vs=v::q/\Rp K H x v/\Rps K H r q:=by unfold Rps at h;exact h
theorem Rps.inv0 {vs:List V}(h:Rps K H [] vs):vs=[]:=by unfold Rps at h;exact h
theorem Rp.s {x:Str}:Rp K H (.s x) (.str x):=by unfold Rp;rfl
theorem Rp.i {n:Int}:Rp K H (.i n) (.int n):=by unfold Rp;rfl
theorem Rp.non:Rp K H .n .non:=by unfold Rp;rfl
theorem Rp.t {xs:List T}{vs:List V}{a:Addr}(h:SqT K H a vs)(r:Rps K H xs vs):Rp K H (.t xs) (.ref a):=by unfold Rp;exact ⟨a,vs,rfl,h,r⟩
theorem Rp.inv_s {x:Str}{v:V}(h:Rp K H (.s x) v):v=.str x:=by unfold Rp at h;exact h
theorem Rp.inv_i {n:Int}{v:V}(h:Rp K H (.i n) v):v=.int n:=by unfold Rp at h;exact h
theorem Rp.inv_t {xs:List T}{v:V}(h:Rp K H (.t xs) v):∃ a vs,v=.ref a/\SqT K H a vs/\Rps K H xs vs:=by unfold Rp at h;exact h
theorem Rp.kt (k:Kt H H'){x:T}:∀ {v:V},Rp K H x v->Rp K H' x v:=by
 induction x using T.induct with
 | hs x=>intro v h;rw [h.inv_s];exact .s
 | hi x=>intro v h;rw [h.inv_i];exact .i
 | hn=>intro v h;unfold Rp at h;rw [h];exact .non
 | ht xs ih =>
  intro v h
  obtain ⟨a,vs,rfl,hs,hr⟩:=h.inv_t
  refine .t (hs.kt k) ?_
  clear hs h
  induction xs generalizing vs with
  | nil=>rw [hr.inv0];exact .nil
  | cons x r ih2 =>
   obtain ⟨v,q,rfl,h1,h2⟩:=hr.inv
   exact .cons (ih x (.head _) h1) (ih2 (fun y hy=>ih y (.tail _ hy)) _ h2)
theorem Rps.kt (k:Kt H H'){xs:List T}{vs:List V}(h:Rps K H xs vs):Rps K H' xs vs:=Rps.all (fun h=>h.kt k) h
theorem Rps.length:∀ {xs:List T} {vs:List V},Rps K H xs vs->vs.length=xs.length
 | [],vs,h=>by rw [h.inv0];rfl
 | x::r,vs,h=>by
  obtain ⟨v,q,rfl,_,h2⟩:=h.inv
  rw [List.length_cons,List.length_cons,Rps.length h2]
theorem Rps.get:∀ {xs:List T} {vs:List V} {i:Nat} {x:T},Rps K H xs vs->xs[i]?=some x->∃ v,vs[i]?=some v/\Rp K H x v
 | [],vs,i,x,h,e=>by simp at e
 | x::r,vs,0,y,h,e=>by
  obtain ⟨v,q,rfl,h1,_⟩:=h.inv
  simp at e;subst e
  exact ⟨v,rfl,h1⟩
 | x::r,vs,i + 1,y,h,e=>by
  obtain ⟨v,q,rfl,_,h2⟩:=h.inv
  obtain ⟨w,h3,h4⟩:=Rps.get (i:=i) h2 (by simpa using e)
  exact ⟨w,by simpa using h3,h4⟩
theorem Rps.get':∀ {xs:List T} {vs:List V} {i:Nat} {v:V},Rps K H xs vs->vs[i]?=some v->∃ x,xs[i]?=some x/\Rp K H x v:=fun {xs vs i v} h e=>by
 have l:=h.length
 have hi:i < xs.length:=by
  rcases Nat.lt_or_ge i vs.length with z | z
  ·omega
  ·rw [List.getElem?_eq_none_iff.mpr z] at e;cases e
 obtain ⟨w,h1,h2⟩:=h.get (List.getElem?_eq_getElem hi)
 rw [e] at h1;cases h1
 exact ⟨_,List.getElem?_eq_getElem hi,h2⟩
theorem Rps.append:∀ {xs ys:List T} {vs ws:List V},Rps K H xs vs->Rps K H ys ws->Rps K H (xs++ys) (vs++ws)
 | [],ys,vs,ws,h,g=>by rw [h.inv0];exact g
 | x::r,ys,vs,ws,h,g=>by
  obtain ⟨v,q,rfl,h1,h2⟩:=h.inv
  exact .cons h1 (Rps.append h2 g)
theorem Rps.one {x:T}{v:V}(h:Rp K H x v):Rps K H [x] [v]:=.cons h .nil
theorem Rps.snoc {xs:List T}{vs:List V}{x:T}{v:V}(h:Rps K H xs vs)(g:Rp K H x v):Rps K H (xs++[x]) (vs++[v]):=h.append (.one g)
theorem Rps.take:∀ {xs:List T} {vs:List V} (n:Nat),Rps K H xs vs->Rps K H (xs.take n) (vs.take n)
 | xs,vs,0,h=>.nil
 | [],vs,n + 1,h=>by rw [h.inv0];exact .nil
 | x::r,vs,n + 1,h=>by
  obtain ⟨v,q,rfl,h1,h2⟩:=h.inv
  exact .cons h1 (Rps.take n h2)
theorem Rps.split:∀ {xs ys:List T} {vs:List V},Rps K H (xs++ys) vs->∃ ws us,vs=ws++us/\Rps K H xs ws/\Rps K H ys us
 | [],ys,vs,h=>⟨[],vs,rfl,.nil,h⟩
 | x::r,ys,vs,h=>by
  obtain ⟨v,q,rfl,h1,h2⟩:=Rps.inv h
  obtain ⟨ws,us,rfl,h3,h4⟩:=Rps.split h2
  exact ⟨v::ws,us,rfl,.cons h1 h3,h4⟩
theorem Rps.reverse:∀ {xs:List T} {vs:List V},Rps K H xs vs->Rps K H xs.reverse vs.reverse
 | [],vs,h=>by rw [h.inv0];exact .nil
 | x::r,vs,h=>by
  obtain ⟨v,q,rfl,h1,h2⟩:=h.inv
  rw [List.reverse_cons,List.reverse_cons]
  exact (Rps.reverse h2).snoc h1
theorem Rps.strs:∀ (xs:List Str),Rps K H (xs.map .s) (xs.map .str)
 | []=>.nil
 | _::r=>.cons .s (Rps.strs r)
end
section
variable {X : Cx} {pins : List (Addr × Obj)} {σ : St} {H : Hp} {s : Shared}
theorem Rp.inj (I:Inv X pins σ H s)(a:T):∀ (b:T) {v:V},Rp X.K H a v->Rp X.K H b v->a=b:=by
 induction a using T.induct with
 | hs x =>
  intro b v h g
  rw [h.inv_s] at g
  cases b with
  | s y=>have z:=g.inv_s;injection z with z;rw [z]
  | i y=>have z:=g.inv_i;cases z
  | n=>unfold Rp at g;cases g
  | t ys=>obtain ⟨_,_,z,_⟩:=g.inv_t;cases z
 | hi x =>
  intro b v h g
  rw [h.inv_i] at g
  cases b with
  | s y=>have z:=g.inv_s;cases z
  | i y=>have z:=g.inv_i;injection z with z;rw [z]
  | n=>unfold Rp at g;cases g
  | t ys=>obtain ⟨_,_,z,_⟩:=g.inv_t;cases z
 | hn =>
  intro b v h g
  unfold Rp at h
  rw [h] at g
  cases b with
  | s y=>have z:=g.inv_s;cases z
  | i y=>have z:=g.inv_i;cases z
  | n=>rfl
  | t ys=>obtain ⟨_,_,z,_⟩:=g.inv_t;cases z
 | ht xs ih =>
  intro b v h g
  obtain ⟨p,vs,rfl,hs,hr⟩:=h.inv_t
  cases b with
  | t ys =>
   obtain ⟨p',ws,e,hs',hr'⟩:=g.inv_t
   cases e
   have e:=I.tuple_inj hs hs'
   subst e
   congr 1
   clear hs hs' h g
   induction xs generalizing ys vs with
   | nil =>
    have z:=hr.inv0
    subst z
    cases ys with
    | nil=>rfl
    | cons y q=>obtain ⟨_,_,z,_⟩:=hr'.inv;cases z
   | cons x r ih2 =>
    obtain ⟨v,q,rfl,h1,h2⟩:=hr.inv
    cases ys with
    | nil=>cases hr'.inv0
    | cons y q' =>
     obtain ⟨v',q'',e,h1',h2'⟩:=hr'.inv
     cases e
     rw [ih x (.head _) y h1 h1',ih2 (fun z hz=>ih z (.tail _ hz)) _ h2 _ h2']
  | _=>unfold Rp at g;cases g
theorem isTuple_of {h:Heap}{a:Addr}{its:Array Value}(p:IsTup h a its):h.IsTuple a its:=p
theorem items_get {us:List V}{its:List Value}(r:Vals us its){j:Nat}{v:V}(e:us[j]?=some v){h:j < its.toArray.size}:RelV v its.toArray[j]:=by
 obtain ⟨u,h1,h2⟩:=r.get e
 have z:its.toArray[j]=u:=by
  have q:its[j]?=some its.toArray[j]:=by
   rw [List.getElem?_eq_getElem (by simpa using h)]
   simp
  rw [h1] at q
  exact (Option.some.inj q).symm
 rw [z];exact h2
def EqsAt (s:Shared)(K:PySem.W.Frag)(H:Hp)(x:T):Prop:=∀ (b:T) {u v:V} {u' v':Value} (A:Around),A.units + x.dep < cLine->Rp K H x u->Rp K H b v->RelV u u'->RelV v v'->EqAt A s u' v' (x.eqB b)
theorem eqs_items {xs ys:List T}{us ws:List V}{its its':List Value}{A:Around}(ih:∀ x∈xs,EqsAt s X.K H x)(hu:A.units + T.deps xs < cLine)(hr:Rps X.K H xs us)(hr':Rps X.K H ys ws)(r:Vals us its)(r':Vals ws its')
  (j:Nat) (h1:j < its.toArray.size) (h2:j < its'.toArray.size):EqAt A s its.toArray[j] its'.toArray[j] (T.eqB (xs.getD j .n) (ys.getD j .n)):=by
 have l1:us.length=its.length:=r.length
 have l2:ws.length=its'.length:=r'.length
 have l3:=hr.length
 have l4:=hr'.length
 have h1':j < its.length:=by simpa using h1
 have h2':j < its'.length:=by simpa using h2
 have hx:j < xs.length:=by omega
 have hy:j < ys.length:=by omega
 obtain ⟨v,hv,rv⟩:=hr.get (List.getElem?_eq_getElem hx)
 obtain ⟨w,hw,rw'⟩:=hr'.get (List.getElem?_eq_getElem hy)
 have e1:xs.getD j .n=xs[j]:=by simp [hx]
 have e2:ys.getD j .n=ys[j]:=by simp [hy]
 rw [e1,e2]
 exact ih _ (List.getElem_mem hx) _ A (Nat.lt_of_le_of_lt (Nat.add_le_add_left (T.deps_mem (List.getElem_mem hx)) _) hu) rv rw' (items_get r hv) (items_get r' hw)
theorem rc_tuples (I:Inv X pins σ H s){xs ys:List T}{us ws:List V}{p q:Addr}{A:Around}(ih:∀ x∈xs,EqsAt s X.K H x)(hu:A.units + 1 + T.deps xs < cLine)(hs:SqT X.K H p us)(hr:Rps X.K H xs us)(hs':SqT X.K H q ws)(hr':Rps X.K H ys ws) :
  RcAt A s (.ref p) (.ref q) (T.eqBs xs ys):=by
 obtain ⟨its,r,it,_⟩:=I.tuple hs
 obtain ⟨its',r',it',_⟩:=I.tuple hs'
 have z:=RcAt.tuples (A:=A) (isTuple_of it) (isTuple_of it') (by omega) (e:=fun j=>T.eqB (xs.getD j .n) (ys.getD j .n)) (eqs_items (A:=A.in1) ih (by show A.units + 1 + _ < _;exact hu) hr hr' r r')
 have l1:us.length=its.length:=r.length
 have l2:ws.length=its'.length:=r'.length
 have l3:=hr.length
 have l4:=hr'.length
 rw [T.eqBs_range]
 have e1:its.toArray.size=xs.length:=by simp;omega
 have e2:its'.toArray.size=ys.length:=by simp;omega
 rw [e1,e2] at z
 exact z
theorem rcne_tuples (I:Inv X pins σ H s){xs ys:List T}{us ws:List V}{p q:Addr}{A:Around}(ih:∀ x∈xs,EqsAt s X.K H x)(hu:A.units + 1 + T.deps xs < cLine)(hs:SqT X.K H p us)(hr:Rps X.K H xs us)(hs':SqT X.K H q ws)(hr':Rps X.K H ys ws) :
  RcNeAt A s (.ref p) (.ref q) (!T.eqBs xs ys):=by
 obtain ⟨its,r,it,_⟩:=I.tuple hs
 obtain ⟨its',r',it',_⟩:=I.tuple hs'
 have z:=RcNeAt.tuples (A:=A) (isTuple_of it) (isTuple_of it') (by omega) (e:=fun j=>T.eqB (xs.getD j .n) (ys.getD j .n)) (eqs_items (A:=A.in1) ih (by show A.units + 1 + _ < _;exact hu) hr hr' r r')
 have l1:us.length=its.length:=r.length
 have l2:ws.length=its'.length:=r'.length
 have l3:=hr.length
 have l4:=hr'.length
 rw [T.eqBs_range]
 have e1:its.toArray.size=xs.length:=by simp;omega
 have e2:its'.toArray.size=ys.length:=by simp;omega
 rw [e1,e2] at z
 exact z
theorem eq_T (I:Inv X pins σ H s)(a:T):EqsAt s X.K H a:=by
 induction a using T.induct with
 | hs x =>
  intro b u v u' v' A hu h g ru rv
  rw [h.inv_s] at ru
  obtain ⟨t,rfl⟩:=ru
  cases b with
  | s y=>rw [g.inv_s] at rv;obtain ⟨t',rfl⟩:=rv;unfold T.eqB;exact EqAt.str_str _ _ _ _
  | i y=>rw [g.inv_i] at rv;obtain ⟨t',rfl⟩:=rv;unfold T.eqB;exact EqAt.str_int _ _ _ _
  | n=>unfold Rp at g;rw [g] at rv;cases rv;unfold T.eqB;exact EqAt.str_none _ _
  | t ys =>
   obtain ⟨q,ws,rfl,hs,hr⟩:=g.inv_t
   cases rv
   obtain ⟨its,_,it,_⟩:=I.tuple hs
   unfold T.eqB
   exact EqAt.str_tuple _ _ (isTuple_of it) (by omega)
 | hi x =>
  intro b u v u' v' A hu h g ru rv
  rw [h.inv_i] at ru
  obtain ⟨t,rfl⟩:=ru
  cases b with
  | s y=>rw [g.inv_s] at rv;obtain ⟨t',rfl⟩:=rv;unfold T.eqB;exact EqAt.int_str _ _ _ _
  | i y=>rw [g.inv_i] at rv;obtain ⟨t',rfl⟩:=rv;unfold T.eqB;exact EqAt.int_int _ _ _ _
  | n=>unfold Rp at g;rw [g] at rv;cases rv;unfold T.eqB;exact EqAt.int_none _ _
  | t ys =>
   obtain ⟨q,ws,rfl,hs,hr⟩:=g.inv_t
   cases rv
   obtain ⟨its,_,it,_⟩:=I.tuple hs
   unfold T.eqB
   exact EqAt.int_tuple _ _ (isTuple_of it) (by omega)
 | hn =>
  intro b u v u' v' A hu h g ru rv
  unfold Rp at h
  rw [h] at ru
  cases ru
  cases b with
  | s y=>rw [g.inv_s] at rv;obtain ⟨t',rfl⟩:=rv;unfold T.eqB;exact EqAt.none_str _ _
  | i y=>rw [g.inv_i] at rv;obtain ⟨t',rfl⟩:=rv;unfold T.eqB;exact EqAt.none_int _ _
  | n=>unfold Rp at g;rw [g] at rv;cases rv;unfold T.eqB;exact EqAt.same _
  | t ys =>
   obtain ⟨q,ws,rfl,hs,hr⟩:=g.inv_t
   cases rv
   obtain ⟨its,_,it,_⟩:=I.tuple hs
   unfold T.eqB
   exact EqAt.none_tuple (isTuple_of it) (by omega)
 | ht xs ih =>
  intro b u v u' v' A hu h g ru rv
  obtain ⟨p,us,rfl,hs,hr⟩:=h.inv_t
  cases ru
  obtain ⟨its,rits,it,_⟩:=I.tuple hs
  cases b with
  | s y=>rw [g.inv_s] at rv;obtain ⟨t',rfl⟩:=rv;unfold T.eqB;exact EqAt.tuple_str _ _ (isTuple_of it) (by omega)
  | i y=>rw [g.inv_i] at rv;obtain ⟨t',rfl⟩:=rv;unfold T.eqB;exact EqAt.tuple_int _ _ (isTuple_of it) (by omega)
  | n=>unfold Rp at g;rw [g] at rv;cases rv;unfold T.eqB;exact EqAt.tuple_none (isTuple_of it) (by omega)
  | t ys =>
   obtain ⟨q,ws,rfl,hs',hr'⟩:=g.inv_t
   cases rv
   by_cases e:p=q
   ·subst e
    have z:=Rp.inj I _ _ h g
    rw [z,T.eqB_self]
    exact EqAt.same _
   ·unfold T.dep at hu
    unfold T.eqB
    exact EqAt.of_refs e (rc_tuples I ih (by omega) hs hr hs' hr')
theorem rc_T (I:Inv X pins σ H s)(a b:T){u v:V}{u' v':Value}(A:Around)(hu:A.units + a.dep < cLine)(h:Rp X.K H a u)(g:Rp X.K H b v)(ru:RelV u u')(rv:RelV v v'):RcAt A s u' v' (a.eqB b)/\RcNeAt A s u' v' (!a.eqB b):=by
 cases a with
 | s x =>
  rw [h.inv_s] at ru
  obtain ⟨t,rfl⟩:=ru
  cases b with
  | s y=>rw [g.inv_s] at rv;obtain ⟨t',rfl⟩:=rv;unfold T.eqB;exact ⟨RcAt.str_str _ _ _ _,RcNeAt.str_str _ _ _ _⟩
  | i y=>rw [g.inv_i] at rv;obtain ⟨t',rfl⟩:=rv;unfold T.eqB;exact ⟨RcAt.str_int _ _ _ _,RcNeAt.str_int _ _ _ _⟩
  | n=>unfold Rp at g;rw [g] at rv;cases rv;unfold T.eqB;exact ⟨RcAt.str_none _ _,RcNeAt.str_none _ _⟩
  | t ys =>
   obtain ⟨q,ws,rfl,hs,hr⟩:=g.inv_t
   cases rv
   obtain ⟨its,_,it,_⟩:=I.tuple hs
   unfold T.eqB
   exact ⟨RcAt.str_tuple _ _ (isTuple_of it) (by omega),RcNeAt.str_tuple _ _ (isTuple_of it) (by omega)⟩
 | i x =>
  rw [h.inv_i] at ru
  obtain ⟨t,rfl⟩:=ru
  cases b with
  | s y=>rw [g.inv_s] at rv;obtain ⟨t',rfl⟩:=rv;unfold T.eqB;exact ⟨RcAt.int_str _ _ _ _,RcNeAt.int_str _ _ _ _⟩
  | i y=>rw [g.inv_i] at rv;obtain ⟨t',rfl⟩:=rv;unfold T.eqB;exact ⟨RcAt.int_int _ _ _ _,RcNeAt.int_int _ _ _ _⟩
  | n=>unfold Rp at g;rw [g] at rv;cases rv;unfold T.eqB;exact ⟨RcAt.int_none _ _,RcNeAt.int_none _ _⟩
  | t ys =>
   obtain ⟨q,ws,rfl,hs,hr⟩:=g.inv_t
   cases rv
   obtain ⟨its,_,it,_⟩:=I.tuple hs
   unfold T.eqB
   exact ⟨RcAt.int_tuple _ _ (isTuple_of it) (by omega),RcNeAt.int_tuple _ _ (isTuple_of it) (by omega)⟩
 | n =>
  unfold Rp at h
  rw [h] at ru
  cases ru
  cases b with
  | s y=>rw [g.inv_s] at rv;obtain ⟨t',rfl⟩:=rv;unfold T.eqB;exact ⟨RcAt.none_str _ _,RcNeAt.none_str _ _⟩
  | i y=>rw [g.inv_i] at rv;obtain ⟨t',rfl⟩:=rv;unfold T.eqB;exact ⟨RcAt.none_int _ _,RcNeAt.none_int _ _⟩
  | n=>unfold Rp at g;rw [g] at rv;cases rv;unfold T.eqB;exact ⟨RcAt.none_none,RcNeAt.none_none⟩
  | t ys =>
   obtain ⟨q,ws,rfl,hs,hr⟩:=g.inv_t
   cases rv
   obtain ⟨its,_,it,_⟩:=I.tuple hs
   unfold T.eqB
   exact ⟨RcAt.none_tuple (isTuple_of it) (by omega),RcNeAt.none_tuple (isTuple_of it) (by omega)⟩
 | t xs =>
  obtain ⟨p,us,rfl,hs,hr⟩:=h.inv_t
  cases ru
  obtain ⟨its,rits,it,_⟩:=I.tuple hs
  cases b with
  | s y=>rw [g.inv_s] at rv;obtain ⟨t',rfl⟩:=rv;unfold T.eqB;exact ⟨RcAt.tuple_str _ _ (isTuple_of it) (by omega),RcNeAt.tuple_str _ _ (isTuple_of it) (by omega)⟩
  | i y=>rw [g.inv_i] at rv;obtain ⟨t',rfl⟩:=rv;unfold T.eqB;exact ⟨RcAt.tuple_int _ _ (isTuple_of it) (by omega),RcNeAt.tuple_int _ _ (isTuple_of it) (by omega)⟩
  | n=>unfold Rp at g;rw [g] at rv;cases rv;unfold T.eqB;exact ⟨RcAt.tuple_none (isTuple_of it) (by omega),RcNeAt.tuple_none (isTuple_of it) (by omega)⟩
  | t ys =>
   obtain ⟨q,ws,rfl,hs',hr'⟩:=g.inv_t
   cases rv
   unfold T.dep at hu
   unfold T.eqB
   exact ⟨rc_tuples I (fun x _=>eq_T I x) (by omega) hs hr hs' hr',rcne_tuples I (fun x _=>eq_T I x) (by omega) hs hr hs' hr'⟩
def rEqT (K:PySem.W.Frag):R2:=fun x y H Q=>∃ a b,Rp K H a x/\Rp K H b y/\a.dep<=150/\Q (.bl (decide (a=b))) H
def rNeT (K:PySem.W.Frag):R2:=fun x y H Q=>∃ a b,Rp K H a x/\Rp K H b y/\a.dep<=150/\Q (.bl (!decide (a=b))) H
theorem op_eqT (hu:X.A.units + 150 < cLine):OpR X (compareOp .Eq) (rEqT X.K):=by
 intro pins s σ H x y v u Q I rx ry h
 obtain ⟨a,b,ha,hb,hd,q⟩:=h
 rw [←T.eqB_dec] at q
 exact (rc_T I a b X.A (by omega) ha hb rx ry).1 X.prog X.w X.xe _ ⟨.bl _,H,I,rfl,q⟩
theorem op_neT (hu:X.A.units + 150 < cLine):OpR X (compareOp .NotEq) (rNeT X.K):=by
 intro pins s σ H x y v u Q I rx ry h
 obtain ⟨a,b,ha,hb,hd,q⟩:=h
 rw [←T.eqB_dec] at q
 exact (rc_T I a b X.A (by omega) ha hb rx ry).2 X.prog X.w X.xe _ ⟨.bl _,H,I,rfl,q⟩
theorem Room.u150 {k:Nat}{A:Around}(r:Room k A):A.units + 150 < cLine:=by have:=r.un;omega
end
end L2
namespace L2
open PySem PySem.Spec PyProof.Rows
theorem ifT {b:Bool}{A B:Prop}(e:b=true)(h:A):if b=true then A else B:=by rw [if_pos e];exact h
theorem ifF {b:Bool}{A B:Prop}(e:b=false)(h:B):if b=true then A else B:=by rw [if_neg (by rw [e];exact Bool.false_ne_true)];exact h
section
variable {X : Cx}
theorem pg_tupK {pos:Pos}{es:List Expr}{k:Nat}{t:TGs}{n:Nat}(K:PySem.W.Frag)(hK:X.K=K)(hc:X.calm=true)(h:PGs X es t)(hn:(assignEach es X.env).length=n:=by rfl)(hst:(assignEach es X.env).findIdx? (·.1)=none:=by rfl):PG X (.Tuple es k pos) (gTup K n t):=by
 subst hK
 exact pg_tup hc h hn hst
theorem ix_tupK (K:PySem.W.Frag)(hK:X.K=K):IxR X (rIxT K):=by subst hK;exact ix_tup
theorem op_notIn_seqK (K:PySem.W.Frag)(hK:X.K=K):OpR X (compareOp .NotIn) (rIn K true):=by subst hK;exact op_notIn_seq
def KDs (w:World):List DictEntry->List (Str × V)->Prop
 | [],kvs=>kvs=[]
 | e::r,kvs=>∃ x v q,kvs=(x,v)::q/\(∃ t,e.key=.str x t)/\e.hash=hashStr w x/\RelV v e.val/\KDs w r q
def KD (K:PySem.W.Frag)(w:World)(d:Addr)(kvs:List (Str × V)):Prop :=
 ∃ (es:Array DictEntry) (n:Nat),K.lookup d=some { cls:=.type "dict",dict:=none,data:=.dict es n,slots:=#[] }/\KDs w es.toList kvs/\(kvs.map (·.1)).Nodup/\(d == sysModules)=false
theorem KDs.keys {w:World}{P:Program}:∀ {es:List DictEntry} {kvs:List (Str × V)},KDs w es kvs->∃ vs:List (Str × Value),Pairs (PySem.strKind P w) es vs/\(∀ e∈es,∃ k,(PySem.strKind P w).is k e.key=true/\e.hash=(PySem.strKind P w).hash k)/\vs.map (·.1)=kvs.map (·.1) /\
  ∀ k,RelO (kvs.lookup k) (valueAt vs k)
 | [],kvs,h=>by
  obtain rfl:kvs=[]:=h
  exact ⟨[],.nil,(fun _ h=>nomatch h),rfl,fun _=>trivial⟩
 | e::r,kvs,h=>by
  obtain ⟨x,v,q,rfl,⟨t,hk⟩,hh,rv,hr⟩:=h
  obtain ⟨vs,h1,h2,h3,h4⟩:=KDs.keys (P:=P) hr
  have ek:(PySem.strKind P w).is x e.key=true:=by rw [hk];exact (by simp [PySem.strKind,Value.isStrOf]:(PySem.strKind P w).is x (.str x t)=true)
  refine ⟨(x,e.val)::vs,.cons ek rfl h1,fun e' he=>?_,by rw [List.map_cons,List.map_cons,h3],fun k=>?_⟩
  ·cases he with
   | head=>exact ⟨x,ek,hh⟩
   | tail _ he=>exact h2 e' he
  ·rw [List.lookup_cons]
   by_cases c:k=x
   ·subst c
    rw [beq_self_eq_true]
    simp only [valueAt,List.find?_cons,decide_true,Option.map_some]
    exact rv
   ·rw [beq_false_of_ne c]
    have z:=h4 k
    have e1:valueAt ((x,e.val)::vs) k=valueAt vs k:=by
     simp only [valueAt,List.find?_cons]
     rw [decide_eq_false (fun q=>c q.symm)]
    rw [e1]
    exact z
theorem KD.dict {K:PySem.W.Frag}{P:Program}{w:World}{d:Addr}{kvs:List (Str × V)}(D:KD K w d kvs){h:Heap}(X:K.In h):∃ vs,h.DictOf (PySem.strKind P w) d vs/\(d == sysModules)=false/\∀ k,RelO (kvs.lookup k) (valueAt vs k):=by
 obtain ⟨es,n,e,hs,nd,hd⟩:=D
 obtain ⟨vs,h1,h2,h3,h4⟩:=KDs.keys (P:=P) hs
 exact ⟨vs,⟨_,es,n,X _ _ e,⟨rfl,rfl,rfl⟩,rfl,fun e' he=>h2 e' (by simpa using he),h1,by rw [h3];exact nd⟩,hd,h4⟩
theorem strK_is {P:Program}{w:World}{x:Str}{t:Tok}:(PySem.strKind P w).is x (.str x t)=true:=by simp [PySem.strKind,Value.isStrOf]
def rKIn (K:PySem.W.Frag)(w:World):R2:=fun x y H Q=>∃ k d kvs,x=.str k/\y=.ref d/\KD K w d kvs/\Q (.bl (kvs.lookup k).isSome) H
theorem RelO.isSome' {a:Option V}{b:Option Value}(r:RelO a b):b.isSome=a.isSome:=by
 cases a <;> cases b <;> first | rfl | exact r.elim
theorem op_inKD:OpR X (compareOp .In) (rKIn X.K X.w):=by
 intro pins s σ H x y v u Q I rx ry h
 obtain ⟨k,d,kvs,rfl,rfl,D,q⟩:=h
 obtain ⟨t,rfl⟩:=rx
 obtain rfl:u=Value.ref d:=ry
 obtain ⟨vs,dd,hd,rel⟩:=D.dict (P:=X.prog) I.kIn
 refine wpAny_in_of strK_is hd dd.mapOf ?_
 rw [(rel k).isSome']
 exact ⟨.bl _,H,I.tok _,rfl,q⟩
def tKGet (K:PySem.W.Frag)(w:World)(td ty:TE):TE:=fun σ H Q=>td σ H fun x H1=>ty σ H1 fun y H2=>∃ d kvs k v,x=.ref d/\y=.str k/\KD K w d kvs/\kvs.lookup k=some v/\Q v H2
theorem pe_kget {o i:Expr}{pos:Pos}{td ty:TE}(ho:PE X o td)(hi:PE X i ty)(hs:NoSl i):PE X (.Subscript o i pos) (tKGet X.K X.w td ty):=by
 intro pins s σ H Q I h
 refine subD_of PySem.F.slot_dict_getitem.lookup hs (thn (ho pins s σ H _ I h) fun u s1 ⟨x,H1,I1,rx,q1⟩=>thn (hi pins s1 σ H1 _ I1 q1) fun iv s2 ⟨y,H2,I2,ry,d,kvs,k,v,ex,ey,D,lk,q2⟩=>?_)
 subst ex ey
 obtain rfl:u=Value.ref d:=rx
 obtain ⟨t,rfl⟩:=ry
 obtain ⟨vs,dd,hd,rel⟩:=D.dict (P:=X.prog) I2.kIn
 obtain ⟨w',hw,rw'⟩:=RelO.some_of (v:=v) (o:=valueAt vs k) (by rw [←lk];exact rel k)
 exact ⟨dd.typeIs,wpAny_getItem_of strK_is dd.mapOf hw ⟨v,H2,I2.tok _,rw',q2⟩⟩
theorem op_mul_str:OpR X (binaryOp .Mult) (fun x y H Q=>∃ z n,x=.str z/\y=.int n/\-1000000<=n/\n<=1000000/\z.length * n.toNat<=sizeLine/\Q (.str (Txt.mul z n)) H):=by
 intro pins s σ H x y v u Q I rx ry h
 obtain ⟨z,n,rfl,rfl,h1,h2,h3,q⟩:=h
 obtain ⟨t,rfl⟩:=rx
 obtain ⟨t',rfl⟩:=ry
 refine PySem.SB.mul ⟨by simp;omega,fun a b=>?_,fun a b=>?_⟩ fun t' k=>⟨.str _,H,I.tok _,⟨_,rfl⟩,q⟩
 ·intro c
  have n1:1<=n:=by omega
  have h3':z.length * n.toNat<=16777216:=by rw [←sizeLine_eq];exact h3
  have hz:z.length<=z.length * n.toNat:=Nat.le_mul_of_pos_right _ (by omega)
  have e:(9223372036854:Int)<=(2 ^ 63 - 1) / n:=Int.le_ediv_of_mul_le (by omega) (by omega)
  omega
 ·unfold Builtin.Str.tooLong
  simp
  exact h3
end
section
variable {g : TG} {tt : TT} {te : TE} {Q : VK} {σ0 : St} {H0 : Hp}
theorem comp_tup {K:PySem.W.Frag}{a:Addr}{xs:List V}(Pv:Nat->St->List V->Hp->Prop)(h0:Pv 0 σ0 [] H0)(hlen:∀ i σ vs H,i<=xs.length->Pv i σ vs H->vs.length<=i)(hn:xs.length<=sizeLine)(hl:∀ i σ vs H,i<=xs.length->Pv i σ vs H->SqT K H a xs)
  (hs:∀ i x σ vs H,xs[i]?=some x->Pv i σ vs H->g x σ H fun σ2 H2=>tt σ2 H2 fun ok H3=>if ok=true then te σ2 H3 fun v H4=>Pv (i + 1) σ2 (vs++[v]) H4 else Pv (i + 1) σ2 vs H3)
  (hd:∀ σ vs H,Pv xs.length σ vs H->∀ p,H p=none->Q (.ref p) (upd H p (.lst vs))):CompW (Itt K a) g tt te Q σ0 H0:=by
 refine comp_by xs.length Pv h0 hlen hn (fun i σ vs H hi p=>⟨xs,xs[i],hl i σ vs H (Nat.le_of_lt hi) p,by simp [hi]⟩) (fun σ vs H p=>⟨xs,hl _ σ vs H (Nat.le_refl _) p,Nat.le_refl _⟩) (fun i σ vs H x H' hi p y=>?_) hd
 obtain ⟨rfl,y⟩:=y
 exact hs i x σ vs _ (y xs (hl i σ vs _ (Nat.le_of_lt hi) p)) p
end
mutual
def T.py:T->PyData
 | .s x=>.str x
 | .i k=>.int k
 | .n=>.none
 | .t xs=>.tuple (T.pys xs)
def T.pys:List T->List PyData
 | []=>[]
 | x::r=>x.py::T.pys r
end
section
variable {X : Cx} {pins : List (Addr × Obj)} {σ : St} {H : Hp} {s : Shared}
theorem reads_Ts:∀ {xs:List T},(∀ x∈xs,∀ {v:V} {u:Value},Rp X.K H x v->RelV v u->∃ as,Reads s.heap u x.py as)->∀ {vs:List V} {us:List Value},Rps X.K H xs vs->Vals vs us->∃ as,ReadsAll s.heap us (T.pys xs) as
 | [],_,vs,us,h,r=>by
  obtain rfl:=h.inv0
  cases r
  exact ⟨[],.nil⟩
 | x::q,ih,vs,us,h,r=>by
  obtain ⟨v,w,rfl,h1,h2⟩:=h.inv
  cases r with
  | cons r1 r2 =>
   obtain ⟨as,ha⟩:=ih x (.head _) h1 r1
   obtain ⟨bs,hb⟩:=reads_Ts (fun y hy=>ih y (.tail _ hy)) h2 r2
   exact ⟨as++bs,.cons ha hb⟩
theorem reads_T (I:Inv X pins σ H s)(a:T):∀ {v:V} {u:Value},Rp X.K H a v->RelV v u->∃ as,Reads s.heap u a.py as:=by
 induction a using T.induct with
 | hs x=>intro v u h r;rw [h.inv_s] at r;obtain ⟨t,rfl⟩:=r;unfold T.py;exact ⟨[],.str x t⟩
 | hi x=>intro v u h r;rw [h.inv_i] at r;obtain ⟨t,rfl⟩:=r;unfold T.py;exact ⟨[],.int x t⟩
 | hn=>intro v u h r;unfold Rp at h;rw [h] at r;cases r;unfold T.py;exact ⟨[],.none⟩
 | ht xs ih =>
  intro v u h r
  obtain ⟨p,vs,rfl,hs,hr⟩:=h.inv_t
  cases r
  obtain ⟨its,rv,⟨o,e,c,n,d⟩,_⟩:=I.tuple hs
  obtain ⟨as,ha⟩:=reads_Ts (s:=s) ih hr rv
  unfold T.py
  exact ⟨as,.tuple e c d (by simpa using ha)⟩
structure Shows (d:PyData):Prop where
 sh:d.showable=true
 nd:d.hasDict=false
 dp:d.depth<=100
 sz:d.shown.length<=sizeLine
theorem call_reprT (hg:X.A.guards=some [])(hu:X.A.units + 150 < cLine):CallR X (.builtin "repr") (fun xs H Q=>∃ x xs' ,xs=[x]/\Rp X.K H (.t xs') x/\Shows (T.t xs').py/\Q (.str (T.t xs').py.shown) H):=by
 intro pins s σ H xs us Q I r h
 obtain ⟨x,ts,rfl,hr,S,q⟩:=h
 obtain ⟨u,rfl,ru⟩:=vals1 r
 obtain ⟨as,ha⟩:=reads_T I _ hr ru
 obtain ⟨p,vs,rfl,hs,hr⟩:=hr.inv_t
 cases ru
 refine repr_of_reads' ha S.sh (fun z=>by rw [S.nd] at z;cases z) hg (by have:=S.dp;omega) (fun _ _ e=>e) (fun h' u tk hk=>?_) S.sz
 exact ⟨.str _,H,I.kept hk,⟨_,rfl⟩,q⟩
end
theorem atS {z:Str}{r:Int}(h0:0<=r)(h:r < (z.length:Int)):∃ c,atI z.cps.toList r=some c/\c∈z.cps.toList:=by
 have e:z.cps.toList.length=z.length:=by simp [Str.length]
 have hk:r.toNat < z.cps.toList.length:=by rw [e];omega
 have ek:r=((r.toNat:Nat):Int):=by omega
 have q:atI z.cps.toList ((r.toNat:Nat):Int)=some z.cps.toList[r.toNat]:=atI_nat (List.getElem?_eq_getElem hk)
 rw [←ek] at q
 exact ⟨_,q,List.getElem_mem hk⟩
theorem join_cs (cs:List Nat):Txt.join "" (cs.map fun c=>(⟨#[c]⟩:Str))=⟨cs.toArray⟩:=by
 show Builtin.Str.glued (Str.ofString "") _=_
 rw [StrLaws.glued_eq_join]
 exact PyProof.Rows.join_ones cs
theorem sum_ones (l:List Nat):((l.map fun c=>(⟨#[c]⟩:Str)).map (·.length)).sum=l.length:=by
 induction l with
 | nil=>rfl
 | cons c r ih=>rw [List.map_cons,List.map_cons,List.sum_cons,ih,List.length_cons];show 1 + _=_;omega
theorem len_cs (cs:List Nat):(⟨cs.toArray⟩:Str).length=cs.length:=by simp [Str.length]
theorem mul_q (b:Bool)(z:Str):(Txt.mul z (if b then 1 else 0)).length<=z.length:=by
 cases b with
 | true=>simp [Txt.mul]
 | false=>simp [Txt.mul,Str.length,Str.empty]
end L2
namespace L2
open PySem
def FeedAt (H:Hp)(f:Addr):Prop:=∃ p q:Int,H f=some (.lst [.int p,.int q])
def Ext (f:Addr)(H H':Hp):Prop:=(∀ b o,b≠f->H b=some o->H' b=some o)/\FeedAt H' f
theorem Ext.refl {f:Addr}{H:Hp}(h:FeedAt H f):Ext f H H:=⟨fun _ _ _ e=>e,h⟩
theorem Ext.trans {f:Addr}{H H1 H2:Hp}(a:Ext f H H1)(b:Ext f H1 H2):Ext f H H2:=⟨fun c o n e=>b.1 c o n (a.1 c o n e),b.2⟩
theorem Ext.same {f:Addr}{H H1 H2:Hp}(a:Ext f H H1)(s:Same H1 H2):Ext f H H2:=⟨fun c o n e=>s c o (a.1 c o n e),let ⟨p,q,e⟩:=a.2;⟨p,q,s f _ e⟩⟩
theorem same_new {H:Hp}{p:Addr}(h:H p=none)(o:HO):Same H (upd H p o):=fun b u q=>by rw [upd_ne (ne_of_none q h)];exact q
theorem FeedAt.same {f:Addr}{H H':Hp}(h:FeedAt H f)(s:Same H H'):FeedAt H' f:=let ⟨p,q,e⟩:=h;⟨p,q,s f _ e⟩
theorem Ext.tup {f:Addr}{H H':Hp}(e:Ext f H H')(hf:FeedAt H f){a:Addr}{xs:List V}(h:H a=some (.tup xs)):H' a=some (.tup xs):=by
 refine e.1 a _ ?_ h
 obtain ⟨p,q,hf⟩:=hf
 exact ne_of h hf (by intro z;cases z)
def spTake:Sp:=fun vs H Q _=>∃ (f:Addr) (m:Int),vs=[.ref f,.int m]/\0 < m/\m < 1073741824/\FeedAt H f/\∀ (r:Int) (H':Hp),0<=r->r < m->Ext f H H'->Q (.int r) H'
def spFeed (K:PySem.W.Frag):Sp:=fun vs H Q _=>∃ (a:Addr) (ns:List Int) (k:Int),vs=[.ref a,.int k]/\SqL K H a (ns.map V.int)/\ns.length<=63/\0<=k/\k<=100 /\
 ∀ (r:Addr) (H':Hp),Same H H'->H r=none->FeedAt H' r->Q (.ref r) H'
theorem small {n:Nat}(h:n<=1000):n<=sizeLine:=Nat.le_of_lt (small1000 h)
theorem atI_int {ns:List Int}{k:Int}(h0:0<=k)(h:k < (ns.length:Int)):∃ v:Int,atI (ns.map V.int) k=some (.int v):=by
 have hk:k.toNat < ns.length:=by omega
 have ek:k=((k.toNat:Nat):Int):=by omega
 have q:atI (ns.map V.int) ((k.toNat:Nat):Int)=some (.int ns[k.toNat]):=atI_nat (by rw [List.getElem?_map,List.getElem?_eq_getElem hk] <;> rfl)
 rw [←ek] at q
 exact ⟨_,q⟩
theorem atI_of {α:Type}{xs:List α}{k:Int}(h0:0<=k)(h:k < (xs.length:Int)):∃ v:α,atI xs k=some v/\v∈xs:=by
 have hk:k.toNat < xs.length:=by omega
 have ek:k=((k.toNat:Nat):Int):=by omega
 have q:atI xs ((k.toNat:Nat):Int)=some xs[k.toNat]:=atI_nat (List.getElem?_eq_getElem hk)
 rw [←ek] at q
 exact ⟨_,q,List.getElem_mem hk⟩
theorem Ext.kt {f:Addr}{H H':Hp}(e:Ext f H H')(hf:FeedAt H f):Kt H H':=fun a xs r=>by
 obtain ⟨p,q,hf⟩:=hf
 rcases r with h | ⟨o,h⟩
 ·exact .inl (e.1 a _ (ne_of h hf (by intro z;cases z)) h)
 ·exact .inr ⟨o,e.1 a _ (ne_of h hf (by intro z;cases z)) h⟩
theorem Ext.lst {f:Addr}{H H':Hp}(e:Ext f H H'){l:Addr}{xs:List V}(n:l≠f)(h:H l=some (.lst xs)):H' l=some (.lst xs):=e.1 l _ n h
theorem Ext.new {f:Addr}{H H':Hp}(e:Ext f H H'){p:Addr}(h:H' p=none)(o:HO):Ext f H (L2.upd H' p o):=e.same (same_new h o)
structure Has (P:Program) (w:World) (K:PySem.W.Frag) (mg:Str->Option Value) (base:Heap) (x:Str) (k:Nat) (ps:List Str) (sp:Sp) (f:Addr) (fd:FuncData):Prop where
 ok:FnOk P w K mg base CX0 k f fd ps sp
 at':mg x=some (.ref f)
 kp:PySem.W.keepIn K (.ref f)=true
 bd:Binds K fd ps []
end L2
namespace L2
open PySem PySem.Spec PyProof.Rows
def pairT (p:List Str × Tm):T:=.t [.t (p.1.map .s),enc p.2]
def right (tm:Tm):List (List Str × Tm):=(bnd tm.hd tm.ks.length).zip tm.ks
theorem SqT.same {K:PySem.W.Frag}{H H':Hp}(e:Same H H'){a:Addr}{xs:List V}(h:SqT K H a xs):SqT K H' a xs:=h.kt (Kt.same e)
theorem Rp.same {K:PySem.W.Frag}{H H':Hp}(e:Same H H'){x:T}{v:V}(h:Rp K H x v):Rp K H' x v:=h.kt (Kt.same e)
theorem Rps.same {K:PySem.W.Frag}{H H':Hp}(e:Same H H'){x:List T}{v:List V}(h:Rps K H x v):Rps K H' x v:=h.kt (Kt.same e)
theorem Rp.new {K:PySem.W.Frag}{H:Hp}{p:Addr}(hp:H p=none){xs:List T}{vs:List V}(h:Rps K H xs vs):Rp K (upd H p (.tup vs)) (.t xs) (.ref p):=.t (.of upd_same) (h.same (same_new hp _))
section
variable {K : PySem.W.Frag} {Q : VK} {H0 : Hp}
theorem comp_places {a pa:Addr}{ps:List Nat}{ts ks:List T}{vs:List V}(hS:SqT K H0 a vs)(hr:Rps K H0 ts vs)(hP:SqT K H0 pa (ps.map fun (j:Nat)=>V.int (j:Int)))(hlen:ps.length<=1000)(hk:ps.map (fun (j:Nat)=>ts[j]?)=ks.map some)
  (k:∀ (p:Addr) (H':Hp) (ws:List V),Same H0 H'->H' p=some (.lst ws)->Rps K H' (ks.map fun k=>.t [.t [],k]) ws->Q (.ref p) H') :
  CompW (Itt K pa) (gName 0) tNoIf (tTup (tCons (tTup tNil) (tCons (tOp (rIxT K) (tVar 1) (tVar 0)) tNil))) Q [none,some (.ref a)] H0:=by
 refine comp_tup (xs:=ps.map fun (j:Nat)=>V.int (j:Int)) (fun i σ us H2=>(∃ x,σ=[x,some (.ref a)])/\Same H0 H2/\Rps K H2 ((ks.take i).map fun k=>.t [.t [],k]) us) ⟨⟨none,rfl⟩,Same.refl _,.nil⟩ ?_ (small (by rw [List.length_map];exact hlen)) ?_ ?_ ?_
 ·rintro i σ us H2 hi ⟨_,_,r⟩
  rw [r.length,List.length_map,List.length_take];omega
 ·rintro i σ us H2 hi ⟨_,e,_⟩
  exact hP.same e
 ·rintro i x σ us H2 hx ⟨⟨x0,rfl⟩,e,r⟩
  rw [List.getElem?_map] at hx
  obtain ⟨j,hj,rfl⟩:=Option.map_eq_some_iff.mp hx
  have hkj:ts[j]?=ks[i]?/\i < ks.length:=by
   have z:=congrArg (fun l=>l[i]?) hk
   simp only [List.getElem?_map,hj,Option.map_some] at z
   cases e2:ks[i]? with
   | none=>rw [e2] at z;cases z
   | some q=>rw [e2] at z;exact ⟨Option.some.inj z,(List.getElem?_eq_some_iff.mp e2).1⟩
  obtain ⟨hkj,hil⟩:=hkj
  rw [List.getElem?_eq_getElem hil] at hkj
  obtain ⟨w,hw,rw'⟩:=hr.get hkj
  refine ⟨Nat.zero_le _,fun q hq=>?_⟩
  have e1:=e.trans (same_new hq (.tup []))
  refine ⟨_,rfl,_,rfl,a,_,_,w,rfl,rfl,hS.same e1,atI_nat hw,(by show 2<=sizeLine;decide),fun t ht=>?_⟩
  have e2:=e1.trans (same_new ht (.tup [.ref q,w]))
  refine ⟨⟨_,rfl⟩,e2,?_⟩
  rw [List.take_succ_eq_append_getElem hil,List.map_append]
  refine (r.same (fun b o h=>same_new ht _ b o (same_new hq _ b o h))).snoc (Rp.new ht (.cons ?_ (.one (rw'.same e1))))
  exact Rp.new hq .nil
 ·rintro σ us H2 ⟨_,e,r⟩ p hp
  have l:(ps.map fun (j:Nat)=>V.int (j:Int)).length=ks.length:=by
   have z:=congrArg List.length hk
   simpa using z
  rw [l,List.take_length] at r
  exact k p _ us (e.trans (same_new hp _)) upd_same (r.same (same_new hp _))
theorem comp_many {pa:Addr}{ks:List T}{vs:List V}(hS:SqT K H0 pa vs)(hr:Rps K H0 ks vs)(hlen:ks.length<=1000)
  (k:∀ (p:Addr) (H':Hp) (ws:List V),Same H0 H'->H' p=some (.lst ws)->Rps K H' (ks.map fun k=>.t [.t [],k]) ws->Q (.ref p) H') :
  CompW (Itt K pa) (gName 0) tNoIf (tTup (tCons (tTup tNil) (tCons (tVar 0) tNil))) Q [none] H0:=by
 have l:=hr.length
 refine comp_tup (xs:=vs) (fun i σ us H2=>(∃ x,σ=[x])/\Same H0 H2/\Rps K H2 ((ks.take i).map fun k=>.t [.t [],k]) us) ⟨⟨none,rfl⟩,Same.refl _,.nil⟩ ?_ (small (by omega)) ?_ ?_ ?_
 ·rintro i σ us H2 hi ⟨_,_,r⟩
  rw [r.length,List.length_map,List.length_take];omega
 ·rintro i σ us H2 hi ⟨_,e,_⟩
  exact hS.same e
 ·rintro i x σ us H2 hx ⟨⟨x0,rfl⟩,e,r⟩
  obtain ⟨y,hy,ry⟩:=hr.get' hx
  have hil:i < ks.length:=(List.getElem?_eq_some_iff.mp hy).1
  have ey:ks[i]=y:=(List.getElem?_eq_some_iff.mp hy).2
  refine ⟨Nat.zero_le _,fun q hq=>?_⟩
  have e1:=e.trans (same_new hq (.tup []))
  refine ⟨_,rfl,(by show 2<=sizeLine;decide),fun t ht=>?_⟩
  have e2:=e1.trans (same_new ht (.tup [.ref q,x]))
  refine ⟨⟨_,rfl⟩,e2,?_⟩
  rw [List.take_succ_eq_append_getElem hil,List.map_append,ey]
  refine (r.same (fun b o h=>same_new ht _ b o (same_new hq _ b o h))).snoc (Rp.new ht (.cons ?_ (.one (ry.same e1))))
  exact Rp.new hq .nil
 ·rintro σ us H2 ⟨_,e,r⟩ p hp
  rw [l,List.take_length] at r
  exact k p _ us (e.trans (same_new hp _)) upd_same (r.same (same_new hp _))
theorem comp_arms {pa:Addr}{arms:List (Str × List Str)}{ks:List T}{vs:List V}(hl:arms.length=ks.length)(hS:SqT K H0 pa vs)(hr:Rps K H0 (List.zipWith armT arms ks) vs)(hlen:ks.length<=1000)
  (k:∀ (p:Addr) (H':Hp) (ws:List V),Same H0 H'->H' p=some (.lst ws)->Rps K H' (List.zipWith (fun a k=>.t [.t (a.2.map .s),k]) arms ks) ws->Q (.ref p) H') :
  CompW (Itt K pa) (gTup K 3 (gCons (gName 0) (gCons (gName 1) (gCons (gName 2) gNil)))) tNoIf (tTup (tCons (tVar 1) (tCons (tVar 2) tNil))) Q [none,none,none] H0:=by
 have l:=hr.length
 rw [List.length_zipWith,hl,Nat.min_self] at l
 refine comp_tup (xs:=vs) (fun i σ us H2=>(∃ x y z,σ=[x,y,z])/\Same H0 H2/\Rps K H2 ((List.zipWith (fun (a:Str × List Str) k=>T.t [.t (a.2.map .s),k]) arms ks).take i) us) ⟨⟨none,none,none,rfl⟩,Same.refl _,.nil⟩ ?_ (small (by omega)) ?_ ?_ ?_
 ·rintro i σ us H2 hi ⟨_,_,r⟩
  rw [r.length,List.length_take];omega
 ·rintro i σ us H2 hi ⟨_,e,_⟩
  exact hS.same e
 ·rintro i x σ us H2 hx ⟨⟨x0,y0,z0,rfl⟩,e,r⟩
  obtain ⟨y,hy,ry⟩:=hr.get' hx
  have hi:i < vs.length:=(List.getElem?_eq_some_iff.mp hx).1
  have hia:i < arms.length:=by omega
  have hik:i < ks.length:=by omega
  have hz:i < (List.zipWith (fun (a:Str × List Str) k=>T.t [.t (a.2.map .s),k]) arms ks).length:=by rw [List.length_zipWith];omega
  rw [List.getElem?_zipWith,List.getElem?_eq_getElem hia,List.getElem?_eq_getElem hik] at hy
  cases hy
  obtain ⟨ra,rvs,rfl,sq,rr⟩:=(show Rp K H0 (.t [_,_,_]) x from ry).inv_t
  obtain ⟨t1,q1,rfl,h1,rr⟩:=rr.inv
  obtain ⟨t2,q2,rfl,h2,rr⟩:=rr.inv
  obtain ⟨t3,q3,rfl,h3,rr⟩:=rr.inv
  obtain rfl:=rr.inv0
  refine ⟨ra,_,rfl,sq.same e,rfl,_,_,rfl,_,_,rfl,_,_,rfl,rfl,?_⟩
  refine ⟨_,rfl,_,rfl,(by show 2<=sizeLine;decide),fun t ht=>?_⟩
  have e2:=e.trans (same_new ht (.tup [t2,t3]))
  refine ⟨⟨_,_,_,rfl⟩,e2,?_⟩
  rw [List.take_succ_eq_append_getElem hz]
  refine (r.same (same_new ht _)).snoc ?_
  rw [List.getElem_zipWith]
  exact Rp.new ht (.cons (h2.same e) (.one (h3.same e)))
 ·rintro σ us H2 ⟨_,e,r⟩ p hp
  rw [List.take_of_length_le (by rw [List.length_zipWith];omega)] at r
  exact k p _ us (e.trans (same_new hp _)) upd_same (r.same (same_new hp _))
end
theorem filterMap_somes {α β:Type}(f:α->Option β)(g:α->β):∀ (l:List α),(∀ a∈l,f a=some (g a))->l.filterMap f=l.map g
 | [],_=>rfl
 | a::r,h=>by rw [List.filterMap_cons,h a (.head _),List.map_cons,filterMap_somes f g r fun b hb=>h b (.tail _ hb)]
theorem range_rev {α:Type}(xs:List α):((List.range xs.length).map fun k=>xs.length - 1 - k).filterMap (xs[·]?)=xs.reverse:=by
 cases xs with
 | nil=>rfl
 | cons x r =>
  rw [List.filterMap_map,filterMap_somes _ (fun k=>(x::r).reverse.getD k x)]
  ·apply List.ext_getElem
   ·simp
   ·intro i h1 h2
    simp only [List.getElem_map,List.getElem_range]
    simp at h1
    simp only [List.getD_eq_getElem?_getD]
    rw [List.getElem?_eq_getElem h2]
    rfl
  ·intro k hk
   have hk':=List.mem_range.mp hk
   show (x::r)[(x::r).length - 1 - k]?=_
   have h2:k < (x::r).reverse.length:=by simpa using hk'
   simp only [List.getD_eq_getElem?_getD]
   rw [List.getElem?_eq_getElem h2,List.getElem_reverse,List.getElem?_eq_getElem (by omega)]
   rfl
theorem rev_range (n:Nat):sliceRange (sliceBounds none none (some (-1)) n).1 (sliceBounds none none (some (-1)) n).2.1 (sliceBounds none none (some (-1)) n).2.2=(List.range n).map fun k=>n - 1 - k:=by
 show sliceRange ((n:Int) - 1) (-1) (-1)=_
 unfold sliceRange
 have c:(if (-1:Int) > 0 then (if (n:Int) - 1 < -1 then (-1 - ((n:Int) - 1) + -1 - 1) / -1 else 0) else (if (n:Int) - 1 > -1 then ((n:Int) - 1 - -1 - -1 - 1) / (- -1) else 0))=(n:Int):=by
  rw [if_neg (by decide)]
  split
  ·rw [show (- -1:Int)=1 from rfl,Int.ediv_one];omega
  ·omega
 simp only [c,Int.toNat_natCast]
 refine List.map_congr_left fun k hk=>?_
 have:=List.mem_range.mp hk
 omega
theorem pick_rev (xs:List V):pickV xs none none (some (-1))=xs.reverse:=by
 rw [pick_of (rev_range xs.length)]
 exact range_rev xs
section
variable {K : PySem.W.Frag} {Q : VK} {H0 : Hp}
theorem comp_inner {a:Addr}{ps:List (List Str × Tm)}{vs:List V}(hS:H0 a=some (.lst vs))(hr:Rps K H0 (ps.map pairT) vs)(hlen:ps.length<=1000)
  (k:∀ (p:Addr) (ws:List V),H0 p=none->Rps K H0 (ps.map fun p=>enc p.2) ws->Q (.ref p) (upd H0 p (.lst ws))) :
  CompW (Itl K a) (gTup K 2 (gCons (gName 0) (gCons (gName 1) gNil))) tNoIf (tVar 1) Q [none,none] H0:=by
 have l:=hr.length
 rw [List.length_map] at l
 refine comp_list (xs:=vs) (fun i σ us H2=>(∃ x y,σ=[x,y])/\H2=H0/\Rps K H0 ((ps.take i).map fun p=>enc p.2) us) ⟨⟨none,none,rfl⟩,rfl,.nil⟩ ?_ (small (by omega)) ?_ ?_ ?_
 ·rintro i σ us H2 hi ⟨_,_,r⟩
  rw [r.length,List.length_map,List.length_take];omega
 ·rintro i σ us H2 hi ⟨_,rfl,_⟩
  exact SqL.of hS
 ·rintro i x σ us H2 hx ⟨⟨x0,y0,rfl⟩,rfl,r⟩
  obtain ⟨y,hy,ry⟩:=hr.get' hx
  rw [List.getElem?_map] at hy
  obtain ⟨pr,hp,rfl⟩:=Option.map_eq_some_iff.mp hy
  have hil:i < ps.length:=(List.getElem?_eq_some_iff.mp hp).1
  have ep:ps[i]=pr:=(List.getElem?_eq_some_iff.mp hp).2
  obtain ⟨ra,rvs,rfl,sq,rr⟩:=(show Rp K _ (.t [_,_]) x from ry).inv_t
  obtain ⟨t1,q1,rfl,h1,rr⟩:=rr.inv
  obtain ⟨t2,q2,rfl,h2,rr⟩:=rr.inv
  obtain rfl:=rr.inv0
  refine ⟨ra,_,rfl,sq,rfl,_,_,rfl,_,_,rfl,rfl,?_⟩
  refine ⟨_,rfl,⟨_,_,rfl⟩,rfl,?_⟩
  rw [List.take_succ_eq_append_getElem hil,List.map_append,ep]
  exact r.snoc h2
 ·rintro σ us H2 ⟨_,rfl,r⟩ p hp
  rw [l,List.take_length] at r
  exact k p us hp r
end
end L2
namespace L2
open PySem PySem.Spec PyProof.Rows
def visB (sc:Scope)(y:Str):Bool:=(sc.names.lookup y == some .local || sc.names.lookup y == some .cell || sc.names.lookup y == some .free) && !(y == ("__debug__":Str)) && !(y == ("__classdict__":Str))
abbrev Nm (N:List Str)(sc:Scope):Prop:=N.all (visB sc)=true
def locB (sc:Scope)(y:Str):Bool:=sc.names.lookup y == some .local || sc.names.lookup y == some .cell
abbrev Lm (N:List Str)(sc:Scope):Prop:=N.all (locB sc)=true
theorem Nm.get {N:List Str}{sc:Scope}(h:Nm N sc){i:Nat}{x:Str}(e:N[i]?=some x):Vis sc x/\(x == ("__debug__":Str))=false/\(x == ("__classdict__":Str))=false:=by
 have z:=List.all_eq_true.mp h x (List.mem_of_getElem? e)
 unfold visB at z
 simp only [Bool.and_eq_true,Bool.or_eq_true,Bool.not_eq_true'] at z
 obtain ⟨⟨z1,z2⟩,z3⟩:=z
 refine ⟨?_,z2,z3⟩
 rcases z1 with (z1 | z1) | z1
 ·exact Or.inl (eq_of_beq z1)
 ·exact Or.inr (Or.inl (eq_of_beq z1))
 ·exact Or.inr (Or.inr (eq_of_beq z1))
theorem Lm.get {N:List Str}{sc:Scope}(h:Lm N sc){i:Nat}{x:Str}(e:N[i]?=some x):Loc sc x:=by
 have z:=List.all_eq_true.mp h x (List.mem_of_getElem? e)
 unfold locB at z
 simp only [Bool.or_eq_true] at z
 rcases z with z | z
 ·exact Or.inl (eq_of_beq z)
 ·exact Or.inr (eq_of_beq z)
section
variable {X : Cx}
theorem va {x:Str}{pos:Pos}(h:Nm X.N X.env.scope)(i:Nat)(hN:X.N[i]?=some x:=by rfl):PE X (.Name x pos) (tVar i):=pe_var hN (h.get hN).1 (h.get hN).2.1 (h.get hN).2.2
theorem sa {x:Str}{e:Expr}{te:TE}{pos pos':Pos}(hN:X.N.Nodup)(h:Lm X.N X.env.scope)(i:Nat)(he:PE X e te)(hi:X.N[i]?=some x:=by rfl)(hs:swapsWith e (some (.Name x pos')) pos.line X.env=pure false:=by kernel_rfl)
  (hf:X.fn x=true\/X.env.scope.names.lookup x=some .local:=by exact .inl rfl):PS X (.Assign [.Name x pos'] e pos) (tAsg te (gName i)):=ps_set hN hi (h.get hi) he hs hf
theorem ga {x:Str}{pos:Pos}(hN:X.N.Nodup)(h:Lm X.N X.env.scope)(i:Nat)(hi:X.N[i]?=some x:=by rfl)(hf:X.fn x=true\/X.env.scope.names.lookup x=some .local:=by first | exact .inl rfl | exact .inr (by kernel_rfl)):PG X (.Name x pos) (gName i):=pg_name hN hi (h.get hi) hf
end
end L2
namespace L2
open PySem PySem.Spec PyProof.Rows
section
variable {X : Cx}
theorem ps_comp {y:Str}{posn posa:Pos}{gg:TG}{elt iter tg:Expr}{ifs:List Expr}{scope:Scope}{pos:Pos}{wi:TI}{g:TG}{tt:TT}{te:TE}(own:List Str)(fr:List Nat)(hc:X.calm=true)
  (hkind:scope.kind=.function) (hcell:∀ x∈scope.names,x.2≠.cell) (hnames:∀ x∈scope.names,x.2=.local->scope.names.lookup x.1=some .local)
  (hfr:∀ x∈scope.names,x.2=.free->X.env.scope.names.lookup x.1=some .cell\/X.env.scope.names.lookup x.1=some .free)
  (hin:∀ j∈fr,scope.names.lookup (X.N.getD j Str.empty)=some .free)
  (hi:PI X tg iter wi) (hg:∀ fp C s H,PG (cxComp X scope (own++fr.map fun j=>X.N.getD j Str.empty) fp C s H) tg g)
  (ht:∀ fp C s H,PIfs (cxComp X scope (own++fr.map fun j=>X.N.getD j Str.empty) fp C s H) ifs tt)
  (he:∀ fp C s H,PE (cxComp X scope (own++fr.map fun j=>X.N.getD j Str.empty) fp C s H) elt te)
  (hgg:PG X (.Name y posn) gg) (hsw:swapsWith (.ListComp elt [⟨tg,iter,ifs,0⟩] scope pos) (some (.Name y posn)) posa.line X.env=pure true)
  (hs:∀ x,foldedSetIterable iter X.env x=pure x:=by intro _;rfl):PS X (.Assign [.Name y posn] (.ListComp elt [⟨tg,iter,ifs,0⟩] scope pos) posa) (tAsg (tComp own.length fr wi g tt te) gg):=by
 intro pins s σ H D0 I h
 rw [exec_Assign_Name_used _ _ _ _ hsw,arm_evalThenUse_ListComp]
 refine wpAny_bind (wpAny_standAt (wpAny_bind (wpAny_bind ?_)))
 have hfree:∀ x∈scope.names,x.2=.free->∃ c,X.env.cells.lookup x.1=some c:=fun x hx e=>I.ok.has x.1 (hfr x hx e)
 refine thn (wpAny_comprehension_free (use:=some (assign (.Name y posn) X.env)) (Q:=fun _ s'=>SP X pins D0 .next s') rfl hs (closureFor_eq hfree) hkind hnames ?_) fun _ _ q=>wpAny_pure (wpAny_pure q)
 refine thn (hi pins s σ H _ I h) fun v s1 h1=>thn h1 fun itv s2 h2=>?_
 obtain ⟨it,fp,tn,J,H2,e,I2,T,st2,f2,W,⟨m0,w0⟩,turn⟩:=h2
 subst e
 have hfo:∀ b∈fp,b < s2.heap.objs.size:=fun b hb=>by obtain ⟨o,e,_⟩:=T.obj 0 _ st2 b hb;exact Heap.lt_size e
 refine wpAny_newObj_type (wpAny_newFunctionEnv hcell (by intro y hy;simp at hy) (fun h₁ hns₁ hsb₁=>?_) hkind)
 dsimp only at hns₁ hsb₁ ⊢
 generalize hH2:s2.heap.push { cls:=.type "list",dict:=none,data:=.seq ([]:List Value).toArray }=G2 at hns₁ hsb₁ ⊢
 have hC:G2.objs.size=s2.heap.objs.size + 1:=by rw [←hH2,Heap.size_push]
 have hDC:s2.heap.objs.size≠G2.objs.size:=by rw [hC];exact Nat.ne_of_lt (Nat.lt_succ_self _)
 have hCle:s2.heap.objs.size<=G2.objs.size:=by rw [hC];exact Nat.le_succ _
 have old:∀ b o,s2.heap.get? b=some o->h₁.get? b=some o:=fun b o e=>hsb₁.extBut b o (by rw [hC];exact Nat.ne_of_lt (Nat.lt_succ_of_lt (Heap.lt_size e))) (Heap.get?_push_of_some _ (hH2 ▸ Heap.get?_push_of_some _ e))
 have hacc:h₁.PlainList s2.heap.objs.size #[]:=⟨_,hsb₁.extBut _ _ hDC (Heap.get?_push_of_some _ (hH2 ▸ Heap.get?_push_size _ rfl))⟩
 have I3:Inv (cxComp X scope (own++fr.map fun j=>X.N.getD j Str.empty) fp G2.objs.size s2 H2) [] (innerSt own.length fr σ) H2 { s2 with heap:=h₁,toks:=s2.toks + ([]:List (Str × Value)).length } :=
  comp_enter I2 hkind hcell hfr hin hCle f2 hfo old hns₁
 have st3:tn 0 h₁:=T.keep 0 _ _ st2 fun b _ o e=>old b o e
 have hDf:s2.heap.objs.size ∉ fp:=fun hm=>Nat.lt_irrefl _ (hfo _ hm)
 have hDn2:H2 s2.heap.objs.size=none:=I2.hok.fresh (Nat.le_refl _)
 have sub:∀ y c,(cellsFor X.env scope.names []).lookup y=some c->X.env.cells.lookup y=some c:=cellsFor_sub _ _ hfree (by intro y c e;simp at e)
 have cellD:∀ y c,(cellsFor X.env scope.names []).lookup y=some c->c≠s2.heap.objs.size:=fun y c e=>by
  obtain ⟨_,o,ho,_⟩:=I2.cell y c (sub y c e)
  exact Nat.ne_of_lt (Heap.lt_size ho)
 have Dfs:s2.heap.objs.size ∉ frs X.stack:=fun z=>by
  rcases List.mem_cons.mp (I2.stkSub _ z) with e | e
  ·exact absurd I2.lt (by rw [←e];exact Nat.lt_irrefl _)
  ·exact I2.nofs (Nat.le_refl _) e
 -- the iterator's records,in the block's context
 have stat:∀ {H':Hp} {pl:List (Addr × Obj)},(∀ b∈fp,H' b=none)->(∀ p∈pl,p.1=s2.heap.objs.size)->∀ b∈fp,FpOk (cxComp X scope (own++fr.map fun j=>X.N.getD j Str.empty) fp G2.objs.size s2 H2) pl H' b:=fun {H' pl} hn hp b hb=>by
  refine ⟨hn b hb,(I3.ok.exf b hb).1,I3.ok.exfs b hb,.inl hb,(I3.ok.exf b hb).2,fun p hpp z=>?_⟩
  have hpp':p∈pl:=by simpa [cxComp] using hpp
  exact hDf (by rw [←hp p hpp',z];exact hb)
 have pinD:∀ {σ':St} {H':Hp} {s':Shared} {ys:Array Value} {n:Nat},Inv (cxComp X scope (own++fr.map fun j=>X.N.getD j Str.empty) fp G2.objs.size s2 H2) [] σ' H' s'->H' s2.heap.objs.size=none->s'.heap.get? s2.heap.objs.size=some { cls:=.type "list",data:=.seq ys n } ->
   Inv (cxComp X scope (own++fr.map fun j=>X.N.getD j Str.empty) fp G2.objs.size s2 H2) [(s2.heap.objs.size,{ cls:=.type "list",data:=.seq ys n })] σ' H' s':=fun {σ' H' s' ys n} J hn e=>J.pins_of fun p hp=>by
  have e':p=(s2.heap.objs.size,{ cls:=.type "list",data:=.seq ys n }):=by simpa using hp
  subst e'
  exact ⟨e,hn,hDC,Dfs,fun v z=>nomatch z⟩
 have loop:codeAny (model X.prog X.w) X.A (.compLoop (.ListComp elt [⟨tg,iter,ifs,0⟩] scope pos) 0 (.ref it) (.ref s2.heap.objs.size) (compEnvC scope (cellsFor X.env scope.names []) G2.objs.size X.env))
   (compPost (model X.prog X.w) X.A X.xe (some (assign (.Name y posn) X.env)) (fun _ s'=>SP X pins D0 .next s') (.ref s2.heap.objs.size) G2.objs.size) { s2 with heap:=h₁,toks:=s2.toks + ([]:List (Str × Value)).length }:=by
  refine codeAny_compLoop_any (E:=fun _ _=>False) (fun n s'=>∃ i σ' H' vs ys,Inv (cxComp X scope (own++fr.map fun j=>X.N.getD j Str.empty) fp G2.objs.size s2 H2) [] σ' H' s'/\tn i s'.heap/\(∀ b∈fp,H' b=none)/\H' s2.heap.objs.size=none/\s'.heap.PlainList s2.heap.objs.size ys/\Vals vs ys.toList/\W i n σ' vs H')
   ?_ (fun _ _ z=>z.elim) m0 ⟨0,_,H2,[],#[],I3,st3,fun b hb=>(f2 b hb).1,hDn2,hacc,.nil,w0⟩
  rintro n s3 ⟨i,σ3,H3,vs,ys,J3,st3,fr3,dn3,⟨pn,pl3⟩,rv,w3⟩
  have J3':=pinD J3 dn3 pl3
  have hpins:∀ p∈[(s2.heap.objs.size,({ cls:=.type "list",data:=.seq ys pn }:Obj))],p.1=s2.heap.objs.size:=fun p hp=>by
   have e':p=(s2.heap.objs.size,{ cls:=.type "list",data:=.seq ys pn }):=by simpa using hp
   rw [e']
  rcases turn i n σ3 vs H3 w3 with ⟨stop,hz,q⟩ | ⟨go,hz,N,hN,step⟩
  ·refine thn (T.done (cxComp X scope (own++fr.map fun j=>X.N.getD j Str.empty) fp G2.objs.size s2 H2) rfl rfl rfl hc i _ s3 σ3 H3 (fun _ _=>False) J3' (stat fr3 hpins) st3 stop) fun r s4 ⟨hr,J4⟩=>?_
   subst hr
   obtain ⟨m4,hn4,_⟩:=id J4.loc
   have e4:s4.heap.get? s2.heap.objs.size=some { cls:=.type "list",data:=.seq ys pn }:=(J4.pin (s2.heap.objs.size,{ cls:=.type "list",data:=.seq ys pn }) (List.mem_append_right _ (by simp))).1
   obtain ⟨oC,es,ep,eC,dC,kC,fC⟩:=hn4
   have I4:Inv X pins σ (upd H3 s2.heap.objs.size (.lst vs)) s4:=comp_leave (h'':=s4.heap) I2 f2 J4 hCle (Nat.le_refl _) hDC dn3 ⟨pn,e4⟩ rv hz ⟨rfl,fun _ _=>rfl⟩
   have cL:G2.objs.size≠X.env.locals:=fun z=>absurd I2.lt (by rw [←z];exact Nat.not_lt.mpr hCle)
   have I5:Inv X (pins++[(G2.objs.size,oC)]) σ (upd H3 s2.heap.objs.size (.lst vs)) s4:=I4.pins_of fun p hp=>by
    rcases List.mem_append.mp hp with z | z
    ·exact I4.pin p (List.mem_append_right _ z)
    ·have z:p=(G2.objs.size,oC):=by simpa using z
     subst z
     exact ⟨eC,by rw [upd_ne hDC.symm];exact J4.free,cL,I2.nofs hCle,fun v zv=>by rw [dC] at zv;cases zv⟩
   show wpAny _ _ (assign (.Name y posn) X.env (.ref s2.heap.objs.size)) _ _ _
   refine thn (hgg _ s4 σ _ (.ref s2.heap.objs.size) _ _ I5 rfl (q _ dn3)) fun _ s5 ⟨σ5,H5,I6,q6⟩=>?_
   have pC:=I6.pin (G2.objs.size,oC) (List.mem_append_right _ (List.mem_append_right _ (by simp)))
   refine ⟨m4,⟨oC,es,ep,pC.1,dC,kC,fC⟩,fun h' hs'=>?_⟩
   have I7:Inv X pins σ5 H5 s5:=I6.pins_of fun p hp=>I6.pin p (List.mem_append_right _ (List.mem_append_left _ hp))
   refine ⟨σ5,H5,I7.turned (t':=s5.toks) (it:=G2.objs.size) (fun b o hb e=>(hs'.2 b hb).trans e) pC.2.1 cL (.inr (Nat.le_trans I2.sz hCle)) (fun x c e z=>?_) (fun p hp z=>?_),q6⟩
   ·obtain ⟨_,o,ho,_⟩:=I2.cell x c e
    exact absurd (Heap.lt_size ho) (by rw [z];exact Nat.not_lt.mpr hCle)
   ·exact absurd (Heap.lt_size (I2.pin p hp).1) (by rw [z];exact Nat.not_lt.mpr hCle)
  ·refine thn (T.item (cxComp X scope (own++fr.map fun j=>X.N.getD j Str.empty) fp G2.objs.size s2 H2) rfl rfl rfl hc i _ s3 σ3 H3 (fun _ _=>False) J3' (stat fr3 hpins) st3 go) fun r s4 ⟨u,hr,h4⟩=>?_
   subst hr
   refine thn h4 fun _ s5 ⟨x,H5,J5,r5,y5,st5,fr5⟩=>?_
   have J5':=J5.pinned (stat fr5 hpins) (T.obj _ _ st5)
   refine thn (hg fp _ s2 H2 _ s5 σ3 H5 x u _ J5' r5 (step x H5 y5)) fun _ s6 ⟨σ6,H6,J6,q6⟩=>?_
   refine thn (ht fp _ s2 H2 _ s6 σ6 H6 _ J6 q6) fun ok s7 ⟨H7,J7,q7⟩=>?_
   -- what stood pinned through the turn
   have after:∀ {s8:Shared} {H8:Hp},Inv (cxComp X scope (own++fr.map fun j=>X.N.getD j Str.empty) fp G2.objs.size s2 H2) ([(s2.heap.objs.size,({ cls:=.type "list",data:=.seq ys pn }:Obj))]++pinsAt fp s5.heap) σ6 H8 s8 ->
     tn (i + 1) s8.heap/\(∀ b∈fp,H8 b=none)/\H8 s2.heap.objs.size=none/\s8.heap.get? s2.heap.objs.size=some { cls:=.type "list",data:=.seq ys pn }:=fun {s8 H8} J8=>by
    refine ⟨T.keep _ _ _ st5 fun b hb o e=>(J8.pin (b,o) (List.mem_append_right _ (List.mem_append_right _ (mem_pinsAt hb e)))).1,fun b hb=>?_,?_,?_⟩
    ·obtain ⟨o,e,d⟩:=T.obj _ _ st5 b hb
     exact (J8.pin (b,o) (List.mem_append_right _ (List.mem_append_right _ (mem_pinsAt hb e)))).2.1
    ·exact (J8.pin (s2.heap.objs.size,{ cls:=.type "list",data:=.seq ys pn }) (List.mem_append_right _ (List.mem_append_left _ (by simp)))).2.1
    ·exact (J8.pin (s2.heap.objs.size,{ cls:=.type "list",data:=.seq ys pn }) (List.mem_append_right _ (List.mem_append_left _ (by simp)))).1
   cases ok with
   | false =>
    obtain ⟨m',hm,w7⟩:=hN _ _ _ q7
    obtain ⟨a1,a2,a3,a4⟩:=after J7
    exact ⟨m',hm,i + 1,σ6,H7,vs,ys,J7.pins_of (fun p hp=>absurd hp (by simp)),a1,a2,a3,⟨pn,a4⟩,rv,w7⟩
   | true =>
    refine thn (he fp _ s2 H2 _ s7 σ6 H7 _ J7 q7) fun y s8 ⟨v8,H8,J8,r8,n8⟩=>?_
    obtain ⟨m',hm,w8⟩:=hN _ _ _ n8
    obtain ⟨a1,a2,a3,a4⟩:=after J8
    have J9:Inv (cxComp X scope (own++fr.map fun j=>X.N.getD j Str.empty) fp G2.objs.size s2 H2) [] σ6 H8 s8:=J8.pins_of (fun p hp=>absurd hp (by simp))
    have hys:ys.size<=sizeLine:=by
     have e1:vs.length=ys.toList.length:=rv.length
     have e2:ys.toList.length=ys.size:=by simp
     omega
    refine wpAny_list_append_plain (hsz:=hys) ⟨pn,a4⟩ fun h₅ hl₅ hs₅=>?_
    refine ⟨m',hm,i + 1,σ6,H8,vs++[v8],ys.push y,J9.turned (t':=s8.toks) (it:=s2.heap.objs.size) (fun b o hb e=>by rw [hs₅.2 b hb];exact e) a3 hDC (.inr (Nat.le_refl _)) cellD (fun p hp=>absurd (show p∈([]:List (Addr × Obj)) from hp) (by simp)),
     T.keep _ _ _ a1 fun b hb o e=>(hs₅.2 b (fun z=>hDf (z ▸ hb))).trans e,a2,a3,hl₅,?_,w8⟩
    have:Vals (vs++[v8]) (ys.toList++[y]):=rv.append (.cons r8 .nil)
    simpa using this
 exact codeAny_compStart_list loop (T.self X.A 0 _ _ _ st3 loop)
end
theorem ps_compC {X:Cx}{y:Str}{posn posa:Pos}{gg:TG}{elt iter tg:Expr}{ifs:List Expr}{scope:Scope}{pos:Pos}{wi:TI}{g:TG}{tt:TT}{te:TE}(sc:Scope)(N0 own:List Str)(fr:List Nat)(hc:X.calm=true)(hsc:X.env.scope=sc)(hN:X.N=N0)
  (ok:compOk scope sc N0 fr=true) (hi:PI X tg iter wi) (hg:∀ fp C s H,PG (cxComp X scope (own++fr.map fun j=>N0.getD j Str.empty) fp C s H) tg g)
  (ht:∀ fp C s H,PIfs (cxComp X scope (own++fr.map fun j=>N0.getD j Str.empty) fp C s H) ifs tt)
  (he:∀ fp C s H,PE (cxComp X scope (own++fr.map fun j=>N0.getD j Str.empty) fp C s H) elt te)
  (hgg:PG X (.Name y posn) gg) (hsw:swapsWith (.ListComp elt [⟨tg,iter,ifs,0⟩] scope pos) (some (.Name y posn)) posa.line X.env=pure true:=by kernel_rfl)
  (hs:∀ x,foldedSetIterable iter X.env x=pure x:=by intro _;rfl):PS X (.Assign [.Name y posn] (.ListComp elt [⟨tg,iter,ifs,0⟩] scope pos) posa) (tAsg (tComp own.length fr wi g tt te) gg):=by
 subst hsc hN
 unfold compOk at ok
 simp only [Bool.and_eq_true,List.all_eq_true,bne_iff_ne,beq_iff_eq,Bool.or_eq_true] at ok
 obtain ⟨⟨k1,k2⟩,k3⟩:=ok
 refine ps_comp own fr hc k1 (fun x hx=>(k2 x hx).1.1) (fun x hx e=>?_) (fun x hx e=>?_) (fun j hj=>k3 j hj) hi hg ht he hgg hsw hs
 ·rcases (k2 x hx).1.2 with z | z
  ·exact absurd e z
  ·exact z
 ·rcases (k2 x hx).2 with (z | z) | z
  ·exact absurd e z
  ·exact .inl z
  ·exact .inr z
end L2
namespace G28
open PySem L2
def top (i:Nat):Stmt:=PySem.Challenge.pw_gapwork_k28_faults_reached_or_not.main.body.getD i (.Pass ⟨0,0,0,0⟩)
abbrev s_right_in:Stmt:=top 6
abbrev s_inner_terms:Stmt:=top 7
abbrev s_bound_to:Stmt:=top 9
abbrev s_Work:Stmt:=top 12
abbrev s_is_left:Stmt:=top 13
abbrev s_op_number:Stmt:=top 14
abbrev s_do_gap:Stmt:=top 15
abbrev s_do_op:Stmt:=top 16
abbrev s_do_more:Stmt:=top 17
abbrev s_do_first:Stmt:=top 18
abbrev s_do_long:Stmt:=top 19
abbrev s_do_match:Stmt:=top 20
abbrev s_do_if:Stmt:=top 21
abbrev s_do_fold:Stmt:=top 22
abbrev s_do_row:Stmt:=top 24
abbrev s_go_round:Stmt:=top 25
abbrev s_told_ahead:Stmt:=top 26
abbrev s_begin_term:Stmt:=top 27
abbrev s_row_of_term:Stmt:=top 28
abbrev s_end_term:Stmt:=top 29
abbrev s_finish:Stmt:=top 31
abbrev s_run:Stmt:=top 33
abbrev s_L_feed:Stmt:=top 35
abbrev s_L_take:Stmt:=top 36
abbrev s_L_names:Stmt:=top 37
abbrev s_L_number:Stmt:=top 38
abbrev s_L_other:Stmt:=top 39
abbrev s_L_core:Stmt:=top 40
abbrev s_L_aside:Stmt:=top 41
abbrev s_L_within:Stmt:=top 42
abbrev s_L_wrapped:Stmt:=top 43
abbrev s_L_case:Stmt:=top 44
abbrev s_law:Stmt:=top 45
def inC (s:Stmt)(i:Nat):Stmt:=match s with
 | .ClassDef _ _ _ b _ _ _ _ _ _ _=>b.getD i (.Pass ⟨0,0,0,0⟩)
 | s=>s
abbrev s_Work_init:Stmt:=inC s_Work 0
abbrev s_Work_tell:Stmt:=inC s_Work 1
abbrev s_Work_take:Stmt:=inC s_Work 2
abbrev s_Work_do_one:Stmt:=inC s_Work 3
abbrev s_Work_write:Stmt:=inC s_Work 4
abbrev s_Work_go_into:Stmt:=inC s_Work 5
section
variable {P : Program} {w : World} {K : PySem.W.Frag} {mg : Str → Option Value} {base : Heap}
theorem scTake:FnScope ["_law_feed_here","_law_many","_law_digit","_law_one"] ["_law_feed_here","_law_many"] (defScope s_L_take):=⟨rfl,rfl,rfl,by decide +kernel,rfl,by decide +kernel,by decide +kernel⟩
theorem ok_take {f:Addr}{fd:FuncData}(F:Fun K "_law_take" "_law_take" s_L_take f fd):FnOk P w K mg base CX0 1 f fd ["_law_feed_here","_law_many"] spTake:=by
 refine F.ok scTake (fun vs H Q E h=>?_) (fun cdv A outer s H vs Q E hr h=>?_)
 ·obtain ⟨a,m,rfl,_⟩:=h
  rfl
 obtain ⟨a,m,rfl,m0,m1,⟨p,q,hf⟩,k⟩:=h
 refine ⟨_,pss_cons (ps_if (pt_cmpR op_gt (pe_ix ix_list (pv 0) pe_int (fun _ _=>rfl)) pe_int (nomark _))
   (pss_cons (ps_set (i:=2) scTake.nd rfl (Or.inl rfl) (pe_op op_mod (pe_ix ix_list (pv 0) pe_int (fun _ _=>rfl)) (pv 1)))
   (pss_cons (ps_asg (pe_op op_fdiv (pe_ix ix_list (pv 0) pe_int (fun _ _=>rfl)) (pv 1)) (pg_sub (pv 0) pe_int set_list))
   (pss_one (ps_ret (pv 2))))) pss_nil)
  (pss_cons (ps_set (i:=3) scTake.nd rfl (Or.inl rfl) (pe_op op_mod (pe_op op_mul (pe_ix ix_list (pv 0) pe_int (fun _ _=>rfl)) pe_int) pe_int))
  (pss_cons (ps_asg (pe_op op_add (pe_op op_mod (pe_op op_add (pe_op op_mul (pv 3) pe_int) pe_int) pe_int) pe_int) (pg_sub (pv 0) pe_int set_list))
  (pss_one (ps_ret (pe_op op_mod (pe_op op_fdiv (pe_op op_add (pe_op op_mul (pv 3) pe_int) (pe_ix ix_list (pv 0) pe_int (fun _ _=>rfl))) pe_int) (pv 1)))))),?_⟩
 have ext:∀ p' q':Int,Ext a H (upd H a (.lst [.int p',.int q'])):=fun p' q'=>⟨fun b o n e=>by rw [upd_ne n];exact e,p',q',upd_same⟩
 refine ⟨_,rfl,a,_,0,_,rfl,rfl,SqL.of hf,rfl,_,_,rfl,rfl,_,rfl,?_⟩
 refine ite2 (fun _=>?_) (fun _=>?_)
 ·refine ⟨_,rfl,a,_,0,_,rfl,rfl,SqL.of hf,rfl,_,rfl,_,_,rfl,rfl,m0,?_⟩
  refine ⟨_,rfl,a,_,0,_,rfl,rfl,SqL.of hf,rfl,_,rfl,_,_,rfl,rfl,⟨m0,m1⟩,?_⟩
  refine ⟨_,rfl,a,_,0,0,rfl,rfl,hf,rfl,?_⟩
  refine ⟨_,rfl,?_⟩
  exact k _ _ (Int.emod_nonneg _ (by omega)) (Int.emod_lt_of_pos _ m0) (ext _ _)
 ·refine ⟨_,rfl,a,_,1,_,rfl,rfl,SqL.of hf,rfl,_,_,rfl,rfl,.inr ⟨by decide,by decide⟩,_,_,rfl,rfl,(by show (0:Int) < 2147483647;decide),?_⟩
  refine ⟨_,rfl,_,_,rfl,rfl,.inr ⟨by decide,by decide⟩,_,_,rfl,rfl,_,_,rfl,rfl,(by show (0:Int) < 2147483399;decide),_,_,rfl,rfl,?_⟩
  refine ⟨_,rfl,a,_,1,1,rfl,rfl,hf,rfl,?_⟩
  refine ⟨_,rfl,_,_,rfl,rfl,.inr ⟨by decide,by decide⟩,_,rfl,a,_,1,_,rfl,rfl,SqL.of upd_same,rfl,_,_,rfl,rfl,_,_,rfl,rfl,⟨by decide,by decide⟩,_,rfl,_,_,rfl,rfl,m0,?_⟩
  exact k _ _ (Int.emod_nonneg _ (by omega)) (Int.emod_lt_of_pos _ m0) (ext _ _)
end
section
variable {P : Program} {w : World} {K : PySem.W.Frag} {mg : Str → Option Value} {base : Heap}
theorem scFeed:FnScope ["_law_script","_law_k","_law_cell","_law_own"] ["_law_script","_law_k"] (defScope s_L_feed):=⟨rfl,rfl,rfl,by decide +kernel,rfl,by decide +kernel,by decide +kernel⟩
theorem ok_feed {f:Addr}{fd:FuncData}(F:Fun K "_law_feed" "_law_feed" s_L_feed f fd)(ml:mg "len"=none):FnOk P w K mg base CX0 1 f fd ["_law_script","_law_k"] (spFeed K):=by
 refine F.ok scFeed (fun vs H Q E h=>?_) (fun cdv A outer s H vs Q E hr h=>?_)
 ·obtain ⟨a,ns,m,rfl,_⟩:=h
  rfl
 obtain ⟨a,ns,k,rfl,hS,hn,k0,k1,kk⟩:=h
 refine ⟨_,pss_cons (ps_set (i:=2) scFeed.nd rfl (Or.inl rfl) (pe_op op_add (pe_op op_mul pe_int (pv 1)) pe_int))
  (pss_cons (ps_if (pt_cmpR op_lt (pv 1) (pe_callB call_len_seq (by rfl) ml PySem.boot_len (pa_cons (pv 0) pa_nil)) (nomark _))
   (pss_one (ps_set (i:=2) scFeed.nd rfl (Or.inl rfl) (pe_ix ix_list (pv 0) (pv 1) (fun _ _=>rfl))))
   (pss_one (ps_if (pt_cmpR op_gt (pe_callB call_len_seq (by rfl) ml PySem.boot_len (pa_cons (pv 0) pa_nil)) pe_int (nomark _))
    (pss_one (ps_set (i:=2) scFeed.nd rfl (Or.inl rfl) (pe_op op_add (pe_op op_mul (pe_op op_mod (pe_ix ix_list (pv 0) (pe_op op_mod (pv 1) (pe_callB call_len_seq (by rfl) ml PySem.boot_len (pa_cons (pv 0) pa_nil))) (fun _ _=>rfl)) pe_int) pe_int) (pe_op op_mul pe_int (pv 1)))))
    pss_nil)))
  (pss_cons (ps_set (i:=3) scFeed.nd rfl (Or.inl rfl) pe_int)
  (pss_cons (ps_if (pt_cmpR op_ge (pv 2) (pe_op op_pow pe_int pe_int) (nomark _)) (pss_one (ps_set (i:=3) scFeed.nd rfl (Or.inl rfl) (pv 2))) pss_nil)
  (pss_one (ps_ret (pe_lst (pa_cons (pv 3) (pa_cons (pe_op op_add (pe_op op_mod (pe_op op_add (pe_op op_mul (pe_op op_mod (pv 2) pe_int) pe_int) (pe_op op_mul pe_int (pv 1))) pe_int) pe_int) pa_nil)))))))),?_⟩
 have hl:(ns.map V.int).length=ns.length:=List.length_map _
 refine ⟨_,rfl,_,_,rfl,rfl,.inl ⟨by decide,by decide⟩,_,_,rfl,rfl,?_⟩
 refine ⟨_,rfl,_,rfl,a,_,rfl,.inl hS,_,_,rfl,rfl,_,rfl,?_⟩
 refine ite2 (fun c=>?_) (fun c=>?_)
 ·have c':k < ((ns.map V.int).length:Int):=of_decide_eq_true c
  rw [hl] at c'
  obtain ⟨v,hv⟩:=atI_int (ns:=ns) k0 c'
  refine ⟨_,rfl,_,rfl,a,_,_,_,rfl,rfl,hS,hv,?_⟩
  refine ⟨_,rfl,_,_,rfl,rfl,⟨by decide,by decide,by decide⟩,_,_,rfl,rfl,_,rfl,ite2 (fun _=>?_) (fun _=>?_)⟩
  ·refine ⟨_,rfl,_,rfl,_,rfl,_,_,rfl,rfl,(by show (0:Int) < 2147483629;decide),_,_,rfl,rfl,.inr ⟨by decide,by decide⟩,_,rfl,_,_,rfl,rfl,.inl ⟨by decide,by decide⟩,_,_,rfl,rfl,_,_,rfl,rfl,(by show (0:Int) < 2147483629;decide),_,_,rfl,rfl,(by show 2<=sizeLine;decide),fun l hl=>?_⟩
   exact kk l _ (same_new hl _) hl ⟨_,_,upd_same⟩
  ·refine ⟨_,rfl,_,rfl,_,_,rfl,rfl,(by show (0:Int) < 2147483629;decide),_,_,rfl,rfl,.inr ⟨by decide,by decide⟩,_,rfl,_,_,rfl,rfl,.inl ⟨by decide,by decide⟩,_,_,rfl,rfl,_,_,rfl,rfl,(by show (0:Int) < 2147483629;decide),_,_,rfl,rfl,(by show 2<=sizeLine;decide),fun l hl=>?_⟩
   exact kk l _ (same_new hl _) hl ⟨_,_,upd_same⟩
 ·refine ⟨_,rfl,a,_,rfl,.inl hS,_,_,rfl,rfl,_,rfl,?_⟩
  refine ite2 (fun d=>?_) (fun d=>?_)
  ·have d':(0:Int) < ((ns.map V.int).length:Int):=of_decide_eq_true d
   have d2:(0:Int) < (ns.length:Int):=by rw [hl] at d';exact d'
   obtain ⟨v,hv⟩:=atI_int (ns:=ns) (k:=k % (((ns.map V.int).length:Nat):Int)) (Int.emod_nonneg _ (by omega)) (by rw [hl];exact Int.emod_lt_of_pos _ d2)
   refine ⟨_,rfl,_,rfl,_,rfl,a,_,rfl,.inl hS,_,_,rfl,rfl,d',a,_,_,_,rfl,rfl,hS,hv,_,_,rfl,rfl,(by show (0:Int) < 2147483629;decide),_,_,rfl,rfl,.inr ⟨by decide,by decide⟩,_,rfl,_,_,rfl,rfl,.inl ⟨by decide,by decide⟩,_,_,rfl,rfl,?_⟩
   refine ⟨_,rfl,_,_,rfl,rfl,⟨by decide,by decide,by decide⟩,_,_,rfl,rfl,_,rfl,ite2 (fun _=>?_) (fun _=>?_)⟩
   ·refine ⟨_,rfl,_,rfl,_,rfl,_,_,rfl,rfl,(by show (0:Int) < 2147483629;decide),_,_,rfl,rfl,.inr ⟨by decide,by decide⟩,_,rfl,_,_,rfl,rfl,.inl ⟨by decide,by decide⟩,_,_,rfl,rfl,_,_,rfl,rfl,(by show (0:Int) < 2147483629;decide),_,_,rfl,rfl,(by show 2<=sizeLine;decide),fun l hl=>?_⟩
    exact kk l _ (same_new hl _) hl ⟨_,_,upd_same⟩
   ·refine ⟨_,rfl,_,rfl,_,_,rfl,rfl,(by show (0:Int) < 2147483629;decide),_,_,rfl,rfl,.inr ⟨by decide,by decide⟩,_,rfl,_,_,rfl,rfl,.inl ⟨by decide,by decide⟩,_,_,rfl,rfl,_,_,rfl,rfl,(by show (0:Int) < 2147483629;decide),_,_,rfl,rfl,(by show 2<=sizeLine;decide),fun l hl=>?_⟩
    exact kk l _ (same_new hl _) hl ⟨_,_,upd_same⟩
  ·refine ⟨_,rfl,_,_,rfl,rfl,⟨by decide,by decide,by decide⟩,_,_,rfl,rfl,_,rfl,ite2 (fun _=>?_) (fun _=>?_)⟩
   ·refine ⟨_,rfl,_,rfl,_,rfl,_,_,rfl,rfl,(by show (0:Int) < 2147483629;decide),_,_,rfl,rfl,.inr ⟨by decide,by decide⟩,_,rfl,_,_,rfl,rfl,.inl ⟨by decide,by decide⟩,_,_,rfl,rfl,_,_,rfl,rfl,(by show (0:Int) < 2147483629;decide),_,_,rfl,rfl,(by show 2<=sizeLine;decide),fun l hl=>?_⟩
    exact kk l _ (same_new hl _) hl ⟨_,_,upd_same⟩
   ·refine ⟨_,rfl,_,rfl,_,_,rfl,rfl,(by show (0:Int) < 2147483629;decide),_,_,rfl,rfl,.inr ⟨by decide,by decide⟩,_,rfl,_,_,rfl,rfl,.inl ⟨by decide,by decide⟩,_,_,rfl,rfl,_,_,rfl,rfl,(by show (0:Int) < 2147483629;decide),_,_,rfl,rfl,(by show 2<=sizeLine;decide),fun l hl=>?_⟩
    exact kk l _ (same_new hl _) hl ⟨_,_,upd_same⟩
end
end G28
namespace G28
open PySem L2
def placesOf:List (Str × List Nat):=[("num",[]),("name",[]),("gap",[]),("op",[2,3]),("more",[1,2]),("first",[1]),("others",[1]),("long",[1]),("if",[1,2,3])]
def manyOf:List (Str × V):=[("row",.int 1),("tag",.int 2),("call",.int 2)]
structure Tabs (K:PySem.W.Frag) (w:World) (mg:Str->Option Value) (dP dM:Addr) (pl:List (Str × V)):Prop where
 mP:mg "PLACES"=some (.ref dP)
 mM:mg "PLACE_OF_MANY"=some (.ref dM)
 kP:KD K w dP pl
 kM:KD K w dM manyOf
 at_:∀ f ps,(f,ps)∈placesOf->∃ a,pl.lookup f=some (.ref a)/\∀ H,SqT K H a (ps.map fun (j:Nat)=>V.int (j:Int))
def spRightIn (K:PySem.W.Frag):Sp:=fun vs H Q _=>∃ (v:V) (tm:Tm),vs=[v]/\Rp K H (enc tm) v/\Wf tm/\tm.ks.length<=900 /\
 ∀ (p:Addr) (H':Hp) (ws:List V),Same H H'->H' p=some (.lst ws)->Rps K H' ((right tm).map pairT) ws->Q (.ref p) H'
theorem zip_plain:∀ ks:List Tm,((List.replicate ks.length ([]:List Str)).zip ks).map pairT=(ks.map enc).map fun k=>.t [.t [],k]
 | []=>rfl
 | k::r=>by rw [List.length_cons,List.replicate_succ,List.zip_cons_cons,List.map_cons,List.map_cons,List.map_cons,zip_plain r];rfl
theorem right_plain {h:Hd}{ks:List Tm}(e:bnd h ks.length=List.replicate ks.length []):(right (.mk h ks)).map pairT=(ks.map enc).map fun k=>.t [.t [],k]:=by
 unfold right
 show ((bnd h ks.length).zip ks).map pairT=_
 rw [e]
 exact zip_plain ks
theorem zip_arms:∀ (arms:List (Str × List Str)) (kr:List Tm),arms.length=kr.length->((arms.map (·.2)).zip kr).map pairT=List.zipWith (fun (a:Str × List Str) k=>T.t [.t (a.2.map .s),k]) arms (kr.map enc)
 | [],kr,h=>rfl
 | x::r,[],h=>rfl
 | x::r,y::q,h=>by rw [List.map_cons,List.zip_cons_cons,List.map_cons,List.map_cons,List.zipWith_cons_cons,zip_arms r q (by simpa using h)];rfl
theorem at0 {α:Type}(v:α)(q:List α):atI (v::q) 0=some v:=atI_nat (j:=0) rfl
section
variable {P : Program} {w : World} {K : PySem.W.Frag} {mg : Str → Option Value} {base : Heap} {dP dM : Addr} {pl : List (Str × V)}
theorem scRightIn:FnScope ["term","form"] ["term"] (defScope s_right_in):=⟨rfl,rfl,rfl,by decide +kernel,rfl,by decide +kernel,by decide +kernel⟩
theorem ok_right_in {f:Addr}{fd:FuncData}(F:Fun K "right_in" "right_in" s_right_in f fd)(TB:Tabs K w mg dP dM pl):FnOk P w K mg base CX0 1 f fd ["term"] (spRightIn K):=by
 refine F.ok scRightIn (fun vs H Q E h=>?_) (fun cdv A outer s H vs Q E hr h=>?_)
 ·obtain ⟨v,tm,rfl,_⟩:=h
  rfl
 obtain ⟨v,tm,rfl,hv,wf,hlen,k⟩:=h
 refine ⟨_,(pss_cons (ps_set (i:=1) scRightIn.nd rfl (Or.inl rfl) (pe_ix ix_tup (pv 0) pe_int (fun _ _=>rfl)))
  (pss_cons (ps_if (pt_cmpR op_eq (pv 1) pe_str (nomark _)) (pss_one (ps_ret (pe_op op_cat (pe_lst (pa_cons (pe_tup (pa_cons (pe_tup pa_nil) (pa_cons (pe_ix ix_tup (pv 0) pe_int (fun _ _=>rfl)) pa_nil))) pa_nil)) (pe_compC (defScope s_right_in) ["term","form"] ["tag","names","inner"] [] rfl rfl rfl (by decide +kernel) (pi_tup (pe_ix ix_tup (pv 0) pe_int (fun _ _=>rfl))) (fun _ _ _ _=>(pg_tupK (n:=3) K rfl rfl (pgs_cons (pg_name (i:=0) (show (["tag","names","inner"]:List Str).Nodup by decide +kernel) rfl (Or.inl rfl)) (pgs_cons (pg_name (i:=1) (show (["tag","names","inner"]:List Str).Nodup by decide +kernel) rfl (Or.inl rfl)) (pgs_cons (pg_name (i:=2) (show (["tag","names","inner"]:List Str).Nodup by decide +kernel) rfl (Or.inl rfl)) pgs_nil))))) (fun _ _ _ _=>pifs_nil) (fun _ _ _ _=>(pe_tup (pa_cons (pv 1) (pa_cons (pv 2) pa_nil)))))))) pss_nil)
  (pss_cons (ps_if (pt_cmpR op_eq (pv 1) pe_str (nomark _)) (pss_one (ps_ret (pe_lst (pa_cons (pe_tup (pa_cons (pe_tup pa_nil) (pa_cons (pe_ix ix_tup (pv 0) pe_int (fun _ _=>rfl)) pa_nil))) (pa_cons (pe_tup (pa_cons (pe_tup (pa_cons (pe_ix ix_tup (pv 0) pe_int (fun _ _=>rfl)) pa_nil)) (pa_cons (pe_ix ix_tup (pv 0) pe_int (fun _ _=>rfl)) pa_nil))) pa_nil))))) pss_nil)
  (pss_cons (ps_if (pt_cmpR op_eq (pv 1) pe_str (nomark _)) (pss_one (ps_ret (pe_lst (pa_cons (pe_tup (pa_cons (pe_tup pa_nil) (pa_cons (pe_ix ix_tup (pv 0) pe_int (fun _ _=>rfl)) pa_nil))) (pa_cons (pe_tup (pa_cons (pe_tup pa_nil) (pa_cons (pe_ix ix_tup (pv 0) pe_int (fun _ _=>rfl)) pa_nil))) (pa_cons (pe_tup (pa_cons (pe_tup (pa_cons (pe_ix ix_tup (pv 0) pe_int (fun _ _=>rfl)) (pa_cons (pe_ix ix_tup (pv 0) pe_int (fun _ _=>rfl)) pa_nil))) (pa_cons (pe_ix ix_tup (pv 0) pe_int (fun _ _=>rfl)) pa_nil))) pa_nil)))))) pss_nil)
  (pss_cons (ps_if (pt_cmpR op_inKD (pv 1) (pe_glob (v:=.ref dM) (by rfl) TB.mM rfl) (by with_unfolding_all rfl)) (pss_one (ps_ret (pe_compC (defScope s_right_in) ["term","form"] ["inner"] [] rfl rfl rfl (by decide +kernel) (pi_tup (pe_ix ix_tup (pv 0) (pe_kget (pe_glob (v:=.ref dM) (by rfl) TB.mM rfl) (pv 1) (fun _ _=>rfl)) (fun _ _=>rfl))) (fun _ _ _ _=>(pg_name (i:=0) (show (["inner"]:List Str).Nodup by decide +kernel) rfl (Or.inl rfl))) (fun _ _ _ _=>pifs_nil) (fun _ _ _ _=>(pe_tup (pa_cons (pe_tup pa_nil) (pa_cons (pv 0) pa_nil))))))) pss_nil)
  (pss_one (ps_ret (pe_compC (defScope s_right_in) ["term","form"] ["place"] [0] rfl rfl rfl (by decide +kernel) (pi_tup (pe_kget (pe_glob (v:=.ref dP) (by rfl) TB.mP rfl) (pv 1) (fun _ _=>rfl))) (fun _ _ _ _=>(pg_name (i:=0) (show (["place","term"]:List Str).Nodup by decide +kernel) rfl (Or.inl rfl))) (fun _ _ _ _=>pifs_nil) (fun _ _ _ _=>(pe_tup (pa_cons (pe_tup pa_nil) (pa_cons (pe_ix (ix_tupK K rfl) (pv 1) (pv 0) (fun _ _=>rfl)) pa_nil)))))))))))),?_⟩
 cases wf with
 | mk ar wk =>
 rename_i hd ks
 rw [enc_mk] at hv
 have hlen':ks.length<=900:=hlen
 have nE:(ks.map enc).length=ks.length:=List.length_map _
 cases hd
 case num n =>
  have hk:ks.length=0:=by simpa [arOk] using ar
  unfold encH at hv
  obtain ⟨a,vs,rfl,hS,hr0⟩:=hv.inv_t
  obtain ⟨v0,q0,rfl,e0,hr1⟩:=hr0.inv
  obtain rfl:=e0.inv_s
  refine ⟨_,rfl,a,_,0,_,rfl,rfl,hS,at0 _ _,?_⟩
  refine ⟨_,rfl,rfl,_,rfl,ifF (by decide +kernel) ?_⟩
  refine ⟨_,rfl,rfl,_,rfl,ifF (by decide +kernel) ?_⟩
  refine ⟨_,rfl,rfl,_,rfl,ifF (by decide +kernel) ?_⟩
  refine ⟨_,rfl,_,dM,_,rfl,rfl,TB.kM,_,rfl,ifF (by decide +kernel) ?_⟩
  obtain ⟨pa,lk,hpa⟩:=TB.at_ "num" [] (by decide +kernel)
  refine ⟨_,rfl,dP,_,_,_,rfl,rfl,TB.kP,lk,pa,rfl,⟨_,hpa H⟩,?_⟩
  refine comp_places (ps:=[]) (ks:=ks.map enc) hS hr0 (hpa H) (by decide) ?_ fun p H' ws s1 h1 r1=>k p H' ws s1 h1 ?_
  ·match ks,hk with | [],_=>rfl
  ·rw [right_plain rfl];exact r1
 case name x =>
  have hk:ks.length=0:=by simpa [arOk] using ar
  unfold encH at hv
  obtain ⟨a,vs,rfl,hS,hr0⟩:=hv.inv_t
  obtain ⟨v0,q0,rfl,e0,hr1⟩:=hr0.inv
  obtain rfl:=e0.inv_s
  refine ⟨_,rfl,a,_,0,_,rfl,rfl,hS,at0 _ _,?_⟩
  refine ⟨_,rfl,rfl,_,rfl,ifF (by decide +kernel) ?_⟩
  refine ⟨_,rfl,rfl,_,rfl,ifF (by decide +kernel) ?_⟩
  refine ⟨_,rfl,rfl,_,rfl,ifF (by decide +kernel) ?_⟩
  refine ⟨_,rfl,_,dM,_,rfl,rfl,TB.kM,_,rfl,ifF (by decide +kernel) ?_⟩
  obtain ⟨pa,lk,hpa⟩:=TB.at_ "name" [] (by decide +kernel)
  refine ⟨_,rfl,dP,_,_,_,rfl,rfl,TB.kP,lk,pa,rfl,⟨_,hpa H⟩,?_⟩
  refine comp_places (ps:=[]) (ks:=ks.map enc) hS hr0 (hpa H) (by decide) ?_ fun p H' ws s1 h1 r1=>k p H' ws s1 h1 ?_
  ·match ks,hk with | [],_=>rfl
  ·rw [right_plain rfl];exact r1
 case gap n =>
  have hk:ks.length=0:=by simpa [arOk] using ar
  unfold encH at hv
  obtain ⟨a,vs,rfl,hS,hr0⟩:=hv.inv_t
  obtain ⟨v0,q0,rfl,e0,hr1⟩:=hr0.inv
  obtain rfl:=e0.inv_s
  refine ⟨_,rfl,a,_,0,_,rfl,rfl,hS,at0 _ _,?_⟩
  refine ⟨_,rfl,rfl,_,rfl,ifF (by decide +kernel) ?_⟩
  refine ⟨_,rfl,rfl,_,rfl,ifF (by decide +kernel) ?_⟩
  refine ⟨_,rfl,rfl,_,rfl,ifF (by decide +kernel) ?_⟩
  refine ⟨_,rfl,_,dM,_,rfl,rfl,TB.kM,_,rfl,ifF (by decide +kernel) ?_⟩
  obtain ⟨pa,lk,hpa⟩:=TB.at_ "gap" [] (by decide +kernel)
  refine ⟨_,rfl,dP,_,_,_,rfl,rfl,TB.kP,lk,pa,rfl,⟨_,hpa H⟩,?_⟩
  refine comp_places (ps:=[]) (ks:=ks.map enc) hS hr0 (hpa H) (by decide) ?_ fun p H' ws s1 h1 r1=>k p H' ws s1 h1 ?_
  ·match ks,hk with | [],_=>rfl
  ·rw [right_plain rfl];exact r1
 case op s =>
  have hk:ks.length=2:=by simpa [arOk] using ar
  unfold encH at hv
  obtain ⟨a,vs,rfl,hS,hr0⟩:=hv.inv_t
  obtain ⟨v0,q0,rfl,e0,hr1⟩:=hr0.inv
  obtain rfl:=e0.inv_s
  refine ⟨_,rfl,a,_,0,_,rfl,rfl,hS,at0 _ _,?_⟩
  refine ⟨_,rfl,rfl,_,rfl,ifF (by decide +kernel) ?_⟩
  refine ⟨_,rfl,rfl,_,rfl,ifF (by decide +kernel) ?_⟩
  refine ⟨_,rfl,rfl,_,rfl,ifF (by decide +kernel) ?_⟩
  refine ⟨_,rfl,_,dM,_,rfl,rfl,TB.kM,_,rfl,ifF (by decide +kernel) ?_⟩
  obtain ⟨pa,lk,hpa⟩:=TB.at_ "op" [2,3] (by decide +kernel)
  refine ⟨_,rfl,dP,_,_,_,rfl,rfl,TB.kP,lk,pa,rfl,⟨_,hpa H⟩,?_⟩
  refine comp_places (ps:=[2,3]) (ks:=ks.map enc) hS hr0 (hpa H) (by decide) ?_ fun p H' ws s1 h1 r1=>k p H' ws s1 h1 ?_
  ·match ks,hk with | [k0,k1],_=>rfl
  ·rw [right_plain rfl];exact r1
 case more =>
  have hk:ks.length=2:=by simpa [arOk] using ar
  unfold encH at hv
  obtain ⟨a,vs,rfl,hS,hr0⟩:=hv.inv_t
  obtain ⟨v0,q0,rfl,e0,hr1⟩:=hr0.inv
  obtain rfl:=e0.inv_s
  refine ⟨_,rfl,a,_,0,_,rfl,rfl,hS,at0 _ _,?_⟩
  refine ⟨_,rfl,rfl,_,rfl,ifF (by decide +kernel) ?_⟩
  refine ⟨_,rfl,rfl,_,rfl,ifF (by decide +kernel) ?_⟩
  refine ⟨_,rfl,rfl,_,rfl,ifF (by decide +kernel) ?_⟩
  refine ⟨_,rfl,_,dM,_,rfl,rfl,TB.kM,_,rfl,ifF (by decide +kernel) ?_⟩
  obtain ⟨pa,lk,hpa⟩:=TB.at_ "more" [1,2] (by decide +kernel)
  refine ⟨_,rfl,dP,_,_,_,rfl,rfl,TB.kP,lk,pa,rfl,⟨_,hpa H⟩,?_⟩
  refine comp_places (ps:=[1,2]) (ks:=ks.map enc) hS hr0 (hpa H) (by decide) ?_ fun p H' ws s1 h1 r1=>k p H' ws s1 h1 ?_
  ·match ks,hk with | [k0,k1],_=>rfl
  ·rw [right_plain rfl];exact r1
 case first =>
  have hk:ks.length=1:=by simpa [arOk] using ar
  unfold encH at hv
  obtain ⟨a,vs,rfl,hS,hr0⟩:=hv.inv_t
  obtain ⟨v0,q0,rfl,e0,hr1⟩:=hr0.inv
  obtain rfl:=e0.inv_s
  refine ⟨_,rfl,a,_,0,_,rfl,rfl,hS,at0 _ _,?_⟩
  refine ⟨_,rfl,rfl,_,rfl,ifF (by decide +kernel) ?_⟩
  refine ⟨_,rfl,rfl,_,rfl,ifF (by decide +kernel) ?_⟩
  refine ⟨_,rfl,rfl,_,rfl,ifF (by decide +kernel) ?_⟩
  refine ⟨_,rfl,_,dM,_,rfl,rfl,TB.kM,_,rfl,ifF (by decide +kernel) ?_⟩
  obtain ⟨pa,lk,hpa⟩:=TB.at_ "first" [1] (by decide +kernel)
  refine ⟨_,rfl,dP,_,_,_,rfl,rfl,TB.kP,lk,pa,rfl,⟨_,hpa H⟩,?_⟩
  refine comp_places (ps:=[1]) (ks:=ks.map enc) hS hr0 (hpa H) (by decide) ?_ fun p H' ws s1 h1 r1=>k p H' ws s1 h1 ?_
  ·match ks,hk with | [k0],_=>rfl
  ·rw [right_plain rfl];exact r1
 case others =>
  have hk:ks.length=1:=by simpa [arOk] using ar
  unfold encH at hv
  obtain ⟨a,vs,rfl,hS,hr0⟩:=hv.inv_t
  obtain ⟨v0,q0,rfl,e0,hr1⟩:=hr0.inv
  obtain rfl:=e0.inv_s
  refine ⟨_,rfl,a,_,0,_,rfl,rfl,hS,at0 _ _,?_⟩
  refine ⟨_,rfl,rfl,_,rfl,ifF (by decide +kernel) ?_⟩
  refine ⟨_,rfl,rfl,_,rfl,ifF (by decide +kernel) ?_⟩
  refine ⟨_,rfl,rfl,_,rfl,ifF (by decide +kernel) ?_⟩
  refine ⟨_,rfl,_,dM,_,rfl,rfl,TB.kM,_,rfl,ifF (by decide +kernel) ?_⟩
  obtain ⟨pa,lk,hpa⟩:=TB.at_ "others" [1] (by decide +kernel)
  refine ⟨_,rfl,dP,_,_,_,rfl,rfl,TB.kP,lk,pa,rfl,⟨_,hpa H⟩,?_⟩
  refine comp_places (ps:=[1]) (ks:=ks.map enc) hS hr0 (hpa H) (by decide) ?_ fun p H' ws s1 h1 r1=>k p H' ws s1 h1 ?_
  ·match ks,hk with | [k0],_=>rfl
  ·rw [right_plain rfl];exact r1
 case long =>
  have hk:ks.length=1:=by simpa [arOk] using ar
  unfold encH at hv
  obtain ⟨a,vs,rfl,hS,hr0⟩:=hv.inv_t
  obtain ⟨v0,q0,rfl,e0,hr1⟩:=hr0.inv
  obtain rfl:=e0.inv_s
  refine ⟨_,rfl,a,_,0,_,rfl,rfl,hS,at0 _ _,?_⟩
  refine ⟨_,rfl,rfl,_,rfl,ifF (by decide +kernel) ?_⟩
  refine ⟨_,rfl,rfl,_,rfl,ifF (by decide +kernel) ?_⟩
  refine ⟨_,rfl,rfl,_,rfl,ifF (by decide +kernel) ?_⟩
  refine ⟨_,rfl,_,dM,_,rfl,rfl,TB.kM,_,rfl,ifF (by decide +kernel) ?_⟩
  obtain ⟨pa,lk,hpa⟩:=TB.at_ "long" [1] (by decide +kernel)
  refine ⟨_,rfl,dP,_,_,_,rfl,rfl,TB.kP,lk,pa,rfl,⟨_,hpa H⟩,?_⟩
  refine comp_places (ps:=[1]) (ks:=ks.map enc) hS hr0 (hpa H) (by decide) ?_ fun p H' ws s1 h1 r1=>k p H' ws s1 h1 ?_
  ·match ks,hk with | [k0],_=>rfl
  ·rw [right_plain rfl];exact r1
 case ife =>
  have hk:ks.length=3:=by simpa [arOk] using ar
  unfold encH at hv
  obtain ⟨a,vs,rfl,hS,hr0⟩:=hv.inv_t
  obtain ⟨v0,q0,rfl,e0,hr1⟩:=hr0.inv
  obtain rfl:=e0.inv_s
  refine ⟨_,rfl,a,_,0,_,rfl,rfl,hS,at0 _ _,?_⟩
  refine ⟨_,rfl,rfl,_,rfl,ifF (by decide +kernel) ?_⟩
  refine ⟨_,rfl,rfl,_,rfl,ifF (by decide +kernel) ?_⟩
  refine ⟨_,rfl,rfl,_,rfl,ifF (by decide +kernel) ?_⟩
  refine ⟨_,rfl,_,dM,_,rfl,rfl,TB.kM,_,rfl,ifF (by decide +kernel) ?_⟩
  obtain ⟨pa,lk,hpa⟩:=TB.at_ "if" [1,2,3] (by decide +kernel)
  refine ⟨_,rfl,dP,_,_,_,rfl,rfl,TB.kP,lk,pa,rfl,⟨_,hpa H⟩,?_⟩
  refine comp_places (ps:=[1,2,3]) (ks:=ks.map enc) hS hr0 (hpa H) (by decide) ?_ fun p H' ws s1 h1 r1=>k p H' ws s1 h1 ?_
  ·match ks,hk with | [k0,k1,k2],_=>rfl
  ·rw [right_plain rfl];exact r1
 case row =>
  unfold encH at hv
  obtain ⟨a,vs,rfl,hS,hr0⟩:=hv.inv_t
  obtain ⟨v0,q0,rfl,e0,hr1⟩:=hr0.inv
  obtain rfl:=e0.inv_s
  obtain ⟨vk,qk,rfl,ek,hrk⟩:=hr1.inv
  obtain rfl:=hrk.inv0
  obtain ⟨b,us,rfl,hSb,hrb⟩:=ek.inv_t
  refine ⟨_,rfl,a,_,0,_,rfl,rfl,hS,at0 _ _,?_⟩
  refine ⟨_,rfl,rfl,_,rfl,ifF (by decide +kernel) ?_⟩
  refine ⟨_,rfl,rfl,_,rfl,ifF (by decide +kernel) ?_⟩
  refine ⟨_,rfl,rfl,_,rfl,ifF (by decide +kernel) ?_⟩
  refine ⟨_,rfl,_,dM,_,rfl,rfl,TB.kM,_,rfl,ifT (by decide +kernel) ?_⟩
  refine ⟨_,rfl,_,rfl,dM,_,_,_,rfl,rfl,TB.kM,rfl,a,_,1,_,rfl,rfl,hS,rfl,b,rfl,⟨_,hSb⟩,?_⟩
  refine comp_many (ks:=ks.map enc) hSb hrb (by omega) fun p H' ws s1 h1 r1=>k p H' ws s1 h1 ?_
  rw [right_plain rfl];exact r1
 case tag t =>
  unfold encH at hv
  obtain ⟨a,vs,rfl,hS,hr0⟩:=hv.inv_t
  obtain ⟨v0,q0,rfl,e0,hr1⟩:=hr0.inv
  obtain rfl:=e0.inv_s
  obtain ⟨v1,q1,rfl,e1,hr2⟩:=hr1.inv
  obtain ⟨vk,qk,rfl,ek,hrk⟩:=hr2.inv
  obtain rfl:=hrk.inv0
  obtain ⟨b,us,rfl,hSb,hrb⟩:=ek.inv_t
  refine ⟨_,rfl,a,_,0,_,rfl,rfl,hS,at0 _ _,?_⟩
  refine ⟨_,rfl,rfl,_,rfl,ifF (by decide +kernel) ?_⟩
  refine ⟨_,rfl,rfl,_,rfl,ifF (by decide +kernel) ?_⟩
  refine ⟨_,rfl,rfl,_,rfl,ifF (by decide +kernel) ?_⟩
  refine ⟨_,rfl,_,dM,_,rfl,rfl,TB.kM,_,rfl,ifT (by decide +kernel) ?_⟩
  refine ⟨_,rfl,_,rfl,dM,_,_,_,rfl,rfl,TB.kM,rfl,a,_,2,_,rfl,rfl,hS,rfl,b,rfl,⟨_,hSb⟩,?_⟩
  refine comp_many (ks:=ks.map enc) hSb hrb (by omega) fun p H' ws s1 h1 r1=>k p H' ws s1 h1 ?_
  rw [right_plain rfl];exact r1
 case call f =>
  unfold encH at hv
  obtain ⟨a,vs,rfl,hS,hr0⟩:=hv.inv_t
  obtain ⟨v0,q0,rfl,e0,hr1⟩:=hr0.inv
  obtain rfl:=e0.inv_s
  obtain ⟨v1,q1,rfl,e1,hr2⟩:=hr1.inv
  obtain ⟨vk,qk,rfl,ek,hrk⟩:=hr2.inv
  obtain rfl:=hrk.inv0
  obtain ⟨b,us,rfl,hSb,hrb⟩:=ek.inv_t
  refine ⟨_,rfl,a,_,0,_,rfl,rfl,hS,at0 _ _,?_⟩
  refine ⟨_,rfl,rfl,_,rfl,ifF (by decide +kernel) ?_⟩
  refine ⟨_,rfl,rfl,_,rfl,ifF (by decide +kernel) ?_⟩
  refine ⟨_,rfl,rfl,_,rfl,ifF (by decide +kernel) ?_⟩
  refine ⟨_,rfl,_,dM,_,rfl,rfl,TB.kM,_,rfl,ifT (by decide +kernel) ?_⟩
  refine ⟨_,rfl,_,rfl,dM,_,_,_,rfl,rfl,TB.kM,rfl,a,_,2,_,rfl,rfl,hS,rfl,b,rfl,⟨_,hSb⟩,?_⟩
  refine comp_many (ks:=ks.map enc) hSb hrb (by omega) fun p H' ws s1 h1 r1=>k p H' ws s1 h1 ?_
  rw [right_plain rfl];exact r1
 case mat arms =>
  have hk:ks.length=arms.length + 1:=by simpa [arOk] using ar
  match ks,hk with
  | k0::kr,hk =>
  have hkr:arms.length=kr.length:=by simpa using hk.symm
  unfold encH at hv
  obtain ⟨a,vs,rfl,hS,hr0⟩:=hv.inv_t
  obtain ⟨v0,q0,rfl,e0,hr1⟩:=hr0.inv
  obtain rfl:=e0.inv_s
  obtain ⟨v1,q1,rfl,e1,hr2⟩:=hr1.inv
  obtain ⟨v2,q2,rfl,e2,hr3⟩:=hr2.inv
  obtain rfl:=hr3.inv0
  obtain ⟨b,us,rfl,hSb,hrb⟩:=e2.inv_t
  refine ⟨_,rfl,a,_,0,_,rfl,rfl,hS,at0 _ _,?_⟩
  refine ⟨_,rfl,rfl,_,rfl,ifT (by decide +kernel) ?_⟩
  refine ⟨Nat.zero_le _,fun p1 hp1=>?_⟩
  have s1:=same_new hp1 (.tup [])
  refine ⟨_,rfl,a,_,1,_,rfl,rfl,hS.same s1,rfl,(by show 2<=sizeLine;decide),fun p2 hp2=>?_⟩
  have s2:=s1.trans (same_new hp2 (.tup [.ref p1,v1]))
  refine ⟨(by show 1<=sizeLine;decide),fun p3 hp3=>?_⟩
  have s3:=s2.trans (same_new hp3 (.lst [.ref p2]))
  refine ⟨_,rfl,a,_,2,_,rfl,rfl,hS.same s3,rfl,b,rfl,⟨_,hSb.same s3⟩,?_⟩
  refine comp_arms (arms:=arms) (ks:=kr.map enc) (by rw [List.length_map];exact hkr) (hSb.same s3) (by exact hrb.same s3) (by rw [List.length_map];have:=hlen';simp at this;omega) fun p H' ws s4 h4 r4=>?_
  have z3:H' p3=some (.lst [.ref p2]):=s4 _ _ upd_same
  refine ⟨p3,p,_,_,rfl,rfl,z3,h4,?_,fun p5 hp5=>?_⟩
  ·have l:=r4.length
   rw [List.length_zipWith,List.length_map] at l
   rw [l]
   exact small (by have:=hlen';simp at this;show 1 + _<=1000;omega)
  have s5:=s4.trans (same_new hp5 (.lst ([.ref p2]++ws)))
  refine k p5 _ _ (s3.trans s5) upd_same ?_
  have e:(right (.mk (.mat arms) (k0::kr))).map pairT=T.t [.t [],enc k0]::List.zipWith (fun (a:Str × List Str) k=>T.t [.t (a.2.map .s),k]) arms (kr.map enc):=by
   unfold right
   show ((([]:List Str)::arms.map (·.2)).zip (k0::kr)).map pairT=_
   rw [List.zip_cons_cons,List.map_cons]
   rw [zip_arms arms kr hkr]
   rfl
  rw [e]
  refine .cons ?_ (r4.same (same_new hp5 _))
  refine Rp.same ((same_new hp3 _).trans s5) (Rp.new hp2 (.cons (Rp.new hp1 .nil) (.one (e1.same s1))))
 case lt x =>
  have hk:ks.length=2:=by simpa [arOk] using ar
  match ks,hk with
  | [k0,k1],hk =>
  unfold encH at hv
  obtain ⟨a,vs,rfl,hS,hr0⟩:=hv.inv_t
  obtain ⟨v0,q0,rfl,e0,hr1⟩:=hr0.inv
  obtain rfl:=e0.inv_s
  obtain ⟨v1,q1,rfl,e1,hr2⟩:=hr1.inv
  obtain ⟨v2,q2,rfl,e2,hr3⟩:=Rps.inv hr2
  obtain ⟨v3,q3,rfl,e3,hr4⟩:=Rps.inv hr3
  obtain rfl:=hr4.inv0
  refine ⟨_,rfl,a,_,0,_,rfl,rfl,hS,at0 _ _,?_⟩
  refine ⟨_,rfl,rfl,_,rfl,ifF (by decide +kernel) ?_⟩
  refine ⟨_,rfl,rfl,_,rfl,ifT (by decide +kernel) ?_⟩
  refine ⟨Nat.zero_le _,fun p1 hp1=>?_⟩
  have s1:=same_new hp1 (.tup [])
  refine ⟨_,rfl,a,_,2,_,rfl,rfl,hS.same s1,rfl,(by show 2<=sizeLine;decide),fun p2 hp2=>?_⟩
  have s2:=s1.trans (same_new hp2 (.tup [.ref p1,v2]))
  refine ⟨_,rfl,a,_,1,_,rfl,rfl,hS.same s2,rfl,(by show 1<=sizeLine;decide),fun p3 hp3=>?_⟩
  have s3:=s2.trans (same_new hp3 (.tup [v1]))
  refine ⟨_,rfl,a,_,3,_,rfl,rfl,hS.same s3,rfl,(by show 2<=sizeLine;decide),fun p4 hp4=>?_⟩
  have s4:=s3.trans (same_new hp4 (.tup [.ref p3,v3]))
  refine ⟨(by show 2<=sizeLine;decide),fun p5 hp5=>?_⟩
  have s5:=s4.trans (same_new hp5 (.lst [.ref p2,.ref p4]))
  refine k p5 _ _ s5 upd_same ?_
  refine .cons (Rp.same ((same_new hp3 _).trans ((same_new hp4 _).trans (same_new hp5 _))) (Rp.new hp2 (.cons (Rp.new hp1 .nil) (.one (e2.same s1))))) (.one ?_)
  exact Rp.same (same_new hp5 _) (Rp.new hp4 (.cons (Rp.new hp3 (.one (e1.same s2))) (.one (e3.same s3))))
 case fold x y =>
  have hk:ks.length=3:=by simpa [arOk] using ar
  match ks,hk with
  | [k0,k1,k2],hk =>
  unfold encH at hv
  obtain ⟨a,vs,rfl,hS,hr0⟩:=hv.inv_t
  obtain ⟨v0,q0,rfl,e0,hr1⟩:=hr0.inv
  obtain rfl:=e0.inv_s
  obtain ⟨v1,q1,rfl,e1,hr2⟩:=hr1.inv
  obtain ⟨v2,q2,rfl,e2,hr3⟩:=hr2.inv
  obtain ⟨v3,q3,rfl,e3,hr4⟩:=hr3.inv
  obtain ⟨v4,q4,rfl,e4,hr5⟩:=hr4.inv
  obtain ⟨v5,q5,rfl,e5,hr6⟩:=hr5.inv
  obtain rfl:=hr6.inv0
  refine ⟨_,rfl,a,_,0,_,rfl,rfl,hS,at0 _ _,?_⟩
  refine ⟨_,rfl,rfl,_,rfl,ifF (by decide +kernel) ?_⟩
  refine ⟨_,rfl,rfl,_,rfl,ifF (by decide +kernel) ?_⟩
  refine ⟨_,rfl,rfl,_,rfl,ifT (by decide +kernel) ?_⟩
  refine ⟨Nat.zero_le _,fun p1 hp1=>?_⟩
  have s1:=same_new hp1 (.tup [])
  refine ⟨_,rfl,a,_,1,_,rfl,rfl,hS.same s1,rfl,(by show 2<=sizeLine;decide),fun p2 hp2=>?_⟩
  have s2:=s1.trans (same_new hp2 (.tup [.ref p1,v1]))
  refine ⟨Nat.zero_le _,fun p3 hp3=>?_⟩
  have s3:=s2.trans (same_new hp3 (.tup []))
  refine ⟨_,rfl,a,_,4,_,rfl,rfl,hS.same s3,rfl,(by show 2<=sizeLine;decide),fun p4 hp4=>?_⟩
  have s4:=s3.trans (same_new hp4 (.tup [.ref p3,v4]))
  refine ⟨_,rfl,a,_,2,_,rfl,rfl,hS.same s4,rfl,_,rfl,a,_,3,_,rfl,rfl,hS.same s4,rfl,(by show 2<=sizeLine;decide),fun p5 hp5=>?_⟩
  have s5:=s4.trans (same_new hp5 (.tup [v2,v3]))
  refine ⟨_,rfl,a,_,5,_,rfl,rfl,hS.same s5,rfl,(by show 2<=sizeLine;decide),fun p6 hp6=>?_⟩
  have s6:=s5.trans (same_new hp6 (.tup [.ref p5,v5]))
  refine ⟨(by show 3<=sizeLine;decide),fun p7 hp7=>?_⟩
  have s7:=s6.trans (same_new hp7 (.lst [.ref p2,.ref p4,.ref p6]))
  refine k p7 _ _ s7 upd_same ?_
  have s67:=(same_new hp6 (.tup [.ref p5,v5])).trans (same_new hp7 (.lst [.ref p2,.ref p4,.ref p6]))
  have s57:=(same_new hp5 (.tup [v2,v3])).trans s67
  have s37:=(same_new hp3 (.tup [])).trans ((same_new hp4 (.tup [.ref p3,v4])).trans s57)
  refine .cons (Rp.same s37 (Rp.new hp2 (.cons (Rp.new hp1 .nil) (.one (e1.same s1))))) (.cons (Rp.same s57 (Rp.new hp4 (.cons (Rp.new hp3 .nil) (.one (e4.same s3))))) (.one ?_))
  exact Rp.same (same_new hp7 _) (Rp.new hp6 (.cons (Rp.new hp5 (.cons (e2.same s4) (.one (e3.same s4)))) (.one (e5.same s5))))
end
end G28
namespace G28
open PySem L2
theorem right_snd (tm:Tm)(wf:Wf tm):(right tm).map (·.2)=tm.ks:=by
 cases wf with
 | mk ar wk =>
 rename_i h ks
 show (((bnd h ks.length).zip ks).map Prod.snd)=ks
 refine List.map_snd_zip ?_
 cases h <;> simp_all [bnd,arOk]
theorem right_len (tm:Tm)(wf:Wf tm):(right tm).length=tm.ks.length:=by
 have z:=congrArg List.length (right_snd tm wf)
 rwa [List.length_map] at z
theorem ks_le (tm:Tm):tm.ks.length < tm.size:=by
 cases tm with
 | mk h ks =>
  rw [Tm.size_mk]
  show ks.length < _
  have:ks.length<=Tm.sizes ks:=by
   induction ks with
   | nil=>exact Nat.le_refl _
   | cons k r ih=>rw [Tm.sizes_cons,List.length_cons];have:=Tm.size_pos k;omega
  omega
def spInner (K:PySem.W.Frag):Sp:=fun vs H Q _=>∃ (v:V) (tm:Tm),vs=[v]/\Rp K H (enc tm) v/\Wf tm/\tm.size<=900 /\
 ∀ (p:Addr) (H':Hp) (ws:List V),Same H H'->H p=none->H' p=some (.lst ws)->Rps K H' (tm.ks.map enc) ws->Q (.ref p) H'
section
variable {P : Program} {w : World} {K : PySem.W.Frag} {mg : Str → Option Value} {base : Heap} {gR : Addr} {rfd : FuncData}
theorem scInner:FnScope ["term"] ["term"] (defScope s_inner_terms):=⟨rfl,rfl,rfl,by decide +kernel,rfl,by decide +kernel,by decide +kernel⟩
theorem ok_inner {f:Addr}{fd:FuncData}(F:Fun K "inner_terms" "inner_terms" s_inner_terms f fd)(RI:Has P w K mg base "right_in" 1 ["term"] (spRightIn K) gR rfd):FnOk P w K mg base CX0 2 f fd ["term"] (spInner K):=by
 refine F.ok scInner (fun vs H Q E h=>?_) (fun cdv A outer s H vs Q E hr h=>?_)
 ·obtain ⟨v,tm,rfl,_⟩:=h
  rfl
 obtain ⟨v,tm,rfl,hv,wf,hlen,k⟩:=h
 refine ⟨_,(pss_one (ps_ret (pe_compC (defScope s_inner_terms) ["term"] ["names","inner"] [] rfl rfl rfl (by decide +kernel) (pi_list (pe_call RI.ok (hr.mono (by omega)) rfl RI.at' RI.kp RI.bd .nil pass0 (pa_cons (pv 0) pa_nil))) (fun _ _ _ _=>(pg_tupK (n:=2) K rfl rfl (pgs_cons (pg_name (i:=0) (show (["names","inner"]:List Str).Nodup by decide +kernel) rfl (Or.inl rfl)) (pgs_cons (pg_name (i:=1) (show (["names","inner"]:List Str).Nodup by decide +kernel) rfl (Or.inl rfl)) pgs_nil)))) (fun _ _ _ _=>pifs_nil) (fun _ _ _ _=>(pv 1))))),?_⟩
 have hk:=ks_le tm
 refine ⟨_,rfl,v,tm,rfl,hv,wf,by omega,fun p H5 vs5 s5 h5 r5=>?_⟩
 refine ⟨p,rfl,⟨_,SqL.of h5⟩,?_⟩
 refine comp_inner h5 r5 (by rw [right_len tm wf];omega) fun p6 ws6 hp6 r6=>?_
 have e6:(right tm).map (fun p=>enc p.2)=tm.ks.map enc:=by rw [←right_snd tm wf,List.map_map];rfl
 rw [e6] at r6
 exact k p6 _ ws6 (s5.trans (same_new hp6 _)) (s5.free hp6) upd_same (r6.same (same_new hp6 _))
end
end G28
namespace L2
open PySem
theorem putF_lt' {f:Str}{v:V}{n:Nat}(k:Nat):∀ {fs:List (Str × V)},fs.length + (k + 1) < n->(putF f v fs).length + k < n
 | [],h=>by show 1 + k < n;simp at h;omega
 | (g,x)::r,h=>by
  unfold putF
  split
  ·rw [List.length_cons] at h ⊢;omega
  ·rw [List.length_cons] at h ⊢
   have:=putF_lt' (f:=f) (v:=v) (n:=n) (k + 1) (fs:=r) (by omega)
   omega
theorem putF_lt0 {f:Str}{v:V}{n:Nat}{fs:List (Str × V)}(h:fs.length + 1 < n):(putF f v fs).length < n:=putF_lt' 0 h
end L2
open L2 in
local macro_rules | `(tactic| fail "Z") => `(tactic| first | exact SqL.of (by assumption) | exact SqT.of (by assumption) | exact SqL.of upd_same | exact SqT.of upd_same | omega | (dsimp only [List.length_cons, List.length_nil]; decide) | decide | exact Nat.zero_le _ | exact putF_lt0 (by decide) | exact putF_lt0 (putF_lt' _ (by decide)) | exact putF_lt0 (putF_lt' _ (putF_lt' _ (by decide))) | exact putF_lt0 (putF_lt' _ (putF_lt' _ (putF_lt' _ (by decide)))) | exact putF_lt0 (putF_lt' _ (putF_lt' _ (putF_lt' _ (putF_lt' _ (by decide))))) | exact putF_lt0 (putF_lt' _ (putF_lt' _ (putF_lt' _ (putF_lt' _ (putF_lt' _ (by decide)))))))
local macro_rules | `(tactic| fail "W") => `(tactic| first
  | (change @Eq _ _ _; fail "S") | (change And _ _; fail "S") | (change Or _ _; fail "S") | (change Exists _; fail "S") | (change True; exact True.intro))
open L2 in
local macro_rules | `(tactic| fail "S") => `(tactic| first
  | ((with_reducible change @Eq _ _ _); (first | exact rfl | assumption | exact upd_same | (rw [upd_ne (by assumption)]; first | exact upd_same | assumption) | (rw [upd_ne (by assumption), upd_ne (by assumption)]; first | exact upd_same | assumption) | omega))
  | ((with_reducible change @LT.lt _ _ _ _); (first | omega | with_reducible assumption | fail "Z"))
  | ((with_reducible change @LE.le _ _ _ _); (first | omega | with_reducible assumption | fail "Z"))
  | assumption
  | ((with_reducible refine And.intro ?_ ?_) <;> fail "S")
  | ((with_reducible change Or _ _); (first | (refine Or.inl ?_; fail "S") | (refine Or.inr ?_; fail "S")))
  | ((with_reducible change Exists _); apply Exists.intro; fail "S")
  | ((with_reducible first | change L2.tyV _ _ _ _ | change L2.TruV _ _ _ _ | change CDiv _ _ | change CMul _ _ | change CPow _ _); fail "W")
  | fail "Z")
open L2 in
local macro_rules | `(tactic| fail "R") => `(tactic| first
  | (change Exists _; first
     | ((with_reducible first | apply @Exists.intro Hp | apply @Exists.intro Sp); fail "R")
     | ((fail_if_success (with_reducible apply @Exists.intro (_ → _))); apply Exists.intro; fail "R"))
  | (change And _ _; refine And.intro ?_ ?_; first | (fail "S"; fail "R") | skip)
  | (change @ite _ _ _ _ _)
  | skip)
local macro_rules | `(tactic| fail "F") => `(tactic| first
  | ((with_reducible change Exists _); apply Exists.intro; fail "F")
  | ((with_reducible refine And.intro ?_ ?_); fail "S"))
open L2 in
local macro_rules | `(tactic| fail "O") => `(tactic| first
  | (change Exists _; first
     | ((with_reducible first | apply @Exists.intro Hp | apply @Exists.intro Sp); fail "O")
     | ((fail_if_success (with_reducible apply @Exists.intro (_ → _))); apply Exists.intro; fail "O"))
  | (change And _ _; refine And.intro ?_ ?_; first | (fail "S"; fail "O") | skip)
  | (change Or _ _; first | (refine Or.inl ?_; fail "F"; fail "O") | (refine Or.inr ?_; fail "F"; fail "O") | skip)
  | (change @ite _ _ _ _ _)
  | skip)
local macro_rules | `(tactic| fail "1") => `(tactic| first
  | (change Exists _; apply Exists.intro)
  | (change And _ _; refine And.intro ?_ ?_; fail "S"))
namespace L2
open PySem PySem.Spec PyProof.Rows
section
variable {prog : Program} {w : World} {A : Around} {E : Value → Shared → Prop} {s : Shared}
end
section
variable {prog : Program} {w : World} {A : Around} {R : Result → Shared → Prop} {s : Shared}
end
section
variable {prog : Program} {w : World} {A : Around} {E : Value → Shared → Prop} {s : Shared}
end
end L2
namespace L2
open PySem PySem.Spec PyProof.Rows
theorem tup_isType:isType (.type "tuple")=pure true:=rfl
theorem tup_isSub:isSubtype (.type "tuple") (.type "tuple")=pure true:=by kernel_rfl
theorem tup_made:Bind.madeHere "tuple.__new__" (.type "tuple")=pure ():=by kernel_rfl
theorem tup_init:typeLookup (.type "tuple") (Str.ofString "__init__")=pure (some (.builtin "object.__init__")):=by rw [typeLookup_type,builtinLookup_eq_fast];kernel_rfl
theorem tup_noNew:((Manifest.find? "tuple").elim false fun x=>x.noNew)=false:=by kernel_rfl
section
variable {prog : Program} {w : World} {A : Around} {E : Value → Shared → Prop} {s : Shared}
end
section
variable {X : Cx} {a b : Expr} {t : TA} {p1 p2 p3 p4 : Pos}
theorem min_end {α:Type}{xs ys:List α}:xs[min xs.length ys.length]?=none\/ys[min xs.length ys.length]?=none:=by
 rcases Nat.le_total xs.length ys.length with h | h
 ·left;rw [Nat.min_eq_left h];exact List.getElem?_eq_none (Nat.le_refl _)
 ·right;rw [Nat.min_eq_right h];exact List.getElem?_eq_none (Nat.le_refl _)
def ZOut (xs ys:List V)(ts:List Addr)(H H':Hp):Prop:=Same H H'/\ts.length=min xs.length ys.length/\∀ (j:Nat) (u:Nat),ts[j]?=some u->∃ x y,xs[j]?=some x/\ys[j]?=some y/\H' u=some (.tup [x,y])
theorem zip_lay {pins:List (Addr × Obj)}{σ:St}{H1:Hp}{s1:Shared}{h':Heap}{tk lo:Nat}{xs ys:List V}{its jts:List Value}{as:List Nat}{S:Nat}{o:HO}(I1:Inv X pins σ H1 s1)(rv:Vals xs its)(rw':Vals ys jts)
  (hlo:s1.heap.objs.size<=lo) (hk:∀ b o,s1.heap.get? b=some o->h'.get? b=some o) (hal:as.length=min xs.length ys.length) (hG:ZTold h' lo its.toArray jts.toArray as) (hSn:s1.heap.objs.size<=S) (hSa:S ∉ as)
  (hS:ObjOk X.prog X.w (upd (layT as xs ys H1) S o) h' S o):Inv X pins σ (upd (layT as xs ys H1) S o) { s1 with heap:=h',toks:=tk }/\ZOut xs ys as H1 (upd (layT as xs ys H1) S o)/\H1 S=none:=by
 have low:∀ u∈as,lo<=u:=hG.low
 have hS5:∀ u∈as,u≠S:=fun u hu z=>hSa (z ▸ hu)
 have old:∀ c,c < s1.heap.objs.size->upd (layT as xs ys H1) S o c=H1 c:=fun c hc=>by
  rw [upd_ne (Nat.ne_of_lt (Nat.lt_of_lt_of_le hc hSn))]
  exact layT_out as xs ys fun hm=>absurd (Nat.lt_of_lt_of_le hc (Nat.le_trans hlo (low c hm))) (Nat.lt_irrefl _)
 have tups:∀ (j:Nat) (u:Nat),as[j]?=some u->∃ x y,xs[j]?=some x/\ys[j]?=some y/\upd (layT as xs ys H1) S o u=some (.tup [x,y]):=fun j u hj=>by
  have hj0:=(List.getElem?_eq_some_iff.mp hj).1
  have hjl:j < xs.length:=by omega
  have hjl2:j < ys.length:=by omega
  have hx:xs[j]?=some xs[j]:=List.getElem?_eq_getElem hjl
  have hy:ys[j]?=some ys[j]:=List.getElem?_eq_getElem hjl2
  refine ⟨_,_,hx,hy,?_⟩
  rw [upd_ne (hS5 u (List.mem_of_getElem? hj))]
  exact layT_in as xs ys hG.rise j u _ _ hj hx hy
 refine ⟨I1.grow (t':=tk) hk old (fun c o' hc e=>?_),⟨fun c o e=>by rw [old c (I1.hok.lt e)];exact e,hal,tups⟩,I1.hok.fresh hSn⟩
 by_cases hcS:c=S
 ·subst hcS
  rw [upd_same] at e
  cases e
  exact hS
 ·rw [upd_ne hcS] at e
  rcases layT_some as xs ys e with z | ⟨j,x,y,f1,f2,f3,rfl⟩
  ·exact absurd (I1.hok.lt z) (Nat.not_lt.mpr hc)
  ·obtain ⟨vx,vy,g1,g2,g3⟩:=hG.pairs j c f1
   obtain ⟨ux,k1,k2⟩:=rv.get f2
   obtain ⟨uy,k3,k4⟩:=rw'.get f3
   have g1':its[j]?=some vx:=by simpa using g1
   have g2':jts[j]?=some vy:=by simpa using g2
   rw [k1] at g1'
   rw [k3] at g2'
   cases g1'
   cases g2'
   exact ⟨(by show 2<=sizeLine;decide),_,.cons k2 (.cons k4 .nil),⟨_,g3,rfl,_,rfl⟩,_,g3,rfl⟩
end
end L2
namespace L2
open PySem PySem.Spec PyProof.Rows
theorem entry_dul:entryFor table "dict.update.loop"=some Builtin.«dict.update.loop»:=by kernel_rfl
theorem plain_dul:plainId "dict.update.loop"=true:=by kernel_rfl
end L2
namespace L2
open PySem PySem.Spec PyProof.Rows
theorem tup_noKeys:typeLookup (.type "tuple") (Str.ofString "keys")=pure none:=by rw [typeLookup_type,builtinLookup_eq_fast];kernel_rfl
theorem lst_noKeys:typeLookup (.type "list") (Str.ofString "keys")=pure none:=by rw [typeLookup_type,builtinLookup_eq_fast];kernel_rfl
theorem sub_AttrErr:isSubtype (.type "AttributeError") (.type "AttributeError")=pure true:=by kernel_rfl
section
variable {prog : Program} {w : World} {A : Around} {E : Value → Shared → Prop} {s : Shared}
theorem miss_tuple {a:Addr}{xs:Array Value}{k:Nat}{sl:Array (Option Value)}{u:Tok}{Q E:Value->Shared->Prop}(hh:A.handled=none)(ho:s.heap.get? a=some { cls:=.type "tuple",dict:=none,data:=.seq xs k,slots:=sl })
  (hE:∀ h' tk e,s.heap.NewAttrErr h' e (.ref a) (Str.ofString "keys")->E (.ref e) { s with heap:=h',toks:=tk }):wpAny (model prog w) A (call (.builtin "tuple.__getattribute__") ([.ref a]++[.str (Str.ofString "keys") u])) Q E s:=by
 have hT:s.TypeIs (.ref a) "tuple":=⟨_,ho,rfl⟩
 refine wpAny_call (codeAny_call_builtin PySem.F.slot_tuple_getattribute.plain PySem.F.entry_tuple_ga (PySem.F.slot_tuple_getattribute.check _ _ _ _ _ _ [] _ hT (PySem.F.args_tuple_getattribute_2 _ _) ?_))
 refine wpAny_mono (meets_getattribute_miss_tuple a xs k sl (Str.ofString "keys") u tup_noKeys (by decide) (by decide) prog w A (fun r s'=>∃ h' tk e,r=.error (.ref e)/\s.heap.NewAttrErr h' e (.ref a) (Str.ofString "keys")/\s'={ s with heap:=h',toks:=tk }) s ⟨ho,hh,fun h' tk e ne=>⟨h',tk,e,rfl,ne,rfl⟩⟩) (fun fin s' z=>?_) (fun e s' z=>?_)
 ·rcases fin with f | c
  ·obtain ⟨_,_,_,h,_⟩:=z;cases h
  ·exact ⟨z.1,codeAny_mono z.2 fun r s'' q=>by obtain ⟨h',tk,e,rfl,ne,rfl⟩:=q;exact hE h' tk e ne⟩
 ·obtain ⟨h',tk,e,h,ne,rfl⟩:=z
  cases h
  exact hE h' tk e ne
theorem no_keys_tuple {a:Addr}{xs:Array Value}{k:Nat}{sl:Array (Option Value)}{Q:Option Value->Shared->Prop}(hh:A.handled=none)(ho:s.heap.get? a=some { cls:=.type "tuple",dict:=none,data:=.seq xs k,slots:=sl })
  (hQ:∀ h' tk,(∀ b o,s.heap.get? b=some o->h'.get? b=some o)->Q none { s with heap:=h',toks:=tk }):wpAny (model prog w) A (getAttr? (.ref a) (Str.ofString "keys")) Q E s:=by
 unfold getAttr?
 refine wpAny_bind (wpAny_mkText ?_)
 have hT:Shared.TypeIs { s with toks:=s.toks + 1 } (.ref a) "tuple":=⟨_,ho,rfl⟩
 unfold getAttrBy?
 refine wpAny_bind (wpAny_attempt ?_)
 unfold getAttrBy
 refine wpAny_holding (wpAny_bind (wpAny_typeOf hT ?_))
 rw [show typeLookup (.type "tuple") (Str.ofString "__getattribute__")=pure (some (.builtin "tuple.__getattribute__")) from PySem.F.slot_tuple_getattribute.lookup]
 refine wpAny_bind (wpAny_pure ?_)
 dsimp only
 rw [if_neg (by decide)]
 unfold getAttrByItsOwn hookBefore
 rw [if_neg (by decide)]
 refine wpAny_bind (wpAny_pure ?_)
 refine wpAny_bind (wpAny_attempt (wpAny_holding ?_))
 unfold callGetattribute
 rw [if_neg (by decide)]
 unfold boundAndCalled
 rw [PySem.F.slot_tuple_getattribute.bind]
 refine wpAny_bind (wpAny_pure ?_)
 refine miss_tuple (s:={ s with toks:=s.toks + 1 }) hh ho fun h' tk e ne=>?_
 obtain ⟨t,u,he⟩:=ne.there
 have hTe:Shared.TypeIs { s with heap:=h',toks:=tk } (.ref e) "AttributeError":=⟨_,he,rfl⟩
 show wpAny _ _ (getattributeRaised _ _ _ _ none false false) _ _ _
 unfold getattributeRaised
 refine wpAny_bind (wpAny_isInstance hTe sub_AttrErr ?_)
 rw [if_pos rfl]
 unfold hookBehind
 rw [if_neg (by decide),PySem.F.plainAttrs_tuple.noGetattr]
 refine wpAny_bind (wpAny_pure ?_)
 unfold hookOrError
 dsimp only
 unfold attributeErrorLeaves
 dsimp only
 rw [if_pos (show (!false)=true from rfl)]
 refine wpAny_bind (wpAny_throw ?_)
 refine wpAny_bind (wpAny_isInstance hTe sub_AttrErr ?_)
 rw [if_pos rfl]
 exact wpAny_pure (hQ h' tk ne.keeps)
theorem miss_list {a:Addr}{xs:Array Value}{k:Nat}{sl:Array (Option Value)}{u:Tok}{Q E:Value->Shared->Prop}(hh:A.handled=none)(ho:s.heap.get? a=some { cls:=.type "list",dict:=none,data:=.seq xs k,slots:=sl })
  (hE:∀ h' tk e,s.heap.NewAttrErr h' e (.ref a) (Str.ofString "keys")->E (.ref e) { s with heap:=h',toks:=tk }):wpAny (model prog w) A (call (.builtin "list.__getattribute__") ([.ref a]++[.str (Str.ofString "keys") u])) Q E s:=by
 have hT:s.TypeIs (.ref a) "list":=⟨_,ho,rfl⟩
 refine wpAny_call (codeAny_call_builtin PySem.F.slot_list_getattribute.plain PySem.F.entry_list_ga (PySem.F.slot_list_getattribute.check _ _ _ _ _ _ [] _ hT (PySem.F.args_list_getattribute_2 _ _) ?_))
 refine wpAny_mono (meets_getattribute_miss_list a xs k sl (Str.ofString "keys") u lst_noKeys (by decide) (by decide) prog w A (fun r s'=>∃ h' tk e,r=.error (.ref e)/\s.heap.NewAttrErr h' e (.ref a) (Str.ofString "keys")/\s'={ s with heap:=h',toks:=tk }) s ⟨ho,hh,fun h' tk e ne=>⟨h',tk,e,rfl,ne,rfl⟩⟩) (fun fin s' z=>?_) (fun e s' z=>?_)
 ·rcases fin with f | c
  ·obtain ⟨_,_,_,h,_⟩:=z;cases h
  ·exact ⟨z.1,codeAny_mono z.2 fun r s'' q=>by obtain ⟨h',tk,e,rfl,ne,rfl⟩:=q;exact hE h' tk e ne⟩
 ·obtain ⟨h',tk,e,h,ne,rfl⟩:=z
  cases h
  exact hE h' tk e ne
theorem no_keys_list {a:Addr}{xs:Array Value}{k:Nat}{sl:Array (Option Value)}{Q:Option Value->Shared->Prop}(hh:A.handled=none)(ho:s.heap.get? a=some { cls:=.type "list",dict:=none,data:=.seq xs k,slots:=sl })
  (hQ:∀ h' tk,(∀ b o,s.heap.get? b=some o->h'.get? b=some o)->Q none { s with heap:=h',toks:=tk }):wpAny (model prog w) A (getAttr? (.ref a) (Str.ofString "keys")) Q E s:=by
 unfold getAttr?
 refine wpAny_bind (wpAny_mkText ?_)
 have hT:Shared.TypeIs { s with toks:=s.toks + 1 } (.ref a) "list":=⟨_,ho,rfl⟩
 unfold getAttrBy?
 refine wpAny_bind (wpAny_attempt ?_)
 unfold getAttrBy
 refine wpAny_holding (wpAny_bind (wpAny_typeOf hT ?_))
 rw [show typeLookup (.type "list") (Str.ofString "__getattribute__")=pure (some (.builtin "list.__getattribute__")) from PySem.F.slot_list_getattribute.lookup]
 refine wpAny_bind (wpAny_pure ?_)
 dsimp only
 rw [if_neg (by decide)]
 unfold getAttrByItsOwn hookBefore
 rw [if_neg (by decide)]
 refine wpAny_bind (wpAny_pure ?_)
 refine wpAny_bind (wpAny_attempt (wpAny_holding ?_))
 unfold callGetattribute
 rw [if_neg (by decide)]
 unfold boundAndCalled
 rw [PySem.F.slot_list_getattribute.bind]
 refine wpAny_bind (wpAny_pure ?_)
 refine miss_list (s:={ s with toks:=s.toks + 1 }) hh ho fun h' tk e ne=>?_
 obtain ⟨t,u,he⟩:=ne.there
 have hTe:Shared.TypeIs { s with heap:=h',toks:=tk } (.ref e) "AttributeError":=⟨_,he,rfl⟩
 show wpAny _ _ (getattributeRaised _ _ _ _ none false false) _ _ _
 unfold getattributeRaised
 refine wpAny_bind (wpAny_isInstance hTe sub_AttrErr ?_)
 rw [if_pos rfl]
 unfold hookBehind
 rw [if_neg (by decide),PySem.F.plainAttrs_list.noGetattr]
 refine wpAny_bind (wpAny_pure ?_)
 unfold hookOrError
 dsimp only
 unfold attributeErrorLeaves
 dsimp only
 rw [if_pos (show (!false)=true from rfl)]
 refine wpAny_bind (wpAny_throw ?_)
 refine wpAny_bind (wpAny_isInstance hTe sub_AttrErr ?_)
 rw [if_pos rfl]
 exact wpAny_pure (hQ h' tk ne.keeps)
theorem dul_loop {κ:Type}[DecidableEq κ]{knd:KeyKind prog w κ}{d I:Addr}{fp wr:List Addr}{n:Nat}{St:Nat->Heap->Prop}{R:Result->Shared->Prop}{us:List Value}{rs:List (κ × Value)}{h₁:Heap}(W:Walks prog w A.in1 I fp wr n (fun i v=>us[i]?=some v) St)(hn:n=us.length)(hrl:rs.length=us.length)(hsz:n<=sizeLine)
  (hd:d ∉ fp) (hpr:∀ (i:Nat) (u:Value) (kv:κ × Value),us[i]?=some u->rs[i]?=some kv->∃ a o m key,u=.ref a/\h₁.get? a=some o/\o.cls=.type "tuple"/\o.data=.seq #[key,kv.2] m/\knd.is kv.1 key=true/\a≠d/\a ∉ wr)
  (hR:∀ h' tk,h'.DictOf knd d (merged [] rs)->(∀ b o,b≠d->b ∉ wr->h₁.get? b=some o->h'.get? b=some o)->R (.ok (.ret .none)) { s with heap:=h',toks:=tk }) :
  ∀ (k i:Nat) (h:Heap) (tk:Nat),n - i=k->i<=n->St i h->h.DictOf knd d (merged [] (rs.take i))->(∀ b o,b≠d->b ∉ wr->h₁.get? b=some o->h.get? b=some o) ->
   codeAny (model prog w) A (.builtin "dict.update.loop" ⟨[.ref d,.ref I,rawInt i,.none],[]⟩) R { s with heap:=h,toks:=tk }:=by
 intro k
 induction k with
 | zero =>
  intro i h tk hk hi hst hdd hkeep
  have hin:i=n:=by omega
  subst hin
  refine codeAny_builtin entry_dul ?_
  rw [Around.under_plainId plain_dul _]
  show wpAny _ A.in1 (pyNext (.ref I) >>= _) _ _ _
  refine wpAny_bind (W.done { s with heap:=h,toks:=tk } _ _ hst fun h' tk' hq=>?_)
  refine wpAny_bind (wpAny_pure (wpAny_pure ?_))
  refine hR h' tk' ?_ (fun b o b1 b2 e=>hq b o b2 (hkeep b o b1 b2 e))
  rw [hn,←hrl,List.take_length] at hdd
  exact hdd.at fun o e=>hq d o (fun z=>hd (W.sub d z)) e
 | succ k ih =>
  intro i h tk hk hi hst hdd hkeep
  refine codeAny_builtin entry_dul ?_
  rw [Around.under_plainId plain_dul _]
  show wpAny _ A.in1 (pyNext (.ref I) >>= _) _ _ _
  refine wpAny_bind (W.item i { s with heap:=h,toks:=tk } _ _ (by omega) hst fun v h2 tk2 hv hst2 hq=>?_)
  have hil:i < rs.length:=by omega
  obtain ⟨a,o,m,key,rfl,ha,hc,hdta,hkey,nad,naw⟩:=hpr i v rs[i] hv (List.getElem?_eq_getElem hil)
  have ha2:h2.get? a=some o:=hq a o naw (hkeep a o nad naw ha)
  have hdd2:h2.DictOf knd d (merged [] (rs.take i)):=hdd.at fun o e=>hq d o (fun z=>hd (W.sub d z)) e
  have hT:Shared.TypeIs { s with heap:=h2,toks:=tk2 } (.ref a) "tuple":=⟨o,ha2,hc⟩
  dsimp only
  refine wpAny_bind (wpAny_holding (wpAny_bind (wpAny_tryCatch ?_)))
  unfold Builtin.Dict.pairItems
  refine wpAny_bind (wpAny_typeOf hT ?_)
  rw [if_pos (show (Value.type "tuple" == Value.type "list" || Value.type "tuple" == Value.type "tuple")=true by decide)]
  refine wpAny_bind (wpAny_seqItems ha2 hdta (wpAny_pure ?_))
  show wpAny _ _ (holding [key,rs[i].2] (dictSet d key rs[i].2)) _ _ _
  refine wpAny_holding (wpAny_dictSet_pairs hkey hdd2 (fun h3 hd3 hs3=>?_) (by have:=merged_length_le ([]:List (κ × Value)) (rs.take i);rw [List.length_take] at this;simp at this;omega))
  refine wpAny_pure ⟨plainId_quiet plain_dul _,?_⟩
  have e1:stored (merged [] (rs.take i)) rs[i].1 rs[i].2=merged [] (rs.take (i + 1)):=by
   rw [merged_take_succ [] rs i _ (List.getElem?_eq_getElem hil)]
  rw [e1] at hd3
  exact ih (i + 1) h3 _ (by omega) (by omega) (W.frame (i + 1) _ _ hst2 fun b hb ob e=>hs3.extBut b ob (fun z=>hd (z ▸ hb)) e) hd3 fun b ob b1 b2 e=>hs3.extBut b ob b1 (hq b ob b2 (hkeep b ob b1 b2 e))
theorem call_dict_pairs {κ:Type}[DecidableEq κ]{knd:KeyKind prog w κ}{p:Addr}{o:Obj}{us:List Value}{m:Nat}{T:String}{rs:List (κ × Value)}{Q:Value->Shared->Prop}(hh:A.handled=none)(hTy:T="list"\/T="tuple")(ho:s.heap.get? p=some o)(hcl:o.cls=.type T)(hdi:o.dict=none)(hdt:o.data=.seq us.toArray m)
  (hrl:rs.length=us.length) (hsz:us.length<=sizeLine) (hpr:∀ (i:Nat) (u:Value) (kv:κ × Value),us[i]?=some u->rs[i]?=some kv->∃ a o m key,u=.ref a/\s.heap.get? a=some o/\o.cls=.type "tuple"/\o.data=.seq #[key,kv.2] m/\knd.is kv.1 key=true)
  (hQ:∀ h' tk,h'.DictOf knd s.heap.objs.size (merged [] rs)->(∀ b o,s.heap.get? b=some o->h'.get? b=some o)->Q (.ref s.heap.objs.size) { s with heap:=h',toks:=tk }) :
  wpAny (model prog w) A (call (.type "dict") [.ref p]) Q E s:=by
 have hlt:p < s.heap.objs.size:=Heap.lt_size ho
 have hS:(s.heap.push { cls:=.type "dict",data:=.dict #[] }).get? s.heap.objs.size=some { cls:=.type "dict",data:=.dict #[] }:=Heap.get?_push_size _ rfl
 have oth:∀ b o,s.heap.get? b=some o->(s.heap.push { cls:=.type "dict",data:=.dict #[] }).get? b=some o:=fun b o e=>Heap.get?_push_of_some _ e
 refine callType_codes (Q₁:=fun obj s₁=>obj=.ref s.heap.objs.size/\s₁={ s with heap:=s.heap.push { cls:=.type "dict",data:=.dict #[] } }) PySem.F.kt_called_dict (PySem.F.kt_typeCall_dict_1 _) PySem.F.entry_dict_init
  (kt_code_dict_new _ ⟨rfl,rfl⟩) fun obj s₁ h₁=>?_
 obtain ⟨rfl,rfl⟩:=h₁
 refine ⟨⟨_,hS,rfl⟩,PySem.F.args_dict_init_2 _ _,?_⟩
 have hD0:Heap.DictOf knd (s.heap.push { cls:=.type "dict",data:=.dict #[] }) s.heap.objs.size (merged ([]:List (κ × Value)) (rs.take 0)):=Heap.DictOf.new s.heap
 generalize s.heap.push { cls:=.type "dict",data:=.dict #[] }=g at hS oth hD0 ⊢
 have hTd:Shared.TypeIs { s with heap:=g } (.ref s.heap.objs.size) "dict":=⟨_,hS,rfl⟩
 have hTp:Shared.TypeIs { s with heap:=g } (.ref p) T:=⟨_,oth _ _ ho,hcl⟩
 unfold Builtin.«dict.__init__» Builtin.Dict.selfAndRest Builtin.Dict.notOrdered
 refine wpAny_bind (wpAny_bind ?_)
 rw [if_pos (by decide)]
 dsimp only [List.headD]
 refine wpAny_bind (wpAny_typeOf hTd ?_)
 rw [if_neg (by decide)]
 refine wpAny_pure ?_
 refine wpAny_bind (show wpAny _ _ (Builtin.Dict.addrOf (.ref s.heap.objs.size)) _ _ _ from wpAny_pure (wpAny_pure ?_))
 show wpAny _ _ (Builtin.Dict.updateFrom "dict.__init__" s.heap.objs.size (.ref p) [] .none) _ _ _
 unfold Builtin.Dict.updateFrom
 refine wpAny_bind (wpAny_typeOf hTp ?_)
 dsimp only
 rw [if_pos (by rcases hTy with rfl | rfl <;> decide)]
 have fin:∀ (g2:Heap) (tk:Nat),(∀ b o,g.get? b=some o->g2.get? b=some o)->wpAny (model prog w) A.in1.in1 (pyIter (.ref p)) (fun it s2=>wpAny (model prog w) A.in1.in1 (again (.builtin "dict.update.loop" ⟨[.ref s.heap.objs.size,it,rawInt 0,.none],[]⟩))
   (fun fin s'=>match fin with
    | .done f=>wants (fun r s₂=>r=.none/\Q (.ref s.heap.objs.size) s₂) E (.ok f) s'
    | .again c'=>c'.quiet=true/\codeAny (model prog w) A.in1 c' (wants (fun r s₂=>r=.none/\Q (.ref s.heap.objs.size) s₂) E) s')
   (fun e s'=>wants (fun r s₂=>r=.none/\Q (.ref s.heap.objs.size) s₂) E (.error e) s') s2)
   (fun e s'=>wants (fun r s₂=>r=.none/\Q (.ref s.heap.objs.size) s₂) E (.error e) s') { s with heap:=g2,toks:=tk }:=by
  intro g2 tk hk2
  have ho2:g2.get? p=some o:=hk2 _ _ (oth _ _ ho)
  have hdlt:s.heap.objs.size < g2.objs.size:=Heap.lt_size (hk2 _ _ hS)
  have loop:∀ (g3:Heap) (tk3:Nat) (St:Nat->Heap->Prop),Walks prog w A.in1.in1 g2.objs.size [g2.objs.size,p] [g2.objs.size] us.toArray.size (fun i v=>us.toArray[i]?=some v) St->St 0 g3->(∀ b o,g2.get? b=some o->g3.get? b=some o) ->
    codeAny (model prog w) A.in1 (.builtin "dict.update.loop" ⟨[.ref s.heap.objs.size,.ref g2.objs.size,rawInt 0,.none],[]⟩) (wants (fun r s₂=>r=.none/\Q (.ref s.heap.objs.size) s₂) E) { s with heap:=g3,toks:=tk3 }:=by
   intro g3 tk3 St W hst hk3
   have nd:s.heap.objs.size ∉ [g2.objs.size,p]:=by
    intro hm
    rcases List.mem_cons.mp hm with z | z
    ·exact absurd hdlt (by rw [z];exact Nat.lt_irrefl _)
    ·rw [List.mem_singleton] at z;exact absurd hlt (by rw [←z];exact Nat.lt_irrefl _)
   refine dul_loop (A:=A.in1) (us:=us) (rs:=rs) (h₁:=g3) (n:=us.toArray.size) (by simpa using W) (by simp) hrl (by simpa using hsz) nd ?_ ?_ us.toArray.size 0 g3 tk3 (by simp) (Nat.zero_le _) hst (hD0.at fun o e=>hk3 _ _ (hk2 _ _ e)) (fun _ _ _ _ e=>e)
   ·intro i u kv hu hkv
    obtain ⟨a,ob,mm,key,e1,e2,e3,e4,e5⟩:=hpr i u kv hu hkv
    have hal:a < s.heap.objs.size:=Heap.lt_size e2
    refine ⟨a,ob,mm,key,e1,hk3 _ _ (hk2 _ _ (oth _ _ e2)),e3,e4,e5,Nat.ne_of_lt hal,fun z=>?_⟩
    rw [List.mem_singleton] at z
    exact absurd (Nat.lt_trans hal hdlt) (by rw [z];exact Nat.lt_irrefl _)
   ·intro h' tk' hd' hkp
    refine ⟨rfl,hQ h' tk' hd' fun b ob e=>hkp b ob (Nat.ne_of_lt (Heap.lt_size e)) (fun z=>?_) (hk3 _ _ (hk2 _ _ (oth _ _ e)))⟩
    rw [List.mem_singleton] at z
    exact absurd (Nat.lt_trans (Heap.lt_size e) hdlt) (by rw [z];exact Nat.lt_irrefl _)
  have pne:p≠g2.objs.size:=Nat.ne_of_lt (Nat.lt_trans hlt hdlt)
  rcases hTy with rfl | rfl
  ·have hl:g2.IsList p us.toArray:=⟨o,ho2,hcl,m,hdt⟩
   refine wpAny_pyIter_list (s:={ s with heap:=g2,toks:=tk }) hl (wpAny_pure ⟨plainId_quiet plain_dul _,?_⟩)
   exact loop _ tk _ (Walks.list (A:=A.in1.in1) hh _ p pne us.toArray) ⟨⟨_,Heap.get?_push_size _ rfl,rfl,rfl⟩,hl.push _⟩ fun b o e=>Heap.get?_push_of_some _ e
  ·have hl:g2.IsTuple p us.toArray:=⟨o,ho2,hcl,m,hdt⟩
   refine wpAny_pyIter_tuple (s:={ s with heap:=g2,toks:=tk }) hl (wpAny_pure ⟨plainId_quiet plain_dul _,?_⟩)
   exact loop _ tk _ (Walks.tuple (A:=A.in1.in1) hh _ p pne us.toArray) ⟨⟨_,Heap.get?_push_size _ rfl,rfl,rfl⟩,hl.push _⟩ fun b o e=>Heap.get?_push_of_some _ e
 obtain ⟨ocl,odi,odt,osl⟩:=o
 obtain rfl:ocl=_:=hcl
 obtain rfl:odi=_:=hdi
 obtain rfl:odt=_:=hdt
 rcases hTy with rfl | rfl
 ·refine wpAny_bind (no_keys_list (s:={ s with heap:=g }) hh (oth _ _ ho) fun g2 tk hk2=>?_)
  dsimp only
  rw [if_pos (show (none:Option Value).isNone=true from rfl)]
  exact wpAny_bind (wpAny_rule (wpAny_bind (fin g2 tk hk2)))
 ·refine wpAny_bind (no_keys_tuple (s:={ s with heap:=g }) hh (oth _ _ ho) fun g2 tk hk2=>?_)
  dsimp only
  rw [if_pos (show (none:Option Value).isNone=true from rfl)]
  exact wpAny_bind (wpAny_rule (wpAny_bind (fin g2 tk hk2)))
end
end L2
namespace L2
open PySem PySem.Spec PyProof.Rows
section
variable {X : Cx} {pins : List (Addr × Obj)} {σ : St} {H : Hp} {s : Shared}
abbrev DPairs (K:PySem.W.Frag)(H:Hp):List (Key × V)->List V->Prop:=Paired fun kv y=>∃ a,y=.ref a/\SqT K H a [kV kv.1,kv.2]
theorem dpairs_of (I:Inv X pins σ H s):∀ {kvs:List (Key × V)} {ys:List V} {its:List Value},DPairs X.K H kvs ys->Vals ys its ->
  ∃ rs:List (Key × Value),KV kvs rs/\rs.length=its.length/\∀ (i:Nat) (u:Value) (kv:Key × Value),its[i]?=some u->rs[i]?=some kv->∃ a o m key,u=.ref a/\s.heap.get? a=some o/\o.cls=.type "tuple"/\o.data=.seq #[key,kv.2] m/\(mixKind X.prog X.w).is kv.1 key=true
 | [],[],_,.nil,.nil=>⟨[],.nil,rfl,fun i u kv h _=>by simp at h⟩
 | kv::kvs,y::ys,u::its,.cons ⟨a,e,hq⟩ r,.cons ru rv=>by
  obtain ⟨rs,k1,k2,k3⟩:=dpairs_of I r rv
  subst e
  cases ru
  obtain ⟨jts,rj,⟨o,o1,o2,m,o3⟩,_⟩:=I.tuple hq
  obtain ⟨u1,u2,rfl,r1,r2⟩:=vals2 rj
  refine ⟨(kv.1,u2)::rs,.cons ⟨rfl,r2⟩ k1,by simp [k2],fun i u kv' h1 h2=>?_⟩
  cases i with
  | zero =>
   simp at h1 h2
   subst h1 h2
   exact ⟨a,o,m,u1,rfl,o1,o2,by simpa using o3,kV_is r1⟩
  | succ i=>exact k3 i u kv' (by simpa using h1) (by simpa using h2)
theorem Inv.tupleD (I:Inv X pins σ H s){a:Addr}{xs:List V}(h:SqT X.K H a xs):∃ (its:List Value) (o:Obj) (n:Nat),Vals xs its/\s.heap.get? a=some o/\o.cls=.type "tuple"/\o.dict=none/\o.data=.seq its.toArray n/\xs.length<=sizeLine:=by
 rcases h with h | ⟨o,its,n,hk,hc,hs,hz,r,hd⟩
 ·obtain ⟨z,its,r,⟨o,e1,e2,n,e3⟩,o2,f1,f2⟩:=h.ok I.hok
  rw [e1] at f1
  cases f1
  exact ⟨its,o,n,r,e1,e2,f2,e3,z⟩
 ·refine ⟨its.toList,o,n,r,I.kIn a o hk,hc,hd,by simpa using hs,?_⟩
  have e:=r.length
  simp only [Array.length_toList] at e
  omega
theorem call_dictP (hc:X.calm=true):CallR X (.type "dict") (fun xs H Q=>∃ p ys kvs,xs=[.ref p]/\(H p=some (.lst ys)\/SqT X.K H p ys)/\DPairs X.K H kvs ys/\∀ d,H d=none->Q (.ref d) (upd H d (.dK (mergeK [] kvs)))):=by
 intro pins s σ H xs us Q I r h
 obtain ⟨p,ys,kvs,rfl,hp,hd,q⟩:=h
 obtain ⟨u,rfl,ru⟩:=vals1 r
 cases ru
 obtain ⟨its,o,T,m,rv,hTy,ho,hcl,hdi,hdt,hz⟩:∃ (its:List Value) (o:Obj) (T:String) (m:Nat),Vals ys its/\(T="list"\/T="tuple")/\s.heap.get? p=some o/\o.cls=.type T/\o.dict=none/\o.data=.seq its.toArray m/\ys.length<=sizeLine:=by
  rcases hp with hp | hp
  ·obtain ⟨z,its,n,rv,e⟩:=(show ObjOk X.prog X.w H s.heap p (.lst ys) from I.hok p _ hp)
   exact ⟨its,_,"list",n,rv,.inl rfl,e,rfl,rfl,rfl,z⟩
  ·obtain ⟨its,o,n,rv,e1,e2,e3,e4,z⟩:=I.tupleD hp
   exact ⟨its,o,"tuple",n,rv,.inr rfl,e1,e2,e3,e4,z⟩
 obtain ⟨rs,k1,k2,k3⟩:=dpairs_of I hd rv
 have hl:=rv.length
 have hkl:kvs.length<=sizeLine:=by have:=KV.length k1;omega
 refine call_dict_pairs (knd:=mixKind X.prog X.w) (rs:=rs) (I.ok.hd hc) hTy ho hcl hdi hdt k2 (by omega) k3 fun h' tk hd' hk=>?_
 have hb:=I.big
 refine ⟨.ref s.heap.objs.size,_,I.laid (t':=tk) hk (Nat.le_refl _) (dk_new (kvs:=mergeK [] kvs) ?_ (beq_eq_false_iff_ne.mpr (Ne.symm (Nat.ne_of_lt hb))) (KV.merge k1 .nil) hd'),rfl,q _ (I.hok.fresh (Nat.le_refl _))⟩
 have:=length_mergeK kvs []
 simp at this
 omega
end
end L2
namespace L2
open PySem PySem.Spec PyProof.Rows
section
variable {prog : Program} {w : World} {A : Around} {R : Result → Shared → Prop} {s : Shared}
theorem codeAny_compLoop_anyD {kx vx target iter:Expr}{ifs:List Expr}{scope:Scope}{pos:Pos}{it:Value}{D:Addr}{env:Env}{E:Value->Shared->Prop}(I:Nat->Shared->Prop)
  (turn:∀ n s,I n s->wpAny (model prog w) A (pyNext it) (fun r s₁=>match r with
   | none=>R (.ok .next) s₁
   | some v=>wpAny (model prog w) A (letOwnedTupleGo target it v) (fun _ s₁'=>wpAny (model prog w) A (assign target env v) (fun _ s₂ =>
     wpAny (model prog w) A (forIn ifs true fun c r=>if r=true then do let ok ←isTrue c env (eval c env);pure (ForInStep.yield ok) else pure (ForInStep.yield r)) (fun ok s₃ =>
      if ok=true then wpAny (model prog w) A (eval kx env) (fun x s₄=>wpAny (model prog w) A (eval vx env) (fun y s₅ =>
       wpAny (model prog w) A (dictSet D x y) (fun _ s₆=>∃ m,m < n/\I m s₆) E s₅) E s₄) E s₃
      else ∃ m,m < n/\I m s₃) E s₂) E s₁') E s₁) E s)
  (hE:∀ e s',E e s'->notedBy (model prog w) A env (fun e s'=>R (.error e) s') e s')
  (n:Nat) (h:I n s) :
  codeAny (model prog w) A (.compLoop (.DictComp kx vx [⟨target,iter,ifs,0⟩] scope pos) 0 it (.ref D) env) R s:=by
 refine codeAny_loop rfl I (fun n s hI=>?_) n h
 show wpAny _ A ((compTurn (.DictComp kx vx [⟨target,iter,ifs,0⟩] scope pos) 0 it (.ref D) env).onRaise (fun x=>do noteFrame x env;theTreesLotGoes x)) _ _ s
 refine wpAny_noted ?_
 rw [compTurn_dict]
 refine wpAny_bind (wpAny_standAt (wpAny_bind (wpAny_mono (turn n s hI) (fun r s₁ h₁=>?_) hE)))
 cases r with
 | none=>exact wpAny_pure h₁
 | some v =>
  refine wpAny_bind (wpAny_mono h₁ (fun _ s₁' h₁'=>?_) hE)
  refine wpAny_bind (wpAny_mono h₁' (fun _ s₂ h₂=>wpAny_bind (wpAny_mono h₂ (fun ok s₃ h₃=>?_) hE)) hE)
  cases ok with
  | false=>exact wpAny_pure ⟨rfl,h₃⟩
  | true =>
   exact wpAny_bind (wpAny_bind (wpAny_mono h₃ (fun x s₄ h₄=>wpAny_bind (wpAny_holding (wpAny_mono h₄ (fun y s₅ h₅=>wpAny_bind (wpAny_standAt (wpAny_holding (wpAny_mono h₅ (fun _ s₆ h₆=>wpAny_pure ⟨rfl,h₆⟩) hE)))) hE))) hE))
end
section
variable {X : Cx} {pins : List (Addr × Obj)} {σ : St} {H : Hp} {s : Shared}
theorem comp_leaveD {scope:Scope}{N':List Str}{fp:List Addr}{C D:Addr}{s':Shared}{H':Hp}{σ':St}{pins':List (Addr × Obj)}{kvs:List (Key × V)}{rs:List (Key × Value)}{h'':Heap}(I:Inv X pins σ H s)(hf:∀ b∈fp,FpOk X pins H b)
  (I':Inv (cxComp X scope N' fp C s H) pins' σ' H' s') (hC:s.heap.objs.size<=C) (hD:s.heap.objs.size<=D) (hDC:D≠C) (hDn:H' D=none) (pl:s'.heap.DictOf (mixKind X.prog X.w) D rs) (rv:KV kvs rs) (hz:kvs.length<=sizeLine) (hs:Heap.SameBut C s'.heap h'') :
  Inv X pins σ (upd H' D (.dK kvs)) { s' with heap:=h'' }:=by
 have un:Un (frs X.stack) fp H H' s.heap s'.heap:=I'.base
 have hCn:H' C=none:=I'.free
 have at':∀ b,b≠C->h''.get? b=s'.heap.get? b:=fun b hb=>hs.2 b hb
 have neC:∀ b o,s.heap.get? b=some o->b≠C:=fun b o e=>Nat.ne_of_lt (Nat.lt_of_lt_of_le (Heap.lt_size e) hC)
 have neD:∀ b o,s.heap.get? b=some o->b≠D:=fun b o e=>Nat.ne_of_lt (Nat.lt_of_lt_of_le (Heap.lt_size e) hD)
 have okHD:∀ b u,H b=some u->b≠D:=fun b u e=>Nat.ne_of_lt (Nat.lt_of_lt_of_le (I.hok.lt e) hD)
 have un':Un (frs X.stack) fp H (upd H' D (.dK kvs)) s.heap h'':=by
  refine ⟨fun b o e n h1 h2=>?_,fun b o e n h1 h2=>?_,fun b o e n h2=>?_,fun b o e h2=>?_,fun b xs e=>?_,fun b o u e=>?_,fun b ps e=>?_⟩
  ·rw [at' b (neC b o e)];exact un.keep b o e n h1 h2
  ·rw [at' b (neC b o e)];exact un.slot b o e n h1 h2
  ·rw [upd_ne (neD b o e)];exact un.free b o e n h2
  ·rw [at' b (neC b o e)];exact un.there b o e h2
  ·rw [upd_ne (okHD b _ e)];exact un.tups b xs e
  ·rw [upd_ne (okHD b _ e)];exact un.frzs b o u e
  ·rw [upd_ne (okHD b _ e)];exact un.tbls b ps e
 have hok:HOk X.prog X.w (upd H' D (.dK kvs)) h'':=fun b u e=>by
  by_cases hb:b=D
  ·subst hb
   rw [upd_same] at e
   cases e
   exact ⟨hz,beq_eq_false_iff_ne.mpr (Ne.symm (Nat.ne_of_lt (Nat.lt_of_lt_of_le I.big hD))),rs,rv,pl.at fun o e=>by rw [at' b hDC];exact e⟩
  ·rw [upd_ne hb] at e
   refine (I'.hok b u e).stay (fun c v hc q=>?_) (fun c q=>?_) fun c xs q=>?_
   ·rw [at' c ?_];exact q
    rintro rfl
    rcases hc with z | z
    ·rw [←z,hCn] at e;cases e
    ·rw [hCn] at z;cases z
   ·rw [upd_ne (fun z=>by rw [z,hDn] at q;cases q)];exact q
   ·rw [upd_ne (fun z=>by rw [z,hDn] at q;cases q)];exact q
 exact I.call' (s':={ s' with heap:=h'' }) (ch:=fp) I'.os un' hok I'.bare fun b hb=>⟨(hf b hb).2.2.2.1,(hf b hb).2.1,(hf b hb).2.2.2.2.1,(hf b hb).2.2.2.2.2⟩
end
def CompWD (J:It)(g:TG)(tt:TT)(tk tv:TE)(Q:VK)(σ0:St)(H0:Hp):Prop:=∃ W:Nat->Nat->St->List (Key × V)->Hp->Prop,(∃ m,W 0 m σ0 [] H0)/\∀ i m σ' kvs H,W i m σ' kvs H ->
 (J.stop i H/\kvs.length<=sizeLine/\∀ p,H p=none->Q (.ref p) (upd H p (.dK kvs))) \/
 (J.go i H/\kvs.length < sizeLine/\∃ N:St->List (Key × V)->Hp->Prop,(∀ σ2 vs2 H2,N σ2 vs2 H2->∃ m',m' < m/\W (i + 1) m' σ2 vs2 H2)/\∀ x H',J.yld i H x H'->g x σ' H' fun σ2 H2=>tt σ2 H2 fun ok H3 =>
  if ok=true then tk σ2 H3 fun kv H4=>tv σ2 H4 fun v H5=>∃ key,kv=kV key/\N σ2 (putK kvs key v) H5 else N σ2 kvs H3)
def tDComp (own:Nat)(fr:List Nat)(wi:TI)(g:TG)(tt:TT)(tk tv:TE):TE:=fun σ H Q=>wi σ H fun J H1=>CompWD J g tt tk tv Q (innerSt own fr σ) H1
section
variable {X : Cx}
theorem pe_dcomp {kx vx iter tg:Expr}{ifs:List Expr}{scope:Scope}{pos:Pos}{wi:TI}{g:TG}{tt:TT}{tk tv:TE}(own:List Str)(fr:List Nat)(hc:X.calm=true)
  (hkind:scope.kind=.function) (hcell:∀ x∈scope.names,x.2≠.cell) (hnames:∀ x∈scope.names,x.2=.local->scope.names.lookup x.1=some .local)
  (hfr:∀ x∈scope.names,x.2=.free->X.env.scope.names.lookup x.1=some .cell\/X.env.scope.names.lookup x.1=some .free)
  (hin:∀ j∈fr,scope.names.lookup (X.N.getD j Str.empty)=some .free)
  (hi:PI X tg iter wi) (hg:∀ fp C s H,PG (cxComp X scope (own++fr.map fun j=>X.N.getD j Str.empty) fp C s H) tg g)
  (ht:∀ fp C s H,PIfs (cxComp X scope (own++fr.map fun j=>X.N.getD j Str.empty) fp C s H) ifs tt)
  (hk:∀ fp C s H,PE (cxComp X scope (own++fr.map fun j=>X.N.getD j Str.empty) fp C s H) kx tk)
  (he:∀ fp C s H,PE (cxComp X scope (own++fr.map fun j=>X.N.getD j Str.empty) fp C s H) vx tv)
  (hs:∀ x,foldedSetIterable iter X.env x=pure x:=by intro _;rfl):PE X (.DictComp kx vx [⟨tg,iter,ifs,0⟩] scope pos) (tDComp own.length fr wi g tt tk tv):=by
 intro pins s σ H Q I h
 rw [arm_eval_DictComp]
 have hfree:∀ x∈scope.names,x.2=.free->∃ c,X.env.cells.lookup x.1=some c:=fun x hx e=>I.ok.has x.1 (hfr x hx e)
 refine wpAny_comprehension_free (use:=none) rfl hs (closureFor_eq hfree) hkind hnames ?_
 refine thn (hi pins s σ H _ I h) fun v s1 h1=>thn h1 fun itv s2 h2=>?_
 obtain ⟨it,fp,tn,J,H2,e,I2,T,st2,f2,W,⟨m0,w0⟩,turn⟩:=h2
 subst e
 have hfo:∀ b∈fp,b < s2.heap.objs.size:=fun b hb=>by obtain ⟨o,e,_⟩:=T.obj 0 _ st2 b hb;exact Heap.lt_size e
 refine wpAny_newObj_type (wpAny_newFunctionEnv hcell (by intro y hy;simp at hy) (fun h₁ hns₁ hsb₁=>?_) hkind)
 dsimp only at hns₁ hsb₁ ⊢
 generalize hH2:s2.heap.push { cls:=.type "dict",dict:=none,data:=.dict #[] }=G2 at hns₁ hsb₁ ⊢
 have hC:G2.objs.size=s2.heap.objs.size + 1:=by rw [←hH2,Heap.size_push]
 have hDC:s2.heap.objs.size≠G2.objs.size:=by rw [hC];exact Nat.ne_of_lt (Nat.lt_succ_self _)
 have hCle:s2.heap.objs.size<=G2.objs.size:=by rw [hC];exact Nat.le_succ _
 have old:∀ b o,s2.heap.get? b=some o->h₁.get? b=some o:=fun b o e=>hsb₁.extBut b o (by rw [hC];exact Nat.ne_of_lt (Nat.lt_succ_of_lt (Heap.lt_size e))) (Heap.get?_push_of_some _ (hH2 ▸ Heap.get?_push_of_some _ e))
 have hacc:h₁.DictOf (mixKind X.prog X.w) s2.heap.objs.size []:=(hH2 ▸ Heap.DictOf.new (knd:=mixKind X.prog X.w) s2.heap:G2.DictOf (mixKind X.prog X.w) s2.heap.objs.size []).at fun o e=>hsb₁.extBut _ _ hDC (Heap.get?_push_of_some _ e)
 have I3:Inv (cxComp X scope (own++fr.map fun j=>X.N.getD j Str.empty) fp G2.objs.size s2 H2) [] (innerSt own.length fr σ) H2 { s2 with heap:=h₁,toks:=s2.toks + ([]:List (Str × Value)).length } :=
  comp_enter I2 hkind hcell hfr hin hCle f2 hfo old hns₁
 have st3:tn 0 h₁:=T.keep 0 _ _ st2 fun b _ o e=>old b o e
 have hDf:s2.heap.objs.size ∉ fp:=fun hm=>Nat.lt_irrefl _ (hfo _ hm)
 have hDn2:H2 s2.heap.objs.size=none:=I2.hok.fresh (Nat.le_refl _)
 have sub:∀ y c,(cellsFor X.env scope.names []).lookup y=some c->X.env.cells.lookup y=some c:=cellsFor_sub _ _ hfree (by intro y c e;simp at e)
 have cellD:∀ y c,(cellsFor X.env scope.names []).lookup y=some c->c≠s2.heap.objs.size:=fun y c e=>by
  obtain ⟨_,o,ho,_⟩:=I2.cell y c (sub y c e)
  exact Nat.ne_of_lt (Heap.lt_size ho)
 have Dfs:s2.heap.objs.size ∉ frs X.stack:=fun z=>by
  rcases List.mem_cons.mp (I2.stkSub _ z) with e | e
  ·exact absurd I2.lt (by rw [←e];exact Nat.lt_irrefl _)
  ·exact I2.nofs (Nat.le_refl _) e
 -- the iterator's records,in the block's context
 have stat:∀ {H':Hp} {pl:List (Addr × Obj)},(∀ b∈fp,H' b=none)->(∀ p∈pl,p.1=s2.heap.objs.size)->∀ b∈fp,FpOk (cxComp X scope (own++fr.map fun j=>X.N.getD j Str.empty) fp G2.objs.size s2 H2) pl H' b:=fun {H' pl} hn hp b hb=>by
  refine ⟨hn b hb,(I3.ok.exf b hb).1,I3.ok.exfs b hb,.inl hb,(I3.ok.exf b hb).2,fun p hpp z=>?_⟩
  have hpp':p∈pl:=by simpa [cxComp] using hpp
  exact hDf (by rw [←hp p hpp',z];exact hb)
 have pinD:∀ {σ':St} {H':Hp} {s':Shared} {o:Obj} {es:Array DictEntry} {n:Nat},Inv (cxComp X scope (own++fr.map fun j=>X.N.getD j Str.empty) fp G2.objs.size s2 H2) [] σ' H' s'->H' s2.heap.objs.size=none->s'.heap.get? s2.heap.objs.size=some o->o.data=.dict es n ->
   Inv (cxComp X scope (own++fr.map fun j=>X.N.getD j Str.empty) fp G2.objs.size s2 H2) [(s2.heap.objs.size,o)] σ' H' s':=fun {σ' H' s' o es n} J hn e ed=>J.pins_of fun p hp=>by
  have e':p=(s2.heap.objs.size,o):=by simpa using hp
  subst e'
  exact ⟨e,hn,hDC,Dfs,fun v z=>by rw [ed] at z;cases z⟩
 have loop:codeAny (model X.prog X.w) X.A (.compLoop (.DictComp kx vx [⟨tg,iter,ifs,0⟩] scope pos) 0 (.ref it) (.ref s2.heap.objs.size) (compEnvC scope (cellsFor X.env scope.names []) G2.objs.size X.env))
   (compPost (model X.prog X.w) X.A X.xe none (EP X pins σ Q) (.ref s2.heap.objs.size) G2.objs.size) { s2 with heap:=h₁,toks:=s2.toks + ([]:List (Str × Value)).length }:=by
  refine codeAny_compLoop_anyD (E:=fun _ _=>False) (fun n s'=>∃ i σ' H' kvs rs,Inv (cxComp X scope (own++fr.map fun j=>X.N.getD j Str.empty) fp G2.objs.size s2 H2) [] σ' H' s'/\tn i s'.heap/\(∀ b∈fp,H' b=none)/\H' s2.heap.objs.size=none/\s'.heap.DictOf (mixKind X.prog X.w) s2.heap.objs.size rs/\KV kvs rs/\W i n σ' kvs H')
   ?_ (fun _ _ z=>z.elim) m0 ⟨0,_,H2,[],[],I3,st3,fun b hb=>(f2 b hb).1,hDn2,hacc,.nil,w0⟩
  rintro n s3 ⟨i,σ3,H3,kvs,rs,J3,st3,fr3,dn3,dd3,rv,w3⟩
  obtain ⟨od,oes,oep,pl3,oex,odt,oks,opr,ond⟩:=id dd3
  have J3':=pinD J3 dn3 pl3 odt
  have hpins:∀ p∈[(s2.heap.objs.size,od)],p.1=s2.heap.objs.size:=fun p hp=>by
   have e':p=(s2.heap.objs.size,od):=by simpa using hp
   rw [e']
  rcases turn i n σ3 kvs H3 w3 with ⟨stop,hz,q⟩ | ⟨go,hz,N,hN,step⟩
  ·refine thn (T.done (cxComp X scope (own++fr.map fun j=>X.N.getD j Str.empty) fp G2.objs.size s2 H2) rfl rfl rfl hc i _ s3 σ3 H3 (fun _ _=>False) J3' (stat fr3 hpins) st3 stop) fun r s4 ⟨hr,J4⟩=>?_
   subst hr
   obtain ⟨m4,hn4,_⟩:=id J4.loc
   refine ⟨m4,hn4,fun h' hs'=>?_⟩
   have e4:s4.heap.get? s2.heap.objs.size=some od:=(J4.pin (s2.heap.objs.size,od) (List.mem_append_right _ (by simp))).1
   exact ⟨.ref s2.heap.objs.size,_,comp_leaveD I2 f2 J4 hCle (Nat.le_refl _) hDC dn3 ⟨od,oes,oep,e4,oex,odt,oks,opr,ond⟩ rv hz hs',rfl,q _ dn3⟩
  ·refine thn (T.item (cxComp X scope (own++fr.map fun j=>X.N.getD j Str.empty) fp G2.objs.size s2 H2) rfl rfl rfl hc i _ s3 σ3 H3 (fun _ _=>False) J3' (stat fr3 hpins) st3 go) fun r s4 ⟨u,hr,h4⟩=>?_
   subst hr
   refine thn h4 fun _ s5 ⟨x,H5,J5,r5,y5,st5,fr5⟩=>?_
   have J5':=J5.pinned (stat fr5 hpins) (T.obj _ _ st5)
   refine thn (hg fp _ s2 H2 _ s5 σ3 H5 x u _ J5' r5 (step x H5 y5)) fun _ s6 ⟨σ6,H6,J6,q6⟩=>?_
   refine thn (ht fp _ s2 H2 _ s6 σ6 H6 _ J6 q6) fun ok s7 ⟨H7,J7,q7⟩=>?_
   -- what stood pinned through the turn
   have after:∀ {s8:Shared} {H8:Hp},Inv (cxComp X scope (own++fr.map fun j=>X.N.getD j Str.empty) fp G2.objs.size s2 H2) ([(s2.heap.objs.size,od)]++pinsAt fp s5.heap) σ6 H8 s8 ->
     tn (i + 1) s8.heap/\(∀ b∈fp,H8 b=none)/\H8 s2.heap.objs.size=none/\s8.heap.get? s2.heap.objs.size=some od:=fun {s8 H8} J8=>by
    refine ⟨T.keep _ _ _ st5 fun b hb o e=>(J8.pin (b,o) (List.mem_append_right _ (List.mem_append_right _ (mem_pinsAt hb e)))).1,fun b hb=>?_,?_,?_⟩
    ·obtain ⟨o,e,d⟩:=T.obj _ _ st5 b hb
     exact (J8.pin (b,o) (List.mem_append_right _ (List.mem_append_right _ (mem_pinsAt hb e)))).2.1
    ·exact (J8.pin (s2.heap.objs.size,od) (List.mem_append_right _ (List.mem_append_left _ (by simp)))).2.1
    ·exact (J8.pin (s2.heap.objs.size,od) (List.mem_append_right _ (List.mem_append_left _ (by simp)))).1
   cases ok with
   | false =>
    obtain ⟨m',hm,w7⟩:=hN _ _ _ q7
    obtain ⟨a1,a2,a3,a4⟩:=after J7
    exact ⟨m',hm,i + 1,σ6,H7,kvs,rs,J7.pins_of (fun p hp=>absurd hp (by simp)),a1,a2,a3,⟨od,oes,oep,a4,oex,odt,oks,opr,ond⟩,rv,w7⟩
   | true =>
    refine thn (hk fp _ s2 H2 _ s7 σ6 H7 _ J7 q7) fun x s75 ⟨v75,H75,J75,r75,n75⟩=>?_
    refine thn (he fp _ s2 H2 _ s75 σ6 H75 _ J75 n75) fun y s8 ⟨v8,H8,J8,r8,n8⟩=>?_
    obtain ⟨key,rfl,n8⟩:=n8
    obtain ⟨m',hm,w8⟩:=hN _ _ _ n8
    obtain ⟨a1,a2,a3,a4⟩:=after J8
    have J9:Inv (cxComp X scope (own++fr.map fun j=>X.N.getD j Str.empty) fp G2.objs.size s2 H2) [] σ6 H8 s8:=J8.pins_of (fun p hp=>absurd hp (by simp))
    have hrs:rs.length<=sizeLine:=by have:=KV.length rv;omega
    refine wpAny_dictSet_pairs (kV_is r75) (⟨od,oes,oep,a4,oex,odt,oks,opr,ond⟩:s8.heap.DictOf (mixKind X.prog X.w) s2.heap.objs.size rs) (fun h₅ hl₅ hs₅=>?_) hrs
    exact ⟨m',hm,i + 1,σ6,H8,putK kvs key v8,stored rs key y,J9.turned (t':=s8.toks + 1) (it:=s2.heap.objs.size) (fun b o hb e=>by rw [hs₅.2 b hb];exact e) a3 hDC (.inr (Nat.le_refl _)) cellD (fun p hp=>absurd (show p∈([]:List (Addr × Obj)) from hp) (by simp)),
     T.keep _ _ _ a1 fun b hb o e=>(hs₅.2 b (fun z=>hDf (z ▸ hb))).trans e,a2,a3,hl₅,rv.put key r8,w8⟩
 exact codeAny_compStart_dict loop (T.self X.A 0 _ _ _ st3 loop)
end
theorem pe_dcompC {X:Cx}{kx vx iter tg:Expr}{ifs:List Expr}{scope:Scope}{pos:Pos}{wi:TI}{g:TG}{tt:TT}{tk tv:TE}(sc:Scope)(N0 own:List Str)(fr:List Nat)(hc:X.calm=true)(hsc:X.env.scope=sc)(hN:X.N=N0)
  (ok:compOk scope sc N0 fr=true) (hi:PI X tg iter wi) (hg:∀ fp C s H,PG (cxComp X scope (own++fr.map fun j=>N0.getD j Str.empty) fp C s H) tg g)
  (ht:∀ fp C s H,PIfs (cxComp X scope (own++fr.map fun j=>N0.getD j Str.empty) fp C s H) ifs tt)
  (hk:∀ fp C s H,PE (cxComp X scope (own++fr.map fun j=>N0.getD j Str.empty) fp C s H) kx tk)
  (he:∀ fp C s H,PE (cxComp X scope (own++fr.map fun j=>N0.getD j Str.empty) fp C s H) vx tv)
  (hs:∀ x,foldedSetIterable iter X.env x=pure x:=by intro _;rfl):PE X (.DictComp kx vx [⟨tg,iter,ifs,0⟩] scope pos) (tDComp own.length fr wi g tt tk tv):=by
 subst hsc hN
 unfold compOk at ok
 simp only [Bool.and_eq_true,List.all_eq_true,bne_iff_ne,beq_iff_eq,Bool.or_eq_true] at ok
 obtain ⟨⟨k1,k2⟩,k3⟩:=ok
 refine pe_dcomp own fr hc k1 (fun x hx=>(k2 x hx).1.1) (fun x hx e=>?_) (fun x hx e=>?_) (fun j hj=>k3 j hj) hi hg ht hk he hs
 ·rcases (k2 x hx).1.2 with z | z
  ·exact absurd e z
  ·exact z
 ·rcases (k2 x hx).2 with (z | z) | z
  ·exact absurd e z
  ·exact .inl z
  ·exact .inr z
section
variable {g : TG} {tt : TT} {tk tv : TE} {Q : VK} {σ0 : St} {H0 : Hp}
theorem dcomp_by {J:It}(n:Nat)(Pv:Nat->St->List (Key × V)->Hp->Prop)(h0:Pv 0 σ0 [] H0)(hlen:∀ i σ kvs H,i<=n->Pv i σ kvs H->kvs.length<=i)(hn:n<=sizeLine)(hgo:∀ i σ kvs H,i < n->Pv i σ kvs H->J.go i H)(hst:∀ σ kvs H,Pv n σ kvs H->J.stop n H)
  (hs:∀ i σ kvs H x H',i < n->Pv i σ kvs H->J.yld i H x H'->g x σ H' fun σ2 H2=>tt σ2 H2 fun ok H3=>if ok=true then tk σ2 H3 fun kv H4=>tv σ2 H4 fun v H5=>∃ key,kv=kV key/\Pv (i + 1) σ2 (putK kvs key v) H5 else Pv (i + 1) σ2 kvs H3)
  (hd:∀ σ kvs H,Pv n σ kvs H->∀ p,H p=none->Q (.ref p) (upd H p (.dK kvs))):CompWD J g tt tk tv Q σ0 H0:=by
 refine ⟨fun i m σ kvs H=>m=n - i/\i<=n/\Pv i σ kvs H,⟨n,by simp,Nat.zero_le _,h0⟩,?_⟩
 rintro i m σ kvs H ⟨rfl,hi,p⟩
 have hv:=hlen i σ kvs H hi p
 by_cases hlt:i < n
 ·exact .inr ⟨hgo i σ kvs H hlt p,by omega,Pv (i + 1),fun σ2 vs2 H2 q=>⟨n - (i + 1),by omega,rfl,hlt,q⟩,fun x H' y=>hs i σ kvs H x H' hlt p y⟩
 ·have e:i=n:=by omega
  subst e
  exact .inl ⟨hst σ kvs H p,by omega,hd σ kvs H p⟩
theorem dcomp_tup {K:PySem.W.Frag}{a:Addr}{xs:List V}(Pv:Nat->St->List (Key × V)->Hp->Prop)(h0:Pv 0 σ0 [] H0)(hlen:∀ i σ kvs H,i<=xs.length->Pv i σ kvs H->kvs.length<=i)(hn:xs.length<=sizeLine)(hl:∀ i σ kvs H,i<=xs.length->Pv i σ kvs H->SqT K H a xs)
  (hs:∀ i x σ kvs H,xs[i]?=some x->Pv i σ kvs H->g x σ H fun σ2 H2=>tt σ2 H2 fun ok H3=>if ok=true then tk σ2 H3 fun kv H4=>tv σ2 H4 fun v H5=>∃ key,kv=kV key/\Pv (i + 1) σ2 (putK kvs key v) H5 else Pv (i + 1) σ2 kvs H3)
  (hd:∀ σ kvs H,Pv xs.length σ kvs H->∀ p,H p=none->Q (.ref p) (upd H p (.dK kvs))):CompWD (Itt K a) g tt tk tv Q σ0 H0:=by
 refine dcomp_by xs.length Pv h0 hlen hn (fun i σ vs H hi p=>⟨xs,xs[i],hl i σ vs H (Nat.le_of_lt hi) p,by simp [hi]⟩) (fun σ vs H p=>⟨xs,hl _ σ vs H (Nat.le_refl _) p,Nat.le_refl _⟩) (fun i σ vs H x H' hi p y=>?_) hd
 obtain ⟨rfl,y⟩:=y
 exact hs i x σ vs _ (y xs (hl i σ vs _ (Nat.le_of_lt hi) p)) p
end
end L2
namespace L2
open PySem
section
variable {K : PySem.W.Frag} {H : Hp} {v : V}
theorem Rp.t1 {x:T}(h:Rp K H (.t [x]) v):∃ a u,v=.ref a/\SqT K H a [u]/\Rp K H x u:=by
 obtain ⟨a,vs,rfl,sq,r⟩:=h.inv_t
 obtain ⟨u,q,rfl,g,r2⟩:=r.inv
 obtain rfl:=r2.inv0
 exact ⟨a,u,rfl,sq,g⟩
theorem Rp.t2 {x y:T}(h:Rp K H (.t [x,y]) v):∃ a u1 u2,v=.ref a/\SqT K H a [u1,u2]/\Rp K H x u1/\Rp K H y u2:=by
 obtain ⟨a,vs,rfl,sq,r⟩:=h.inv_t
 obtain ⟨u,q,rfl,g,r2⟩:=r.inv
 obtain ⟨u2,q2,rfl,g2,r3⟩:=r2.inv
 obtain rfl:=r3.inv0
 exact ⟨a,u,u2,rfl,sq,g,g2⟩
theorem Rp.t3 {x y z:T}(h:Rp K H (.t [x,y,z]) v):∃ a u1 u2 u3,v=.ref a/\SqT K H a [u1,u2,u3]/\Rp K H x u1/\Rp K H y u2/\Rp K H z u3:=by
 obtain ⟨a,vs,rfl,sq,r⟩:=h.inv_t
 obtain ⟨u,q,rfl,g,r2⟩:=r.inv
 obtain ⟨u2,q2,rfl,g2,r3⟩:=r2.inv
 obtain ⟨u3,q3,rfl,g3,r4⟩:=r3.inv
 obtain rfl:=r4.inv0
 exact ⟨a,u,u2,u3,rfl,sq,g,g2,g3⟩
theorem Rp.t4 {x y z x4:T}(h:Rp K H (.t [x,y,z,x4]) v):∃ a u1 u2 u3 u4,v=.ref a/\SqT K H a [u1,u2,u3,u4]/\Rp K H x u1/\Rp K H y u2/\Rp K H z u3/\Rp K H x4 u4:=by
 obtain ⟨a,vs,rfl,sq,r⟩:=h.inv_t
 obtain ⟨u,q,rfl,g,r2⟩:=r.inv
 obtain ⟨u2,q2,rfl,g2,r3⟩:=r2.inv
 obtain ⟨u3,q3,rfl,g3,r4⟩:=r3.inv
 obtain ⟨u4,q4,rfl,g4,r5⟩:=r4.inv
 obtain rfl:=r5.inv0
 exact ⟨a,u,u2,u3,u4,rfl,sq,g,g2,g3,g4⟩
theorem Rp.t5 {x y z x4 x5:T}(h:Rp K H (.t [x,y,z,x4,x5]) v):∃ a u1 u2 u3 u4 u5,v=.ref a/\SqT K H a [u1,u2,u3,u4,u5]/\Rp K H x u1/\Rp K H y u2/\Rp K H z u3/\Rp K H x4 u4/\Rp K H x5 u5:=by
 obtain ⟨a,vs,rfl,sq,r⟩:=h.inv_t
 obtain ⟨u,q,rfl,g,r2⟩:=r.inv
 obtain ⟨u2,q2,rfl,g2,r3⟩:=r2.inv
 obtain ⟨u3,q3,rfl,g3,r4⟩:=r3.inv
 obtain ⟨u4,q4,rfl,g4,r5⟩:=r4.inv
 obtain ⟨u5,q5,rfl,g5,r6⟩:=r5.inv
 obtain rfl:=r6.inv0
 exact ⟨a,u,u2,u3,u4,u5,rfl,sq,g,g2,g3,g4,g5⟩
end
end L2
namespace L2
open PySem PySem.Spec PyProof.Rows
section
variable {X : Cx}
def tCallV (T:Addr->Sp->Prop)(tf:TE)(t:TA):TE:=fun σ H Q=>tf σ H fun x H0=>∃ f sp,x=.ref f/\T f sp/\t σ H0 fun vs H1=>sp vs H1 Q E0
theorem pe_callV {T:Addr->Sp->Prop}{x:Str}{p pos:Pos}{e:Expr}{es:List Expr}{tf:TE}{t:TA}
  (hT:∀ f sp,T f sp->∃ k fd ps,FnOk X.prog X.w X.K X.mg X.base CX0 k f fd ps sp/\Room k X.A/\PySem.W.keepIn X.K (.ref f)=true/\Binds X.K fd ps [])
  (hf:PE X (.Name x p) tf) (ha:PA X (e::es) t) (he:starEach (e::es) X.env=(false,eval e X.env)::starEach es X.env:=by rfl) (hpl:(backTo pos (starEach es X.env)).any (·.1)=false:=by rfl) :
  PE X (.Call (.Name x p) (e::es) [] pos) (tCallV T tf t):=by
 intro pins s σ H Q I h
 refine wpAny_Call_Name_kw (thn (hf pins s σ H _ I h) fun u s0 ⟨v,H0,I0,rx,f,sp,ev,hTf,q⟩=>?_)
 subst ev
 obtain rfl:u=Value.ref f:=rx
 obtain ⟨k,fd,ps,F,hr,hk,hb⟩:=hT f sp hTf
 refine PySem.W.callWith_K (h₀:=X.base) I0.ok.mod.kin hk (thn (ha pos pins s0 σ H0 _ I0 q) fun us s1 ⟨vs,H1,I1,r,q⟩=>⟨I1.kIn,?_⟩) he hpl
 exact run_fn (E:=E0) (dvs:=[]) F hr hb .nil pass0 I1 r (by simpa using q)
section
variable {prog : Program} {w : World} {A : Around} {E : Value → Shared → Prop} {s : Shared}
end
theorem pi_tupK {l tg:Expr}{tl:TE}(K:PySem.W.Frag)(hK:X.K=K)(hl:PE X l tl):PI X tg l (iTup K tl):=by subst hK;exact pi_tup hl
theorem pe_fldK {e:Expr}{f:Str}{pos:Pos}{ta:TE}(K:PySem.W.Frag)(hK:X.K=K)(he:PE X e ta)(hb:attributeBase e f X.env (eval e X.env)=eval e X.env):PE X (.Attribute e f pos) (tFld K ta f):=by subst hK;exact pe_fld he hb
theorem pe_bm0K {T:String}{name:Str}{id:String}{r:V->List V->Hp->VK->Prop}{o:Expr}{to:TE}{apos cpos:Pos}(K:PySem.W.Frag)(hK:X.K=K)(pa:PlainAttrs T)(slot:Slot T name id)(hty:typeOf (.builtin id)=pure (.type "method_descriptor"))(hm:MtR X id r)(ho:PE X o to)
  (hbase:attributeBase o name X.env (eval o X.env)=eval o X.env:=by rfl) (hline:(apos.endLine == cpos.line)=true:=by rfl):PE X (.Call (.Attribute o name apos) [] [] cpos) (tBM0 K T r to):=by subst hK;exact pe_bm0 pa slot hty hm ho hbase hline
end
end L2
namespace L2
open PySem PySem.Spec PyProof.Rows
section
variable {X : Cx}
theorem op_catT0:OpR X (binaryOp .Add) (fun x y H Q=>∃ a b ys,x=.ref a/\y=.ref b/\SqT X.K H a []/\SqT X.K H b ys/\Q (.ref b) H):=by
 intro pins s σ H x y u v Q I rx ry h
 obtain ⟨a,b,ys,rfl,rfl,ha,hb,q⟩:=h
 cases rx
 cases ry
 obtain ⟨its,r1,ht,_⟩:=I.tuple ha
 obtain ⟨jts,r2,hb2,_⟩:=I.tuple hb
 cases r1
 obtain ⟨⟨cls,dd,data,sl⟩,ho,hc,n,hd⟩:=id ht
 obtain ⟨⟨cls2,dd2,data2,sl2⟩,ho2,hc2,n2,hd2⟩:=id hb2
 simp only at hc hd hc2 hd2
 subst hc hd hc2 hd2
 exact concat_meets ⟨_,ho,rfl⟩ ⟨_,ho2,rfl⟩ noFill_tuple_add seq_tuple_add PySem.F.slot_tuple_add PySem.F.entry_tuple_add (PySem.F.args_tuple_add_2 _ _)
   (tuple_addW0 a b _ jts.toArray n n2 dd dd2 sl sl2 (by simp)) ⟨ho,ho2,⟨.ref b,H,I,rfl,q⟩⟩
end
end L2
namespace L2
open PySem PySem.Spec PyProof.Rows
section
variable {X : Cx}
def rCatA (K:PySem.W.Frag):R2:=fun x y H Q=>∃ a b xs ys,x=.ref a/\y=.ref b/\SqT K H a xs/\SqT K H b ys/\xs.length + ys.length<=sizeLine/\∀ p H',Same H H'->SqT K H' p (xs++ys)->Q (.ref p) H'
theorem op_catTA:OpR X (binaryOp .Add) (rCatA X.K):=by
 intro pins s σ H x y u v Q I rx ry h
 obtain ⟨a,b,xs,ys,rfl,rfl,ha,hb,hz,k⟩:=h
 cases xs with
 | nil=>exact op_catT0 pins s σ H _ _ u v Q I rx ry ⟨a,b,ys,rfl,rfl,ha,hb,k b H (Same.refl _) hb⟩
 | cons x r =>
  exact op_catT pins s σ H _ _ u v Q I rx ry ⟨a,b,_,ys,rfl,rfl,ha,hb,(by simp),hz,(fun z=>by subst z;have:=k a H (Same.refl _);rw [List.append_nil] at this;exact this ha),fun _ p hp=>k p _ (same_new hp _) (SqT.of upd_same)⟩
end
end L2
namespace L2
open PySem PySem.Spec PyProof.Rows
def Isq (b:Bool)(h:Heap)(l:Addr)(xs:Array Value):Prop:=match b with | false=>h.IsList l xs | true=>h.IsTuple l xs
def Itq (b:Bool)(h:Heap)(i l:Addr)(k:Nat):Prop:=match b with | false=>h.IsListIter i l k | true=>h.IsTupleIter i l k
theorem Isq.at {b:Bool}{h h':Heap}{l:Addr}{xs:Array Value}(x:Isq b h l xs)(k:∀ o,h.get? l=some o->h'.get? l=some o):Isq b h' l xs:=by
 cases b with
 | false=>exact Heap.IsList.at (show h.IsList l xs from x) k
 | true=>obtain ⟨o,e,r⟩:=(show h.IsTuple l xs from x);exact ⟨o,k o e,r⟩
theorem Itq.at {b:Bool}{h h':Heap}{i l:Addr}{n:Nat}(x:Itq b h i l n)(k:∀ o,h.get? i=some o->h'.get? i=some o):Itq b h' i l n:=by
 cases b with
 | false=>exact Heap.IsListIter.at (show h.IsListIter i l n from x) k
 | true=>obtain ⟨o,e,r⟩:=(show h.IsTupleIter i l n from x);exact ⟨o,k o e,r⟩
theorem Isq.extBut {b:Bool}{h h':Heap}{l c:Addr}{xs:Array Value}(x:Isq b h l xs)(hs:Heap.ExtBut c h h')(hc:l≠c):Isq b h' l xs:=x.at fun o e=>hs l o hc e
theorem Itq.extBut {b:Bool}{h h':Heap}{i l c:Addr}{n:Nat}(x:Itq b h i l n)(hs:Heap.ExtBut c h h')(hc:i≠c):Itq b h' i l n:=x.at fun o e=>hs i o hc e
theorem Isq.got {b:Bool}{h:Heap}{l:Addr}{xs:Array Value}(x:Isq b h l xs):∃ o,h.get? l=some o:=by
 cases b with
 | false=>obtain ⟨o,e,_⟩:=(show h.IsList l xs from x);exact ⟨o,e⟩
 | true=>obtain ⟨o,e,_⟩:=(show h.IsTuple l xs from x);exact ⟨o,e⟩
section
variable {prog : Program} {w : World} {A : Around} {E : Value → Shared → Prop} {s : Shared}
theorem tup_next_item {it t:Addr}{i:Nat}{items:Array Value}{x:Value}{Q:Value->Shared->Prop}(hit:s.heap.IsTupleIter it t i)(ht:s.heap.IsTuple t items)(hx:items[i]?=some x)
  (hQ:∀ h',h'.IsTupleIter it t (i + 1)->Heap.SameBut it s.heap h'->Q x { s with heap:=h' }):wpAny (model prog w) A (Builtin.SmallTypes.nextOf (.ref it)) Q E s:=by
 obtain ⟨o,ho,hc,hd⟩:=id hit
 obtain ⟨ol,hol,_,nl,hdl⟩:=ht
 have hT:=hit.typeIs
 unfold Builtin.SmallTypes.nextOf
 refine wpAny_bind (wpAny_callSpecial?_slot (name:=Str.ofString "__next__") hT PySem.F.slot_tuple_iterator_next (wpAny_call_entry PySem.F.slot_tuple_iterator_next hT PySem.F.entry_tuple_iterator_next ?_ (PySem.F.args_tuple_iterator_next_1 _)))
 show wpAny _ _ (field (.ref it) 0 >>= _) _ _ s
 refine wpAny_bind (wpAny_field ho hd (x:=.ref t) rfl ?_)
 show wpAny _ _ (if (Value.ref t == Value.none)=true then _ else _) _ _ s
 rw [if_neg (show ¬ ((Value.ref t == Value.none)=true) from Bool.false_ne_true)]
 show wpAny _ _ (field (.ref it) 1 >>= _) _ _ s
 refine wpAny_bind (wpAny_field ho hd (x:=.int i 0) rfl ?_)
 show wpAny _ _ (seqItems? (.ref t) >>= _) _ _ s
 refine wpAny_bind (wpAny_seqItems hol hdl ?_)
 simp only [Int.toNat_natCast,hx]
 refine wpAny_bind (wpAny_setField ho hd (by simp) (wpAny_pure ⟨x,rfl,wpAny_pure (hQ _ ⟨_,Heap.get?_update_self _ ho (Obj.isFreed_of_fields (Obj.data_mapFields hd _)),(Obj.cls_mapFields ..).trans hc,?_⟩ (Heap.SameBut.update ..))⟩))
 rw [Obj.data_mapFields hd];simp [rawInt]
theorem tup_next_end {it t:Addr}{i:Nat}{items:Array Value}{Q:Value->Shared->Prop}(hh:A.handled=none)(hit:s.heap.IsTupleIter it t i)(ht:s.heap.IsTuple t items)(hx:items[i]?=none)
  (hE:∀ h' e,Heap.ExtBut it s.heap h'->(∃ o,h'.get? e=some o/\o.cls=.type "StopIteration")->E (.ref e) { s with heap:=h' }):wpAny (model prog w) A (Builtin.SmallTypes.nextOf (.ref it)) Q E s:=by
 obtain ⟨o,ho,hc,hd⟩:=id hit
 obtain ⟨ol,hol,_,nl,hdl⟩:=ht
 have hT:=hit.typeIs
 unfold Builtin.SmallTypes.nextOf
 refine wpAny_bind (wpAny_callSpecial?_slot (name:=Str.ofString "__next__") hT PySem.F.slot_tuple_iterator_next (wpAny_call_entry PySem.F.slot_tuple_iterator_next hT PySem.F.entry_tuple_iterator_next ?_ (PySem.F.args_tuple_iterator_next_1 _)))
 show wpAny _ _ (field (.ref it) 0 >>= _) _ _ s
 refine wpAny_bind (wpAny_field ho hd (x:=.ref t) rfl ?_)
 show wpAny _ _ (if (Value.ref t == Value.none)=true then _ else _) _ _ s
 rw [if_neg (show ¬ ((Value.ref t == Value.none)=true) from Bool.false_ne_true)]
 show wpAny _ _ (field (.ref it) 1 >>= _) _ _ s
 refine wpAny_bind (wpAny_field ho hd (x:=.int i 0) rfl ?_)
 show wpAny _ _ (seqItems? (.ref t) >>= _) _ _ s
 refine wpAny_bind (wpAny_seqItems hol hdl ?_)
 simp only [Int.toNat_natCast,hx]
 refine wpAny_bind (wpAny_rule (wpAny_bind (wpAny_setField ho hd (by simp) ?_)))
 show wpAny _ _ (newExc (.type "StopIteration") [] >>= _) _ _ _
 refine wpAny_bind ?_
 simp only [newExc,newTuple]
 refine wpAny_bind (wpAny_newObj_type ?_ (by size_fits))
 refine wpAny_bind (m:=firstArgMember _ _) (wpAny_of_eq (a:=Value.none) (by first | rfl | (simp only [firstArgMember];rfl)) ?_)
 refine wpAny_newObj_type ?_ (by size_fits)
 simp only [raiseNew]
 refine wpAny_bind (wpAny_handled ?_)
 first | rw [show A.in1.handled=none from hh] | rw [hh]
 refine wpAny_bind (wpAny_pure (wpAny_throw ?_))
 exact hE _ _ (((Heap.SameBut.update ..).extBut.push _).push _) ⟨_,Heap.get?_push_size _ rfl,rfl⟩
theorem nxq_item {b:Bool}{it l:Addr}{i:Nat}{items:Array Value}{x:Value}{Q:Value->Shared->Prop}(hit:Itq b s.heap it l i)(hl:Isq b s.heap l items)(hx:items[i]?=some x)
  (hQ:∀ h',Itq b h' it l (i + 1)->Heap.SameBut it s.heap h'->Q x { s with heap:=h' }):wpAny (model prog w) A (Builtin.SmallTypes.nextOf (.ref it)) Q E s:=by
 cases b with
 | false=>exact wpAny_nextOf_list_item hit hl hx hQ
 | true=>exact tup_next_item hit hl hx hQ
theorem nxq_end {b:Bool}{it l:Addr}{i:Nat}{items:Array Value}{Q:Value->Shared->Prop}(hh:A.handled=none)(hit:Itq b s.heap it l i)(hl:Isq b s.heap l items)(hx:items[i]?=none)
  (hE:∀ h' e,Heap.ExtBut it s.heap h'->(∃ o,h'.get? e=some o/\o.cls=.type "StopIteration")->E (.ref e) { s with heap:=h' }):wpAny (model prog w) A (Builtin.SmallTypes.nextOf (.ref it)) Q E s:=by
 cases b with
 | false=>exact wpAny_nextOf_list_end hh hit hl hx hE
 | true=>exact tup_next_end hh hit hl hx hE
abbrev itObj (b:Bool)(l:Addr):Obj:={ cls:=.type (cond b "tuple_iterator" "list_iterator"),data:=.fields #[.ref l,.int 0 0] }
theorem iterQ {b:Bool}{l:Addr}{items:Array Value}{Q:Value->Shared->Prop}(hl:Isq b s.heap l items)(hQ:Q (.ref s.heap.objs.size) { s with heap:=s.heap.push (itObj b l) }):wpAny (model prog w) A (pyIter (.ref l)) Q E s:=by
 cases b with
 | false=>exact wpAny_pyIter_list hl hQ
 | true=>exact wpAny_pyIter_tuple hl hQ
end
abbrev zq1 (b1:Bool)(h:Heap)(l1:Addr):Heap:=h.push (itObj b1 l1)
abbrev zq2 (b1 b2:Bool)(h:Heap)(l1 l2:Addr):Heap:=(zq1 b1 h l1).push (itObj b2 l2)
abbrev zq3 (b1 b2:Bool)(h:Heap)(l1 l2:Addr):Heap:=(zq2 b1 b2 h l1 l2).push { cls:=.type "tuple",data:=.seq #[.ref h.objs.size,.ref (zq1 b1 h l1).objs.size] }
abbrev zq4 (b1 b2:Bool)(h:Heap)(l1 l2:Addr):Heap:=(zq3 b1 b2 h l1 l2).push { cls:=.type "tuple",data:=.seq #[.none,.none] }
abbrev zq5 (b1 b2:Bool)(h:Heap)(l1 l2:Addr):Heap:=(zq4 b1 b2 h l1 l2).push { cls:=.type "zip",data:=.fields #[.none,.bool false,.bool false,.ref (zq2 b1 b2 h l1 l2).objs.size,.ref (zq3 b1 b2 h l1 l2).objs.size] }
theorem zq_new (b1 b2:Bool)(l1 l2:Addr)(xs ys:Array Value) :
  Meets (Builtin.«zip.__new__» ⟨[.type "zip",.ref l1,.ref l2],[]⟩) (fun _ R s=>Isq b1 s.heap l1 xs/\Isq b2 s.heap l2 ys/\R (.ok (.ret (.ref (zq4 b1 b2 s.heap l1 l2).objs.size))) { s with heap:=zq5 b1 b2 s.heap l1 l2 }) :=
 .of_wp fun prog w A R s h=>by
  obtain ⟨hp,g,d,tk,os⟩:=s
  obtain ⟨hl1,hl2,h⟩:=h
  have hsub:=sub_zip
  have hL1:Isq b1 (Shared.heap ⟨hp,g,d,tk,os⟩) l1 xs:=hl1
  have hL2:Isq b2 (Shared.heap ⟨hp.push (itObj b1 l1),g,d,tk,os⟩) l2 ys:=hl2.at fun o e=>Heap.get?_push_of_some _ e
  wp_walk using iterQ hL1,iterQ hL2
  exact ⟨_,rfl,h⟩
section
variable {prog : Program} {w : World} {A : Around} {E : Value → Shared → Prop} {s : Shared} {b1 b2 : Bool}
theorem it_of {b:Bool}{h:Heap}{i l:Addr}(e:h.get? i=some (itObj b l)):Itq b h i l 0:=by
 cases b with
 | false=>exact ⟨_,e,rfl,rfl⟩
 | true=>exact ⟨_,e,rfl,rfl⟩
theorem zq_call {l1 l2:Addr}{xs ys:Array Value}{Q:Value->Shared->Prop}(hl1:Isq b1 s.heap l1 xs)(hl2:Isq b2 s.heap l2 ys)
  (h:∀ h',IsZip h' (s.heap.objs.size + 4) (s.heap.objs.size + 2) (s.heap.objs.size + 3) .none->IsPair h' (s.heap.objs.size + 2) (.ref s.heap.objs.size) (.ref (s.heap.objs.size + 1)) ->
   IsPair h' (s.heap.objs.size + 3) .none .none->Itq b1 h' s.heap.objs.size l1 0->Itq b2 h' (s.heap.objs.size + 1) l2 0->h'.objs.size=s.heap.objs.size + 5 ->
   (∀ c o,s.heap.get? c=some o->h'.get? c=some o)->Q (.ref (s.heap.objs.size + 4)) { s with heap:=h' }) :
  wpAny (model prog w) A (call (.type "zip") [.ref l1,.ref l2]) Q E s:=by
 refine callType_new PySem.F.called_zip (by decide) (PySem.F.typeCall_zip_2 _ _) (PySem.F.newCall_zip_2 _ _) (fun obj=>PySem.F.args_object_init_3 obj _ _) PySem.F.entry_zip_new (zq_new b1 b2 l1 l2 xs ys) ⟨hl1,hl2,?_⟩
 have z1:(zq1 b1 s.heap l1).objs.size=s.heap.objs.size + 1:=Heap.size_push ..
 have z2:(zq2 b1 b2 s.heap l1 l2).objs.size=s.heap.objs.size + 2:=by rw [Heap.size_push,z1]
 have z3:(zq3 b1 b2 s.heap l1 l2).objs.size=s.heap.objs.size + 3:=by rw [Heap.size_push,z2]
 have z4:(zq4 b1 b2 s.heap l1 l2).objs.size=s.heap.objs.size + 4:=by rw [Heap.size_push,z3]
 have z5:(zq5 b1 b2 s.heap l1 l2).objs.size=s.heap.objs.size + 5:=by rw [Heap.size_push,z4]
 have up:∀ {h:Heap} {c:Addr} {o:Obj} (x:Obj),h.get? c=some o->(h.push x).get? c=some o:=fun x e=>Heap.get?_push_of_some _ e
 have g5:(zq5 b1 b2 s.heap l1 l2).get? (zq4 b1 b2 s.heap l1 l2).objs.size=some _:=Heap.get?_push_size _ rfl
 have g4:(zq5 b1 b2 s.heap l1 l2).get? (zq3 b1 b2 s.heap l1 l2).objs.size=some _:=up _ (Heap.get?_push_size _ rfl)
 have g3:(zq5 b1 b2 s.heap l1 l2).get? (zq2 b1 b2 s.heap l1 l2).objs.size=some _:=up _ (up _ (Heap.get?_push_size _ rfl))
 have g2:(zq5 b1 b2 s.heap l1 l2).get? (zq1 b1 s.heap l1).objs.size=some (itObj b2 l2):=up _ (up _ (up _ (Heap.get?_push_size _ rfl)))
 have g1:(zq5 b1 b2 s.heap l1 l2).get? s.heap.objs.size=some (itObj b1 l1):=up _ (up _ (up _ (up _ (Heap.get?_push_size _ rfl))))
 show _/\_
 rw [z2,z3,z4] at g5
 rw [z1,z2] at g3
 rw [z3] at g4
 rw [z1] at g2
 rw [z4]
 exact ⟨⟨_,g5,rfl⟩,h _ g5 g3 g4 (it_of g1) (it_of g2) z5 fun c o x=>up _ (up _ (up _ (up _ (up _ x))))⟩
theorem zq_item {z TI TO i1 i2 l1 l2:Addr}{k1 k2:Nat}{xs ys:Array Value}{x y a b:Value}{Q:Option Value->Shared->Prop}(D:ZipApart z TI TO i1 i2 l1 l2)(hz:IsZip s.heap z TI TO .none)(hTI:IsPair s.heap TI (.ref i1) (.ref i2))(hTO:IsPair s.heap TO a b)
  (h1:Itq b1 s.heap i1 l1 k1) (h2:Itq b2 s.heap i2 l2 k2) (hl1:Isq b1 s.heap l1 xs) (hl2:Isq b2 s.heap l2 ys) (hx:xs[k1]?=some x) (hy:ys[k2]?=some y)
  (hQ:∀ h',IsZip h' z TI TO (rawInt s.heap.objs.size)->IsPair h' TO x y->Itq b1 h' i1 l1 (k1 + 1)->Itq b2 h' i2 l2 (k2 + 1)->IsPair h' s.heap.objs.size x y->h'.objs.size=s.heap.objs.size + 1 ->
   (∀ c o,c≠z->c≠TO->c≠i1->c≠i2->s.heap.get? c=some o->h'.get? c=some o)->Q (some (.ref s.heap.objs.size)) { s with heap:=h' }) :
  wpAny (model prog w) A (pyNext (.ref z)) Q E s:=by
 have hTy:s.TypeIs (.ref z) "zip":=⟨_,hz,rfl⟩
 unfold pyNext
 refine wpAny_bind (wpAny_attempt (wpAny_callSpecial?_slot (name:=Str.ofString "__next__") hTy PySem.F.slot_zip_next (wpAny_call_entry PySem.F.slot_zip_next hTy PySem.F.entry_zip_next ?_ (PySem.F.args_zip_next_1 _))))
 show wpAny _ _ (field (.ref z) 2 >>= _) _ _ _
 refine wpAny_bind (wpAny_field hz rfl (x:=.bool false) rfl ?_)
 show wpAny _ _ (field (.ref z) 3 >>= _) _ _ _
 refine wpAny_bind (wpAny_field hz rfl (x:=.ref TI) rfl (wpAny_bind (wpAny_seqItems hTI rfl ?_)))
 show wpAny _ _ (Builtin.SmallTypes.ownedTupleIsFree (.ref z) >>= _) _ _ _
 refine wpAny_bind ?_
 unfold Builtin.SmallTypes.ownedTupleIsFree
 refine wpAny_bind (wpAny_field hz rfl (x:=.none) rfl (wpAny_pure ?_))
 simp only [if_true]
 refine wpAny_bind (wpAny_rule (wpAny_bind (wpAny_field hz rfl (x:=.ref TO) rfl ?_)))
 refine wpAny_bind (wpAny_setField_rec hz (by simp) fun h₁ hz₁ hs₁=>?_)
 replace hz₁:IsZip h₁ z TI TO .ellipsis:=hz₁
 refine wpAny_bind ?_
 simp only [List.zipIdx_cons,List.zipIdx_nil,List.forIn_cons,List.forIn_nil]
 refine wpAny_bind (wpAny_bind (wpAny_onRaise ?_))
 show wpAny _ _ (Builtin.SmallTypes.nextOf (.ref i1) >>= _) _ _ _
 refine wpAny_bind (nxq_item (h1.extBut hs₁.extBut D.i1z) (hl1.extBut hs₁.extBut D.l1z) hx fun h₂ h1₂ hs₂=>wpAny_pure ?_)
 have hTO₂:IsPair h₂ TO a b:=hs₂.extBut _ _ D.TOi1 (hs₁.extBut _ _ D.TOz hTO)
 refine wpAny_bind (wpAny_seqItems hTO₂ rfl (wpAny_bind (wpAny_updateSeq_pair hTO₂ fun h₃ hTO₃ hs₃=>?_)))
 replace hTO₃:IsPair h₃ TO x b:=hTO₃
 refine wpAny_bind (wpAny_letGo (wpAny_pure ?_))
 refine wpAny_bind (wpAny_bind (wpAny_onRaise ?_))
 show wpAny _ _ (Builtin.SmallTypes.nextOf (.ref i2) >>= _) _ _ _
 refine wpAny_bind (nxq_item (((h2.extBut hs₁.extBut D.i2z).extBut hs₂.extBut D.i12.symm).extBut hs₃.extBut D.TOi2.symm) (((hl2.extBut hs₁.extBut D.l2z).extBut hs₂.extBut D.l2i1).extBut hs₃.extBut D.l2TO) hy fun h₄ h2₄ hs₄=>wpAny_pure ?_)
 have hTO₄:IsPair h₄ TO x b:=hs₄.extBut _ _ D.TOi2 hTO₃
 refine wpAny_bind (wpAny_seqItems hTO₄ rfl (wpAny_bind (wpAny_updateSeq_pair hTO₄ fun h₅ hTO₅ hs₅=>?_)))
 replace hTO₅:IsPair h₅ TO x y:=hTO₅
 refine wpAny_bind (wpAny_letGo (wpAny_pure (wpAny_pure (wpAny_bind (wpAny_seqItems hTO₅ rfl (wpAny_bind (wpAny_newTuple ?_)))))))
 have hsz:h₅.objs.size=s.heap.objs.size:=by rw [hs₅.1,hs₄.1,hs₃.1,hs₂.1,hs₁.1]
 have hz₅:IsZip h₅ z TI TO .ellipsis:=hs₅.extBut _ _ D.TOz.symm (hs₄.extBut _ _ D.i2z.symm (hs₃.extBut _ _ D.TOz.symm (hs₂.extBut _ _ D.i1z.symm hz₁)))
 have hk₅:∀ c o,c≠z->c≠TO->c≠i1->c≠i2->s.heap.get? c=some o->h₅.get? c=some o:=fun c o c1 c2 c3 c4 e=>hs₅.extBut _ _ c2 (hs₄.extBut _ _ c4 (hs₃.extBut _ _ c2 (hs₂.extBut _ _ c3 (hs₁.extBut _ _ c1 e))))
 have h1₅:Itq b1 h₅ i1 l1 (k1 + 1):=((h1₂.extBut hs₃.extBut D.TOi1.symm).extBut hs₄.extBut D.i12).extBut hs₅.extBut D.TOi1.symm
 have h2₅:Itq b2 h₅ i2 l2 (k2 + 1):=h2₄.extBut hs₅.extBut D.TOi2.symm
 have hzlt:z < h₅.objs.size:=Heap.lt_size hz₅
 show wpAny _ _ (Builtin.SmallTypes.ownedTupleHandOut (.ref z) (.ref h₅.objs.size) >>= _) _ _ _
 refine wpAny_bind ?_
 unfold Builtin.SmallTypes.ownedTupleHandOut
 have hz₆:IsZip (h₅.push { cls:=.type "tuple",data:=.seq #[x,y] }) z TI TO .ellipsis:=Heap.get?_push_of_some _ hz₅
 refine wpAny_bind (wpAny_setField_rec hz₆ (by simp) fun h₇ hz₇ hs₇=>?_)
 replace hz₇:IsZip h₇ z TI TO (rawInt h₅.objs.size):=hz₇
 refine wpAny_setField_rec hz₇ (by simp) fun h₈ hz₈ hs₈=>?_
 replace hz₈:IsZip h₈ z TI TO (rawInt h₅.objs.size):=hz₈
 have up:∀ c o,c≠z->h₅.get? c=some o->h₈.get? c=some o:=fun c o c1 e=>hs₈.extBut _ _ c1 (hs₇.extBut _ _ c1 (Heap.get?_push_of_some _ e))
 have hT₈:IsPair h₈ h₅.objs.size x y:=hs₈.extBut _ _ (Nat.ne_of_gt hzlt) (hs₇.extBut _ _ (Nat.ne_of_gt hzlt) (Heap.get?_push_size _ rfl))
 have hz8:h₈.objs.size=h₅.objs.size + 1:=by rw [hs₈.1,hs₇.1,Heap.size_push]
 rw [hsz] at hz₈ hT₈ hz8
 refine wpAny_pure ⟨_,rfl,wpAny_pure ?_⟩
 show Q (some (.ref h₅.objs.size)) _
 rw [hsz]
 exact hQ h₈ hz₈ (up _ _ D.TOz hTO₅) (h1₅.at fun o e=>up _ o D.i1z e) (h2₅.at fun o e=>up _ o D.i2z e) hT₈ hz8 fun c o c1 c2 c3 c4 e=>up c o c1 (hk₅ c o c1 c2 c3 c4 e)
theorem zq_end {z TI TO i1 i2 l1 l2:Addr}{k1 k2:Nat}{xs ys:Array Value}{a b:Value}{Q:Option Value->Shared->Prop}(hh:A.handled=none)(D:ZipApart z TI TO i1 i2 l1 l2)(hz:IsZip s.heap z TI TO .none)(hTI:IsPair s.heap TI (.ref i1) (.ref i2))(hTO:IsPair s.heap TO a b)
  (h1:Itq b1 s.heap i1 l1 k1) (h2:Itq b2 s.heap i2 l2 k2) (hl1:Isq b1 s.heap l1 xs) (hl2:Isq b2 s.heap l2 ys) (hend:xs[k1]?=none\/ys[k2]?=none)
  (hQ:∀ h',(∀ c o,c≠z->c≠TO->c≠i1->c≠i2->s.heap.get? c=some o->h'.get? c=some o)->Q none { s with heap:=h' }):wpAny (model prog w) A (pyNext (.ref z)) Q E s:=by
 have hTy:s.TypeIs (.ref z) "zip":=⟨_,hz,rfl⟩
 have stop:∀ (h':Heap) (e:Addr),(∀ c o,c≠z->c≠TO->c≠i1->c≠i2->s.heap.get? c=some o->h'.get? c=some o)->(∃ o,h'.get? e=some o/\o.cls=.type "StopIteration") ->
   wpAny (model prog w) A (do if (←isInstance (.ref e) (.type "StopIteration")) then pure none else throw (.ref e)) Q E { s with heap:=h' }:=fun h' e hk ⟨o,ho,hc⟩ =>
  wpAny_bind (wpAny_isInstance (T:="StopIteration") (b:=true) ⟨o,ho,hc⟩ isSubtype_stop (wpAny_pure (hQ _ hk)))
 unfold pyNext
 refine wpAny_bind (wpAny_attempt (wpAny_callSpecial?_slot (name:=Str.ofString "__next__") hTy PySem.F.slot_zip_next (wpAny_call_entry PySem.F.slot_zip_next hTy PySem.F.entry_zip_next ?_ (PySem.F.args_zip_next_1 _))))
 show wpAny _ _ (field (.ref z) 2 >>= _) _ _ _
 refine wpAny_bind (wpAny_field hz rfl (x:=.bool false) rfl ?_)
 show wpAny _ _ (field (.ref z) 3 >>= _) _ _ _
 refine wpAny_bind (wpAny_field hz rfl (x:=.ref TI) rfl (wpAny_bind (wpAny_seqItems hTI rfl ?_)))
 show wpAny _ _ (Builtin.SmallTypes.ownedTupleIsFree (.ref z) >>= _) _ _ _
 refine wpAny_bind ?_
 unfold Builtin.SmallTypes.ownedTupleIsFree
 refine wpAny_bind (wpAny_field hz rfl (x:=.none) rfl (wpAny_pure ?_))
 simp only [if_true]
 refine wpAny_bind (wpAny_rule (wpAny_bind (wpAny_field hz rfl (x:=.ref TO) rfl ?_)))
 refine wpAny_bind (wpAny_setField_rec hz (by simp) fun h₁ hz₁ hs₁=>?_)
 replace hz₁:IsZip h₁ z TI TO .ellipsis:=hz₁
 refine wpAny_bind ?_
 simp only [List.zipIdx_cons,List.zipIdx_nil,List.forIn_cons,List.forIn_nil]
 refine wpAny_bind (wpAny_bind (wpAny_onRaise ?_))
 show wpAny _ _ (Builtin.SmallTypes.nextOf (.ref i1) >>= _) _ _ _
 cases hx:xs[k1]? with
 | none =>
  refine wpAny_bind (nxq_end hh (h1.extBut hs₁.extBut D.i1z) (hl1.extBut hs₁.extBut D.l1z) hx fun h₂ e hs₂ he=>?_)
  obtain ⟨oe,hoe,hce⟩:=he
  have hz₂:IsZip h₂ z TI TO .ellipsis:=hs₂ _ _ D.i1z.symm hz₁
  have hez:e≠z:=fun x=>by subst x;rw [hz₂] at hoe;cases hoe;simp at hce
  exact wpAny_setField_rec hz₂ (by simp) fun h₃ _ hs₃=>stop h₃ e (fun c o c1 _ c3 _ x=>hs₃.extBut _ _ c1 (hs₂ _ _ c3 (hs₁.extBut _ _ c1 x))) ⟨oe,hs₃.extBut _ _ hez hoe,hce⟩
 | some x =>
  have hy:ys[k2]?=none:=by
   rcases hend with h | h
   ·rw [hx] at h;cases h
   ·exact h
  refine wpAny_bind (nxq_item (h1.extBut hs₁.extBut D.i1z) (hl1.extBut hs₁.extBut D.l1z) hx fun h₂ h1₂ hs₂=>wpAny_pure ?_)
  have hTO₂:IsPair h₂ TO a b:=hs₂.extBut _ _ D.TOi1 (hs₁.extBut _ _ D.TOz hTO)
  refine wpAny_bind (wpAny_seqItems hTO₂ rfl (wpAny_bind (wpAny_updateSeq_pair hTO₂ fun h₃ hTO₃ hs₃=>?_)))
  refine wpAny_bind (wpAny_letGo (wpAny_pure ?_))
  refine wpAny_bind (wpAny_bind (wpAny_onRaise ?_))
  show wpAny _ _ (Builtin.SmallTypes.nextOf (.ref i2) >>= _) _ _ _
  refine wpAny_bind (nxq_end hh (((h2.extBut hs₁.extBut D.i2z).extBut hs₂.extBut D.i12.symm).extBut hs₃.extBut D.TOi2.symm) (((hl2.extBut hs₁.extBut D.l2z).extBut hs₂.extBut D.l2i1).extBut hs₃.extBut D.l2TO) hy fun h₄ e hs₄ he=>?_)
  obtain ⟨oe,hoe,hce⟩:=he
  have hz₄:IsZip h₄ z TI TO .ellipsis:=hs₄ _ _ D.i2z.symm (hs₃.extBut _ _ D.TOz.symm (hs₂.extBut _ _ D.i1z.symm hz₁))
  have hez:e≠z:=fun x=>by subst x;rw [hz₄] at hoe;cases hoe;simp at hce
  exact wpAny_setField_rec hz₄ (by simp) fun h₅ _ hs₅=>stop h₅ e (fun c o c1 c2 c3 c4 x=>hs₅.extBut _ _ c1 (hs₄ _ _ c4 (hs₃.extBut _ _ c2 (hs₂.extBut _ _ c3 (hs₁.extBut _ _ c1 x))))) ⟨oe,hs₅.extBut _ _ hez hoe,hce⟩
end
end L2
namespace L2
open PySem PySem.Spec PyProof.Rows
section
variable {prog : Program} {w : World} {A : Around} {E : Value → Shared → Prop} {s : Shared} {b1 b2 : Bool}
theorem zip_busy_itemQ {z TI TO i1 i2 l1 l2 T:Addr}{flag:Bool}{oT:Obj}{k1 k2:Nat}{xs ys:Array Value}{x y:Value}{Q:Option Value->Shared->Prop}(D:ZipApart z TI TO i1 i2 l1 l2)
  (hz:ZipN s.heap z TI TO T flag) (hT:s.heap.get? T=some oT) (hTI:IsPair s.heap TI (.ref i1) (.ref i2))
  (h1:Itq b1 s.heap i1 l1 k1) (h2:Itq b2 s.heap i2 l2 k2) (hl1:Isq b1 s.heap l1 xs) (hl2:Isq b2 s.heap l2 ys) (hx:xs[k1]?=some x) (hy:ys[k2]?=some y)
  (hQ:∀ h',ZipN h' z TI TO T true->Itq b1 h' i1 l1 (k1 + 1)->Itq b2 h' i2 l2 (k2 + 1)->IsPair h' s.heap.objs.size x y ->
   (∀ c o,c≠z->c≠i1->c≠i2->s.heap.get? c=some o->h'.get? c=some o)->Q (some (.ref s.heap.objs.size)) { s with heap:=h' }) :
  wpAny (model prog w) A (pyNext (.ref z)) Q E s:=by
 have hTy:s.TypeIs (.ref z) "zip":=⟨_,hz,rfl⟩
 unfold pyNext
 refine wpAny_bind (wpAny_attempt (wpAny_callSpecial?_slot (name:=Str.ofString "__next__") hTy PySem.F.slot_zip_next
  (wpAny_call_entry PySem.F.slot_zip_next hTy PySem.F.entry_zip_next ?_ (PySem.F.args_zip_next_1 _))))
 show wpAny _ _ (field (.ref z) 2 >>= _) _ _ _
 refine wpAny_bind (wpAny_field hz rfl (x:=.bool false) rfl ?_)
 show wpAny _ _ (field (.ref z) 3 >>= _) _ _ _
 refine wpAny_bind (wpAny_field hz rfl (x:=.ref TI) rfl ?_)
 refine wpAny_bind (wpAny_seqItems hTI rfl ?_)
 show wpAny _ _ (Builtin.SmallTypes.ownedTupleIsFree (.ref z) >>= _) _ _ _
 refine wpAny_bind (busy_free hz hT fun h₁ hz₁ hs₁=>?_)
 simp only [Bool.false_eq_true,if_false]
 refine wpAny_bind ?_
 simp only [←Array.forIn_toList,List.forIn_cons,List.forIn_nil]
 refine wpAny_bind (wpAny_bind (wpAny_holding ?_))
 show wpAny _ _ (Builtin.SmallTypes.nextOf (.ref i1) >>= _) _ _ _
 refine wpAny_bind (nxq_item (h1.extBut hs₁.extBut D.i1z) (hl1.extBut hs₁.extBut D.l1z) hx fun h₂ h1₂ hs₂=>wpAny_pure (wpAny_pure ?_))
 dsimp only
 refine wpAny_bind (wpAny_bind (wpAny_holding ?_))
 show wpAny _ _ (Builtin.SmallTypes.nextOf (.ref i2) >>= _) _ _ _
 refine wpAny_bind (nxq_item ((h2.extBut hs₁.extBut D.i2z).extBut hs₂.extBut D.i12.symm) ((hl2.extBut hs₁.extBut D.l2z).extBut hs₂.extBut D.l2i1) hy fun h₃ h2₃ hs₃=>wpAny_pure (wpAny_pure (wpAny_pure ?_)))
 dsimp only
 refine wpAny_bind (wpAny_newTuple (hsz:=by show 2<=sizeLine;decide) ?_)
 have hsz:h₃.objs.size=s.heap.objs.size:=by rw [hs₃.1,hs₂.1,hs₁.1]
 have hz₃:ZipN h₃ z TI TO T true:=hs₃.extBut _ _ D.i2z.symm (hs₂.extBut _ _ D.i1z.symm hz₁)
 have hk:∀ c o,c≠z->c≠i1->c≠i2->s.heap.get? c=some o->h₃.get? c=some o:=fun c o c1 c3 c4 e=>hs₃.extBut _ _ c4 (hs₂.extBut _ _ c3 (hs₁.extBut _ _ c1 e))
 have h1₃:Itq b1 h₃ i1 l1 (k1 + 1):=h1₂.extBut hs₃.extBut D.i12
 refine wpAny_pure ⟨_,rfl,wpAny_pure ?_⟩
 show Q (some (.ref h₃.objs.size)) _
 have hT3:IsPair (h₃.push { cls:=.type "tuple",data:=.seq #[x,y] }) h₃.objs.size x y:=Heap.get?_push_size _ rfl
 have fin:=hQ (h₃.push { cls:=.type "tuple",data:=.seq #[x,y] }) (Heap.get?_push_of_some _ hz₃) (h1₃.at fun o e=>Heap.get?_push_of_some _ e) (h2₃.at fun o e=>Heap.get?_push_of_some _ e) (by rw [←hsz];exact hT3) fun c o c1 c3 c4 e=>Heap.get?_push_of_some _ (hk c o c1 c3 c4 e)
 rw [←hsz] at fin
 exact fin
theorem zip_busy_endQ {z TI TO i1 i2 l1 l2 T:Addr}{flag:Bool}{oT:Obj}{k1:Nat}{xs:Array Value}{Q:Option Value->Shared->Prop}(hh:A.handled=none)(D:ZipApart z TI TO i1 i2 l1 l2)
  (hz:ZipN s.heap z TI TO T flag) (hT:s.heap.get? T=some oT) (hTI:IsPair s.heap TI (.ref i1) (.ref i2))
  (h1:Itq b1 s.heap i1 l1 k1) (hl1:Isq b1 s.heap l1 xs) (hx:xs[k1]?=none)
  (hQ:∀ h',(∀ c o,c≠z->c≠i1->c≠i2->s.heap.get? c=some o->h'.get? c=some o)->Q none { s with heap:=h' }) :
  wpAny (model prog w) A (pyNext (.ref z)) Q E s:=by
 have hTy:s.TypeIs (.ref z) "zip":=⟨_,hz,rfl⟩
 unfold pyNext
 refine wpAny_bind (wpAny_attempt (wpAny_callSpecial?_slot (name:=Str.ofString "__next__") hTy PySem.F.slot_zip_next
  (wpAny_call_entry PySem.F.slot_zip_next hTy PySem.F.entry_zip_next ?_ (PySem.F.args_zip_next_1 _))))
 show wpAny _ _ (field (.ref z) 2 >>= _) _ _ _
 refine wpAny_bind (wpAny_field hz rfl (x:=.bool false) rfl ?_)
 show wpAny _ _ (field (.ref z) 3 >>= _) _ _ _
 refine wpAny_bind (wpAny_field hz rfl (x:=.ref TI) rfl ?_)
 refine wpAny_bind (wpAny_seqItems hTI rfl ?_)
 show wpAny _ _ (Builtin.SmallTypes.ownedTupleIsFree (.ref z) >>= _) _ _ _
 refine wpAny_bind (busy_free hz hT fun h₁ hz₁ hs₁=>?_)
 simp only [Bool.false_eq_true,if_false]
 refine wpAny_bind ?_
 simp only [←Array.forIn_toList,List.forIn_cons,List.forIn_nil]
 refine wpAny_bind (wpAny_bind (wpAny_holding ?_))
 show wpAny _ _ (Builtin.SmallTypes.nextOf (.ref i1) >>= _) _ _ _
 refine wpAny_bind (nxq_end hh (h1.extBut hs₁.extBut D.i1z) (hl1.extBut hs₁.extBut D.l1z) hx fun h₂ e hs₂ he=>?_)
 obtain ⟨oe,hoe,hce⟩:=he
 refine wpAny_bind (wpAny_isInstance (T:="StopIteration") (b:=true) ⟨oe,hoe,hce⟩ isSubtype_stop ?_)
 exact wpAny_pure (hQ _ fun c o c1 c2 _ e'=>hs₂ _ _ c2 (hs₁.extBut _ _ c1 e'))
theorem zip_busy_endQ2 {z TI TO i1 i2 l1 l2 T:Addr}{flag:Bool}{oT:Obj}{k1 k2:Nat}{xs ys:Array Value}{x:Value}{Q:Option Value->Shared->Prop}(hh:A.handled=none)(D:ZipApart z TI TO i1 i2 l1 l2)
  (hz:ZipN s.heap z TI TO T flag) (hT:s.heap.get? T=some oT) (hTI:IsPair s.heap TI (.ref i1) (.ref i2))
  (h1:Itq b1 s.heap i1 l1 k1) (h2:Itq b2 s.heap i2 l2 k2) (hl1:Isq b1 s.heap l1 xs) (hl2:Isq b2 s.heap l2 ys) (hx:xs[k1]?=some x) (hy:ys[k2]?=none)
  (hQ:∀ h',(∀ c o,c≠z->c≠i1->c≠i2->s.heap.get? c=some o->h'.get? c=some o)->Q none { s with heap:=h' }) :
  wpAny (model prog w) A (pyNext (.ref z)) Q E s:=by
 have hTy:s.TypeIs (.ref z) "zip":=⟨_,hz,rfl⟩
 unfold pyNext
 refine wpAny_bind (wpAny_attempt (wpAny_callSpecial?_slot (name:=Str.ofString "__next__") hTy PySem.F.slot_zip_next
  (wpAny_call_entry PySem.F.slot_zip_next hTy PySem.F.entry_zip_next ?_ (PySem.F.args_zip_next_1 _))))
 show wpAny _ _ (field (.ref z) 2 >>= _) _ _ _
 refine wpAny_bind (wpAny_field hz rfl (x:=.bool false) rfl ?_)
 show wpAny _ _ (field (.ref z) 3 >>= _) _ _ _
 refine wpAny_bind (wpAny_field hz rfl (x:=.ref TI) rfl ?_)
 refine wpAny_bind (wpAny_seqItems hTI rfl ?_)
 show wpAny _ _ (Builtin.SmallTypes.ownedTupleIsFree (.ref z) >>= _) _ _ _
 refine wpAny_bind (busy_free hz hT fun h₁ hz₁ hs₁=>?_)
 simp only [Bool.false_eq_true,if_false]
 refine wpAny_bind ?_
 simp only [←Array.forIn_toList,List.forIn_cons,List.forIn_nil]
 refine wpAny_bind (wpAny_bind (wpAny_holding ?_))
 show wpAny _ _ (Builtin.SmallTypes.nextOf (.ref i1) >>= _) _ _ _
 refine wpAny_bind (nxq_item (h1.extBut hs₁.extBut D.i1z) (hl1.extBut hs₁.extBut D.l1z) hx fun h₂ h1₂ hs₂=>wpAny_pure (wpAny_pure ?_))
 dsimp only
 refine wpAny_bind (wpAny_bind (wpAny_holding ?_))
 show wpAny _ _ (Builtin.SmallTypes.nextOf (.ref i2) >>= _) _ _ _
 refine wpAny_bind (nxq_end hh ((h2.extBut hs₁.extBut D.i2z).extBut hs₂.extBut D.i12.symm) ((hl2.extBut hs₁.extBut D.l2z).extBut hs₂.extBut D.l2i1) hy fun h₃ e hs₃ he=>?_)
 obtain ⟨oe,hoe,hce⟩:=he
 refine wpAny_bind (wpAny_isInstance (T:="StopIteration") (b:=true) ⟨oe,hoe,hce⟩ isSubtype_stop ?_)
 exact wpAny_pure (hQ _ fun c o c1 c2 c3 e'=>hs₃ _ _ c3 (hs₂.extBut _ _ c2 (hs₁.extBut _ _ c1 e')))
end
structure ZAtQ (b1 b2:Bool) (h:Heap) (z TI TO i1 i2 l1 l2 lo:Nat) (xs ys:Array Value) (i:Nat):Prop where
 ti:IsPair h TI (.ref i1) (.ref i2)
 it1:Itq b1 h i1 l1 i
 it2:Itq b2 h i2 l2 i
 ls1:Isq b1 h l1 xs
 ls2:Isq b2 h l2 ys
 st:(i=0/\IsZip h z TI TO .none/\∃ a b,IsPair h TO a b)\/∃ (T:Nat) (flag:Bool) (oT:Obj),ZipN h z TI TO T flag/\h.get? T=some oT/\lo<=T
section
variable {prog : Program} {w : World} {A : Around} {R : Result → Shared → Prop} {s : Shared} {b1 b2 : Bool}
theorem zip_loopQ {z TI TO i1 i2 l1 l2 S lo n:Nat}{xs ys:Array Value}(hh:A.handled=none)(D:ZipApart z TI TO i1 i2 l1 l2)(hS:S≠z/\S≠TI/\S≠TO/\S≠i1/\S≠i2/\S≠l1/\S≠l2)
  (hL:z < lo/\TO < lo/\i1 < lo/\i2 < lo/\S < lo) (hnx:n<=xs.size) (hny:n<=ys.size) (hend:xs[n]?=none\/ys[n]?=none) (hn:n<=sizeLine) (res:Value) {h₁:Heap}
  (hR:∀ h' tk acc c (as:List Nat),(∀ b o,b≠S->b≠z->b≠TO->b≠i1->b≠i2->h₁.get? b=some o->h'.get? b=some o)->h'.get? S=some { cls:=.type "list",dict:=none,data:=.seq acc c,slots:=#[] }->as.length=n->ZTold h' lo xs ys as ->
   acc.toList=as.map Value.ref->R (.ok (.ret res)) { s with heap:=h',toks:=tk }) :
  ∀ (k i:Nat) (h:Heap) (tk c:Nat) (acc:Array Value) (as:List Nat),n - i=k->i<=n->ZAtQ b1 b2 h z TI TO i1 i2 l1 l2 lo xs ys i ->
   (∀ b o,b≠S->b≠z->b≠TO->b≠i1->b≠i2->h₁.get? b=some o->h.get? b=some o)->lo<=h.objs.size ->
   h.get? S=some { cls:=.type "list",dict:=none,data:=.seq acc c,slots:=#[] }->acc.toList=as.map Value.ref->as.length=i->ZTold h lo xs ys as ->
   codeAny (model prog w) A (.builtin "list.extend.loop" ⟨[.ref S,.ref z,res],[]⟩) R { s with heap:=h,toks:=tk }:=by
 obtain ⟨s1,s2,s3,s4,s5,s6,s7⟩:=hS
 obtain ⟨L1,L2,L3,L4,L5⟩:=hL
 have up:∀ {a b:Nat},b < lo->lo<=a->a≠b:=fun h1 h2=>Nat.ne_of_gt (Nat.lt_of_lt_of_le h1 h2)
 intro k
 induction k with
 | zero =>
  intro i h tk c acc as hk hi hst hkeep hlo hS hacc hal hG
  have hin:i=n:=by omega
  subst hin
  refine codeAny_builtin PySem.F.entry_extend_loop ?_
  rw [Around.under_plainId PySem.F.plain_extend_loop _]
  show wpAny _ A.in1 (pyNext (.ref z) >>= _) _ _ _
  have fin:∀ h':Heap,(∀ c o,c≠z->c≠TO->c≠i1->c≠i2->h.get? c=some o->h'.get? c=some o)->R (.ok (.ret res)) { s with heap:=h',toks:=tk }:=fun h' hq =>
   hR h' tk acc c as (fun b o b1 b2 b3 b4 b5 e=>hq b o b2 b3 b4 b5 (hkeep b o b1 b2 b3 b4 b5 e)) (hq S _ s1 s3 s4 s5 hS) hal (hG.keep fun (c:Nat) o hc e=>hq c o (up L1 hc) (up L2 hc) (up L3 hc) (up L4 hc) e) hacc
  rcases hst.st with ⟨e0,hz,a,b,hTO⟩ | ⟨T,flag,oT,hz,hT,hTlo⟩
  ·exact wpAny_bind (zq_end (s:={ s with heap:=h,toks:=tk }) (A:=A.in1) hh D hz hst.ti hTO hst.it1 hst.it2 hst.ls1 hst.ls2 hend fun h' hq=>wpAny_pure (fin h' hq))
  ·cases hx:xs[i]? with
   | none=>exact wpAny_bind (zip_busy_endQ (s:={ s with heap:=h,toks:=tk }) (A:=A.in1) hh D hz hT hst.ti hst.it1 hst.ls1 hx fun h' hq=>wpAny_pure (fin h' fun c o c1 _ c3 c4 e=>hq c o c1 c3 c4 e))
   | some x =>
    have hy:ys[i]?=none:=hend.resolve_left (by rw [hx];intro z;cases z)
    exact wpAny_bind (zip_busy_endQ2 (s:={ s with heap:=h,toks:=tk }) (A:=A.in1) hh D hz hT hst.ti hst.it1 hst.it2 hst.ls1 hst.ls2 hx hy fun h' hq=>wpAny_pure (fin h' fun c o c1 _ c3 c4 e=>hq c o c1 c3 c4 e))
 | succ k ih =>
  intro i h tk c acc as hk hi hst hkeep hlo hS hacc hal hG
  have hlt:i < xs.size:=by omega
  have hltn:i < n:=by omega
  have hlt2:i < ys.size:=by omega
  have hx:xs[i]?=some xs[i]:=Array.getElem?_eq_getElem hlt
  have hy:ys[i]?=some ys[i]:=Array.getElem?_eq_getElem hlt2
  have hasz:acc.size=i:=by rw [←hal,←List.length_map (f:=Value.ref),←hacc];simp
  refine codeAny_builtin PySem.F.entry_extend_loop ?_
  rw [Around.under_plainId PySem.F.plain_extend_loop _]
  show wpAny _ A.in1 (pyNext (.ref z) >>= _) _ _ _
  -- what follows a turn
  have next:∀ h':Heap,(∃ (T:Nat) (flag:Bool) (oT:Obj),ZipN h' z TI TO T flag/\h'.get? T=some oT/\lo<=T)->Itq b1 h' i1 l1 (i + 1)->Itq b2 h' i2 l2 (i + 1)->IsPair h' h.objs.size xs[i] ys[i] ->
    (∀ c o,c≠z->c≠TO->c≠i1->c≠i2->h.get? c=some o->h'.get? c=some o) ->
    wpAny (model prog w) A.in1 (updateSeq S (·.push (Value.ref h.objs.size)) >>= fun _=>again (.builtin "list.extend.loop" ⟨[.ref S,.ref z,res],[]⟩))
     (fun fin s'=>match fin with | .done f=>R (.ok f) s' | .again c'=>c'.quiet=true/\codeAny (model prog w) A c' R s') (fun e s'=>R (.error e) s') { s with heap:=h',toks:=tk }:=by
   intro h' hb j1 j2 hp hq
   have hS':h'.get? S=some { cls:=.type "list",dict:=none,data:=.seq acc c,slots:=#[] }:=hq S _ s1 s3 s4 s5 hS
   have oth:∀ b o,b≠S->h'.get? b=some o->(h'.update S (Obj.mapSeq (·.push (Value.ref h.objs.size)))).get? b=some o:=fun b o hb e=>(Heap.get?_update_other _ _ (Ne.symm hb)).trans e
   have hp':IsPair (h'.update S (Obj.mapSeq (·.push (Value.ref h.objs.size)))) h.objs.size xs[i] ys[i]:=oth _ _ (up L5 hlo) hp
   refine wpAny_bind (wpAny_updateSeq hS' rfl (wpAny_pure ⟨plainId_quiet PySem.F.plain_extend_loop _,?_⟩) (by rw [hasz];omega) (by show (acc.push _).size<=sizeLine + 1;rw [Array.size_push,hasz];omega))
   refine ih (i + 1) (h'.update S (Obj.mapSeq (·.push (Value.ref h.objs.size)))) tk _ (acc.push (Value.ref h.objs.size)) (as++[h.objs.size]) (by omega) hltn ⟨?_,?_,?_,?_,?_,?_⟩ ?_ ?_ (Heap.get?_update_self _ hS' rfl) ?_ (by rw [List.length_append,hal];rfl) ?_
   ·exact oth _ _ (Ne.symm s2) (hq TI _ D.TIz D.TITO D.TIi1 D.TIi2 hst.ti)
   ·exact j1.at fun o e=>oth _ o (Ne.symm s4) e
   ·exact j2.at fun o e=>oth _ o (Ne.symm s5) e
   ·exact hst.ls1.at fun o e=>oth _ o (Ne.symm s6) (hq _ o D.l1z D.l1TO D.l1i1 D.l1i2 e)
   ·exact hst.ls2.at fun o e=>oth _ o (Ne.symm s7) (hq _ o D.l2z D.l2TO D.l2i1 D.l2i2 e)
   ·obtain ⟨T,flag,oT,e1,e2,e3⟩:=hb
    exact .inr ⟨T,flag,oT,oth _ _ (Ne.symm s1) e1,oth _ _ (up L5 e3) e2,e3⟩
   ·exact fun b o b1 b2 b3 b4 b5 e=>oth b o b1 (hq b o b2 b3 b4 b5 (hkeep b o b1 b2 b3 b4 b5 e))
   ·have:h.objs.size < (h'.update S (Obj.mapSeq (·.push (Value.ref h.objs.size)))).objs.size:=Heap.lt_size hp'
    omega
   ·rw [Array.toList_push,hacc,List.map_append];rfl
   ·exact hG.snoc (h':=h'.update S (Obj.mapSeq (·.push (Value.ref h.objs.size)))) (fun (c:Nat) o hc e=>oth c o (up L5 hc) (hq c o (up L1 hc) (up L2 hc) (up L3 hc) (up L4 hc) e)) hlo (Nat.le_refl _) (by rw [hal];exact hx) (by rw [hal];exact hy) hp'
  rcases hst.st with ⟨e0,hz,a,b,hTO⟩ | ⟨T,flag,oT,hz,hT,hTlo⟩
  ·refine wpAny_bind (zq_item (s:={ s with heap:=h,toks:=tk }) D hz hst.ti hTO hst.it1 hst.it2 hst.ls1 hst.ls2 hx hy fun h' a1 a2 a3 a4 a5 a6 hq=>?_)
   exact next h' ⟨h.objs.size,false,_,a1,a5,hlo⟩ a3 a4 a5 hq
  ·refine wpAny_bind (zip_busy_itemQ (s:={ s with heap:=h,toks:=tk }) D hz hT hst.ti hst.it1 hst.it2 hst.ls1 hst.ls2 hx hy fun h' a1 a3 a4 a5 hq=>?_)
   exact next h' ⟨T,true,oT,a1,hq T oT (up L1 hTlo) (up L3 hTlo) (up L4 hTlo) hT,hTlo⟩ a3 a4 a5 fun c o c1 _ c3 c4 e=>hq c o c1 c3 c4 e
end
section
variable {prog : Program} {w : World} {A : Around} {E : Value → Shared → Prop} {s : Shared} {b1 b2 : Bool}
theorem call_tuple_zipQ {l1 l2 n:Nat}{xs ys:Array Value}{Q:Value->Shared->Prop}(hh:A.handled=none)(hl1:Isq b1 s.heap l1 xs)(hl2:Isq b2 s.heap l2 ys)(hnx:n<=xs.size)(hny:n<=ys.size)(hend:xs[n]?=none\/ys[n]?=none)(hn:n<=sizeLine)
  (hQ:∀ h' tk acc (as:List Nat),(∀ b o,s.heap.get? b=some o->h'.get? b=some o)->s.heap.objs.size<=h'.objs.size->as.length=n->ZTold h' (s.heap.objs.size + 6) xs ys as ->
   acc.toList=as.map Value.ref->Q (.ref h'.objs.size) { s with heap:=h'.push { cls:=.type "tuple",data:=.seq acc },toks:=tk }) :
  wpAny (model prog w) A (call (.type "zip") [.ref l1,.ref l2]) (fun v s1=>wpAny (model prog w) A (call (.type "tuple") [v]) Q E s1) E s:=by
 have lt1:l1 < s.heap.objs.size:=by obtain ⟨_,e⟩:=hl1.got;exact Heap.lt_size e
 have lt2:l2 < s.heap.objs.size:=by obtain ⟨_,e⟩:=hl2.got;exact Heap.lt_size e
 refine zq_call hl1 hl2 fun g hz hTI hTO h1 h2 hsz hk=>?_
 have D:ZipApart (s.heap.objs.size + 4) (s.heap.objs.size + 2) (s.heap.objs.size + 3) s.heap.objs.size (s.heap.objs.size + 1) l1 l2:=by
  refine ⟨?_,?_,?_,?_,?_,?_,?_,?_,?_,?_,?_,?_,?_,?_,?_,?_,?_,?_⟩ <;> (show @Ne Nat _ _;omega)
 refine callType_newIn (S:=fun A' R' s'=>A'=A.in1/\s'={ s with heap:=g }/\∀ h' tk acc (as:List Nat),(∀ b o,s.heap.get? b=some o->h'.get? b=some o)->s.heap.objs.size<=h'.objs.size->as.length=n->ZTold h' (s.heap.objs.size + 6) xs ys as ->
   acc.toList=as.map Value.ref->R' (.ok (.ret (.ref h'.objs.size))) { s with heap:=h'.push { cls:=.type "tuple",data:=.seq acc },toks:=tk })
  PySem.F.called_tuple (by decide) (PySem.F.typeCall_tuple_1 _) (PySem.F.newCall_tuple_1 _) (fun _=>PySem.F.args_object_init_2 _ _) PySem.F.entry_tuple_new ?_
  ⟨rfl,rfl,fun h' tk acc as a1 a0 a2 a3 a4=>⟨⟨_,Heap.get?_push_size _ rfl,rfl⟩,hQ h' tk acc as a1 a0 a2 a3 a4⟩⟩
 rintro A' R' s' ⟨rfl,rfl,hR⟩
 have hT:Shared.TypeIs { s with heap:=g } (.ref (s.heap.objs.size + 4)) "zip":=⟨_,hz,rfl⟩
 unfold Builtin.«tuple.__new__»
 dsimp only
 rw [tup_isType,tup_isSub,tup_made,tup_init,tup_noNew]
 simp only [pure_bind,Bool.not_true,Bool.false_eq_true,if_false]
 rw [if_pos (show (some (Value.builtin "object.__init__") == some (Value.builtin "object.__init__"))=true by decide)]
 refine wpAny_bind (show wpAny _ _ (noKeywords "tuple" _) _ _ _ from ?_)
 refine wpAny_pure ?_
 refine wpAny_bind (show wpAny _ _ (checkCount "tuple" 0 1 1) _ _ _ from ?_)
 refine wpAny_pure ?_
 rw [if_pos (show (Value.type "tuple" == Value.type "tuple")=true by decide)]
 refine wpAny_bind ?_
 unfold Builtin.Tuple.tupleIsExact
 refine wpAny_bind (wpAny_typeOf hT (wpAny_pure ?_))
 rw [if_neg (show ¬ ((Value.type "zip" == Value.type "tuple")=true) by decide)]
 refine wpAny_bind ?_
 unfold collect
 refine wpAny_bind (wpAny_runValue (codeAny_builtin PySem.F.entry_proto_collect ?_))
 rw [Around.under_plainId PySem.F.plain_proto_collect _]
 show wpAny _ _ (newList [] >>= fun l=>again (.builtin "list.__iadd__" ⟨[l,.ref (s.heap.objs.size + 4)],[]⟩)) _ _ _
 refine wpAny_bind (wpAny_newList ?_ (by show 0<=sizeLine;exact Nat.zero_le _))
 have hS:(g.push { cls:=.type "list",data:=.seq #[] }).get? g.objs.size=some { cls:=.type "list",data:=.seq #[] }:=Heap.get?_push_size _ rfl
 have oth:∀ b o,g.get? b=some o->(g.push { cls:=.type "list",data:=.seq #[] }).get? b=some o:=fun b o e=>Heap.get?_push_of_some _ e
 refine wpAny_pure ⟨plainId_quiet PySem.F.plain_list_iadd _,?_⟩
 refine codeAny_builtin PySem.F.entry_list_iadd ?_
 rw [Around.under_plainId PySem.F.plain_list_iadd _]
 show wpAny _ _ (Builtin.List.listExtendWith (.ref g.objs.size) (.ref (s.heap.objs.size + 4)) (.ref g.objs.size)) _ _ _
 generalize hg2:g.push { cls:=.type "list",data:=.seq #[] }=g2 at hS oth ⊢
 have hT2:Shared.TypeIs { s with heap:=g2 } (.ref (s.heap.objs.size + 4)) "zip":=⟨_,oth _ _ hz,rfl⟩
 unfold Builtin.List.listExtendWith
 refine wpAny_bind (wpAny_typeOf hT2 ?_)
 have q1:Builtin.List.listSameRef (.ref g.objs.size) (.ref (s.heap.objs.size + 4))=false:=by
  simp only [Builtin.List.listSameRef,beq_eq_false_iff_ne]
  intro z
  have z':(g.objs.size:Nat)=s.heap.objs.size + 4:=z
  omega
 have q2:(Value.type "zip" == Value.type "list")=false:=by decide
 have q3:(Value.type "zip" == Value.type "tuple")=false:=by decide
 simp only [q1,q2,q3,Bool.or_false,Bool.false_eq_true,if_false]
 refine wpAny_bind (wpAny_pyIter_zip (s:={ s with heap:=g2 }) (oth _ _ hz) ?_)
 refine wpAny_bind (wpAny_holding ?_)
 unfold Builtin.List.listLengthHint
 refine wpAny_bind (wpAny_specialOf hT2 zip_no_len ?_)
 show wpAny _ A.in1.in1.in1 (specialOf (Value.ref (s.heap.objs.size + 4)) (Str.ofString "__length_hint__") >>= _) _ _ _
 refine wpAny_bind (wpAny_specialOf hT2 zip_no_hint ?_)
 refine wpAny_pure ?_
 show wpAny _ A.in1.in1.in1 (rule "list.extend.makes-room" >>= fun _=>Builtin.List.listTouch (.ref g.objs.size) >>= fun _ =>
  again (.builtin "list.extend.loop" ⟨[.ref g.objs.size,.ref (s.heap.objs.size + 4),.ref g.objs.size],[]⟩)) _ _ _
 refine wpAny_bind (wpAny_rule ?_)
 refine wpAny_bind ?_
 show wpAny _ A.in1.in1.in1 (updateSeq g.objs.size (·.push .none) >>= fun _=>updateSeq g.objs.size (·.pop)) _ _ _
 refine wpAny_bind (wpAny_updateSeq hS rfl ?_)
 have hS₃:=Heap.get?_update_self (Obj.mapSeq (·.push Value.none)) hS rfl
 refine wpAny_updateSeq (hz:=by seq_fits) hS₃ rfl ?_
 have hS₄:=Heap.get?_update_self (Obj.mapSeq (·.pop)) hS₃ rfl
 have oth2:∀ b o,b≠g.objs.size->g2.get? b=some o->((g2.update g.objs.size (Obj.mapSeq (·.push Value.none))).update g.objs.size (Obj.mapSeq (·.pop))).get? b=some o :=
  fun b o hb e=>(Heap.get?_update_other _ _ (Ne.symm hb)).trans ((Heap.get?_update_other _ _ (Ne.symm hb)).trans e)
 have all:∀ b o,g.get? b=some o->((g2.update g.objs.size (Obj.mapSeq (·.push Value.none))).update g.objs.size (Obj.mapSeq (·.pop))).get? b=some o:=fun b o e=>oth2 b o (Nat.ne_of_lt (Heap.lt_size e)) (oth b o e)
 generalize hg3:(g2.update g.objs.size (Obj.mapSeq (·.push Value.none))).update g.objs.size (Obj.mapSeq (·.pop))=g3 at hS₄ all ⊢
 have hlo:s.heap.objs.size + 6<=g3.objs.size:=by
  have h5:(g.objs.size:Nat) < g3.objs.size:=Heap.lt_size hS₄
  have h6:(g.objs.size:Nat)=s.heap.objs.size + 5:=hsz
  omega
 refine wpAny_pure ⟨plainId_quiet PySem.F.plain_extend_loop _,zip_loopQ (n:=n) (s:=s) (lo:=s.heap.objs.size + 6) (h₁:=g3) (A:=A.in1.in1) hh D (by omega) (by omega) hnx hny hend hn (.ref g.objs.size) (fun h' tk acc c as hq hS' hal hG hacc=>?_) n 0 g3 s.toks _ #[] [] (by omega) (Nat.zero_le _)
  ⟨all _ _ hTI,h1.at fun o e=>all _ o e,h2.at fun o e=>all _ o e,hl1.at fun o e=>all _ o (hk _ o e),hl2.at fun o e=>all _ o (hk _ o e),.inl ⟨rfl,all _ _ hz,_,_,all _ _ hTO⟩⟩ (fun _ _ _ _ _ _ _ e=>e) hlo hS₄ rfl rfl ⟨List.Pairwise.nil,(fun _ z=>nomatch z),fun _ _ z=>by simp at z⟩⟩
 have eg:g.objs.size=s.heap.objs.size + 5:=hsz
 show wpAny _ _ (load g.objs.size >>= _) _ _ _
 refine wpAny_bind (wpAny_load hS' ?_)
 refine wpAny_pure ?_
 show wpAny _ _ (Builtin.Tuple.tupleExact acc.toList.toArray >>= _) _ _ _
 unfold Builtin.Tuple.tupleExact
 have hac:acc.size=n:=by rw [←hal,←List.length_map (f:=Value.ref),←hacc];simp
 refine wpAny_bind (wpAny_newObj_type (hd:=show acc.toList.toArray.size<=sizeLine by simpa [hac] using hn) (wpAny_pure ?_))
 show R' (.ok (.ret (.ref h'.objs.size))) _
 have hb:∀ {b:Nat} {o:Obj},s.heap.get? b=some o->∀ k,b≠s.heap.objs.size + k:=fun e k=>Nat.ne_of_lt (Nat.lt_of_lt_of_le (Heap.lt_size e) (Nat.le_add_right _ k))
 exact hR h' tk acc as (fun b o e=>hq b o (by rw [eg];exact hb e 5) (hb e 4) (hb e 3) (hb e 0) (hb e 1) (all b o (hk b o e))) (by have h9:(g.objs.size:Nat) < h'.objs.size:=Heap.lt_size hS';omega) hal hG hacc
end
def SqB (K:PySem.W.Frag)(b:Bool)(H:Hp)(p:Addr)(xs:List V):Prop:=match b with | false=>SqL K H p xs | true=>SqT K H p xs
section
variable {X : Cx} {a b : Expr} {t : TA} {p1 p2 p3 p4 : Pos}
theorem isq_of {c:Bool}{pins:List (Addr × Obj)}{σ:St}{H:Hp}{s:Shared}{p:Addr}{xs:List V}(I:Inv X pins σ H s)(h:SqB X.K c H p xs):∃ its:List Value,Vals xs its/\Isq c s.heap p its.toArray/\xs.length<=sizeLine:=by
 cases c with
 | false =>
  obtain ⟨its,rv,pl,hz⟩:=I.list h
  exact ⟨its,rv,pl.isList,hz⟩
 | true =>
  obtain ⟨its,rv,pl,hz⟩:=I.tuple h
  exact ⟨its,rv,(show Heap.IsTuple _ _ _ by obtain ⟨o,e,r⟩:=pl;exact ⟨o,e,r⟩),hz⟩
def tTZq (K:PySem.W.Frag)(t:TA):TE:=fun σ H Q=>t σ H fun vs H2=>∃ b1 b2 p q xs ys,vs=[.ref p,.ref q]/\SqB K b1 H2 p xs/\SqB K b2 H2 q ys /\
 ∀ (l:Addr) (ts:List Addr) (H':Hp),ZOut xs ys ts H2 H'->H2 l=none->H' l=some (.tup (ts.map V.ref))->Q (.ref l) H'
theorem pe_tuplezipQ (hc:X.calm=true)(hgl:Gl X "tuple")(hml:X.mg "tuple"=none)(hgz:Gl X "zip")(hmz:X.mg "zip"=none)(ha:PA X [a,b] t)
  (he:starEach [a,b] X.env=(false,eval a X.env)::starEach [b] X.env:=by rfl) (hpl:(backTo p2 (starEach [b] X.env)).any (·.1)=false:=by rfl)
  (he2:starEach [.Call (.Name "zip" p1) [a,b] [] p2] X.env=[(false,eval (.Call (.Name "zip" p1) [a,b] [] p2) X.env)]:=by rfl) :
  PE X (.Call (.Name "tuple" p3) [.Call (.Name "zip" p1) [a,b] [] p2] [] p4) (tTZq X.K t):=by
 intro pins s σ H Q I h
 refine wpAny_Call_Name_kw (ld_blt I hgl hml boot_tuple ?_ (by decide) (by decide))
 refine PyProof.Rows.callWith_type1 ?_ he2 rfl
 rw [he2]
 refine Calls.spliced_cons ?_
 refine wpAny_Call_Name_kw (ld_blt I hgz hmz boot_zip ?_ (by decide) (by decide))
 refine PyProof.Rows.callWith_type1 ?_ he hpl
 refine thn (ha p2 pins s σ H _ I h) fun us s1 ⟨vs,H1,I1,r1,q1⟩=>?_
 obtain ⟨c1,c2,p,q,xs,ys,rfl,hx,hy,hq⟩:=q1
 obtain ⟨u,w',rfl,r1,r2⟩:=vals2 r1
 cases r1
 cases r2
 obtain ⟨its,rv,pl,hz⟩:=isq_of I1 hx
 obtain ⟨jts,rw',pm,hz'⟩:=isq_of I1 hy
 have e1:=rv.length
 have e2:=rw'.length
 refine thn (call_tuple_zipQ (n:=min xs.length ys.length) (Q:=EP X pins σ Q) (E:=X.xe) (I1.ok.hd hc) pl pm (by simp only [List.size_toArray];omega) (by simp only [List.size_toArray];omega) (by have:=min_end (xs:=its) (ys:=jts);rw [←e1,←e2] at this;simpa using this) (by omega) fun h' tk acc as hk hsz hal hG hacc=>?_) fun v s2 h2=>Calls.spliced_nil (by simpa using h2)
 have hSa:h'.objs.size ∉ as:=fun hm=>by have:=hG.lt hm;omega
 obtain ⟨I2,zo,hn⟩:=zip_lay (tk:=tk) (o:=.tup (as.map V.ref)) (h':=h'.push { cls:=.type "tuple",data:=.seq acc }) I1 rv rw' (Nat.le_add_right _ 6) (fun b o e=>Heap.get?_push_of_some _ (hk b o e)) hal (hG.keep fun c o _ e=>Heap.get?_push_of_some _ e) hsz hSa
  (show ObjOk X.prog X.w _ _ _ (.tup _) from ⟨by rw [List.length_map,hal];omega,as.map Value.ref,vals_refs as,by rw [←hacc];exact IsTup.new _ _,_,Heap.get?_push_size _ rfl,rfl⟩)
 exact ⟨.ref h'.objs.size,_,I2,rfl,hq _ as _ zo hn upd_same⟩
end
end L2
namespace G28
open PySem L2
structure WS where
 many:Nat
 failed:Bool
 rows:List T
 told:List T
 waiting:List T
structure WA where
 dx:Addr
 dD:Addr
 lR:Addr
 lT:Addr
 lW:Addr
 D:List (Str × List Str × T)
def fsOf (a:WA)(st:WS):List (Str × V):=[("defs",.ref a.dD),("most",.int 200),("many",.int st.many),("rows",.ref a.lR),("failed",.bl st.failed),("told",.ref a.lT),("waiting",.ref a.lW)]
def lkD:List (Str × List Str × T)->Str->Option (List Str × T)
 | [],_=>none
 | d::r,x=>(lkD r x).or (if d.1=x then some d.2 else none)
def AtD (K:PySem.W.Frag)(H:Hp)(a:WA)(kvs:List (Key × V))(D:List (Str × List Str × T)):Prop:=∀ x:Str,∀ y,lkD D x=some y ->
 ∃ (q ln:Addr) (tv:V),valV kvs (Sum.inr x)=some (.ref q)/\SqT K H q [.ref ln,tv]/\H ln=some (.lst (y.1.map V.str))/\(ln≠a.lR/\ln≠a.lT/\ln≠a.lW)/\Rp K H y.2 tv
structure WAt (K:PySem.W.Frag) (C:Addr) (H0:Hp) (w:Addr) (a:WA) (H:Hp) (st:WS):Prop where
 same:∀ b u,b≠w->H0 b=some u->H b=some u
 r0:H0 a.lR=none
 t0:H0 a.lT=none
 q0:H0 a.lW=none
 tw:a.lT≠a.lW
 rt:a.lR≠a.lT
 rw':a.lR≠a.lW
 ins:H w=some (.ins C a.dx (fsOf a st))
 rws:∃ rv,H a.lR=some (.lst rv)/\Rps K H st.rows rv
 tol:∃ tv,H a.lT=some (.lst tv)/\Rps K H st.told tv
 wai:∃ wv,H a.lW=some (.lst wv)/\Rps K H st.waiting wv
 dfs:∃ kvs,H a.dD=some (.dK kvs)/\AtD K H a kvs a.D
def Oth (a:WA)(H H':Hp):Prop:=∀ b l,b≠a.lR->b≠a.lT->b≠a.lW->H b=some (.lst l)->H' b=some (.lst l)
theorem AtD.to {K:PySem.W.Frag}{H H':Hp}{a:WA}{kvs:List (Key × V)}{D:List (Str × List Str × T)}(h:AtD K H a kvs D)(k:Kt H H')(o:Oth a H H'):AtD K H' a kvs D:=fun x y e=>by
 obtain ⟨q,ln,tv,h1,h2,h3,n,h4⟩:=h x y e
 exact ⟨q,ln,tv,h1,h2.kt k,o ln _ n.1 n.2.1 n.2.2 h3,n,h4.kt k⟩
section
variable {K : PySem.W.Frag} {C : Addr} {H0 H : Hp} {w : Addr} {a : WA} {st : WS}
theorem WAt.wT (h:WAt K C H0 w a H st):w≠a.lT:=fun z=>by obtain ⟨tv,e,_⟩:=h.tol;have:=h.ins;rw [z,e] at this;cases this
theorem WAt.wW (h:WAt K C H0 w a H st):w≠a.lW:=fun z=>by obtain ⟨tv,e,_⟩:=h.wai;have:=h.ins;rw [z,e] at this;cases this
theorem WAt.wR (h:WAt K C H0 w a H st):w≠a.lR:=fun z=>by obtain ⟨tv,e,_⟩:=h.rws;have:=h.ins;rw [z,e] at this;cases this
theorem Oth.refl:Oth a H H:=fun _ _ _ _ _ e=>e
theorem Oth.trans {H2 H3:Hp}(h:Oth a H H2)(k:Oth a H2 H3):Oth a H H3:=fun b l n1 n2 n3 e=>k b l n1 n2 n3 (h b l n1 n2 n3 e)
theorem Oth.same {H':Hp}(s:Same H H'):Oth a H H':=fun b l _ _ _ e=>s b _ e
theorem WAt.setT (h:WAt K C H0 w a H st){tv:List V}{ts:List T}(r:Rps K H ts tv):WAt K C H0 w a (upd H a.lT (.lst tv)) { st with told:=ts }/\Kt H (upd H a.lT (.lst tv))/\Oth a H (upd H a.lT (.lst tv)):=by
 obtain ⟨tv0,e0,_⟩:=h.tol
 obtain ⟨wv,ew,rw0⟩:=h.wai
 obtain ⟨rv,er,rr0⟩:=h.rws
 have k:Kt H (upd H a.lT (.lst tv)):=Kt.lst e0 _
 have oo:Oth a H (upd H a.lT (.lst tv)):=fun b l _ n _ e=>by rw [upd_ne n];exact e
 obtain ⟨kvs,dd,da⟩:=h.dfs
 refine ⟨⟨fun b o n e=>?_,h.r0,h.t0,h.q0,h.tw,h.rt,h.rw',?_,⟨rv,?_,rr0.kt k⟩,⟨tv,upd_same,r.kt k⟩,⟨wv,?_,rw0.kt k⟩,kvs,?_,da.to k oo⟩,k,oo⟩
 ·rw [upd_ne (ne_of_none e h.t0)];exact h.same b o n e
 ·rw [upd_ne h.wT];exact h.ins
 ·rw [upd_ne h.rt];exact er
 ·rw [upd_ne h.tw.symm];exact ew
 ·rw [upd_ne (ne_of dd e0 (fun z=>nomatch z))];exact dd
theorem WAt.setW (h:WAt K C H0 w a H st){tv:List V}{ts:List T}(r:Rps K H ts tv):WAt K C H0 w a (upd H a.lW (.lst tv)) { st with waiting:=ts }/\Kt H (upd H a.lW (.lst tv))/\Oth a H (upd H a.lW (.lst tv)):=by
 obtain ⟨tv0,e0,rt0⟩:=h.tol
 obtain ⟨wv,ew,rw0⟩:=h.wai
 obtain ⟨rv,er,rr0⟩:=h.rws
 have k:Kt H (upd H a.lW (.lst tv)):=Kt.lst ew _
 have oo:Oth a H (upd H a.lW (.lst tv)):=fun b l _ _ n e=>by rw [upd_ne n];exact e
 obtain ⟨kvs,dd,da⟩:=h.dfs
 refine ⟨⟨fun b o n e=>?_,h.r0,h.t0,h.q0,h.tw,h.rt,h.rw',?_,⟨rv,?_,rr0.kt k⟩,⟨tv0,?_,rt0.kt k⟩,⟨tv,upd_same,r.kt k⟩,kvs,?_,da.to k oo⟩,k,oo⟩
 ·rw [upd_ne (ne_of_none e h.q0)];exact h.same b o n e
 ·rw [upd_ne h.wW];exact h.ins
 ·rw [upd_ne h.rw'];exact er
 ·rw [upd_ne h.tw];exact e0
 ·rw [upd_ne (ne_of dd ew (fun z=>nomatch z))];exact dd
theorem WAt.setR (h:WAt K C H0 w a H st){tv:List V}{ts:List T}(r:Rps K H ts tv):WAt K C H0 w a (upd H a.lR (.lst tv)) { st with rows:=ts }/\Kt H (upd H a.lR (.lst tv))/\Oth a H (upd H a.lR (.lst tv)):=by
 obtain ⟨tv0,e0,rt0⟩:=h.tol
 obtain ⟨wv,ew,rw0⟩:=h.wai
 obtain ⟨rv,er,rr0⟩:=h.rws
 have k:Kt H (upd H a.lR (.lst tv)):=Kt.lst er _
 have oo:Oth a H (upd H a.lR (.lst tv)):=fun b l n _ _ e=>by rw [upd_ne n];exact e
 obtain ⟨kvs,dd,da⟩:=h.dfs
 refine ⟨⟨fun b o n e=>?_,h.r0,h.t0,h.q0,h.tw,h.rt,h.rw',?_,⟨tv,upd_same,r.kt k⟩,⟨tv0,?_,rt0.kt k⟩,⟨wv,?_,rw0.kt k⟩,kvs,?_,da.to k oo⟩,k,oo⟩
 ·rw [upd_ne (ne_of_none e h.r0)];exact h.same b o n e
 ·rw [upd_ne h.wR];exact h.ins
 ·rw [upd_ne h.rt.symm];exact e0
 ·rw [upd_ne h.rw'.symm];exact ew
 ·rw [upd_ne (ne_of dd er (fun z=>nomatch z))];exact dd
theorem WAt.setI (h:WAt K C H0 w a H st){st':WS}(e1:st'.told=st.told)(e2:st'.waiting=st.waiting)(e3:st'.rows=st.rows):WAt K C H0 w a (upd H w (.ins C a.dx (fsOf a st'))) st'/\Kt H (upd H w (.ins C a.dx (fsOf a st')))/\Oth a H (upd H w (.ins C a.dx (fsOf a st'))):=by
 obtain ⟨tv0,e0,rt0⟩:=h.tol
 obtain ⟨wv,ew,rw0⟩:=h.wai
 obtain ⟨rv,er,rr0⟩:=h.rws
 have k:Kt H (upd H w (.ins C a.dx (fsOf a st'))):=Kt.upd h.ins (fun _ z=>nomatch z) (fun _ _ z=>nomatch z) _
 have oo:Oth a H (upd H w (.ins C a.dx (fsOf a st'))):=fun b l _ _ _ e=>by rw [upd_ne (ne_of e h.ins (fun z=>nomatch z))];exact e
 obtain ⟨kvs,dd,da⟩:=h.dfs
 refine ⟨⟨fun b o n e=>?_,h.r0,h.t0,h.q0,h.tw,h.rt,h.rw',upd_same,⟨rv,?_,?_⟩,⟨tv0,?_,?_⟩,⟨wv,?_,?_⟩,kvs,?_,da.to k oo⟩,k,oo⟩
 ·rw [upd_ne n];exact h.same b o n e
 ·rw [upd_ne h.wR.symm];exact er
 ·rw [e3];exact rr0.kt k
 ·rw [upd_ne h.wT.symm];exact e0
 ·rw [e1];exact rt0.kt k
 ·rw [upd_ne h.wW.symm];exact ew
 ·rw [e2];exact rw0.kt k
 ·rw [upd_ne (ne_of dd h.ins (fun z=>nomatch z))];exact dd
theorem WAt.ext (h:WAt K C H0 w a H st){H':Hp}(s:Same H H'):WAt K C H0 w a H' st/\Kt H H'/\Oth a H H':=by
 obtain ⟨tv0,e0,rt0⟩:=h.tol
 obtain ⟨wv,ew,rw0⟩:=h.wai
 obtain ⟨rv,er,rr0⟩:=h.rws
 obtain ⟨kvs,dd,da⟩:=h.dfs
 exact ⟨⟨fun b u n e=>s _ _ (h.same b u n e),h.r0,h.t0,h.q0,h.tw,h.rt,h.rw',s _ _ h.ins,⟨rv,s _ _ er,rr0.same s⟩,⟨tv0,s _ _ e0,rt0.same s⟩,⟨wv,s _ _ ew,rw0.same s⟩,kvs,s _ _ dd,da.to (Kt.same s) (Oth.same s)⟩,Kt.same s,Oth.same s⟩
end
theorem fs_len (a:WA)(st:WS):(fsOf a st).length < 1000:=by show 7 < 1000;decide
theorem put_many (a:WA)(st:WS)(n:Nat):putF "many" (.int ((st.many:Int) + 1)) (fsOf a st)=fsOf a { st with many:=st.many + 1 }:=by kernel_rfl
theorem put_failed (a:WA)(st:WS)(b:Bool):putF "failed" (.bl b) (fsOf a st)=fsOf a { st with failed:=b }:=by kernel_rfl
structure HasM (P:Program) (w:World) (K:PySem.W.Frag) (mg:Str->Option Value) (base:Heap) (C:Addr) (m:Str) (k:Nat) (ps:List Str) (sp:Sp) (f:Addr) (fd:FuncData):Prop where
 ok:FnOk P w K mg base CX0 k f fd ps sp
 m:Meth K C m f
 bd:Binds K fd ps []
 c:Cls K C
structure NoA (K:PySem.W.Frag) (C:Addr):Prop where
 c:Cls K C
 defs:NoAttr K C "defs"
 most:NoAttr K C "most"
 many:NoAttr K C "many"
 rows:NoAttr K C "rows"
 failed:NoAttr K C "failed"
 told:NoAttr K C "told"
 waiting:NoAttr K C "waiting"
def numT (n:Int):T:=.t [.s "num",.i n]
def leftT (n:Nat):T:=.t [.s "left",.i n]
def rowT (ts:List T):T:=.t [.s "row",.t ts]
def tagT (t:Str)(ts:List T):T:=.t [.s "tag",.s t,.t ts]
def termT (t around:T):T:=.t [.s "term",t,around]
def restT (t around:T):T:=.t [.s "rest",t,around]
def roundT (row:T)(at_:Nat):T:=.t [.s "round",row,.i at_]
structure Bd (st:WS):Prop where
 r:st.rows.length < 900
 t:st.told.length < 900
 w:st.waiting.length < 900
abbrev WK (K:PySem.W.Frag)(C:Addr)(H0:Hp)(w:Addr)(a:WA)(H:Hp)(st:WS)(Q:Hp->Prop):Prop:=∀ H',WAt K C H0 w a H' st->Kt H H'->Oth a H H'->Q H'
def WS.tell (st:WS)(t:T):WS:={ st with told:=st.told++[t] }
def WS.one (st:WS):WS:={ st with many:=st.many + 1 }
def WS.go (st:WS)(t r:T):WS:={ st with waiting:=st.waiting++[termT t r] }
def WS.wait (st:WS)(t:T):WS:={ st with waiting:=st.waiting++[t] }
def WS.write (st:WS)(row:T):WS:={ st with rows:=st.rows++[row],told:=st.told++[leftT st.rows.length] }
def WS.fail (st:WS):WS:={ st with failed:=true }
def spTell (K:PySem.W.Frag)(C:Addr):Sp:=fun vs H Q _=>∃ (H0:Hp) (w:Addr) (a:WA) (st:WS) (v:V) (t:T),vs=[.ref w,v]/\WAt K C H0 w a H st/\Rp K H t v/\st.told.length < 1000/\WK K C H0 w a H (st.tell t) (Q .non)
def spDoOne (K:PySem.W.Frag)(C:Addr):Sp:=fun vs H Q _=>∃ (H0:Hp) (w:Addr) (a:WA) (st:WS),vs=[.ref w]/\WAt K C H0 w a H st/\st.many < 200/\WK K C H0 w a H st.one (Q .non)
def spGoInto (K:PySem.W.Frag)(C:Addr):Sp:=fun vs H Q _=>∃ (H0:Hp) (w:Addr) (a:WA) (st:WS) (v u:V) (t r:T),vs=[.ref w,v,u]/\WAt K C H0 w a H st/\Rp K H t v/\Rp K H r u/\st.waiting.length < 1000/\WK K C H0 w a H (st.go t r) (Q .non)
def spWrite (K:PySem.W.Frag)(C:Addr):Sp:=fun vs H Q _=>∃ (H0:Hp) (w:Addr) (a:WA) (st:WS) (v:V) (t:T),vs=[.ref w,v]/\WAt K C H0 w a H st/\Rp K H t v/\st.told.length < 1000/\st.rows.length < 1000/\WK K C H0 w a H (st.write t) (Q .non)
def spWTake (K:PySem.W.Frag)(C:Addr):Sp:=fun vs H Q _=>∃ (H0:Hp) (w:Addr) (a:WA) (st:WS) (front back:List T),vs=[.ref w,.int (back.length:Int)]/\WAt K C H0 w a H st/\st.told=front++back/\back.length<=900 /\
 ∀ (H':Hp) (p:Addr) (ws:List V),WAt K C H0 w a H' { st with told:=front }->Kt H H'->Oth a H H'->H' p=some (.lst ws)->p≠a.lR->p≠a.lT->p≠a.lW->Rps K H' back ws->Q (.ref p) H'
end G28
namespace G28
open PySem L2
section
variable {P : Program} {w : World} {K : PySem.W.Frag} {mg : Str → Option Value} {base : Heap} {C : Addr}
theorem nm_Work_tell:Nm ["self","thing"] (defScope s_Work_tell):=by decide +kernel
theorem sc_Work_tell:FnScope ["self","thing"] ["self","thing"] (defScope s_Work_tell):=⟨rfl,rfl,rfl,by decide +kernel,rfl,by decide +kernel,by decide +kernel⟩
theorem ok_tell {f:Addr}{fd:FuncData}(F:Fun K "tell" "Work.tell" s_Work_tell f fd)(N:NoA K C):FnOk P w K mg base CX0 1 f fd ["self","thing"] (spTell K C):=by
 refine F.ok sc_Work_tell (fun vs H Q E h=>?_) (fun cdv A outer s H vs Q E hr h=>?_)
 ·obtain ⟨_,_,_,_,_,_,rfl,_⟩:=h
  rfl
 obtain ⟨H0,o,a,st,v,t,rfl,hw,hv,hl,k⟩:=h
 refine ⟨_,(pss_one (ps_expr (pe_bm PySem.F.plainAttrs_list PySem.F.slot_list_append PySem.F.type_list_append mt_append (pe_fld (va nm_Work_tell 0) rfl) (pa_cons (va nm_Work_tell 1) pa_nil)))),?_⟩
 obtain ⟨tv,et,rt⟩:=hw.tol
 have hi:=hw.ins
 have hc:=N.c
 have hn:=N.told
 have l1:=rt.length
 have l2:tv.length < sizeLine:=small1000 (by omega)
 fail "R"
 obtain ⟨w1,k1,o1⟩:=hw.setT (rt.snoc hv)
 exact k _ w1 k1 o1
theorem nm_Work_do_one:Nm ["self"] (defScope s_Work_do_one):=by decide +kernel
theorem sc_Work_do_one:FnScope ["self"] ["self"] (defScope s_Work_do_one):=⟨rfl,rfl,rfl,by decide +kernel,rfl,by decide +kernel,by decide +kernel⟩
theorem ok_one {f:Addr}{fd:FuncData}(F:Fun K "do_one" "Work.do_one" s_Work_do_one f fd)(N:NoA K C):FnOk P w K mg base CX0 1 f fd ["self"] (spDoOne K C):=by
 refine F.ok sc_Work_do_one (fun vs H Q E h=>?_) (fun cdv A outer s H vs Q E hr h=>?_)
 ·obtain ⟨_,_,_,_,rfl,_⟩:=h
  rfl
 obtain ⟨H0,o,a,st,rfl,hw,hl,k⟩:=h
 refine ⟨_,(pss_cons (ps_fldaug (va nm_Work_do_one 0) pe_int in_add)
  (pss_one (ps_if (pt_cmpR op_gt (pe_fld (va nm_Work_do_one 0) rfl) (pe_fld (va nm_Work_do_one 0) rfl) (nomark _)) (pss_one ps_never) pss_nil))),?_⟩
 have hi:=hw.ins
 have hc:=N.c
 have hn:=N.many
 have hn2:=N.most
 have hfl:=fs_len a st
 fail "R"
 rw [put_many a st 0]
 obtain ⟨w1,k1,o1⟩:=hw.setI (st':={ st with many:=st.many + 1 }) rfl rfl rfl
 have hi1:=w1.ins
 fail "R"
 refine ifF (decide_eq_false (by show ¬ ((200:Int) < ((st.many + 1:Nat):Int));omega)) ?_
 exact k _ w1 k1 o1
theorem nm_Work_write:Nm ["self","row"] (defScope s_Work_write):=by decide +kernel
theorem sc_Work_write:FnScope ["self","row"] ["self","row"] (defScope s_Work_write):=⟨rfl,rfl,rfl,by decide +kernel,rfl,by decide +kernel,by decide +kernel⟩
theorem ok_write {f gT:Addr}{fd tfd:FuncData}(F:Fun K "write" "Work.write" s_Work_write f fd)(N:NoA K C)(mTell:HasM P w K mg base C "tell" 1 ["self","thing"] (spTell K C) gT tfd)(z_len:mg "len"=none):FnOk P w K mg base CX0 2 f fd ["self","row"] (spWrite K C):=by
 refine F.ok sc_Work_write (fun vs H Q E h=>?_) (fun cdv A outer s H vs Q E hr h=>?_)
 ·obtain ⟨_,_,_,_,_,_,rfl,_⟩:=h
  rfl
 obtain ⟨H0,o,a,st,v,t,rfl,hw,hv,hl,hl2,k⟩:=h
 refine ⟨_,(pss_cons (ps_expr (pe_meth (va nm_Work_write 0) mTell.c mTell.m mTell.ok (hr.mono (by omega)) mTell.bd .nil pass0 (pa_cons (pe_tup (pa_cons pe_str (pa_cons (pe_callB call_len_seq (by show _=_;kernel_rfl) z_len PySem.boot_len (pa_cons (pe_fld (va nm_Work_write 0) rfl) pa_nil)) pa_nil))) pa_nil)))
  (pss_one (ps_expr (pe_bm PySem.F.plainAttrs_list PySem.F.slot_list_append PySem.F.type_list_append mt_append (pe_fld (va nm_Work_write 0) rfl) (pa_cons (va nm_Work_write 1) pa_nil))))),?_⟩
 obtain ⟨rv,er,rr⟩:=hw.rws
 have hi:=hw.ins
 have hc:=N.c
 have hn:=N.rows
 have l1:=rr.length
 have l2:rv.length < sizeLine:=small1000 (by omega)
 fail "O"
 intro p hp
 have sp:=same_new hp (.tup [.str "left",.int (rv.length:Int)])
 obtain ⟨w1,k1,o1⟩:=hw.ext sp
 have hi1:=w1.ins
 have r1:Rp K (upd H p (.tup [.str "left",.int (rv.length:Int)])) (leftT st.rows.length) (.ref p):=by
  rw [←l1]
  exact Rp.new (K:=K) hp (xs:=[.s "left",.i (rv.length:Int)]) (.cons .s (.one .i))
 fail "R"
 intro H2 w2 k2 o2
 have hi2:=w2.ins
 obtain ⟨rv2,er2,rr2⟩:=w2.rws
 have l3:=rr2.length
 have l4:rv2.length < sizeLine:=small1000 (by have:(st.tell (leftT st.rows.length)).rows.length < 1000:=hl2;omega)
 fail "R"
 obtain ⟨w3,k3,o3⟩:=w2.setR (rr2.snoc (hv.kt (k1.trans k2)))
 exact k _ w3 (k1.trans (k2.trans k3)) (o1.trans (o2.trans o3))
theorem nm_Work_go_into:Nm ["self","term","around"] (defScope s_Work_go_into):=by decide +kernel
theorem sc_Work_go_into:FnScope ["self","term","around"] ["self","term","around"] (defScope s_Work_go_into):=⟨rfl,rfl,rfl,by decide +kernel,rfl,by decide +kernel,by decide +kernel⟩
theorem ok_into {f:Addr}{fd:FuncData}(F:Fun K "go_into" "Work.go_into" s_Work_go_into f fd)(N:NoA K C):FnOk P w K mg base CX0 1 f fd ["self","term","around"] (spGoInto K C):=by
 refine F.ok sc_Work_go_into (fun vs H Q E h=>?_) (fun cdv A outer s H vs Q E hr h=>?_)
 ·obtain ⟨_,_,_,_,_,_,_,_,rfl,_⟩:=h
  rfl
 obtain ⟨H0,o,a,st,v,u,t,r,rfl,hw,hv,hu,hl,k⟩:=h
 refine ⟨_,(pss_one (ps_expr (pe_bm PySem.F.plainAttrs_list PySem.F.slot_list_append PySem.F.type_list_append mt_append (pe_fld (va nm_Work_go_into 0) rfl) (pa_cons (pe_tup (pa_cons pe_str (pa_cons (va nm_Work_go_into 1) (pa_cons (va nm_Work_go_into 2) pa_nil)))) pa_nil)))),?_⟩
 obtain ⟨tv,et,rt⟩:=hw.wai
 have hi:=hw.ins
 have hc:=N.c
 have hn:=N.waiting
 have l1:=rt.length
 have l2:tv.length < sizeLine:=small1000 (by omega)
 fail "R"
 intro p hp
 obtain ⟨w1,k1,o1⟩:=hw.ext (same_new hp (.tup [.str "term",v,u]))
 obtain ⟨tv2,et2,rt2⟩:=w1.wai
 have l3:=rt2.length
 have l4:tv2.length < sizeLine:=small1000 (by omega)
 fail "R"
 obtain ⟨w2,k2,o2⟩:=w1.setW (rt2.snoc (Rp.new (K:=K) hp (xs:=[.s "term",t,r]) (.cons .s (.cons hv (.one hu)))))
 exact k _ w2 (k1.trans k2) (o1.trans o2)
theorem nm_Work_take:Nm ["self","many","things"] (defScope s_Work_take):=by decide +kernel
theorem lm_Work_take:Lm ["self","many","things"] (defScope s_Work_take):=by decide +kernel
theorem sc_Work_take:FnScope ["self","many","things"] ["self","many"] (defScope s_Work_take):=⟨rfl,rfl,rfl,by decide +kernel,rfl,by decide +kernel,by decide +kernel⟩
theorem ok_wtake {f:Addr}{fd:FuncData}(F:Fun K "take" "Work.take" s_Work_take f fd)(N:NoA K C)(z_range:mg "range"=none):FnOk P w K mg base CX0 1 f fd ["self","many"] (spWTake K C):=by
 refine F.ok sc_Work_take (fun vs H Q E h=>?_) (fun cdv A outer s H vs Q E hr h=>?_)
 ·obtain ⟨_,_,_,_,_,_,rfl,_⟩:=h
  rfl
 obtain ⟨H0,o,a,st,front,back,rfl,hw,et,hl,k⟩:=h
 refine ⟨_,(pss_cons (ps_compC (defScope s_Work_take) ["self","many","things"] ["each"] [0] rfl rfl rfl (by decide +kernel) (pi_range1 (by show _=_;kernel_rfl) z_range (pa_cons (va nm_Work_take 1) pa_nil)) (fun _ _ _ _=>(pg_name (i:=0) (show (["each","self"]:List Str).Nodup by decide +kernel) rfl (Or.inl (by kernel_rfl)) (by first | exact .inl rfl | exact .inr (by kernel_rfl)))) (fun _ _ _ _=>pifs_nil) (fun _ _ _ _=>(pe_bm0K K rfl PySem.F.plainAttrs_list PySem.F.slot_list_pop PySem.F.type_list_pop mt_pop (pe_fldK K rfl (va (show Nm ["each","self"] _ by show _=_;kernel_rfl) 1) rfl))) (ga sc_Work_take.nd lm_Work_take 2))
  (pss_one (ps_ret (pe_slice3 (va nm_Work_take 2) po_none po_none (po_some (pe_un un_neg pe_int)))))),?_⟩
 have hc:=N.c
 have hn:=N.told
 fail "R"
 refine comp_range (n:=back.length) (fun i σ vs Hc=>(∃ x,σ=[x,some (.ref o)])/\WAt K C H0 o a Hc { st with told:=front++back.take (back.length - i) }/\(Kt H Hc/\Oth a H Hc)/\Rps K Hc ((back.drop (back.length - i)).reverse) vs) ⟨⟨_,rfl⟩,?_,⟨Kt.refl,Oth.refl⟩,?_⟩ ?_ (Nat.le_of_lt (small1000 (by omega))) ?_ ?_
 ·rw [Nat.sub_zero,List.take_length,←et];exact hw
 ·rw [Nat.sub_zero,List.drop_length];exact .nil
 ·rintro i σ vs Hc hi ⟨_,_,_,r⟩
  rw [r.length,List.length_reverse,List.length_drop];omega
 ·rintro i σ vs Hc hi ⟨⟨x,rfl⟩,w1,⟨k1,o1⟩,r⟩
  have hi1:=w1.ins
  obtain ⟨tv,e1,r1⟩:=w1.tol
  have hlt:back.length - (i + 1) < back.length:=by omega
  have eb:back.take (back.length - i)=back.take (back.length - (i + 1))++[back[back.length - (i + 1)]]:=by
   rw [←List.take_succ_eq_append_getElem hlt];congr 1;omega
  have r1':Rps K Hc ((front++back.take (back.length - (i + 1)))++[back[back.length - (i + 1)]]) tv:=by
   have:(front++back.take (back.length - (i + 1)))++[back[back.length - (i + 1)]]=front++back.take (back.length - i):=by rw [eb,List.append_assoc]
   rw [this];exact r1
  obtain ⟨us,ul,rfl,r3,r4⟩:=r1'.split
  obtain ⟨u,q,rfl,ru,rq⟩:=r4.inv
  obtain rfl:=rq.inv0
  have hg:(us++[u])[(us++[u]).length - 1]?=some u:=by simp
  obtain ⟨w2,k2,o2⟩:=w1.setT r3
  fail "R"
  ·rw [List.dropLast_concat];exact w2
  rw [List.dropLast_concat]
  refine ⟨⟨k1.trans k2,o1.trans o2⟩,?_⟩
  have ed:back.drop (back.length - (i + 1))=back[back.length - (i + 1)]::back.drop (back.length - i):=by
   rw [List.drop_eq_getElem_cons hlt];congr 2;omega
  rw [ed,List.reverse_cons]
  exact (r.kt k2).snoc (ru.kt k2)
 ·rintro σ vs Hc ⟨⟨x,rfl⟩,w1,⟨k1,o1⟩,r⟩ p hp
  rw [Nat.sub_self,List.take_zero,List.append_nil] at w1
  rw [Nat.sub_self,List.drop_zero] at r
  have lr:=r.length
  rw [List.length_reverse] at lr
  have hS:upd Hc p (.lst vs) p=some (.lst vs):=upd_same
  have hz:(pickV vs none none (some (-1))).length<=sizeLine:=by rw [pick_rev,List.length_reverse];exact (Nat.le_of_lt (small1000 (by omega)))
  fail "R"
  intro p2 hp2
  rw [pick_rev]
  obtain ⟨w0,k0,o0⟩:=w1.ext (same_new hp (.lst vs))
  obtain ⟨w2,k2,o2⟩:=w0.ext (same_new hp2 (.lst vs.reverse))
  obtain ⟨_,n1,_⟩:=w0.rws
  obtain ⟨_,n2,_⟩:=w0.tol
  obtain ⟨_,n3,_⟩:=w0.wai
  refine k _ p2 vs.reverse w2 (k1.trans (k0.trans k2)) (o1.trans (o0.trans o2)) upd_same (ne_of_none n1 hp2).symm (ne_of_none n2 hp2).symm (ne_of_none n3 hp2).symm ?_
  have:=(r.kt (k0.trans k2)).reverse
  rwa [List.reverse_reverse] at this
end
end G28
namespace G28
open PySem L2
abbrev Env:=List (Str × T)
def pT (p:Str × T):T:=.t [.s p.1,p.2]
def arT (env:Env):T:=.t (env.map pT)
def boundE (env:Env)(xs:List Str)(ts:List T):Env:=env.filter (fun p=>!decide (p.1∈xs))++xs.zip ts
theorem small4000 {n:Nat}(h:n < 4000):n<=sizeLine:=by rw [sizeLine_eq];omega
theorem inV_strs (x:Str):∀ xs:List Str,inV (.str x) (xs.map V.str)=decide (x∈xs)
 | []=>rfl
 | y::r=>by
  have ih:=inV_strs x r
  unfold inV at ih ⊢
  rw [List.map_cons,List.any_cons,ih]
  by_cases h:y=x
  ·subst h;simp [eqV]
  ·have h2:¬ x=y:=fun z=>h z.symm
   by_cases h3:x∈r <;> simp [eqV,h,h2,h3]
theorem flat_strs:∀ xs:List Str,(xs.map V.str).all flatV=true
 | []=>rfl
 | y::r=>by rw [List.map_cons,List.all_cons,flat_strs r];rfl
theorem zip_pairs {K:PySem.W.Frag}{H H':Hp}{xs:List Str}{ns:List T}{tvs:List V}{ts:List Addr}(hl:xs.length=ns.length)(z:ZOut (xs.map V.str) tvs ts H H')(r:Rps K H ns tvs):Rps K H' ((xs.zip ns).map pT) (ts.map V.ref):=by
 obtain ⟨sm,len,at_⟩:=z
 have lr:=r.length
 rw [List.length_map] at len
 have key:∀ (n:Nat),n<=xs.length->Rps K H' (((xs.zip ns).take n).map pT) ((ts.take n).map V.ref):=by
  intro n
  induction n with
  | zero=>intro _;exact .nil
  | succ n ih =>
   intro hn
   have hx:n < xs.length:=hn
   have hnn:n < ns.length:=by omega
   have ht:n < ts.length:=by omega
   have hz:n < (xs.zip ns).length:=by rw [List.length_zip];omega
   rw [List.take_succ_eq_append_getElem hz,List.take_succ_eq_append_getElem ht,List.map_append,List.map_append]
   refine (ih (by omega)).append (.one ?_)
   obtain ⟨x,y,e1,e2,e3⟩:=at_ n _ (List.getElem?_eq_getElem ht)
   obtain ⟨t,et,rt⟩:=r.get' e2
   rw [List.getElem?_map,List.getElem?_eq_getElem hx] at e1
   rw [List.getElem?_eq_getElem hnn] at et
   simp at e1 et
   subst e1 et
   rw [List.getElem_zip]
   exact Rp.t (SqT.of e3) (.cons .s (.one (rt.same sm)))
 have:=key xs.length (Nat.le_refl _)
 rwa [List.take_of_length_le (by rw [List.length_zip];omega),List.take_of_length_le (by omega)] at this
end G28
namespace L2
open PySem
theorem SqB.or {K:PySem.W.Frag}{b:Bool}{H:Hp}{p:Addr}{xs:List V}(h:SqB K b H p xs):SqL K H p xs\/SqT K H p xs:=by
 cases b with
 | false=>exact .inl h
 | true=>exact .inr h
theorem SqB.same {K:PySem.W.Frag}{b:Bool}{H H':Hp}{p:Addr}{xs:List V}(h:SqB K b H p xs)(s:Same H H'):SqB K b H' p xs:=by
 cases b with
 | false =>
  rcases (show SqL K H p xs from h) with (h | ⟨z,h⟩) | h
  ·exact .inl (.inl (s _ _ h))
  ·exact .inl (.inr ⟨z,s _ _ h⟩)
  ·exact .inr h
 | true=>exact SqT.kt (Kt.same s) h
end L2
namespace G28
open PySem L2
def spBound (K:PySem.W.Frag):Sp:=fun vs H Q _=>∃ (ar:V) (ln lt:Addr) (b1 b2:Bool) (env:Env) (xs:List Str) (ts:List T) (tvs:List V),vs=[ar,.ref ln,.ref lt]/\Rp K H (arT env) ar/\SqB K b1 H ln (xs.map V.str)/\SqB K b2 H lt tvs/\Rps K H ts tvs/\xs.length=ts.length/\env.length<=900/\xs.length<=900 /\
 ∀ (H':Hp) (u:V),Same H H'->Rp K H' (arT (boundE env xs ts)) u->Q u H'
section
variable {P : Program} {w : World} {K : PySem.W.Frag} {mg : Str → Option Value} {base : Heap} {C : Addr}
theorem nm_bound_to:Nm ["around","names","things"] (defScope s_bound_to):=by decide +kernel
theorem sc_bound_to:FnScope ["around","names","things"] ["around","names","things"] (defScope s_bound_to):=⟨rfl,rfl,rfl,by decide +kernel,rfl,by decide +kernel,by decide +kernel⟩
theorem ok_bound {f:Addr}{fd:FuncData}(F:Fun K "bound_to" "bound_to" s_bound_to f fd)(z_tuple:mg "tuple"=none)(z_zip:mg "zip"=none):FnOk P w K mg base CX0 1 f fd ["around","names","things"] (spBound K):=by
 refine F.ok sc_bound_to (fun vs H Q E h=>?_) (fun cdv A outer s H vs Q E hr h=>?_)
 ·obtain ⟨_,_,_,_,_,_,_,_,_,rfl,_⟩:=h
  rfl
 obtain ⟨ar,ln,lt,b1,b2,env,xs,ts,tvs,rfl,h0,hn,ht,r,hl,he,hx,k⟩:=h
 refine ⟨_,(pss_one (ps_ret (pe_op op_catTA (pe_callTy call_tuple_of (by show _=_;kernel_rfl) z_tuple PyProof.Rows.boot_tuple (pa_cons (pe_compC (defScope s_bound_to) ["around","names","things"] ["pair"] [1] rfl rfl rfl (by decide +kernel) (pi_tup (va nm_bound_to 0)) (fun _ _ _ _=>(pg_name (i:=0) (show (["pair","names"]:List Str).Nodup by decide +kernel) rfl (Or.inl (by kernel_rfl)) (by first | exact .inl rfl | exact .inr (by kernel_rfl)))) (fun _ _ _ _=>(pifs_one (pt_cmpR (op_notIn_seqK K rfl) (pe_ix (ix_tupK K rfl) (va (show Nm ["pair","names"] _ by show _=_;kernel_rfl) 0) pe_int (fun _ _=>rfl)) (va (show Nm ["pair","names"] _ by show _=_;kernel_rfl) 1) (by with_unfolding_all rfl)))) (fun _ _ _ _=>(va (show Nm ["pair","names"] _ by show _=_;kernel_rfl) 0))) pa_nil)) (pe_tuplezipQ rfl (by show _=_;kernel_rfl) z_tuple (by show _=_;kernel_rfl) z_zip (pa_cons (va nm_bound_to 1) (pa_cons (va nm_bound_to 2) pa_nil)))))),?_⟩
 obtain ⟨aa,ys,rfl,asq,ra⟩:=(show Rp K H (.t (env.map pT)) ar from h0).inv_t
 have la:=ra.length
 rw [List.length_map] at la
 fail "R"
 refine comp_tup (xs:=ys) (fun i σ us Hd=>(∃ x,σ=[x,some (.ref ln)])/\Hd=H/\Rps K H (((env.take i).filter (fun p=>!decide (p.1∈xs))).map pT) us) ⟨⟨_,rfl⟩,rfl,.nil⟩ ?_ (Nat.le_of_lt (small1000 (by omega))) ?_ ?_ ?_
 ·rintro i σ us Hd hi ⟨_,_,r1⟩
  rw [r1.length,List.length_map]
  exact Nat.le_trans (List.length_filter_le _ _) (by rw [List.length_take];omega)
 ·rintro i σ us Hd hi ⟨_,rfl,_⟩
  exact asq
 ·rintro i x σ us Hd hi ⟨⟨x0,rfl⟩,rfl,r1⟩
  obtain ⟨y,hy,ry⟩:=ra.get' hi
  rw [List.getElem?_map] at hy
  obtain ⟨p,hp,rfl⟩:=Option.map_eq_some_iff.mp hy
  have hil:i < env.length:=(List.getElem?_eq_some_iff.mp hp).1
  have ep:env[i]=p:=(List.getElem?_eq_some_iff.mp hp).2
  obtain ⟨pa,u1,u2,rfl,psq,g1,g2⟩:=(show Rp K Hd (.t [.s p.1,p.2]) x from ry).t2
  obtain rfl:=g1.inv_s
  have hor:=SqB.or hn
  have hfl:=flat_strs xs
  have hf2:flatV (.str p.1)=true:=rfl
  fail "R"
  rw [inV_strs]
  have et:(env.take (i + 1)).filter (fun p=>!decide (p.1∈xs))=(env.take i).filter (fun p=>!decide (p.1∈xs))++(if p.1∈xs then [] else [p]):=by
   rw [List.take_succ_eq_append_getElem hil,List.filter_append,ep]
   by_cases c:p.1∈xs <;> simp [c]
  refine ite2 (fun c=>?_) (fun c=>?_)
  ·have c':¬ p.1∈xs:=by simpa using c
   refine ⟨_,rfl,⟨_,rfl⟩,rfl,?_⟩
   rw [et,if_neg c',List.map_append]
   exact r1.append (.one ry)
  ·have c':p.1∈xs:=by simpa using c
   refine ⟨⟨_,rfl⟩,rfl,?_⟩
   rw [et,if_pos c',List.append_nil]
   exact r1
 ·rintro σ us Hd ⟨_,rfl,r1⟩ p hp
  rw [la,List.take_length] at r1
  have s1:=same_new hp (.lst us)
  have hL:upd Hd p (.lst us) p=some (.lst us):=upd_same
  fail "R"
  refine .inl ⟨SqL.of hL,fun t ht'=>?_⟩
  have s2:=s1.trans (same_new ht' (.tup us))
  have hT:upd (upd Hd p (.lst us)) t (.tup us) t=some (.tup us):=upd_same
  have hn2:=SqB.same hn s2
  have ht2:=SqB.same ht s2
  have r2:=r.same s2
  have r3:=r1.same s2
  generalize upd (upd Hd p (.lst us)) t (.tup us)=H2 at s2 hT hn2 ht2 r2 r3 ⊢
  fail "R"
  intro q tss H3 zo hq hq3
  have zp:=zip_pairs hl zo r2
  have hT3:=zo.1 _ _ hT
  have lz:=zo.2.1
  have lu:=r3.length
  rw [List.length_map] at lz lu
  have lf:=List.length_filter_le (fun p:Str × T=>!decide (p.1∈xs)) env
  have hz9:us.length + (tss.map V.ref).length<=sizeLine:=by rw [List.length_map];exact small4000 (by omega)
  fail "R"
  intro p9 H9 s9 q9
  refine k H9 _ (s2.trans (zo.1.trans s9)) (Rp.t q9 ?_)
  unfold boundE
  rw [List.map_append]
  exact ((r3.same zo.1).append zp).same s9
end
end G28
namespace G28
open PySem L2
def sgs:List Str:=["+","-","*",":","<","="]
def opN (s:Str)(a b:Int):Int :=
 if s="+" then (a + b) % 1000000 else if s="-" then (a - b) % 1000000 else if s="*" then a * b % 1000000 else if s=":" then a % b else if s="<" then (if a < b then 1 else 0) else (if a=b then 1 else 0)
def Nb (n:Int):Prop:=0<=n/\n < 1000000
theorem opN_nb {s:Str}{a b:Int}(ha:Nb a)(hb:Nb b)(h:s=":"->b≠0):Nb (opN s a b):=by
 unfold opN
 unfold Nb at *
 split
 ·exact ⟨Int.emod_nonneg _ (by decide),Int.emod_lt_of_pos _ (by decide)⟩
 split
 ·exact ⟨Int.emod_nonneg _ (by decide),Int.emod_lt_of_pos _ (by decide)⟩
 split
 ·exact ⟨Int.emod_nonneg _ (by decide),Int.emod_lt_of_pos _ (by decide)⟩
 split
 ·rename_i e
  have:=h e
  have h1:=Int.emod_nonneg a this
  have h2:=Int.emod_lt_of_pos a (show 0 < b by omega)
  omega
 split
 ·split <;> omega
 ·split <;> omega
inductive Nl:T->Prop
 | num {x:Int}:Nb x->Nl (numT x)
 | left {k:Nat}:Nl (leftT k)
inductive GapDo:T->WS->WS->Prop
 | mk {n:Int} {ar:T} {st:WS}:GapDo (.t [.s "gap",.i n,ar]) st (st.write (.t [.s "gap",.i n,ar]))
inductive OpDo:T->WS->WS->Prop
 | fault {a:T} {st:WS}:OpDo (.t [.s "op",.s ":",a,numT 0]) st st.fail
 | left {s:Str} {i:Nat} {b:T} {st:WS}:Nl b->(s=":"->b≠numT 0)->OpDo (.t [.s "op",.s s,leftT i,b]) st (st.write (.t [.s "op",.s s,leftT i,b]))
 | right {s:Str} {x:Int} {k:Nat} {st:WS}:OpDo (.t [.s "op",.s s,numT x,leftT k]) st (st.write (.t [.s "op",.s s,numT x,leftT k]))
 | mk {s:Str} {x y:Int} {st:WS}:s∈sgs->Nb x->Nb y->(s=":"->y≠0)->st.many < 200->OpDo (.t [.s "op",.s s,numT x,numT y]) st (st.one.tell (numT (opN s x y)))
inductive MoreDo:T->WS->WS->Prop
 | left {a:T} {k:Nat} {st:WS}:MoreDo (.t [.s "more",a,leftT k]) st (st.write (.t [.s "more",a,leftT k]))
 | mk {a:T} {ts:List T} {st:WS}:st.many < 200->ts.length < 900->MoreDo (.t [.s "more",a,rowT ts]) st (st.one.tell (rowT (a::ts)))
inductive FirstDo:T->WS->WS->Prop
 | left {f:Str} {k:Nat} {st:WS}:f="first"\/f="others"->FirstDo (.t [.s f,leftT k]) st (st.write (.t [.s f,leftT k]))
 | fault {f:Str} {st:WS}:f="first"\/f="others"->FirstDo (.t [.s f,rowT []]) st st.fail
 | first {t:T} {ts:List T} {st:WS}:st.many < 200->ts.length < 900->FirstDo (.t [.s "first",rowT (t::ts)]) st (st.one.tell t)
 | others {t:T} {ts:List T} {st:WS}:st.many < 200->ts.length < 900->FirstDo (.t [.s "others",rowT (t::ts)]) st (st.one.tell (rowT ts))
inductive LongDo:T->WS->WS->Prop
 | left {k:Nat} {st:WS}:LongDo (.t [.s "long",leftT k]) st (st.write (.t [.s "long",leftT k]))
 | mk {ts:List T} {st:WS}:st.many < 200->ts.length < 900->LongDo (.t [.s "long",rowT ts]) st (st.one.tell (numT ts.length))
abbrev Arm:=Str × List Str × T
def armA (a:Arm):T:=.t [.s a.1,.t (a.2.1.map .s),a.2.2]
def lkA:List Arm->Str->Option (List Str × T)
 | [],_=>none
 | a::r,x=>(lkA r x).or (if a.1=x then some a.2 else none)
inductive MatchDo:T->WS->WS->Prop
 | left {k:Nat} {arms ar:T} {st:WS}:MatchDo (.t [.s "match",leftT k,arms,ar]) st (st.write (.t [.s "match",leftT k,arms,ar]))
 | mk {t:Str} {ts:List T} {arms:List Arm} {env:Env} {ns:List Str} {k:T} {st:WS}:st.many < 200->lkA arms t=some (ns,k)->ns.length=ts.length->env.length<=900->ns.length<=900->arms.length<=900 ->
   MatchDo (.t [.s "match",tagT t ts,.t (arms.map armA),arT env]) st (st.one.go k (arT (boundE env ns ts)))
inductive IfDo:T->WS->WS->Prop
 | left {k:Nat} {b c ar:T} {st:WS}:IfDo (.t [.s "if",leftT k,b,c,ar]) st (st.write (.t [.s "if",leftT k,b,c,ar]))
 | mk {x:Int} {b c ar:T} {st:WS}:st.many < 200->IfDo (.t [.s "if",numT x,b,c,ar]) st (st.one.go (if x=0 then c else b) ar)
def foldT (a:T)(x y:Str)(b c ar:T):T:=.t [.s "fold",a,.s x,.s y,b,c,ar]
inductive FoldDo:T->WS->WS->Prop
 | left {k:Nat} {x y:Str} {b c ar:T} {st:WS}:FoldDo (foldT (leftT k) x y b c ar) st (st.write (foldT (leftT k) x y b c ar))
 | mk {ts:List T} {x y:Str} {b c ar:T} {st:WS}:FoldDo (foldT (rowT ts) x y b c ar) st ((st.tell b).wait (roundT (foldT (rowT ts) x y b c ar) 0))
inductive RowDo (r:T) (st st':WS):Prop
 | gap (h:GapDo r st st')
 | op (h:OpDo r st st')
 | more (h:MoreDo r st st')
 | first (h:FirstDo r st st')
 | long (h:LongDo r st st')
 | mat (h:MatchDo r st st')
 | ife (h:IfDo r st st')
 | fold (h:FoldDo r st st')
def spD (R:T->WS->WS->Prop)(K:PySem.W.Frag)(C:Addr):Sp:=fun vs H Q _=>∃ (H0:Hp) (w:Addr) (a:WA) (st st':WS) (v:V) (r:T),vs=[.ref w,v]/\WAt K C H0 w a H st/\Rp K H r v/\Bd st/\R r st st'/\WK K C H0 w a H st' (Q .non)
end G28
namespace G28
open PySem L2
inductive Th:T->Prop
 | num {x:Int}:Th (numT x)
 | row {ts:List T}:Th (rowT ts)
 | tag {t:Str} {ts:List T}:Th (tagT t ts)
def spIsLeft (K:PySem.W.Frag):Sp:=fun vs H Q _=>∃ (v:V),vs=[v]/\((∃ k:Nat,Rp K H (leftT k) v/\Q (.bl true) H)\/∃ t:T,Rp K H t v/\Th t/\Q (.bl false) H)
def spOpN:Sp:=fun vs H Q _=>∃ (s:Str) (a b:Int),vs=[.str s,.int a,.int b]/\s∈sgs/\Nb a/\Nb b/\(s=":"->b≠0)/\Q (.int (opN s a b)) H
section
variable {P : Program} {w : World} {K : PySem.W.Frag} {mg : Str → Option Value} {base : Heap} {C : Addr}
theorem nm_is_left:Nm ["thing"] (defScope s_is_left):=by decide +kernel
theorem sc_is_left:FnScope ["thing"] ["thing"] (defScope s_is_left):=⟨rfl,rfl,rfl,by decide +kernel,rfl,by decide +kernel,by decide +kernel⟩
theorem ok_is_left {f:Addr}{fd:FuncData}(F:Fun K "is_left" "is_left" s_is_left f fd):FnOk P w K mg base CX0 1 f fd ["thing"] (spIsLeft K):=by
 refine F.ok sc_is_left (fun vs H Q E h=>?_) (fun cdv A outer s H vs Q E hr h=>?_)
 ·obtain ⟨_,rfl,_⟩:=h
  rfl
 obtain ⟨v,rfl,h⟩:=h
 refine ⟨_,(pss_one (ps_ret (pe_cmpR op_eq (pe_ix ix_tup (va nm_is_left 0) pe_int (fun _ _=>rfl)) pe_str (nomark _)))),?_⟩
 rcases h with ⟨n,hv,k⟩ | ⟨t,hv,ht,k⟩
 ·obtain ⟨a,u1,u2,rfl,sq,g1,g2⟩:=hv.t2
  obtain rfl:=g1.inv_s
  fail "R"
  exact k
 ·cases ht with
  | num =>
   obtain ⟨a,u1,u2,rfl,sq,g1,g2⟩:=hv.t2
   obtain rfl:=g1.inv_s
   fail "R"
   rw [show decide (V.str "num"=V.str "left")=false by decide +kernel]
   exact k
  | row =>
   obtain ⟨a,u1,u2,rfl,sq,g1,g2⟩:=hv.t2
   obtain rfl:=g1.inv_s
   fail "R"
   rw [show decide (V.str "row"=V.str "left")=false by decide +kernel]
   exact k
  | tag =>
   obtain ⟨a,u1,u2,u3,rfl,sq,g1,g2,_⟩:=hv.t3
   obtain rfl:=g1.inv_s
   fail "R"
   rw [show decide (V.str "tag"=V.str "left")=false by decide +kernel]
   exact k
theorem nm_op_number:Nm ["sign","a","b"] (defScope s_op_number):=by decide +kernel
theorem sc_op_number:FnScope ["sign","a","b"] ["sign","a","b"] (defScope s_op_number):=⟨rfl,rfl,rfl,by decide +kernel,rfl,by decide +kernel,by decide +kernel⟩
theorem ok_op_number {f:Addr}{fd:FuncData}{tkW:Tok}(F:Fun K "op_number" "op_number" s_op_number f fd)(m_WIDE:mg "WIDE"=some (.int 1000000 tkW)):FnOk P w K mg base CX0 1 f fd ["sign","a","b"] spOpN:=by
 refine F.ok sc_op_number (fun vs H Q E h=>?_) (fun cdv A outer s H vs Q E hr h=>?_)
 ·obtain ⟨_,_,_,rfl,_⟩:=h
  rfl
 obtain ⟨s,a,b,rfl,hs,ha,hb,hz,k⟩:=h
 refine ⟨_,(pss_cons (ps_if (pt_cmpR op_eq (va nm_op_number 0) pe_str (nomark _)) (pss_one (ps_ret (pe_op op_mod (pe_op op_add (va nm_op_number 1) (va nm_op_number 2)) (pe_glob (v:=.int 1000000) (by show _=_;kernel_rfl) m_WIDE ⟨_,rfl⟩)))) pss_nil)
  (pss_cons (ps_if (pt_cmpR op_eq (va nm_op_number 0) pe_str (nomark _)) (pss_one (ps_ret (pe_op op_mod (pe_op op_sub (va nm_op_number 1) (va nm_op_number 2)) (pe_glob (v:=.int 1000000) (by show _=_;kernel_rfl) m_WIDE ⟨_,rfl⟩)))) pss_nil)
  (pss_cons (ps_if (pt_cmpR op_eq (va nm_op_number 0) pe_str (nomark _)) (pss_one (ps_ret (pe_op op_mod (pe_op op_mul (va nm_op_number 1) (va nm_op_number 2)) (pe_glob (v:=.int 1000000) (by show _=_;kernel_rfl) m_WIDE ⟨_,rfl⟩)))) pss_nil)
  (pss_cons (ps_if (pt_cmpR op_eq (va nm_op_number 0) pe_str (nomark _)) (pss_one (ps_ret (pe_op op_mod (va nm_op_number 1) (va nm_op_number 2)))) pss_nil)
  (pss_cons (ps_if (pt_cmpR op_eq (va nm_op_number 0) pe_str (nomark _)) (pss_one (ps_ret (pe_ifExp (pt_cmpR op_lt (va nm_op_number 1) (va nm_op_number 2) (nomark _)) pe_int pe_int))) pss_nil)
  (pss_one (ps_ret (pe_ifExp (pt_cmpR op_eq (va nm_op_number 1) (va nm_op_number 2) (nomark _)) pe_int pe_int)))))))),?_⟩
 have ha1:-2 ^ 64 < a/\a < 2 ^ 64:=by unfold Nb at ha;omega
 unfold sgs at hs
 simp only [List.mem_cons,List.not_mem_nil,or_false] at hs
 rcases hs with rfl | rfl | rfl | rfl | rfl | rfl
 ·fail "R"
  exact k
 ·fail "R"
  exact k
 ·fail "R"
  exact k
 ·have hb0:0 < b:=by have:=hz rfl;unfold Nb at hb;omega
  fail "R"
  exact k
 ·fail "R"
  have e:opN "<" a b=if a < b then 1 else 0:=by kernel_rfl
  rw [e] at k
  refine ite2 (fun c=>?_) (fun c=>?_)
  ·rw [if_pos (of_decide_eq_true c)] at k;exact k
  ·rw [if_neg (fun z=>c (decide_eq_true z))] at k;exact k
 ·fail "R"
  have e:opN "=" a b=if a=b then 1 else 0:=by kernel_rfl
  rw [e] at k
  refine ite2 (fun c=>?_) (fun c=>?_)
  ·have c':a=b:=by have:=of_decide_eq_true c;injection this
   rw [if_pos c'] at k;exact k
  ·have c':¬ a=b:=fun z=>c (decide_eq_true (by rw [z]))
   rw [if_neg c'] at k;exact k
variable {gT gO gI gL gN gW : Addr} {tfd ofd ifd lfd nfd wfd : FuncData}
theorem nm_do_gap:Nm ["work","row"] (defScope s_do_gap):=by decide +kernel
theorem sc_do_gap:FnScope ["work","row"] ["work","row"] (defScope s_do_gap):=⟨rfl,rfl,rfl,by decide +kernel,rfl,by decide +kernel,by decide +kernel⟩
theorem ok_do_gap {f:Addr}{fd:FuncData}(F:Fun K "do_gap" "do_gap" s_do_gap f fd)(mWrite:HasM P w K mg base C "write" 2 ["self","row"] (spWrite K C) gW wfd):FnOk P w K mg base CX0 3 f fd ["work","row"] (spD GapDo K C):=by
 refine F.ok sc_do_gap (fun vs H Q E h=>?_) (fun cdv A outer s H vs Q E hr h=>?_)
 ·obtain ⟨_,_,_,_,_,_,_,rfl,_⟩:=h
  rfl
 obtain ⟨H0,o,a,st,st',v,r,rfl,hw,hv,hb,h,k⟩:=h
 refine ⟨_,(pss_one (ps_expr (pe_meth (va nm_do_gap 0) mWrite.c mWrite.m mWrite.ok (hr.mono (by omega)) mWrite.bd .nil pass0 (pa_cons (va nm_do_gap 1) pa_nil)))),?_⟩
 cases h
 have hi:=hw.ins
 have b1:=hb.t
 have b2:=hb.r
 fail "R"
 exact k
theorem numT_inj {x y:Int}(h:numT x=numT y):x=y:=by
 unfold numT at h
 injection h with h;injection h with _ h;injection h with h;injection h
theorem nm_do_op:Nm ["work","row","form","sign","a","b"] (defScope s_do_op):=by decide +kernel
theorem lm_do_op:Lm ["work","row","form","sign","a","b"] (defScope s_do_op):=by decide +kernel
theorem sc_do_op:FnScope ["work","row","form","sign","a","b"] ["work","row"] (defScope s_do_op):=⟨rfl,rfl,rfl,by decide +kernel,rfl,by decide +kernel,by decide +kernel⟩
theorem ok_do_op {f:Addr}{fd:FuncData}(F:Fun K "do_op" "do_op" s_do_op f fd)(N:NoA K C)(IL:Has P w K mg base "is_left" 1 ["thing"] (spIsLeft K) gL lfd)(ON:Has P w K mg base "op_number" 1 ["sign","a","b"] spOpN gN nfd)
  (mTell:HasM P w K mg base C "tell" 1 ["self","thing"] (spTell K C) gT tfd) (mOne:HasM P w K mg base C "do_one" 1 ["self"] (spDoOne K C) gO ofd) (mWrite:HasM P w K mg base C "write" 2 ["self","row"] (spWrite K C) gW wfd):FnOk P w K mg base CX0 3 f fd ["work","row"] (spD OpDo K C):=by
 refine F.ok sc_do_op (fun vs H Q E h=>?_) (fun cdv A outer s H vs Q E hr h=>?_)
 ·obtain ⟨_,_,_,_,_,_,_,rfl,_⟩:=h
  rfl
 obtain ⟨H0,o,a,st,st',v,r,rfl,hw,hv,hb,h,k⟩:=h
 refine ⟨_,(pss_cons (ps_asg (va nm_do_op 1) (pg_tupK (n:=4) K rfl rfl (pgs_cons (ga sc_do_op.nd lm_do_op 2) (pgs_cons (ga sc_do_op.nd lm_do_op 3) (pgs_cons (ga sc_do_op.nd lm_do_op 4) (pgs_cons (ga sc_do_op.nd lm_do_op 5) pgs_nil))))))
  (pss_one (ps_if (PW.pt (pw_and (pt_cmpR op_eq (va nm_do_op 3) pe_str (nomark _)) (pw_and1 (pt_cmpR (op_eqT hr.u150) (va nm_do_op 5) (pe_tup (pa_cons pe_str (pa_cons pe_int pa_nil))) (nomark _))))) (pss_one (ps_fld (va nm_do_op 0) pe_bl rfl)) (pss_one (ps_if (PW.pt (pw_or (pt_truth (pe_call IL.ok (hr.mono (by omega)) (by show _=_;kernel_rfl) IL.at' IL.kp IL.bd .nil pass0 (pa_cons (va nm_do_op 4) pa_nil)) (fun _=>rfl)) (pw_or1 (pt_truth (pe_call IL.ok (hr.mono (by omega)) (by show _=_;kernel_rfl) IL.at' IL.kp IL.bd .nil pass0 (pa_cons (va nm_do_op 5) pa_nil)) (fun _=>rfl))))) (pss_one (ps_expr (pe_meth (va nm_do_op 0) mWrite.c mWrite.m mWrite.ok (hr.mono (by omega)) mWrite.bd .nil pass0 (pa_cons (va nm_do_op 1) pa_nil)))) (pss_cons (ps_expr (pe_meth0 (va nm_do_op 0) mOne.c mOne.m mOne.ok (hr.mono (by omega)) mOne.bd .nil pass0))
  (pss_one (ps_expr (pe_meth (va nm_do_op 0) mTell.c mTell.m mTell.ok (hr.mono (by omega)) mTell.bd .nil pass0 (pa_cons (pe_tup (pa_cons pe_str (pa_cons (pe_call ON.ok (hr.mono (by omega)) (by show _=_;kernel_rfl) ON.at' ON.kp ON.bd .nil pass0 (pa_cons (va nm_do_op 3) (pa_cons (pe_ix ix_tup (va nm_do_op 4) pe_int (fun _ _=>rfl)) (pa_cons (pe_ix ix_tup (va nm_do_op 5) pe_int (fun _ _=>rfl)) pa_nil)))) pa_nil))) pa_nil)))))))))),?_⟩
 have hi:=hw.ins
 have hc:=N.c
 have hn:=N.failed
 have hfl:=fs_len a st
 have b1:=hb.t
 have b2:=hb.r
 cases h with
 | fault =>
  obtain ⟨ra,u1,u2,u3,u4,rfl,sq,g1,g2,g3,g4⟩:=hv.t4
  obtain rfl:=g1.inv_s
  obtain rfl:=g2.inv_s
  fail "R"
  intro p hp
  have sp:=same_new hp (.tup [.str "num",.int 0])
  have r4:=g4.kt (Kt.same sp)
  have r5:Rp K (upd H p (.tup [.str "num",.int 0])) (numT 0) (.ref p):=Rp.new (K:=K) hp (xs:=[.s "num",.i 0]) (.cons .s (.one .i))
  have dp:(numT 0).dep<=150:=by simp [numT,T.dep,T.deps]
  obtain ⟨w1,k1,o1⟩:=hw.ext sp
  have hi1:=w1.ins
  fail "R"
  rw [put_failed a st true]
  obtain ⟨w2,k2,o2⟩:=w1.setI (st':={ st with failed:=true }) rfl rfl rfl
  exact k _ w2 (k1.trans k2) (o1.trans o2)
 | @left s i b _ hb2 hne =>
  have hv':=hv
  obtain ⟨ra,u1,u2,u3,u4,rfl,sq,g1,g2,g3,g4⟩:=hv.t4
  obtain rfl:=g1.inv_s
  obtain rfl:=g2.inv_s
  fail "R"
  refine ite2 (fun c=>?_) (fun c=>?_)
  ·have c1:s=":":=by have:=of_decide_eq_true c;injection this
   clear c
   fail "R"
   intro p hp
   have sp:=same_new hp (.tup [.str "num",.int 0])
   have r4:=g4.kt (Kt.same sp)
   have r5:Rp K (upd H p (.tup [.str "num",.int 0])) (numT 0) (.ref p):=Rp.new (K:=K) hp (xs:=[.s "num",.i 0]) (.cons .s (.one .i))
   have dp:b.dep<=150:=by cases hb2 <;> simp [numT,leftT,T.dep,T.deps]
   fail "R"
   obtain ⟨w1,k1,o1⟩:=hw.ext sp
   have hi1:=w1.ins
   have q3:=g3.kt k1
   have hv2:=hv'.kt k1
   refine ite2 (fun c=>absurd (of_decide_eq_true c) (hne c1)) (fun c=>?_)
   clear c
   fail "O"
   intro H2 w2 k2 o2
   exact k H2 w2 (k1.trans k2) (o1.trans o2)
  ·fail "O"
   exact k
 | @right s x i _ =>
  have hv':=hv
  have th:Th (numT x):=.num
  obtain ⟨ra,u1,u2,u3,u4,rfl,sq,g1,g2,g3,g4⟩:=hv.t4
  obtain rfl:=g1.inv_s
  obtain rfl:=g2.inv_s
  fail "R"
  refine ite2 (fun c=>?_) (fun c=>?_)
  ·have c1:s=":":=by have:=of_decide_eq_true c;injection this
   clear c
   fail "R"
   intro p hp
   have sp:=same_new hp (.tup [.str "num",.int 0])
   have r4:=g4.kt (Kt.same sp)
   have r5:Rp K (upd H p (.tup [.str "num",.int 0])) (numT 0) (.ref p):=Rp.new (K:=K) hp (xs:=[.s "num",.i 0]) (.cons .s (.one .i))
   have dp:(leftT i).dep<=150:=by simp [leftT,T.dep,T.deps]
   fail "R"
   obtain ⟨w1,k1,o1⟩:=hw.ext sp
   have hi1:=w1.ins
   have q3:=g3.kt k1
   have hv2:=hv'.kt k1
   fail "O"
   intro H2 w2 k2 o2
   exact k H2 w2 (k1.trans k2) (o1.trans o2)
  ·fail "O"
   exact k
 | @mk s x y _ hs hx hy hz hm =>
  have hv':=hv
  have th:Th (numT x):=.num
  have th2:Th (numT y):=.num
  obtain ⟨ra,u1,u2,u3,u4,rfl,sq,g1,g2,g3,g4⟩:=hv.t4
  obtain rfl:=g1.inv_s
  obtain rfl:=g2.inv_s
  obtain ⟨a3,b3,c3,rfl,sq3,e3,f3⟩:=id g3.t2
  obtain rfl:=e3.inv_s
  obtain rfl:=f3.inv_i
  obtain ⟨a4,b4,c4,rfl,sq4,e4,f4⟩:=id g4.t2
  obtain rfl:=e4.inv_s
  obtain rfl:=f4.inv_i
  fail "R"
  refine ite2 (fun c=>?_) (fun c=>?_)
  ·have c1:s=":":=by have:=of_decide_eq_true c;injection this
   clear c
   fail "R"
   intro p hp
   have sp:=same_new hp (.tup [.str "num",.int 0])
   have r4:=g4.kt (Kt.same sp)
   have r5:Rp K (upd H p (.tup [.str "num",.int 0])) (numT 0) (.ref p):=Rp.new (K:=K) hp (xs:=[.s "num",.i 0]) (.cons .s (.one .i))
   have dp:(numT y).dep<=150:=by simp [numT,T.dep,T.deps]
   fail "R"
   obtain ⟨w1,k1,o1⟩:=hw.ext sp
   have hi1:=w1.ins
   refine ite2 (fun c=>absurd (numT_inj (of_decide_eq_true c)) (hz c1)) (fun c=>?_)
   clear c
   have q3:=g3.kt k1
   have q4:=g4.kt k1
   have s3:=sq3.kt k1
   have s4:=sq4.kt k1
   fail "O"
   intro H2 w2 k2 o2
   have s5:=s3.kt k2
   have hi2:=w2.ins
   have s6:=s4.kt k2
   fail "R"
   intro p2 hp2
   obtain ⟨w3,k3,o3⟩:=w2.ext (same_new hp2 (.tup [.str "num",.int (opN s x y)]))
   have r9:Rp K (upd H2 p2 (.tup [.str "num",.int (opN s x y)])) (numT (opN s x y)) (.ref p2):=Rp.new (K:=K) hp2 (xs:=[.s "num",.i (opN s x y)]) (.cons .s (.one .i))
   have b3:st.one.told.length < 1000:=by show st.told.length < 1000;omega
   fail "R"
   intro H4 w4 k4 o4
   exact k H4 w4 (k1.trans (k2.trans (k3.trans k4))) (o1.trans (o2.trans (o3.trans o4)))
  ·fail "O"
   intro H2 w2 k2 o2
   have s5:=sq3.kt k2
   have hi2:=w2.ins
   have s6:=sq4.kt k2
   fail "R"
   intro p2 hp2
   obtain ⟨w3,k3,o3⟩:=w2.ext (same_new hp2 (.tup [.str "num",.int (opN s x y)]))
   have r9:Rp K (upd H2 p2 (.tup [.str "num",.int (opN s x y)])) (numT (opN s x y)) (.ref p2):=Rp.new (K:=K) hp2 (xs:=[.s "num",.i (opN s x y)]) (.cons .s (.one .i))
   have b3:st.one.told.length < 1000:=by show st.told.length < 1000;omega
   fail "R"
   intro H4 w4 k4 o4
   exact k H4 w4 (k2.trans (k3.trans k4)) (o2.trans (o3.trans o4))
end
end G28
namespace G28
open PySem L2
section
variable {P : Program} {w : World} {K : PySem.W.Frag} {mg : Str → Option Value} {base : Heap} {C : Addr}
variable {gT gO gI gL gN gW gB : Addr} {tfd ofd ifd lfd nfd wfd bfd : FuncData}
theorem sIx1 (y:V)(q:List V):HT.sIx (y::q).length 0 (some 1)=1:=by
 unfold HT.sIx
 simp
theorem cut1 (y:V)(q:List V):cutV (y::q) (some 1) none=q:=by
 unfold cutV
 rw [sIx1]
 show List.take ((y::q).length - 1) q=q
 rw [List.length_cons,Nat.add_sub_cancel,List.take_length]
theorem nm_do_more:Nm ["work","row","form","a","b"] (defScope s_do_more):=by decide +kernel
theorem lm_do_more:Lm ["work","row","form","a","b"] (defScope s_do_more):=by decide +kernel
theorem sc_do_more:FnScope ["work","row","form","a","b"] ["work","row"] (defScope s_do_more):=⟨rfl,rfl,rfl,by decide +kernel,rfl,by decide +kernel,by decide +kernel⟩
theorem ok_do_more {f:Addr}{fd:FuncData}(F:Fun K "do_more" "do_more" s_do_more f fd)(N:NoA K C)(IL:Has P w K mg base "is_left" 1 ["thing"] (spIsLeft K) gL lfd)
  (mTell:HasM P w K mg base C "tell" 1 ["self","thing"] (spTell K C) gT tfd) (mOne:HasM P w K mg base C "do_one" 1 ["self"] (spDoOne K C) gO ofd) (mWrite:HasM P w K mg base C "write" 2 ["self","row"] (spWrite K C) gW wfd):FnOk P w K mg base CX0 3 f fd ["work","row"] (spD MoreDo K C):=by
 refine F.ok sc_do_more (fun vs H Q E h=>?_) (fun cdv A outer s H vs Q E hr h=>?_)
 ·obtain ⟨_,_,_,_,_,_,_,rfl,_⟩:=h
  rfl
 obtain ⟨H0,o,a,st,st',v,r,rfl,hw,hv,hb,h,k⟩:=h
 refine ⟨_,(pss_cons (ps_asg (va nm_do_more 1) (pg_tupK (n:=3) K rfl rfl (pgs_cons (ga sc_do_more.nd lm_do_more 2) (pgs_cons (ga sc_do_more.nd lm_do_more 3) (pgs_cons (ga sc_do_more.nd lm_do_more 4) pgs_nil)))))
  (pss_one (ps_if (pt_truth (pe_call IL.ok (hr.mono (by omega)) (by show _=_;kernel_rfl) IL.at' IL.kp IL.bd .nil pass0 (pa_cons (va nm_do_more 4) pa_nil)) (fun _=>rfl)) (pss_one (ps_expr (pe_meth (va nm_do_more 0) mWrite.c mWrite.m mWrite.ok (hr.mono (by omega)) mWrite.bd .nil pass0 (pa_cons (va nm_do_more 1) pa_nil)))) (pss_cons (ps_expr (pe_meth0 (va nm_do_more 0) mOne.c mOne.m mOne.ok (hr.mono (by omega)) mOne.bd .nil pass0))
  (pss_one (ps_expr (pe_meth (va nm_do_more 0) mTell.c mTell.m mTell.ok (hr.mono (by omega)) mTell.bd .nil pass0 (pa_cons (pe_tup (pa_cons pe_str (pa_cons (pe_op op_catTA (pe_tup (pa_cons (va nm_do_more 3) pa_nil)) (pe_ix ix_tup (va nm_do_more 4) pe_int (fun _ _=>rfl))) pa_nil))) pa_nil)))))))),?_⟩
 have hi:=hw.ins
 have b1:=hb.t
 have b2:=hb.r
 cases h with
 | @left x i _ =>
  have hv':=hv
  obtain ⟨ra,u1,u2,u3,rfl,sq,g1,g2,g3⟩:=hv.t3
  obtain rfl:=g1.inv_s
  fail "O"
  exact k
 | @mk x ts _ hm hl =>
  have th:Th (rowT ts):=.row
  obtain ⟨ra,u1,u2,u3,rfl,sq,g1,g2,g3⟩:=hv.t3
  obtain rfl:=g1.inv_s
  obtain ⟨a3,b3,c3,rfl,sq3,e3,f3⟩:=id g3.t2
  obtain rfl:=e3.inv_s
  obtain ⟨a4,ys,rfl,sq4,r4⟩:=(show Rp K H (.t ts) c3 from f3).inv_t
  have ly:=r4.length
  fail "O"
  intro H2 w2 k2 o2
  have hi2:=w2.ins
  fail "R"
  intro p hp
  have sp:=same_new hp (.tup [u2])
  have kp:=k2.trans (Kt.same sp)
  have s3:=sq3.kt kp
  have s4:=sq4.kt kp
  have hz:([u2]:List V).length + ys.length<=sizeLine:=by rw [List.length_singleton];exact small4000 (by omega)
  fail "R"
  intro p3 H3 s33 q3
  fail "R"
  intro p4 hp4
  have sa:=s33.trans (same_new hp4 (.tup [.str "row",.ref p3]))
  obtain ⟨w4,k4,o4⟩:=w2.ext (sp.trans sa)
  have hi4:=w4.ins
  have b3':st.one.told.length < 1000:=by show st.told.length < 1000;omega
  have rr:Rp K _ (rowT (x::ts)) (.ref p4):=Rp.new (K:=K) hp4 (xs:=[.s "row",.t (x::ts)]) (.cons .s (.one (Rp.t q3 ((Rps.cons g2 r4).kt (kp.trans (Kt.same s33))))))
  fail "R"
  intro H5 w5 k5 o5
  exact k H5 w5 (k2.trans (k4.trans k5)) (o2.trans (o4.trans o5))
theorem nm_do_first:Nm ["work","row","form","a"] (defScope s_do_first):=by decide +kernel
theorem lm_do_first:Lm ["work","row","form","a"] (defScope s_do_first):=by decide +kernel
theorem sc_do_first:FnScope ["work","row","form","a"] ["work","row"] (defScope s_do_first):=⟨rfl,rfl,rfl,by decide +kernel,rfl,by decide +kernel,by decide +kernel⟩
theorem ok_do_first {f:Addr}{fd:FuncData}(F:Fun K "do_first" "do_first" s_do_first f fd)(N:NoA K C)(IL:Has P w K mg base "is_left" 1 ["thing"] (spIsLeft K) gL lfd)
  (mTell:HasM P w K mg base C "tell" 1 ["self","thing"] (spTell K C) gT tfd) (mOne:HasM P w K mg base C "do_one" 1 ["self"] (spDoOne K C) gO ofd) (mWrite:HasM P w K mg base C "write" 2 ["self","row"] (spWrite K C) gW wfd):FnOk P w K mg base CX0 3 f fd ["work","row"] (spD FirstDo K C):=by
 refine F.ok sc_do_first (fun vs H Q E h=>?_) (fun cdv A outer s H vs Q E hr h=>?_)
 ·obtain ⟨_,_,_,_,_,_,_,rfl,_⟩:=h
  rfl
 obtain ⟨H0,o,a,st,st',v,r,rfl,hw,hv,hb,h,k⟩:=h
 refine ⟨_,(pss_cons (ps_asg (va nm_do_first 1) (pg_tupK (n:=2) K rfl rfl (pgs_cons (ga sc_do_first.nd lm_do_first 2) (pgs_cons (ga sc_do_first.nd lm_do_first 3) pgs_nil))))
  (pss_one (ps_if (pt_truth (pe_call IL.ok (hr.mono (by omega)) (by show _=_;kernel_rfl) IL.at' IL.kp IL.bd .nil pass0 (pa_cons (va nm_do_first 3) pa_nil)) (fun _=>rfl)) (pss_one (ps_expr (pe_meth (va nm_do_first 0) mWrite.c mWrite.m mWrite.ok (hr.mono (by omega)) mWrite.bd .nil pass0 (pa_cons (va nm_do_first 1) pa_nil)))) (pss_one (ps_if (pt_not (pt_truth (pe_ix ix_tup (va nm_do_first 3) pe_int (fun _ _=>rfl)) (fun _=>rfl))) (pss_one (ps_fld (va nm_do_first 0) pe_bl rfl)) (pss_cons (ps_expr (pe_meth0 (va nm_do_first 0) mOne.c mOne.m mOne.ok (hr.mono (by omega)) mOne.bd .nil pass0))
  (pss_one (ps_expr (pe_meth (va nm_do_first 0) mTell.c mTell.m mTell.ok (hr.mono (by omega)) mTell.bd .nil pass0 (pa_cons (pe_ifExp (pt_cmpR op_eq (va nm_do_first 2) pe_str (nomark _)) (pe_ix ix_tup (pe_ix ix_tup (va nm_do_first 3) pe_int (fun _ _=>rfl)) pe_int (fun _ _=>rfl)) (pe_tup (pa_cons pe_str (pa_cons (pe_slice sl_tup (pe_ix ix_tup (va nm_do_first 3) pe_int (fun _ _=>rfl)) (po_some pe_int) po_none) pa_nil)))) pa_nil)))))))))),?_⟩
 have hi:=hw.ins
 have b1:=hb.t
 have b2:=hb.r
 have hc:=N.c
 have hn:=N.failed
 have hfl:=fs_len a st
 have b3':st.one.told.length < 1000:=by show st.told.length < 1000;omega
 cases h with
 | left hf =>
  have hv':=hv
  obtain ⟨ra,u1,u2,rfl,sq,g1,g2⟩:=hv.t2
  obtain rfl:=g1.inv_s
  fail "O"
  exact k
 | fault hf =>
  have th:Th (rowT []):=.row
  obtain ⟨ra,u1,u2,rfl,sq,g1,g3⟩:=hv.t2
  obtain rfl:=g1.inv_s
  obtain ⟨a3,b3,c3,rfl,sq3,e3,f3⟩:=id g3.t2
  obtain rfl:=e3.inv_s
  obtain ⟨a4,ys,rfl,sq4,r4⟩:=(show Rp K H (.t []) c3 from f3).inv_t
  obtain rfl:=r4.inv0
  fail "O"
  rw [put_failed a st true]
  obtain ⟨w2,k2,o2⟩:=hw.setI (st':={ st with failed:=true }) rfl rfl rfl
  exact k _ w2 k2 o2
 | @first t ts _ hm hl =>
  have th:Th (rowT (t::ts)):=.row
  obtain ⟨ra,u1,u2,rfl,sq,g1,g3⟩:=hv.t2
  obtain rfl:=g1.inv_s
  obtain ⟨a3,b3,c3,rfl,sq3,e3,f3⟩:=id g3.t2
  obtain rfl:=e3.inv_s
  obtain ⟨a4,ys,rfl,sq4,r4⟩:=(show Rp K H (.t (t::ts)) c3 from f3).inv_t
  obtain ⟨y,q,rfl,ry,rq⟩:=r4.inv
  fail "O"
  intro H2 w2 k2 o2
  have hi2:=w2.ins
  have s3:=sq3.kt k2
  have s4:=sq4.kt k2
  have ry2:=ry.kt k2
  have at_:=at0 y q
  fail "R"
  intro H5 w5 k5 o5
  exact k H5 w5 (k2.trans k5) (o2.trans o5)
 | @others t ts _ hm hl =>
  have th:Th (rowT (t::ts)):=.row
  obtain ⟨ra,u1,u2,rfl,sq,g1,g3⟩:=hv.t2
  obtain rfl:=g1.inv_s
  obtain ⟨a3,b3,c3,rfl,sq3,e3,f3⟩:=id g3.t2
  obtain rfl:=e3.inv_s
  obtain ⟨a4,ys,rfl,sq4,r4⟩:=(show Rp K H (.t (t::ts)) c3 from f3).inv_t
  obtain ⟨y,q,rfl,ry,rq⟩:=r4.inv
  fail "O"
  intro H2 w2 k2 o2
  have hi2:=w2.ins
  have s3:=sq3.kt k2
  have s4:=sq4.kt k2
  have rq2:=rq.kt k2
  have lq:=rq.length
  have hz:¬ (HT.sIx (y::q).length 0 (some 1)=0/\HT.sIx (y::q).length (y::q).length none=(y::q).length):=fun z=>by
   have:=z.1
   rw [sIx1] at this
   cases this
  fail "R"
  intro p hp
  rw [show cutV (y::q) (some 1) none=q from cut1 y q]
  have sp:=same_new hp (.tup q)
  fail "R"
  intro p4 hp4
  obtain ⟨w4,k4,o4⟩:=w2.ext (sp.trans (same_new hp4 (.tup [.str "row",.ref p])))
  have hi4:=w4.ins
  have rr:Rp K _ (rowT ts) (.ref p4):=Rp.new (K:=K) hp4 (xs:=[.s "row",.t ts]) (.cons .s (.one (Rp.new (K:=K) hp rq2)))
  fail "R"
  intro H5 w5 k5 o5
  exact k H5 w5 (k2.trans (k4.trans k5)) (o2.trans (o4.trans o5))
theorem nm_do_long:Nm ["work","row","form","a"] (defScope s_do_long):=by decide +kernel
theorem lm_do_long:Lm ["work","row","form","a"] (defScope s_do_long):=by decide +kernel
theorem sc_do_long:FnScope ["work","row","form","a"] ["work","row"] (defScope s_do_long):=⟨rfl,rfl,rfl,by decide +kernel,rfl,by decide +kernel,by decide +kernel⟩
theorem ok_do_long {f:Addr}{fd:FuncData}(F:Fun K "do_long" "do_long" s_do_long f fd)(N:NoA K C)(IL:Has P w K mg base "is_left" 1 ["thing"] (spIsLeft K) gL lfd)
  (mTell:HasM P w K mg base C "tell" 1 ["self","thing"] (spTell K C) gT tfd) (mOne:HasM P w K mg base C "do_one" 1 ["self"] (spDoOne K C) gO ofd) (mWrite:HasM P w K mg base C "write" 2 ["self","row"] (spWrite K C) gW wfd) (z_len:mg "len"=none):FnOk P w K mg base CX0 3 f fd ["work","row"] (spD LongDo K C):=by
 refine F.ok sc_do_long (fun vs H Q E h=>?_) (fun cdv A outer s H vs Q E hr h=>?_)
 ·obtain ⟨_,_,_,_,_,_,_,rfl,_⟩:=h
  rfl
 obtain ⟨H0,o,a,st,st',v,r,rfl,hw,hv,hb,h,k⟩:=h
 refine ⟨_,(pss_cons (ps_asg (va nm_do_long 1) (pg_tupK (n:=2) K rfl rfl (pgs_cons (ga sc_do_long.nd lm_do_long 2) (pgs_cons (ga sc_do_long.nd lm_do_long 3) pgs_nil))))
  (pss_one (ps_if (pt_truth (pe_call IL.ok (hr.mono (by omega)) (by show _=_;kernel_rfl) IL.at' IL.kp IL.bd .nil pass0 (pa_cons (va nm_do_long 3) pa_nil)) (fun _=>rfl)) (pss_one (ps_expr (pe_meth (va nm_do_long 0) mWrite.c mWrite.m mWrite.ok (hr.mono (by omega)) mWrite.bd .nil pass0 (pa_cons (va nm_do_long 1) pa_nil)))) (pss_cons (ps_expr (pe_meth0 (va nm_do_long 0) mOne.c mOne.m mOne.ok (hr.mono (by omega)) mOne.bd .nil pass0))
  (pss_one (ps_expr (pe_meth (va nm_do_long 0) mTell.c mTell.m mTell.ok (hr.mono (by omega)) mTell.bd .nil pass0 (pa_cons (pe_tup (pa_cons pe_str (pa_cons (pe_callB call_len_seq (by show _=_;kernel_rfl) z_len PySem.boot_len (pa_cons (pe_ix ix_tup (va nm_do_long 3) pe_int (fun _ _=>rfl)) pa_nil)) pa_nil))) pa_nil)))))))),?_⟩
 have hi:=hw.ins
 have b1:=hb.t
 have b2:=hb.r
 have b3':st.one.told.length < 1000:=by show st.told.length < 1000;omega
 cases h with
 | left =>
  have hv':=hv
  obtain ⟨ra,u1,u2,rfl,sq,g1,g2⟩:=hv.t2
  obtain rfl:=g1.inv_s
  fail "O"
  exact k
 | @mk ts _ hm hl =>
  have th:Th (rowT ts):=.row
  obtain ⟨ra,u1,u2,rfl,sq,g1,g3⟩:=hv.t2
  obtain rfl:=g1.inv_s
  obtain ⟨a3,b3,c3,rfl,sq3,e3,f3⟩:=id g3.t2
  obtain rfl:=e3.inv_s
  obtain ⟨a4,ys,rfl,sq4,r4⟩:=(show Rp K H (.t ts) c3 from f3).inv_t
  have ly:=r4.length
  fail "O"
  intro H2 w2 k2 o2
  have hi2:=w2.ins
  have s3:=sq3.kt k2
  have s4:=sq4.kt k2
  have s4':SqL K H2 a4 ys\/SqT K H2 a4 ys:=.inr s4
  fail "R"
  intro p2 hp2
  obtain ⟨w3,k3,o3⟩:=w2.ext (same_new hp2 (.tup [.str "num",.int (ys.length:Int)]))
  have r9:Rp K (upd H2 p2 (.tup [.str "num",.int (ys.length:Int)])) (numT ts.length) (.ref p2):=by
   rw [←ly]
   exact Rp.new (K:=K) hp2 (xs:=[.s "num",.i (ys.length:Int)]) (.cons .s (.one .i))
  fail "R"
  intro H5 w5 k5 o5
  exact k H5 w5 (k2.trans (k3.trans k5)) (o2.trans (o3.trans o5))
theorem nm_do_if:Nm ["work","row","form","a","b","c","around"] (defScope s_do_if):=by decide +kernel
theorem lm_do_if:Lm ["work","row","form","a","b","c","around"] (defScope s_do_if):=by decide +kernel
theorem sc_do_if:FnScope ["work","row","form","a","b","c","around"] ["work","row"] (defScope s_do_if):=⟨rfl,rfl,rfl,by decide +kernel,rfl,by decide +kernel,by decide +kernel⟩
theorem ok_do_if {f:Addr}{fd:FuncData}(F:Fun K "do_if" "do_if" s_do_if f fd)(N:NoA K C)(IL:Has P w K mg base "is_left" 1 ["thing"] (spIsLeft K) gL lfd)
  (mInto:HasM P w K mg base C "go_into" 1 ["self","term","around"] (spGoInto K C) gT tfd) (mOne:HasM P w K mg base C "do_one" 1 ["self"] (spDoOne K C) gO ofd) (mWrite:HasM P w K mg base C "write" 2 ["self","row"] (spWrite K C) gW wfd):FnOk P w K mg base CX0 3 f fd ["work","row"] (spD IfDo K C):=by
 refine F.ok sc_do_if (fun vs H Q E h=>?_) (fun cdv A outer s H vs Q E hr h=>?_)
 ·obtain ⟨_,_,_,_,_,_,_,rfl,_⟩:=h
  rfl
 obtain ⟨H0,o,a,st,st',v,r,rfl,hw,hv,hb,h,k⟩:=h
 refine ⟨_,(pss_cons (ps_asg (va nm_do_if 1) (pg_tupK (n:=5) K rfl rfl (pgs_cons (ga sc_do_if.nd lm_do_if 2) (pgs_cons (ga sc_do_if.nd lm_do_if 3) (pgs_cons (ga sc_do_if.nd lm_do_if 4) (pgs_cons (ga sc_do_if.nd lm_do_if 5) (pgs_cons (ga sc_do_if.nd lm_do_if 6) pgs_nil)))))))
  (pss_one (ps_if (pt_truth (pe_call IL.ok (hr.mono (by omega)) (by show _=_;kernel_rfl) IL.at' IL.kp IL.bd .nil pass0 (pa_cons (va nm_do_if 3) pa_nil)) (fun _=>rfl)) (pss_one (ps_expr (pe_meth (va nm_do_if 0) mWrite.c mWrite.m mWrite.ok (hr.mono (by omega)) mWrite.bd .nil pass0 (pa_cons (va nm_do_if 1) pa_nil)))) (pss_cons (ps_expr (pe_meth0 (va nm_do_if 0) mOne.c mOne.m mOne.ok (hr.mono (by omega)) mOne.bd .nil pass0))
  (pss_one (ps_expr (pe_meth (va nm_do_if 0) mInto.c mInto.m mInto.ok (hr.mono (by omega)) mInto.bd .nil pass0 (pa_cons (pe_ifExp (pt_cmpR op_eq (pe_ix ix_tup (va nm_do_if 3) pe_int (fun _ _=>rfl)) pe_int (nomark _)) (va nm_do_if 5) (va nm_do_if 4)) (pa_cons (va nm_do_if 6) pa_nil))))))))),?_⟩
 have hi:=hw.ins
 have b1:=hb.t
 have b2:=hb.r
 cases h with
 | left =>
  have hv':=hv
  obtain ⟨ra,u1,u2,u3,u4,u5,rfl,sq,g1,g2,g3,g4,g5⟩:=hv.t5
  obtain rfl:=g1.inv_s
  fail "O"
  exact k
 | @mk x b c ar _ hm =>
  have th:Th (numT x):=.num
  obtain ⟨ra,u1,u2,u3,u4,u5,rfl,sq,g1,g2,g3,g4,g5⟩:=hv.t5
  obtain rfl:=g1.inv_s
  obtain ⟨a3,b3,c3,rfl,sq3,e3,f3⟩:=id g2.t2
  obtain rfl:=e3.inv_s
  obtain rfl:=f3.inv_i
  fail "O"
  intro H2 w2 k2 o2
  have hi2:=w2.ins
  have s5:=sq3.kt k2
  have r3:=g3.kt k2
  have r4:=g4.kt k2
  have r5:=g5.kt k2
  have b3':st.one.waiting.length < 1000:=by show st.waiting.length < 1000;have:=hb.w;omega
  fail "R"
  refine ite2 (fun c=>?_) (fun c=>?_)
  ·have c2:x=0:=by have:=of_decide_eq_true c;injection this
   rw [if_pos c2] at k
   clear c
   fail "R"
   intro H4 w4 k4 o4
   exact k H4 w4 (k2.trans k4) (o2.trans o4)
  ·have c2:¬ x=0:=fun z=>c (decide_eq_true (by rw [z]))
   rw [if_neg c2] at k
   clear c
   fail "R"
   intro H4 w4 k4 o4
   exact k H4 w4 (k2.trans k4) (o2.trans o4)
end
end G28
namespace L2
open PySem PySem.Spec PyProof.Rows
section
variable {X : Cx}
theorem ps_dcomp {y:Str}{posn posa:Pos}{gg:TG}{kx vx iter tg:Expr}{ifs:List Expr}{scope:Scope}{pos:Pos}{wi:TI}{g:TG}{tt:TT}{tk tv:TE}(own:List Str)(fr:List Nat)(hc:X.calm=true)
  (hkind:scope.kind=.function) (hcell:∀ x∈scope.names,x.2≠.cell) (hnames:∀ x∈scope.names,x.2=.local->scope.names.lookup x.1=some .local)
  (hfr:∀ x∈scope.names,x.2=.free->X.env.scope.names.lookup x.1=some .cell\/X.env.scope.names.lookup x.1=some .free)
  (hin:∀ j∈fr,scope.names.lookup (X.N.getD j Str.empty)=some .free)
  (hi:PI X tg iter wi) (hg:∀ fp C s H,PG (cxComp X scope (own++fr.map fun j=>X.N.getD j Str.empty) fp C s H) tg g)
  (ht:∀ fp C s H,PIfs (cxComp X scope (own++fr.map fun j=>X.N.getD j Str.empty) fp C s H) ifs tt)
  (hk:∀ fp C s H,PE (cxComp X scope (own++fr.map fun j=>X.N.getD j Str.empty) fp C s H) kx tk)
  (he:∀ fp C s H,PE (cxComp X scope (own++fr.map fun j=>X.N.getD j Str.empty) fp C s H) vx tv)
  (hgg:PG X (.Name y posn) gg) (hsw:swapsWith (.DictComp kx vx [⟨tg,iter,ifs,0⟩] scope pos) (some (.Name y posn)) posa.line X.env=pure true)
  (hs:∀ x,foldedSetIterable iter X.env x=pure x:=by intro _;rfl):PS X (.Assign [.Name y posn] (.DictComp kx vx [⟨tg,iter,ifs,0⟩] scope pos) posa) (tAsg (tDComp own.length fr wi g tt tk tv) gg):=by
 intro pins s σ H D0 I h
 rw [exec_Assign_Name_used _ _ _ _ hsw,arm_evalThenUse_DictComp]
 refine wpAny_bind (wpAny_standAt (wpAny_bind (wpAny_bind ?_)))
 have hfree:∀ x∈scope.names,x.2=.free->∃ c,X.env.cells.lookup x.1=some c:=fun x hx e=>I.ok.has x.1 (hfr x hx e)
 refine thn (wpAny_comprehension_free (use:=some (assign (.Name y posn) X.env)) (Q:=fun _ s'=>SP X pins D0 .next s') rfl hs (closureFor_eq hfree) hkind hnames ?_) fun _ _ q=>wpAny_pure (wpAny_pure q)
 refine thn (hi pins s σ H _ I h) fun v s1 h1=>thn h1 fun itv s2 h2=>?_
 obtain ⟨it,fp,tn,J,H2,e,I2,T,st2,f2,W,⟨m0,w0⟩,turn⟩:=h2
 subst e
 have hfo:∀ b∈fp,b < s2.heap.objs.size:=fun b hb=>by obtain ⟨o,e,_⟩:=T.obj 0 _ st2 b hb;exact Heap.lt_size e
 refine wpAny_newObj_type (wpAny_newFunctionEnv hcell (by intro y hy;simp at hy) (fun h₁ hns₁ hsb₁=>?_) hkind)
 dsimp only at hns₁ hsb₁ ⊢
 generalize hH2:s2.heap.push { cls:=.type "dict",dict:=none,data:=.dict #[] }=G2 at hns₁ hsb₁ ⊢
 have hC:G2.objs.size=s2.heap.objs.size + 1:=by rw [←hH2,Heap.size_push]
 have hDC:s2.heap.objs.size≠G2.objs.size:=by rw [hC];exact Nat.ne_of_lt (Nat.lt_succ_self _)
 have hCle:s2.heap.objs.size<=G2.objs.size:=by rw [hC];exact Nat.le_succ _
 have old:∀ b o,s2.heap.get? b=some o->h₁.get? b=some o:=fun b o e=>hsb₁.extBut b o (by rw [hC];exact Nat.ne_of_lt (Nat.lt_succ_of_lt (Heap.lt_size e))) (Heap.get?_push_of_some _ (hH2 ▸ Heap.get?_push_of_some _ e))
 have hacc:h₁.DictOf (mixKind X.prog X.w) s2.heap.objs.size []:=(hH2 ▸ Heap.DictOf.new (knd:=mixKind X.prog X.w) s2.heap:G2.DictOf (mixKind X.prog X.w) s2.heap.objs.size []).at fun o e=>hsb₁.extBut _ _ hDC (Heap.get?_push_of_some _ e)
 have I3:Inv (cxComp X scope (own++fr.map fun j=>X.N.getD j Str.empty) fp G2.objs.size s2 H2) [] (innerSt own.length fr σ) H2 { s2 with heap:=h₁,toks:=s2.toks + ([]:List (Str × Value)).length } :=
  comp_enter I2 hkind hcell hfr hin hCle f2 hfo old hns₁
 have st3:tn 0 h₁:=T.keep 0 _ _ st2 fun b _ o e=>old b o e
 have hDf:s2.heap.objs.size ∉ fp:=fun hm=>Nat.lt_irrefl _ (hfo _ hm)
 have hDn2:H2 s2.heap.objs.size=none:=I2.hok.fresh (Nat.le_refl _)
 have sub:∀ y c,(cellsFor X.env scope.names []).lookup y=some c->X.env.cells.lookup y=some c:=cellsFor_sub _ _ hfree (by intro y c e;simp at e)
 have cellD:∀ y c,(cellsFor X.env scope.names []).lookup y=some c->c≠s2.heap.objs.size:=fun y c e=>by
  obtain ⟨_,o,ho,_⟩:=I2.cell y c (sub y c e)
  exact Nat.ne_of_lt (Heap.lt_size ho)
 have Dfs:s2.heap.objs.size ∉ frs X.stack:=fun z=>by
  rcases List.mem_cons.mp (I2.stkSub _ z) with e | e
  ·exact absurd I2.lt (by rw [←e];exact Nat.lt_irrefl _)
  ·exact I2.nofs (Nat.le_refl _) e
 -- the iterator's records,in the block's context
 have stat:∀ {H':Hp} {pl:List (Addr × Obj)},(∀ b∈fp,H' b=none)->(∀ p∈pl,p.1=s2.heap.objs.size)->∀ b∈fp,FpOk (cxComp X scope (own++fr.map fun j=>X.N.getD j Str.empty) fp G2.objs.size s2 H2) pl H' b:=fun {H' pl} hn hp b hb=>by
  refine ⟨hn b hb,(I3.ok.exf b hb).1,I3.ok.exfs b hb,.inl hb,(I3.ok.exf b hb).2,fun p hpp z=>?_⟩
  have hpp':p∈pl:=by simpa [cxComp] using hpp
  exact hDf (by rw [←hp p hpp',z];exact hb)
 have pinD:∀ {σ':St} {H':Hp} {s':Shared} {o:Obj} {es:Array DictEntry} {n:Nat},Inv (cxComp X scope (own++fr.map fun j=>X.N.getD j Str.empty) fp G2.objs.size s2 H2) [] σ' H' s'->H' s2.heap.objs.size=none->s'.heap.get? s2.heap.objs.size=some o->o.data=.dict es n ->
   Inv (cxComp X scope (own++fr.map fun j=>X.N.getD j Str.empty) fp G2.objs.size s2 H2) [(s2.heap.objs.size,o)] σ' H' s':=fun {σ' H' s' o es n} J hn e ed=>J.pins_of fun p hp=>by
  have e':p=(s2.heap.objs.size,o):=by simpa using hp
  subst e'
  exact ⟨e,hn,hDC,Dfs,fun v z=>by rw [ed] at z;cases z⟩
 have loop:codeAny (model X.prog X.w) X.A (.compLoop (.DictComp kx vx [⟨tg,iter,ifs,0⟩] scope pos) 0 (.ref it) (.ref s2.heap.objs.size) (compEnvC scope (cellsFor X.env scope.names []) G2.objs.size X.env))
   (compPost (model X.prog X.w) X.A X.xe (some (assign (.Name y posn) X.env)) (fun _ s'=>SP X pins D0 .next s') (.ref s2.heap.objs.size) G2.objs.size) { s2 with heap:=h₁,toks:=s2.toks + ([]:List (Str × Value)).length }:=by
  refine codeAny_compLoop_anyD (E:=fun _ _=>False) (fun n s'=>∃ i σ' H' kvs rs,Inv (cxComp X scope (own++fr.map fun j=>X.N.getD j Str.empty) fp G2.objs.size s2 H2) [] σ' H' s'/\tn i s'.heap/\(∀ b∈fp,H' b=none)/\H' s2.heap.objs.size=none/\s'.heap.DictOf (mixKind X.prog X.w) s2.heap.objs.size rs/\KV kvs rs/\W i n σ' kvs H')
   ?_ (fun _ _ z=>z.elim) m0 ⟨0,_,H2,[],[],I3,st3,fun b hb=>(f2 b hb).1,hDn2,hacc,.nil,w0⟩
  rintro n s3 ⟨i,σ3,H3,kvs,rs,J3,st3,fr3,dn3,dd3,rv,w3⟩
  obtain ⟨od,oes,oep,pl3,oex,odt,oks,opr,ond⟩:=id dd3
  have J3':=pinD J3 dn3 pl3 odt
  have hpins:∀ p∈[(s2.heap.objs.size,od)],p.1=s2.heap.objs.size:=fun p hp=>by
   have e':p=(s2.heap.objs.size,od):=by simpa using hp
   rw [e']
  rcases turn i n σ3 kvs H3 w3 with ⟨stop,hz,q⟩ | ⟨go,hz,N,hN,step⟩
  ·refine thn (T.done (cxComp X scope (own++fr.map fun j=>X.N.getD j Str.empty) fp G2.objs.size s2 H2) rfl rfl rfl hc i _ s3 σ3 H3 (fun _ _=>False) J3' (stat fr3 hpins) st3 stop) fun r s4 ⟨hr,J4⟩=>?_
   subst hr
   obtain ⟨m4,hn4,_⟩:=id J4.loc
   have e4:s4.heap.get? s2.heap.objs.size=some od:=(J4.pin (s2.heap.objs.size,od) (List.mem_append_right _ (by simp))).1
   obtain ⟨oC,es,ep,eC,dC,kC,fC⟩:=hn4
   have I4:Inv X pins σ (upd H3 s2.heap.objs.size (.dK kvs)) s4:=comp_leaveD (h'':=s4.heap) I2 f2 J4 hCle (Nat.le_refl _) hDC dn3 ⟨od,oes,oep,e4,oex,odt,oks,opr,ond⟩ rv hz ⟨rfl,fun _ _=>rfl⟩
   have cL:G2.objs.size≠X.env.locals:=fun z=>absurd I2.lt (by rw [←z];exact Nat.not_lt.mpr hCle)
   have I5:Inv X (pins++[(G2.objs.size,oC)]) σ (upd H3 s2.heap.objs.size (.dK kvs)) s4:=I4.pins_of fun p hp=>by
    rcases List.mem_append.mp hp with z | z
    ·exact I4.pin p (List.mem_append_right _ z)
    ·have z:p=(G2.objs.size,oC):=by simpa using z
     subst z
     exact ⟨eC,by rw [upd_ne hDC.symm];exact J4.free,cL,I2.nofs hCle,fun v zv=>by rw [dC] at zv;cases zv⟩
   show wpAny _ _ (assign (.Name y posn) X.env (.ref s2.heap.objs.size)) _ _ _
   refine thn (hgg _ s4 σ _ (.ref s2.heap.objs.size) _ _ I5 rfl (q _ dn3)) fun _ s5 ⟨σ5,H5,I6,q6⟩=>?_
   have pC:=I6.pin (G2.objs.size,oC) (List.mem_append_right _ (List.mem_append_right _ (by simp)))
   refine ⟨m4,⟨oC,es,ep,pC.1,dC,kC,fC⟩,fun h' hs'=>?_⟩
   have I7:Inv X pins σ5 H5 s5:=I6.pins_of fun p hp=>I6.pin p (List.mem_append_right _ (List.mem_append_left _ hp))
   refine ⟨σ5,H5,I7.turned (t':=s5.toks) (it:=G2.objs.size) (fun b o hb e=>(hs'.2 b hb).trans e) pC.2.1 cL (.inr (Nat.le_trans I2.sz hCle)) (fun x c e z=>?_) (fun p hp z=>?_),q6⟩
   ·obtain ⟨_,o,ho,_⟩:=I2.cell x c e
    exact absurd (Heap.lt_size ho) (by rw [z];exact Nat.not_lt.mpr hCle)
   ·exact absurd (Heap.lt_size (I2.pin p hp).1) (by rw [z];exact Nat.not_lt.mpr hCle)
  ·refine thn (T.item (cxComp X scope (own++fr.map fun j=>X.N.getD j Str.empty) fp G2.objs.size s2 H2) rfl rfl rfl hc i _ s3 σ3 H3 (fun _ _=>False) J3' (stat fr3 hpins) st3 go) fun r s4 ⟨u,hr,h4⟩=>?_
   subst hr
   refine thn h4 fun _ s5 ⟨x,H5,J5,r5,y5,st5,fr5⟩=>?_
   have J5':=J5.pinned (stat fr5 hpins) (T.obj _ _ st5)
   refine thn (hg fp _ s2 H2 _ s5 σ3 H5 x u _ J5' r5 (step x H5 y5)) fun _ s6 ⟨σ6,H6,J6,q6⟩=>?_
   refine thn (ht fp _ s2 H2 _ s6 σ6 H6 _ J6 q6) fun ok s7 ⟨H7,J7,q7⟩=>?_
   -- what stood pinned through the turn
   have after:∀ {s8:Shared} {H8:Hp},Inv (cxComp X scope (own++fr.map fun j=>X.N.getD j Str.empty) fp G2.objs.size s2 H2) ([(s2.heap.objs.size,od)]++pinsAt fp s5.heap) σ6 H8 s8 ->
     tn (i + 1) s8.heap/\(∀ b∈fp,H8 b=none)/\H8 s2.heap.objs.size=none/\s8.heap.get? s2.heap.objs.size=some od:=fun {s8 H8} J8=>by
    refine ⟨T.keep _ _ _ st5 fun b hb o e=>(J8.pin (b,o) (List.mem_append_right _ (List.mem_append_right _ (mem_pinsAt hb e)))).1,fun b hb=>?_,?_,?_⟩
    ·obtain ⟨o,e,d⟩:=T.obj _ _ st5 b hb
     exact (J8.pin (b,o) (List.mem_append_right _ (List.mem_append_right _ (mem_pinsAt hb e)))).2.1
    ·exact (J8.pin (s2.heap.objs.size,od) (List.mem_append_right _ (List.mem_append_left _ (by simp)))).2.1
    ·exact (J8.pin (s2.heap.objs.size,od) (List.mem_append_right _ (List.mem_append_left _ (by simp)))).1
   cases ok with
   | false =>
    obtain ⟨m',hm,w7⟩:=hN _ _ _ q7
    obtain ⟨a1,a2,a3,a4⟩:=after J7
    exact ⟨m',hm,i + 1,σ6,H7,kvs,rs,J7.pins_of (fun p hp=>absurd hp (by simp)),a1,a2,a3,⟨od,oes,oep,a4,oex,odt,oks,opr,ond⟩,rv,w7⟩
   | true =>
    refine thn (hk fp _ s2 H2 _ s7 σ6 H7 _ J7 q7) fun x s75 ⟨v75,H75,J75,r75,n75⟩=>?_
    refine thn (he fp _ s2 H2 _ s75 σ6 H75 _ J75 n75) fun y s8 ⟨v8,H8,J8,r8,n8⟩=>?_
    obtain ⟨key,rfl,n8⟩:=n8
    obtain ⟨m',hm,w8⟩:=hN _ _ _ n8
    obtain ⟨a1,a2,a3,a4⟩:=after J8
    have J9:Inv (cxComp X scope (own++fr.map fun j=>X.N.getD j Str.empty) fp G2.objs.size s2 H2) [] σ6 H8 s8:=J8.pins_of (fun p hp=>absurd hp (by simp))
    have hrs:rs.length<=sizeLine:=by have:=KV.length rv;omega
    refine wpAny_dictSet_pairs (kV_is r75) (⟨od,oes,oep,a4,oex,odt,oks,opr,ond⟩:s8.heap.DictOf (mixKind X.prog X.w) s2.heap.objs.size rs) (fun h₅ hl₅ hs₅=>?_) hrs
    exact ⟨m',hm,i + 1,σ6,H8,putK kvs key v8,stored rs key y,J9.turned (t':=s8.toks + 1) (it:=s2.heap.objs.size) (fun b o hb e=>by rw [hs₅.2 b hb];exact e) a3 hDC (.inr (Nat.le_refl _)) cellD (fun p hp=>absurd (show p∈([]:List (Addr × Obj)) from hp) (by simp)),
     T.keep _ _ _ a1 fun b hb o e=>(hs₅.2 b (fun z=>hDf (z ▸ hb))).trans e,a2,a3,hl₅,rv.put key r8,w8⟩
 exact codeAny_compStart_dict loop (T.self X.A 0 _ _ _ st3 loop)
end
theorem ps_dcompC {X:Cx}{y:Str}{posn posa:Pos}{gg:TG}{kx vx iter tg:Expr}{ifs:List Expr}{scope:Scope}{pos:Pos}{wi:TI}{g:TG}{tt:TT}{tk tv:TE}(sc:Scope)(N0 own:List Str)(fr:List Nat)(hc:X.calm=true)(hsc:X.env.scope=sc)(hN:X.N=N0)
  (ok:compOk scope sc N0 fr=true) (hi:PI X tg iter wi) (hg:∀ fp C s H,PG (cxComp X scope (own++fr.map fun j=>N0.getD j Str.empty) fp C s H) tg g)
  (ht:∀ fp C s H,PIfs (cxComp X scope (own++fr.map fun j=>N0.getD j Str.empty) fp C s H) ifs tt)
  (hk:∀ fp C s H,PE (cxComp X scope (own++fr.map fun j=>N0.getD j Str.empty) fp C s H) kx tk)
  (he:∀ fp C s H,PE (cxComp X scope (own++fr.map fun j=>N0.getD j Str.empty) fp C s H) vx tv)
  (hgg:PG X (.Name y posn) gg) (hsw:swapsWith (.DictComp kx vx [⟨tg,iter,ifs,0⟩] scope pos) (some (.Name y posn)) posa.line X.env=pure true:=by kernel_rfl)
  (hs:∀ x,foldedSetIterable iter X.env x=pure x:=by intro _;rfl):PS X (.Assign [.Name y posn] (.DictComp kx vx [⟨tg,iter,ifs,0⟩] scope pos) posa) (tAsg (tDComp own.length fr wi g tt tk tv) gg):=by
 subst hsc hN
 unfold compOk at ok
 simp only [Bool.and_eq_true,List.all_eq_true,bne_iff_ne,beq_iff_eq,Bool.or_eq_true] at ok
 obtain ⟨⟨k1,k2⟩,k3⟩:=ok
 refine ps_dcomp own fr hc k1 (fun x hx=>(k2 x hx).1.1) (fun x hx e=>?_) (fun x hx e=>?_) (fun j hj=>k3 j hj) hi hg ht hk he hgg hsw hs
 ·rcases (k2 x hx).1.2 with z | z
  ·exact absurd e z
  ·exact z
 ·rcases (k2 x hx).2 with (z | z) | z
  ·exact absurd e z
  ·exact .inl z
  ·exact .inr z
end L2
namespace G28
open PySem L2
section
variable {P : Program} {w : World} {K : PySem.W.Frag} {mg : Str → Option Value} {base : Heap} {C : Addr}
variable {gT gO gI gL gN gW gB : Addr} {tfd ofd ifd lfd nfd wfd bfd : FuncData}
theorem Rp.t7 {H:Hp}{v:V}{x1 x2 x3 x4 x5 x6 x7:T}(h:Rp K H (.t [x1,x2,x3,x4,x5,x6,x7]) v):∃ a u1 u2 u3 u4 u5 u6 u7,v=.ref a/\SqT K H a [u1,u2,u3,u4,u5,u6,u7]/\Rp K H x1 u1/\Rp K H x2 u2/\Rp K H x3 u3/\Rp K H x4 u4/\Rp K H x5 u5/\Rp K H x6 u6/\Rp K H x7 u7:=by
 obtain ⟨a,ys,rfl,sq,r⟩:=h.inv_t
 obtain ⟨u1,q,rfl,h1,r⟩:=r.inv
 obtain ⟨u2,q,rfl,h2,r⟩:=r.inv
 obtain ⟨u3,q,rfl,h3,r⟩:=r.inv
 obtain ⟨u4,q,rfl,h4,r⟩:=r.inv
 obtain ⟨u5,q,rfl,h5,r⟩:=r.inv
 obtain ⟨u6,q,rfl,h6,r⟩:=r.inv
 obtain ⟨u7,q,rfl,h7,r⟩:=r.inv
 obtain rfl:=r.inv0
 exact ⟨a,u1,u2,u3,u4,u5,u6,u7,rfl,sq,h1,h2,h3,h4,h5,h6,h7⟩
theorem nm_do_fold:Nm ["work","row","form","a","x","y","begun","c","around"] (defScope s_do_fold):=by decide +kernel
theorem lm_do_fold:Lm ["work","row","form","a","x","y","begun","c","around"] (defScope s_do_fold):=by decide +kernel
theorem sc_do_fold:FnScope ["work","row","form","a","x","y","begun","c","around"] ["work","row"] (defScope s_do_fold):=⟨rfl,rfl,rfl,by decide +kernel,rfl,by decide +kernel,by decide +kernel⟩
theorem ok_do_fold {f:Addr}{fd:FuncData}(F:Fun K "do_fold" "do_fold" s_do_fold f fd)(N:NoA K C)(IL:Has P w K mg base "is_left" 1 ["thing"] (spIsLeft K) gL lfd)
  (mTell:HasM P w K mg base C "tell" 1 ["self","thing"] (spTell K C) gT tfd) (mWrite:HasM P w K mg base C "write" 2 ["self","row"] (spWrite K C) gW wfd):FnOk P w K mg base CX0 3 f fd ["work","row"] (spD FoldDo K C):=by
 refine F.ok sc_do_fold (fun vs H Q E h=>?_) (fun cdv A outer s H vs Q E hr h=>?_)
 ·obtain ⟨_,_,_,_,_,_,_,rfl,_⟩:=h
  rfl
 obtain ⟨H0,o,a,st,st',v,r,rfl,hw,hv,hb,h,k⟩:=h
 refine ⟨_,(pss_cons (ps_asg (va nm_do_fold 1) (pg_tupK (n:=7) K rfl rfl (pgs_cons (ga sc_do_fold.nd lm_do_fold 2) (pgs_cons (ga sc_do_fold.nd lm_do_fold 3) (pgs_cons (ga sc_do_fold.nd lm_do_fold 4) (pgs_cons (ga sc_do_fold.nd lm_do_fold 5) (pgs_cons (ga sc_do_fold.nd lm_do_fold 6) (pgs_cons (ga sc_do_fold.nd lm_do_fold 7) (pgs_cons (ga sc_do_fold.nd lm_do_fold 8) pgs_nil)))))))))
  (pss_one (ps_if (pt_truth (pe_call IL.ok (hr.mono (by omega)) (by show _=_;kernel_rfl) IL.at' IL.kp IL.bd .nil pass0 (pa_cons (va nm_do_fold 3) pa_nil)) (fun _=>rfl)) (pss_one (ps_expr (pe_meth (va nm_do_fold 0) mWrite.c mWrite.m mWrite.ok (hr.mono (by omega)) mWrite.bd .nil pass0 (pa_cons (va nm_do_fold 1) pa_nil)))) (pss_cons (ps_expr (pe_meth (va nm_do_fold 0) mTell.c mTell.m mTell.ok (hr.mono (by omega)) mTell.bd .nil pass0 (pa_cons (va nm_do_fold 6) pa_nil)))
  (pss_one (ps_expr (pe_bm PySem.F.plainAttrs_list PySem.F.slot_list_append PySem.F.type_list_append mt_append (pe_fld (va nm_do_fold 0) rfl) (pa_cons (pe_tup (pa_cons pe_str (pa_cons (va nm_do_fold 1) (pa_cons pe_int pa_nil)))) pa_nil)))))))),?_⟩
 have hi:=hw.ins
 have hc:=N.c
 have hn:=N.waiting
 have b1:=hb.t
 have b2:=hb.r
 cases h with
 | left =>
  have hv':=hv
  obtain ⟨ra,u1,u2,u3,u4,u5,u6,u7,rfl,sq,g1,g2,g3,g4,g5,g6,g7⟩:=Rp.t7 hv
  obtain rfl:=g1.inv_s
  obtain rfl:=g3.inv_s
  obtain rfl:=g4.inv_s
  fail "O"
  exact k
 | @mk ts x y b c ar _ =>
  have hv':=hv
  have th:Th (rowT ts):=.row
  obtain ⟨ra,u1,u2,u3,u4,u5,u6,u7,rfl,sq,g1,g2,g3,g4,g5,g6,g7⟩:=Rp.t7 hv
  obtain rfl:=g1.inv_s
  obtain rfl:=g3.inv_s
  obtain rfl:=g4.inv_s
  fail "O"
  intro H2 w2 k2 o2
  have hi2:=w2.ins
  obtain ⟨tv,et,rt⟩:=w2.wai
  have l1:=rt.length
  have bw:=hb.w
  fail "R"
  intro p hp
  obtain ⟨w3,k3,o3⟩:=w2.ext (same_new hp (.tup [.str "round",.ref ra,.int 0]))
  obtain ⟨tv3,et3,rt3⟩:=w3.wai
  have l3:=rt3.length
  have l4:tv3.length < sizeLine:=small1000 (by have:(st.tell b).waiting.length=st.waiting.length:=rfl;omega)
  have hi3:=w3.ins
  fail "R"
  obtain ⟨w4,k4,o4⟩:=w3.setW (rt3.snoc (Rp.new (K:=K) hp (xs:=[.s "round",foldT (rowT ts) x y b c ar,.i 0]) (.cons .s (.cons (hv'.kt k2) (.one .i)))))
  exact k _ w4 (k2.trans (k3.trans k4)) (o2.trans (o3.trans o4))
def AtA (K:PySem.W.Frag)(H:Hp)(kvs:List (Key × V))(arms:List Arm):Prop:=∀ x:Str,match lkA arms x with
 | some (ns,t)=>∃ (q:Addr) (an:Addr) (tv:V),valV kvs (Sum.inr x)=some (.ref q)/\SqT K H q [.ref an,tv]/\SqT K H an (ns.map V.str)/\Rp K H t tv
 | none=>valV kvs (Sum.inr x)=none
theorem lkA_snoc:∀ (arms:List Arm) (a:Arm) (x:Str),lkA (arms++[a]) x=if a.1=x then some a.2 else lkA arms x
 | [],a,x=>by simp [lkA]
 | b::r,a,x=>by
  rw [List.cons_append,lkA,lkA_snoc r a x,lkA]
  by_cases c:a.1=x
  ·rw [if_pos c,if_pos c];rfl
  ·rw [if_neg c,if_neg c]
theorem AtA.same {H H':Hp}{kvs:List (Key × V)}{arms:List Arm}(h:AtA K H kvs arms)(s:Same H H'):AtA K H' kvs arms:=fun x=>by
 have:=h x
 cases e:lkA arms x with
 | none=>rw [e] at this;exact this
 | some p =>
  obtain ⟨ns,t⟩:=p
  rw [e] at this
  obtain ⟨q,an,tv,h1,h2,h3,h4⟩:=this
  exact ⟨q,an,tv,h1,h2.kt (Kt.same s),h3.kt (Kt.same s),h4.same s⟩
theorem AtA.put {H:Hp}{kvs:List (Key × V)}{arms:List Arm}(h:AtA K H kvs arms){a:Arm}{q an:Addr}{tv:V}(hq:SqT K H q [.ref an,tv])(hn:SqT K H an (a.2.1.map V.str))(ht:Rp K H a.2.2 tv):AtA K H (putK kvs (Sum.inr a.1) (.ref q)) (arms++[a]):=fun x=>by
 have:=h x
 rw [lkA_snoc]
 by_cases c:a.1=x
 ·rw [if_pos c]
  refine ⟨q,an,tv,?_,hq,hn,ht⟩
  rw [valV_put,if_pos (by rw [c])]
 ·rw [if_neg c]
  have e:valV (putK kvs (Sum.inr a.1) (.ref q)) (Sum.inr x)=valV kvs (Sum.inr x):=by
   rw [valV_put,if_neg (fun z=>c (by injection z with z;exact z.symm))]
  rw [e]
  exact this
theorem putK_len (kvs:List (Key × V))(k:Key)(v:V):(putK kvs k v).length<=kvs.length + 1:=by
 unfold putK
 split
 ·rw [List.length_map];omega
 ·rw [List.length_append];exact Nat.le_refl _
theorem Rps.strs {H:Hp}:∀ {ns:List Str} {us:List V},Rps K H (ns.map .s) us->us=ns.map V.str
 | [],us,h=>h.inv0
 | n::r,us,h=>by
  obtain ⟨u,q,rfl,h1,h2⟩:=(show Rps K H (.s n::r.map .s) us from h).inv
  rw [h1.inv_s,Rps.strs h2]
  rfl
theorem nm_do_match:Nm ["work","row","form","a","arms","around","by_tag","names","inner"] (defScope s_do_match):=by decide +kernel
theorem lm_do_match:Lm ["work","row","form","a","arms","around","by_tag","names","inner"] (defScope s_do_match):=by decide +kernel
theorem sc_do_match:FnScope ["work","row","form","a","arms","around","by_tag","names","inner"] ["work","row"] (defScope s_do_match):=⟨rfl,rfl,rfl,by decide +kernel,rfl,by decide +kernel,by decide +kernel⟩
theorem ok_do_match {f:Addr}{fd:FuncData}(F:Fun K "do_match" "do_match" s_do_match f fd)(N:NoA K C)(IL:Has P w K mg base "is_left" 1 ["thing"] (spIsLeft K) gL lfd)(BT:Has P w K mg base "bound_to" 1 ["around","names","things"] (spBound K) gB bfd)
  (mInto:HasM P w K mg base C "go_into" 1 ["self","term","around"] (spGoInto K C) gT tfd) (mOne:HasM P w K mg base C "do_one" 1 ["self"] (spDoOne K C) gO ofd) (mWrite:HasM P w K mg base C "write" 2 ["self","row"] (spWrite K C) gW wfd):FnOk P w K mg base CX0 3 f fd ["work","row"] (spD MatchDo K C):=by
 refine F.ok sc_do_match (fun vs H Q E h=>?_) (fun cdv A outer s H vs Q E hr h=>?_)
 ·obtain ⟨_,_,_,_,_,_,_,rfl,_⟩:=h
  rfl
 obtain ⟨H0,o,a,st,st',v,r,rfl,hw,hv,hb,h,k⟩:=h
 refine ⟨_,(pss_cons (ps_asg (va nm_do_match 1) (pg_tupK (n:=4) K rfl rfl (pgs_cons (ga sc_do_match.nd lm_do_match 2) (pgs_cons (ga sc_do_match.nd lm_do_match 3) (pgs_cons (ga sc_do_match.nd lm_do_match 4) (pgs_cons (ga sc_do_match.nd lm_do_match 5) pgs_nil))))))
  (pss_one (ps_if (pt_truth (pe_call IL.ok (hr.mono (by omega)) (by show _=_;kernel_rfl) IL.at' IL.kp IL.bd .nil pass0 (pa_cons (va nm_do_match 3) pa_nil)) (fun _=>rfl)) (pss_one (ps_expr (pe_meth (va nm_do_match 0) mWrite.c mWrite.m mWrite.ok (hr.mono (by omega)) mWrite.bd .nil pass0 (pa_cons (va nm_do_match 1) pa_nil)))) (pss_cons (ps_expr (pe_meth0 (va nm_do_match 0) mOne.c mOne.m mOne.ok (hr.mono (by omega)) mOne.bd .nil pass0))
  (pss_cons (ps_dcompC (defScope s_do_match) ["work","row","form","a","arms","around","by_tag","names","inner"] ["tag","names","inner"] [] rfl rfl rfl (by decide +kernel) (pi_tup (va nm_do_match 4)) (fun _ _ _ _=>(pg_tupK (n:=3) K rfl rfl (pgs_cons (pg_name (i:=0) (show (["tag","names","inner"]:List Str).Nodup by decide +kernel) rfl (Or.inl (by kernel_rfl)) (by first | exact .inl rfl | exact .inr (by kernel_rfl))) (pgs_cons (pg_name (i:=1) (show (["tag","names","inner"]:List Str).Nodup by decide +kernel) rfl (Or.inl (by kernel_rfl)) (by first | exact .inl rfl | exact .inr (by kernel_rfl))) (pgs_cons (pg_name (i:=2) (show (["tag","names","inner"]:List Str).Nodup by decide +kernel) rfl (Or.inl (by kernel_rfl)) (by first | exact .inl rfl | exact .inr (by kernel_rfl))) pgs_nil))))) (fun _ _ _ _=>pifs_nil) (fun _ _ _ _=>(va (show Nm ["tag","names","inner"] _ by show _=_;kernel_rfl) 0)) (fun _ _ _ _=>(pe_tup (pa_cons (va (show Nm ["tag","names","inner"] _ by show _=_;kernel_rfl) 1) (pa_cons (va (show Nm ["tag","names","inner"] _ by show _=_;kernel_rfl) 2) pa_nil)))) (ga sc_do_match.nd lm_do_match 6))
  (pss_cons (ps_asg (pe_dget (hu_of hr) (va nm_do_match 6) (pe_ix ix_tup (va nm_do_match 3) pe_int (fun _ _=>rfl)) (fun _ _=>rfl)) (pg_tupK (n:=2) K rfl rfl (pgs_cons (ga sc_do_match.nd lm_do_match 7) (pgs_cons (ga sc_do_match.nd lm_do_match 8) pgs_nil))))
  (pss_one (ps_expr (pe_meth (va nm_do_match 0) mInto.c mInto.m mInto.ok (hr.mono (by omega)) mInto.bd .nil pass0 (pa_cons (va nm_do_match 8) (pa_cons (pe_call BT.ok (hr.mono (by omega)) (by show _=_;kernel_rfl) BT.at' BT.kp BT.bd .nil pass0 (pa_cons (va nm_do_match 5) (pa_cons (va nm_do_match 7) (pa_cons (pe_ix ix_tup (va nm_do_match 3) pe_int (fun _ _=>rfl)) pa_nil)))) pa_nil))))))))))),?_⟩
 have hi:=hw.ins
 have b1:=hb.t
 have b2:=hb.r
 cases h with
 | left =>
  have hv':=hv
  obtain ⟨ra,u1,u2,u3,u4,rfl,sq,g1,g2,g3,g4⟩:=hv.t4
  obtain rfl:=g1.inv_s
  fail "O"
  exact k
 | @mk t ts arms env ns kt _ hm hlk hl he hns ha =>
  have th:Th (tagT t ts):=.tag
  obtain ⟨ra,u1,u2,u3,u4,rfl,sq,g1,g2,g3,g4⟩:=hv.t4
  obtain rfl:=g1.inv_s
  obtain ⟨a3,b3,c3,d3,rfl,sq3,e3,f3,f3'⟩:=id g2.t3
  obtain rfl:=e3.inv_s
  obtain rfl:=f3.inv_s
  obtain ⟨a4,ys,rfl,sq4,r4⟩:=(show Rp K H (.t ts) d3 from f3').inv_t
  obtain ⟨a5,zs,rfl,sq5,r5⟩:=(show Rp K H (.t (arms.map armA)) u3 from g3).inv_t
  have lz:=r5.length
  rw [List.length_map] at lz
  fail "O"
  intro H2 w2 k2 o2
  have hi2:=w2.ins
  have q3:=sq3.kt k2
  have q4:=sq4.kt k2
  have q5:=sq5.kt k2
  have p5:=r5.kt k2
  fail "R"
  refine dcomp_tup (xs:=zs) (fun i σ kvs Hc=>(∃ x y z,σ=[x,y,z])/\Same H2 Hc/\kvs.length<=i/\AtA K Hc kvs (arms.take i)) ⟨⟨_,_,_,rfl⟩,Same.refl _,Nat.le_refl _,fun x=>rfl⟩ ?_ (small4000 (by omega)) ?_ ?_ ?_
  ·rintro i σ kvs Hc hi ⟨_,_,h,_⟩
   exact h
  ·rintro i σ kvs Hc hi ⟨_,sm,_⟩
   exact q5.kt (Kt.same sm)
  ·rintro i x σ kvs Hc hx ⟨⟨x0,y0,z0,rfl⟩,sm,hlen,hat⟩
   obtain ⟨y,hy,ry⟩:=p5.get' hx
   rw [List.getElem?_map] at hy
   obtain ⟨am,hp,rfl⟩:=Option.map_eq_some_iff.mp hy
   have hil:i < arms.length:=(List.getElem?_eq_some_iff.mp hp).1
   have ep:arms[i]=am:=(List.getElem?_eq_some_iff.mp hp).2
   obtain ⟨ar,w1',w2',w3',rfl,sqa,h1,h2,h3⟩:=(show Rp K H2 (.t [.s am.1,.t (am.2.1.map .s),am.2.2]) x from ry).t3
   obtain rfl:=h1.inv_s
   obtain ⟨an,nv,rfl,sqn,rn⟩:=h2.inv_t
   obtain rfl:=Rps.strs rn
   have sqa':=sqa.kt (Kt.same sm)
   fail "R"
   intro q hq
   fail "R"
   ·exact (Eq.refl (kV (Sum.inr am.1)))
   have sq':=same_new hq (.tup [.ref an,w3'])
   refine ⟨⟨_,_,_,rfl⟩,sm.trans sq',?_,?_⟩
   ·exact Nat.le_trans (putK_len kvs _ _) (by omega)
   ·rw [List.take_succ_eq_append_getElem hil,ep]
    exact (hat.same sq').put (SqT.of upd_same) (sqn.kt (Kt.same (sm.trans sq'))) (h3.same (sm.trans sq'))
  ·rintro σ kvs Hc ⟨_,sm,hlen,hat⟩ d hd
   rw [lz,List.take_length] at hat
   have sd:=same_new hd (.dK kvs)
   obtain ⟨w3,k3,o3⟩:=w2.ext (sm.trans sd)
   have hi3:=w3.ins
   have dk:upd Hc d (.dK kvs) d=some (.dK kvs):=upd_same
   have la:=(hat.same sd) t
   rw [hlk] at la
   obtain ⟨q,an,tv,hv1,hv2,hv3,hv4⟩:=la
   have dg:DGet (upd Hc d (.dK kvs)) d (.str t) (some (.ref q)):=by
    have:=DGet.k (k:=Sum.inr t) dk
    rw [hv1] at this
    exact this
   have kk:=k2.trans k3
   have y3:=sq3.kt kk
   have y4:SqB K true (upd Hc d (.dK kvs)) a4 ys:=sq4.kt kk
   have z4:=r4.kt kk
   have g5:=g4.kt kk
   have n3:SqB K true (upd Hc d (.dK kvs)) an (ns.map V.str):=hv3
   generalize upd Hc d (.dK kvs)=H3 at *
   fail "R"
   intro H4 u s4 r9
   obtain ⟨w4,k4,o4⟩:=w3.ext s4
   have hi4:=w4.ins
   have t4:=hv4.same s4
   have bw:st.one.waiting.length < 1000:=by show st.waiting.length < 1000;have:=hb.w;omega
   fail "R"
   intro H5 w5 k5 o5
   exact k H5 w5 (kk.trans (k4.trans k5)) (o2.trans (o3.trans (o4.trans o5)))
end
end G28
namespace G28
open PySem L2
def hdS:Hd->Str
 | .num _=>"num"
 | .name _=>"name"
 | .gap _=>"gap"
 | .op _=>"op"
 | .row=>"row"
 | .more=>"more"
 | .first=>"first"
 | .others=>"others"
 | .long=>"long"
 | .tag _=>"tag"
 | .call _=>"call"
 | .mat _=>"match"
 | .ife=>"if"
 | .lt _=>"let"
 | .fold _ _=>"fold"
theorem enc_hd (tm:Tm):∃ r,enc tm=.t (.s (hdS tm.hd)::r):=by
 obtain ⟨h,ks⟩:=tm
 rw [enc_mk]
 cases h <;> exact ⟨_,rfl⟩
def mil:List Str:=["match","if","let"]
def aheadN (h:Hd)(n:Nat):Nat:=if hdS h="fold" then 2 else if hdS h∈mil then 1 else n
def ahead (tm:Tm):List T:=(tm.ks.map enc).take (aheadN tm.hd tm.ks.length)
theorem an_fold {h:Hd}(n:Nat)(e:hdS h="fold"):aheadN h n=2:=if_pos e
theorem an_one {h:Hd}(n:Nat)(e0:¬ hdS h="fold")(e:hdS h∈mil):aheadN h n=1:=by unfold aheadN;rw [if_neg e0,if_pos e]
theorem an_all {h:Hd}(n:Nat)(e:¬ hdS h="fold")(e2:¬ hdS h∈mil):aheadN h n=n:=by unfold aheadN;rw [if_neg e,if_neg e2]
def spAhead (K:PySem.W.Frag):Sp:=fun vs H Q _=>∃ (v:V) (tm:Tm),vs=[v]/\Rp K H (enc tm) v/\Wf tm/\tm.size<=900 /\
 ∀ (p:Addr) (H':Hp) (ws:List V),Same H H'->H p=none->H' p=some (.lst ws)->Rps K H' (ahead tm) ws->Q (.ref p) H'
inductive RowOf (env:Env):T->List T->T->Prop
 | gap {n:Int}:RowOf env (.t [.s "gap",.i n]) [] (.t [.s "gap",.i n,arT env])
 | op {s:Str} {a b x y:T}:RowOf env (.t [.s "op",.s s,a,b]) [x,y] (.t [.s "op",.s s,x,y])
 | mat {a arms x:T}:RowOf env (.t [.s "match",a,arms]) [x] (.t [.s "match",x,arms,arT env])
 | ife {a b c x:T}:RowOf env (.t [.s "if",a,b,c]) [x] (.t [.s "if",x,b,c,arT env])
 | fold {a b c u v:T} {x y:Str}:RowOf env (.t [.s "fold",a,.s x,.s y,b,c]) [u,v] (foldT u x y v c (arT env))
 | other {f:Str} {r ts:List T}:f="more"\/f="first"\/f="others"\/f="long"->ts.length<=900->RowOf env (.t (.s f::r)) ts (.t (.s f::ts))
def spRowOf (K:PySem.W.Frag):Sp:=fun vs H Q _=>∃ (v u:V) (p:Addr) (ws:List V) (env:Env) (t r:T) (ts:List T),vs=[v,.ref p,u]/\Rp K H t v/\H p=some (.lst ws)/\Rps K H ts ws/\Rp K H (arT env) u/\RowOf env t ts r /\
 ∀ (H':Hp) (q:V),Same H H'->Rp K H' r q->Q q H'
theorem Rps.take {K:PySem.W.Frag}{H:Hp}:∀ {ts:List T} {ws:List V} (n:Nat),Rps K H ts ws->Rps K H (ts.take n) (ws.take n)
 | [],ws,n,h=>by obtain rfl:=h.inv0;simp;exact .nil
 | t::r,ws,0,h=>by simp;exact .nil
 | t::r,ws,n + 1,h=>by
  obtain ⟨v,q,rfl,h1,h2⟩:=h.inv
  rw [List.take_succ_cons,List.take_succ_cons]
  exact .cons h1 (Rps.take n h2)
theorem Rp.hd {K:PySem.W.Frag}{H:Hp}{v:V}{f:Str}{r:List T}(h:Rp K H (.t (.s f::r)) v):∃ a us,v=.ref a/\SqT K H a (.str f::us)/\atI (.str f::us) 0=some (.str f)/\Rps K H r us:=by
 obtain ⟨a,ys,rfl,sq,r1⟩:=h.inv_t
 obtain ⟨u,q,rfl,h1,h2⟩:=r1.inv
 obtain rfl:=h1.inv_s
 exact ⟨a,q,rfl,sq,atI_nat (j:=0) rfl,h2⟩
theorem Rp.t6 {K:PySem.W.Frag}{H:Hp}{v:V}{x1 x2 x3 x4 x5 x6:T}(h:Rp K H (.t [x1,x2,x3,x4,x5,x6]) v):∃ a u1 u2 u3 u4 u5 u6,v=.ref a/\SqT K H a [u1,u2,u3,u4,u5,u6]/\Rp K H x1 u1/\Rp K H x2 u2/\Rp K H x3 u3/\Rp K H x4 u4/\Rp K H x5 u5/\Rp K H x6 u6:=by
 obtain ⟨a,ys,rfl,sq,r⟩:=h.inv_t
 obtain ⟨u1,q,rfl,h1,r⟩:=r.inv
 obtain ⟨u2,q,rfl,h2,r⟩:=r.inv
 obtain ⟨u3,q,rfl,h3,r⟩:=r.inv
 obtain ⟨u4,q,rfl,h4,r⟩:=r.inv
 obtain ⟨u5,q,rfl,h5,r⟩:=r.inv
 obtain ⟨u6,q,rfl,h6,r⟩:=r.inv
 obtain rfl:=r.inv0
 exact ⟨a,u1,u2,u3,u4,u5,u6,rfl,sq,h1,h2,h3,h4,h5,h6⟩
theorem cut_take (xs:List V)(n:Nat):cutV xs none (some (n:Int))=xs.take n:=by
 unfold cutV
 rw [HT.sIx_nat,HT.sIx_none,List.drop_zero,Nat.sub_zero]
 rcases Nat.le_total n xs.length with h | h
 ·rw [Nat.min_eq_left h]
 ·rw [Nat.min_eq_right h,List.take_of_length_le (Nat.le_refl _),List.take_of_length_le h]
section
variable {P : Program} {w : World} {K : PySem.W.Frag} {mg : Str → Option Value} {base : Heap} {C : Addr}
variable {gT gO gI gL gN : Addr} {tfd ofd ifd lfd nfd : FuncData}
theorem nm_told_ahead:Nm ["term","form","inner"] (defScope s_told_ahead):=by decide +kernel
theorem lm_told_ahead:Lm ["term","form","inner"] (defScope s_told_ahead):=by decide +kernel
theorem sc_told_ahead:FnScope ["term","form","inner"] ["term"] (defScope s_told_ahead):=⟨rfl,rfl,rfl,by decide +kernel,rfl,by decide +kernel,by decide +kernel⟩
theorem ok_told_ahead {f:Addr}{fd:FuncData}(F:Fun K "told_ahead" "told_ahead" s_told_ahead f fd)(IN:Has P w K mg base "inner_terms" 2 ["term"] (spInner K) gI ifd):FnOk P w K mg base CX0 3 f fd ["term"] (spAhead K):=by
 refine F.ok sc_told_ahead (fun vs H Q E h=>?_) (fun cdv A outer s H vs Q E hr h=>?_)
 ·obtain ⟨_,_,rfl,_⟩:=h
  rfl
 obtain ⟨v,tm,rfl,hv,wf,sz,k⟩:=h
 refine ⟨_,(pss_cons (sa sc_told_ahead.nd lm_told_ahead 1 (pe_ix ix_tup (va nm_told_ahead 0) pe_int (fun _ _=>rfl)))
  (pss_cons (sa sc_told_ahead.nd lm_told_ahead 2 (pe_call IN.ok (hr.mono (by omega)) (by show _=_;kernel_rfl) IN.at' IN.kp IN.bd .nil pass0 (pa_cons (va nm_told_ahead 0) pa_nil)))
  (pss_cons (ps_if (pt_cmpR op_eq (va nm_told_ahead 1) pe_str (nomark _)) (pss_one (ps_ret (pe_slice sl_list (va nm_told_ahead 2) po_none (po_some pe_int)))) pss_nil)
  (pss_one (ps_ret (pe_ifExp (pt_cmpR op_in_seq (va nm_told_ahead 1) (pe_tup (pa_cons pe_str (pa_cons pe_str (pa_cons pe_str pa_nil)))) (by with_unfolding_all rfl)) (pe_slice sl_list (va nm_told_ahead 2) po_none (po_some pe_int)) (va nm_told_ahead 2))))))),?_⟩
 obtain ⟨r,er⟩:=enc_hd tm
 have hv':=hv
 rw [er] at hv
 obtain ⟨a,us,rfl,sq,a0,_⟩:=Rp.hd hv
 fail "R"
 intro p H1 ws s1 hp h1 r1
 have lr:=r1.length
 fail "R"
 refine ite2 (fun c=>?_) (fun c=>?_)
 ·have c':hdS tm.hd="fold":=by have:=of_decide_eq_true c;injection this
  clear c
  fail "R"
  intro p2 hp2
  rw [show (some 2:Option Int)=some ((2:Nat):Int) from rfl,cut_take]
  refine k p2 _ _ (s1.trans (same_new hp2 _)) (by cases q:H p2 with | none=>rfl | some u=>rw [s1 _ _ q] at hp2;cases hp2) upd_same ?_
  unfold ahead
  rw [an_fold _ c']
  exact (Rps.take 2 r1).kt (Kt.new hp2 _)
 ·have c':¬ hdS tm.hd="fold":=fun z=>c (decide_eq_true (by rw [z]))
  clear c
  have hfl:=flat_strs mil
  have hf2:flatV (.str (hdS tm.hd))=true:=rfl
  fail "R"
  intro p2 hp2
  have h2:=same_new hp2 (.tup (mil.map V.str)) _ _ h1
  have q2:SqL K (upd H1 p2 (.tup (mil.map V.str))) p2 (mil.map V.str)\/SqT K (upd H1 p2 (.tup (mil.map V.str))) p2 (mil.map V.str):=.inr (SqT.of upd_same)
  refine ⟨p2,mil.map V.str,rfl,q2,hfl,hf2,_,rfl,?_⟩
  rw [inV_strs]
  refine ite2 (fun c=>?_) (fun c=>?_)
  ·have m:hdS tm.hd∈mil:=by simpa using c
   clear c
   fail "R"
   intro p3 hp3
   rw [show (some 1:Option Int)=some ((1:Nat):Int) from rfl,cut_take]
   refine k p3 _ _ (s1.trans ((same_new hp2 (.tup (mil.map V.str))).trans (same_new hp3 _))) (by cases q:H p3 with | none=>rfl | some u=>exact absurd (hp3.symm.trans (same_new hp2 (.tup (mil.map V.str)) _ _ (s1 _ _ q))) (fun z=>nomatch z)) upd_same ?_
   unfold ahead
   rw [an_one _ c' m]
   exact (Rps.take 1 r1).kt ((Kt.new hp2 _).trans (Kt.new hp3 _))
  ·have m:¬ hdS tm.hd∈mil:=by simpa using c
   clear c
   fail "R"
   refine k p _ _ (s1.trans (same_new hp2 _)) hp h2 ?_
   unfold ahead
   rw [an_all _ c' m,List.take_of_length_le (by rw [List.length_map];exact Nat.le_refl _)]
   exact r1.kt (Kt.new hp2 _)
theorem nm_row_of_term:Nm ["term","things","around","form"] (defScope s_row_of_term):=by decide +kernel
theorem lm_row_of_term:Lm ["term","things","around","form"] (defScope s_row_of_term):=by decide +kernel
theorem sc_row_of_term:FnScope ["term","things","around","form"] ["term","things","around"] (defScope s_row_of_term):=⟨rfl,rfl,rfl,by decide +kernel,rfl,by decide +kernel,by decide +kernel⟩
theorem ok_row_of {f:Addr}{fd:FuncData}(F:Fun K "row_of_term" "row_of_term" s_row_of_term f fd)(z_tuple:mg "tuple"=none):FnOk P w K mg base CX0 1 f fd ["term","things","around"] (spRowOf K):=by
 refine F.ok sc_row_of_term (fun vs H Q E h=>?_) (fun cdv A outer s H vs Q E hr h=>?_)
 ·obtain ⟨_,_,_,_,_,_,_,_,rfl,_⟩:=h
  rfl
 obtain ⟨v,u,p,ws,env,t,r,ts,rfl,hv,hp,hr',hu,h,k⟩:=h
 refine ⟨_,(pss_cons (sa sc_row_of_term.nd lm_row_of_term 3 (pe_ix ix_tup (va nm_row_of_term 0) pe_int (fun _ _=>rfl)))
  (pss_cons (ps_if (pt_cmpR op_eq (va nm_row_of_term 3) pe_str (nomark _)) (pss_one (ps_ret (pe_tup (pa_cons pe_str (pa_cons (pe_ix ix_tup (va nm_row_of_term 0) pe_int (fun _ _=>rfl)) (pa_cons (va nm_row_of_term 2) pa_nil)))))) pss_nil)
  (pss_cons (ps_if (pt_cmpR op_eq (va nm_row_of_term 3) pe_str (nomark _)) (pss_one (ps_ret (pe_tup (pa_cons pe_str (pa_cons (pe_ix ix_tup (va nm_row_of_term 0) pe_int (fun _ _=>rfl)) (pa_cons (pe_ix ix_list (va nm_row_of_term 1) pe_int (fun _ _=>rfl)) (pa_cons (pe_ix ix_list (va nm_row_of_term 1) pe_int (fun _ _=>rfl)) pa_nil))))))) pss_nil)
  (pss_cons (ps_if (pt_cmpR op_eq (va nm_row_of_term 3) pe_str (nomark _)) (pss_one (ps_ret (pe_tup (pa_cons pe_str (pa_cons (pe_ix ix_list (va nm_row_of_term 1) pe_int (fun _ _=>rfl)) (pa_cons (pe_ix ix_tup (va nm_row_of_term 0) pe_int (fun _ _=>rfl)) (pa_cons (va nm_row_of_term 2) pa_nil))))))) pss_nil)
  (pss_cons (ps_if (pt_cmpR op_eq (va nm_row_of_term 3) pe_str (nomark _)) (pss_one (ps_ret (pe_tup (pa_cons pe_str (pa_cons (pe_ix ix_list (va nm_row_of_term 1) pe_int (fun _ _=>rfl)) (pa_cons (pe_ix ix_tup (va nm_row_of_term 0) pe_int (fun _ _=>rfl)) (pa_cons (pe_ix ix_tup (va nm_row_of_term 0) pe_int (fun _ _=>rfl)) (pa_cons (va nm_row_of_term 2) pa_nil)))))))) pss_nil)
  (pss_cons (ps_if (pt_cmpR op_eq (va nm_row_of_term 3) pe_str (nomark _)) (pss_one (ps_ret (pe_tup (pa_cons pe_str (pa_cons (pe_ix ix_list (va nm_row_of_term 1) pe_int (fun _ _=>rfl)) (pa_cons (pe_ix ix_tup (va nm_row_of_term 0) pe_int (fun _ _=>rfl)) (pa_cons (pe_ix ix_tup (va nm_row_of_term 0) pe_int (fun _ _=>rfl)) (pa_cons (pe_ix ix_list (va nm_row_of_term 1) pe_int (fun _ _=>rfl)) (pa_cons (pe_ix ix_tup (va nm_row_of_term 0) pe_int (fun _ _=>rfl)) (pa_cons (va nm_row_of_term 2) pa_nil)))))))))) pss_nil)
  (pss_one (ps_ret (pe_op op_catTA (pe_tup (pa_cons (va nm_row_of_term 3) pa_nil)) (pe_callTy call_tuple_of (by show _=_;kernel_rfl) z_tuple PyProof.Rows.boot_tuple (pa_cons (va nm_row_of_term 1) pa_nil))))))))))),?_⟩
 cases h with
 | gap =>
  obtain ⟨ra,u1,u2,rfl,sq,g1,g2⟩:=hv.t2
  obtain rfl:=g1.inv_s
  fail "R"
  intro q hq
  exact k _ _ (same_new hq _) (Rp.new (K:=K) hq (.cons .s (.cons g2 (.one hu))))
 | op =>
  obtain ⟨ra,u1,u2,u3,u4,rfl,sq,g1,g2,g3,g4⟩:=hv.t4
  obtain rfl:=g1.inv_s
  obtain ⟨x1,q1,rfl,h1,r1⟩:=hr'.inv
  obtain ⟨x2,q2,rfl,h2,r2⟩:=r1.inv
  obtain rfl:=r2.inv0
  fail "R"
  intro q hq
  exact k _ _ (same_new hq _) (Rp.new (K:=K) hq (.cons .s (.cons g2 (.cons h1 (.one h2)))))
 | mat =>
  obtain ⟨ra,u1,u2,u3,rfl,sq,g1,g2,g3⟩:=hv.t3
  obtain rfl:=g1.inv_s
  obtain ⟨x1,q1,rfl,h1,r1⟩:=hr'.inv
  obtain rfl:=r1.inv0
  fail "R"
  intro q hq
  exact k _ _ (same_new hq _) (Rp.new (K:=K) hq (.cons .s (.cons h1 (.cons g3 (.one hu)))))
 | ife =>
  obtain ⟨ra,u1,u2,u3,u4,rfl,sq,g1,g2,g3,g4⟩:=hv.t4
  obtain rfl:=g1.inv_s
  obtain ⟨x1,q1,rfl,h1,r1⟩:=hr'.inv
  obtain rfl:=r1.inv0
  fail "R"
  intro q hq
  exact k _ _ (same_new hq _) (Rp.new (K:=K) hq (.cons .s (.cons h1 (.cons g3 (.cons g4 (.one hu))))))
 | fold =>
  obtain ⟨ra,u1,u2,u3,u4,u5,u6,rfl,sq,g1,g2,g3,g4,g5,g6⟩:=Rp.t6 hv
  obtain rfl:=g1.inv_s
  obtain ⟨x1,q1,rfl,h1,r1⟩:=hr'.inv
  obtain ⟨x2,q2,rfl,h2,r2⟩:=r1.inv
  obtain rfl:=r2.inv0
  fail "R"
  intro q hq
  exact k _ _ (same_new hq _) (Rp.new (K:=K) hq (.cons .s (.cons h1 (.cons g3 (.cons g4 (.cons h2 (.cons g6 (.one hu))))))))
 | @other f r _ hf hl =>
  obtain ⟨ra,us,rfl,sq,a0,g2⟩:=Rp.hd hv
  have lw:=hr'.length
  have n1:¬ V.str f=V.str "gap":=fun z=>by injection z with z;subst z;revert hf;decide +kernel
  have n2:¬ V.str f=V.str "op":=fun z=>by injection z with z;subst z;revert hf;decide +kernel
  have n3:¬ V.str f=V.str "match":=fun z=>by injection z with z;subst z;revert hf;decide +kernel
  have n4:¬ V.str f=V.str "if":=fun z=>by injection z with z;subst z;revert hf;decide +kernel
  have n5:¬ V.str f=V.str "fold":=fun z=>by injection z with z;subst z;revert hf;decide +kernel
  fail "R"
  refine ifF (decide_eq_false n1) ?_
  fail "R"
  refine ifF (decide_eq_false n2) ?_
  fail "R"
  refine ifF (decide_eq_false n3) ?_
  fail "R"
  refine ifF (decide_eq_false n4) ?_
  fail "R"
  refine ifF (decide_eq_false n5) ?_
  fail "R"
  intro p1 hp1
  have hp':=same_new hp1 (.tup [.str f]) _ _ hp
  have s1:=same_new hp1 (.tup [.str f])
  fail "R"
  refine .inl ⟨SqL.of hp',fun l hl'=>?_⟩
  have s2:=s1.trans (same_new hl' (.tup ws))
  have hT:upd (upd H p1 (.tup [.str f])) l (.tup ws) l=some (.tup ws):=upd_same
  have hT1:upd (upd H p1 (.tup [.str f])) l (.tup ws) p1=some (.tup [.str f]):=same_new hl' _ _ _ upd_same
  have hz:([V.str f]:List V).length + ws.length<=sizeLine:=small4000 (by simp;omega)
  have r2:=hr'.same s2
  generalize upd (upd H p1 (.tup [.str f])) l (.tup ws)=H2 at s2 hT hT1 r2 ⊢
  fail "R"
  intro p9 H9 s9 q9
  exact k _ _ (s2.trans s9) (Rp.t q9 (.cons .s (r2.same s9)))
structure Deed (P:Program) (w:World) (K:PySem.W.Frag) (mg:Str->Option Value) (base:Heap) (kvs:List (Str × V)) (j:Nat) (ps:List Str) (f:Str) (sp:Sp):Prop where
 ex:∃ g fd,kvs.lookup f=some (V.ref g)/\FnOk P w K mg base CX0 j g fd ps sp/\PySem.W.keepIn K (.ref g)=true/\Binds K fd ps []
theorem Deed.of {kvs:List (Str × V)}{j:Nat}{ps:List Str}{x f:Str}{sp:Sp}{g:Addr}{fd:FuncData}(h:Has P w K mg base x j ps sp g fd)(l:kvs.lookup f=some (V.ref g)):Deed P w K mg base kvs j ps f sp:=⟨g,fd,l,h.ok,h.kp,h.bd⟩
structure Deeds (P:Program) (w:World) (K:PySem.W.Frag) (mg:Str->Option Value) (base:Heap) (C:Addr) (kvs:List (Str × V)):Prop where
 gap:Deed P w K mg base kvs 3 ["work","row"] "gap" (spD GapDo K C)
 op:Deed P w K mg base kvs 3 ["work","row"] "op" (spD OpDo K C)
 more:Deed P w K mg base kvs 3 ["work","row"] "more" (spD MoreDo K C)
 first:Deed P w K mg base kvs 3 ["work","row"] "first" (spD FirstDo K C)
 others:Deed P w K mg base kvs 3 ["work","row"] "others" (spD FirstDo K C)
 long:Deed P w K mg base kvs 3 ["work","row"] "long" (spD LongDo K C)
 mat:Deed P w K mg base kvs 3 ["work","row"] "match" (spD MatchDo K C)
 ife:Deed P w K mg base kvs 3 ["work","row"] "if" (spD IfDo K C)
 fold:Deed P w K mg base kvs 3 ["work","row"] "fold" (spD FoldDo K C)
theorem Deeds.get {kvs:List (Str × V)}(D:Deeds P w K mg base C kvs){r:T}{st st':WS}(h:RowDo r st st'):∃ f q R,r=.t (.s f::q)/\R r st st'/\Deed P w K mg base kvs 3 ["work","row"] f (spD R K C):=by
 cases h with
 | gap h =>
  obtain ⟨q,e⟩:∃ q,r=.t (.s "gap"::q):=by cases h <;> exact ⟨_,rfl⟩
  exact ⟨"gap",q,GapDo,e,h,D.gap⟩
 | op h =>
  obtain ⟨q,e⟩:∃ q,r=.t (.s "op"::q):=by cases h <;> exact ⟨_,rfl⟩
  exact ⟨"op",q,OpDo,e,h,D.op⟩
 | more h =>
  obtain ⟨q,e⟩:∃ q,r=.t (.s "more"::q):=by cases h <;> exact ⟨_,rfl⟩
  exact ⟨"more",q,MoreDo,e,h,D.more⟩
 | first h =>
  have:∃ (f:Str) (q:List T),(f="first"\/f="others")/\r=.t (.s f::q):=by
   cases h with
   | left h=>exact ⟨_,_,h,rfl⟩
   | fault h=>exact ⟨_,_,h,rfl⟩
   | first=>exact ⟨_,_,.inl rfl,rfl⟩
   | others=>exact ⟨_,_,.inr rfl,rfl⟩
  obtain ⟨f,q,hf,e⟩:=this
  rcases hf with rfl | rfl
  ·exact ⟨"first",q,FirstDo,e,h,D.first⟩
  ·exact ⟨"others",q,FirstDo,e,h,D.others⟩
 | long h =>
  obtain ⟨q,e⟩:∃ q,r=.t (.s "long"::q):=by cases h <;> exact ⟨_,rfl⟩
  exact ⟨"long",q,LongDo,e,h,D.long⟩
 | mat h =>
  obtain ⟨q,e⟩:∃ q,r=.t (.s "match"::q):=by cases h <;> exact ⟨_,rfl⟩
  exact ⟨"match",q,MatchDo,e,h,D.mat⟩
 | ife h =>
  obtain ⟨q,e⟩:∃ q,r=.t (.s "if"::q):=by cases h <;> exact ⟨_,rfl⟩
  exact ⟨"if",q,IfDo,e,h,D.ife⟩
 | fold h =>
  obtain ⟨q,e⟩:∃ q,r=.t (.s "fold"::q):=by cases h <;> exact ⟨_,rfl⟩
  exact ⟨"fold",q,FoldDo,e,h,D.fold⟩
theorem nm_do_row:Nm ["work","row","deed"] (defScope s_do_row):=by decide +kernel
theorem lm_do_row:Lm ["work","row","deed"] (defScope s_do_row):=by decide +kernel
theorem sc_do_row:FnScope ["work","row","deed"] ["work","row"] (defScope s_do_row):=⟨rfl,rfl,rfl,by decide +kernel,rfl,by decide +kernel,by decide +kernel⟩
theorem ok_do_row {f d:Addr}{fd:FuncData}{kvs:List (Str × V)}(F:Fun K "do_row" "do_row" s_do_row f fd)(D:Deeds P w K mg base C kvs)(m_DEEDS:mg "DEEDS"=some (.ref d))(kD:KD K w d kvs):FnOk P w K mg base CX0 4 f fd ["work","row"] (spD RowDo K C):=by
 refine F.ok sc_do_row (fun vs H Q E h=>?_) (fun cdv A outer s H vs Q E hr h=>?_)
 ·obtain ⟨_,_,_,_,_,_,_,rfl,_⟩:=h
  rfl
 obtain ⟨H0,o,a,st,st',v,r,rfl,hw,hv,hb,h,k⟩:=h
 obtain ⟨f',q,R,rfl,hR,⟨g,gd,lg,og,kg,bg⟩⟩:=D.get h
 have hT:∀ g' sp,(g'=g/\sp=spD R K C)->∃ k fd ps,FnOk P w K mg base CX0 k g' fd ps sp/\Room k (A.deeper (PyProof.Rows.envOfC "do_row" (defScope s_do_row) s.heap.objs.size f cdv))/\PySem.W.keepIn K (.ref g')=true/\Binds K fd ps []:=by
  rintro g' sp ⟨rfl,rfl⟩
  exact ⟨3,_,_,og,hr,kg,bg⟩
 refine ⟨_,(pss_cons (sa sc_do_row.nd lm_do_row 2 (pe_kget (pe_glob (by show _=_;kernel_rfl) m_DEEDS (show RelV (.ref _) _ from rfl)) (pe_ix ix_tup (va nm_do_row 1) pe_int (fun _ _=>rfl)) (fun _ _=>rfl)))
  (pss_one (ps_expr (pe_callV hT (va nm_do_row 2) (pa_cons (va nm_do_row 0) (pa_cons (va nm_do_row 1) pa_nil)))))),?_⟩
 have hv':=hv
 obtain ⟨ra,us,rfl,sq,a0,g2⟩:=Rp.hd hv
 fail "R"
 exact k
end
end G28
namespace G28
open PySem L2
def lkE:Env->Str->Option T
 | [],_=>none
 | d::r,x=>(lkE r x).or (if d.1=x then some d.2 else none)
theorem dict_of_pairs {K:PySem.W.Frag}{H:Hp}:∀ {env:Env} {ys:List V},Rps K H (env.map pT) ys->∃ kvs,DPairs K H kvs ys/\∀ acc x,match lkE env x with
  | some n=>∃ t,valV (mergeK acc kvs) (Sum.inr x)=some t/\Rp K H n t
  | none=>valV (mergeK acc kvs) (Sum.inr x)=valV acc (Sum.inr x)
 | [],ys,r=>by
  obtain rfl:=r.inv0
  exact ⟨[],.nil,fun acc x=>rfl⟩
 | (x,n)::r,ys,h=>by
  obtain ⟨v,q,rfl,g,h2⟩:=(show Rps K H (pT (x,n)::r.map pT) ys from h).inv
  obtain ⟨a,u1,u2,rfl,sq,g1,g2⟩:=(show Rp K H (.t [.s x,n]) v from g).t2
  obtain rfl:=g1.inv_s
  obtain ⟨kvs,d,ih⟩:=dict_of_pairs h2
  refine ⟨(Sum.inr x,u2)::kvs,.cons ⟨a,rfl,sq⟩ d,fun acc y=>?_⟩
  have e:mergeK acc ((Sum.inr x,u2)::kvs)=mergeK (putK acc (Sum.inr x) u2) kvs:=rfl
  have:=ih (putK acc (Sum.inr x) u2) y
  rw [e]
  simp only [lkE]
  cases q:lkE r y with
  | some m=>rw [q] at this;simpa using this
  | none =>
   rw [q] at this
   simp only [Option.none_or]
   rw [valV_put] at this
   by_cases c:x=y
   ·subst c
    rw [if_pos rfl] at this ⊢
    exact ⟨u2,this,g2⟩
   ·rw [if_neg c]
    rw [if_neg (fun z=>c (by injection z with z;exact z.symm))] at this
    exact this
inductive BegDo:T->WS->WS->Prop
 | num {n:Int} {ar:T} {st:WS}:BegDo (termT (numT n) ar) st (st.tell (numT n))
 | name {x:Str} {t:T} {env:Env} {st:WS}:lkE env x=some t->BegDo (termT (.t [.s "name",.s x]) (arT env)) st (st.tell t)
 | other {tm:Tm} {ar:T} {st:WS}:Wf tm->tm.size<=900->¬ hdS tm.hd="num"->¬ hdS tm.hd="name"->(ahead tm).length<=90 ->
   BegDo (termT (enc tm) ar) st { st with waiting:=st.waiting++[restT (enc tm) ar]++(ahead tm).reverse.map (fun t=>termT t ar) }
section
variable {P : Program} {w : World} {K : PySem.W.Frag} {mg : Str → Option Value} {base : Heap} {C : Addr}
variable {gT gO gI gL gN gA : Addr} {tfd ofd ifd lfd nfd afd : FuncData}
theorem nm_begin_term:Nm ["work","task","word","term","around","form","inner"] (defScope s_begin_term):=by decide +kernel
theorem lm_begin_term:Lm ["work","task","word","term","around","form","inner"] (defScope s_begin_term):=by decide +kernel
theorem sc_begin_term:FnScope ["work","task","word","term","around","form","inner"] ["work","task"] (defScope s_begin_term):=⟨rfl,rfl,rfl,by decide +kernel,rfl,by decide +kernel,by decide +kernel⟩
theorem ok_begin {f:Addr}{fd:FuncData}(F:Fun K "begin_term" "begin_term" s_begin_term f fd)(N:NoA K C)(TA:Has P w K mg base "told_ahead" 3 ["term"] (spAhead K) gA afd)
  (mTell:HasM P w K mg base C "tell" 1 ["self","thing"] (spTell K C) gT tfd) (mInto:HasM P w K mg base C "go_into" 1 ["self","term","around"] (spGoInto K C) gI ifd) (z_dict:mg "dict"=none):FnOk P w K mg base CX0 5 f fd ["work","task"] (spD BegDo K C):=by
 refine F.ok sc_begin_term (fun vs H Q E h=>?_) (fun cdv A outer s H vs Q E hr h=>?_)
 ·obtain ⟨_,_,_,_,_,_,_,rfl,_⟩:=h
  rfl
 obtain ⟨H0,o,a,st,st',v,r,rfl,hw,hv,hb,h,k⟩:=h
 refine ⟨_,(pss_cons (ps_asg (va nm_begin_term 1) (pg_tupK (n:=3) K rfl rfl (pgs_cons (ga sc_begin_term.nd lm_begin_term 2) (pgs_cons (ga sc_begin_term.nd lm_begin_term 3) (pgs_cons (ga sc_begin_term.nd lm_begin_term 4) pgs_nil)))))
  (pss_cons (sa sc_begin_term.nd lm_begin_term 5 (pe_ix ix_tup (va nm_begin_term 3) pe_int (fun _ _=>rfl)))
  (pss_one (ps_if (pt_cmpR op_eq (va nm_begin_term 5) pe_str (nomark _)) (pss_one (ps_expr (pe_meth (va nm_begin_term 0) mTell.c mTell.m mTell.ok (hr.mono (by omega)) mTell.bd .nil pass0 (pa_cons (va nm_begin_term 3) pa_nil)))) (pss_one (ps_if (pt_cmpR op_eq (va nm_begin_term 5) pe_str (nomark _)) (pss_one (ps_expr (pe_meth (va nm_begin_term 0) mTell.c mTell.m mTell.ok (hr.mono (by omega)) mTell.bd .nil pass0 (pa_cons (pe_dget (hu_of hr) (pe_callTy (call_dictP rfl) (by show _=_;kernel_rfl) z_dict PyProof.Rows.boot_dict (pa_cons (va nm_begin_term 4) pa_nil)) (pe_ix ix_tup (va nm_begin_term 3) pe_int (fun _ _=>rfl)) (fun _ _=>rfl)) pa_nil)))) (pss_cons (ps_expr (pe_bm PySem.F.plainAttrs_list PySem.F.slot_list_append PySem.F.type_list_append mt_append (pe_fld (va nm_begin_term 0) rfl) (pa_cons (pe_tup (pa_cons pe_str (pa_cons (va nm_begin_term 3) (pa_cons (va nm_begin_term 4) pa_nil)))) pa_nil)))
  (pss_one (ps_for PassesOwn.never rfl (pi_list (pe_slice3 (pe_call TA.ok (hr.mono (by omega)) (by show _=_;kernel_rfl) TA.at' TA.kp TA.bd .nil pass0 (pa_cons (va nm_begin_term 3) pa_nil)) po_none po_none (po_some (pe_un un_neg pe_int)))) (ga sc_begin_term.nd lm_begin_term 6)
   (pss_one (ps_expr (pe_meth (va nm_begin_term 0) mInto.c mInto.m mInto.ok (hr.mono (by omega)) mInto.bd .nil pass0 (pa_cons (va nm_begin_term 6) (pa_cons (va nm_begin_term 4) pa_nil)))))))))))))),?_⟩
 have hi:=hw.ins
 have hc:=N.c
 have hn:=N.waiting
 have b1:=hb.t
 have b2:=hb.w
 cases h with
 | num =>
  obtain ⟨ta,u1,u2,u3,rfl,tsq,g1,g2,g3⟩:=hv.t3
  obtain rfl:=g1.inv_s
  have g2':=g2
  obtain ⟨ra,c1,c2,rfl,rsq,e1,e2⟩:=g2.t2
  obtain rfl:=e1.inv_s
  fail "R"
  exact k
 | @name x t env _ hl =>
  obtain ⟨ta,u1,u2,u3,rfl,tsq,g1,g2,g3⟩:=hv.t3
  obtain rfl:=g1.inv_s
  obtain ⟨ra,c1,c2,rfl,rsq,e1,e2⟩:=id g2.t2
  obtain rfl:=e1.inv_s
  obtain rfl:=e2.inv_s
  obtain ⟨aa,ys,rfl,asq,ar⟩:=(show Rp K H (.t (env.map pT)) u3 from g3).inv_t
  obtain ⟨kvs,dp,look⟩:=dict_of_pairs ar
  have lk1:=look [] x
  rw [hl] at lk1
  obtain ⟨t',ht,rt⟩:=lk1
  fail "R"
  intro d hd
  have dk:upd H d (.dK (mergeK [] kvs)) d=some (.dK (mergeK [] kvs)):=upd_same
  obtain ⟨w1,k1,o1⟩:=hw.ext (same_new hd (.dK (mergeK [] kvs)))
  have hi1:=w1.ins
  have dg:DGet (upd H d (.dK (mergeK [] kvs))) d (.str x) (some t'):=by
   have:=DGet.k (k:=Sum.inr x) dk
   rw [ht] at this
   exact this
  have rsq1:=rsq.kt k1
  have rt1:=rt.kt k1
  fail "R"
  intro H2 w2 k2 o2
  exact k H2 w2 (k1.trans k2) (o1.trans o2)
 | @other tm ar _ wf sz n1 n2 la =>
  obtain ⟨ta,u1,u2,u3,rfl,tsq,g1,g2,g3⟩:=hv.t3
  obtain rfl:=g1.inv_s
  obtain ⟨r,er⟩:=enc_hd tm
  have g2':=g2
  rw [er] at g2
  obtain ⟨ra,us,rfl,rsq,a0,_⟩:=Rp.hd g2
  obtain ⟨tv,et,rt⟩:=hw.wai
  have l1:=rt.length
  fail "R"
  refine ifF (decide_eq_false (fun z=>n1 (by injection z))) ?_
  fail "R"
  refine ifF (decide_eq_false (fun z=>n2 (by injection z))) ?_
  fail "R"
  intro p hp
  obtain ⟨w1,k1,o1⟩:=hw.ext (same_new hp (.tup [.str "rest",.ref ra,u3]))
  obtain ⟨tv2,et2,rt2⟩:=w1.wai
  have l3:=rt2.length
  have l4:tv2.length < sizeLine:=small1000 (by omega)
  iterate 12 fail "1"
  obtain ⟨w2,k2,o2⟩:=w1.setW (rt2.snoc (Rp.new (K:=K) hp (xs:=[.s "rest",_,ar]) (.cons .s (.cons g2' (.one g3)))))
  have k12:=k1.trans k2
  have o12:=o1.trans o2
  have g2'':=g2'.kt k12
  have g3'':=g3.kt k12
  generalize upd (upd H p (.tup [.str "rest",.ref ra,u3])) a.lW (.lst (tv2++[.ref p]))=H3 at w2 k2 k12 o2 o12 g2'' g3'' ⊢
  fail "R"
  intro p2 H4 ws s4 _ h4 r4
  have lr:=r4.length
  have hz:(pickV ws none none (some (-1))).length<=sizeLine:=by rw [pick_rev,List.length_reverse,lr];exact small4000 (by omega)
  fail "R"
  intro p3 hp3
  rw [pick_rev]
  obtain ⟨w4,k4,o4⟩:=w2.ext (s4.trans (same_new hp3 (.lst ws.reverse)))
  have w2':=(w2.ext s4).1
  obtain ⟨_,m1,_⟩:=w2'.rws
  obtain ⟨_,m2,_⟩:=w2'.tol
  obtain ⟨_,m3,_⟩:=w2'.wai
  have n3:p3≠a.lR:=(ne_of_none m1 hp3).symm
  have n4:p3≠a.lT:=(ne_of_none m2 hp3).symm
  have n5:p3≠a.lW:=(ne_of_none m3 hp3).symm
  have r5:=(r4.kt (Kt.new hp3 (.lst ws.reverse))).reverse
  have a3:=g3''.kt k4
  fail "R"
  refine for_list (xs:=ws.reverse) (fun i σ Hi=>(∃ iv,σ=[some (.ref o),some (.ref ta),some (.str "term"),some (.ref ra),some u3,some (.str (hdS tm.hd)),iv])/\WAt K C H0 o a Hi { st with waiting:=st.waiting++[restT (enc tm) ar]++((ahead tm).reverse.take i).map (fun t=>termT t ar) }/\(Kt H Hi/\Oth a H Hi)/\Rps K Hi (ahead tm).reverse ws.reverse/\Rp K Hi ar u3/\Hi p3=some (.lst ws.reverse))
   ⟨⟨_,rfl⟩,?_,⟨k12.trans k4,o12.trans o4⟩,r5,a3,upd_same⟩ ?_ ?_ ?_
  ·rw [List.take_zero,List.map_nil,List.append_nil];exact w4
  ·rintro i σ Hi _ ⟨_,_,_,_,_,h⟩
   exact SqL.of h
  ·rintro i xx σ Hi hx ⟨⟨iv,rfl⟩,wi,⟨ki,oi⟩,ri,ai,hi3⟩
   obtain ⟨t,ht,rt⟩:=ri.get' hx
   have hil:=(List.getElem?_eq_some_iff.mp ht).1
   have et:(ahead tm).reverse[i]=t:=(List.getElem?_eq_some_iff.mp ht).2
   have ii:=wi.ins
   have ll:(st.waiting++[restT (enc tm) ar]++((ahead tm).reverse.take i).map (fun t=>termT t ar)).length < 1000:=by
    simp only [List.length_append,List.length_map,List.length_take,List.length_cons,List.length_nil,List.length_reverse] at hil ⊢
    omega
   fail "R"
   intro H6 w6 k6 o6
   refine ⟨⟨_,rfl⟩,?_,⟨ki.trans k6,oi.trans o6⟩,ri.kt k6,ai.kt k6,o6 p3 _ n3 n4 n5 hi3⟩
   rw [List.take_succ_eq_append_getElem hil,List.map_append,et,←List.append_assoc]
   exact w6
  ·rintro σ Hi ⟨_,wi,⟨ki,oi⟩,ri,_⟩
   refine k Hi ?_ ki oi
   have e:((ahead tm).reverse.take ws.reverse.length)=(ahead tm).reverse:=by
    rw [List.length_reverse,lr,←List.length_reverse,List.take_length]
   rw [e] at wi
   exact wi
end
end G28
namespace G28
open PySem L2
abbrev Dfs:=List (Str × List Str × T)
def rtlc:List Str:=["row","tag","let","call"]
inductive End1 (D:Dfs) (env:Env):T->List T->WS->WS->Prop
 | row {x:T} {ts:List T} {st:WS}:End1 D env (.t [.s "row",x]) ts st (st.tell (rowT ts))
 | tag {t:Str} {x:T} {ts:List T} {st:WS}:End1 D env (.t [.s "tag",.s t,x]) ts st (st.tell (tagT t ts))
 | lt {x:Str} {a b t:T} {st:WS}:env.length<=900->End1 D env (.t [.s "let",.s x,a,b]) [t] st (st.go b (arT (boundE env [x] [t])))
 | call {f:Str} {x b:T} {ts:List T} {ns:List Str} {st:WS}:lkD D f=some (ns,b)->st.many < 200->ns.length=ts.length->ns.length<=900->End1 D env (.t [.s "call",.s f,x]) ts st (st.one.go b (arT (boundE [] ns ts)))
 | deed {f:Str} {r ts:List T} {row:T} {st st':WS}:RowOf env (.t (.s f::r)) ts row->¬ f∈rtlc->RowDo row st st'->End1 D env (.t (.s f::r)) ts st st'
inductive EndDo (D:Dfs):T->WS->WS->Prop
 | mk {tm:Tm} {env:Env} {front back:List T} {st st':WS}:Wf tm->tm.size<=900->st.told=front++back->back.length=(ahead tm).length->End1 D env (enc tm) back { st with told:=front } st'->EndDo D (restT (enc tm) (arT env)) st st'
def spE (R:Dfs->T->WS->WS->Prop)(K:PySem.W.Frag)(C:Addr):Sp:=fun vs H Q _=>∃ (H0:Hp) (w:Addr) (a:WA) (st st':WS) (v:V) (r:T),vs=[.ref w,v]/\WAt K C H0 w a H st/\Rp K H r v/\Bd st/\R a.D r st st'/\WK K C H0 w a H st' (Q .non)
theorem ahead_le {tm:Tm}:(ahead tm).length<=tm.ks.length:=by
 unfold ahead
 exact Nat.le_trans (List.length_take_le' _ _) (by rw [List.length_map];exact Nat.le_refl _)
theorem sizes_len:∀ ks:List Tm,ks.length<=Tm.sizes ks
 | []=>Nat.le_refl _
 | k::r=>by
  have:=sizes_len r
  obtain ⟨h,l⟩:=k
  simp only [Tm.sizes,Tm.size,List.length_cons]
  omega
theorem kids_le {tm:Tm}:tm.ks.length<=tm.size:=by
 obtain ⟨h,l⟩:=tm
 have:=sizes_len l
 simp only [Tm.ks,Tm.size]
 omega
section
variable {P : Program} {w : World} {K : PySem.W.Frag} {mg : Str → Option Value} {base : Heap} {C : Addr}
variable {gT gO gI gL gN gA gR gD gB gF : Addr} {tfd ofd ifd lfd nfd afd rfd dfd bfd ffd : FuncData}
theorem nm_end_term:Nm ["work","task","word","term","around","form","things","names","inner"] (defScope s_end_term):=by decide +kernel
theorem lm_end_term:Lm ["work","task","word","term","around","form","things","names","inner"] (defScope s_end_term):=by decide +kernel
theorem sc_end_term:FnScope ["work","task","word","term","around","form","things","names","inner"] ["work","task"] (defScope s_end_term):=⟨rfl,rfl,rfl,by decide +kernel,rfl,by decide +kernel,by decide +kernel⟩
theorem ok_end {f:Addr}{fd:FuncData}(F:Fun K "end_term" "end_term" s_end_term f fd)(N:NoA K C)(TA:Has P w K mg base "told_ahead" 3 ["term"] (spAhead K) gA afd)(RO:Has P w K mg base "row_of_term" 1 ["term","things","around"] (spRowOf K) gR rfd)(DR:Has P w K mg base "do_row" 4 ["work","row"] (spD RowDo K C) gD dfd)(BT:Has P w K mg base "bound_to" 1 ["around","names","things"] (spBound K) gB bfd)
  (mTake:HasM P w K mg base C "take" 1 ["self","many"] (spWTake K C) gT tfd) (mTell:HasM P w K mg base C "tell" 1 ["self","thing"] (spTell K C) gL lfd) (mOne:HasM P w K mg base C "do_one" 1 ["self"] (spDoOne K C) gO ofd) (mInto:HasM P w K mg base C "go_into" 1 ["self","term","around"] (spGoInto K C) gI ifd) (z_len:mg "len"=none) (z_tuple:mg "tuple"=none):FnOk P w K mg base CX0 5 f fd ["work","task"] (spE EndDo K C):=by
 refine F.ok sc_end_term (fun vs H Q E h=>?_) (fun cdv A outer s H vs Q E hr h=>?_)
 ·obtain ⟨_,_,_,_,_,_,_,rfl,_⟩:=h
  rfl
 obtain ⟨H0,o,a,st,st',v,r,rfl,hw,hv,hb,h,k⟩:=h
 refine ⟨_,(pss_cons (ps_asg (va nm_end_term 1) (pg_tupK (n:=3) K rfl rfl (pgs_cons (ga sc_end_term.nd lm_end_term 2) (pgs_cons (ga sc_end_term.nd lm_end_term 3) (pgs_cons (ga sc_end_term.nd lm_end_term 4) pgs_nil)))))
  (pss_cons (sa sc_end_term.nd lm_end_term 5 (pe_ix ix_tup (va nm_end_term 3) pe_int (fun _ _=>rfl)))
  (pss_cons (sa sc_end_term.nd lm_end_term 6 (pe_meth (va nm_end_term 0) mTake.c mTake.m mTake.ok (hr.mono (by omega)) mTake.bd .nil pass0 (pa_cons (pe_callB call_len_seq (by show _=_;kernel_rfl) z_len PySem.boot_len (pa_cons (pe_call TA.ok (hr.mono (by omega)) (by show _=_;kernel_rfl) TA.at' TA.kp TA.bd .nil pass0 (pa_cons (va nm_end_term 3) pa_nil)) pa_nil)) pa_nil)))
  (pss_one (ps_if (pt_cmpR op_eq (va nm_end_term 5) pe_str (nomark _)) (pss_one (ps_expr (pe_meth (va nm_end_term 0) mTell.c mTell.m mTell.ok (hr.mono (by omega)) mTell.bd .nil pass0 (pa_cons (pe_tup (pa_cons pe_str (pa_cons (pe_callTy call_tuple_of (by show _=_;kernel_rfl) z_tuple PyProof.Rows.boot_tuple (pa_cons (va nm_end_term 6) pa_nil)) pa_nil))) pa_nil)))) (pss_one (ps_if (pt_cmpR op_eq (va nm_end_term 5) pe_str (nomark _)) (pss_one (ps_expr (pe_meth (va nm_end_term 0) mTell.c mTell.m mTell.ok (hr.mono (by omega)) mTell.bd .nil pass0 (pa_cons (pe_tup (pa_cons pe_str (pa_cons (pe_ix ix_tup (va nm_end_term 3) pe_int (fun _ _=>rfl)) (pa_cons (pe_callTy call_tuple_of (by show _=_;kernel_rfl) z_tuple PyProof.Rows.boot_tuple (pa_cons (va nm_end_term 6) pa_nil)) pa_nil)))) pa_nil)))) (pss_one (ps_if (pt_cmpR op_eq (va nm_end_term 5) pe_str (nomark _)) (pss_one (ps_expr (pe_meth (va nm_end_term 0) mInto.c mInto.m mInto.ok (hr.mono (by omega)) mInto.bd .nil pass0 (pa_cons (pe_ix ix_tup (va nm_end_term 3) pe_int (fun _ _=>rfl)) (pa_cons (pe_call BT.ok (hr.mono (by omega)) (by show _=_;kernel_rfl) BT.at' BT.kp BT.bd .nil pass0 (pa_cons (va nm_end_term 4) (pa_cons (pe_tup (pa_cons (pe_ix ix_tup (va nm_end_term 3) pe_int (fun _ _=>rfl)) pa_nil)) (pa_cons (va nm_end_term 6) pa_nil)))) pa_nil))))) (pss_one (ps_if (pt_cmpR op_eq (va nm_end_term 5) pe_str (nomark _)) (pss_cons (ps_expr (pe_meth0 (va nm_end_term 0) mOne.c mOne.m mOne.ok (hr.mono (by omega)) mOne.bd .nil pass0))
  (pss_cons (ps_asg (pe_dget (hu_of hr) (pe_fld (va nm_end_term 0) rfl) (pe_ix ix_tup (va nm_end_term 3) pe_int (fun _ _=>rfl)) (fun _ _=>rfl)) (pg_tupK (n:=2) K rfl rfl (pgs_cons (ga sc_end_term.nd lm_end_term 7) (pgs_cons (ga sc_end_term.nd lm_end_term 8) pgs_nil))))
  (pss_one (ps_expr (pe_meth (va nm_end_term 0) mInto.c mInto.m mInto.ok (hr.mono (by omega)) mInto.bd .nil pass0 (pa_cons (va nm_end_term 8) (pa_cons (pe_call BT.ok (hr.mono (by omega)) (by show _=_;kernel_rfl) BT.at' BT.kp BT.bd .nil pass0 (pa_cons (pe_tup pa_nil) (pa_cons (va nm_end_term 7) (pa_cons (va nm_end_term 6) pa_nil)))) pa_nil))))))) (pss_one (ps_expr (pe_call DR.ok (hr.mono (by omega)) (by show _=_;kernel_rfl) DR.at' DR.kp DR.bd .nil pass0 (pa_cons (va nm_end_term 0) (pa_cons (pe_call RO.ok (hr.mono (by omega)) (by show _=_;kernel_rfl) RO.at' RO.kp RO.bd .nil pass0 (pa_cons (va nm_end_term 3) (pa_cons (va nm_end_term 6) (pa_cons (va nm_end_term 4) pa_nil)))) pa_nil)))))))))))))))),?_⟩
 have hi:=hw.ins
 have hc:=N.c
 have b1:=hb.t
 have b2:=hb.w
 have b3:=hb.r
 obtain ⟨wf,sz,et,lb,h1⟩:=h
 rename_i tm env front back
 obtain ⟨ta,u1,u2,u3,rfl,tsq,g1,g2,g3⟩:=hv.t3
 obtain rfl:=g1.inv_s
 obtain ⟨r,er⟩:=enc_hd tm
 have g2':=g2
 have hl9:back.length<=900:=by have:=ahead_le (tm:=tm);have:=kids_le (tm:=tm);omega
 rw [er] at g2 h1
 obtain ⟨ra,us,rfl,rsq,a0,rus⟩:=Rp.hd g2
 fail "R"
 intro p H1 ws s1 _ hp1 r1
 obtain ⟨w1,k1,o1⟩:=hw.ext s1
 have hi1:=w1.ins
 have lr:=r1.length
 fail "R"
 ·exact (by rw [lr,lb]:[V.ref o,.int (ws.length:Int)]=[V.ref o,.int ((back:List T).length:Int)])
 refine ⟨w1,et,hl9,fun H2 p2 vs2 w2 k2 o2 h2 m1 m2 m3 r2=>?_⟩
 have kk:=k1.trans k2
 have oo:=o1.trans o2
 have q2:=g2'.kt kk
 have q3:=g3.kt kk
 have rsq2:=rsq.kt kk
 have rus2:=rus.kt kk
 have hi2:=w2.ins
 have lv:=r2.length
 have c1:({ st with told:=front }:WS).told.length < 900:=by show front.length < 900;rw [et,List.length_append] at b1;omega
 have bd2:Bd { st with told:=front }:=⟨b3,c1,b2⟩
 generalize hh:hdS tm.hd=hs at *
 cases h1 with
 | row =>
  fail "R"
  refine .inl ⟨SqL.of h2,fun l hl'=>?_⟩
  have s3:=same_new hl' (.tup vs2)
  have hT:upd H2 l (.tup vs2) l=some (.tup vs2):=upd_same
  fail "R"
  intro p hp
  obtain ⟨w4,k4,o4⟩:=w2.ext (s3.trans (same_new hp (.tup [.str "row",.ref l])))
  have hi4:=w4.ins
  have r9:Rp K (upd (upd H2 l (.tup vs2)) p (.tup [.str "row",.ref l])) (rowT back) (.ref p):=Rp.new (K:=K) hp (xs:=[.s "row",.t back]) (.cons .s (.one (Rp.t (SqT.of hT) (r2.same s3))))
  fail "R"
  intro H5 w5 k5 o5
  exact k H5 w5 (kk.trans (k4.trans k5)) (oo.trans (o4.trans o5))
 | @tag t x _ _ =>
  obtain ⟨u4,us',rfl,f1,f2⟩:=rus.inv
  obtain rfl:=f1.inv_s
  obtain ⟨u5,us',rfl,f3,f4⟩:=f2.inv
  obtain rfl:=f4.inv0
  fail "R"
  refine .inl ⟨SqL.of h2,fun l hl'=>?_⟩
  have s3:=same_new hl' (.tup vs2)
  have hT:upd H2 l (.tup vs2) l=some (.tup vs2):=upd_same
  fail "R"
  intro p hp
  obtain ⟨w4,k4,o4⟩:=w2.ext (s3.trans (same_new hp (.tup [.str "tag",.str t,.ref l])))
  have hi4:=w4.ins
  have r9:Rp K (upd (upd H2 l (.tup vs2)) p (.tup [.str "tag",.str t,.ref l])) (tagT t back) (.ref p):=Rp.new (K:=K) hp (xs:=[.s "tag",.s t,.t back]) (.cons .s (.cons .s (.one (Rp.t (SqT.of hT) (r2.same s3)))))
  fail "R"
  intro H5 w5 k5 o5
  exact k H5 w5 (kk.trans (k4.trans k5)) (oo.trans (o4.trans o5))
 | @lt x ta' tb t _ he =>
  obtain ⟨u4,us',rfl,f1,f2⟩:=rus.inv
  obtain rfl:=f1.inv_s
  obtain ⟨u5,us',rfl,f3,f4⟩:=f2.inv
  obtain ⟨u6,us',rfl,f5,f6⟩:=f4.inv
  obtain rfl:=f6.inv0
  fail "R"
  intro p hp
  have s3:=same_new hp (.tup [.str x])
  obtain ⟨w3,k3,o3⟩:=w2.ext s3
  have n3:SqB K true (upd H2 p (.tup [.str x])) p ([x].map V.str):=SqT.of upd_same
  have t3:SqB K false (upd H2 p (.tup [.str x])) p2 vs2:=SqL.of (s3 _ _ h2)
  have e3:=q3.same s3
  have v3:=r2.same s3
  have y3:=rsq2.kt k3
  have z3:=(f5.kt kk).same s3
  fail "R"
  intro H4 u s4 r9
  obtain ⟨w4,k4,o4⟩:=w3.ext s4
  have hi4:=w4.ins
  have t4:=z3.same s4
  have bw:({ st with told:=front }:WS).waiting.length < 1000:=by show st.waiting.length < 1000;omega
  fail "R"
  intro H5 w5 k5 o5
  exact k H5 w5 (kk.trans (k3.trans (k4.trans k5))) (oo.trans (o3.trans (o4.trans o5)))
 | @call f' x b _ ns _ hl hm hn hn9 =>
  obtain ⟨u4,us',rfl,f1,f2⟩:=rus.inv
  obtain rfl:=f1.inv_s
  obtain ⟨u5,us',rfl,f3,f4⟩:=f2.inv
  obtain rfl:=f4.inv0
  have nD:=N.defs
  fail "R"
  intro H3 w3 k3 o3
  have hi3:=w3.ins
  obtain ⟨kvs,dd,da⟩:=w3.dfs
  obtain ⟨q,ln,tv,v1,v2,v3,v4,v5⟩:=da f' _ hl
  have dg:DGet H3 a.dD (.str f') (some (.ref q)):=by
   have:=DGet.k (k:=Sum.inr f') dd
   rw [v1] at this
   exact this
  have y3:=rsq2.kt k3
  fail "R"
  intro p hp
  have s3:=same_new hp (.tup [])
  obtain ⟨w4,k4,o4⟩:=w3.ext s3
  have e4:Rp K (upd H3 p (.tup [])) (arT []) (.ref p):=Rp.new (K:=K) hp .nil
  have n4:SqB K false (upd H3 p (.tup [])) ln (ns.map V.str):=SqL.of (s3 _ _ v3)
  have t4:SqB K false (upd H3 p (.tup [])) p2 vs2:=SqL.of (s3 _ _ (o3 p2 _ m1 m2 m3 h2))
  have r4:=(r2.kt k3).same s3
  have z4:=v5.same s3
  have he:([]:Env).length<=900:=Nat.zero_le _
  fail "R"
  intro H5 u s5 r9
  obtain ⟨w5,k5,o5⟩:=w4.ext s5
  have hi5:=w5.ins
  have t5:=z4.same s5
  have bw:({ st with told:=front }:WS).one.waiting.length < 1000:=by show st.waiting.length < 1000;omega
  fail "R"
  intro H6 w6 k6 o6
  exact k H6 w6 (kk.trans (k3.trans (k4.trans (k5.trans k6)))) (oo.trans (o3.trans (o4.trans (o5.trans o6))))
 | @deed f' r' _ row _ _ hro hnf hrd =>
  have n1:¬ V.str hs=V.str "row":=fun z=>by injection z with z;subst z;exact hnf (by decide +kernel)
  have n2:¬ V.str hs=V.str "tag":=fun z=>by injection z with z;subst z;exact hnf (by decide +kernel)
  have n3:¬ V.str hs=V.str "let":=fun z=>by injection z with z;subst z;exact hnf (by decide +kernel)
  have n4:¬ V.str hs=V.str "call":=fun z=>by injection z with z;subst z;exact hnf (by decide +kernel)
  fail "R"
  refine ifF (decide_eq_false n1) ?_
  fail "R"
  refine ifF (decide_eq_false n2) ?_
  fail "R"
  refine ifF (decide_eq_false n3) ?_
  fail "R"
  refine ifF (decide_eq_false n4) ?_
  have q2':Rp K H2 (.t (.s hs::r)) (.ref ra):=by rw [←er];exact q2
  fail "R"
  intro H3 q s3 r9
  obtain ⟨w3,k3,o3⟩:=w2.ext s3
  have hi3:=w3.ins
  fail "R"
  intro H4 w4 k4 o4
  exact k H4 w4 (kk.trans (k3.trans k4)) (oo.trans (o3.trans o4))
end
end G28
namespace G28
open PySem L2
inductive RndDo:T->WS->WS->Prop
 | done {ts:List T} {x y:Str} {b c ar:T} {n:Nat} {st:WS}:ts.length < 900->ts.length<=n->RndDo (roundT (foldT (rowT ts) x y b c ar) n) st st
 | more {ts:List T} {x y:Str} {b c t s:T} {env:Env} {front:List T} {n:Nat} {st:WS}:ts.length < 900->ts[n]?=some t->st.told=front++[s]->st.many < 200->env.length<=900 ->
   RndDo (roundT (foldT (rowT ts) x y b c (arT env)) n) st ((({ st with told:=front }:WS).one.wait (roundT (foldT (rowT ts) x y b c (arT env)) (n + 1))).go c (arT (boundE env [x,y] [t,s])))
theorem vs1 (o:Addr)(t:T):[V.ref o,V.int 1]=[V.ref o,V.int (([t]:List T).length:Int)]:=rfl
section
variable {P : Program} {w : World} {K : PySem.W.Frag} {mg : Str → Option Value} {base : Heap} {C : Addr}
variable {gT gO gI gL gN gA gR gD gB gF : Addr} {tfd ofd ifd lfd nfd afd rfd dfd bfd ffd : FuncData}
theorem nm_go_round:Nm ["work","task","word","row","at","form","sort","things","x","y","begun","c","around","so_far"] (defScope s_go_round):=by decide +kernel
theorem lm_go_round:Lm ["work","task","word","row","at","form","sort","things","x","y","begun","c","around","so_far"] (defScope s_go_round):=by decide +kernel
theorem sc_go_round:FnScope ["work","task","word","row","at","form","sort","things","x","y","begun","c","around","so_far"] ["work","task"] (defScope s_go_round):=⟨rfl,rfl,rfl,by decide +kernel,rfl,by decide +kernel,by decide +kernel⟩
theorem ok_round {f:Addr}{fd:FuncData}(F:Fun K "go_round" "go_round" s_go_round f fd)(N:NoA K C)(BT:Has P w K mg base "bound_to" 1 ["around","names","things"] (spBound K) gB bfd)
  (mTake:HasM P w K mg base C "take" 1 ["self","many"] (spWTake K C) gT tfd) (mOne:HasM P w K mg base C "do_one" 1 ["self"] (spDoOne K C) gO ofd) (mInto:HasM P w K mg base C "go_into" 1 ["self","term","around"] (spGoInto K C) gI ifd) (z_len:mg "len"=none):FnOk P w K mg base CX0 5 f fd ["work","task"] (spD RndDo K C):=by
 refine F.ok sc_go_round (fun vs H Q E h=>?_) (fun cdv A outer s H vs Q E hr h=>?_)
 ·obtain ⟨_,_,_,_,_,_,_,rfl,_⟩:=h
  rfl
 obtain ⟨H0,o,a,st,st',v,r,rfl,hw,hv,hb,h,k⟩:=h
 refine ⟨_,(pss_cons (ps_asg (va nm_go_round 1) (pg_tupK (n:=3) K rfl rfl (pgs_cons (ga sc_go_round.nd lm_go_round 2) (pgs_cons (ga sc_go_round.nd lm_go_round 3) (pgs_cons (ga sc_go_round.nd lm_go_round 4) pgs_nil)))))
  (pss_cons (ps_asg (va nm_go_round 3) (pg_tupK (n:=7) K rfl rfl (pgs_cons (ga sc_go_round.nd lm_go_round 5) (pgs_cons (pg_tupK (n:=2) K rfl rfl (pgs_cons (ga sc_go_round.nd lm_go_round 6) (pgs_cons (ga sc_go_round.nd lm_go_round 7) pgs_nil))) (pgs_cons (ga sc_go_round.nd lm_go_round 8) (pgs_cons (ga sc_go_round.nd lm_go_round 9) (pgs_cons (ga sc_go_round.nd lm_go_round 10) (pgs_cons (ga sc_go_round.nd lm_go_round 11) (pgs_cons (ga sc_go_round.nd lm_go_round 12) pgs_nil)))))))))
  (pss_one (ps_if (pt_cmpR op_lt (va nm_go_round 4) (pe_callB call_len_seq (by show _=_;kernel_rfl) z_len PySem.boot_len (pa_cons (va nm_go_round 7) pa_nil)) (nomark _)) (pss_cons (ps_expr (pe_meth0 (va nm_go_round 0) mOne.c mOne.m mOne.ok (hr.mono (by omega)) mOne.bd .nil pass0))
  (pss_cons (sa sc_go_round.nd lm_go_round 13 (pe_ix ix_list (pe_meth (va nm_go_round 0) mTake.c mTake.m mTake.ok (hr.mono (by omega)) mTake.bd .nil pass0 (pa_cons pe_int pa_nil)) pe_int (fun _ _=>rfl)))
  (pss_cons (ps_expr (pe_bm PySem.F.plainAttrs_list PySem.F.slot_list_append PySem.F.type_list_append mt_append (pe_fld (va nm_go_round 0) rfl) (pa_cons (pe_tup (pa_cons pe_str (pa_cons (va nm_go_round 3) (pa_cons (pe_op op_add (va nm_go_round 4) pe_int) pa_nil)))) pa_nil)))
  (pss_one (ps_expr (pe_meth (va nm_go_round 0) mInto.c mInto.m mInto.ok (hr.mono (by omega)) mInto.bd .nil pass0 (pa_cons (va nm_go_round 11) (pa_cons (pe_call BT.ok (hr.mono (by omega)) (by show _=_;kernel_rfl) BT.at' BT.kp BT.bd .nil pass0 (pa_cons (va nm_go_round 12) (pa_cons (pe_tup (pa_cons (va nm_go_round 8) (pa_cons (va nm_go_round 9) pa_nil))) (pa_cons (pe_tup (pa_cons (pe_ix ix_tup (va nm_go_round 7) (va nm_go_round 4) (fun _ _=>rfl)) (pa_cons (va nm_go_round 13) pa_nil))) pa_nil)))) pa_nil)))))))) pss_nil)))),?_⟩
 have hi:=hw.ins
 have hc:=N.c
 have b1:=hb.t
 have b2:=hb.w
 have b3:=hb.r
 have nW:=N.waiting
 cases h with
 | @done ts x y b c ar n _ hl hn =>
  obtain ⟨ta,u1,u2,u3,rfl,tsq,g1,g2,g3⟩:=hv.t3
  obtain rfl:=g1.inv_s
  obtain rfl:=g3.inv_i
  obtain ⟨ra,v1,v2,v3,v4,v5,v6,v7,rfl,rsq,f1,f2,f3,f4,f5,f6,f7⟩:=Rp.t7 g2
  obtain rfl:=f1.inv_s
  obtain ⟨wa,x1,x2,rfl,wsq,e1,e2⟩:=f2.t2
  obtain rfl:=e1.inv_s
  obtain ⟨ya,ys,rfl,ysq,ry⟩:=(show Rp K H (.t ts) x2 from e2).inv_t
  have ly:=ry.length
  have ysq':SqL K H ya ys\/SqT K H ya ys:=.inr ysq
  fail "R"
  refine ifF (decide_eq_false (by omega)) ?_
  exact k H hw Kt.refl Oth.refl
 | @more ts x y b c t s env front n _ hl ht et hm he =>
  obtain ⟨ta,u1,u2,u3,rfl,tsq,g1,g2,g3⟩:=hv.t3
  obtain rfl:=g1.inv_s
  obtain rfl:=g3.inv_i
  have g2':=g2
  obtain ⟨ra,v1,v2,v3,v4,v5,v6,v7,rfl,rsq,f1,f2,f3,f4,f5,f6,f7⟩:=Rp.t7 g2
  obtain rfl:=f1.inv_s
  obtain rfl:=f3.inv_s
  obtain rfl:=f4.inv_s
  obtain ⟨wa,x1,x2,rfl,wsq,e1,e2⟩:=f2.t2
  obtain rfl:=e1.inv_s
  obtain ⟨ya,ys,rfl,ysq,ry⟩:=(show Rp K H (.t ts) x2 from e2).inv_t
  have ly:=ry.length
  have hn:n < ts.length:=(List.getElem?_eq_some_iff.mp ht).1
  have ysq':SqL K H ya ys\/SqT K H ya ys:=.inr ysq
  fail "R"
  refine ifT (decide_eq_true (by omega)) ?_
  fail "R"
  intro H1 w1 k1 o1
  have hi1:=w1.ins
  fail "R"
  ·exact vs1 o s
  refine ⟨w1,et,by simp,fun H2 p2 vs2 w2' k2 o2 h2 m1 m2 m3 r2=>?_⟩
  have w2:WAt K C H0 o a H2 ({ st with told:=front }:WS).one:=w2'
  clear w2'
  obtain ⟨sv,q,rfl,rs,rq⟩:=r2.inv
  obtain rfl:=rq.inv0
  have kk:=k1.trans k2
  have oo:=o1.trans o2
  have hi2:=w2.ins
  obtain ⟨tv2,ew2,_⟩:=w2.wai
  fail "R"
  intro p hp
  have s3:=same_new hp (.tup [.str "round",.ref ra,.int ((n:Int) + 1)])
  obtain ⟨w3,k3,o3⟩:=w2.ext s3
  have hi3:=w3.ins
  obtain ⟨tv,ew,rw3⟩:=w3.wai
  have l3:=rw3.length
  have l4:tv.length < sizeLine:=small1000 (by have e:(({ st with told:=front }:WS).one).waiting.length=st.waiting.length:=rfl;rw [l3,e];omega)
  iterate 12 fail "1"
  obtain ⟨w4',k4,o4⟩:=w3.setW (rw3.snoc (Rp.new (K:=K) hp (xs:=[.s "round",foldT (rowT ts) x y b c (arT env),.i ((n:Int) + 1)]) (.cons .s (.cons (g2'.kt kk) (.one .i)))))
  have w4:WAt K C H0 o a _ (({ st with told:=front }:WS).one.wait (roundT (foldT (rowT ts) x y b c (arT env)) (n + 1))):=w4'
  clear w4'
  have k4':=kk.trans (k3.trans k4)
  have o4':=oo.trans (o3.trans o4)
  have y4:=ysq.kt k4'
  have f7':=f7.kt k4'
  have f6':=f6.kt k4'
  have ry':=ry.kt k4'
  have rs':=rs.kt (k3.trans k4)
  generalize upd (upd H2 p (.tup [.str "round",.ref ra,.int ((n:Int) + 1)])) a.lW (.lst (tv++[.ref p]))=H4 at w4 k4 o4 k4' o4' y4 f7' f6' ry' rs' ⊢
  obtain ⟨u,hu,ru⟩:=Rps.get ry' ht
  have ix:atI ys (n:Int)=some u:=atI_nat hu
  have hi4:=w4.ins
  fail "R"
  intro p5 hp5
  have s5:=same_new hp5 (.tup [.str x,.str y])
  have y5:=y4.kt (Kt.same s5)
  fail "R"
  intro p6 hp6
  have s6:=same_new hp6 (.tup [u,sv])
  have s56:=s5.trans s6
  have n5:SqB K true (upd (upd H4 p5 (.tup [.str x,.str y])) p6 (.tup [u,sv])) p5 ([x,y].map V.str):=SqT.of (s6 _ _ upd_same)
  have n6:SqB K true (upd (upd H4 p5 (.tup [.str x,.str y])) p6 (.tup [u,sv])) p6 [u,sv]:=SqT.of upd_same
  have f8:=f7'.same s56
  have r8:Rps K (upd (upd H4 p5 (.tup [.str x,.str y])) p6 (.tup [u,sv])) [t,s] [u,sv]:=.cons (ru.same s56) (.one (rs'.same s56))
  obtain ⟨w6,k6,o6⟩:=w4.ext s56
  have f9:=f6'.same s56
  fail "R"
  intro H7 u7 s7 r7
  obtain ⟨w7,k7,o7⟩:=w6.ext s7
  have hi7:=w7.ins
  have t7:=f9.same s7
  have bw:(({ st with told:=front }:WS).one.wait (roundT (foldT (rowT ts) x y b c (arT env)) (n + 1))).waiting.length < 1000:=by
   show (st.waiting++[_]).length < 1000
   rw [List.length_append]
   have:([roundT (foldT (rowT ts) x y b c (arT env)) (n + 1)]:List T).length=1:=rfl
   omega
  fail "R"
  intro H8 w8 k8 o8
  exact k H8 w8 (k4'.trans (k6.trans (k7.trans k8))) (o4'.trans (o6.trans (o7.trans o8)))
end
end G28
namespace G28
open PySem L2
inductive TaskDo (D:Dfs) (r:T) (st st':WS):Prop
 | beg (h:BegDo r st st')
 | fin (h:EndDo D r st st')
 | rnd (h:RndDo r st st')
inductive Runs (D:Dfs):Nat->WS->WS->Prop
 | done {st:WS}:st.waiting=[]\/st.failed=true->Runs D 0 st st
 | step {n:Nat} {st st1 st':WS} {r:T} {ws:List T}:st.failed=false->st.waiting=ws++[r]->Bd st->TaskDo D r { st with waiting:=ws } st1->Runs D n st1 st'->Runs D (n + 1) st st'
def Ends (K:PySem.W.Frag)(C:Addr)(H0:Hp)(w:Addr)(a:WA)(st':WS)(H':Hp)(u:V):Prop:=(st'.failed=true/\u=.non/\WAt K C H0 w a H' st')\/st'.failed=false/\∃ t,st'.told=[t]/\WAt K C H0 w a H' { st' with told:=[] }/\Rp K H' t u
def spFinish (K:PySem.W.Frag)(C:Addr):Sp:=fun vs H Q _=>∃ (H0:Hp) (w:Addr) (a:WA) (st st':WS) (n:Nat),vs=[.ref w]/\WAt K C H0 w a H st/\Runs a.D n st st'/\(st'.failed=false->∃ t,st'.told=[t]) /\
 ∀ (H':Hp) (u:V),Kt H H'->Oth a H H'->Ends K C H0 w a st' H' u->Q u H'
def FInv (K:PySem.W.Frag)(C:Addr)(H H0:Hp)(w:Addr)(a:WA)(st':WS)(m:Nat)(σ:St)(H':Hp):Prop :=
 (∃ tv dv,σ=[some (.ref w),tv,dv])/\∃ st1,WAt K C H0 w a H' st1/\Kt H H'/\Oth a H H'/\Runs a.D m st1 st'
section
variable {P : Program} {w : World} {K : PySem.W.Frag} {mg : Str → Option Value} {base : Heap} {C : Addr}
variable {gT gB gE : Addr} {tfd bfd efd : FuncData}
structure Tasks (P:Program) (w:World) (K:PySem.W.Frag) (mg:Str->Option Value) (base:Heap) (C:Addr) (kvs:List (Str × V)):Prop where
 term:Deed P w K mg base kvs 5 ["work","task"] "term" (spE (fun _=>BegDo) K C)
 rest:Deed P w K mg base kvs 5 ["work","task"] "rest" (spE EndDo K C)
 round:Deed P w K mg base kvs 5 ["work","task"] "round" (spE (fun _=>RndDo) K C)
theorem Tasks.get {kvs:List (Str × V)}(D:Tasks P w K mg base C kvs){E:Dfs}{r:T}{st st':WS}(h:TaskDo E r st st'):∃ f q R,r=.t (.s f::q)/\R E r st st'/\Deed P w K mg base kvs 5 ["work","task"] f (spE R K C):=by
 cases h with
 | beg h =>
  obtain ⟨q,e⟩:∃ q,r=.t (.s "term"::q):=by cases h <;> exact ⟨_,rfl⟩
  exact ⟨"term",q,fun _=>BegDo,e,h,D.term⟩
 | fin h =>
  obtain ⟨q,e⟩:∃ q,r=.t (.s "rest"::q):=by cases h <;> exact ⟨_,rfl⟩
  exact ⟨"rest",q,EndDo,e,h,D.rest⟩
 | rnd h =>
  obtain ⟨q,e⟩:∃ q,r=.t (.s "round"::q):=by cases h <;> exact ⟨_,rfl⟩
  exact ⟨"round",q,fun _=>RndDo,e,h,D.round⟩
theorem nm_finish:Nm ["work","task","deed"] (defScope s_finish):=by decide +kernel
theorem lm_finish:Lm ["work","task","deed"] (defScope s_finish):=by decide +kernel
theorem sc_finish:FnScope ["work","task","deed"] ["work"] (defScope s_finish):=⟨rfl,rfl,rfl,by decide +kernel,rfl,by decide +kernel,by decide +kernel⟩
theorem ok_finish {f d:Addr}{fd:FuncData}{kvs:List (Str × V)}(F:Fun K "finish" "finish" s_finish f fd)(N:NoA K C)(TK:Tasks P w K mg base C kvs)
  (mTake:HasM P w K mg base C "take" 1 ["self","many"] (spWTake K C) gT tfd) (m_TASKS:mg "TASKS"=some (.ref d)) (kD:KD K w d kvs):FnOk P w K mg base CX0 6 f fd ["work"] (spFinish K C):=by
 refine F.ok sc_finish (fun vs H Q E h=>?_) (fun cdv A outer s H vs Q E hr h=>?_)
 ·obtain ⟨_,_,_,_,_,_,rfl,_⟩:=h
  rfl
 obtain ⟨H0,o,a,st,st',n,rfl,hw,hR,hE,k⟩:=h
 have hT:∀ g sp,(∃ fd,FnOk P w K mg base CX0 5 g fd ["work","task"] sp/\PySem.W.keepIn K (.ref g)=true/\Binds K fd ["work","task"] [])->∃ k fd ps,FnOk P w K mg base CX0 k g fd ps sp/\Room k (A.deeper (PyProof.Rows.envOfC "finish" (defScope s_finish) s.heap.objs.size f cdv))/\PySem.W.keepIn K (.ref g)=true/\Binds K fd ps []:=by
  rintro g sp ⟨fd,h1,h2,h3⟩
  exact ⟨5,_,_,h1,hr,h2,h3⟩
 refine ⟨_,(pss_cons (ps_while PassesOwn.never (PW.pt (pw_and (pt_truth (pe_fld (va nm_finish 0) rfl) (fun _=>rfl)) (pw_and1 (pt_not (pt_truth (pe_fld (va nm_finish 0) rfl) (fun _=>rfl))))))
   (pss_cons (sa sc_finish.nd lm_finish 1 (pe_bm0 PySem.F.plainAttrs_list PySem.F.slot_list_pop PySem.F.type_list_pop mt_pop (pe_fld (va nm_finish 0) rfl)))
  (pss_cons (sa sc_finish.nd lm_finish 2 (pe_kget (pe_glob (by show _=_;kernel_rfl) m_TASKS (show RelV (.ref _) _ from rfl)) (pe_ix ix_tup (va nm_finish 1) pe_int (fun _ _=>rfl)) (fun _ _=>rfl)))
  (pss_one (ps_expr (pe_callV hT (va nm_finish 2) (pa_cons (va nm_finish 0) (pa_cons (va nm_finish 1) pa_nil))))))))
  (pss_one (ps_ret (pe_ifExp (pt_truth (pe_fld (va nm_finish 0) rfl) (fun _=>rfl)) pe_non (pe_ix ix_list (pe_meth (va nm_finish 0) mTake.c mTake.m mTake.ok (hr.mono (by omega)) mTake.bd .nil pass0 (pa_cons pe_int pa_nil)) pe_int (fun _ _=>rfl)))))),?_⟩
 have hc:=N.c
 have n1:=N.waiting
 have n2:=N.failed
 refine ⟨FInv K C H H0 o a st',⟨n,⟨_,_,rfl⟩,st,hw,Kt.refl,Oth.refl,hR⟩,?_⟩
 rintro m σ H1 ⟨⟨tv,dv,rfl⟩,st1,w1,k1,o1,hR1⟩
 have hi:=w1.ins
 obtain ⟨wv,ew,rw1⟩:=w1.wai
 cases hR1 with
 | done hd =>
  obtain ⟨mn,fl,rws,tl,wt⟩:=st'
  cases fl with
  | true =>
   cases wv with
   | nil =>
    fail "R"
    exact k H1 _ k1 o1 (.inl ⟨rfl,rfl,w1⟩)
   | cons v vs =>
    have hne:(!(v::vs).isEmpty)=true:=rfl
    fail "R"
    exact k H1 _ k1 o1 (.inl ⟨rfl,rfl,w1⟩)
  | false =>
   obtain rfl:wt=[]:=by
    rcases hd with hd | hd
    ·exact hd
    ·cases hd
   obtain rfl:=(show Rps K H1 [] wv from rw1).inv0
   obtain ⟨t,et⟩:=hE rfl
   obtain rfl:tl=[t]:=et
   fail "R"
   ·exact vs1 o t
   refine ⟨w1,(by rfl:[t]=[]++[t]),by simp,fun H2 p2 vs2 w2 k2 o2 h2 m1 m2 m3 r2=>?_⟩
   obtain ⟨u,q,rfl,ru,rq⟩:=r2.inv
   obtain rfl:=rq.inv0
   fail "R"
   exact k H2 u (k1.trans k2) (o1.trans o2) (.inr ⟨rfl,t,rfl,w2,ru⟩)
 | @step n' _ st2 _ r ws hf ew' hb ht hr2 =>
  obtain ⟨mn,fl,rws,tl,wt⟩:=st1
  obtain rfl:fl=false:=hf
  obtain rfl:wt=ws++[r]:=ew'
  obtain ⟨us,ul,rfl,r3,r4⟩:=rw1.split
  obtain ⟨u,q,rfl,ru,rq⟩:=r4.inv
  obtain rfl:=rq.inv0
  have hg:(us++[u])[(us++[u]).length - 1]?=some u:=by simp
  have hne:(!(us++[u]).isEmpty)=true:=by simp
  obtain ⟨w2,k2,o2⟩:=w1.setW r3
  have ed:(us++[u]).dropLast=us:=List.dropLast_concat
  rw [←ed] at w2 k2 o2
  obtain ⟨f',q,R,rfl,hR',⟨g,gd,lg,og,kg,bg⟩⟩:=TK.get ht
  have ru':=ru
  obtain ⟨ta,us',rfl,tsq,a0,_⟩:=Rp.hd ru
  have tsq2:=tsq.kt k2
  have ru2:=ru'.kt k2
  have bd2:Bd ⟨mn,false,rws,tl,ws⟩:=⟨hb.r,hb.t,by have:=hb.w;simp only [List.length_append] at this;show ws.length < 900;omega⟩
  fail "R"
  refine ifT hne ?_
  fail "R"
  refine ⟨fun σ' H''=>∃ m',m' < n' + 1/\FInv K C H H0 o a st' m' σ' H'',fun _ _ z=>z,?_⟩
  fail "R"
  intro H3 w3 k3 o3
  exact ⟨n',Nat.lt_succ_self _,⟨_,_,rfl⟩,st2,w3,k1.trans (k2.trans k3),o1.trans (o2.trans o3),hr2⟩
end
end G28
namespace G28
open PySem L2
abbrev Def:=Str × List (Str × T) × T
def defT (d:Def):T:=.t [.s d.1,.t (d.2.1.map pT),d.2.2]
def progT (kd:T)(ds:List Def):T:=.t [kd,.t (ds.map defT)]
def dOf (d:Def):Str × List Str × T:=(d.1,d.2.1.map (·.1),d.2.2)
def AtD0 (K:PySem.W.Frag)(H:Hp)(kvs:List (Key × V))(D:Dfs):Prop:=∀ x:Str,∀ y,lkD D x=some y ->
 ∃ (q ln:Addr) (tv:V),valV kvs (Sum.inr x)=some (.ref q)/\H q=some (.tup [.ref ln,tv])/\H ln=some (.lst (y.1.map V.str))/\Rp K H y.2 tv
theorem lkD_snoc:∀ (D:Dfs) (a:Str × List Str × T) (x:Str),lkD (D++[a]) x=if a.1=x then some a.2 else lkD D x
 | [],a,x=>by simp [lkD]
 | b::r,a,x=>by
  rw [List.cons_append,lkD,lkD_snoc r a x,lkD]
  by_cases c:a.1=x
  ·rw [if_pos c,if_pos c];rfl
  ·rw [if_neg c,if_neg c]
theorem AtD0.same {K:PySem.W.Frag}{H H':Hp}{kvs:List (Key × V)}{D:Dfs}(h:AtD0 K H kvs D)(s:Same H H'):AtD0 K H' kvs D:=fun x y e=>by
 obtain ⟨q,ln,tv,h1,h2,h3,h4⟩:=h x y e
 exact ⟨q,ln,tv,h1,s _ _ h2,s _ _ h3,h4.same s⟩
theorem AtD0.put {K:PySem.W.Frag}{H:Hp}{kvs:List (Key × V)}{D:Dfs}(h:AtD0 K H kvs D){d:Str × List Str × T}{q ln:Addr}{tv:V}(hq:H q=some (.tup [.ref ln,tv]))(hn:H ln=some (.lst (d.2.1.map V.str)))(ht:Rp K H d.2.2 tv):AtD0 K H (putK kvs (Sum.inr d.1) (.ref q)) (D++[d]):=fun x y e=>by
 rw [lkD_snoc] at e
 by_cases c:d.1=x
 ·rw [if_pos c] at e
  cases e
  refine ⟨q,ln,tv,?_,hq,hn,ht⟩
  rw [valV_put,if_pos (by rw [c])]
 ·rw [if_neg c] at e
  obtain ⟨q',ln',tv',h1,h2⟩:=h x y e
  refine ⟨q',ln',tv',?_,h2⟩
  rw [valV_put,if_neg (fun z=>c (by injection z with z;exact z.symm))]
  exact h1
def spInit (K:PySem.W.Frag)(C:Addr):Sp:=fun vs H Q _=>∃ (H0:Hp) (o dx:Addr) (v:V) (kd:T) (ds:List Def),vs=[.ref o,v,.int 200]/\Same H0 H/\H0 o=none/\H o=some (.ins C dx [])/\Rp K H (progT kd ds) v/\ds.length<=900/\(∀ d∈ds,d.2.1.length<=900) /\
 ∀ (H':Hp) (a:WA),WAt K C H0 o a H' ⟨0,false,[],[],[]⟩->Kt H H'->a.D=ds.map dOf->Q .non H'
theorem put_all (dx d lR lT lW:Addr)(D:Dfs):putF "waiting" (.ref lW) (putF "told" (.ref lT) (putF "failed" (.bl false) (putF "rows" (.ref lR) (putF "many" (.int 0) (putF "most" (.int 200) (putF "defs" (.ref d) []))))))=fsOf ⟨dx,d,lR,lT,lW,D⟩ ⟨0,false,[],[],[]⟩:=by kernel_rfl
section
variable {P : Program} {w : World} {K : PySem.W.Frag} {mg : Str → Option Value} {base : Heap} {C : Addr}
theorem nm_Work_init:Nm ["self","program","most"] (defScope s_Work_init):=by decide +kernel
theorem sc_Work_init:FnScope ["self","program","most"] ["self","program","most"] (defScope s_Work_init):=⟨rfl,rfl,rfl,by decide +kernel,rfl,by decide +kernel,by decide +kernel⟩
theorem ok_init {f:Addr}{fd:FuncData}(F:Fun K "__init__" "Work.__init__" s_Work_init f fd)(N:NoA K C):FnOk P w K mg base CX0 1 f fd ["self","program","most"] (spInit K C):=by
 refine F.ok sc_Work_init (fun vs H Q E h=>?_) (fun cdv A outer s H vs Q E hr h=>?_)
 ·obtain ⟨_,_,_,_,_,_,rfl,_⟩:=h
  rfl
 obtain ⟨H0,o,dx,v,kd,ds,rfl,hs,h0,ho,hv,hds,hps,k⟩:=h
 refine ⟨_,(pss_cons (ps_fld (va nm_Work_init 0) (pe_dcompC (defScope s_Work_init) ["self","program","most"] ["name","params","term"] [] rfl rfl rfl (by decide +kernel) (pi_tup (pe_ix ix_tup (va nm_Work_init 1) pe_int (fun _ _=>rfl))) (fun _ _ _ _=>(pg_tupK (n:=3) K rfl rfl (pgs_cons (pg_name (i:=0) (show (["name","params","term"]:List Str).Nodup by decide +kernel) rfl (Or.inl (by kernel_rfl)) (by first | exact .inl rfl | exact .inr (by kernel_rfl))) (pgs_cons (pg_name (i:=1) (show (["name","params","term"]:List Str).Nodup by decide +kernel) rfl (Or.inl (by kernel_rfl)) (by first | exact .inl rfl | exact .inr (by kernel_rfl))) (pgs_cons (pg_name (i:=2) (show (["name","params","term"]:List Str).Nodup by decide +kernel) rfl (Or.inl (by kernel_rfl)) (by first | exact .inl rfl | exact .inr (by kernel_rfl))) pgs_nil))))) (fun _ _ _ _=>pifs_nil) (fun _ _ _ _=>(va (show Nm ["name","params","term"] _ by show _=_;kernel_rfl) 0)) (fun _ _ _ _=>(pe_tup (pa_cons (pe_compC _ ["name","params","term"] ["param","kind"] [] rfl rfl rfl (by kernel_rfl) (pi_tupK K rfl (va (show Nm ["name","params","term"] _ by show _=_;kernel_rfl) 1)) (fun _ _ _ _=>(pg_tupK (n:=2) K rfl rfl (pgs_cons (pg_name (i:=0) (show (["param","kind"]:List Str).Nodup by decide +kernel) rfl (Or.inl (by kernel_rfl)) (by first | exact .inl rfl | exact .inr (by kernel_rfl))) (pgs_cons (pg_name (i:=1) (show (["param","kind"]:List Str).Nodup by decide +kernel) rfl (Or.inl (by kernel_rfl)) (by first | exact .inl rfl | exact .inr (by kernel_rfl))) pgs_nil)))) (fun _ _ _ _=>pifs_nil) (fun _ _ _ _=>(va (show Nm ["param","kind"] _ by show _=_;kernel_rfl) 0))) (pa_cons (va (show Nm ["name","params","term"] _ by show _=_;kernel_rfl) 2) pa_nil))))) rfl)
  (pss_cons (ps_fld (va nm_Work_init 0) (va nm_Work_init 2) rfl)
  (pss_cons (ps_fld (va nm_Work_init 0) pe_int rfl)
  (pss_cons (ps_fld (va nm_Work_init 0) (pe_lst pa_nil) rfl)
  (pss_cons (ps_fld (va nm_Work_init 0) pe_bl rfl)
  (pss_cons (ps_fld (va nm_Work_init 0) (pe_lst pa_nil) rfl)
  (pss_one (ps_fld (va nm_Work_init 0) (pe_lst pa_nil) rfl)))))))),?_⟩
 have hc:=N.c
 have n1:=N.defs
 have n2:=N.most
 have n3:=N.many
 have n4:=N.rows
 have n5:=N.failed
 have n6:=N.told
 have n7:=N.waiting
 obtain ⟨pa,u1,u2,rfl,psq,g1,g2⟩:=hv.t2
 obtain ⟨da,zs,rfl,dsq,r5⟩:=g2.inv_t
 have lz:=r5.length
 rw [List.length_map] at lz
 fail "R"
 refine dcomp_tup (xs:=zs) (fun i σ kvs Hc=>(∃ x y z,σ=[x,y,z])/\Same H Hc/\kvs.length<=i/\AtD0 K Hc kvs ((ds.map dOf).take i)) ⟨⟨_,_,_,rfl⟩,Same.refl _,Nat.le_refl _,fun x y e=>nomatch e⟩ ?_ (small4000 (by omega)) ?_ ?_ ?_
 ·rintro i σ kvs Hc hi ⟨_,_,h,_⟩
  exact h
 ·rintro i σ kvs Hc hi ⟨_,sm,h⟩
  exact dsq.kt (Kt.same sm)
 ·rintro i x σ kvs Hc hx ⟨⟨x0,y0,z0,rfl⟩,sm,hlen,hat⟩
  obtain ⟨y,hy,ry⟩:=r5.get' hx
  rw [List.getElem?_map] at hy
  obtain ⟨d,hp,rfl⟩:=Option.map_eq_some_iff.mp hy
  have hil:i < ds.length:=(List.getElem?_eq_some_iff.mp hp).1
  have ep:ds[i]=d:=(List.getElem?_eq_some_iff.mp hp).2
  have hmem:d∈ds:=ep ▸ List.getElem_mem hil
  have hxs:=hps d hmem
  obtain ⟨fn,ps,t⟩:=d
  obtain ⟨fa,u4,u5,u6,rfl,fsq,g4,g5,g6⟩:=(show Rp K H (.t [.s fn,.t (ps.map pT),t]) x from ry).t3
  obtain rfl:=g4.inv_s
  obtain ⟨xa,xvs,rfl,xsq,xr⟩:=g5.inv_t
  have f3:=fsq.kt (Kt.same sm)
  have x3:=xsq.kt (Kt.same sm)
  fail "R"
  have lx:=xr.length
  rw [List.length_map] at lx
  have hxs':ps.length<=900:=hxs
  refine comp_tup (xs:=xvs) (fun i σ us Hd=>(∃ x y,σ=[x,y])/\Hd=Hc/\us=((ps.map (·.1)).take i).map V.str) ⟨⟨_,_,rfl⟩,rfl,rfl⟩ ?_ (small4000 (by omega)) ?_ ?_ ?_
  ·rintro i σ us Hd hi ⟨_,_,rfl⟩
   rw [List.length_map,List.length_take];omega
  ·rintro i σ us Hd hi ⟨_,rfl,_⟩
   exact xsq.kt (Kt.same sm)
  ·rintro j x σ us Hd hx ⟨⟨x1,y1,rfl⟩,rfl,rfl⟩
   obtain ⟨y,hy,ry⟩:=xr.get' hx
   rw [List.getElem?_map] at hy
   obtain ⟨nm,hp,rfl⟩:=Option.map_eq_some_iff.mp hy
   have hjl:j < (ps.map (·.1)).length:=by rw [List.length_map];exact (List.getElem?_eq_some_iff.mp hp).1
   have ep':(ps.map (·.1))[j]=nm.1:=by rw [List.getElem_map,(List.getElem?_eq_some_iff.mp hp).2]
   obtain ⟨ra,w1,w2,rfl,sq,h1,h2⟩:=(show Rp K H (.t [.s nm.1,nm.2]) x from ry).t2
   obtain rfl:=h1.inv_s
   have sq':=sq.kt (Kt.same sm)
   fail "R"
   rw [List.take_succ_eq_append_getElem hjl,List.map_append,ep']
   rfl
  ·rintro σ us Hd ⟨_,rfl,rfl⟩ p hp
   rw [lx,show (ps.map (·.1)).take ps.length=ps.map (·.1) from List.take_of_length_le (by rw [List.length_map];exact Nat.le_refl _)]
   fail "R"
   intro q hq
   fail "R"
   ·exact (Eq.refl (kV (Sum.inr fn)))
   have npq:p≠q:=fun z=>by subst z;rw [upd_same] at hq;cases hq
   have s2:=(same_new hp (.lst ((ps.map (·.1)).map V.str))).trans (same_new hq (.tup [.ref p,u6]))
   refine ⟨⟨_,_,_,rfl⟩,sm.trans s2,?_,?_⟩
   ·exact Nat.le_trans (putK_len kvs _ _) (by omega)
   ·have hil':i < (ds.map dOf).length:=by rw [List.length_map];exact hil
    rw [List.take_succ_eq_append_getElem hil',List.getElem_map,ep]
    exact AtD0.put (d:=dOf (fn,ps,t)) (hat.same s2) upd_same (by rw [upd_ne npq];exact upd_same) (g6.same (sm.trans s2))
 ·rintro σ kvs Hc ⟨_,sm,hlen,hat⟩ d hd
  rw [lz,show (ds.map dOf).take ds.length=ds.map dOf from List.take_of_length_le (by rw [List.length_map];exact Nat.le_refl _)] at hat
  have s1:=sm.trans (same_new hd (.dK kvs))
  have at1:=hat.same (same_new hd (.dK kvs))
  have d1:upd Hc d (.dK kvs) d=some (.dK kvs):=upd_same
  have od:o≠d:=ne_of_none (sm _ _ ho) hd
  generalize upd Hc d (.dK kvs)=H1 at s1 at1 d1 ⊢
  have o1:=s1 _ _ ho
  fail "R"
  simp only [upd_upd]
  intro lR hR
  have nR:o≠lR:=fun z=>by subst z;rw [upd_same] at hR;cases hR
  fail "R"
  intro lT hT
  have nT:o≠lT:=fun z=>by subst z;rw [upd_same] at hT;cases hT
  fail "R"
  intro lW hW
  have nW:o≠lW:=fun z=>by subst z;rw [upd_same] at hW;cases hW
  fail "R"
  rw [put_all dx d lR lT lW (ds.map dOf)]
  rw [upd_ne nR.symm] at hR
  have nTR:lT≠lR:=fun z=>by subst z;rw [upd_ne nT.symm,upd_ne nT.symm,upd_same] at hT;cases hT
  rw [upd_ne nT.symm,upd_ne nT.symm,upd_ne nTR,upd_ne nT.symm] at hT
  have nWT:lW≠lT:=fun z=>by subst z;rw [upd_ne nW.symm,upd_same] at hW;cases hW
  have nWR:lW≠lR:=fun z=>by subst z;rw [upd_ne nW.symm,upd_ne nWT,upd_ne nW.symm,upd_ne nW.symm,upd_same] at hW;cases hW
  rw [upd_ne nW.symm,upd_ne nWT,upd_ne nW.symm,upd_ne nW.symm,upd_ne nWR,upd_ne nW.symm] at hW
  have old:∀ {x1 x2 x3 x4 x5:HO} b u,b≠o->H1 b=some u->upd (upd (upd (upd (upd (upd (upd (upd H1 o x1) lR (.lst [])) o x2) o x3) lT (.lst [])) o x4) lW (.lst [])) o x5 b=some u:=fun b u hb e=>by
   rw [upd_ne hb,upd_ne (ne_of_none e hW),upd_ne hb,upd_ne (ne_of_none e hT),upd_ne hb,upd_ne hb,upd_ne (ne_of_none e hR),upd_ne hb];exact e
  have hd0:∀ {b:Addr},H1 b=none->H0 b=none:=fun {b} e=>by
   cases q:H0 b with
   | none=>rfl
   | some u=>rw [s1 _ _ (hs _ _ q)] at e;cases e
  have kt:∀ {x1 x2 x3 x4 x5:HO},Kt H1 (upd (upd (upd (upd (upd (upd (upd (upd H1 o x1) lR (.lst [])) o x2) o x3) lT (.lst [])) o x4) lW (.lst [])) o x5):=fun {x1 x2 x3 x4 x5} b ys hb=>by
   rcases hb with hb | ⟨z,hb⟩
   ·exact .inl (old b _ (ne_of hb o1 (fun z=>nomatch z)) hb)
   ·exact .inr ⟨z,old b _ (ne_of hb o1 (fun z=>nomatch z)) hb⟩
  refine k _ ⟨dx,d,lR,lT,lW,ds.map dOf⟩ ⟨fun b u n e=>?_,hd0 hR,hd0 hT,hd0 hW,nWT.symm,nTR.symm,nWR.symm,upd_same,⟨[],?_,.nil⟩,⟨[],?_,.nil⟩,⟨[],?_,.nil⟩,kvs,?_,?_⟩ ((Kt.same s1).trans kt) rfl
  ·exact old b u n (s1 _ _ (hs _ _ e))
  ·show upd _ o _ lR=_
   rw [upd_ne nR.symm,upd_ne nWR.symm,upd_ne nR.symm,upd_ne nTR.symm,upd_ne nR.symm,upd_ne nR.symm];exact upd_same
  ·show upd _ o _ lT=_
   rw [upd_ne nT.symm,upd_ne nWT.symm,upd_ne nT.symm];exact upd_same
  ·show upd _ o _ lW=_
   rw [upd_ne nW.symm];exact upd_same
  ·exact old d _ od.symm d1
  ·intro x y e
   obtain ⟨q,ln,tv,h1,h2,h3,h4⟩:=at1 x y e
   exact ⟨q,ln,tv,h1,SqT.kt kt (SqT.of h2),old ln _ (ne_of h3 o1 (fun z=>nomatch z)) h3,⟨ne_of_none h3 hR,ne_of_none h3 hT,ne_of_none h3 hW⟩,h4.kt kt⟩
end
end G28
namespace G28
open PySem L2
def resT (st:WS):T:=if st.failed=true then .t [.s "fault"] else .t [.s "sheet",.t [st.told.headD .n,.t st.rows],.i st.many]
def spRun (K:PySem.W.Frag):Sp:=fun vs H Q _=>∃ (v:V) (lt:Addr) (b:Bool) (kd:T) (ds:List Def) (d:Def) (ts:List T) (tvs:List V) (st':WS) (n:Nat),vs=[v,.ref lt,.int 200]/\Rp K H (progT kd (ds++[d])) v/\SqB K b H lt tvs/\Rps K H ts tvs/\d.2.1.length=ts.length/\ds.length < 900/\(∀ d'∈ds++[d],d'.2.1.length<=900) /\
 Runs ((ds++[d]).map dOf) n ⟨0,false,[],[],[termT d.2.2 (arT (boundE [] (d.2.1.map (·.1)) ts))]⟩ st'/\(st'.failed=false->∃ t,st'.told=[t]) /\
 ∀ (H':Hp) (u:V),Same H H'->Rp K H' (resT st') u->Q u H'
section
variable {P : Program} {w : World} {K : PySem.W.Frag} {mg : Str → Option Value} {base : Heap} {C : Addr}
variable {gB gF gI gT : Addr} {bfd ffd ifd tfd : FuncData}
theorem nm_run:Nm ["program","inputs","most","work","names","term","thing"] (defScope s_run):=by decide +kernel
theorem lm_run:Lm ["program","inputs","most","work","names","term","thing"] (defScope s_run):=by decide +kernel
theorem sc_run:FnScope ["program","inputs","most","work","names","term","thing"] ["program","inputs","most"] (defScope s_run):=⟨rfl,rfl,rfl,by decide +kernel,rfl,by decide +kernel,by decide +kernel⟩
theorem ok_run {f:Addr}{fd:FuncData}(F:Fun K "run" "run" s_run f fd)(N:NoA K C)(MK:Mk K C gI)(INI:HasM P w K mg base C "__init__" 1 ["self","program","most"] (spInit K C) gI ifd)(m_Work:mg "Work"=some (.ref C))(BT:Has P w K mg base "bound_to" 1 ["around","names","things"] (spBound K) gB bfd)(FI:Has P w K mg base "finish" 6 ["work"] (spFinish K C) gF ffd)
  (mInto:HasM P w K mg base C "go_into" 1 ["self","term","around"] (spGoInto K C) gT tfd) (z_tuple:mg "tuple"=none):FnOk P w K mg base CX0 7 f fd ["program","inputs","most"] (spRun K):=by
 refine F.ok sc_run (fun vs H Q E h=>?_) (fun cdv A outer s H vs Q E hr h=>?_)
 ·obtain ⟨_,_,_,_,_,_,_,_,_,_,rfl,_⟩:=h
  rfl
 obtain ⟨v,lt,b,kd,ds,d,ts,tvs,st',n,rfl,hv,ht,r,hl,hds,hps,hR,hE,k⟩:=h
 refine ⟨_,(pss_cons (sa sc_run.nd lm_run 3 (pe_make MK INI.ok (hr.mono (by omega)) (by show _=_;kernel_rfl) m_Work INI.bd .nil pass0 (pa_cons (va nm_run 0) (pa_cons (va nm_run 2) pa_nil))))
  (pss_cons (ps_asg (pe_dget (hu_of hr) (pe_fld (va nm_run 3) rfl) (pe_ix ix_tup (pe_ix ix_tup (pe_ix ix_tup (va nm_run 0) pe_int (fun _ _=>rfl)) (pe_un un_neg pe_int) (fun _ _=>rfl)) pe_int (fun _ _=>rfl)) (fun _ _=>rfl)) (pg_tupK (n:=2) K rfl rfl (pgs_cons (ga sc_run.nd lm_run 4) (pgs_cons (ga sc_run.nd lm_run 5) pgs_nil))))
  (pss_cons (ps_expr (pe_meth (va nm_run 3) mInto.c mInto.m mInto.ok (hr.mono (by omega)) mInto.bd .nil pass0 (pa_cons (va nm_run 5) (pa_cons (pe_call BT.ok (hr.mono (by omega)) (by show _=_;kernel_rfl) BT.at' BT.kp BT.bd .nil pass0 (pa_cons (pe_tup pa_nil) (pa_cons (va nm_run 4) (pa_cons (va nm_run 1) pa_nil)))) pa_nil))))
  (pss_cons (sa sc_run.nd lm_run 6 (pe_call FI.ok (hr.mono (by omega)) (by show _=_;kernel_rfl) FI.at' FI.kp FI.bd .nil pass0 (pa_cons (va nm_run 3) pa_nil)))
  (pss_cons (ps_if (pt_truth (pe_fld (va nm_run 3) rfl) (fun _=>rfl)) (pss_one (ps_ret (pe_tup (pa_cons pe_str pa_nil)))) pss_nil)
  (pss_one (ps_ret (pe_tup (pa_cons pe_str (pa_cons (pe_tup (pa_cons (va nm_run 6) (pa_cons (pe_callTy call_tuple_of (by show _=_;kernel_rfl) z_tuple PyProof.Rows.boot_tuple (pa_cons (pe_fld (va nm_run 3) rfl) pa_nil)) pa_nil))) (pa_cons (pe_fld (va nm_run 3) rfl) pa_nil))))))))))),?_⟩
 have hc:=N.c
 have n1:=N.defs
 have n2:=N.failed
 have n3:=N.rows
 have n4:=N.many
 obtain ⟨pa,u1,u2,rfl,psq,g1,g2⟩:=id hv.t2
 obtain ⟨da,zs,rfl,dsq,g3⟩:=g2.inv_t
 rw [List.map_append] at g3
 obtain ⟨us,ul,rfl,_,g4⟩:=g3.split
 obtain ⟨u3,q,rfl,g5,g6⟩:=(show Rps K H [defT d] ul from g4).inv
 obtain rfl:=g6.inv0
 obtain ⟨fn,ps,t⟩:=d
 obtain ⟨fa,u4,u5,u6,rfl,fsq,g7,g8,g9⟩:=(show Rp K H (.t [.s fn,.t (ps.map pT),t]) u3 from g5).t3
 obtain rfl:=g7.inv_s
 fail "R"
 intro o dx ho hdx hne
 have s0:Same H (upd (upd H dx (.own o)) o (.ins C dx [])):=(same_new hdx _).trans (same_new (by rw [upd_ne hne.symm];exact ho) _)
 have hds':(ds++[(fn,ps,t)]).length<=900:=by rw [List.length_append];simp;omega
 refine ⟨H,o,dx,_,kd,_,rfl,s0,ho,upd_same,hv.same s0,hds',hps,fun H1 a w1 k1 eD=>⟨rfl,?_⟩⟩
 have hi1:=w1.ins
 have sm1:Same H H1:=fun b u e=>w1.same b u (ne_of_none e ho) e
 have psq1:=psq.kt (Kt.same sm1)
 have dsq1:=dsq.kt (Kt.same sm1)
 have fsq1:=fsq.kt (Kt.same sm1)
 have il:=atI_last us (.ref fa)
 obtain ⟨kvs,dd,dat⟩:=w1.dfs
 rw [eD] at dat
 have lk1:lkD ((ds++[(fn,ps,t)]).map dOf) fn=some (ps.map (·.1),t):=by rw [List.map_append];show lkD (_++[dOf (fn,ps,t)]) fn=_;rw [lkD_snoc];exact if_pos rfl
 obtain ⟨q,ln,tv,v1,v2,v3,v4,v5⟩:=dat fn _ lk1
 have dg:DGet H1 a.dD (.str fn) (some (.ref q)):=by
  have:=DGet.k (k:=Sum.inr fn) dd
  rw [v1] at this
  exact this
 fail "R"
 intro p hp
 have sp:=same_new hp (.tup [])
 obtain ⟨w2,k2,o2⟩:=w1.ext sp
 have e0:Rp K (upd H1 p (.tup [])) (arT []) (.ref p):=Rp.new (K:=K) hp .nil
 have ln2:SqB K false (upd H1 p (.tup [])) ln ((ps.map (·.1)).map V.str):=SqL.of (sp _ _ v3)
 have lt2:=(SqB.same ht sm1).same sp
 have r2:=(r.same sm1).same sp
 have te2:=v5.same sp
 have hi2:=w2.ins
 have hl2:(ps.map (·.1)).length=ts.length:=by rw [List.length_map];exact hl
 have he2:([]:Env).length<=900:=Nat.zero_le _
 have hx2:(ps.map (·.1)).length<=900:=by rw [List.length_map];exact hps (fn,ps,t) (List.mem_append_right _ (.head _))
 fail "R"
 intro H3 u s3 ar3
 obtain ⟨w3,k3,o3⟩:=w2.ext s3
 have hi3:=w3.ins
 have te3:=te2.same s3
 fail "R"
 intro H4 w4 k4 o4
 have hi4:=w4.ins
 rw [←eD] at hR
 fail "R"
 intro H5 u5 k5 o5 hm
 rcases hm with ⟨hf,rfl,w5⟩ | ⟨hf,t5,et5,w5,ru5⟩
 ·have hi5:=w5.ins
  obtain ⟨mn,fl,rws,tl,wts⟩:=st'
  obtain rfl:fl=true:=hf
  fail "R"
  intro q5 hq5
  exact k _ _ (fun b u e=>same_new hq5 _ _ _ (w5.same b u (ne_of_none e ho) e)) (Rp.new (K:=K) hq5 (xs:=[.s "fault"]) (.one .s))
 ·have hi5:=w5.ins
  obtain ⟨mn,fl,rws,tl,wts⟩:=st'
  obtain rfl:fl=false:=hf
  obtain rfl:tl=[t5]:=et5
  obtain ⟨rv,er,rr⟩:=w5.rws
  fail "R"
  refine .inl ⟨SqL.of er,fun q5 hq5=>?_⟩
  have s5:=same_new hq5 (.tup rv)
  have hq:upd H5 q5 (.tup rv) q5=some (.tup rv):=upd_same
  fail "R"
  intro q6 hq6
  obtain ⟨w6,k6,o6⟩:=w5.ext (s5.trans (same_new hq6 (.tup [u5,.ref q5])))
  have hi6:=w6.ins
  fail "R"
  intro q7 hq7
  have r6:Rp K _ (.t [t5,.t rws]) (.ref q6):=Rp.new (K:=K) hq6 (xs:=[t5,.t rws]) (.cons (ru5.same s5) (.one (Rp.t (SqT.of hq) (rr.same s5))))
  exact k _ _ (fun b u e=>same_new hq7 _ _ _ (w6.same b u (ne_of_none e ho) e)) (Rp.new (K:=K) hq7 (xs:=[.s "sheet",.t [t5,.t rws],.i (mn:Int)]) (.cons .s (.cons r6 (.one .i))))
end
end G28
namespace G28
open PySem L2
structure Sm where
 rows:List T
 many:Nat
def Sm.up (s:Sm):Sm:=⟨s.rows,s.many + 1⟩
def Sm.row (s:Sm)(t:T):Sm:=⟨s.rows++[t],s.many⟩
def Sm.ws (s:Sm)(tl W:List T):WS:=⟨s.many,false,s.rows,tl,W⟩
inductive Res where
 | ok (t:T) (s:Sm) | bad (s:Sm)
def Res.sm:Res->Sm
 | .ok _ s=>s
 | .bad s=>s
abbrev Rl:=Tm->Env->Sm->Res->Prop
inductive Oks (R:Rl) (env:Env):List Tm->Sm->List T->Sm->Prop
 | nil {s:Sm}:Oks R env [] s [] s
 | cons {k:Tm} {ks:List Tm} {s s1 s2:Sm} {t:T} {ts:List T}:R k env s (.ok t s1)->Oks R env ks s1 ts s2->Oks R env (k::ks) s (t::ts) s2
inductive Bad1 (R:Rl) (env:Env):List Tm->Sm->Sm->Prop
 | here {k:Tm} {ks:List Tm} {s s1:Sm}:R k env s (.bad s1)->Bad1 R env (k::ks) s s1
 | next {k:Tm} {ks:List Tm} {s s1 s2:Sm} {t:T}:R k env s (.ok t s1)->Bad1 R env ks s1 s2->Bad1 R env (k::ks) s s2
inductive Rds (R:Rl) (c:Tm) (x y:Str) (env:Env):List T->T->Sm->Res->Prop
 | done {t:T} {s:Sm}:Rds R c x y env [] t s (.ok t s)
 | bad {u t:T} {us:List T} {s s1:Sm}:R c (boundE env [x,y] [u,t]) s.up (.bad s1)->Rds R c x y env (u::us) t s (.bad s1)
 | more {u t t1:T} {us:List T} {s s1:Sm} {r:Res}:R c (boundE env [x,y] [u,t]) s.up (.ok t1 s1)->Rds R c x y env us t1 s1 r->Rds R c x y env (u::us) t s r
def wrote (s:Sm)(t:T):Res:=.ok (leftT s.rows.length) (s.row t)
inductive Fin1 (D:Dfs) (R:Rl) (env:Env):Tm->List T->Sm->Res->Prop
 | row {ks:List Tm} {ts:List T} {s:Sm}:Fin1 D R env (.mk .row ks) ts s (.ok (rowT ts) s)
 | tag {t:Str} {ks:List Tm} {ts:List T} {s:Sm}:Fin1 D R env (.mk (.tag t) ks) ts s (.ok (tagT t ts) s)
 | lt {x:Str} {a b:Tm} {t:T} {s:Sm} {r:Res}:env.length<=900->R b (boundE env [x] [t]) s r->Fin1 D R env (.mk (.lt x) [a,b]) [t] s r
 | call {f:Str} {ks:List Tm} {b:Tm} {ts:List T} {ns:List Str} {s:Sm} {r:Res}:lkD D f=some (ns,enc b)->ns.length=ts.length->ns.length<=900->R b (boundE [] ns ts) s.up r->Fin1 D R env (.mk (.call f) ks) ts s r
 | gap {g:Int} {s:Sm}:Fin1 D R env (.mk (.gap g) []) [] s (wrote s (.t [.s "gap",.i g,arT env]))
 | op0 {a b:Tm} {x:T} {s:Sm}:Fin1 D R env (.mk (.op ":") [a,b]) [x,numT 0] s (.bad s)
 | opL {sg:Str} {a b:Tm} {i:Nat} {y:T} {s:Sm}:Nl y->(sg=":"->y≠numT 0)->Fin1 D R env (.mk (.op sg) [a,b]) [leftT i,y] s (wrote s (.t [.s "op",.s sg,leftT i,y]))
 | opR {sg:Str} {a b:Tm} {x:Int} {k:Nat} {s:Sm}:Fin1 D R env (.mk (.op sg) [a,b]) [numT x,leftT k] s (wrote s (.t [.s "op",.s sg,numT x,leftT k]))
 | op {sg:Str} {a b:Tm} {x y:Int} {s:Sm}:sg∈sgs->Nb x->Nb y->(sg=":"->y≠0)->Fin1 D R env (.mk (.op sg) [a,b]) [numT x,numT y] s (.ok (numT (opN sg x y)) s.up)
 | moreL {a b:Tm} {t:T} {k:Nat} {s:Sm}:Fin1 D R env (.mk .more [a,b]) [t,leftT k] s (wrote s (.t [.s "more",t,leftT k]))
 | more {a b:Tm} {t:T} {ts:List T} {s:Sm}:ts.length < 900->Fin1 D R env (.mk .more [a,b]) [t,rowT ts] s (.ok (rowT (t::ts)) s.up)
 | firstL {a:Tm} {k:Nat} {s:Sm}:Fin1 D R env (.mk .first [a]) [leftT k] s (wrote s (.t [.s "first",leftT k]))
 | first0 {a:Tm} {s:Sm}:Fin1 D R env (.mk .first [a]) [rowT []] s (.bad s)
 | first {a:Tm} {t:T} {ts:List T} {s:Sm}:ts.length < 900->Fin1 D R env (.mk .first [a]) [rowT (t::ts)] s (.ok t s.up)
 | othersL {a:Tm} {k:Nat} {s:Sm}:Fin1 D R env (.mk .others [a]) [leftT k] s (wrote s (.t [.s "others",leftT k]))
 | others0 {a:Tm} {s:Sm}:Fin1 D R env (.mk .others [a]) [rowT []] s (.bad s)
 | others {a:Tm} {t:T} {ts:List T} {s:Sm}:ts.length < 900->Fin1 D R env (.mk .others [a]) [rowT (t::ts)] s (.ok (rowT ts) s.up)
 | longL {a:Tm} {k:Nat} {s:Sm}:Fin1 D R env (.mk .long [a]) [leftT k] s (wrote s (.t [.s "long",leftT k]))
 | long {a:Tm} {ts:List T} {s:Sm}:ts.length < 900->Fin1 D R env (.mk .long [a]) [rowT ts] s (.ok (numT ts.length) s.up)
 | matL {arms:List (Str × List Str)} {a:Tm} {ks:List Tm} {k:Nat} {s:Sm}:Fin1 D R env (.mk (.mat arms) (a::ks)) [leftT k] s (wrote s (.t [.s "match",leftT k,.t (List.zipWith armT arms (ks.map enc)),arT env]))
 | mat {arms:List (Str × List Str)} {a b:Tm} {ks:List Tm} {t:Str} {ts:List T} {ns:List Str} {s:Sm} {r:Res}:arms.length=ks.length->arms.length<=900->lkA (List.zipWith (fun (p:Str × List Str) k=>(p.1,p.2,enc k)) arms ks) t=some (ns,enc b)->ns.length=ts.length->env.length<=900->ns.length<=900->R b (boundE env ns ts) s.up r->Fin1 D R env (.mk (.mat arms) (a::ks)) [tagT t ts] s r
 | ifL {a b c:Tm} {k:Nat} {s:Sm}:Fin1 D R env (.mk .ife [a,b,c]) [leftT k] s (wrote s (.t [.s "if",leftT k,enc b,enc c,arT env]))
 | ife {a b c:Tm} {x:Int} {s:Sm} {r:Res}:R (if x=0 then c else b) env s.up r->Fin1 D R env (.mk .ife [a,b,c]) [numT x] s r
 | foldL {x y:Str} {a b c:Tm} {k:Nat} {t:T} {s:Sm}:Fin1 D R env (.mk (.fold x y) [a,b,c]) [leftT k,t] s (wrote s (foldT (leftT k) x y t (enc c) (arT env)))
 | fold {x y:Str} {a b c:Tm} {t:T} {ts:List T} {s:Sm} {r:Res}:ts.length < 900->env.length<=900->Rds R c x y env ts t s r->Fin1 D R env (.mk (.fold x y) [a,b,c]) [rowT ts,t] s r
def kidsA (tm:Tm):List Tm:=tm.ks.take (aheadN tm.hd tm.ks.length)
theorem ahead_kids (tm:Tm):ahead tm=(kidsA tm).map enc:=by unfold ahead kidsA;rw [List.map_take]
structure Oth1 (tm:Tm):Prop where
 wf:Wf tm
 sz:tm.size<=900
 n1:¬ hdS tm.hd="num"
 n2:¬ hdS tm.hd="name"
 ks:(kidsA tm).length<=8
inductive BsS (D:Dfs) (R:Rl):Rl
 | num {n:Int} {env:Env} {s:Sm}:BsS D R (.mk (.num n) []) env s (.ok (numT n) s)
 | name {x:Str} {t:T} {env:Env} {s:Sm}:lkE env x=some t->BsS D R (.mk (.name x) []) env s (.ok t s)
 | bad {tm:Tm} {env:Env} {s s1:Sm}:Oth1 tm->Bad1 R env (kidsA tm) s s1->BsS D R tm env s (.bad s1)
 | fin {tm:Tm} {env:Env} {s s1:Sm} {ts:List T} {r:Res}:Oth1 tm->Oks R env (kidsA tm) s ts s1->Fin1 D R env tm ts s1 r->BsS D R tm env s r
def Bs (D:Dfs):Nat->Rl
 | 0=>fun _ _ _ _=>False
 | h + 1=>BsS D (Bs D h)
abbrev Ex (D:Dfs)(st fin:WS):Prop:=∃ n,Runs D n st fin
def Gx (D:Dfs)(Φ:WS->Prop)(st:WS):Prop:=∃ fin,Φ fin/\Ex D st fin
theorem Gx.failed {D:Dfs}{Φ:WS->Prop}{st:WS}(h:∀ st:WS,st.failed=true->Φ st)(f:st.failed=true):Gx D Φ st:=⟨st,h st f,0,.done (.inr f)⟩
theorem gx1 {D:Dfs}{Φ:WS->Prop}{s:Sm}{tl W:List T}{r:T}{st1:WS}(b1:s.rows.length < 900)(b2:tl.length < 900)(b3:W.length + 1 < 900)(h:TaskDo D r (s.ws tl W) st1)(k:Gx D Φ st1):Gx D Φ (s.ws tl (W++[r])):=by
 obtain ⟨fin,hf,n,k⟩:=k
 exact ⟨fin,hf,n + 1,.step rfl rfl ⟨b1,b2,by show (W++[r]).length < 900;rw [List.length_append];exact b3⟩ h k⟩
def Ev (D:Dfs)(w:Nat)(tm:Tm)(env:Env)(s:Sm)(r:Res):Prop:=∀ (W tl:List T) (Φ:WS->Prop),W.length + w<=800->tl.length + w<=800->(∀ s',r=.bad s'->∀ st:WS,st.failed=true->Φ st)->(∀ t s',r=.ok t s'->Gx D Φ (s'.ws (tl++[t]) W))->Gx D Φ (s.ws tl (W++[termT (enc tm) (arT env)]))
structure Snd1 (D:Dfs) (w:Nat) (tm:Tm) (env:Env) (s:Sm) (r:Res):Prop where
 m:s.many<=r.sm.many
 l:s.rows.length<=r.sm.rows.length
 ev:r.sm.many<=200->r.sm.rows.length<=800->Ev D w tm env s r
def Snd (D:Dfs)(w:Nat)(R:Rl):Prop:=∀ tm env s r,R tm env s r->Snd1 D w tm env s r
theorem oks_mono {D:Dfs}{w:Nat}{R:Rl}(H:Snd D w R){env:Env}{ks:List Tm}{s s':Sm}{ts:List T}(h:Oks R env ks s ts s'):s.many<=s'.many/\s.rows.length<=s'.rows.length/\ts.length=ks.length:=by
 induction h with
 | nil=>exact ⟨Nat.le_refl _,Nat.le_refl _,rfl⟩
 | cons h1 _ ih =>
  have:=H _ _ _ _ h1
  have m:=this.m
  have l:=this.l
  simp only [Res.sm] at m l
  exact ⟨by omega,by omega,by simp [ih.2.2]⟩
theorem bad1_mono {D:Dfs}{w:Nat}{R:Rl}(H:Snd D w R){env:Env}{ks:List Tm}{s s':Sm}(h:Bad1 R env ks s s'):s.many<=s'.many/\s.rows.length<=s'.rows.length:=by
 induction h with
 | here h1=>exact ⟨(H _ _ _ _ h1).m,(H _ _ _ _ h1).l⟩
 | next h1 _ ih =>
  have m:=(H _ _ _ _ h1).m
  have l:=(H _ _ _ _ h1).l
  simp only [Res.sm] at m l
  exact ⟨by omega,by omega⟩
theorem rds_mono {D:Dfs}{w:Nat}{R:Rl}(H:Snd D w R){c:Tm}{x y:Str}{env:Env}{us:List T}{t:T}{s:Sm}{r:Res}(h:Rds R c x y env us t s r):s.many<=r.sm.many/\s.rows.length<=r.sm.rows.length:=by
 induction h with
 | done=>exact ⟨Nat.le_refl _,Nat.le_refl _⟩
 | bad h1 =>
  have m:=(H _ _ _ _ h1).m
  have l:=(H _ _ _ _ h1).l
  simp only [Res.sm,Sm.up] at m l
  exact ⟨by simp only [Res.sm];omega,by simp only [Res.sm];omega⟩
 | more h1 _ ih =>
  have m:=(H _ _ _ _ h1).m
  have l:=(H _ _ _ _ h1).l
  simp only [Res.sm,Sm.up] at m l
  exact ⟨by omega,by omega⟩
theorem ex_oks {D:Dfs}{w:Nat}{R:Rl}(H:Snd D w R){env:Env}{ks:List Tm}{s s':Sm}{ts:List T}(h:Oks R env ks s ts s'):s'.many<=200->s'.rows.length<=800->∀ (W tl:List T) (Φ:WS->Prop),W.length + ks.length + w<=800->tl.length + ks.length + w<=800->Gx D Φ (s'.ws (tl++ts) W)->Gx D Φ (s.ws tl (W++(ks.map enc).reverse.map (fun t=>termT t (arT env)))):=by
 induction h with
 | nil=>intro _ _ W tl Φ _ _ k;simpa using k
 | @cons k ks s s1 s2 t ts h1 h2 ih =>
  intro m l W tl Φ hW hT kk
  have q:=oks_mono H h2
  rw [List.length_cons] at hW hT
  have e:W++((k::ks).map enc).reverse.map (fun t=>termT t (arT env))=(W++(ks.map enc).reverse.map (fun t=>termT t (arT env)))++[termT (enc k) (arT env)]:=by simp
  rw [e]
  refine (H _ _ _ _ h1).ev (by simp only [Res.sm];omega) (by simp only [Res.sm];omega) _ tl Φ (by simp;omega) (by omega) (fun s' e=>by cases e) fun t' s' e=>?_
  cases e
  refine ih m l W (tl++[t]) Φ (by omega) (by simp;omega) ?_
  rw [List.append_assoc]
  exact kk
theorem ex_bad1 {D:Dfs}{w:Nat}{R:Rl}(H:Snd D w R){env:Env}{ks:List Tm}{s s':Sm}(h:Bad1 R env ks s s'):s'.many<=200->s'.rows.length<=800->∀ (W tl:List T) (Φ:WS->Prop),W.length + ks.length + w<=800->tl.length + ks.length + w<=800->(∀ st:WS,st.failed=true->Φ st)->Gx D Φ (s.ws tl (W++(ks.map enc).reverse.map (fun t=>termT t (arT env)))):=by
 induction h with
 | @here k ks s s1 h1 =>
  intro m l W tl Φ hW hT kk
  rw [List.length_cons] at hW hT
  have e:W++((k::ks).map enc).reverse.map (fun t=>termT t (arT env))=(W++(ks.map enc).reverse.map (fun t=>termT t (arT env)))++[termT (enc k) (arT env)]:=by simp
  rw [e]
  exact (H _ _ _ _ h1).ev m l _ tl Φ (by simp;omega) (by omega) (fun _ _=>kk) fun t' s' e=>by cases e
 | @next k ks s s1 s2 t h1 h2 ih =>
  intro m l W tl Φ hW hT kk
  have q:=bad1_mono H h2
  rw [List.length_cons] at hW hT
  have e:W++((k::ks).map enc).reverse.map (fun t=>termT t (arT env))=(W++(ks.map enc).reverse.map (fun t=>termT t (arT env)))++[termT (enc k) (arT env)]:=by simp
  rw [e]
  refine (H _ _ _ _ h1).ev (by simp only [Res.sm];omega) (by simp only [Res.sm];omega) _ tl Φ (by simp;omega) (by omega) (fun s' e=>by cases e) fun t' s' e=>?_
  cases e
  exact ih m l W (tl++[t]) Φ (by omega) (by simp;omega) kk
theorem ex_rds {D:Dfs}{w:Nat}{R:Rl}(H:Snd D w R){c:Tm}{x y:Str}{env:Env}(he:env.length<=900){b:T}{all:List T}(hl:all.length < 900){us:List T}{t:T}{s:Sm}{r:Res}(h:Rds R c x y env us t s r):r.sm.many<=200->r.sm.rows.length<=800->∀ (i:Nat),all.drop i=us->∀ (W tl:List T) (Φ:WS->Prop),W.length + 2 + w<=800->tl.length + 2 + w<=800->(∀ s',r=.bad s'->∀ st:WS,st.failed=true->Φ st)->(∀ t s',r=.ok t s'->Gx D Φ (s'.ws (tl++[t]) W))->Gx D Φ (s.ws (tl++[t]) (W++[roundT (foldT (rowT all) x y b (enc c) (arT env)) i])):=by
 induction h with
 | @done t s =>
  intro m l i hi W tl Φ hW hT _ kk
  have hi':all.length<=i:=by
   have:=congrArg List.length hi
   rw [List.length_drop] at this
   simp at this
   omega
  simp only [Res.sm] at l
  exact gx1 (by omega) (by simp;omega) (by omega) (.rnd (.done hl hi')) (kk _ _ rfl)
 | @bad u t us s s1 h1 =>
  intro m l i hi W tl Φ hW hT kb kk
  have a:=H _ _ _ _ h1
  have am:=a.m
  have al:=a.l
  simp only [Res.sm,Sm.up] at am al m l
  have hu:all[i]?=some u:=by rw [←List.head?_drop,hi];rfl
  refine gx1 (by omega) (by simp;omega) (by omega) (.rnd (.more (t:=u) (s:=t) (front:=tl) hl hu rfl (by show s.many < 200;omega) he)) ?_
  exact a.ev m l (W++[roundT (foldT (rowT all) x y b (enc c) (arT env)) (i + 1)]) tl Φ (by simp;omega) (by omega) kb fun t' s' e=>by cases e
 | @more u t t1 us s s1 r h1 h2 ih =>
  intro m l i hi W tl Φ hW hT kb kk
  have a:=H _ _ _ _ h1
  have am:=a.m
  have al:=a.l
  have q:=rds_mono H h2
  simp only [Res.sm,Sm.up] at am al m l
  have hu:all[i]?=some u:=by rw [←List.head?_drop,hi];rfl
  have hd:all.drop (i + 1)=us:=by rw [←List.drop_drop,hi];rfl
  have q1:s1.many<=r.sm.many:=q.1
  have q2:s1.rows.length<=r.sm.rows.length:=q.2
  have m':r.sm.many<=200:=m
  have l':r.sm.rows.length<=800:=l
  refine gx1 (by omega) (by simp;omega) (by omega) (.rnd (.more (t:=u) (s:=t) (front:=tl) hl hu rfl (by show s.many < 200;omega) he)) ?_
  refine a.ev (by simp only [Res.sm];omega) (by simp only [Res.sm];omega) (W++[roundT (foldT (rowT all) x y b (enc c) (arT env)) (i + 1)]) tl Φ (by simp;omega) (by omega) (fun s' e=>by cases e) fun t' s' e=>?_
  cases e
  exact ih m' l' (i + 1) hd W tl Φ hW hT kb kk
end G28
namespace G28
open PySem L2
theorem fin_go {D:Dfs}{Φ:WS->Prop}{env:Env}{tm:Tm}{s1:Sm}{tl W ts:List T}{st':WS}(o:Oth1 tm)(hl:ts.length=(kidsA tm).length)(b1:s1.rows.length < 900)(b2:(tl++ts).length < 900)(b3:W.length + 1 < 900)(e:End1 D env (enc tm) ts (s1.ws tl W) st')(k:Gx D Φ st'):Gx D Φ (s1.ws (tl++ts) (W++[restT (enc tm) (arT env)])) :=
 gx1 b1 b2 b3 (.fin (.mk (front:=tl) (back:=ts) (st':=st') o.wf o.sz rfl (by rw [ahead_kids,List.length_map];exact hl) e)) k
theorem e_row (ks:List Tm):enc (.mk .row ks)=.t [.s "row",.t (ks.map enc)]:=by rw [enc_mk];rfl
theorem e_tag (t:Str)(ks:List Tm):enc (.mk (.tag t) ks)=.t [.s "tag",.s t,.t (ks.map enc)]:=by rw [enc_mk];rfl
theorem e_call (t:Str)(ks:List Tm):enc (.mk (.call t) ks)=.t [.s "call",.s t,.t (ks.map enc)]:=by rw [enc_mk];rfl
theorem e_lt (x:Str)(a b:Tm):enc (.mk (.lt x) [a,b])=.t [.s "let",.s x,enc a,enc b]:=by rw [enc_mk];rfl
theorem e_gap (g:Int):enc (.mk (.gap g) [])=.t [.s "gap",.i g]:=by rw [enc_mk];rfl
theorem e_num (g:Int):enc (.mk (.num g) [])=numT g:=by rw [enc_mk];rfl
theorem e_name (x:Str):enc (.mk (.name x) [])=.t [.s "name",.s x]:=by rw [enc_mk];rfl
theorem e_op (s:Str)(a b:Tm):enc (.mk (.op s) [a,b])=.t [.s "op",.s s,enc a,enc b]:=by rw [enc_mk];rfl
theorem e_more (a b:Tm):enc (.mk .more [a,b])=.t [.s "more",enc a,enc b]:=by rw [enc_mk];rfl
theorem e_first (a:Tm):enc (.mk .first [a])=.t [.s "first",enc a]:=by rw [enc_mk];rfl
theorem e_others (a:Tm):enc (.mk .others [a])=.t [.s "others",enc a]:=by rw [enc_mk];rfl
theorem e_long (a:Tm):enc (.mk .long [a])=.t [.s "long",enc a]:=by rw [enc_mk];rfl
theorem e_mat (arms:List (Str × List Str))(a:Tm)(ks:List Tm):enc (.mk (.mat arms) (a::ks))=.t [.s "match",enc a,.t (List.zipWith armT arms (ks.map enc))]:=by rw [enc_mk];rfl
theorem e_ife (a b c:Tm):enc (.mk .ife [a,b,c])=.t [.s "if",enc a,enc b,enc c]:=by rw [enc_mk];rfl
theorem e_fold (x y:Str)(a b c:Tm):enc (.mk (.fold x y) [a,b,c])=.t [.s "fold",enc a,.s x,.s y,enc b,enc c]:=by rw [enc_mk];rfl
theorem arms_eq:∀ (arms:List (Str × List Str)) (ks:List Tm),List.zipWith armT arms (ks.map enc)=(List.zipWith (fun (p:Str × List Str) k=>((p.1,p.2,enc k):Arm)) arms ks).map armA
 | [],_=>by simp
 | _::_,[]=>by simp
 | a::r,k::q=>by simp only [List.map_cons,List.zipWith_cons_cons,arms_eq r q];rfl
theorem fin_mono {D:Dfs}{w:Nat}{R:Rl}(H:Snd D w R){env:Env}{tm:Tm}{ts:List T}{s:Sm}{r:Res}(h:Fin1 D R env tm ts s r):s.many<=r.sm.many/\s.rows.length<=r.sm.rows.length:=by
 cases h with
 | lt _ h=>exact ⟨(H _ _ _ _ h).m,(H _ _ _ _ h).l⟩
 | call _ _ _ h=>have m:=(H _ _ _ _ h).m;have l:=(H _ _ _ _ h).l;simp only [Sm.up] at m l;exact ⟨by omega,l⟩
 | mat _ _ _ _ _ _ h=>have m:=(H _ _ _ _ h).m;have l:=(H _ _ _ _ h).l;simp only [Sm.up] at m l;exact ⟨by omega,l⟩
 | ife h=>have m:=(H _ _ _ _ h).m;have l:=(H _ _ _ _ h).l;simp only [Sm.up] at m l;exact ⟨by omega,l⟩
 | fold _ _ h=>exact rds_mono H h
 | _=>simp [Res.sm,wrote,Sm.up,Sm.row]
theorem fin_ex {D:Dfs}{w:Nat}{R:Rl}(H:Snd D w R){env:Env}{tm:Tm}{ts:List T}{s:Sm}{r:Res}(o:Oth1 tm)(hl:ts.length=(kidsA tm).length)(h:Fin1 D R env tm ts s r)(m:r.sm.many<=200)(l:r.sm.rows.length<=800)(W tl:List T)(Φ:WS->Prop)(hW:W.length + 4 + w<=800)(hT:tl.length + 10 + w<=800)(kb:∀ s',r=.bad s'->∀ st:WS,st.failed=true->Φ st)(kk:∀ t s',r=.ok t s'->Gx D Φ (s'.ws (tl++[t]) W)):Gx D Φ (s.ws (tl++ts) (W++[restT (enc tm) (arT env)])):=by
 have mono:=fin_mono H h
 have ho:=o.ks
 have b1:s.rows.length < 900:=by omega
 have b2:(tl++ts).length < 900:=by rw [List.length_append];omega
 have b3:W.length + 1 < 900:=by omega
 cases h with
 | row=>exact fin_go o hl b1 b2 b3 (by rw [e_row];exact .row) (kk _ _ rfl)
 | tag=>exact fin_go o hl b1 b2 b3 (by rw [e_tag];exact .tag) (kk _ _ rfl)
 | lt he h=>exact fin_go o hl b1 b2 b3 (by rw [e_lt];exact .lt he) ((H _ _ _ _ h).ev m l W tl Φ (by omega) (by omega) kb kk)
 | call hd hn hn2 h =>
  have q:=(H _ _ _ _ h).m
  simp only [Sm.up] at q
  exact fin_go o hl b1 b2 b3 (by rw [e_call];exact .call hd (by show s.many < 200;omega) hn hn2) ((H _ _ _ _ h).ev m l W tl Φ (by omega) (by omega) kb kk)
 | gap=>exact fin_go o hl b1 b2 b3 (by rw [e_gap];exact .deed .gap (by decide +kernel) (.gap .mk)) (kk _ _ rfl)
 | op0=>exact fin_go o hl b1 b2 b3 (by rw [e_op];exact .deed .op (by decide +kernel) (.op .fault)) (.failed (kb _ rfl) rfl)
 | opL h1 h2=>exact fin_go o hl b1 b2 b3 (by rw [e_op];exact .deed .op (by decide +kernel) (.op (.left h1 h2))) (kk _ _ rfl)
 | opR=>exact fin_go o hl b1 b2 b3 (by rw [e_op];exact .deed .op (by decide +kernel) (.op .right)) (kk _ _ rfl)
 | op h1 h2 h3 h4 =>
  simp only [Res.sm,Sm.up] at m
  exact fin_go o hl b1 b2 b3 (by rw [e_op];exact .deed .op (by decide +kernel) (.op (.mk h1 h2 h3 h4 (by show s.many < 200;omega)))) (kk _ _ rfl)
 | moreL=>exact fin_go o hl b1 b2 b3 (by rw [e_more];exact .deed (.other (.inl rfl) (by simp)) (by decide +kernel) (.more .left)) (kk _ _ rfl)
 | more h1 =>
  simp only [Res.sm,Sm.up] at m
  exact fin_go o hl b1 b2 b3 (by rw [e_more];exact .deed (.other (.inl rfl) (by simp)) (by decide +kernel) (.more (.mk (by show s.many < 200;omega) h1))) (kk _ _ rfl)
 | firstL=>exact fin_go o hl b1 b2 b3 (by rw [e_first];exact .deed (.other (.inr (.inl rfl)) (by simp)) (by decide +kernel) (.first (.left (.inl rfl)))) (kk _ _ rfl)
 | first0=>exact fin_go o hl b1 b2 b3 (by rw [e_first];exact .deed (.other (.inr (.inl rfl)) (by simp)) (by decide +kernel) (.first (.fault (.inl rfl)))) (.failed (kb _ rfl) rfl)
 | first h1 =>
  simp only [Res.sm,Sm.up] at m
  exact fin_go o hl b1 b2 b3 (by rw [e_first];exact .deed (.other (.inr (.inl rfl)) (by simp)) (by decide +kernel) (.first (.first (by show s.many < 200;omega) h1))) (kk _ _ rfl)
 | othersL=>exact fin_go o hl b1 b2 b3 (by rw [e_others];exact .deed (.other (.inr (.inr (.inl rfl))) (by simp)) (by decide +kernel) (.first (.left (.inr rfl)))) (kk _ _ rfl)
 | others0=>exact fin_go o hl b1 b2 b3 (by rw [e_others];exact .deed (.other (.inr (.inr (.inl rfl))) (by simp)) (by decide +kernel) (.first (.fault (.inr rfl)))) (.failed (kb _ rfl) rfl)
 | others h1 =>
  simp only [Res.sm,Sm.up] at m
  exact fin_go o hl b1 b2 b3 (by rw [e_others];exact .deed (.other (.inr (.inr (.inl rfl))) (by simp)) (by decide +kernel) (.first (.others (by show s.many < 200;omega) h1))) (kk _ _ rfl)
 | longL=>exact fin_go o hl b1 b2 b3 (by rw [e_long];exact .deed (.other (.inr (.inr (.inr rfl))) (by simp)) (by decide +kernel) (.long .left)) (kk _ _ rfl)
 | long h1 =>
  simp only [Res.sm,Sm.up] at m
  exact fin_go o hl b1 b2 b3 (by rw [e_long];exact .deed (.other (.inr (.inr (.inr rfl))) (by simp)) (by decide +kernel) (.long (.mk (by show s.many < 200;omega) h1))) (kk _ _ rfl)
 | matL=>exact fin_go o hl b1 b2 b3 (by rw [e_mat];exact .deed .mat (by decide +kernel) (.mat .left)) (kk _ _ rfl)
 | mat h0 h0' h1 h2 h3 h4 h =>
  have q:=(H _ _ _ _ h).m
  simp only [Sm.up] at q
  exact fin_go o hl b1 b2 b3 (by rw [e_mat,arms_eq];exact .deed .mat (by decide +kernel) (.mat (.mk (by show s.many < 200;omega) h1 h2 h3 h4 (by rw [List.length_zipWith];omega)))) ((H _ _ _ _ h).ev m l W tl Φ (by omega) (by omega) kb kk)
 | ifL=>exact fin_go o hl b1 b2 b3 (by rw [e_ife];exact .deed .ife (by decide +kernel) (.ife .left)) (kk _ _ rfl)
 | @ife a b c x s r h =>
  have q:=(H _ _ _ _ h).m
  simp only [Sm.up] at q
  refine fin_go o hl b1 b2 b3 (by rw [e_ife];exact .deed .ife (by decide +kernel) (.ife (.mk (by show s.many < 200;omega)))) ?_
  have:=(H _ _ _ _ h).ev m l W tl Φ (by omega) (by omega) kb kk
  rw [apply_ite enc] at this
  exact this
 | foldL=>exact fin_go o hl b1 b2 b3 (by rw [e_fold];exact .deed .fold (by decide +kernel) (.fold .left)) (kk _ _ rfl)
 | fold h1 h2 h=>exact fin_go o hl b1 b2 b3 (by rw [e_fold];exact .deed .fold (by decide +kernel) (.fold .mk)) (ex_rds H h2 h1 h m l 0 rfl W tl Φ (by omega) (by omega) kb kk)
theorem snd_step {D:Dfs}{w:Nat}{R:Rl}(H:Snd D w R):Snd D (w + 12) (BsS D R):=by
 intro tm env s r h
 cases h with
 | num =>
  refine ⟨Nat.le_refl _,Nat.le_refl _,fun _ l W tl Φ hW hT _ k=>?_⟩
  rw [e_num]
  exact gx1 (by simp only [Res.sm] at l;omega) (by omega) (by omega) (.beg .num) (k _ _ rfl)
 | name e =>
  refine ⟨Nat.le_refl _,Nat.le_refl _,fun _ l W tl Φ hW hT _ k=>?_⟩
  rw [e_name]
  exact gx1 (by simp only [Res.sm] at l;omega) (by omega) (by omega) (.beg (.name e)) (k _ _ rfl)
 | bad o h =>
  have q:=bad1_mono H h
  have ho:=o.ks
  refine ⟨q.1,q.2,fun m l W tl Φ hW hT kb _=>?_⟩
  simp only [Res.sm] at m l
  refine gx1 (by omega) (by omega) (by omega) (.beg (.other o.wf o.sz o.n1 o.n2 (by rw [ahead_kids,List.length_map];omega))) ?_
  rw [ahead_kids]
  exact ex_bad1 H h m l (W++[restT (enc tm) (arT env)]) tl Φ (by simp;omega) (by omega) (kb _ rfl)
 | @fin tm env s s1 ts r o h f =>
  have q:=oks_mono H h
  have q2:=fin_mono H f
  have ho:=o.ks
  refine ⟨by omega,by omega,fun m l W tl Φ hW hT kb kk=>?_⟩
  refine gx1 (by omega) (by omega) (by omega) (.beg (.other o.wf o.sz o.n1 o.n2 (by rw [ahead_kids,List.length_map];omega))) ?_
  rw [ahead_kids]
  exact ex_oks H h (by omega) (by omega) (W++[restT (enc tm) (arT env)]) tl Φ (by simp;omega) (by omega) (fin_ex H o q.2.2 f m l W tl Φ (by omega) (by omega) kb kk)
theorem snd_all {D:Dfs}:∀ h:Nat,Snd D (12 * h) (Bs D h)
 | 0=>fun _ _ _ _ h=>h.elim
 | h + 1=>snd_step (snd_all h)
theorem run_of {D:Dfs}{h:Nat}{tm:Tm}{env:Env}{r:Res}(hh:h<=60)(b:Bs D h tm env ⟨[],0⟩ r)(m:r.sm.many<=200)(l:r.sm.rows.length<=800):∃ n fin,Runs D n ⟨0,false,[],[],[termT (enc tm) (arT env)]⟩ fin/\(fin.failed=false->∃ t,fin.told=[t])/\(match r with | .ok t s=>fin=⟨s.many,false,s.rows,[t],[]⟩ | .bad _=>fin.failed=true):=by
 cases r with
 | ok t s =>
  obtain ⟨fin,hf,n,k⟩:=(snd_all h _ _ _ _ b).ev m l [] [] (fun x=>x=⟨s.many,false,s.rows,[t],[]⟩) (by simp;omega) (by simp;omega) (fun _ e=>by cases e) fun t' s' e=>by
   cases e
   exact ⟨_,rfl,0,.done (.inl rfl)⟩
  exact ⟨n,fin,k,fun _=>⟨t,by rw [hf]⟩,hf⟩
 | bad s =>
  obtain ⟨fin,hf,n,k⟩:=(snd_all h _ _ _ _ b).ev m l [] [] (fun x=>x.failed=true) (by simp;omega) (by simp;omega) (fun _ _ st h=>h) fun t' s' e=>by cases e
  exact ⟨n,fin,k,fun z=>(by rw [hf] at z;cases z),hf⟩
end G28
namespace G28
open PySem L2
def Un (xs:List Str):Prop:=∀ (i j:Nat) (x:Str),xs[i]?=some x->xs[j]?=some x->i=j
def lets:List Nat:=(Str.ofString "abcdefghijklmnopqrstuvwxyz").cps.toList
theorem lets_un:∀ i < 26,∀ j < 26,lets[i]?=lets[j]?->i=j:=by decide +kernel
theorem lets_len:lets.length=26:=by decide +kernel
def Nmd (pre:List Nat)(d:Int)(i:Nat)(x:Str):Prop:=∃ c r,atI lets ((d + 7 * (i:Int)) % 26)=some c/\x.cps.toList=pre++c::r
theorem Nmd.un {pre:List Nat}{d:Int}{i j:Nat}{x:Str}(hi:i < 26)(hj:j < 26)(a:Nmd pre d i x)(b:Nmd pre d j x):i=j:=by
 obtain ⟨c,r,h1,h2⟩:=a
 obtain ⟨c',r',h3,h4⟩:=b
 rw [h2] at h4
 have e:=List.append_cancel_left h4
 injection e with e _
 subst e
 have f:∀ n:Int,0<=n->n < 26->atI lets n=lets[n.toNat]?:=fun n h0 h=>by
  have hk:n.toNat < lets.length:=by rw [lets_len];omega
  have ek:n=((n.toNat:Nat):Int):=by omega
  have q:atI lets ((n.toNat:Nat):Int)=some lets[n.toNat]:=atI_nat (List.getElem?_eq_getElem hk)
  rw [←ek] at q
  rw [q,List.getElem?_eq_getElem hk]
 rw [f _ (by omega) (by omega)] at h1 h3
 have:=lets_un _ (by omega) _ (by omega) (h1.trans h3.symm)
 omega
theorem Nmd.snoc {pre:List Nat}{d:Int}{i:Nat}{x:Str}(a:Nmd pre d i x)(y:Str):Nmd pre d i (x++y):=by
 obtain ⟨c,r,h1,h2⟩:=a
 refine ⟨c,r++y.cps.toList,h1,?_⟩
 show (x.cps++y.cps).toList=_
 rw [Array.toList_append,h2]
 simp
theorem Nmd.uns {pre:List Nat}{d:Int}{xs:List Str}(hl:xs.length<=26)(h:∀ j x,xs[j]?=some x->Nmd pre d j x):Un xs:=fun i j x ei ej=>by
 have:=(List.getElem?_eq_some_iff.mp ei).1
 have:=(List.getElem?_eq_some_iff.mp ej).1
 exact Nmd.un (by omega) (by omega) (h i x ei) (h j x ej)
theorem Nmd.last {pre:List Nat}{d:Int}{xs:List Str}{x2 x1 y:Str}(hl:(xs++[x2,x1]).length<=26)(hy:0 < y.length)(h:∀ j x,(xs++[x2,x1])[j]?=some x->Nmd pre d j x):Un (xs++[x2,x2++y]):=by
 have hl':xs.length + 2<=26:=by simpa using hl
 have e2:Nmd pre d xs.length x2:=h xs.length x2 (by simp)
 have e3:Nmd pre d xs.length (x2++y):=e2.snoc y
 have ne:x2++y≠x2:=fun z=>by
  have:=congrArg Str.length z
  rw [strLen_append] at this
  omega
 have old:∀ j x,j < xs.length + 1->(xs++[x2,x2++y])[j]?=some x->Nmd pre d j x:=fun j x hj e=>by
  refine h j x ?_
  by_cases c:j < xs.length
  ·rw [List.getElem?_append_left c] at e ⊢;exact e
  ·have:j=xs.length:=by omega
   subst this
   simp at e ⊢
   exact e
 intro i j x ei ej
 have li:=(List.getElem?_eq_some_iff.mp ei).1
 have lj:=(List.getElem?_eq_some_iff.mp ej).1
 have ll:(xs++[x2,x2++y]).length=xs.length + 2:=by simp
 rw [ll] at li lj
 have lst:∀ k x,k=xs.length + 1->(xs++[x2,x2++y])[k]?=some x->x=x2++y:=fun k x hk e=>by
  subst hk
  rw [List.getElem?_append_right (by omega)] at e
  simp at e
  exact e.symm
 by_cases ci:i < xs.length + 1
 ·by_cases cj:j < xs.length + 1
  ·exact Nmd.un (by omega) (by omega) (old i x ci ei) (old j x cj ej)
  ·have hx:=lst j x (by omega) ej
   subst hx
   have:=Nmd.un (by omega) (by omega) (old i _ ci ei) e3
   subst this
   exact absurd (by simpa using ei) ne.symm
 ·by_cases cj:j < xs.length + 1
  ·have hx:=lst i x (by omega) ei
   subst hx
   have:=Nmd.un (by omega) (by omega) (old j _ cj ej) e3
   subst this
   exact absurd (by simpa using ej) ne.symm
  ·omega
def Lo (x:Str):Prop:=∀ c∈x.cps.toList,c < 1000
theorem Lo.append {x y:Str}(a:Lo x)(b:Lo y):Lo (x++y):=fun c h=>by
 have h':c∈(x.cps++y.cps).toList:=h
 rw [Array.toList_append] at h'
 rcases List.mem_append.mp h' with h | h
 ·exact a c h
 ·exact b c h
theorem Lo.slice {x:Str}(a:Lo x)(l u:Option Int):Lo (Txt.slice x l u):=fun c h=>by
 unfold Txt.slice at h
 split at h
 ·exact a c h
 ·rw [List.toList_toArray] at h
  obtain ⟨i,_,e⟩:=List.mem_filterMap.mp h
  refine a c ?_
  rw [Array.mem_toList_iff]
  exact Array.mem_of_getElem? e
theorem lets_lo:∀ c∈lets,c < 1000:=by decide +kernel
theorem Lo.one {c:Nat}(h:c∈lets):Lo ⟨#[c]⟩:=fun d hd=>by
 have:d=c:=by simpa using hd
 rw [this]
 exact lets_lo c h
theorem Lo.q (b:Bool):Lo (Txt.mul "q" (if b then 1 else 0)):=by
 have h:∀ b:Bool,((Txt.mul "q" (if b then 1 else 0)).cps.toList.all (· < 1000))=true:=by decide +kernel
 intro c hc
 have:=List.all_eq_true.mp (h b) c hc
 simpa using this
theorem Lo.q1:Lo (Str.ofString "q"):=by
 have h:((Str.ofString "q").cps.toList.all (· < 1000))=true:=by decide +kernel
 intro c hc
 have:=List.all_eq_true.mp h c hc
 simpa using this
def spNames:Sp:=fun vs H Q _=>∃ (f:Addr) (m:Nat),vs=[.ref f,.int m]/\1<=m/\m<=26/\FeedAt H f /\
 ∀ (r:Addr) (H':Hp) (xs:List Str),Ext f H H'->H r=none->H' r=some (.lst (xs.map V.str))->xs.length=m->(∀ x∈xs,x.length<=20/\Lo x)->Un xs->Q (.ref r) H'
theorem Ext.free {f:Addr}{H H':Hp}(e:Ext f H H'){l:Addr}(h:H' l=none):H l=none:=by
 cases q:H l with
 | none=>rfl
 | some o =>
  by_cases n:l=f
  ·subst n;obtain ⟨a,b,z⟩:=e.2;rw [h] at z;cases z
  ·rw [e.1 l o n q] at h;cases h
end G28
namespace G28
open PySem L2
theorem Oks.imp {R R':Rl}(hR:∀ a b c d,R a b c d->R' a b c d){env:Env}{ks:List Tm}{s s':Sm}{ts:List T}(h:Oks R env ks s ts s'):Oks R' env ks s ts s':=by
 induction h with
 | nil=>exact .nil
 | cons a _ ih=>exact .cons (hR _ _ _ _ a) ih
theorem Bad1.imp {R R':Rl}(hR:∀ a b c d,R a b c d->R' a b c d){env:Env}{ks:List Tm}{s s':Sm}(h:Bad1 R env ks s s'):Bad1 R' env ks s s':=by
 induction h with
 | here a=>exact .here (hR _ _ _ _ a)
 | next a _ ih=>exact .next (hR _ _ _ _ a) ih
theorem Rds.imp {R R':Rl}(hR:∀ a b c d,R a b c d->R' a b c d){c:Tm}{x y:Str}{env:Env}{us:List T}{t:T}{s:Sm}{r:Res}(h:Rds R c x y env us t s r):Rds R' c x y env us t s r:=by
 induction h with
 | done=>exact .done
 | bad a=>exact .bad (hR _ _ _ _ a)
 | more a _ ih=>exact .more (hR _ _ _ _ a) ih
theorem Fin1.imp {D:Dfs}{R R':Rl}(hR:∀ a b c d,R a b c d->R' a b c d){env:Env}{tm:Tm}{ts:List T}{s:Sm}{r:Res}(h:Fin1 D R env tm ts s r):Fin1 D R' env tm ts s r:=by
 cases h with
 | lt a b=>exact .lt a (hR _ _ _ _ b)
 | call a b c d=>exact .call a b c (hR _ _ _ _ d)
 | mat a b c d e f g=>exact .mat a b c d e f (hR _ _ _ _ g)
 | ife a=>exact .ife (hR _ _ _ _ a)
 | fold a b c=>exact .fold a b (c.imp hR)
 | row=>exact .row
 | tag=>exact .tag
 | gap=>exact .gap
 | op0=>exact .op0
 | opL a b=>exact .opL a b
 | opR=>exact .opR
 | op a b c d=>exact .op a b c d
 | moreL=>exact .moreL
 | more a=>exact .more a
 | firstL=>exact .firstL
 | first0=>exact .first0
 | first a=>exact .first a
 | othersL=>exact .othersL
 | others0=>exact .others0
 | others a=>exact .others a
 | longL=>exact .longL
 | long a=>exact .long a
 | matL=>exact .matL
 | ifL=>exact .ifL
 | foldL=>exact .foldL
theorem BsS.imp {D:Dfs}{R R':Rl}(hR:∀ a b c d,R a b c d->R' a b c d){tm:Tm}{env:Env}{s:Sm}{r:Res}(h:BsS D R tm env s r):BsS D R' tm env s r:=by
 cases h with
 | num=>exact .num
 | name e=>exact .name e
 | bad o b=>exact .bad o (b.imp hR)
 | fin o k f=>exact .fin o (k.imp hR) (f.imp hR)
theorem Bs.succ {D:Dfs}:∀ (h:Nat) {tm:Tm} {env:Env} {s:Sm} {r:Res},Bs D h tm env s r->Bs D (h + 1) tm env s r
 | 0,_,_,_,_,b=>b.elim
 | h + 1,_,_,_,_,b=>BsS.imp (fun _ _ _ _=>Bs.succ h) b
theorem Bs.add {D:Dfs}{h:Nat}{tm:Tm}{env:Env}{s:Sm}{r:Res}(b:Bs D h tm env s r):∀ k,Bs D (h + k) tm env s r
 | 0=>b
 | k + 1=>Bs.succ _ (b.add k)
theorem Bs.le {D:Dfs}{h h':Nat}{tm:Tm}{env:Env}{s:Sm}{r:Res}(b:Bs D h tm env s r)(l:h<=h'):Bs D h' tm env s r:=by
 have:=b.add (h' - h)
 rwa [show h + (h' - h)=h' by omega] at this
theorem ka_all {hd:Hd}{ks:List Tm}(a:¬ hdS hd="fold")(b:¬ hdS hd∈mil):kidsA (.mk hd ks)=ks:=by
 show List.take (aheadN hd ks.length) ks=ks
 rw [an_all _ a b]
 exact List.take_length
theorem ka_one {hd:Hd}{k:Tm}{ks:List Tm}(a:¬ hdS hd="fold")(b:hdS hd∈mil):kidsA (.mk hd (k::ks))=[k]:=by
 show List.take (aheadN hd (k::ks).length) (k::ks)=[k]
 rw [an_one _ a b]
 rfl
theorem ka_fold {x y:Str}{a b c:Tm}:kidsA (.mk (.fold x y) [a,b,c])=[a,b]:=by
 show List.take (aheadN (.fold x y) 3) [a,b,c]=[a,b]
 rw [an_fold _ rfl]
 rfl
theorem ka_op {s:Str}{ks:List Tm}:kidsA (.mk (.op s) ks)=ks:=ka_all (by show ¬ ("op":Str)="fold";decide +kernel) (by show ¬ ("op":Str)∈mil;decide +kernel)
theorem ka_row {ks:List Tm}:kidsA (.mk .row ks)=ks:=ka_all (by show ¬ ("row":Str)="fold";decide +kernel) (by show ¬ ("row":Str)∈mil;decide +kernel)
theorem ka_more {ks:List Tm}:kidsA (.mk .more ks)=ks:=ka_all (by show ¬ ("more":Str)="fold";decide +kernel) (by show ¬ ("more":Str)∈mil;decide +kernel)
theorem ka_first {ks:List Tm}:kidsA (.mk .first ks)=ks:=ka_all (by show ¬ ("first":Str)="fold";decide +kernel) (by show ¬ ("first":Str)∈mil;decide +kernel)
theorem ka_others {ks:List Tm}:kidsA (.mk .others ks)=ks:=ka_all (by show ¬ ("others":Str)="fold";decide +kernel) (by show ¬ ("others":Str)∈mil;decide +kernel)
theorem ka_long {ks:List Tm}:kidsA (.mk .long ks)=ks:=ka_all (by show ¬ ("long":Str)="fold";decide +kernel) (by show ¬ ("long":Str)∈mil;decide +kernel)
theorem ka_tag {t:Str}{ks:List Tm}:kidsA (.mk (.tag t) ks)=ks:=ka_all (by show ¬ ("tag":Str)="fold";decide +kernel) (by show ¬ ("tag":Str)∈mil;decide +kernel)
theorem ka_call {t:Str}{ks:List Tm}:kidsA (.mk (.call t) ks)=ks:=ka_all (by show ¬ ("call":Str)="fold";decide +kernel) (by show ¬ ("call":Str)∈mil;decide +kernel)
theorem ka_gap {g:Int}{ks:List Tm}:kidsA (.mk (.gap g) ks)=ks:=ka_all (by show ¬ ("gap":Str)="fold";decide +kernel) (by show ¬ ("gap":Str)∈mil;decide +kernel)
theorem ka_mat {arms:List (Str × List Str)}{k:Tm}{ks:List Tm}:kidsA (.mk (.mat arms) (k::ks))=[k]:=ka_one (by show ¬ ("match":Str)="fold";decide +kernel) (by show ("match":Str)∈mil;decide +kernel)
theorem ka_ife {k:Tm}{ks:List Tm}:kidsA (.mk .ife (k::ks))=[k]:=ka_one (by show ¬ ("if":Str)="fold";decide +kernel) (by show ("if":Str)∈mil;decide +kernel)
theorem ka_lt {x:Str}{k:Tm}{ks:List Tm}:kidsA (.mk (.lt x) (k::ks))=[k]:=ka_one (by show ¬ ("let":Str)="fold";decide +kernel) (by show ("let":Str)∈mil;decide +kernel)
def NmOk (x:Str):Prop:=x.length<=20/\Lo x
def hdLo:Hd->Prop
 | .num n=>n.natAbs < 2 ^ 20
 | .gap n=>n.natAbs < 2 ^ 20
 | .name x=>NmOk x
 | .op x=>NmOk x
 | .tag x=>NmOk x
 | .call x=>NmOk x
 | .mat arms=>∀ a∈arms,NmOk a.1/\a.2.length<=2/\∀ x∈a.2,NmOk x
 | .lt x=>NmOk x
 | .fold x y=>NmOk x/\NmOk y
 | _=>True
inductive TmLo:Tm->Prop
 | mk {h:Hd} {ks:List Tm}:hdLo h->(∀ k∈ks,TmLo k)->TmLo (.mk h ks)
structure Nice (n:Nat) (tm:Tm):Prop where
 wf:Wf tm
 sz:tm.size<=n
 lo:TmLo tm
theorem Nice.le {n m:Nat}{tm:Tm}(h:Nice n tm)(l:n<=m):Nice m tm:=⟨h.wf,Nat.le_trans h.sz l,h.lo⟩
theorem nice0 {hd:Hd}(a:arOk hd 0=true)(b:hdLo hd):Nice 1 (.mk hd []):=⟨.mk a (fun _ h=>nomatch h),Nat.le_refl _,.mk b (fun _ h=>nomatch h)⟩
theorem nice1 {n:Nat}{hd:Hd}{x:Tm}(a:arOk hd 1=true)(b:hdLo hd)(hx:Nice n x):Nice (n + 1) (.mk hd [x]) :=
 ⟨.mk a fun k h=>(by rw [List.mem_singleton.mp h];exact hx.wf),by simp only [Tm.size,Tm.sizes];have:=hx.sz;omega,.mk b fun k h=>(by rw [List.mem_singleton.mp h];exact hx.lo)⟩
theorem nice2 {n m:Nat}{hd:Hd}{x y:Tm}(a:arOk hd 2=true)(b:hdLo hd)(hx:Nice n x)(hy:Nice m y):Nice (n + m + 1) (.mk hd [x,y]) :=
 ⟨.mk a fun k h=>(by rcases List.mem_cons.mp h with rfl | h;exact hx.wf;rw [List.mem_singleton.mp h];exact hy.wf),by simp only [Tm.size,Tm.sizes];have:=hx.sz;have:=hy.sz;omega,
  .mk b fun k h=>(by rcases List.mem_cons.mp h with rfl | h;exact hx.lo;rw [List.mem_singleton.mp h];exact hy.lo)⟩
theorem nice3 {n m p:Nat}{hd:Hd}{x y z:Tm}(a:arOk hd 3=true)(b:hdLo hd)(hx:Nice n x)(hy:Nice m y)(hz:Nice p z):Nice (n + m + p + 1) (.mk hd [x,y,z]) :=
 ⟨.mk a fun k h=>(by rcases List.mem_cons.mp h with rfl | h;exact hx.wf;rcases List.mem_cons.mp h with rfl | h;exact hy.wf;rw [List.mem_singleton.mp h];exact hz.wf),by simp only [Tm.size,Tm.sizes];have:=hx.sz;have:=hy.sz;have:=hz.sz;omega,
  .mk b fun k h=>(by rcases List.mem_cons.mp h with rfl | h;exact hx.lo;rcases List.mem_cons.mp h with rfl | h;exact hy.lo;rw [List.mem_singleton.mp h];exact hz.lo)⟩
section
variable {D : Dfs} {h : Nat} {tm : Tm} {env : Env} {s s1 s2 s3 : Sm} {k k1 k2 : Tm} {t t1 t2 : T} {r : Res}
theorem bs0 (o:Oth1 tm)(e:kidsA tm=[])(f:Fin1 D (Bs D h) env tm [] s r):Bs D (h + 1) tm env s r:=.fin o (by rw [e];exact .nil) f
theorem bs1 (o:Oth1 tm)(e:kidsA tm=[k])(a:Bs D h k env s (.ok t s1))(f:Fin1 D (Bs D h) env tm [t] s1 r):Bs D (h + 1) tm env s r:=.fin o (by rw [e];exact .cons a .nil) f
theorem bs2 (o:Oth1 tm)(e:kidsA tm=[k1,k2])(a:Bs D h k1 env s (.ok t1 s1))(b:Bs D h k2 env s1 (.ok t2 s2))(f:Fin1 D (Bs D h) env tm [t1,t2] s2 r):Bs D (h + 1) tm env s r:=.fin o (by rw [e];exact .cons a (.cons b .nil)) f
theorem bsB1 {ks:List Tm}(o:Oth1 tm)(e:kidsA tm=k::ks)(a:Bs D h k env s (.bad s1)):Bs D (h + 1) tm env s (.bad s1):=.bad o (by rw [e];exact .here a)
theorem bsB2 {ks:List Tm}(o:Oth1 tm)(e:kidsA tm=k1::k2::ks)(a:Bs D h k1 env s (.ok t1 s1))(b:Bs D h k2 env s1 (.bad s2)):Bs D (h + 1) tm env s (.bad s2):=.bad o (by rw [e];exact .next a (.here b))
end
end G28
namespace G28
open PySem L2
abbrev num (n:Int):Tm:=.mk (.num n) []
abbrev gap (n:Int):Tm:=.mk (.gap n) []
abbrev name (x:Str):Tm:=.mk (.name x) []
inductive Ot:Bool->Tm->Prop
 | gap {b:Bool} {g:Int}:g.natAbs < 2 ^ 20->Ot b (gap g)
 | num {n:Int}:1<=n->n < 1000000->Ot false (num n)
 | row {n:Int}:Nb n->Ot true (.mk .row [num n])
def Gr (c:Nat)(s s':Sm):Prop:=s'.many<=s.many + c/\s'.rows.length<=s.rows.length + c
theorem Gr.refl {s:Sm}:Gr 0 s s:=⟨Nat.le_refl _,Nat.le_refl _⟩
theorem Gr.trans {c d:Nat}{s s1 s2:Sm}(a:Gr c s s1)(b:Gr d s1 s2):Gr (c + d) s s2:=⟨by have:=a.1;have:=b.1;omega,by have:=a.2;have:=b.2;omega⟩
theorem Gr.le {c d:Nat}{s s1:Sm}(a:Gr c s s1)(h:c<=d):Gr d s s1:=⟨by have:=a.1;omega,by have:=a.2;omega⟩
theorem Gr.up {s:Sm}:Gr 1 s s.up:=⟨Nat.le_refl _,Nat.le_succ _⟩
theorem Gr.row {s:Sm}{t:T}:Gr 1 s (s.row t):=⟨Nat.le_succ _,by show (s.rows++[t]).length<=_;rw [List.length_append];exact Nat.le_refl _⟩
theorem nb20 {n:Int}(h:Nb n):n.natAbs < 2 ^ 20:=by
 have:=h.1
 have:=h.2
 have e:(2:Nat) ^ 20=1048576:=by decide
 omega
theorem nice_num {n:Int}(h:Nb n):Nice 1 (num n):=nice0 rfl (nb20 h)
theorem Ot.nice {b:Bool}{o:Tm}(h:Ot b o):Nice 2 o:=by
 cases h with
 | gap h=>exact (nice0 (hd:=.gap _) rfl h).le (by decide)
 | num h1 h2=>exact (nice_num ⟨by omega,h2⟩).le (by decide)
 | row h=>exact nice1 rfl trivial (nice_num h)
inductive N1:T->Prop
 | left {k:Nat}:N1 (leftT k)
 | num {n:Int}:1<=n->n < 1000000->N1 (numT n)
inductive R1:T->Prop
 | left {k:Nat}:R1 (leftT k)
 | row {ts:List T}:ts.length<=5->(∀ t∈ts,Nl t)->R1 (rowT ts)
theorem N1.nl {t:T}(h:N1 t):Nl t:=by
 cases h with
 | left=>exact .left
 | num a b=>exact .num ⟨by omega,b⟩
theorem N1.ne0 {t:T}(h:N1 t):t≠numT 0:=by
 cases h with
 | left=>intro e;simp [leftT,numT] at e;exact absurd e.1 (by decide +kernel)
 | num a b=>intro e;simp [numT] at e;omega
section
variable {D : Dfs} {R : Rl} {h c e n : Nat} {env : Env} {s : Sm}
theorem o_gap {g:Int}(hg:g.natAbs < 2 ^ 20):Oth1 (gap g):=⟨(nice0 (hd:=.gap g) rfl hg).wf,(show 0 + 1<=900 by decide),by show ¬ ("gap":Str)="num";decide +kernel,by show ¬ ("gap":Str)="name";decide +kernel,by rw [ka_gap];exact (show 0<=8 by decide)⟩
theorem ev_gap {g:Int}(hg:g.natAbs < 2 ^ 20):Bs D (h + 1) (gap g) env s (.ok (leftT s.rows.length) (s.row (.t [.s "gap",.i g,arT env]))):=bs0 (o_gap hg) ka_gap .gap
theorem ev_num {x:Int}:Bs D (h + 1) (num x) env s (.ok (numT x) s):=.num
theorem oth_of {hd:Hd}{ks:List Tm}(N:Nice n (.mk hd ks))(hn:n<=900)(n1:¬ hdS hd="num")(n2:¬ hdS hd="name")(k:(kidsA (.mk hd ks)).length<=8):Oth1 (.mk hd ks):=⟨N.wf,Nat.le_trans N.sz hn,n1,n2,k⟩
theorem oth_ev0 {o:Tm}(ho:Ot false o):∃ t s',N1 t/\Bs D (h + 2) o env s (.ok t s')/\Gr 1 s s':=by
 cases ho with
 | gap hg=>exact ⟨_,_,.left,ev_gap (h:=h + 1) hg,Gr.row⟩
 | num a b=>exact ⟨_,_,.num a b,ev_num (h:=h + 1),Gr.refl.le (by decide)⟩
theorem ev_row1 {k:Tm}{t:T}{s':Sm}(N:Nice n (.mk .row [k]))(hn:n<=900)(b:Bs D h k env s (.ok t s')):Bs D (h + 1) (.mk .row [k]) env s (.ok (rowT [t]) s'):=bs1 (oth_of N hn (by show ¬ ("row":Str)="num";decide +kernel) (by show ¬ ("row":Str)="name";decide +kernel) (by rw [ka_row];exact (show 1<=8 by decide))) ka_row b .row
theorem oth_ev1 {o:Tm}(ho:Ot true o):∃ t s',R1 t/\Bs D (h + 2) o env s (.ok t s')/\Gr 1 s s':=by
 cases ho with
 | gap hg=>exact ⟨_,_,.left,ev_gap (h:=h + 1) hg,Gr.row⟩
 | row b=>exact ⟨_,_,.row (ts:=[_]) (by show 1<=5;decide) (fun t ht=>by rw [List.mem_singleton.mp ht];exact .num b),ev_row1 (h:=h + 1) (nice1 rfl trivial (nice_num b)) (by decide) (ev_num (h:=h)),Gr.refl.le (by decide)⟩
theorem fin_op {sg:Str}{a b:Tm}{t u:T}(hs:sg∈sgs)(ht:Nl t)(hu:Nl u)(h0:sg=":"->u≠numT 0):∃ t' s',Nl t'/\Fin1 D R env (.mk (.op sg) [a,b]) [t,u] s (.ok t' s')/\Gr 1 s s':=by
 cases ht with
 | left=>exact ⟨_,_,.left,.opL hu h0,Gr.row⟩
 | @num x hx =>
  cases hu with
  | left=>exact ⟨_,_,.left,.opR,Gr.row⟩
  | @num y hy =>
   have hy0:sg=":"->y≠0:=fun e z=>h0 e (by rw [z])
   exact ⟨_,_,.num (opN_nb hx hy hy0),.op hs hx hy hy0,Gr.up⟩
theorem nb_len {ts:List T}(h:ts.length<=900):Nb (ts.length:Int):=⟨by omega,by omega⟩
theorem fin_long {a:Tm}{t:T}(ht:R1 t):∃ t' s',Nl t'/\Fin1 D R env (.mk .long [a]) [t] s (.ok t' s')/\Gr 1 s s':=by
 cases ht with
 | left=>exact ⟨_,_,.left,.longL,Gr.row⟩
 | row h1 h2=>exact ⟨_,_,.num (nb_len (by omega)),.long (by omega),Gr.up⟩
theorem fin_more {a b:Tm}{t u:T}(ht:Nl t)(hu:R1 u)(hl:∀ ts,u=rowT ts->ts.length<=4):∃ t' s',R1 t'/\Fin1 D R env (.mk .more [a,b]) [t,u] s (.ok t' s')/\Gr 1 s s':=by
 cases hu with
 | left=>exact ⟨_,_,.left,.moreL,Gr.row⟩
 | @row ts h1 h2=>exact ⟨_,_,.row (ts:=t::ts) (by have:=hl ts rfl;simp;omega) (fun x hx=>by rcases List.mem_cons.mp hx with rfl | hx;exact ht;exact h2 x hx),.more (by omega),Gr.up⟩
end
structure Out (D:Dfs) (h c e n:Nat) (g:Bool) (tm:Tm):Prop where
 nice:Nice n tm
 bad:g=true->∀ env s,env.length + e<=900->∃ s',Bs D h tm env s (.bad s')/\Gr c s s'
 ok:g=false->∀ env s,env.length + e<=900->∃ t s',Nl t/\Bs D h tm env s (.ok t s')/\Gr c s s'
theorem Out.le {D:Dfs}{h c e n h' c' e' n':Nat}{g:Bool}{tm:Tm}(o:Out D h c e n g tm)(h1:h<=h')(h2:c<=c')(h3:e<=e')(h4:n<=n'):Out D h' c' e' n' g tm :=
 ⟨o.nice.le h4,fun g env s he=>by obtain ⟨s',b,q⟩:=o.bad g env s (by omega);exact ⟨s',b.le h1,q.le h2⟩,fun g env s he=>by obtain ⟨t,s',nl,b,q⟩:=o.ok g env s (by omega);exact ⟨t,s',nl,b.le h1,q.le h2⟩⟩
def WOk (w:Nat->Str):Prop:=∀ i,NmOk (w i)
theorem nm_sg {x:Str}(h:x∈sgs):NmOk x:=by
 have:∀ x∈sgs,x.length<=20/\(x.cps.toList.all (· < 1000))=true:=by decide +kernel
 obtain ⟨a,b⟩:=this x h
 exact ⟨a,fun c hc=>by simpa using List.all_eq_true.mp b c hc⟩
theorem bound_len {env:Env}{xs:List Str}{ts:List T}:(boundE env xs ts).length<=env.length + xs.length:=by
 unfold boundE
 rw [List.length_append,List.length_zip]
 have:=List.length_filter_le (fun p=>!decide (p.1∈xs)) env
 omega
theorem lkE_app:∀ (a b:Env) (x:Str),lkE (a++b) x=(lkE b x).or (lkE a x)
 | [],b,x=>by simp [lkE]
 | p::r,b,x=>by
  simp only [List.cons_append,lkE]
  rw [lkE_app r b x,Option.or_assoc]
theorem lk_one {env:Env}{x:Str}{t:T}:lkE (boundE env [x] [t]) x=some t:=by
 unfold boundE
 rw [lkE_app]
 simp [lkE]
theorem lk_fst {env:Env}{x y:Str}{t u:T}(h:x≠y):lkE (boundE env [x,y] [t,u]) x=some t:=by
 unfold boundE
 rw [lkE_app]
 simp [lkE,Ne.symm h]
def ms (w:Nat->Str):List (Str × List Str):=[(w 1,[w 2]),(w 3,[])]
def ms' (w:Nat->Str):List (Str × List Str):=[(w 3,[]),(w 1,[w 2])]
theorem ms_lo {w:Nat->Str}(hw:WOk w):hdLo (.mat (ms w))/\hdLo (.mat (ms' w)):=by
 constructor <;> intro a ha <;> simp only [ms,ms',List.mem_cons,List.not_mem_nil,or_false] at ha <;> rcases ha with rfl | rfl <;> simp [hw 1,hw 2,hw 3]
theorem lkA_ms {w:Nat->Str}(h13:w 1≠w 3)(a b:T):lkA [(w 1,[w 2],a),(w 3,[],b)] (w 1)=some ([w 2],a)/\lkA [(w 1,[w 2],a),(w 3,[],b)] (w 3)=some ([],b)/\lkA [(w 3,[],b),(w 1,[w 2],a)] (w 1)=some ([w 2],a)/\lkA [(w 3,[],b),(w 1,[w 2],a)] (w 3)=some ([],b):=by
 simp [lkA,h13,Ne.symm h13]
inductive Asd (w:Nat->Str) (k:Tm):Tm->Prop
 | opL {sg:Str} {o:Tm}:sg∈sgs->Ot false o->Asd w k (.mk (.op sg) [k,o])
 | opR {sg:Str} {o:Tm}:sg∈sgs->sg≠":"->Ot false o->Asd w k (.mk (.op sg) [o,k])
 | let1:Asd w k (.mk (.lt (w 0)) [k,num 3])
 | let2 {o:Tm}:Ot false o->Asd w k (.mk (.lt (w 0)) [o,k])
 | more {o:Tm}:Ot true o->Asd w k (.mk .long [.mk .more [k,o]])
 | row1:Asd w k (.mk .long [.mk .row [k]])
 | row2 {o:Tm}:Ot false o->Asd w k (.mk .long [.mk .row [k,o]])
 | row3 {o:Tm}:Ot false o->Asd w k (.mk .long [.mk .row [o,k]])
 | mat1 {o:Tm}:Ot false o->Asd w k (.mk (.mat (ms w)) [.mk (.tag (w 1)) [k],name (w 2),o])
 | mat2 {o:Tm}:Ot false o->Asd w k (.mk (.mat (ms' w)) [.mk (.tag (w 1)) [k],o,name (w 2)])
 | call1 {o:Tm}:Ot false o->Asd w k (.mk (.call (w 5)) [k,o])
 | call2 {o:Tm}:Ot false o->Asd w k (.mk (.call (w 5)) [o,k])
 | ife {o:Tm}:Ot false o->Asd w k (.mk .ife [k,o,num 4])
 | fold1 {o:Tm}:Ot true o->Asd w k (.mk (.fold (w 0) (w 2)) [o,k,num 5])
 | fold2:Asd w k (.mk (.fold (w 0) (w 2)) [.mk .row [k],num 0,name (w 0)])
end G28
namespace G28
open PySem L2
section
variable {D : Dfs} {w : Nat → Str} {h c e n : Nat} {g : Bool} {k tm : Tm} {m : Int}
theorem o_op {sg:Str}{a b:Tm}{p:Nat}(N:Nice p (.mk (.op sg) [a,b]))(hp:p<=900):Oth1 (.mk (.op sg) [a,b]):=oth_of N hp (by show ¬ ("op":Str)="num";decide +kernel) (by show ¬ ("op":Str)="name";decide +kernel) (by rw [ka_op];exact (show 2<=8 by decide))
theorem o_lt {x:Str}{a b:Tm}{p:Nat}(N:Nice p (.mk (.lt x) [a,b]))(hp:p<=900):Oth1 (.mk (.lt x) [a,b]):=oth_of N hp (by show ¬ ("let":Str)="num";decide +kernel) (by show ¬ ("let":Str)="name";decide +kernel) (by rw [ka_lt];exact (show 1<=8 by decide))
theorem o_long {a:Tm}{p:Nat}(N:Nice p (.mk .long [a]))(hp:p<=900):Oth1 (.mk .long [a]):=oth_of N hp (by show ¬ ("long":Str)="num";decide +kernel) (by show ¬ ("long":Str)="name";decide +kernel) (by rw [ka_long];exact (show 1<=8 by decide))
theorem o_first {a:Tm}{p:Nat}(N:Nice p (.mk .first [a]))(hp:p<=900):Oth1 (.mk .first [a]):=oth_of N hp (by show ¬ ("first":Str)="num";decide +kernel) (by show ¬ ("first":Str)="name";decide +kernel) (by rw [ka_first];exact (show 1<=8 by decide))
theorem o_others {a:Tm}{p:Nat}(N:Nice p (.mk .others [a]))(hp:p<=900):Oth1 (.mk .others [a]):=oth_of N hp (by show ¬ ("others":Str)="num";decide +kernel) (by show ¬ ("others":Str)="name";decide +kernel) (by rw [ka_others];exact (show 1<=8 by decide))
theorem o_more {a b:Tm}{p:Nat}(N:Nice p (.mk .more [a,b]))(hp:p<=900):Oth1 (.mk .more [a,b]):=oth_of N hp (by show ¬ ("more":Str)="num";decide +kernel) (by show ¬ ("more":Str)="name";decide +kernel) (by rw [ka_more];exact (show 2<=8 by decide))
theorem o_row {ks:List Tm}{p:Nat}(N:Nice p (.mk .row ks))(hp:p<=900)(hl:ks.length<=8):Oth1 (.mk .row ks):=oth_of N hp (by show ¬ ("row":Str)="num";decide +kernel) (by show ¬ ("row":Str)="name";decide +kernel) (by rw [ka_row];exact hl)
theorem o_tag {t:Str}{ks:List Tm}{p:Nat}(N:Nice p (.mk (.tag t) ks))(hp:p<=900)(hl:ks.length<=8):Oth1 (.mk (.tag t) ks):=oth_of N hp (by show ¬ ("tag":Str)="num";decide +kernel) (by show ¬ ("tag":Str)="name";decide +kernel) (by rw [ka_tag];exact hl)
theorem o_call {t:Str}{ks:List Tm}{p:Nat}(N:Nice p (.mk (.call t) ks))(hp:p<=900)(hl:ks.length<=8):Oth1 (.mk (.call t) ks):=oth_of N hp (by show ¬ ("call":Str)="num";decide +kernel) (by show ¬ ("call":Str)="name";decide +kernel) (by rw [ka_call];exact hl)
theorem o_mat {arms:List (Str × List Str)}{a:Tm}{ks:List Tm}{p:Nat}(N:Nice p (.mk (.mat arms) (a::ks)))(hp:p<=900):Oth1 (.mk (.mat arms) (a::ks)):=oth_of N hp (by show ¬ ("match":Str)="num";decide +kernel) (by show ¬ ("match":Str)="name";decide +kernel) (by rw [ka_mat];exact (show 1<=8 by decide))
theorem o_ife {a b c:Tm}{p:Nat}(N:Nice p (.mk .ife [a,b,c]))(hp:p<=900):Oth1 (.mk .ife [a,b,c]):=oth_of N hp (by show ¬ ("if":Str)="num";decide +kernel) (by show ¬ ("if":Str)="name";decide +kernel) (by rw [ka_ife];exact (show 1<=8 by decide))
theorem o_fold {x y:Str}{a b c:Tm}{p:Nat}(N:Nice p (.mk (.fold x y) [a,b,c]))(hp:p<=900):Oth1 (.mk (.fold x y) [a,b,c]):=oth_of N hp (by show ¬ ("fold":Str)="num";decide +kernel) (by show ¬ ("fold":Str)="name";decide +kernel) (by rw [ka_fold];exact (show 2<=8 by decide))
theorem out1 {hd:Hd}{ks:List Tm}{p:Nat}(O:Out D h c e n g k)(N:Nice p (.mk hd (k::ks)))(o:Oth1 (.mk hd (k::ks)))(ek:kidsA (.mk hd (k::ks))=[k])(f:∀ env s t,env.length + e<=900->Nl t->∃ t' s',Nl t'/\Fin1 D (Bs D (h + 2)) env (.mk hd (k::ks)) [t] s (.ok t' s')/\Gr 3 s s'):Out D (h + 3) (c + 3) e p g (.mk hd (k::ks)) :=
 ⟨N,fun hg env s he=>by
  obtain ⟨s',b,q⟩:=O.bad hg env s he
  exact ⟨s',bsB1 o ek (b.le (by omega)),q.le (by omega)⟩,fun hg env s he=>by
  obtain ⟨t,s',nl,b,q⟩:=O.ok hg env s he
  obtain ⟨t',s2,nl2,f2,q2⟩:=f env s' t he nl
  exact ⟨t',s2,nl2,bs1 o ek (b.le (by omega)) f2,(q.trans q2).le (by omega)⟩⟩
theorem out21 {hd:Hd}{k2:Tm}{ks:List Tm}{p:Nat}{V:T->Prop}{V':T->Prop}(O:Out D h c e n g k)(o:Oth1 (.mk hd (k::k2::ks)))(ek:kidsA (.mk hd (k::k2::ks))=[k,k2])(b2:∀ env s,∃ t s',V t/\Bs D (h + 2) k2 env s (.ok t s')/\Gr 1 s s')(f:∀ env s t u,env.length + e<=900->Nl t->V u->∃ t' s',V' t'/\Fin1 D (Bs D (h + 2)) env (.mk hd (k::k2::ks)) [t,u] s (.ok t' s')/\Gr 1 s s') :
  (g=true->∀ env s,env.length + e<=900->∃ s',Bs D (h + 3) (.mk hd (k::k2::ks)) env s (.bad s')/\Gr c s s')/\(g=false->∀ env s,env.length + e<=900->∃ t s',V' t/\Bs D (h + 3) (.mk hd (k::k2::ks)) env s (.ok t s')/\Gr (c + 2) s s') :=
 ⟨fun hg env s he=>by
  obtain ⟨s',b,q⟩:=O.bad hg env s he
  exact ⟨s',bsB1 o ek (b.le (by omega)),q⟩,fun hg env s he=>by
  obtain ⟨t,s',nl,b,q⟩:=O.ok hg env s he
  obtain ⟨u,s2,v2,b2',q2⟩:=b2 env s'
  obtain ⟨t',s3,nl3,f3,q3⟩:=f env s2 t u he nl v2
  exact ⟨t',s3,nl3,bs2 o ek (b.le (by omega)) b2' f3,((q.trans q2).trans q3).le (by omega)⟩⟩
theorem out22 {hd:Hd}{k2:Tm}{ks:List Tm}{V:T->Prop}{V':T->Prop}(O:Out D h c e n g k)(o:Oth1 (.mk hd (k2::k::ks)))(ek:kidsA (.mk hd (k2::k::ks))=[k2,k])(b2:∀ env s,∃ t s',V t/\Bs D (h + 2) k2 env s (.ok t s')/\Gr 1 s s')(f:∀ env s t u,env.length + e<=900->V t->Nl u->∃ t' s',V' t'/\Fin1 D (Bs D (h + 2)) env (.mk hd (k2::k::ks)) [t,u] s (.ok t' s')/\Gr 1 s s') :
  (g=true->∀ env s,env.length + e<=900->∃ s',Bs D (h + 3) (.mk hd (k2::k::ks)) env s (.bad s')/\Gr (c + 1) s s')/\(g=false->∀ env s,env.length + e<=900->∃ t s',V' t/\Bs D (h + 3) (.mk hd (k2::k::ks)) env s (.ok t s')/\Gr (c + 2) s s') :=
 ⟨fun hg env s he=>by
  obtain ⟨u,s2,v2,b2',q2⟩:=b2 env s
  obtain ⟨s',b,q⟩:=O.bad hg env s2 he
  exact ⟨s',bsB2 o ek b2' (b.le (by omega)),(q2.trans q).le (by omega)⟩,fun hg env s he=>by
  obtain ⟨u,s2,v2,b2',q2⟩:=b2 env s
  obtain ⟨t,s',nl,b,q⟩:=O.ok hg env s2 he
  obtain ⟨t',s3,nl3,f3,q3⟩:=f env s' u t he v2 nl
  exact ⟨t',s3,nl3,bs2 o ek b2' (b.le (by omega)) f3,((q2.trans q).trans q3).le (by omega)⟩⟩
theorem fin_rounds {x y:Str}{c5:Tm}{env:Env}{R:Rl}(hc:∀ env' s,env'.length<=env.length + 2->∃ t s',Nl t/\R c5 env' s (.ok t s')/\s'=s):∀ (ts:List T) (t:T) (s:Sm),Nl t->∃ t' s',Nl t'/\Rds R c5 x y env ts t s (.ok t' s')/\s'.many=s.many + ts.length/\s'.rows.length=s.rows.length
 | [],t,s,ht=>⟨t,s,ht,.done,rfl,rfl⟩
 | u::us,t,s,ht=>by
  obtain ⟨t1,s1,h1,b1,e1⟩:=hc (boundE env [x,y] [u,t]) s.up bound_len
  subst e1
  obtain ⟨t2,s2,h2,b2,e2,e3⟩:=fin_rounds hc us t1 s.up h1
  exact ⟨t2,s2,h2,.more b1 b2,by rw [e2];show s.many + 1 + us.length=s.many + (us.length + 1);omega,by rw [e3];rfl⟩
theorem asd_out (hw:WOk w)(h13:w 1≠w 3)(h02:w 0≠w 2)(hm:Nb m)(hD:lkD D (w 5)=some ([w 6,w 7],enc (num m)))(hn:n<=800)(O:Out D h c e n g k)(A:Asd w k tm):Out D (h + 6) (c + 4) (e + 2) (n + 6) g tm:=by
 have N:=O.nice
 have ho0:∀ {o:Tm},Ot false o->∀ env s,∃ t s',N1 t/\Bs D (h + 2) o env s (.ok t s')/\Gr 1 s s':=fun q env s=>oth_ev0 q
 have ho1:∀ {o:Tm},Ot true o->∀ env s,∃ t s',R1 t/\Bs D (h + 2) o env s (.ok t s')/\Gr 1 s s':=fun q env s=>oth_ev1 q
 cases A with
 | @opL sg o hs ho =>
  have N2:Nice (n + 2 + 1) (.mk (.op sg) [k,o]):=nice2 rfl (nm_sg hs) N ho.nice
  obtain ⟨a,b⟩:=out21 (V:=N1) (V':=Nl) (ks:=[]) (p:=0) O (o_op N2 (by omega)) ka_op (ho0 ho) fun env s t u _ ht hu=>fin_op hs ht hu.nl fun _=>hu.ne0
  exact (⟨N2,fun x env s he=>by obtain ⟨s',b,q⟩:=a x env s he;exact ⟨s',b,q.le (by omega)⟩,b⟩:Out D (h + 3) (c + 2) e (n + 2 + 1) g _).le (by omega) (by omega) (by omega) (by omega)
 | @opR sg o hs h0 ho =>
  have N2:Nice (2 + n + 1) (.mk (.op sg) [o,k]):=nice2 rfl (nm_sg hs) ho.nice N
  obtain ⟨a,b⟩:=out22 (V:=N1) (V':=Nl) (ks:=[]) O (o_op N2 (by omega)) ka_op (ho0 ho) fun env s t u _ ht hu=>fin_op hs ht.nl hu fun z=>absurd z h0
  exact (⟨N2,fun x env s he=>by obtain ⟨s',b,q⟩:=a x env s he;exact ⟨s',b,q.le (by omega)⟩,b⟩:Out D (h + 3) (c + 2) e (2 + n + 1) g _).le (by omega) (by omega) (by omega) (by omega)
 | let1 =>
  have N2:Nice (n + 1 + 1) (.mk (.lt (w 0)) [k,num 3]):=nice2 rfl (hw 0) N (nice_num ⟨by decide,by decide⟩)
  exact (out1 O N2 (o_lt N2 (by omega)) ka_lt fun env s t he ht=>⟨_,s,.num ⟨by decide,by decide⟩,.lt (by omega) (ev_num (h:=h + 1)),Gr.refl.le (by omega)⟩).le (by omega) (by omega) (by omega) (by omega)
 | @let2 o ho =>
  have N2:Nice (2 + n + 1) (.mk (.lt (w 0)) [o,k]):=nice2 rfl (hw 0) ho.nice N
  refine (⟨N2,fun hg env s he=>?_,fun hg env s he=>?_⟩:Out D (h + 3) (c + 1) (e + 1) _ g _).le (by omega) (by omega) (by omega) (by omega)
  ·obtain ⟨u,s2,v2,b2,q2⟩:=ho0 ho env s
   obtain ⟨s',b,q⟩:=O.bad hg (boundE env [w 0] [u]) s2 (by have:=bound_len (env:=env) (xs:=[w 0]) (ts:=[u]);simp at this;omega)
   exact ⟨s',bs1 (o_lt N2 (by omega)) ka_lt b2 (.lt (by omega) (b.le (by omega))),(q2.trans q).le (by omega)⟩
  ·obtain ⟨u,s2,v2,b2,q2⟩:=ho0 ho env s
   obtain ⟨t,s',nl,b,q⟩:=O.ok hg (boundE env [w 0] [u]) s2 (by have:=bound_len (env:=env) (xs:=[w 0]) (ts:=[u]);simp at this;omega)
   exact ⟨t,s',nl,bs1 (o_lt N2 (by omega)) ka_lt b2 (.lt (by omega) (b.le (by omega))),(q2.trans q).le (by omega)⟩
 | @more o ho =>
  have N2:Nice (n + 2 + 1) (.mk .more [k,o]):=nice2 rfl trivial N ho.nice
  have N3:Nice (n + 2 + 1 + 1) (.mk .long [.mk .more [k,o]]):=nice1 rfl trivial N2
  have ho1':∀ env s,∃ t s',(R1 t/\∀ ts,t=rowT ts->ts.length<=4)/\Bs D (h + 2) o env s (.ok t s')/\Gr 1 s s':=fun env s=>by
   cases ho with
   | gap hg=>exact ⟨_,_,⟨.left,fun ts z=>by simp [leftT,rowT] at z⟩,ev_gap (h:=h + 1) hg,Gr.row⟩
   | @row x hx=>exact ⟨_,_,⟨.row (ts:=[numT x]) (by show 1<=5;decide) (fun t ht=>by rw [List.mem_singleton.mp ht];exact .num hx),fun ts z=>by simp [rowT] at z;rw [←z];simp⟩,ev_row1 (h:=h + 1) (nice1 rfl trivial (nice_num hx)) (by decide) (ev_num (h:=h)),Gr.refl.le (by decide)⟩
  obtain ⟨a,b⟩:=out21 (V:=fun t=>R1 t/\∀ ts,t=rowT ts->ts.length<=4) (V':=R1) (ks:=[]) (p:=0) O (o_more N2 (by omega)) ka_more ho1' fun env s t u _ ht hu=>fin_more ht hu.1 hu.2
  refine (⟨N3,fun hg env s he=>?_,fun hg env s he=>?_⟩:Out D (h + 4) (c + 3) e _ g _).le (by omega) (by omega) (by omega) (by omega)
  ·obtain ⟨s',b,q⟩:=a hg env s he
   exact ⟨s',bsB1 (o_long N3 (by omega)) ka_long b,q.le (by omega)⟩
  ·obtain ⟨t,s',v,b,q⟩:=b hg env s he
   obtain ⟨t',s2,nl,f,q2⟩:=fin_long (D:=D) (R:=Bs D (h + 3)) (env:=env) (s:=s') (a:=.mk .more [k,o]) v
   exact ⟨t',s2,nl,bs1 (o_long N3 (by omega)) ka_long b f,(q.trans q2).le (by omega)⟩
 | row1 =>
  have N2:Nice (n + 1) (.mk .row [k]):=nice1 rfl trivial N
  have N3:Nice (n + 1 + 1) (.mk .long [.mk .row [k]]):=nice1 rfl trivial N2
  refine (⟨N3,fun hg env s he=>?_,fun hg env s he=>?_⟩:Out D (h + 2) (c + 1) e _ g _).le (by omega) (by omega) (by omega) (by omega)
  ·obtain ⟨s',b,q⟩:=O.bad hg env s he
   exact ⟨s',bsB1 (o_long N3 (by omega)) ka_long (bsB1 (o_row N2 (by omega) (by simp)) ka_row b),q.le (by omega)⟩
  ·obtain ⟨t,s',v,b,q⟩:=O.ok hg env s he
   obtain ⟨t',s2,nl,f,q2⟩:=fin_long (D:=D) (R:=Bs D (h + 1)) (env:=env) (s:=s') (a:=.mk .row [k]) (t:=rowT [t]) (.row (by show 1<=5;decide) (fun x hx=>by rw [List.mem_singleton.mp hx];exact v))
   exact ⟨t',s2,nl,bs1 (o_long N3 (by omega)) ka_long (bs1 (o_row N2 (by omega) (by simp)) ka_row b .row) f,(q.trans q2).le (by omega)⟩
 | @row2 o ho =>
  have N2:Nice (n + 2 + 1) (.mk .row [k,o]):=nice2 rfl trivial N ho.nice
  have N3:Nice (n + 2 + 1 + 1) (.mk .long [.mk .row [k,o]]):=nice1 rfl trivial N2
  obtain ⟨a,b⟩:=out21 (V:=N1) (V':=R1) (ks:=[]) (p:=0) O (o_row N2 (by omega) (by simp)) ka_row (ho0 ho) fun env s t u _ ht hu=>⟨_,s,.row (ts:=[t,u]) (by show 2<=5;decide) (fun x hx=>by rcases List.mem_cons.mp hx with rfl | hx;exact ht;rw [List.mem_singleton.mp hx];exact hu.nl),.row,Gr.refl.le (by omega)⟩
  refine (⟨N3,fun hg env s he=>?_,fun hg env s he=>?_⟩:Out D (h + 4) (c + 3) e _ g _).le (by omega) (by omega) (by omega) (by omega)
  ·obtain ⟨s',b,q⟩:=a hg env s he
   exact ⟨s',bsB1 (o_long N3 (by omega)) ka_long b,q.le (by omega)⟩
  ·obtain ⟨t,s',v,b,q⟩:=b hg env s he
   obtain ⟨t',s2,nl,f,q2⟩:=fin_long (D:=D) (R:=Bs D (h + 3)) (env:=env) (s:=s') (a:=.mk .row [k,o]) v
   exact ⟨t',s2,nl,bs1 (o_long N3 (by omega)) ka_long b f,(q.trans q2).le (by omega)⟩
 | @row3 o ho =>
  have N2:Nice (2 + n + 1) (.mk .row [o,k]):=nice2 rfl trivial ho.nice N
  have N3:Nice (2 + n + 1 + 1) (.mk .long [.mk .row [o,k]]):=nice1 rfl trivial N2
  obtain ⟨a,b⟩:=out22 (V:=N1) (V':=R1) (ks:=[]) O (o_row N2 (by omega) (by simp)) ka_row (ho0 ho) fun env s t u _ ht hu=>⟨_,s,.row (ts:=[t,u]) (by show 2<=5;decide) (fun x hx=>by rcases List.mem_cons.mp hx with rfl | hx;exact ht.nl;rw [List.mem_singleton.mp hx];exact hu),.row,Gr.refl.le (by omega)⟩
  refine (⟨N3,fun hg env s he=>?_,fun hg env s he=>?_⟩:Out D (h + 4) (c + 3) e _ g _).le (by omega) (by omega) (by omega) (by omega)
  ·obtain ⟨s',b,q⟩:=a hg env s he
   exact ⟨s',bsB1 (o_long N3 (by omega)) ka_long b,q.le (by omega)⟩
  ·obtain ⟨t,s',v,b,q⟩:=b hg env s he
   obtain ⟨t',s2,nl,f,q2⟩:=fin_long (D:=D) (R:=Bs D (h + 3)) (env:=env) (s:=s') (a:=.mk .row [o,k]) v
   exact ⟨t',s2,nl,bs1 (o_long N3 (by omega)) ka_long b f,(q.trans q2).le (by omega)⟩
 | @mat1 o ho =>
  have NT:Nice (n + 1) (.mk (.tag (w 1)) [k]):=nice1 rfl (hw 1) N
  have N3:Nice (n + 1 + 1 + 2 + 1) (.mk (.mat (ms w)) [.mk (.tag (w 1)) [k],name (w 2),o]):=nice3 rfl (ms_lo hw).1 NT (nice0 (hd:=.name (w 2)) rfl (hw 2)) ho.nice
  refine (⟨N3,fun hg env s he=>?_,fun hg env s he=>?_⟩:Out D (h + 3) (c + 1) e _ g _).le (by omega) (by omega) (by omega) (by omega)
  ·obtain ⟨s',b,q⟩:=O.bad hg env s he
   exact ⟨s',bsB1 (o_mat N3 (by omega)) ka_mat (bsB1 (o_tag NT (by omega) (by simp)) ka_tag (b.le (Nat.le_succ h))),q.le (by omega)⟩
  ·obtain ⟨t,s',v,b,q⟩:=O.ok hg env s he
   exact ⟨t,s'.up,v,bs1 (o_mat N3 (by omega)) ka_mat (bs1 (o_tag NT (by omega) (by simp)) ka_tag (b.le (Nat.le_succ h)) .tag) (.mat (b:=name (w 2)) (ns:=[w 2]) rfl (by simp [ms,ms']) (lkA_ms h13 _ _).1 rfl (by omega) (by simp) (.name lk_one)),(q.trans Gr.up).le (by omega)⟩
 | @mat2 o ho =>
  have NT:Nice (n + 1) (.mk (.tag (w 1)) [k]):=nice1 rfl (hw 1) N
  have N3:Nice (n + 1 + 2 + 1 + 1) (.mk (.mat (ms' w)) [.mk (.tag (w 1)) [k],o,name (w 2)]):=nice3 rfl (ms_lo hw).2 NT ho.nice (nice0 (hd:=.name (w 2)) rfl (hw 2))
  refine (⟨N3,fun hg env s he=>?_,fun hg env s he=>?_⟩:Out D (h + 3) (c + 1) e _ g _).le (by omega) (by omega) (by omega) (by omega)
  ·obtain ⟨s',b,q⟩:=O.bad hg env s he
   exact ⟨s',bsB1 (o_mat N3 (by omega)) ka_mat (bsB1 (o_tag NT (by omega) (by simp)) ka_tag (b.le (Nat.le_succ h))),q.le (by omega)⟩
  ·obtain ⟨t,s',v,b,q⟩:=O.ok hg env s he
   exact ⟨t,s'.up,v,bs1 (o_mat N3 (by omega)) ka_mat (bs1 (o_tag NT (by omega) (by simp)) ka_tag (b.le (Nat.le_succ h)) .tag) (.mat (b:=name (w 2)) (ns:=[w 2]) rfl (by simp [ms,ms']) (lkA_ms h13 _ _).2.2.1 rfl (by omega) (by simp) (.name lk_one)),(q.trans Gr.up).le (by omega)⟩
 | @call1 o ho =>
  have N2:Nice (n + 2 + 1) (.mk (.call (w 5)) [k,o]):=nice2 rfl (hw 5) N ho.nice
  obtain ⟨a,b⟩:=out21 (V:=N1) (V':=Nl) (ks:=[]) (p:=0) O (o_call N2 (by omega) (by simp)) ka_call (ho0 ho) fun env s t u _ ht hu=>⟨_,s.up,.num hm,.call hD rfl (by simp) (ev_num (h:=h + 1)),Gr.up⟩
  exact (⟨N2,fun x env s he=>by obtain ⟨s',b,q⟩:=a x env s he;exact ⟨s',b,q.le (by omega)⟩,b⟩:Out D (h + 3) (c + 2) e (n + 2 + 1) g _).le (by omega) (by omega) (by omega) (by omega)
 | @call2 o ho =>
  have N2:Nice (2 + n + 1) (.mk (.call (w 5)) [o,k]):=nice2 rfl (hw 5) ho.nice N
  obtain ⟨a,b⟩:=out22 (V:=N1) (V':=Nl) (ks:=[]) O (o_call N2 (by omega) (by simp)) ka_call (ho0 ho) fun env s t u _ ht hu=>⟨_,s.up,.num hm,.call hD rfl (by simp) (ev_num (h:=h + 1)),Gr.up⟩
  exact (⟨N2,fun x env s he=>by obtain ⟨s',b,q⟩:=a x env s he;exact ⟨s',b,q.le (by omega)⟩,b⟩:Out D (h + 3) (c + 2) e (2 + n + 1) g _).le (by omega) (by omega) (by omega) (by omega)
 | @ife o ho =>
  have N3:Nice (n + 2 + 1 + 1) (.mk .ife [k,o,num 4]):=nice3 (hd:=.ife) rfl trivial N ho.nice (nice_num ⟨by decide,by decide⟩)
  refine (out1 O N3 (o_ife N3 (by omega)) ka_ife fun env s t he ht=>?_).le (by omega) (by omega) (by omega) (by omega)
  cases ht with
  | left=>exact ⟨_,_,.left,.ifL,Gr.row.le (by omega)⟩
  | @num x hx =>
   by_cases z:x=0
   ·exact ⟨_,s.up,.num (x:=4) ⟨by decide,by decide⟩,.ife (by rw [if_pos z];exact ev_num (h:=h + 1)),Gr.up.le (by omega)⟩
   ·obtain ⟨t',s',v,b,q⟩:=ho0 ho env s.up
    exact ⟨t',s',v.nl,.ife (by rw [if_neg z];exact b),(Gr.up.trans q).le (by omega)⟩
 | @fold1 o ho =>
  have N3:Nice (2 + n + 1 + 1) (.mk (.fold (w 0) (w 2)) [o,k,num 5]):=nice3 (hd:=.fold (w 0) (w 2)) rfl ⟨hw 0,hw 2⟩ ho.nice N (nice_num ⟨by decide,by decide⟩)
  have ho1':∀ env s,∃ t s',(R1 t/\∀ ts,t=rowT ts->ts.length<=1)/\Bs D (h + 2) o env s (.ok t s')/\Gr 1 s s':=fun env s=>by
   cases ho with
   | gap hg=>exact ⟨_,_,⟨.left,fun ts z=>by simp [leftT,rowT] at z⟩,ev_gap (h:=h + 1) hg,Gr.row⟩
   | @row x hx=>exact ⟨_,_,⟨.row (ts:=[numT x]) (by show 1<=5;decide) (fun t ht=>by rw [List.mem_singleton.mp ht];exact .num hx),fun ts z=>by simp [rowT] at z;rw [←z];simp⟩,ev_row1 (h:=h + 1) (nice1 rfl trivial (nice_num hx)) (by decide) (ev_num (h:=h)),Gr.refl.le (by decide)⟩
  obtain ⟨a,b⟩:=out22 (V:=fun t=>R1 t/\∀ ts,t=rowT ts->ts.length<=1) (V':=Nl) (ks:=[num 5]) O (o_fold N3 (by omega)) ka_fold ho1' fun env s t u he ht hu=>by
   obtain ⟨ht,hl⟩:=ht
   cases ht with
   | left=>exact ⟨_,_,.left,.foldL,Gr.row⟩
   | @row ts h1 h2 =>
    obtain ⟨t',s',v,b,e1,e2⟩:=fin_rounds (x:=w 0) (y:=w 2) (c5:=num 5) (env:=env) (R:=Bs D (h + 2)) (fun env' s _=>⟨_,s,.num ⟨by decide,by decide⟩,ev_num (h:=h + 1),rfl⟩) ts u s hu
    have:=hl ts rfl
    exact ⟨t',s',v,.fold (by omega) (by omega) b,⟨by omega,by omega⟩⟩
  exact (⟨N3,fun x env s he=>by obtain ⟨s',b,q⟩:=a x env s he;exact ⟨s',b,q.le (by omega)⟩,b⟩:Out D (h + 3) (c + 2) e (2 + n + 1 + 1) g _).le (by omega) (by omega) (by omega) (by omega)
 | fold2 =>
  have NR:Nice (n + 1) (.mk .row [k]):=nice1 rfl trivial N
  have N3:Nice (n + 1 + 1 + 1 + 1) (.mk (.fold (w 0) (w 2)) [.mk .row [k],num 0,name (w 0)]):=nice3 (hd:=.fold (w 0) (w 2)) rfl ⟨hw 0,hw 2⟩ NR (nice_num ⟨by decide,by decide⟩) (nice0 (hd:=.name (w 0)) rfl (hw 0))
  refine (⟨N3,fun hg env s he=>?_,fun hg env s he=>?_⟩:Out D (h + 3) (c + 1) e _ g _).le (by omega) (by omega) (by omega) (by omega)
  ·obtain ⟨s',b,q⟩:=O.bad hg env s he
   exact ⟨s',bsB1 (o_fold N3 (by omega)) ka_fold (bsB1 (o_row NR (by omega) (by simp)) ka_row (b.le (Nat.le_succ h))),q.le (by omega)⟩
  ·obtain ⟨t,s',v,b,q⟩:=O.ok hg env s he
   exact ⟨t,s'.up,v,bs2 (o_fold N3 (by omega)) ka_fold (bs1 (o_row NR (by omega) (by simp)) ka_row (b.le (Nat.le_succ h)) .row) (ev_num (h:=h + 1)) (.fold (by show 1 < 900;decide) (by omega) (.more (.name (lk_fst h02)) .done)),(q.trans Gr.up).le (by omega)⟩
end
end G28
namespace G28
open PySem L2
inductive Core:Tm->Prop
 | op {o:Tm}:Ot false o->Core (.mk (.op ":") [o,num 0])
 | first0:Core (.mk .first [.mk .row []])
 | long0:Core (.mk .long [.mk .others [.mk .row []]])
 | first1 {o:Tm}:Ot false o->Core (.mk .first [.mk .others [.mk .row [o]]])
 | long1 {o:Tm}:Ot false o->Core (.mk .long [.mk .others [.mk .others [.mk .row [o]]]])
def matT (w:Nat->Str)(sw:Bool)(tk a b:Tm):Tm:=if sw then .mk (.mat (ms' w)) [tk,b,a] else .mk (.mat (ms w)) [tk,a,b]
inductive Wth (w:Nat->Str) (k:Tm):Tm->Bool->Prop
 | ifA0 {x:Int} {o:Tm}:1<=x->x < 1000000->Ot false o->Wth w k (.mk .ife [num x,k,o]) true
 | ifA1 {o:Tm}:Ot false o->Wth w k (.mk .ife [num 0,k,o]) false
 | ifA2 {y:Int} {o:Tm}:y.natAbs < 2 ^ 20->Ot false o->Wth w k (.mk .ife [gap y,k,o]) false
 | ifB0 {x:Int} {o:Tm}:1<=x->x < 1000000->Ot false o->Wth w k (.mk .ife [num x,o,k]) false
 | ifB1 {o:Tm}:Ot false o->Wth w k (.mk .ife [num 0,o,k]) true
 | ifB2 {y:Int} {o:Tm}:y.natAbs < 2 ^ 20->Ot false o->Wth w k (.mk .ife [gap y,o,k]) false
 | matA0 {sw:Bool} {o:Tm}:Ot false o->Wth w k (matT w sw (.mk (.tag (w 1)) [num 7]) k o) true
 | matA1 {sw:Bool} {o:Tm}:Ot false o->Wth w k (matT w sw (.mk (.tag (w 3)) []) k o) false
 | matA2 {sw:Bool} {y:Int} {o:Tm}:y.natAbs < 2 ^ 20->Ot false o->Wth w k (matT w sw (gap y) k o) false
 | matB0 {sw:Bool} {o:Tm}:Ot false o->Wth w k (matT w sw (.mk (.tag (w 1)) [num 7]) o k) false
 | matB1 {sw:Bool} {o:Tm}:Ot false o->Wth w k (matT w sw (.mk (.tag (w 3)) []) o k) true
 | matB2 {sw:Bool} {y:Int} {o:Tm}:y.natAbs < 2 ^ 20->Ot false o->Wth w k (matT w sw (gap y) o k) false
 | fold0 {o:Tm}:Ot false o->Wth w k (.mk (.fold (w 0) (w 2)) [.mk .row [o,num 2],num 1,k]) true
 | fold1:Wth w k (.mk (.fold (w 0) (w 2)) [.mk .row [],num 1,k]) false
 | fold2 {y:Int}:y.natAbs < 2 ^ 20->Wth w k (.mk (.fold (w 0) (w 2)) [gap y,num 1,k]) false
section
variable {D : Dfs} {w : Nat → Str} {h c e n : Nat} {g here : Bool} {k tm : Tm} {m : Int}
theorem nb7 (x:Int)(h1:0<=x:=by decide)(h2:x < 1000000:=by decide):Nb x:=⟨h1,h2⟩
theorem nrow0:Nice 1 (.mk .row []):=nice0 (hd:=.row) rfl trivial
theorem ev_row0 {env:Env}{s:Sm}:Bs D (h + 1) (.mk .row []) env s (.ok (rowT []) s):=bs0 (o_row nrow0 (by decide) (by simp)) ka_row .row
theorem core_out (C:Core tm):Out D 6 3 0 6 true tm:=by
 cases C with
 | @op o ho =>
  have N2:Nice (2 + 1 + 1) (.mk (.op ":") [o,num 0]):=nice2 rfl (nm_sg (by decide +kernel)) ho.nice (nice_num (nb7 0))
  refine (⟨N2,fun _ env s he=>?_,fun z=>by cases z⟩:Out D 3 1 0 _ true _).le (by omega) (by omega) (by omega) (by omega)
  obtain ⟨t,s',v,b,q⟩:=oth_ev0 (D:=D) (h:=0) (env:=env) (s:=s) ho
  exact ⟨s',bs2 (o_op N2 (by omega)) ka_op b (ev_num (h:=1)) .op0,q⟩
 | first0 =>
  have N2:Nice (1 + 1) (.mk .first [.mk .row []]):=nice1 (hd:=.first) rfl trivial nrow0
  refine (⟨N2,fun _ env s he=>?_,fun z=>by cases z⟩:Out D 2 0 0 _ true _).le (by omega) (by omega) (by omega) (by omega)
  exact ⟨s,bs1 (o_first N2 (by omega)) ka_first (ev_row0 (h:=0)) .first0,Gr.refl⟩
 | long0 =>
  have N2:Nice (1 + 1) (.mk .others [.mk .row []]):=nice1 (hd:=.others) rfl trivial nrow0
  have N3:Nice (1 + 1 + 1) (.mk .long [.mk .others [.mk .row []]]):=nice1 (hd:=.long) rfl trivial N2
  refine (⟨N3,fun _ env s he=>?_,fun z=>by cases z⟩:Out D 3 0 0 _ true _).le (by omega) (by omega) (by omega) (by omega)
  exact ⟨s,bsB1 (o_long N3 (by omega)) ka_long (bs1 (o_others N2 (by omega)) ka_others (ev_row0 (h:=0)) .others0),Gr.refl⟩
 | @first1 o ho =>
  have N1':Nice (2 + 1) (.mk .row [o]):=nice1 (hd:=.row) rfl trivial ho.nice
  have N2:Nice (2 + 1 + 1) (.mk .others [.mk .row [o]]):=nice1 (hd:=.others) rfl trivial N1'
  have N3:Nice (2 + 1 + 1 + 1) (.mk .first [.mk .others [.mk .row [o]]]):=nice1 (hd:=.first) rfl trivial N2
  refine (⟨N3,fun _ env s he=>?_,fun z=>by cases z⟩:Out D 5 2 0 _ true _).le (by omega) (by omega) (by omega) (by omega)
  obtain ⟨t,s',v,b,q⟩:=oth_ev0 (D:=D) (h:=0) (env:=env) (s:=s) ho
  exact ⟨s'.up,bs1 (o_first N3 (by omega)) ka_first (bs1 (o_others N2 (by omega)) ka_others (ev_row1 (h:=2) N1' (by omega) b) (.others (by simp))) .first0,q.trans Gr.up⟩
 | @long1 o ho =>
  have N1':Nice (2 + 1) (.mk .row [o]):=nice1 (hd:=.row) rfl trivial ho.nice
  have N2:Nice (2 + 1 + 1) (.mk .others [.mk .row [o]]):=nice1 (hd:=.others) rfl trivial N1'
  have N3:Nice (2 + 1 + 1 + 1) (.mk .others [.mk .others [.mk .row [o]]]):=nice1 (hd:=.others) rfl trivial N2
  have N4:Nice (2 + 1 + 1 + 1 + 1) (.mk .long [.mk .others [.mk .others [.mk .row [o]]]]):=nice1 (hd:=.long) rfl trivial N3
  refine (⟨N4,fun _ env s he=>?_,fun z=>by cases z⟩:Out D 6 2 0 _ true _).le (by omega) (by omega) (by omega) (by omega)
  obtain ⟨t,s',v,b,q⟩:=oth_ev0 (D:=D) (h:=0) (env:=env) (s:=s) ho
  exact ⟨s'.up,bsB1 (o_long N4 (by omega)) ka_long (bs1 (o_others N3 (by omega)) ka_others (bs1 (o_others N2 (by omega)) ka_others (ev_row1 (h:=2) N1' (by omega) b) (.others (by simp))) .others0),q.trans Gr.up⟩
theorem Out.at {hh:Nat}(O:Out D h c e n g k)(hl:h<=hh){env:Env}{s:Sm}(he:env.length + e<=900):∃ r,Bs D hh k env s r/\Gr c s r.sm/\(g=true->∃ s',r=.bad s')/\(g=false->∃ t s',Nl t/\r=.ok t s'):=by
 cases g with
 | true =>
  obtain ⟨s',b,q⟩:=O.bad rfl env s he
  exact ⟨_,b.le hl,q,fun _=>⟨s',rfl⟩,fun z=>by cases z⟩
 | false =>
  obtain ⟨t,s',v,b,q⟩:=O.ok rfl env s he
  exact ⟨_,b.le hl,q,fun z=>(by cases z),fun _=>⟨t,s',v,rfl⟩⟩
theorem out_of (N:Nice n tm)(H:∀ env s,env.length + e<=900->∃ r,Bs D h tm env s r/\Gr c s r.sm/\(g=true->∃ s',r=.bad s')/\(g=false->∃ t s',Nl t/\r=.ok t s')):Out D h c e n g tm :=
 ⟨N,fun hg env s he=>by
  obtain ⟨r,b,q,h1,_⟩:=H env s he
  obtain ⟨s',rfl⟩:=h1 hg
  exact ⟨s',b,q⟩,fun hg env s he=>by
  obtain ⟨r,b,q,_,h2⟩:=H env s he
  obtain ⟨t,s',v,rfl⟩:=h2 hg
  exact ⟨t,s',v,b,q⟩⟩
theorem out_ok {t:T}{s1:Sm}{P:Prop}(v:Nl t):(false=true->∃ s',Res.ok t s1=.bad s')/\(false=false->∃ t' s'',Nl t'/\Res.ok t s1=.ok t' s''):=⟨fun z=>(by cases z),fun _=>⟨t,s1,v,rfl⟩⟩
theorem mat_nice {sw:Bool}{tk a b:Tm}{p q r:Nat}(hw:WOk w)(ht:Nice p tk)(ha:Nice q a)(hb:Nice r b):Nice (p + q + r + 1) (matT w sw tk a b):=by
 cases sw with
 | true=>exact (nice3 (hd:=.mat (ms' w)) rfl (ms_lo hw).2 ht hb ha).le (by omega)
 | false=>exact nice3 (hd:=.mat (ms w)) rfl (ms_lo hw).1 ht ha hb
theorem ev_mat1 {sw:Bool}{a b:Tm}{p:Nat}{env:Env}{s:Sm}{r:Res}(h13:w 1≠w 3)(N:Nice p (matT w sw (.mk (.tag (w 1)) [num 7]) a b))(hp:p<=900)(hw:WOk w)(he:env.length<=900)(B:Bs D (h + 2) a (boundE env [w 2] [numT 7]) s.up r):Bs D (h + 3) (matT w sw (.mk (.tag (w 1)) [num 7]) a b) env s r:=by
 have NT:Nice (1 + 1) (.mk (.tag (w 1)) [num 7]):=nice1 (hd:=.tag (w 1)) rfl (hw 1) (nice_num (nb7 7))
 have T1:Bs D (h + 2) (.mk (.tag (w 1)) [num 7]) env s (.ok (tagT (w 1) [numT 7]) s):=bs1 (o_tag NT (by omega) (by simp)) ka_tag (ev_num (h:=h)) .tag
 cases sw with
 | true=>exact bs1 (o_mat N hp) ka_mat T1 (.mat (b:=a) (ns:=[w 2]) rfl (by simp [ms']) (lkA_ms h13 _ _).2.2.1 rfl he (by simp) B)
 | false=>exact bs1 (o_mat N hp) ka_mat T1 (.mat (b:=a) (ns:=[w 2]) rfl (by simp [ms]) (lkA_ms h13 _ _).1 rfl he (by simp) B)
theorem ev_mat3 {sw:Bool}{a b:Tm}{p:Nat}{env:Env}{s:Sm}{r:Res}(h13:w 1≠w 3)(N:Nice p (matT w sw (.mk (.tag (w 3)) []) a b))(hp:p<=900)(hw:WOk w)(he:env.length<=900)(B:Bs D (h + 2) b (boundE env [] []) s.up r):Bs D (h + 3) (matT w sw (.mk (.tag (w 3)) []) a b) env s r:=by
 have NT:Nice 1 (.mk (.tag (w 3)) []):=nice0 (hd:=.tag (w 3)) rfl (hw 3)
 have T1:Bs D (h + 2) (.mk (.tag (w 3)) []) env s (.ok (tagT (w 3) []) s):=bs0 (o_tag NT (by omega) (by simp)) ka_tag .tag
 cases sw with
 | true=>exact bs1 (o_mat N hp) ka_mat T1 (.mat (b:=b) (ns:=[]) rfl (by simp [ms']) (lkA_ms h13 _ _).2.2.2 rfl he (by simp) B)
 | false=>exact bs1 (o_mat N hp) ka_mat T1 (.mat (b:=b) (ns:=[]) rfl (by simp [ms]) (lkA_ms h13 _ _).2.1 rfl he (by simp) B)
theorem ev_matL {sw:Bool}{a b:Tm}{p:Nat}{y:Int}{env:Env}{s:Sm}(hy:y.natAbs < 2 ^ 20)(N:Nice p (matT w sw (gap y) a b))(hp:p<=900):∃ t s',Nl t/\Bs D (h + 2) (matT w sw (gap y) a b) env s (.ok t s')/\Gr 2 s s':=by
 cases sw with
 | true=>exact ⟨_,_,.left,bs1 (o_mat N hp) ka_mat (ev_gap (h:=h) hy) .matL,Gr.row.trans Gr.row⟩
 | false=>exact ⟨_,_,.left,bs1 (o_mat N hp) ka_mat (ev_gap (h:=h) hy) .matL,Gr.row.trans Gr.row⟩
theorem wth_out (hw:WOk w)(h13:w 1≠w 3)(hn:n<=800)(O:Out D h c e n g k)(A:Wth w k tm here):Out D (h + 6) (2 * c + 4) (e + 2) (n + 6) (g && here) tm:=by
 have N:=O.nice
 have ho0:∀ {o:Tm},Ot false o->∀ env s,∃ t s',N1 t/\Bs D (h + 2) o env s (.ok t s')/\Gr 1 s s':=fun q env s=>oth_ev0 q
 have gt:(g && true)=g:=by cases g <;> rfl
 have gf:(g && false)=false:=by cases g <;> rfl
 cases A with
 | @ifA0 x o h1 h2 ho =>
  rw [gt]
  have N3:Nice (1 + n + 2 + 1) (.mk .ife [num x,k,o]):=nice3 (hd:=.ife) rfl trivial (nice_num ⟨by omega,h2⟩) N ho.nice
  refine (out_of N3 fun env s he=>?_:Out D (h + 2) (c + 1) e _ g _).le (by omega) (by omega) (by omega) (by omega)
  obtain ⟨r,b,q,hr⟩:=O.at (hh:=h + 1) (by omega) (env:=env) (s:=s.up) he
  exact ⟨r,bs1 (o_ife N3 (by omega)) ka_ife (ev_num (h:=h)) (.ife (by rw [if_neg (by omega)];exact b)),(Gr.up.trans q).le (by omega),hr⟩
 | @ifA1 o ho =>
  rw [gf]
  have N3:Nice (1 + n + 2 + 1) (.mk .ife [num 0,k,o]):=nice3 (hd:=.ife) rfl trivial (nice_num (nb7 0)) N ho.nice
  refine (out_of N3 fun env s he=>?_:Out D (h + 3) (c + 2) e _ false _).le (by omega) (by omega) (by omega) (by omega)
  obtain ⟨t,s',v,b,q⟩:=ho0 ho env s.up
  exact ⟨_,bs1 (o_ife N3 (by omega)) ka_ife (ev_num (h:=h + 1)) (.ife (by rw [if_pos rfl];exact b)),(Gr.up.trans q).le (by omega),out_ok (P:=True) v.nl⟩
 | @ifA2 y o hy ho =>
  rw [gf]
  have N3:Nice (1 + n + 2 + 1) (.mk .ife [gap y,k,o]):=nice3 (hd:=.ife) rfl trivial (nice0 (hd:=.gap y) rfl hy) N ho.nice
  refine (out_of N3 fun env s he=>?_:Out D (h + 3) (c + 2) e _ false _).le (by omega) (by omega) (by omega) (by omega)
  exact ⟨_,bs1 (o_ife N3 (by omega)) ka_ife (ev_gap (h:=h + 1) hy) .ifL,(Gr.row.trans Gr.row).le (by omega),out_ok (P:=True) .left⟩
 | @ifB0 x o h1 h2 ho =>
  rw [gf]
  have N3:Nice (1 + 2 + n + 1) (.mk .ife [num x,o,k]):=nice3 (hd:=.ife) rfl trivial (nice_num ⟨by omega,h2⟩) ho.nice N
  refine (out_of N3 fun env s he=>?_:Out D (h + 3) (c + 2) e _ false _).le (by omega) (by omega) (by omega) (by omega)
  obtain ⟨t,s',v,b,q⟩:=ho0 ho env s.up
  exact ⟨_,bs1 (o_ife N3 (by omega)) ka_ife (ev_num (h:=h + 1)) (.ife (by rw [if_neg (by omega)];exact b)),(Gr.up.trans q).le (by omega),out_ok (P:=True) v.nl⟩
 | @ifB1 o ho =>
  rw [gt]
  have N3:Nice (1 + 2 + n + 1) (.mk .ife [num 0,o,k]):=nice3 (hd:=.ife) rfl trivial (nice_num (nb7 0)) ho.nice N
  refine (out_of N3 fun env s he=>?_:Out D (h + 2) (c + 1) e _ g _).le (by omega) (by omega) (by omega) (by omega)
  obtain ⟨r,b,q,hr⟩:=O.at (hh:=h + 1) (by omega) (env:=env) (s:=s.up) he
  exact ⟨r,bs1 (o_ife N3 (by omega)) ka_ife (ev_num (h:=h)) (.ife (by rw [if_pos rfl];exact b)),(Gr.up.trans q).le (by omega),hr⟩
 | @ifB2 y o hy ho =>
  rw [gf]
  have N3:Nice (1 + 2 + n + 1) (.mk .ife [gap y,o,k]):=nice3 (hd:=.ife) rfl trivial (nice0 (hd:=.gap y) rfl hy) ho.nice N
  refine (out_of N3 fun env s he=>?_:Out D (h + 3) (c + 2) e _ false _).le (by omega) (by omega) (by omega) (by omega)
  exact ⟨_,bs1 (o_ife N3 (by omega)) ka_ife (ev_gap (h:=h + 1) hy) .ifL,(Gr.row.trans Gr.row).le (by omega),out_ok (P:=True) .left⟩
 | @matA0 sw o ho =>
  rw [gt]
  have NT:Nice (1 + 1) (.mk (.tag (w 1)) [num 7]):=nice1 (hd:=.tag (w 1)) rfl (hw 1) (nice_num (nb7 7))
  have N3:=mat_nice (sw:=sw) hw NT N ho.nice
  refine (out_of N3 fun env s he=>?_:Out D (h + 3) (c + 1) (e + 1) _ g _).le (by omega) (by omega) (by omega) (by omega)
  obtain ⟨r,b,q,hr⟩:=O.at (hh:=h + 2) (by omega) (env:=boundE env [w 2] [numT 7]) (s:=s.up) (by have:=bound_len (env:=env) (xs:=[w 2]) (ts:=[numT 7]);simp at this;omega)
  exact ⟨r,ev_mat1 h13 N3 (by omega) hw (by omega) b,(Gr.up.trans q).le (by omega),hr⟩
 | @matA1 sw o ho =>
  rw [gf]
  have NT:Nice 1 (.mk (.tag (w 3)) []):=nice0 (hd:=.tag (w 3)) rfl (hw 3)
  have N3:=mat_nice (sw:=sw) hw NT N ho.nice
  refine (out_of N3 fun env s he=>?_:Out D (h + 3) (c + 2) (e + 1) _ false _).le (by omega) (by omega) (by omega) (by omega)
  obtain ⟨t,s',v,b,q⟩:=ho0 ho (boundE env [] []) s.up
  exact ⟨_,ev_mat3 h13 N3 (by omega) hw (by omega) b,(Gr.up.trans q).le (by omega),out_ok (P:=True) v.nl⟩
 | @matA2 sw y o hy ho =>
  rw [gf]
  have N3:=mat_nice (sw:=sw) hw (nice0 (hd:=.gap y) rfl hy) N ho.nice
  refine (out_of N3 fun env s he=>?_:Out D (h + 2) (c + 2) (e + 1) _ false _).le (by omega) (by omega) (by omega) (by omega)
  obtain ⟨t,s',v,b,q⟩:=ev_matL (D:=D) (h:=h) (env:=env) (s:=s) hy N3 (by omega)
  exact ⟨_,b,q.le (by omega),out_ok (P:=True) v⟩
 | @matB0 sw o ho =>
  rw [gf]
  have NT:Nice (1 + 1) (.mk (.tag (w 1)) [num 7]):=nice1 (hd:=.tag (w 1)) rfl (hw 1) (nice_num (nb7 7))
  have N3:=mat_nice (sw:=sw) hw NT ho.nice N
  refine (out_of N3 fun env s he=>?_:Out D (h + 3) (c + 2) (e + 1) _ false _).le (by omega) (by omega) (by omega) (by omega)
  obtain ⟨t,s',v,b,q⟩:=ho0 ho (boundE env [w 2] [numT 7]) s.up
  exact ⟨_,ev_mat1 h13 N3 (by omega) hw (by omega) b,(Gr.up.trans q).le (by omega),out_ok (P:=True) v.nl⟩
 | @matB1 sw o ho =>
  rw [gt]
  have NT:Nice 1 (.mk (.tag (w 3)) []):=nice0 (hd:=.tag (w 3)) rfl (hw 3)
  have N3:=mat_nice (sw:=sw) hw NT ho.nice N
  refine (out_of N3 fun env s he=>?_:Out D (h + 3) (c + 1) (e + 1) _ g _).le (by omega) (by omega) (by omega) (by omega)
  obtain ⟨r,b,q,hr⟩:=O.at (hh:=h + 2) (by omega) (env:=boundE env [] []) (s:=s.up) (by have:=bound_len (env:=env) (xs:=[]) (ts:=[]);simp at this;omega)
  exact ⟨r,ev_mat3 h13 N3 (by omega) hw (by omega) b,(Gr.up.trans q).le (by omega),hr⟩
 | @matB2 sw y o hy ho =>
  rw [gf]
  have N3:=mat_nice (sw:=sw) hw (nice0 (hd:=.gap y) rfl hy) ho.nice N
  refine (out_of N3 fun env s he=>?_:Out D (h + 2) (c + 2) (e + 1) _ false _).le (by omega) (by omega) (by omega) (by omega)
  obtain ⟨t,s',v,b,q⟩:=ev_matL (D:=D) (h:=h) (env:=env) (s:=s) hy N3 (by omega)
  exact ⟨_,b,q.le (by omega),out_ok (P:=True) v⟩
 | @fold0 o ho =>
  rw [gt]
  have NR:Nice (2 + 1 + 1) (.mk .row [o,num 2]):=nice2 (hd:=.row) rfl trivial ho.nice (nice_num (nb7 2))
  have N3:Nice (2 + 1 + 1 + 1 + n + 1) (.mk (.fold (w 0) (w 2)) [.mk .row [o,num 2],num 1,k]):=nice3 (hd:=.fold (w 0) (w 2)) rfl ⟨hw 0,hw 2⟩ NR (nice_num (nb7 1)) N
  refine (out_of N3 fun env s he=>?_:Out D (h + 4) (2 * c + 3) (e + 2) _ g _).le (by omega) (by omega) (by omega) (by omega)
  obtain ⟨t,s1,v,b,q⟩:=ho0 ho env s
  have RW:Bs D (h + 3) (.mk .row [o,num 2]) env s (.ok (rowT [t,numT 2]) s1):=bs2 (o_row NR (by omega) (by simp)) ka_row b (ev_num (h:=h + 1)) .row
  obtain ⟨r,b1,q1,hr⟩:=O.at (hh:=h + 3) (by omega) (env:=boundE env [w 0,w 2] [t,numT 1]) (s:=s1.up) (by have:=bound_len (env:=env) (xs:=[w 0,w 2]) (ts:=[t,numT 1]);simp at this;omega)
  cases g with
  | true =>
   obtain ⟨s',rfl⟩:=hr.1 rfl
   exact ⟨_,bs2 (o_fold N3 (by omega)) ka_fold RW (ev_num (h:=h + 2)) (.fold (by simp) (by omega) (.bad b1)),((q.trans Gr.up).trans q1).le (by omega),fun _=>⟨s',rfl⟩,fun z=>by cases z⟩
  | false =>
   obtain ⟨t1,s2,v1,rfl⟩:=hr.2 rfl
   obtain ⟨r2,b2,q2,hr2⟩:=O.at (hh:=h + 3) (by omega) (env:=boundE env [w 0,w 2] [numT 2,t1]) (s:=s2.up) (by have:=bound_len (env:=env) (xs:=[w 0,w 2]) (ts:=[numT 2,t1]);simp at this;omega)
   obtain ⟨t2,s3,v2,rfl⟩:=hr2.2 rfl
   exact ⟨_,bs2 (o_fold N3 (by omega)) ka_fold RW (ev_num (h:=h + 2)) (.fold (by simp) (by omega) (.more b1 (.more b2 .done))),((((q.trans Gr.up).trans q1).trans Gr.up).trans q2).le (by omega),out_ok (P:=True) v2⟩
 | fold1 =>
  rw [gf]
  have N3:Nice (1 + 1 + n + 1) (.mk (.fold (w 0) (w 2)) [.mk .row [],num 1,k]):=nice3 (hd:=.fold (w 0) (w 2)) rfl ⟨hw 0,hw 2⟩ nrow0 (nice_num (nb7 1)) N
  refine (out_of N3 fun env s he=>?_:Out D (h + 3) (c + 2) e _ false _).le (by omega) (by omega) (by omega) (by omega)
  exact ⟨_,bs2 (o_fold N3 (by omega)) ka_fold (ev_row0 (h:=h + 1)) (ev_num (h:=h + 1)) (.fold (by simp) (by omega) .done),Gr.refl.le (by omega),out_ok (P:=True) (.num (nb7 1))⟩
 | @fold2 y hy =>
  rw [gf]
  have N3:Nice (1 + 1 + n + 1) (.mk (.fold (w 0) (w 2)) [gap y,num 1,k]):=nice3 (hd:=.fold (w 0) (w 2)) rfl ⟨hw 0,hw 2⟩ (nice0 (hd:=.gap y) rfl hy) (nice_num (nb7 1)) N
  refine (out_of N3 fun env s he=>?_:Out D (h + 3) (c + 2) e _ false _).le (by omega) (by omega) (by omega) (by omega)
  exact ⟨_,bs2 (o_fold N3 (by omega)) ka_fold (ev_gap (h:=h + 1) hy) (ev_num (h:=h + 1)) .foldL,(Gr.row.trans Gr.row).le (by omega),out_ok (P:=True) .left⟩
theorem call_out {f:Str}{tm:Tm}(hf:NmOk f)(hD:lkD D f=some ([],enc tm))(O:Out D h c e n g tm)(he:e<=900):Out D (h + 1) (c + 1) 0 1 g (.mk (.call f) []):=by
 have N:Nice 1 (.mk (.call f) []):=nice0 (hd:=.call f) rfl hf
 refine out_of N fun env s _=>?_
 obtain ⟨r,b,q,hr⟩:=O.at (hh:=h) (Nat.le_refl _) (env:=boundE [] [] []) (s:=s.up) (by show 0 + e<=900;omega)
 exact ⟨r,bs0 (o_call N (by omega) (by simp)) ka_call (.call hD rfl (by simp) b),(Gr.up.trans q).le (by omega),hr⟩
end
end G28
namespace G28
open PySem L2
theorem log_small {n:Int}(h:n.natAbs < 2 ^ 20):n.natAbs.log2 < 20:=by
 by_cases z:n.natAbs=0
 ·rw [z];decide
 ·rw [Nat.log2_lt z];exact h
mutual
def tOk:T->Prop
 | .s x=>Lo x
 | .i n=>n.natAbs < 2 ^ 20
 | .n=>True
 | .t xs=>tOks xs
def tOks:List T->Prop
 | []=>True
 | x::r=>tOk x/\tOks r
end
mutual
def tW:T->Nat
 | .s x=>x.length
 | .i _=>20
 | .n=>0
 | .t xs=>tWs xs
def tWs:List T->Nat
 | []=>0
 | x::r=>tW x + 1 + tWs r
end
structure Sh (d:PyData) (w p:Nat):Prop where
 sh:d.showable=true
 nd:d.hasDict=false
 dp:d.depth<=p
 lf:d.leavesShort 13=true
 wt:d.weight<=w
structure Shs (d:List PyData) (w p:Nat):Prop where
 sh:PyData.showableAll d=true
 nd:PyData.hasDictAll d=false
 dp:PyData.depthAll d<=p
 lf:PyData.leavesShortAll 13 d=true
 wt:PyData.weightAll d<=w
theorem shs_of:∀ {xs:List T},(∀ x∈xs,tOk x->Sh x.py (tW x) x.dep)->tOks xs->Shs (T.pys xs) (tWs xs) (T.deps xs)
 | [],_,_=>by rw [T.pys];exact ⟨rfl,rfl,Nat.zero_le _,rfl,Nat.le_refl _⟩
 | x::r,h,ok=>by
  have a:=h x (.head _) ok.1
  have b:=shs_of (xs:=r) (fun y hy=>h y (.tail _ hy)) ok.2
  rw [T.pys,tWs,T.deps]
  refine ⟨?_,?_,?_,?_,?_⟩
  ·rw [PyData.showableAll,a.sh,b.sh];rfl
  ·rw [PyData.hasDictAll,a.nd,b.nd];rfl
  ·rw [PyData.depthAll];have:=a.dp;have:=b.dp;omega
  ·rw [PyData.leavesShortAll,a.lf,b.lf];rfl
  ·rw [PyData.weightAll];have:=a.wt;have:=b.wt;omega
theorem sh_of (t:T):tOk t->Sh t.py (tW t) t.dep:=by
 refine T.induct (P:=fun t=>tOk t->Sh t.py (tW t) t.dep) ?_ ?_ ?_ ?_ t
 ·intro x ok
  rw [T.py,tW]
  refine ⟨rfl,rfl,Nat.le_refl _,?_,Nat.le_refl _⟩
  show (x.cps.toList.all fun c=>decide (c < 16 ^ 8))=true
  rw [List.all_eq_true]
  intro c hc
  have:=ok c hc
  have e:(16:Nat) ^ 8=4294967296:=by decide
  exact decide_eq_true (by omega)
 ·intro n ok
  have l:=log_small ok
  have e:(10:Nat) ^ 12=1000000000000:=by decide
  have e2:(2:Nat) ^ 20=1048576:=by decide
  have ok':n.natAbs < 2 ^ 20:=ok
  rw [T.py,tW]
  refine ⟨decide_eq_true (by omega),rfl,Nat.le_refl _,decide_eq_true (PyData.shown_int_le (by omega)),?_⟩
  simp only [PyData.weight]
  split <;> omega
 ·intro _
  rw [T.py,tW]
  exact ⟨rfl,rfl,Nat.le_refl _,rfl,Nat.le_refl _⟩
 ·intro xs ih ok
  have b:=shs_of ih ok
  rw [T.py,tW,T.dep]
  exact ⟨b.sh,b.nd,by rw [PyData.depth];have:=b.dp;omega,b.lf,b.wt⟩
theorem shows_T {t:T}(ok:tOk t)(hd:t.dep<=100)(hw:tW t<=2 ^ 20):Shows t.py:=by
 have a:=sh_of t ok
 exact ⟨a.sh,a.nd,Nat.le_trans a.dp hd,PyData.shown_fits (B:=13) (by decide) (by decide) a.lf (Nat.le_trans a.wt hw)⟩
theorem lo_of (x:Str)(h:(x.cps.toList.all (· < 1000))=true):Lo x:=fun c hc=>by
 have:=List.all_eq_true.mp h c hc
 simpa using this
theorem tWs_app:∀ (a b:List T),tWs (a++b)=tWs a + tWs b
 | [],b=>by simp [tWs]
 | x::r,b=>by simp only [List.cons_append,tWs,tWs_app r b];omega
theorem tmlo_inv {h:Hd}{ks:List Tm}(a:TmLo (.mk h ks)):hdLo h/\∀ k∈ks,TmLo k:=by cases a with | mk a b=>exact ⟨a,b⟩
theorem wf_inv {h:Hd}{ks:List Tm}(a:Wf (.mk h ks)):arOk h ks.length=true/\∀ k∈ks,Wf k:=by cases a with | mk a b=>exact ⟨a,b⟩
structure Tk (tm:Tm):Prop where
 ok:tOk (enc tm)
 w:tW (enc tm) + 100<=400 * tm.size
 d:(enc tm).dep<=3 * tm.size + 2
structure Tks (ks:List Tm):Prop where
 ok:tOks (ks.map enc)
 w:tWs (ks.map enc)<=400 * Tm.sizes ks
 d:T.deps (ks.map enc)<=3 * Tm.sizes ks + 2
theorem tks_of:∀ {ks:List Tm},(∀ k∈ks,Tk k)->Tks ks
 | [],_=>⟨trivial,by simp [tWs],by simp [T.deps]⟩
 | k::r,h=>by
  have a:=h k (.head _)
  have b:=tks_of (ks:=r) (fun x hx=>h x (.tail _ hx))
  have:=a.w;have:=b.w;have:=a.d;have:=b.d
  refine ⟨⟨a.ok,b.ok⟩,?_,?_⟩
  ·rw [List.map_cons,tWs,Tm.sizes];omega
  ·rw [List.map_cons,T.deps,Tm.sizes];omega
theorem nms_tb:∀ {xs:List Str},(∀ x∈xs,NmOk x)->tOks (xs.map T.s)/\tWs (xs.map T.s)<=21 * xs.length/\T.deps (xs.map T.s)<=0
 | [],_=>⟨trivial,by simp [tWs],by simp [T.deps]⟩
 | x::r,h=>by
  obtain ⟨b1,b2,b3⟩:=nms_tb (xs:=r) (fun y hy=>h y (.tail _ hy))
  have a:=h x (.head _)
  have:=a.1
  refine ⟨⟨a.2,b1⟩,?_,?_⟩
  ·rw [List.map_cons,tWs,tW,List.length_cons];omega
  ·rw [List.map_cons];simp only [T.deps,T.dep];omega
structure TkA (ts:List T) (n:Nat):Prop where
 ok:tOks ts
 w:tWs ts<=400 * n
 d:T.deps ts<=3 * n + 3
theorem arms_tb:∀ {arms:List (Str × List Str)} {ks:List Tm},(∀ a∈arms,NmOk a.1/\a.2.length<=2/\∀ x∈a.2,NmOk x)->(∀ k∈ks,Tk k)->TkA (List.zipWith armT arms (ks.map enc)) (Tm.sizes ks)
 | [],_,_,_=>by rw [List.zipWith_nil_left];exact ⟨trivial,by simp [tWs],by simp [T.deps]⟩
 | _::_,[],_,_=>by rw [List.map_nil,List.zipWith_nil_right];exact ⟨trivial,by simp [tWs],by simp [T.deps]⟩
 | a::r,k::q,h,g=>by
  have b:=arms_tb (arms:=r) (ks:=q) (fun x hx=>h x (.tail _ hx)) (fun x hx=>g x (.tail _ hx))
  have c:=g k (.head _)
  obtain ⟨h1,h2,h3⟩:=h a (.head _)
  obtain ⟨n1,n2,n3⟩:=nms_tb h3
  have:=h1.1;have:=c.w;have:=b.w;have:=c.d;have:=b.d
  rw [List.map_cons,List.zipWith_cons_cons]
  refine ⟨⟨⟨h1.2,n1,c.ok,trivial⟩,b.ok⟩,?_,?_⟩
  ·simp only [tWs,armT,tW,Tm.sizes];omega
  ·simp only [T.deps,armT,T.dep,Tm.sizes];omega
theorem oks_app:∀ {a b:List T},tOks a->tOks b->tOks (a++b)
 | [],_,_,h=>h
 | _::_,_,⟨x,y⟩,h=>⟨x,oks_app y h⟩
theorem deps_app:∀ (a b:List T),T.deps (a++b)=max (T.deps a) (T.deps b)
 | [],b=>by simp [T.deps]
 | x::r,b=>by simp only [List.cons_append,T.deps,deps_app r b];omega
structure Pre (pre:List T):Prop where
 ok:tOks pre
 w:tWs pre<=250
 d:T.deps pre<=0
theorem tk_app {h:Hd}{ks:List Tm}{pre:List T}(e:enc (.mk h ks)=.t (pre++ks.map enc))(p:Pre pre)(ka:Tks ks):Tk (.mk h ks):=by
 have:=p.w;have:=p.d;have:=ka.w;have:=ka.d
 refine ⟨?_,?_,?_⟩ <;> rw [e]
 ·exact oks_app p.ok ka.ok
 ·simp only [tW,tWs_app,Tm.size];omega
 ·simp only [T.dep,deps_app,Tm.size];omega
theorem tk_in {h:Hd}{ks:List Tm}{pre:List T}(e:enc (.mk h ks)=.t (pre++[.t (ks.map enc)]))(p:Pre pre)(ka:Tks ks):Tk (.mk h ks):=by
 have:=p.w;have:=p.d;have:=ka.w;have:=ka.d
 refine ⟨?_,?_,?_⟩ <;> rw [e]
 ·exact oks_app p.ok ⟨ka.ok,trivial⟩
 ·simp only [tW,tWs,tWs_app,Tm.size];omega
 ·simp only [T.dep,T.deps,deps_app,Tm.size];omega
def kwOk (x:Str):Bool:=decide (x.length<=20) && x.cps.toList.all (· < 1000)
theorem kw_nm {x:Str}(h:kwOk x=true):NmOk x:=by
 unfold kwOk at h
 rw [Bool.and_eq_true] at h
 exact ⟨of_decide_eq_true h.1,lo_of x h.2⟩
theorem pre1 {x:Str}(h:NmOk x):Pre [.s x]:=⟨⟨h.2,trivial⟩,by simp only [tWs,tW];have:=h.1;omega,by simp [T.deps,T.dep]⟩
theorem pre2 {x y:Str}(h:NmOk x)(g:NmOk y):Pre [.s x,.s y]:=⟨⟨h.2,g.2,trivial⟩,by simp only [tWs,tW];have:=h.1;have:=g.1;omega,by simp [T.deps,T.dep]⟩
theorem pre2i {x:Str}{n:Int}(h:NmOk x)(g:n.natAbs < 2 ^ 20):Pre [.s x,.i n]:=⟨⟨h.2,g,trivial⟩,by simp only [tWs,tW];have:=h.1;omega,by simp [T.deps,T.dep]⟩
theorem nil_of {ks:List Tm}(h:(ks.length == 0)=true):ks=[]:=by simpa using h
theorem tm_tk:∀ tm:Tm,Wf tm->TmLo tm->Tk tm:=by
 intro tm
 refine Tm.induct (P:=fun tm=>Wf tm->TmLo tm->Tk tm) ?_ tm
 intro h ks ih wf lo
 obtain ⟨ar,wfs⟩:=wf_inv wf
 obtain ⟨hl,los⟩:=tmlo_inv lo
 have kk:∀ k∈ks,Tk k:=fun k hk=>ih k hk (wfs k hk) (los k hk)
 have ka:=tks_of kk
 clear ih wf lo wfs los
 cases h with
 | num n=>obtain rfl:=nil_of ar;exact tk_app (pre:=[.s "num",.i n]) (by rw [enc_mk];rfl) (pre2i (kw_nm (by decide +kernel)) hl) ka
 | name x=>obtain rfl:=nil_of ar;exact tk_app (pre:=[.s "name",.s x]) (by rw [enc_mk];rfl) (pre2 (kw_nm (by decide +kernel)) hl) ka
 | gap n=>obtain rfl:=nil_of ar;exact tk_app (pre:=[.s "gap",.i n]) (by rw [enc_mk];rfl) (pre2i (kw_nm (by decide +kernel)) hl) ka
 | op s=>exact tk_app (pre:=[.s "op",.s s]) (by rw [enc_mk];rfl) (pre2 (kw_nm (by decide +kernel)) hl) ka
 | row=>exact tk_in (pre:=[.s "row"]) (by rw [enc_mk];rfl) (pre1 (kw_nm (by decide +kernel))) ka
 | more=>exact tk_app (pre:=[.s "more"]) (by rw [enc_mk];rfl) (pre1 (kw_nm (by decide +kernel))) ka
 | first=>exact tk_app (pre:=[.s "first"]) (by rw [enc_mk];rfl) (pre1 (kw_nm (by decide +kernel))) ka
 | others=>exact tk_app (pre:=[.s "others"]) (by rw [enc_mk];rfl) (pre1 (kw_nm (by decide +kernel))) ka
 | long=>exact tk_app (pre:=[.s "long"]) (by rw [enc_mk];rfl) (pre1 (kw_nm (by decide +kernel))) ka
 | tag t=>exact tk_in (pre:=[.s "tag",.s t]) (by rw [enc_mk];rfl) (pre2 (kw_nm (by decide +kernel)) hl) ka
 | call t=>exact tk_in (pre:=[.s "call",.s t]) (by rw [enc_mk];rfl) (pre2 (kw_nm (by decide +kernel)) hl) ka
 | ife=>exact tk_app (pre:=[.s "if"]) (by rw [enc_mk];rfl) (pre1 (kw_nm (by decide +kernel))) ka
 | lt x=>exact tk_app (pre:=[.s "let",.s x]) (by rw [enc_mk];rfl) (pre2 (kw_nm (by decide +kernel)) hl) ka
 | mat arms =>
  cases ks with
  | nil=>simp [arOk] at ar
  | cons k q =>
   have a:=arms_tb (arms:=arms) (ks:=q) hl (fun x hx=>kk x (.tail _ hx))
   have b:=kk k (.head _)
   have c:NmOk ("match":Str):=kw_nm (by decide +kernel)
   have:=a.w;have:=a.d;have:=b.w;have:=b.d;have:=c.1
   refine ⟨?_,?_,?_⟩ <;> rw [e_mat]
   ·exact ⟨c.2,b.ok,a.ok,trivial⟩
   ·simp only [tW,tWs,Tm.size,Tm.sizes];omega
   ·simp only [T.dep,T.deps,Tm.size,Tm.sizes];omega
 | fold x y =>
  match ks,ar,kk with
  | [k1,k2,k3],_,kk =>
   have a1:=kk k1 (.head _)
   have a2:=kk k2 (.tail _ (.head _))
   have a3:=kk k3 (.tail _ (.tail _ (.head _)))
   have c:NmOk ("fold":Str):=kw_nm (by decide +kernel)
   have:=a1.w;have:=a1.d;have:=a2.w;have:=a2.d;have:=a3.w;have:=a3.d;have:=c.1;have:=hl.1.1;have:=hl.2.1
   refine ⟨?_,?_,?_⟩ <;> rw [e_fold]
   ·exact ⟨c.2,a1.ok,hl.1.2,hl.2.2,a2.ok,a3.ok,trivial⟩
   ·simp only [tW,tWs,Tm.size,Tm.sizes];omega
   ·simp only [T.dep,T.deps,Tm.size,Tm.sizes];omega
end G28
namespace G28
open PySem L2
@[irreducible] def kst1:Stmt:=(defBody s_L_names).getD 4 (.Pass ⟨0,0,0,0⟩)
@[irreducible] def kst2:Stmt:=(defBody s_L_names).getD 5 (.Pass ⟨0,0,0,0⟩)
@[irreducible] def esK1:List Expr:=match (defBody s_L_names).getD 4 (.Pass ⟨0,0,0,0⟩) with
 | .Assign _ (.List es _) _=>es
 | _=>[]
@[irreducible] def esK2:List Expr:=match (defBody s_L_names).getD 5 (.Pass ⟨0,0,0,0⟩) with
 | .Assign _ (.BinOp _ _ (.List es _) _) _=>es
 | _=>[]
@[irreducible] def posK (i:Nat):Pos:=match (defBody s_L_names).getD 4 (.Pass ⟨0,0,0,0⟩),(defBody s_L_names).getD 5 (.Pass ⟨0,0,0,0⟩) with
 | .Assign [.Name _ a] (.List _ b) c,.Assign [.Name _ d] (.BinOp (.Name _ e) _ (.List _ f) g) h=>[a,b,c,d,e,f,g,h].getD i a
 | _,_=>⟨0,0,0,0⟩
def keptA:List Str:=["num","row","kind","def","more","first","others","long","match","if","let","fold","call"]
def keptB:List Str:=["gap","in","world","fault","left"]
theorem kst1_eq:kst1=.Assign [.Name "_law_kept" (posK 0)] (.List esK1 (posK 1)) (posK 2):=by unfold kst1 esK1 posK;kernel_rfl
theorem kst2_eq:kst2=.Assign [.Name "_law_kept" (posK 3)] (.BinOp (.Name "_law_kept" (posK 4)) .Add (.List esK2 (posK 5)) (posK 6)) (posK 7):=by unfold kst2 esK2 posK;kernel_rfl
theorem sK1:strsOf esK1=some keptA:=by unfold esK1;kernel_rfl
theorem sK2:strsOf esK2=some keptB:=by unfold esK2;kernel_rfl
theorem names_body:defBody s_L_names=(defBody s_L_names).take 4++(kst1::kst2::(defBody s_L_names).drop 6):=by unfold kst1 kst2;kernel_rfl
theorem ps_k1 {X:Cx}(hn:X.N.Nodup)(hl:Lm X.N X.env.scope)(h7:X.N[7]?=some ("_law_kept":Str))(hf:X.fn "_law_kept"=true):PS X kst1 (tAsg (tLst (tStrs keptA)) (gName 7)):=by
 rw [kst1_eq]
 exact sa hn hl 7 (pe_lst (pa_strs sK1)) h7 rfl (.inl hf)
theorem ps_k2 {X:Cx}(hn:X.N.Nodup)(hl:Lm X.N X.env.scope)(hv:Nm X.N X.env.scope)(h7:X.N[7]?=some ("_law_kept":Str))(hf:X.fn "_law_kept"=true):PS X kst2 (tAsg (tOp rCat (tVar 7) (tLst (tStrs keptB))) (gName 7)):=by
 rw [kst2_eq]
 exact sa hn hl 7 (pe_op op_cat (va hv 7 h7) (pe_lst (pa_strs sK2))) h7 rfl (.inl hf)
theorem atI_m2 {α:Type}(xs:List α)(a b:α):atI (xs++[a,b]) (-2)=some a:=by
 unfold atI ixN
 have l:(xs++[a,b]).length=xs.length + 2:=by simp
 rw [l,if_neg (by decide),if_pos (by omega)]
 have e:(-2 + ((xs.length + 2:Nat):Int)).toNat=xs.length:=by omega
 rw [Option.bind_some,e]
 simp
theorem ixN_m1 (n m:Nat)(h:n=m + 1):ixN n (-1)=some m:=by
 unfold ixN
 rw [if_neg (by decide),if_pos (by omega)]
 congr 1
 omega
section
variable {P : Program} {w : World} {K : PySem.W.Frag} {mg : Str → Option Value} {base : Heap} {gT : Addr} {tfd : FuncData}
theorem nm_L_names:Nm ["_law_feed_here","_law_many","_law_letters","_law_stem","_law_first","_law_at","_law_turn","_law_kept","_law_found","_law_k","_law_sign","_law_name"] (defScope s_L_names):=by decide +kernel
theorem lm_L_names:Lm ["_law_feed_here","_law_many","_law_letters","_law_stem","_law_first","_law_at","_law_turn","_law_kept","_law_found","_law_k","_law_sign","_law_name"] (defScope s_L_names):=by decide +kernel
theorem sc_L_names:FnScope ["_law_feed_here","_law_many","_law_letters","_law_stem","_law_first","_law_at","_law_turn","_law_kept","_law_found","_law_k","_law_sign","_law_name"] ["_law_feed_here","_law_many"] (defScope s_L_names):=⟨rfl,rfl,rfl,by decide +kernel,rfl,by decide +kernel,by decide +kernel⟩
theorem ok_names {f:Addr}{fd:FuncData}(F:Fun K "_law_names" "_law_names" s_L_names f fd)(TK:Has P w K mg base "_law_take" 1 ["_law_feed_here","_law_many"] spTake gT tfd)(z_range:mg "range"=none)(z_len:mg "len"=none)(z_int:mg "int"=none) :
  FnOk P w K mg base CX0 2 f fd ["_law_feed_here","_law_many"] spNames:=by
 refine F.ok sc_L_names (fun vs H Q E h=>?_) (fun cdv A outer s H vs Q E hr h=>?_)
 ·obtain ⟨v,tm,rfl,_⟩:=h
  rfl
 obtain ⟨r,m,rfl,m1,m2,hf,k⟩:=h
 rw [names_body]
 refine ⟨_,(pss_cons (sa sc_L_names.nd lm_L_names 2 pe_str)
  (pss_cons (sa sc_L_names.nd lm_L_names 3 (pe_bm PySem.F.plainAttrs_str PySem.F.slot_str_join PySem.F.type_str_join mt_join pe_str (pa_cons (pe_compC (defScope s_L_names) ["_law_feed_here","_law_many","_law_letters","_law_stem","_law_first","_law_at","_law_turn","_law_kept","_law_found","_law_k","_law_sign","_law_name"] ["_law_k"] [0,2] rfl rfl rfl (by decide +kernel) (pi_range1 (by show _=_;kernel_rfl) z_range (pa_cons (pe_call TK.ok (hr.mono (by omega)) (by show _=_;kernel_rfl) TK.at' TK.kp TK.bd .nil pass0 (pa_cons (va nm_L_names 0) (pa_cons pe_int pa_nil))) pa_nil)) (fun _ _ _ _=>(pg_name (i:=0) (show (["_law_k","_law_feed_here","_law_letters"]:List Str).Nodup by decide +kernel) rfl (Or.inl (by kernel_rfl)) (by first | exact .inl rfl | exact .inr (by kernel_rfl)))) (fun _ _ _ _=>pifs_nil) (fun _ _ _ _=>(pe_ix ix_str (va (show Nm ["_law_k","_law_feed_here","_law_letters"] _ by show _=_;kernel_rfl) 2) (pe_call TK.ok (hr.mono (by omega)) (by show _=_;kernel_rfl) TK.at' TK.kp TK.bd .nil pass0 (pa_cons (va (show Nm ["_law_k","_law_feed_here","_law_letters"] _ by show _=_;kernel_rfl) 1) (pa_cons pe_int pa_nil))) (fun _ _=>rfl)))) pa_nil) (hbase:=by kernel_rfl) (hfew:=by kernel_rfl) (hline:=by kernel_rfl) (hs:=by kernel_rfl) (hplain:=by kernel_rfl)))
  (pss_cons (ps_par (i:=4) (j:=5) rfl sc_L_names.nd rfl rfl (by decide) rfl rfl (pa_cons (pe_call TK.ok (hr.mono (by omega)) (by show _=_;kernel_rfl) TK.at' TK.kp TK.bd .nil pass0 (pa_cons (va nm_L_names 0) (pa_cons pe_int pa_nil))) (pa_cons (pe_call TK.ok (hr.mono (by omega)) (by show _=_;kernel_rfl) TK.at' TK.kp TK.bd .nil pass0 (pa_cons (va nm_L_names 0) (pa_cons (pe_op op_add (pe_callB call_len_str (by show _=_;kernel_rfl) z_len PySem.boot_len (pa_cons (va nm_L_names 3) pa_nil)) pe_int) pa_nil))) pa_nil)) (by rfl))
  (pss_cons (sa sc_L_names.nd lm_L_names 6 (pe_call TK.ok (hr.mono (by omega)) (by show _=_;kernel_rfl) TK.at' TK.kp TK.bd .nil pass0 (pa_cons (va nm_L_names 0) (pa_cons pe_int pa_nil))))
  (pss_cons (ps_k1 sc_L_names.nd lm_L_names rfl rfl)
  (pss_cons (ps_k2 sc_L_names.nd lm_L_names nm_L_names rfl rfl)
  (pss_cons (sa sc_L_names.nd lm_L_names 8 (pe_lst pa_nil))
  (pss_cons (ps_for PassesOwn.never rfl (pi_range1 (by show _=_;kernel_rfl) z_range (pa_cons (va nm_L_names 1) pa_nil)) (ga sc_L_names.nd lm_L_names 9)
   (pss_cons (sa sc_L_names.nd lm_L_names 10 (pe_ix ix_str (va nm_L_names 2) (pe_op op_mod (pe_op op_add (va nm_L_names 4) (pe_op op_mul pe_int (va nm_L_names 9))) pe_int) (fun _ _=>rfl)))
  (pss_cons (sa sc_L_names.nd lm_L_names 11 (pe_op op_add_str (pe_op op_add_str (pe_slice sl_str (va nm_L_names 3) po_none (po_some (va nm_L_names 5))) (va nm_L_names 10)) (pe_slice sl_str (va nm_L_names 3) (po_some (va nm_L_names 5)) (po_some (pe_op op_mod (pe_op op_add (va nm_L_names 6) (va nm_L_names 9)) pe_int)))))
  (pss_one (ps_expr (pe_bm PySem.F.plainAttrs_list PySem.F.slot_list_append PySem.F.type_list_append mt_append (va nm_L_names 8) (pa_cons (pe_op op_add_str (va nm_L_names 11) (pe_op op_mul_str pe_str (pe_callTy call_int1 (by show _=_;kernel_rfl) z_int PyProof.Rows.boot_int (pa_cons (pe_cmpR op_in_seq (va nm_L_names 11) (va nm_L_names 7) (by with_unfolding_all rfl)) pa_nil)))) pa_nil)))))))
  (pss_cons (ps_if (PW.pt (pw_and (pt_cmpR op_gt (va nm_L_names 1) pe_int (nomark _)) (pw_and (pt_cmpR op_lt (pe_callB call_len_str (by show _=_;kernel_rfl) z_len PySem.boot_len (pa_cons (pe_ix ix_list (va nm_L_names 8) (pe_un un_neg pe_int) (fun _ _=>rfl)) pa_nil)) pe_int (nomark _)) (pw_and1 (pt_cmpR op_eq (pe_call TK.ok (hr.mono (by omega)) (by show _=_;kernel_rfl) TK.at' TK.kp TK.bd .nil pass0 (pa_cons (va nm_L_names 0) (pa_cons pe_int pa_nil))) pe_int (nomark _)))))) (pss_one (ps_asg (pe_op op_add_str (pe_ix ix_list (va nm_L_names 8) (pe_un un_neg pe_int) (fun _ _=>rfl)) pe_str) (pg_sub (va nm_L_names 8) (pe_un un_neg pe_int) set_list))) pss_nil)
  (pss_one (ps_ret (va nm_L_names 8)))))))))))),?_⟩
 refine ⟨rfl,_,rfl,r,5,rfl,by decide,by decide,hf,fun q H2 q0 q6 e2=>?_⟩
 refine ⟨_,rfl,by omega,by omega,?_⟩
 have n7:(q:Int).toNat<=4:=by omega
 refine comp_range (n:=q.toNat) (fun i σ vs Hc=>(∃ v,σ=[v,some (.ref r),some (.str "abcdefghijklmnopqrstuvwxyz")])/\Ext r H2 Hc/\∃ cs:List Nat,vs=(cs.map fun c=>(⟨#[c]⟩:Str)).map V.str/\cs.length=i/\∀ c∈cs,c < 1000)
  ⟨⟨none,rfl⟩,Ext.refl e2.2,[],rfl,rfl,fun _ h=>nomatch h⟩ (fun i σ vs Hc _ ⟨_,_,cs,e,el,_⟩=>by rw [e,List.length_map,List.length_map];omega) (small (by omega)) ?_ ?_
 ·rintro i' σ vs Hc hi' ⟨⟨v,rfl⟩,ext,cs,rfl,hcl,hlo⟩
  refine ⟨_,rfl,_,rfl,r,26,rfl,by decide,by decide,ext.2,fun d H3 d0 d1 ext2=>?_⟩
  obtain ⟨c,hc1,hc2⟩:=atS (z:="abcdefghijklmnopqrstuvwxyz") d0 d1
  refine ⟨_,d,c,rfl,rfl,(by decide +kernel),hc1,?_⟩
  exact ⟨⟨_,rfl⟩,ext.trans ext2,cs++[c],by rw [List.map_append,List.map_append];rfl,by rw [List.length_append,hcl];rfl,fun c' h=>by rcases List.mem_append.mp h with h | h;exact hlo c' h;rw [List.mem_singleton.mp h];exact lets_lo c hc2⟩
 rintro σ vs Hc ⟨⟨v,rfl⟩,ext,cs,rfl,hcl,hlo⟩ p hp
 refine ⟨_,p,_,rfl,rfl,SqL.of upd_same,?_,?_⟩
 ·have z:(Str.ofString "").length=0:=by decide
  rw [sum_ones,z]
  omega
 rw [join_cs]
 have kp1:Ext r H (upd Hc p (.lst ((cs.map fun c=>(⟨#[c]⟩:Str)).map V.str))):=(e2.trans ext).new hp _
 have ly:(⟨cs.toArray⟩:Str).length<=4:=by rw [len_cs];omega
 have hy:Lo ⟨cs.toArray⟩:=fun c h=>hlo c (by simpa using h)
 generalize upd Hc p (.lst ((cs.map fun c=>(⟨#[c]⟩:Str)).map V.str))=H4 at kp1 ⊢
 generalize (⟨cs.toArray⟩:Str)=y at ly hy ⊢
 refine ⟨_,rfl,r,26,rfl,by decide,by decide,kp1.2,fun d1 H5 b1 c1 e5=>?_⟩
 refine ⟨_,rfl,_,rfl,_,rfl,small (by omega),_,_,rfl,rfl,r,_,rfl,by omega,by omega,e5.2,fun d2 H6 b2 c2 e6=>?_⟩
 refine ⟨_,_,rfl,?_⟩
 refine ⟨_,rfl,r,5,rfl,by decide,by decide,e6.2,fun d3 H7 b3 c3 e7=>?_⟩
 have x7:Ext r H H7:=kp1.trans (e5.trans (e6.trans e7))
 have lk1:keptA.length<=100:=by decide
 have lk2:keptB.length<=100:=by decide
 refine ⟨by rw [List.length_map];exact small (by omega),fun p8 hp8=>?_⟩
 refine ⟨_,rfl,by rw [List.length_map];exact small (by omega),fun p9 hp9=>?_⟩
 generalize keptA=ks1 at lk1 hp9 ⊢
 generalize keptB=ks2 at lk2 hp9 ⊢
 refine ⟨p8,p9,_,_,rfl,rfl,(same_new hp9 _) _ _ upd_same,upd_same,by rw [List.length_map,List.length_map];exact small (by omega),fun p10 hp10=>?_⟩
 have x10:Ext r H (upd (upd (upd H7 p8 (.lst (ks1.map V.str))) p9 (.lst (ks2.map V.str))) p10 (.lst (ks1.map V.str++ks2.map V.str))):=((x7.new hp8 _).new hp9 _).new hp10 _
 have h10:upd (upd (upd H7 p8 (.lst (ks1.map V.str))) p9 (.lst (ks2.map V.str))) p10 (.lst (ks1.map V.str++ks2.map V.str)) p10=some (.lst ((ks1++ks2).map V.str)):=by rw [upd_same,List.map_append]
 generalize upd (upd (upd H7 p8 (.lst (ks1.map V.str))) p9 (.lst (ks2.map V.str))) p10 (.lst (ks1.map V.str++ks2.map V.str))=H10 at x10 h10 ⊢
 refine ⟨Nat.zero_le _,fun l hl=>?_⟩
 have hfl:H l=none:=Ext.free x10 hl
 have nlr:l≠r:=fun z=>by subst z;obtain ⟨a,b,z⟩:=x10.2;rw [hl] at z;cases z
 have n10:p10≠l:=ne_of_none h10 hl
 have x11:Ext r H (upd H10 l (.lst [])):=x10.new hl _
 refine ⟨_,rfl,_,rfl,by omega,by omega,?_⟩
 refine for_range (n:=m) (fun i σ Hi=>∃ (xs:List Str) (v9 v10 v11:Option V),σ=[some (.ref r),some (.int m),some (.str "abcdefghijklmnopqrstuvwxyz"),some (.str y),some (.int d1),some (.int d2),some (.int d3),some (.ref p10),some (.ref l),v9,v10,v11]/\xs.length=i/\((∀ x∈xs,x.length<=10)/\(∀ x∈xs,Lo x)/\∀ j x,xs[j]?=some x->Nmd (Txt.slice y none (some d2)).cps.toList d1 j x)/\Hi l=some (.lst (xs.map V.str))/\Hi p10=some (.lst ((ks1++ks2).map V.str))/\Ext r H Hi)
  ⟨[],none,none,none,rfl,rfl,⟨(fun _ h=>nomatch h),(fun _ h=>nomatch h),(fun j x h=>by simp at h)⟩,upd_same,by rw [upd_ne n10];exact h10,x11⟩ ?_ ?_
 ·rintro i σ Hi hi ⟨xs,v9,v10,v11,rfl,hxl,⟨hxs,hlx,hnm⟩,hli,hpi,xi⟩
  have hm:0<=(d1 + 7 * (0 + (i:Int))) % 26/\(d1 + 7 * (0 + (i:Int))) % 26 < 26:=by omega
  obtain ⟨c,hc1,hc2⟩:=atS (z:="abcdefghijklmnopqrstuvwxyz") (r:=(d1 + 7 * (0 + (i:Int))) % 26) hm.1 hm.2
  refine ⟨_,rfl,_,rfl,_,rfl,_,_,rfl,rfl,.inl ⟨by decide,by decide⟩,_,_,rfl,rfl,_,_,rfl,rfl,(by show (0:Int) < 26;decide),_,_,c,rfl,rfl,(by decide +kernel),hc1,?_⟩
  have la:=PySem.Txt.slice_le y none (some d2)
  have lb:=PySem.Txt.slice_le y (some d2) (some ((d3 + (0 + (i:Int))) % 5))
  refine ⟨_,rfl,_,rfl,_,rfl,_,rfl,small (by omega),_,rfl,_,_,rfl,rfl,small (by show _ + 1<=1000;omega),?_⟩
  refine ⟨_,rfl,_,rfl,_,rfl,_,rfl,_,rfl,_,_,rfl,rfl,_,_,rfl,rfl,(by show (0:Int) < 5;decide),_,rfl,_,rfl,small (by omega),?_⟩
  have lc:(Txt.slice y none (some d2)++(⟨#[c]⟩:Str)).length=(Txt.slice y none (some d2)).length + 1:=by rw [strLen_append];rfl
  refine ⟨_,_,rfl,rfl,small (by omega),?_⟩
  have ln:(Txt.slice y none (some d2)++(⟨#[c]⟩:Str)++Txt.slice y (some d2) (some ((d3 + (0 + (i:Int))) % 5))).length<=9:=by rw [strLen_append];omega
  have hl0:Lo (Txt.slice y none (some d2)++(⟨#[c]⟩:Str)++Txt.slice y (some d2) (some ((d3 + (0 + (i:Int))) % 5))):=((hy.slice _ _).append (Lo.one hc2)).append (hy.slice _ _)
  have hn0:Nmd (Txt.slice y none (some d2)).cps.toList d1 i (Txt.slice y none (some d2)++(⟨#[c]⟩:Str)++Txt.slice y (some d2) (some ((d3 + (0 + (i:Int))) % 5))):=by
   refine Nmd.snoc ⟨c,[],?_,?_⟩ _
   ·rw [Int.zero_add] at hc1;exact hc1
   ·show ((Txt.slice y none (some d2)).cps++#[c]).toList=_
    rw [Array.toList_append]
  generalize Txt.slice y none (some d2)++(⟨#[c]⟩:Str)++Txt.slice y (some d2) (some ((d3 + (0 + (i:Int))) % 5))=nm at ln hn0 hl0 ⊢
  refine ⟨_,rfl,.inl ⟨rfl,_,SqL.of hli⟩,_,rfl,_,rfl,_,rfl,p10,_,rfl,.inl (SqL.of hpi),rfl,flat_strs _,.inr ⟨_,rfl,?_⟩⟩
  generalize inV (V.str nm) ((ks1++ks2).map V.str)=b
  have lq1:(Str.ofString "q").length=1:=by decide
  have lq:(Txt.mul (Str.ofString "q") (if b=true then 1 else 0)).length<=1:=by have:=mul_q b "q";rw [lq1] at this;exact this
  have lq':(Txt.mul (Str.ofString "q") (if (if false=true then !b else b)=true then 1 else 0)).length<=1:=lq
  refine ⟨_,_,rfl,rfl,by split <;> omega,by split <;> omega,?_,?_⟩
  ·rw [lq1];exact small (by cases b <;> decide)
  refine ⟨_,_,rfl,rfl,small (by omega),?_⟩
  refine ⟨l,_,_,rfl,rfl,hli,by rw [List.length_map];exact small1000 (by omega),?_⟩
  refine ⟨xs++[nm++Txt.mul "q" (if b then 1 else 0)],_,_,_,rfl,by rw [List.length_append,hxl];rfl,⟨fun x hx=>?_,fun x hx=>?_,fun j x hx=>?_⟩,by rw [upd_same,List.map_append];rfl,by rw [upd_ne n10];exact hpi,?_⟩
  ·rcases List.mem_append.mp hx with h | h
   ·exact hxs x h
   ·rw [List.mem_singleton.mp h,strLen_append];omega
  ·rcases List.mem_append.mp hx with h | h
   ·exact hlx x h
   ·rw [List.mem_singleton.mp h];exact hl0.append (Lo.q b)
  ·by_cases cj:j < xs.length
   ·rw [List.getElem?_append_left cj] at hx;exact hnm j x hx
   ·have hj:j=i:=by have:=(List.getElem?_eq_some_iff.mp hx).1;rw [List.length_append] at this;simp at this;omega
    subst hj
    rw [List.getElem?_append_right (by omega),hxl,Nat.sub_self] at hx
    simp at hx
    rw [←hx]
    exact hn0.snoc _
  ·refine ⟨fun b o nb e=>?_,?_⟩
   ·rw [upd_ne (ne_of_none e hfl)];exact xi.1 b o nb e
   ·obtain ⟨a,b,z⟩:=xi.2
    exact ⟨a,b,by rw [upd_ne nlr.symm];exact z⟩
 ·rintro σ Hi ⟨xs,v9,v10,v11,rfl,hxl,⟨hxs,hlx,hnm⟩,hli,hpi,xi⟩
  have fin:∀ (Hf:Hp) (ys:List Str),Ext r H Hf->Hf l=some (.lst (ys.map V.str))->ys.length=m->(∀ x∈ys,x.length<=20/\Lo x)->Un ys->Q (.ref l) Hf:=fun Hf ys a b c d=>k l Hf ys a hfl b c d
  have ret:∀ {Hf:Hp} (ys:List Str),Ext r H Hf->Hf l=some (.lst (ys.map V.str))->ys.length=m->(∀ x∈ys,x.length<=20/\Lo x)->Un ys->tRet (tVar 8) { nx:=fun _ H'=>Q .non H',rt:=Q } [some (.ref r),some (.int m),some (.str "abcdefghijklmnopqrstuvwxyz"),some (.str y),some (.int d1),some (.int d2),some (.int d3),some (.ref p10),some (.ref l),v9,v10,v11] Hf:=fun ys a b c d u=>⟨_,rfl,fin _ ys a b c d u⟩
  have un:Un xs:=Nmd.uns (by omega) hnm
  have x20:∀ x∈xs,x.length<=20/\Lo x:=fun x hx=>⟨Nat.le_trans (hxs x hx) (by decide),hlx x hx⟩
  refine ⟨_,rfl,_,_,rfl,rfl,_,rfl,ite2 (fun c=>?_) (fun c=>?_)⟩
  ·have c1:1 < m:=by have z:(1:Int) < (m:Int):=of_decide_eq_true c;omega
   obtain ⟨xs',x2,x1,rfl⟩:∃ xs' x2 x1,xs=xs'++[x2,x1]:=by
    rcases List.eq_nil_or_concat xs with rfl | ⟨a,x1,rfl⟩
    ·simp at hxl;omega
    rcases List.eq_nil_or_concat a with rfl | ⟨b,x2,rfl⟩
    ·simp at hxl;omega
    exact ⟨b,x2,x1,by simp⟩
   have l2:x2.length<=10:=hxs x2 (by simp)
   have a2:atI ((xs'++[x2,x1]).map V.str) (-2)=some (.str x2):=by rw [List.map_append];exact atI_m2 _ _ _
   refine ⟨_,rfl,_,rfl,l,_,_,_,rfl,rfl,SqL.of hli,a2,_,rfl,small (by omega),_,_,rfl,rfl,_,rfl,ite2 (fun c=>?_) (fun c=>?_)⟩
   ·refine ⟨_,rfl,r,4,rfl,by decide,by decide,xi.2,fun d4 H11 _ _ e11=>?_⟩
    have xj:=xi.trans e11
    have hlj:=e11.1 l _ nlr hli
    refine ⟨rfl,_,rfl,ite2 (fun c=>?_) (fun c=>?_)⟩
    ·refine ⟨_,rfl,_,rfl,l,_,_,_,rfl,rfl,SqL.of hlj,a2,_,_,rfl,rfl,small (by show _ + 1<=1000;omega),?_⟩
     refine ⟨_,rfl,_,rfl,l,_,_,xs'.length + 1,rfl,rfl,hlj,?_,?_⟩
     ·exact ixN_m1 _ _ (by simp)
     refine ret (xs'++[x2,x2++Str.ofString "q"]) ?_ ?_ ?_ ?_ (Nmd.last (by omega) (by decide) hnm)
     ·refine ⟨fun b o nb e=>?_,?_⟩
      ·rw [upd_ne (ne_of_none e hfl)];exact xj.1 b o nb e
      ·obtain ⟨a,b,z⟩:=xj.2
       exact ⟨a,b,by rw [upd_ne nlr.symm];exact z⟩
     ·rw [upd_same];simp
     ·rw [←hxl];simp
     ·intro x hx
      simp at hx
      rcases hx with h | rfl | rfl
      ·exact x20 x (by simp [h])
      ·exact ⟨by omega,hlx _ (by simp)⟩
      ·refine ⟨?_,(hlx x2 (by simp)).append Lo.q1⟩
       rw [strLen_append];have:(Str.ofString "q").length=1:=by decide
       omega
    ·exact ret _ xj hlj hxl x20 un
   ·exact ret _ xi hli hxl x20 un
  ·exact ret _ xi hli hxl x20 un
end
end G28
namespace G28
open PySem L2
def WordsAt (H:Hp)(a:Addr)(ws:List Str):Prop:=H a=some (.lst (ws.map V.str))/\1<=ws.length/\ws.length<=100
theorem WordsAt.ne {H:Hp}{a f:Addr}{ws:List Str}(h:WordsAt H a ws)(hf:FeedAt H f):a≠f:=fun z=>by
 obtain ⟨p,q,e⟩:=hf
 subst z
 rw [h.1] at e
 cases ws with
 | nil=>have:=h.2.1;simp at this
 | cons x r=>injection e with e;injection e with e;rw [List.map_cons] at e;injection e with e;cases e
def spNumber:Sp:=fun vs H Q _=>∃ f:Addr,vs=[.ref f]/\FeedAt H f/\∀ (n:Int) (H':Hp),0<=n->n < 1000000->Ext f H H'->Q (.int n) H'
section
variable {P : Program} {w : World} {K : PySem.W.Frag} {mg : Str → Option Value} {base : Heap} {gT gN gA : Addr} {tfd nfd afd : FuncData}
theorem nm_L_number:Nm ["_law_feed_here","_law_form"] (defScope s_L_number):=by decide +kernel
theorem lm_L_number:Lm ["_law_feed_here","_law_form"] (defScope s_L_number):=by decide +kernel
theorem sc_L_number:FnScope ["_law_feed_here","_law_form"] ["_law_feed_here"] (defScope s_L_number):=⟨rfl,rfl,rfl,by decide +kernel,rfl,by decide +kernel,by decide +kernel⟩
theorem ok_number {f:Addr}{fd:FuncData}(F:Fun K "_law_number" "_law_number" s_L_number f fd)(TK:Has P w K mg base "_law_take" 1 ["_law_feed_here","_law_many"] spTake gT tfd):FnOk P w K mg base CX0 2 f fd ["_law_feed_here"] spNumber:=by
 refine F.ok sc_L_number (fun vs H Q E h=>?_) (fun cdv A outer s H vs Q E hr h=>?_)
 ·obtain ⟨v,rfl,_⟩:=h
  rfl
 obtain ⟨r,rfl,hf,k⟩:=h
 refine ⟨_,(pss_cons (sa sc_L_number.nd lm_L_number 1 (pe_call TK.ok (hr.mono (by omega)) (by show _=_;kernel_rfl) TK.at' TK.kp TK.bd .nil pass0 (pa_cons (va nm_L_number 0) (pa_cons pe_int pa_nil))))
  (pss_cons (ps_if (pt_cmpR op_lt (va nm_L_number 1) pe_int (nomark _)) (pss_one (ps_ret (pe_call TK.ok (hr.mono (by omega)) (by show _=_;kernel_rfl) TK.at' TK.kp TK.bd .nil pass0 (pa_cons (va nm_L_number 0) (pa_cons (pe_ix ix_list (pe_lst (pa_cons pe_int (pa_cons pe_int (pa_cons pe_int (pa_cons pe_int (pa_cons pe_int (pa_cons pe_int pa_nil))))))) (va nm_L_number 1) (fun _ _=>rfl)) pa_nil))))) pss_nil)
  (pss_one (ps_ret (pe_ix ix_list (pe_lst (pa_cons (pe_call TK.ok (hr.mono (by omega)) (by show _=_;kernel_rfl) TK.at' TK.kp TK.bd .nil pass0 (pa_cons (va nm_L_number 0) (pa_cons pe_int pa_nil))) (pa_cons (pe_op op_sub pe_int (pe_call TK.ok (hr.mono (by omega)) (by show _=_;kernel_rfl) TK.at' TK.kp TK.bd .nil pass0 (pa_cons (va nm_L_number 0) (pa_cons pe_int pa_nil)))) pa_nil))) (pe_op op_sub (va nm_L_number 1) pe_int) (fun _ _=>rfl)))))),?_⟩
 refine ⟨_,rfl,r,8,rfl,by decide,by decide,hf,fun q H1 q0 q1 e1=>?_⟩
 refine ⟨_,rfl,_,_,rfl,rfl,_,rfl,ite2 (fun c=>?_) (fun c=>?_)⟩
 ·have c6:q < 6:=of_decide_eq_true c
  refine ⟨_,rfl,(by show 6<=sizeLine;decide),fun l hl=>?_⟩
  obtain ⟨v,hv,hm⟩:=atI_of (xs:=[V.int 2,V.int 4,V.int 4,V.int 10,V.int 10,V.int 100]) q0 (by simpa using c6)
  obtain ⟨n,rfl,n0,n1⟩:∃ n:Int,v=.int n/\0 < n/\n<=100:=by
   simp only [List.mem_cons,List.not_mem_nil,or_false] at hm
   rcases hm with rfl | rfl | rfl | rfl | rfl | rfl
   ·exact ⟨2,rfl,by decide,by decide⟩
   ·exact ⟨4,rfl,by decide,by decide⟩
   ·exact ⟨4,rfl,by decide,by decide⟩
   ·exact ⟨10,rfl,by decide,by decide⟩
   ·exact ⟨10,rfl,by decide,by decide⟩
   ·exact ⟨100,rfl,by decide,by decide⟩
  refine ⟨_,rfl,l,_,_,_,rfl,rfl,SqL.of upd_same,hv,r,n,rfl,n0,by omega,e1.2.same (same_new hl _),fun x H2 x0 x1 e2=>?_⟩
  exact k x H2 x0 (by omega) ((e1.new hl _).trans e2)
 ·have c6:¬ q < 6:=fun z=>c (decide_eq_true z)
  refine ⟨_,rfl,r,1000000,rfl,by decide,by decide,e1.2,fun x H2 x0 x1 e2=>?_⟩
  refine ⟨_,rfl,r,3,rfl,by decide,by decide,e2.2,fun y H3 y0 y1 e3=>?_⟩
  refine ⟨_,_,rfl,rfl,(by show 2<=sizeLine;decide),fun l hl=>?_⟩
  have e4:=((e1.trans e2).trans e3).new hl (.lst [.int x,.int (999999 - y)])
  obtain ⟨v,hv,hm⟩:=atI_of (xs:=[V.int x,V.int (999999 - y)]) (k:=q - 6) (by omega) (by simp;omega)
  refine ⟨_,rfl,_,_,rfl,rfl,l,_,_,_,rfl,rfl,SqL.of upd_same,hv,?_⟩
  simp only [List.mem_cons,List.not_mem_nil,or_false] at hm
  rcases hm with rfl | rfl
  ·exact k _ _ x0 x1 e4
  ·exact k _ _ (by omega) (by omega) e4
end
end G28
namespace L2
open PySem
@[irreducible] def tBlk (X:Cx) (st:List Stmt):TS:=fun D σ H=>∃ u,PSs X st u/\u D σ H
theorem pss_blk {X:Cx}{st:List Stmt}:PSs X st (tBlk X st):=fun pins s σ H D I h=>by
 unfold tBlk at h
 obtain ⟨u,hu,q⟩:=h
 exact hu pins s σ H D I q
theorem blk_of {X:Cx}{st:List Stmt}{D:Ends}{σ:St}{H:Hp}{u:TS}(h:PSs X st u)(q:u D σ H):tBlk X st D σ H:=by
 unfold tBlk
 exact ⟨u,h,q⟩
end L2
namespace L2
open PySem
theorem pe_disp2 {X:Cx}{pos:Pos}{k1 k2 v1 v2:Expr}{t1 t2 s1 s2:TE}(a1:PE X k1 t1)(b1:PE X v1 s1)(a2:PE X k2 t2)(b2:PE X v2 s2) :
  PE X (.Dict [some k1,some k2] [v1,v2] pos) (tDisp [(t1,s1),(t2,s2)]) :=
 pe_disp (pps_cons a1 b1 (pps_cons a2 b2 pps_nil)) rfl rfl (List.cons_ne_nil _ _) (by show 2<=15;decide)
end L2
namespace L2
open PySem
def isStar:Expr->Bool
 | .Starred _ _=>true
 | _=>false
theorem star_all {e:Expr}{es:List Expr}{env:PySem.Env}(h:isStar e=false):starEach (e::es) env=(false,eval e env)::starEach es env:=by
 cases e <;> first | rfl | cases h
theorem pa_c {X:Cx}{e:Expr}{es:List Expr}{te:TE}{t:TA}(ha:PE X e te)(hr:PA X es t)(hs:isStar e=false:=by rfl):PA X (e::es) (tCons te t):=pa_cons ha hr (star_all hs)
end L2
namespace L2
open PySem
def Tr (K:PySem.W.Frag)(t:TE)(σ:St)(H:Hp)(tr:T):Prop:=∀ (H1:Hp) (Q:VK),Same H H1->(∀ H2 v,Same H1 H2->Rp K H2 tr v->Q v H2)->t σ H1 Q
def Trs (K:PySem.W.Frag)(t:TA)(σ:St)(H:Hp)(trs:List T):Prop:=∀ (H1:Hp) (Q:List V->Hp->Prop),Same H H1->(∀ H2 vs,Same H1 H2->Rps K H2 trs vs->Q vs H2)->t σ H1 Q
section
variable {K : PySem.W.Frag} {σ : St} {H : Hp}
theorem tr_s {x:Str}:Tr K (tC (.str x)) σ H (.s x):=fun H1 _ _ k=>k H1 _ (Same.refl _) .s
theorem tr_i {x:Int}:Tr K (tC (.int x)) σ H (.i x):=fun H1 _ _ k=>k H1 _ (Same.refl _) .i
theorem tr_v {i:Nat}{v:V}{tr:T}(e:σ[i]?=some (some v))(r:Rp K H tr v):Tr K (tVar i) σ H tr:=fun H1 _ s k=>⟨v,e,k H1 v (Same.refl _) (r.same s)⟩
theorem trs_nil:Trs K tNil σ H []:=fun H1 _ _ k=>k H1 [] (Same.refl _) .nil
theorem trs_cons {a:TE}{b:TA}{x:T}{xs:List T}(ha:Tr K a σ H x)(hb:Trs K b σ H xs):Trs K (tCons a b) σ H (x::xs):=fun H1 Q s k =>
 ha H1 _ s fun H2 v s2 r=>hb H2 _ (s.trans s2) fun H3 vs s3 rs=>k H3 (v::vs) (s2.trans s3) (.cons (r.same s3) rs)
theorem tr_tup {a:TA}{xs:List T}(h:Trs K a σ H xs)(hl:xs.length<=900:=by exact Nat.le_of_ble_eq_true rfl):Tr K (tTup a) σ H (.t xs):=fun H1 Q s k =>
 h H1 _ s fun H2 vs s2 r=>⟨small (by rw [r.length];omega),fun p hp=>k _ _ (s2.trans (same_new hp _)) (Rp.new (K:=K) hp r)⟩
theorem Rps.getT {H:Hp}:∀ {ts:List T} {vs:List V} {i:Nat} {t:T},Rps K H ts vs->ts[i]?=some t->∃ v,vs[i]?=some v/\Rp K H t v
 | [],_,_,_,_,e=>by simp at e
 | x::r,vs,i,t,h,e=>by
  obtain ⟨v,us,rfl,a,b⟩:=h.inv
  cases i with
  | zero=>simp at e;subst e;exact ⟨v,rfl,a⟩
  | succ j =>
   rw [List.getElem?_cons_succ] at e
   obtain ⟨u,eu,ru⟩:=b.getT e
   exact ⟨u,by rw [List.getElem?_cons_succ];exact eu,ru⟩
theorem tr_nm {j i:Nat}{ln:Addr}{xs:List Str}{x:Str}(e:σ[j]?=some (some (.ref ln)))(h:H ln=some (.lst (xs.map V.str)))(g:xs[i]?=some x):Tr K (tOp (rIxL K) (tVar j) (tC (.int (i:Int)))) σ H (.s x):=fun H1 Q s k =>
 ⟨_,e,ln,xs.map V.str,i,.str x,rfl,rfl,SqL.of (s _ _ h),atI_nat (by rw [List.getElem?_map,g];rfl),k _ _ (Same.refl _) .s⟩
theorem ret_tm {te:TE}{tr:T}{tm:Tm}{D:Ends}(h:Tr K te σ H tr)(e:enc tm=tr)(k:∀ H2 v,Same H H2->Rp K H2 (enc tm) v->D.rt v H2):tRet te D σ H:=h H _ (Same.refl _) (by rw [e] at k;exact k)
end
end L2
namespace L2
open PySem
@[irreducible] def shw (t:T):Str:=t.py.shown
theorem call_reprI {X:Cx}(hg:X.A.guards=some [])(hu:X.A.units + 150 < cLine):CallR X (.builtin "repr") (fun xs H Q=>∃ x xs' ,xs=[x]/\Rp X.K H (.t xs') x/\Shows (T.t xs').py/\Q (.str (shw (.t xs'))) H):=by
 unfold shw
 exact call_reprT hg hu
end L2
namespace G28
open PySem L2
def scK (n:Nat)(ln:Addr):List (Key × V):=[(Sum.inr "gaps",.int n),(Sum.inr "names",.ref ln)]
theorem sc_gaps (n:Nat)(ln:Addr):valV (scK n ln) (Sum.inr "gaps")=some (.int n):=by kernel_rfl
theorem sc_names (n:Nat)(ln:Addr):valV (scK n ln) (Sum.inr "names")=some (.ref ln):=by kernel_rfl
theorem sc_put (n:Nat)(ln:Addr):putK (scK n ln) (Sum.inr "gaps") (.int ((n:Int) + 1))=scK (n + 1) ln:=by kernel_rfl
structure Sc (H:Hp) (f d ln:Addr) (xs:List Str) (n:Nat):Prop where
 hf:FeedAt H f
 hd:H d=some (.dK (scK n ln))
 hn:H ln=some (.lst (xs.map V.str))
def Cg (f d:Addr)(H H':Hp):Prop:=∀ b u,b≠f->b≠d->H b=some u->H' b=some u
theorem Cg.trans {f d:Addr}{H H1 H2:Hp}(a:Cg f d H H1)(b:Cg f d H1 H2):Cg f d H H2:=fun x u n1 n2 e=>b x u n1 n2 (a x u n1 n2 e)
theorem Cg.same {f d:Addr}{H H1:Hp}(s:Same H H1):Cg f d H H1:=fun x u _ _ e=>s x u e
theorem Cg.ext {f d:Addr}{H H1:Hp}(s:Ext f H H1):Cg f d H H1:=fun x u n _ e=>s.1 x u n e
section
variable {K : PySem.W.Frag} {H H' : Hp} {f d ln : Addr} {xs : List Str} {n : Nat}
theorem Sc.kt (h:Sc H f d ln xs n)(c:Cg f d H H'):Kt H H':=fun a vs r=>by
 obtain ⟨p,q,e⟩:=h.hf
 rcases r with r | ⟨o,r⟩
 ·exact .inl (c a _ (ne_of r e (fun z=>nomatch z)) (ne_of r h.hd (fun z=>nomatch z)) r)
 ·exact .inr ⟨o,c a _ (ne_of r e (fun z=>nomatch z)) (ne_of r h.hd (fun z=>nomatch z)) r⟩
theorem feed_same {f:Addr}(h:FeedAt H f)(s:Same H H'):FeedAt H' f:=by
 obtain ⟨p,q,e⟩:=h
 exact ⟨p,q,s _ _ e⟩
theorem ne_feed {l:Addr}(hf:FeedAt H f)(h:H l=some (.lst (xs.map V.str))):l≠f:=fun z=>by
 obtain ⟨p,q,e⟩:=hf
 rw [←z,h] at e
 injection e with e
 injection e with e
 cases xs with
 | nil=>cases e
 | cons y ys=>rw [List.map_cons] at e;injection e with e;cases e
theorem Sc.same (h:Sc H f d ln xs n)(s:Same H H'):Sc H' f d ln xs n:=⟨feed_same h.hf s,s _ _ h.hd,s _ _ h.hn⟩
theorem Sc.ext (h:Sc H f d ln xs n)(s:Ext f H H'):Sc H' f d ln xs n:=by
 obtain ⟨p,q,e⟩:=h.hf
 exact ⟨s.2,s.1 d _ (ne_of h.hd e (fun z=>nomatch z)) h.hd,s.1 ln _ (ne_feed h.hf h.hn) h.hn⟩
theorem Sc.put (h:Sc H f d ln xs n):Sc (upd H d (.dK (scK (n + 1) ln))) f d ln xs (n + 1)/\Cg f d H (upd H d (.dK (scK (n + 1) ln))):=by
 obtain ⟨p,q,e⟩:=h.hf
 exact ⟨⟨⟨p,q,by rw [upd_ne (ne_of e h.hd (fun z=>nomatch z))];exact e⟩,upd_same,by rw [upd_ne (ne_of h.hn h.hd (fun z=>nomatch z))];exact h.hn⟩,fun b u _ n2 e=>by rw [upd_ne n2];exact e⟩
theorem Sc.g (h:Sc H f d ln xs n):DGet H d (.str "gaps") (some (.int n))/\DGet H d (.str "names") (some (.ref ln)):=by
 have h1:=DGet.k (k:=Sum.inr "gaps") h.hd
 have h2:=DGet.k (k:=Sum.inr "names") h.hd
 rw [sc_gaps] at h1
 rw [sc_names] at h2
 exact ⟨h1,h2⟩
theorem Sc.p (h:Sc H f d ln xs n):DPut H d (.str "gaps") (.int ((n:Int) + 1)) (upd H d (.dK (scK (n + 1) ln))):=by
 have:=DPut.k (k:=Sum.inr "gaps") (v:=.int ((n:Int) + 1)) h.hd (small1000 (by show 2<=1000;decide))
 rw [sc_put] at this
 exact this
end
def wf (xs:List Str)(i:Nat):Str:=xs.getD i ""
theorem wf_get {xs:List Str}{i:Nat}(h:i < xs.length):xs[i]?=some (wf xs i):=by
 unfold wf
 rw [List.getD_eq_getElem?_getD,List.getElem?_eq_getElem h]
 rfl
def spOther (K:PySem.W.Frag):Sp:=fun vs H Q _=>∃ (f d ln:Addr) (xs:List Str) (n:Nat) (b:Bool),vs=[.ref f,.ref d,.bl b]/\Sc H f d ln xs n/\n<=5 /\
 ∀ (H':Hp) (v:V) (o:Tm) (n':Nat),Cg f d H H'->Sc H' f d ln xs n'->n'<=5->Ot b o->Rp K H' (enc o) v->Q v H'
def spCore (K:PySem.W.Frag):Sp:=fun vs H Q _=>∃ (f d ln:Addr) (xs:List Str) (n:Nat),vs=[.ref f,.ref d]/\Sc H f d ln xs n/\n<=5 /\
 ∀ (H':Hp) (v:V) (tm:Tm) (n':Nat),Cg f d H H'->Sc H' f d ln xs n'->n'<=5->Core tm->Rp K H' (enc tm) v->Q v H'
def spAside (K:PySem.W.Frag):Sp:=fun vs H Q _=>∃ (f d ln:Addr) (xs:List Str) (n:Nat) (u:V) (k:Tm),vs=[.ref f,.ref d,u]/\Sc H f d ln xs n/\n<=5/\xs.length=10/\Rp K H (enc k) u /\
 ∀ (H':Hp) (v:V) (tm:Tm) (n':Nat),Cg f d H H'->Sc H' f d ln xs n'->n'<=5->Asd (wf xs) k tm->Rp K H' (enc tm) v->Q v H'
def spWithin (K:PySem.W.Frag):Sp:=fun vs H Q _=>∃ (f d ln:Addr) (xs:List Str) (n:Nat) (u:V) (k:Tm),vs=[.ref f,.ref d,u]/\Sc H f d ln xs n/\n<=5/\xs.length=10/\Rp K H (enc k) u /\
 ∀ (H':Hp) (p:Addr) (v:V) (tm:Tm) (here:Bool) (n':Nat),Cg f d H H'->Sc H' f d ln xs n'->n'<=5->Wth (wf xs) k tm here->H' p=some (.tup [v,.bl here])->Rp K H' (enc tm) v->Q (.ref p) H'
theorem g20 {n:Nat}(h:n<=5):((n:Int) * 17 - 9).natAbs < 2 ^ 20:=by
 have e:(2:Nat) ^ 20=1048576:=by decide
 omega
end G28
namespace G28
open PySem L2
inductive Wr (w:Nat->Str) (t0:Tm) (g0:Bool):Nat->Tm->Bool->Prop
 | nil:Wr w t0 g0 0 t0 g0
 | asd {j:Nat} {t t':Tm} {g:Bool}:Wr w t0 g0 j t g->Asd w t t'->Wr w t0 g0 (j + 1) t' g
 | wth {j:Nat} {t t':Tm} {g b:Bool}:Wr w t0 g0 j t g->Wth w t t' b->Wr w t0 g0 (j + 1) t' (g && b)
def cst (c:Nat):Nat->Nat
 | 0=>c
 | j + 1=>2 * cst c j + 4
theorem wr_out {D:Dfs}{w:Nat->Str}{h c e n:Nat}{g0:Bool}{t0:Tm}{m:Int}(hw:WOk w)(h13:w 1≠w 3)(h02:w 0≠w 2)(hm:Nb m)(hD:lkD D (w 5)=some ([w 6,w 7],enc (num m)))(O:Out D h c e n g0 t0){j:Nat}{t:Tm}{g:Bool}(W:Wr w t0 g0 j t g):n + 6 * j<=700->Out D (h + 6 * j) (cst c j) (e + 2 * j) (n + 6 * j) g t:=by
 induction W with
 | nil=>intro _;exact O
 | asd _ a ih =>
  intro hn
  have o:=ih (by omega)
  exact (asd_out hw h13 h02 hm hD (by omega) o a).le (by omega) (by rw [cst];omega) (by omega) (by omega)
 | wth _ a ih =>
  intro hn
  have o:=ih (by omega)
  exact (wth_out hw h13 (by omega) o a).le (by omega) (by rw [cst];omega) (by omega) (by omega)
structure Fate (kd:T) (ds:List Def) (d:Def) (g:Bool):Prop where
 sh:Shows (progT kd (ds++[d])).py
 ps:d.2.1=[]
 dl:ds.length < 900
 pl:∀ d'∈ds++[d],d'.2.1.length<=900
 run:∃ n fin,Runs ((ds++[d]).map dOf) n ⟨0,false,[],[],[termT d.2.2 (arT [])]⟩ fin/\(fin.failed=false->∃ t,fin.told=[t])/\fin.failed=g
theorem run_out {D:Dfs}{h c e n:Nat}{g:Bool}{t:Tm}(O:Out D h c e n g t)(hh:h<=60)(hc:c<=200)(he:e<=900):∃ n fin,Runs D n ⟨0,false,[],[],[termT (enc t) (arT [])]⟩ fin/\(fin.failed=false->∃ t,fin.told=[t])/\fin.failed=g:=by
 obtain ⟨r,b,q,h1,h2⟩:=O.at (hh:=h) (Nat.le_refl _) (env:=[]) (s:=⟨[],0⟩) (by show 0 + e<=900;omega)
 have q1:=q.1
 have q2:=q.2
 simp only [List.length_nil] at q1 q2
 obtain ⟨k,fin,R,f1,f2⟩:=run_of hh b (by omega) (by omega)
 refine ⟨k,fin,R,f1,?_⟩
 cases g with
 | true=>obtain ⟨s',rfl⟩:=h1 rfl;exact f2
 | false=>obtain ⟨t',s',_,rfl⟩:=h2 rfl;simp only at f2;rw [f2]
def kdT (w:Nat->Str):T:=.t [.t [.s (w 4),.t [.t [.s (w 1),.t [.s "num"]],.t [.s (w 3),.t []]]]]
def d5 (w:Nat->Str)(m:Int):Def:=(w 5,[(w 6,.s "num"),(w 7,.s "num")],numT m)
theorem tk_of {n:Nat}{t:Tm}(N:Nice n t)(hn:n<=30):tOk (enc t)/\tW (enc t)<=12000/\(enc t).dep<=92:=by
 have a:=tm_tk t N.wf N.lo
 have:=N.sz;have:=a.w;have:=a.d
 exact ⟨a.ok,by omega,by omega⟩
theorem num_nm:NmOk ("num":Str):=kw_nm (by decide +kernel)
theorem kd_tb {w:Nat->Str}(hw:WOk w):tOk (kdT w)/\tW (kdT w)<=200/\(kdT w).dep<=5:=by
 have:=(hw 4).1;have:=(hw 1).1;have:=(hw 3).1;have:=num_nm.1
 refine ⟨⟨⟨(hw 4).2,⟨⟨(hw 1).2,⟨num_nm.2,trivial⟩,trivial⟩,⟨(hw 3).2,trivial,trivial⟩,trivial⟩,trivial⟩,trivial⟩,?_,?_⟩
 ·simp only [kdT,tW,tWs];omega
 ·simp only [kdT,T.dep,T.deps];omega
theorem d5_tb {w:Nat->Str}{m:Int}(hw:WOk w)(hm:Nb m):tOk (defT (d5 w m))/\tW (defT (d5 w m))<=300/\(defT (d5 w m)).dep<=5:=by
 have:=(hw 5).1;have:=(hw 6).1;have:=(hw 7).1;have:=num_nm.1
 refine ⟨⟨(hw 5).2,⟨⟨(hw 6).2,num_nm.2,trivial⟩,⟨(hw 7).2,num_nm.2,trivial⟩,trivial⟩,⟨num_nm.2,nb20 hm,trivial⟩,trivial⟩,?_,?_⟩
 ·simp only [d5,defT,List.map_cons,List.map_nil,pT,numT,tW,tWs];omega
 ·simp only [d5,defT,List.map_cons,List.map_nil,pT,numT,T.dep,T.deps];omega
theorem d0_tb {x:Str}{t:Tm}(hx:NmOk x)(h:tOk (enc t)/\tW (enc t)<=12000/\(enc t).dep<=92):tOk (defT (x,[],enc t))/\tW (defT (x,[],enc t))<=12100/\(defT (x,[],enc t)).dep<=93:=by
 obtain ⟨h1,h2,h3⟩:=h
 have:=hx.1
 refine ⟨⟨hx.2,trivial,h1,trivial⟩,?_,?_⟩
 ·simp only [defT,List.map_nil,tW,tWs];omega
 ·simp only [defT,List.map_nil,T.dep,T.deps];omega
section
variable {xs : List Str} {m : Int} {t0 t1 t : Tm} {g g1 : Bool} {j j1 : Nat}
theorem w_ok (hx:∀ x∈xs,NmOk x):WOk (wf xs):=fun i=>by
 unfold wf
 rw [List.getD_eq_getElem?_getD]
 cases q:xs[i]? with
 | none=>exact kw_nm (by decide +kernel)
 | some y=>exact hx y (List.mem_of_getElem? q)
theorem w_ne (lx:xs.length=10)(un:Un xs){i k:Nat}(hi:i < 10)(hk:k < 10)(n:i≠k):wf xs i≠wf xs k:=fun e=>n (un i k _ (wf_get (by omega)) (by rw [e];exact wf_get (by omega)))
theorem lk_skip {D:Dfs}{a:Str × List Str × T}{x:Str}(h:a.1≠x):lkD (D++[a]) x=lkD D x:=by rw [lkD_snoc,if_neg h]
theorem lk_hit {D:Dfs}{a:Str × List Str × T}{x:Str}(h:a.1=x):lkD (D++[a]) x=some a.2:=by rw [lkD_snoc,if_pos h]
theorem fate1 (lx:xs.length=10)(hx:∀ x∈xs,NmOk x)(un:Un xs)(hm:Nb m)(C:Core t0)(W:Wr (wf xs) t0 true j t g)(hj:j<=2):Fate (kdT (wf xs)) [d5 (wf xs) m] (wf xs 9,[],enc t) g:=by
 have hw:=w_ok hx
 have hD:lkD (([d5 (wf xs) m]++[(wf xs 9,[],enc t)]:List Def).map dOf) (wf xs 5)=some ([wf xs 6,wf xs 7],enc (num m)):=by
  show lkD ([dOf (d5 (wf xs) m)]++[dOf (wf xs 9,[],enc t)]) (wf xs 5)=_
  rw [lk_skip (show (dOf (wf xs 9,[],enc t)).1≠wf xs 5 from w_ne lx un (i:=9) (k:=5) (by omega) (by omega) (by omega)),e_num]
  show lkD ([]++[dOf (d5 (wf xs) m)]) (wf xs 5)=_
  rw [lk_hit (show (dOf (d5 (wf xs) m)).1=wf xs 5 from rfl)]
  rfl
 have O:=wr_out hw (w_ne lx un (i:=1) (k:=3) (by omega) (by omega) (by omega)) (w_ne lx un (i:=0) (k:=2) (by omega) (by omega) (by omega)) hm hD (core_out C) W (by omega)
 have hc:cst 3 j<=24:=by
  match j,hj with
  | 0,_=>decide
  | 1,_=>decide
  | 2,_=>decide
 obtain ⟨k1,k2,k3⟩:=kd_tb hw
 obtain ⟨a1,a2,a3⟩:=d5_tb hw hm
 obtain ⟨b1,b2,b3⟩:=d0_tb (hw 9) (tk_of O.nice (by omega))
 refine ⟨shows_T ⟨k1,⟨a1,b1,trivial⟩,trivial⟩ ?_ ?_,rfl,by simp,?_,run_out O (by omega) (by omega) (by omega)⟩
 ·simp only [progT,List.map_append,List.map_cons,List.map_nil,List.cons_append,List.nil_append,T.dep,T.deps] at *;omega
 ·simp only [progT,List.map_append,List.map_cons,List.map_nil,List.cons_append,List.nil_append,tW,tWs] at *;have e:(2:Nat) ^ 20=1048576:=by decide
  omega
 ·intro d' h
  simp only [List.cons_append,List.nil_append,List.mem_cons,List.not_mem_nil,or_false] at h
  rcases h with rfl | rfl <;> simp [d5]
theorem fate2 (lx:xs.length=10)(hx:∀ x∈xs,NmOk x)(un:Un xs)(hm:Nb m)(C:Core t0)(W1:Wr (wf xs) t0 true j1 t1 g1)(hj1:j1<=2)(W:Wr (wf xs) (.mk (.call (wf xs 8)) []) g1 j t g)(hj:j<=2):Fate (kdT (wf xs)) [d5 (wf xs) m,(wf xs 8,[],enc t1)] (wf xs 9,[],enc t) g:=by
 have hw:=w_ok hx
 have h13:=w_ne lx un (i:=1) (k:=3) (by omega) (by omega) (by omega)
 have h02:=w_ne lx un (i:=0) (k:=2) (by omega) (by omega) (by omega)
 have e0:([d5 (wf xs) m,(wf xs 8,[],enc t1)]++[(wf xs 9,[],enc t)]:List Def).map dOf=([dOf (d5 (wf xs) m)]++[dOf (wf xs 8,[],enc t1)])++[dOf (wf xs 9,[],enc t)]:=rfl
 have hD:lkD (([d5 (wf xs) m,(wf xs 8,[],enc t1)]++[(wf xs 9,[],enc t)]:List Def).map dOf) (wf xs 5)=some ([wf xs 6,wf xs 7],enc (num m)):=by
  rw [e0,lk_skip (show (dOf (wf xs 9,[],enc t)).1≠wf xs 5 from w_ne lx un (i:=9) (k:=5) (by omega) (by omega) (by omega)),lk_skip (show (dOf (wf xs 8,[],enc t1)).1≠wf xs 5 from w_ne lx un (i:=8) (k:=5) (by omega) (by omega) (by omega)),e_num]
  show lkD ([]++[dOf (d5 (wf xs) m)]) (wf xs 5)=_
  rw [lk_hit (show (dOf (d5 (wf xs) m)).1=wf xs 5 from rfl)]
  rfl
 have hD8:lkD (([d5 (wf xs) m,(wf xs 8,[],enc t1)]++[(wf xs 9,[],enc t)]:List Def).map dOf) (wf xs 8)=some ([],enc t1):=by
  rw [e0,lk_skip (show (dOf (wf xs 9,[],enc t)).1≠wf xs 8 from w_ne lx un (i:=9) (k:=8) (by omega) (by omega) (by omega)),lk_hit (show (dOf (wf xs 8,[],enc t1)).1=wf xs 8 from rfl)]
  rfl
 have O1:=wr_out hw h13 h02 hm hD (core_out C) W1 (by omega)
 have hc1:cst 3 j1<=24:=by
  match j1,hj1 with
  | 0,_=>decide
  | 1,_=>decide
  | 2,_=>decide
 have O2:=(call_out (hw 8) hD8 O1 (by omega)).le (h':=19) (c':=25) (e':=0) (n':=1) (by omega) (by omega) (by omega) (by omega)
 have O:=wr_out hw h13 h02 hm hD O2 W (by omega)
 have hc:cst 25 j<=112:=by
  match j,hj with
  | 0,_=>decide
  | 1,_=>decide
  | 2,_=>decide
 obtain ⟨k1,k2,k3⟩:=kd_tb hw
 obtain ⟨a1,a2,a3⟩:=d5_tb hw hm
 obtain ⟨c1,c2,c3⟩:=d0_tb (hw 8) (tk_of O1.nice (by omega))
 obtain ⟨b1,b2,b3⟩:=d0_tb (hw 9) (tk_of O.nice (by omega))
 refine ⟨shows_T ⟨k1,⟨a1,c1,b1,trivial⟩,trivial⟩ ?_ ?_,rfl,by simp,?_,run_out O (by omega) (by omega) (by omega)⟩
 ·simp only [progT,List.map_append,List.map_cons,List.map_nil,List.cons_append,List.nil_append,T.dep,T.deps] at *;omega
 ·simp only [progT,List.map_append,List.map_cons,List.map_nil,List.cons_append,List.nil_append,tW,tWs] at *;have e:(2:Nat) ^ 20=1048576:=by decide
  omega
 ·intro d' h
  simp only [List.cons_append,List.nil_append,List.mem_cons,List.not_mem_nil,or_false] at h
  rcases h with rfl | rfl | rfl <;> simp [d5]
end
end G28
namespace G28
open PySem L2
section
variable {P : Program} {w : World} {K : PySem.W.Frag} {mg : Str → Option Value} {base : Heap} {C : Addr}
variable {gT gU gO gC : Addr} {tfd ufd ofd cfd : FuncData}
theorem nm_L_other:Nm ["_law_feed_here","_law_scene","_law_rows"] (defScope s_L_other):=by decide +kernel
theorem sc_L_other:FnScope ["_law_feed_here","_law_scene","_law_rows"] ["_law_feed_here","_law_scene","_law_rows"] (defScope s_L_other):=⟨rfl,rfl,rfl,by decide +kernel,rfl,by decide +kernel,by decide +kernel⟩
theorem other_rest {f:Addr}{cdv:Value}{A:Around}{outer:List PySem.Env}{s:Shared}{H0:Hp}{E:XK}(TK:Has P w K mg base "_law_take" 1 ["_law_feed_here","_law_many"] spTake gT tfd)(NU:Has P w K mg base "_law_number" 2 ["_law_feed_here"] spNumber gU ufd)(hr:Room 2 (A.deeper (PyProof.Rows.envOfC "_law_other" (defScope s_L_other) s.heap.objs.size f cdv)))
  {D:L2.Ends} {H:Hp} {f2:Addr} {x1:Option V} {b:Bool} (hf:FeedAt H f2) (k:∀ (H':Hp) (v:V) (o:Tm),Ext f2 H H'->Ot b o->Rp K H' (enc o) v->D.rt v H') :
  tBlk (cxOf CX0 P w K mg base ["_law_feed_here","_law_scene","_law_rows"] "_law_other" (defScope s_L_other) f cdv A outer s H0 E).nox ((defBody s_L_other).drop 1) D [some (.ref f2),x1,some (.bl b)] H:=by
 refine blk_of ((@pss_cons _ _ _ _ _ (@ps_if _ _ _ _ _ _ _ _ (pt_val (va nm_L_other 2)) (@pss_one _ _ _ (@ps_ret _ _ _ _ (@pe_tup _ _ _ _ _ (@pa_c _ _ _ _ _ pe_str (@pa_c _ _ _ _ _ (@pe_tup _ _ _ _ _ (@pa_c _ _ _ _ _ (@pe_tup _ _ _ _ _ (@pa_c _ _ _ _ _ pe_str (@pa_c _ _ _ _ _ (@pe_call _ _ _ _ _ _ _ _ _ _ _ _ _ _ _ _ NU.ok (hr.mono (by omega)) (by show _=_;kernel_rfl) NU.at' NU.kp NU.bd .nil pass0 (pa_c (va nm_L_other 0) pa_nil) (by decide) (by rfl) (by rfl)) pa_nil (by rfl)) (by rfl))) pa_nil (by rfl))) pa_nil (by rfl)) (by rfl))))) pss_nil) (@pss_one _ _ _ (@ps_ret _ _ _ _ (@pe_tup _ _ _ _ _ (@pa_c _ _ _ _ _ pe_str (@pa_c _ _ _ _ _ (@pe_op _ _ _ _ _ _ _ _ op_add pe_int (@pe_call _ _ _ _ _ _ _ _ _ _ _ _ _ _ _ _ TK.ok (hr.mono (by omega)) (by show _=_;kernel_rfl) TK.at' TK.kp TK.bd .nil pass0 (pa_c (va nm_L_other 0) (pa_c pe_int pa_nil)) (by decide) (by rfl) (by rfl))) pa_nil (by rfl)) (by rfl))))))) ?_
 fail "R"
 refine ite2 (fun c=>?_) (fun c=>?_)
 ·subst c
  fail "R"
  intro nb H5 nb0 nb1 x5
  fail "R"
  intro p1 hp1
  fail "R"
  intro p2 hp2
  fail "R"
  intro p3 hp3
  have e:enc (.mk .row [num nb])=.t [.s "row",.t [numT nb]]:=by rw [e_row,List.map_cons,List.map_nil,e_num]
  refine k _ _ (.mk .row [num nb]) (((x5.new hp1 _).new hp2 _).new hp3 _) (.row ⟨nb0,nb1⟩) ?_
  rw [e]
  exact Rp.new (K:=K) hp3 (.cons .s (.one (Rp.new (K:=K) hp2 (.one (Rp.new (K:=K) hp1 (xs:=[.s "num",.i nb]) (.cons .s (.one .i)))))))
 ·obtain rfl:b=false:=by cases b with | true=>exact absurd rfl c | false=>rfl
  clear c
  fail "R"
  intro nb H5 nb0 nb1 x5
  fail "R"
  intro p1 hp1
  refine k _ _ (num (1 + nb)) (x5.new hp1 _) (.num (by omega) (by omega)) ?_
  rw [e_num]
  exact Rp.new (K:=K) hp1 (xs:=[.s "num",.i (1 + nb)]) (.cons .s (.one .i))
theorem ok_other {f:Addr}{fd:FuncData}(F:Fun K "_law_other" "_law_other" s_L_other f fd)(TK:Has P w K mg base "_law_take" 1 ["_law_feed_here","_law_many"] spTake gT tfd)(NU:Has P w K mg base "_law_number" 2 ["_law_feed_here"] spNumber gU ufd) :
  FnOk P w K mg base CX0 3 f fd ["_law_feed_here","_law_scene","_law_rows"] (spOther K):=by
 refine F.ok sc_L_other (fun vs H Q E h=>?_) (fun cdv A outer s H vs Q E hr h=>?_)
 ·obtain ⟨_,_,_,_,_,_,rfl,_⟩:=h
  rfl
 obtain ⟨f2,d,ln,xs,n,b,rfl,hs,hn,k⟩:=h
 refine ⟨_,(@pss_cons _ _ _ _ _ (@ps_if _ _ _ _ _ _ _ _ (PW.pt (@pw_and _ _ _ _ _ _ _ (@pt_cmpR _ _ _ _ _ _ _ _ op_lt (pe_dget (hu_of hr) (va nm_L_other 1) pe_str (fun _ _=>rfl)) pe_int (nomark _)) (@pw_and1 _ _ _ _ (@pt_cmpR _ _ _ _ _ _ _ _ op_eq (@pe_call _ _ _ _ _ _ _ _ _ _ _ _ _ _ _ _ TK.ok (hr.mono (by omega)) (by show _=_;kernel_rfl) TK.at' TK.kp TK.bd .nil pass0 (pa_c (va nm_L_other 0) (pa_c pe_int pa_nil)) (by decide) (by rfl) (by rfl)) pe_int (nomark _))))) (@pss_cons _ _ _ _ _ (@ps_dput _ _ _ _ _ _ _ _ _ (hu_of hr) (va nm_L_other 1) pe_str (@pe_op _ _ _ _ _ _ _ _ op_add (pe_dget (hu_of hr) (va nm_L_other 1) pe_str (fun _ _=>rfl)) pe_int) (by rfl)) (@pss_one _ _ _ (@ps_ret _ _ _ _ (@pe_tup _ _ _ _ _ (@pa_c _ _ _ _ _ pe_str (@pa_c _ _ _ _ _ (@pe_op _ _ _ _ _ _ _ _ op_sub (@pe_op _ _ _ _ _ _ _ _ op_mul (pe_dget (hu_of hr) (va nm_L_other 1) pe_str (fun _ _=>rfl)) pe_int) pe_int) pa_nil (by rfl)) (by rfl)))))) pss_nil) pss_blk),?_⟩
 obtain ⟨dg,_⟩:=hs.g
 have hf:=hs.hf
 fail "R"
 refine ite2 (fun c=>?_) (fun c=>?_)
 ·have hn5:n < 5:=by
   have:=of_decide_eq_true c
   omega
  clear c
  fail "R"
  intro z H1 z0 z1 x1
  fail "R"
  have hs1:=hs.ext x1
  refine ite2 (fun c=>?_) (fun c=>?_)
  ·clear c
   obtain ⟨dg1,_⟩:=hs1.g
   have hp:=hs1.p
   obtain ⟨hs2,c2⟩:=hs1.put
   obtain ⟨dg2,_⟩:=hs2.g
   generalize upd H1 d (.dK (scK (n + 1) ln))=H2 at hp hs2 c2 dg2
   fail "R"
   intro p1 hp1
   have s3:=same_new hp1 (.tup [.str "gap",.int (((n + 1:Nat):Int) * 17 - 9)])
   refine k _ _ (gap (((n + 1:Nat):Int) * 17 - 9)) (n + 1) ((Cg.ext x1).trans (c2.trans (Cg.same s3))) (hs2.same s3) (by omega) (.gap (g20 (by omega))) ?_
   rw [e_gap]
   exact Rp.new (K:=K) hp1 (.cons .s (.one .i))
  ·clear c
   fail "R"
   exact other_rest TK NU hr hs1.hf fun H' v o x ho r=>k H' v o n ((Cg.ext x1).trans (Cg.ext x)) (hs1.ext x) hn ho r
 ·clear c
  fail "R"
  exact other_rest TK NU hr hs.hf fun H' v o x ho r=>k H' v o n (Cg.ext x) (hs.ext x) hn ho r
end
end G28
namespace G28
open PySem L2
section
variable {P : Program} {w : World} {K : PySem.W.Frag} {mg : Str → Option Value} {base : Heap} {C : Addr}
variable {gT gU gO gC : Addr} {tfd ufd ofd cfd : FuncData}
theorem nm_L_core:Nm ["_law_feed_here","_law_scene","_law_form","_law_other_here"] (defScope s_L_core):=by decide +kernel
theorem lm_L_core:Lm ["_law_feed_here","_law_scene","_law_form","_law_other_here"] (defScope s_L_core):=by decide +kernel
theorem sc_L_core:FnScope ["_law_feed_here","_law_scene","_law_form","_law_other_here"] ["_law_feed_here","_law_scene"] (defScope s_L_core):=⟨rfl,rfl,rfl,by decide +kernel,rfl,by decide +kernel,by decide +kernel⟩
theorem ok_core {f:Addr}{fd:FuncData}(F:Fun K "_law_core" "_law_core" s_L_core f fd)(TK:Has P w K mg base "_law_take" 1 ["_law_feed_here","_law_many"] spTake gT tfd)(OT:Has P w K mg base "_law_other" 3 ["_law_feed_here","_law_scene","_law_rows"] (spOther K) gO ofd) :
  FnOk P w K mg base CX0 4 f fd ["_law_feed_here","_law_scene"] (spCore K):=by
 refine F.ok sc_L_core (fun vs H Q E h=>?_) (fun cdv A outer s H vs Q E hr h=>?_)
 ·obtain ⟨_,_,_,_,_,rfl,_⟩:=h
  rfl
 obtain ⟨f2,d,ln,xs,n,rfl,hs,hn,k⟩:=h
 refine ⟨_,(@pss_cons _ _ _ _ _ (@sa _ _ _ _ _ _ sc_L_core.nd lm_L_core 2 (@pe_call _ _ _ _ _ _ _ _ _ _ _ _ _ _ _ _ TK.ok (hr.mono (by omega)) (by show _=_;kernel_rfl) TK.at' TK.kp TK.bd .nil pass0 (pa_c (va nm_L_core 0) (pa_c pe_int pa_nil)) (by decide) (by rfl) (by rfl)) (by rfl) (by kernel_rfl) (by exact .inl rfl)) (@pss_cons _ _ _ _ _ (@sa _ _ _ _ _ _ sc_L_core.nd lm_L_core 3 (@pe_call _ _ _ _ _ _ _ _ _ _ _ _ _ _ _ _ OT.ok (hr.mono (by omega)) (by show _=_;kernel_rfl) OT.at' OT.kp OT.bd .nil pass0 (@pa_c _ _ _ _ _ (va nm_L_core 0) (pa_c (va nm_L_core 1) (pa_c pe_bl pa_nil)) (by rfl)) (by decide) (by rfl) (by rfl)) (by rfl) (by kernel_rfl) (by exact .inl rfl)) (@pss_cons _ _ _ _ _ (@ps_if _ _ _ _ _ _ _ _ (pt_cmpR op_eq (va nm_L_core 2) pe_int (nomark _)) (@pss_one _ _ _ (@ps_ret _ _ _ _ (@pe_tup _ _ _ _ _ (@pa_c _ _ _ _ _ pe_str (@pa_c _ _ _ _ _ pe_str (@pa_c _ _ _ _ _ (va nm_L_core 3) (@pa_c _ _ _ _ _ (@pe_tup _ _ _ _ _ (pa_c pe_str (pa_c pe_int pa_nil))) pa_nil (by rfl)) (by rfl)) (by rfl)) (by rfl))))) pss_nil) (@pss_cons _ _ _ _ _ (@ps_if _ _ _ _ _ _ _ _ (pt_cmpR op_eq (va nm_L_core 2) pe_int (nomark _)) (@pss_one _ _ _ (@ps_ret _ _ _ _ (@pe_tup _ _ _ _ _ (@pa_c _ _ _ _ _ pe_str (@pa_c _ _ _ _ _ (@pe_tup _ _ _ _ _ (@pa_c _ _ _ _ _ pe_str (pa_c (pe_tup pa_nil) pa_nil) (by rfl))) pa_nil (by rfl)) (by rfl))))) pss_nil) (@pss_cons _ _ _ _ _ (@ps_if _ _ _ _ _ _ _ _ (pt_cmpR op_eq (va nm_L_core 2) pe_int (nomark _)) (@pss_one _ _ _ (@ps_ret _ _ _ _ (@pe_tup _ _ _ _ _ (@pa_c _ _ _ _ _ pe_str (@pa_c _ _ _ _ _ (@pe_tup _ _ _ _ _ (@pa_c _ _ _ _ _ pe_str (@pa_c _ _ _ _ _ (@pe_tup _ _ _ _ _ (@pa_c _ _ _ _ _ pe_str (pa_c (pe_tup pa_nil) pa_nil) (by rfl))) pa_nil (by rfl)) (by rfl))) pa_nil (by rfl)) (by rfl))))) pss_nil) (@pss_cons _ _ _ _ _ (@ps_if _ _ _ _ _ _ _ _ (pt_cmpR op_eq (va nm_L_core 2) pe_int (nomark _)) (@pss_one _ _ _ (@ps_ret _ _ _ _ (@pe_tup _ _ _ _ _ (@pa_c _ _ _ _ _ pe_str (@pa_c _ _ _ _ _ (@pe_tup _ _ _ _ _ (@pa_c _ _ _ _ _ pe_str (@pa_c _ _ _ _ _ (@pe_tup _ _ _ _ _ (@pa_c _ _ _ _ _ pe_str (@pa_c _ _ _ _ _ (@pe_tup _ _ _ _ _ (pa_c (va nm_L_core 3) pa_nil)) pa_nil (by rfl)) (by rfl))) pa_nil (by rfl)) (by rfl))) pa_nil (by rfl)) (by rfl))))) pss_nil) (@pss_one _ _ _ (@ps_ret _ _ _ _ (@pe_tup _ _ _ _ _ (@pa_c _ _ _ _ _ pe_str (@pa_c _ _ _ _ _ (@pe_tup _ _ _ _ _ (@pa_c _ _ _ _ _ pe_str (@pa_c _ _ _ _ _ (@pe_tup _ _ _ _ _ (@pa_c _ _ _ _ _ pe_str (@pa_c _ _ _ _ _ (@pe_tup _ _ _ _ _ (@pa_c _ _ _ _ _ pe_str (@pa_c _ _ _ _ _ (@pe_tup _ _ _ _ _ (pa_c (va nm_L_core 3) pa_nil)) pa_nil (by rfl)) (by rfl))) pa_nil (by rfl)) (by rfl))) pa_nil (by rfl)) (by rfl))) pa_nil (by rfl)) (by rfl))))))))))),?_⟩
 have hf:=hs.hf
 fail "R"
 intro z H1 z0 z1 x1
 have hs1:=hs.ext x1
 fail "R"
 intro H2 v o n2 c2 hs2 hn2 ho ro
 have cc:Cg f2 d H H2:=(Cg.ext x1).trans c2
 have kk:∀ (H':Hp) (v:V) (tm:Tm),Same H2 H'->Core tm->Rp K H' (enc tm) v->Q v H':=fun H' v tm s3 c r=>k H' v tm n2 (cc.trans (Cg.same s3)) (hs2.same s3) hn2 c r
 have e0:∀ {t:T} {y:Tm},enc y=t->enc y=t:=id
 clear k hs1 x1 c2
 fail "R"
 refine ite2 (fun c=>?_) (fun c=>?_)
 ·clear c
  refine ret_tm (tm:=.mk (.op ":") [o,num 0]) (tr_tup (trs_cons tr_s (trs_cons tr_s (trs_cons (tr_v rfl ro) (trs_cons (tr_tup (trs_cons tr_s (trs_cons tr_i trs_nil))) trs_nil))))) (by rw [e_op,e_num];rfl) fun H3 u s3 r=>kk _ _ _ s3 (.op ho) r
 clear c
 fail "R"
 refine ite2 (fun c=>?_) (fun c=>?_)
 ·clear c
  refine ret_tm (tm:=.mk .first [.mk .row []]) (tr_tup (trs_cons tr_s (trs_cons (tr_tup (trs_cons tr_s (trs_cons (tr_tup trs_nil) trs_nil))) trs_nil))) (by rw [e_first,e_row];rfl) fun H3 u s3 r=>kk _ _ _ s3 .first0 r
 clear c
 fail "R"
 refine ite2 (fun c=>?_) (fun c=>?_)
 ·clear c
  refine ret_tm (tm:=.mk .long [.mk .others [.mk .row []]]) (tr_tup (trs_cons tr_s (trs_cons (tr_tup (trs_cons tr_s (trs_cons (tr_tup (trs_cons tr_s (trs_cons (tr_tup trs_nil) trs_nil))) trs_nil))) trs_nil))) (by rw [e_long,e_others,e_row];rfl) fun H3 u s3 r=>kk _ _ _ s3 .long0 r
 clear c
 fail "R"
 refine ite2 (fun c=>?_) (fun c=>?_)
 ·clear c
  refine ret_tm (tm:=.mk .first [.mk .others [.mk .row [o]]]) (tr_tup (trs_cons tr_s (trs_cons (tr_tup (trs_cons tr_s (trs_cons (tr_tup (trs_cons tr_s (trs_cons (tr_tup (trs_cons (tr_v rfl ro) trs_nil)) trs_nil))) trs_nil))) trs_nil))) (by rw [e_first,e_others,e_row];rfl) fun H3 u s3 r=>kk _ _ _ s3 (.first1 ho) r
 clear c
 refine ret_tm (tm:=.mk .long [.mk .others [.mk .others [.mk .row [o]]]]) (tr_tup (trs_cons tr_s (trs_cons (tr_tup (trs_cons tr_s (trs_cons (tr_tup (trs_cons tr_s (trs_cons (tr_tup (trs_cons tr_s (trs_cons (tr_tup (trs_cons (tr_v rfl ro) trs_nil)) trs_nil))) trs_nil))) trs_nil))) trs_nil))) (by rw [e_long,e_others,e_others,e_row];rfl) fun H3 u s3 r=>kk _ _ _ s3 (.long1 ho) r
end
end G28
namespace G28
open PySem L2
def TrX (K:PySem.W.Frag)(f:Addr)(t:TE)(σ:St)(H:Hp)(P:T->Prop):Prop:=∀ (H1:Hp) (Q:VK),Ext f H H1->(∀ H2 v tr,Ext f H1 H2->P tr->Rp K H2 tr v->Q v H2)->t σ H1 Q
def TrsX (K:PySem.W.Frag)(f:Addr)(t:TA)(σ:St)(H:Hp)(n:Nat)(P:List T->Prop):Prop:=∀ (H1:Hp) (Q:List V->Hp->Prop),Ext f H H1->(∀ H2 vs trs,Ext f H1 H2->trs.length=n->P trs->Rps K H2 trs vs->Q vs H2)->t σ H1 Q
abbrev Pc (a:T->Prop)(b:List T->Prop):List T->Prop:=fun l=>∃ x xs,a x/\b xs/\l=x::xs
abbrev P0:List T->Prop:=(·=[])
section
variable {K : PySem.W.Frag} {f : Addr} {σ : St} {H : Hp}
theorem tx_s {x:Str}:TrX K f (tC (.str x)) σ H (·=.s x):=fun H1 _ e k=>k H1 _ _ (Ext.refl e.2) rfl .s
theorem tx_i {x:Int}:TrX K f (tC (.int x)) σ H (·=.i x):=fun H1 _ e k=>k H1 _ _ (Ext.refl e.2) rfl .i
theorem tx_v {i:Nat}{v:V}{tr:T}(hf:FeedAt H f)(r:Rp K H tr v)(e:σ[i]?=some (some v)):TrX K f (tVar i) σ H (·=tr):=fun H1 _ x k=>⟨v,e,k H1 v _ (Ext.refl x.2) rfl (r.kt (x.kt hf))⟩
theorem txs_nil:TrsX K f tNil σ H 0 P0:=fun H1 _ e k=>k H1 [] _ (Ext.refl e.2) rfl rfl .nil
theorem txs_cons {a:TE}{b:TA}{n:Nat}{Pa:T->Prop}{Pb:List T->Prop}(ha:TrX K f a σ H Pa)(hb:TrsX K f b σ H n Pb):TrsX K f (tCons a b) σ H (n + 1) (Pc Pa Pb):=fun H1 Q s k =>
 ha H1 _ s fun H2 v tr s2 p r=>hb H2 _ (s.trans s2) fun H3 vs trs s3 l q rs=>k H3 (v::vs) _ (s2.trans s3) (by rw [List.length_cons,l]) ⟨tr,trs,p,q,rfl⟩ (.cons (r.kt (s3.kt s2.2)) rs)
theorem tx_tup {a:TA}{n:Nat}{P:List T->Prop}(h:TrsX K f a σ H n P)(hl:n<=400:=by decide):TrX K f (tTup a) σ H (fun t=>∃ xs,P xs/\t=.t xs):=fun H1 Q s k =>
 h H1 _ s fun H2 vs trs s2 l p r=>⟨small (by rw [r.length];omega),fun l hl'=>k _ _ _ (s2.new hl' _) ⟨trs,p,rfl⟩ (Rp.new (K:=K) hl' r)⟩
theorem tx_imp {a:TE}{P P':T->Prop}(h:TrX K f a σ H P)(i:∀ t,P t->P' t):TrX K f a σ H P':=fun H1 Q s k=>h H1 Q s fun H2 v tr s2 p r=>k H2 v tr s2 (i tr p) r
theorem tx_lix {a:TA}{n:Nat}{P:List T->Prop}{P':T->Prop}{j:Nat}(i:Nat)(h:TrsX K f a σ H n P)(e:σ[j]?=some (some (.int (i:Int))))(hi:i < n)(hn:n<=400)(g:∀ xs t,P xs->xs[i]?=some t->P' t):TrX K f (tOp (rIxL K) (tLst a) (tVar j)) σ H P':=fun H1 Q s k =>
 h H1 _ s fun H2 vs trs s2 l p r=>⟨small (by rw [r.length];omega),fun q hl'=>by
  have e0:=List.getElem?_eq_getElem (l:=trs) (i:=i) (by omega)
  obtain ⟨v,ev,rv⟩:=r.getT e0
  exact ⟨_,e,q,vs,i,v,rfl,rfl,SqL.of upd_same,atI_nat ev,k _ _ _ (s2.new hl' _) (g _ _ p e0) (rv.same (same_new hl' _))⟩⟩
theorem tx_lix0 {a:TA}{n:Nat}{Pa:T->Prop}{Pb:List T->Prop}{j:Nat}(h:TrsX K f a σ H n (Pc Pa Pb))(e:σ[j]?=some (some (.int 0)))(hi:0 < n:=by decide)(hn:n<=400:=by decide):TrX K f (tOp (rIxL K) (tLst a) (tVar j)) σ H Pa :=
 tx_lix 0 h e hi hn fun xs t p q=>by obtain ⟨x,ys,pa,_,rfl⟩:=p;injection q with q;rw [←q];exact pa
theorem tx_lix1 {a:TA}{n:Nat}{Pa Pb:T->Prop}{Pd:List T->Prop}{j:Nat}(h:TrsX K f a σ H n (Pc Pa (Pc Pb Pd)))(e:σ[j]?=some (some (.int 1)))(hi:1 < n:=by decide)(hn:n<=400:=by decide):TrX K f (tOp (rIxL K) (tLst a) (tVar j)) σ H Pb :=
 tx_lix 1 h e hi hn fun xs t p q=>by obtain ⟨x,ys,_,⟨x2,zs,pb,_,rfl⟩,rfl⟩:=p;injection q with q;rw [←q];exact pb
theorem tx_lix2 {a:TA}{n:Nat}{Pa Pb Pe:T->Prop}{Pd:List T->Prop}{j:Nat}(h:TrsX K f a σ H n (Pc Pa (Pc Pb (Pc Pe Pd))))(e:σ[j]?=some (some (.int 2)))(hi:2 < n:=by decide)(hn:n<=400:=by decide):TrX K f (tOp (rIxL K) (tLst a) (tVar j)) σ H Pe :=
 tx_lix 2 h e hi hn fun xs t p q=>by obtain ⟨x,ys,_,⟨x2,zs,_,⟨x3,ws,pe,_,rfl⟩,rfl⟩,rfl⟩:=p;injection q with q;rw [←q];exact pe
theorem lst_ne_feed {H:Hp}{l:Addr}(hf:FeedAt H f)(h:H l=none):l≠f:=fun z=>by
 obtain ⟨p,q,e⟩:=hf
 rw [←z,h] at e
 cases e
theorem tx_lixC {a:TA}{n:Nat}{P:List T->Prop}{j m:Nat}(h:TrsX K f a σ H n P)(e:σ[j]?=some (some (.ref f)))(hm:1<=m)(hm2:m<=400)(hn:n=m):TrX K f (tOp (rIxL K) (tLst a) (tCall spTake [] E0 (tCons (tVar j) (tCons (tC (.int (m:Int))) tNil)))) σ H (fun t=>∃ (xs:List T) (i:Nat),P xs/\xs[i]?=some t):=fun H1 Q s k =>
 h H1 _ s fun H2 vs trs s2 l p r=>⟨small (by rw [r.length];omega),fun q hl'=>by
  have nl:q≠f:=lst_ne_feed s2.2 hl'
  have s3:=s2.new hl' (.lst vs)
  refine ⟨_,e,⟨f,m,rfl,by omega,by omega,s3.2,fun i H4 i0 i1 x4=>?_⟩⟩
  obtain ⟨i,rfl⟩:∃ j:Nat,i=(j:Int):=⟨i.toNat,by omega⟩
  have e0:=List.getElem?_eq_getElem (l:=trs) (i:=i) (by omega)
  obtain ⟨v,ev,rv⟩:=r.getT e0
  exact ⟨q,vs,i,v,rfl,rfl,SqL.of (x4.1 q _ nl upd_same),atI_nat ev,k _ _ _ (s3.trans x4) ⟨trs,i,p,e0⟩ ((rv.same (same_new hl' _)).kt (x4.kt s3.2))⟩⟩
theorem tx_lixC2 {a:TA}{Pa Pb:T->Prop}{j:Nat}(h:TrsX K f a σ H 2 (Pc Pa (Pc Pb P0)))(e:σ[j]?=some (some (.ref f))):TrX K f (tOp (rIxL K) (tLst a) (tCall spTake [] E0 (tCons (tVar j) (tCons (tC (.int 2)) tNil)))) σ H (fun t=>Pa t\/Pb t) :=
 tx_imp (tx_lixC (m:=2) h e (by omega) (by omega) rfl) fun t ⟨xs,i,p,q⟩=>by
  obtain ⟨x,ys,pa,⟨x2,zs,pb,rfl,rfl⟩,rfl⟩:=p
  match i,q with
  | 0,q=>injection q with q;rw [←q];exact .inl pa
  | 1,q=>injection q with q;rw [←q];exact .inr pb
  | j + 2,q=>simp at q
theorem tx_lixC3 {a:TA}{Pa Pb Pe:T->Prop}{j:Nat}(h:TrsX K f a σ H 3 (Pc Pa (Pc Pb (Pc Pe P0))))(e:σ[j]?=some (some (.ref f))):TrX K f (tOp (rIxL K) (tLst a) (tCall spTake [] E0 (tCons (tVar j) (tCons (tC (.int 3)) tNil)))) σ H (fun t=>Pa t\/Pb t\/Pe t) :=
 tx_imp (tx_lixC (m:=3) h e (by omega) (by omega) rfl) fun t ⟨xs,i,p,q⟩=>by
  obtain ⟨x,ys,pa,⟨x2,zs,pb,⟨x3,ws,pe,rfl,rfl⟩,rfl⟩,rfl⟩:=p
  match i,q with
  | 0,q=>injection q with q;rw [←q];exact .inl pa
  | 1,q=>injection q with q;rw [←q];exact .inr (.inl pb)
  | 2,q=>injection q with q;rw [←q];exact .inr (.inr pe)
  | j + 3,q=>simp at q
theorem tx_sixC {j m:Nat}{x:Str}{P:Str->Prop}(e:σ[j]?=some (some (.ref f)))(hm:1<=m)(hm2:m<=1000000)(hx:x.length<=900)(g:∀ i:Int,0<=i->i < m->∃ c,atI x.cps.toList i=some c/\P ⟨#[c]⟩):TrX K f (tOp rIxS (tC (.str x)) (tCall spTake [] E0 (tCons (tVar j) (tCons (tC (.int (m:Int))) tNil)))) σ H (fun t=>∃ y,P y/\t=.s y):=fun H1 Q s k =>
 ⟨_,e,⟨f,m,rfl,by omega,by omega,s.2,fun i H4 i0 i1 x4=>by
  obtain ⟨c,ec,pc⟩:=g i i0 i1
  exact ⟨x,i,c,rfl,rfl,small (by omega),ec,k _ _ _ x4 ⟨_,pc,rfl⟩ .s⟩⟩⟩
theorem tx_addC {j m:Nat}{a:Int}(e:σ[j]?=some (some (.ref f)))(hm:1<=m)(hm2:m<=1000000):TrX K f (tOp (rI0 fun i j=>.int (i + j)) (tC (.int a)) (tCall spTake [] E0 (tCons (tVar j) (tCons (tC (.int (m:Int))) tNil)))) σ H (fun t=>∃ n,a<=n/\n < a + m/\t=.i n):=fun H1 Q s k =>
 ⟨_,e,⟨f,m,rfl,by omega,by omega,s.2,fun i H4 i0 i1 x4=>⟨a,i,rfl,rfl,k _ _ _ x4 ⟨a + i,by omega,by omega,rfl⟩ .i⟩⟩⟩
theorem tx_nm {j i:Nat}{ln:Addr}{xs:List Str}(hf:FeedAt H f)(h:H ln=some (.lst (xs.map V.str)))(e:σ[j]?=some (some (.ref ln)))(hi:i < xs.length):TrX K f (tOp (rIxL K) (tVar j) (tC (.int (i:Int)))) σ H (·=.s (wf xs i)):=fun H1 Q s k =>
 ⟨_,e,ln,xs.map V.str,i,.str (wf xs i),rfl,rfl,SqL.of (s.1 ln _ (ne_feed hf h) h),atI_nat (by rw [List.getElem?_map,wf_get hi];rfl),k _ _ _ (Ext.refl s.2) rfl .s⟩
theorem pc2_le {a b:T->Prop}{xs:List T}(h:Pc a (Pc b P0) xs):xs.length<=400:=by
 obtain ⟨_,_,_,⟨_,_,_,rfl,rfl⟩,rfl⟩:=h
 exact (show 2<=400 by decide)
theorem tx_cat {a:TA}{b:TE}{n:Nat}{Pa Pb:List T->Prop}(ha:TrsX K f a σ H (n + 1) Pa)(hb:TrX K f b σ H (fun t=>∃ xs,Pb xs/\t=.t xs))(hn:n<=300)(hy:∀ xs,Pb xs->xs.length<=400):TrX K f (tOp (rCatT K) (tTup a) b) σ H (fun t=>∃ xs ys,Pa xs/\Pb ys/\t=.t (xs++ys)):=fun H1 Q s k =>
 ha H1 _ s fun H2 vs trs s2 ln p r=>⟨small (by rw [r.length];omega),fun l hl=>hb _ _ (s.trans (s2.new hl _)) fun H3 u tr2 s3 p2 q=>by
  obtain ⟨ys,p2,rfl⟩:=p2
  have r0:=(Rp.new (K:=K) hl r).kt (s3.kt (s2.new hl (.tup vs)).2)
  have r':=r0
  obtain ⟨l',us,e',sq,rs⟩:=r'.inv_t
  cases e'
  obtain ⟨l2,us2,rfl,sq2,rs2⟩:=q.inv_t
  have l1:=rs.length
  have l2':=rs2.length
  have hy2:=hy ys p2
  refine ⟨l,l2,us,us2,rfl,rfl,sq,sq2,fun e=>(by rw [e,ln] at l1;cases l1),small (by omega),fun e=>?_,fun _ p3 hp3=>?_⟩
  ·rw [e] at l2'
   have:ys=[]:=List.eq_nil_of_length_eq_zero l2'.symm
   exact k _ _ _ ((s2.new hl _).trans s3) ⟨trs,ys,p,p2,rfl⟩ (by rw [this,List.append_nil];exact r0)
  ·exact k _ _ _ (((s2.new hl _).trans s3).new hp3 _) ⟨trs,ys,p,p2,rfl⟩ (Rp.new (K:=K) hp3 (rs.append rs2))⟩
theorem asg_tx {te:TE}{i:Nat}{P:T->Prop}{D:L2.Ends}(hf:FeedAt H f)(h:TrX K f te σ H P)(k:∀ H2 v tr,Ext f H H2->P tr->Rp K H2 tr v->D.nx (σ.set i (some v)) H2):tAsg te (gName i) D σ H:=h H _ (Ext.refl hf) k
theorem ret_pr {ta tb:TE}{P:T->Prop}{b:Bool}{D:L2.Ends}(hf:FeedAt H f)(h:TrX K f ta σ H P)(hb:∀ H1 Q,Q (.bl b) H1->tb σ H1 Q)(k:∀ H2 p v tr,Ext f H H2->P tr->Rp K H2 tr v->H2 p=some (.tup [v,.bl b])->D.rt (.ref p) H2):tRet (tTup (tCons ta (tCons tb tNil))) D σ H :=
 h H _ (Ext.refl hf) fun H2 v tr x p r=>hb _ _ ⟨small (by show 2<=1000;decide),fun l hl=>k _ l v tr (x.new hl _) p (r.same (same_new hl _)) upd_same⟩
theorem eq_bl {i j:Nat}{a b:Int}(e1:σ[i]?=some (some (.int a)))(e2:σ[j]?=some (some (.int b)))(H1:Hp)(Q:VK)(h:Q (.bl (decide (V.int a=V.int b))) H1):tOp rEq (tVar i) (tVar j) σ H1 Q:=⟨_,e1,_,e2,rfl,h⟩
theorem eq_blC {i:Nat}{a b:Int}(e1:σ[i]?=some (some (.int a)))(H1:Hp)(Q:VK)(h:Q (.bl (decide (V.int a=V.int b))) H1):tOp rEq (tVar i) (tC (.int b)) σ H1 Q:=⟨_,e1,rfl,h⟩
theorem par_tx {ta:TA}{i j:Nat}{Pa Pb:T->Prop}{D:L2.Ends}(hf:FeedAt H f)(h:TrsX K f ta σ H 2 (Pc Pa (Pc Pb P0)))(k:∀ H2 v u t1 t2,Ext f H H2->Pa t1->Pb t2->Rp K H2 t1 v->Rp K H2 t2 u->D.nx ((σ.set i (some v)).set j (some u)) H2):tPar i j ta D σ H :=
 h H _ (Ext.refl hf) fun H2 vs trs s2 _ p r=>by
  obtain ⟨t1,ys,pa,⟨t2,zs,pb,rfl,rfl⟩,rfl⟩:=p
  obtain ⟨v,us,rfl,rv,r⟩:=r.inv
  obtain ⟨u,us,rfl,ru,r⟩:=r.inv
  obtain rfl:=r.inv0
  exact ⟨v,u,rfl,k H2 v u t1 t2 s2 pa pb rv ru⟩
theorem ret_tx {te:TE}{P:T->Prop}{D:L2.Ends}(hf:FeedAt H f)(h:TrX K f te σ H P)(k:∀ H2 v tr,Ext f H H2->P tr->Rp K H2 tr v->D.rt v H2):tRet te D σ H:=h H _ (Ext.refl hf) k
end
theorem sg6 (i:Int)(h0:0<=i)(h6:i < (6:Nat)):∃ c,atI (Str.ofString "+-*<=:").cps.toList i=some c/\(⟨#[c]⟩:Str)∈sgs:=by
 obtain rfl | rfl | rfl | rfl | rfl | rfl:i=0\/i=1\/i=2\/i=3\/i=4\/i=5:=by omega
 ·exact ⟨43,by decide +kernel,by decide +kernel⟩
 ·exact ⟨45,by decide +kernel,by decide +kernel⟩
 ·exact ⟨42,by decide +kernel,by decide +kernel⟩
 ·exact ⟨60,by decide +kernel,by decide +kernel⟩
 ·exact ⟨61,by decide +kernel,by decide +kernel⟩
 ·exact ⟨58,by decide +kernel,by decide +kernel⟩
theorem sg5 (i:Int)(h0:0<=i)(h6:i < (5:Nat)):∃ c,atI (Str.ofString "+-*<=").cps.toList i=some c/\((⟨#[c]⟩:Str)∈sgs/\(⟨#[c]⟩:Str)≠":"):=by
 obtain rfl | rfl | rfl | rfl | rfl:i=0\/i=1\/i=2\/i=3\/i=4:=by omega
 ·exact ⟨43,by decide +kernel,by decide +kernel,by decide +kernel⟩
 ·exact ⟨45,by decide +kernel,by decide +kernel,by decide +kernel⟩
 ·exact ⟨42,by decide +kernel,by decide +kernel,by decide +kernel⟩
 ·exact ⟨60,by decide +kernel,by decide +kernel,by decide +kernel⟩
 ·exact ⟨61,by decide +kernel,by decide +kernel,by decide +kernel⟩
end G28
namespace G28
open PySem L2
section
variable {P : Program} {w : World} {K : PySem.W.Frag} {mg : Str → Option Value} {base : Heap} {C : Addr}
variable {gT gU gO gC : Addr} {tfd ufd ofd cfd : FuncData}
theorem nm_L_aside:Nm ["_law_feed_here","_law_scene","_law_core_here","_law_form","_law_other_here","_law_w","_law_side","_law_one","_law_last"] (defScope s_L_aside):=by decide +kernel
theorem lm_L_aside:Lm ["_law_feed_here","_law_scene","_law_core_here","_law_form","_law_other_here","_law_w","_law_side","_law_one","_law_last"] (defScope s_L_aside):=by decide +kernel
theorem sc_L_aside:FnScope ["_law_feed_here","_law_scene","_law_core_here","_law_form","_law_other_here","_law_w","_law_side","_law_one","_law_last"] ["_law_feed_here","_law_scene","_law_core_here"] (defScope s_L_aside):=⟨rfl,rfl,rfl,by decide +kernel,rfl,by decide +kernel,by decide +kernel⟩
theorem ok_aside {f:Addr}{fd:FuncData}(F:Fun K "_law_aside" "_law_aside" s_L_aside f fd)(TK:Has P w K mg base "_law_take" 1 ["_law_feed_here","_law_many"] spTake gT tfd)(OT:Has P w K mg base "_law_other" 3 ["_law_feed_here","_law_scene","_law_rows"] (spOther K) gO ofd) :
  FnOk P w K mg base CX0 4 f fd ["_law_feed_here","_law_scene","_law_core_here"] (spAside K):=by
 refine F.ok sc_L_aside (fun vs H Q E h=>?_) (fun cdv A outer s H vs Q E hr h=>?_)
 ·obtain ⟨_,_,_,_,_,_,_,rfl,_⟩:=h
  rfl
 obtain ⟨f2,d,ln,xs,n,u,kt,rfl,hs,hn,lx,rk,k⟩:=h
 refine ⟨_,(@pss_cons _ _ _ _ _ (@sa _ _ _ _ _ _ sc_L_aside.nd lm_L_aside 3 (@pe_call _ _ _ _ _ _ _ _ _ _ _ _ _ _ _ _ TK.ok (hr.mono (by omega)) (by show _=_;kernel_rfl) TK.at' TK.kp TK.bd .nil pass0 (pa_c (va nm_L_aside 0) (pa_c pe_int pa_nil)) (by decide) (by rfl) (by rfl)) (by rfl) (by kernel_rfl) (by exact .inl rfl)) (@pss_cons _ _ _ _ _ (@sa _ _ _ _ _ _ sc_L_aside.nd lm_L_aside 4 (@pe_call _ _ _ _ _ _ _ _ _ _ _ _ _ _ _ _ OT.ok (hr.mono (by omega)) (by show _=_;kernel_rfl) OT.at' OT.kp OT.bd .nil pass0 (@pa_c _ _ _ _ _ (va nm_L_aside 0) (@pa_c _ _ _ _ _ (va nm_L_aside 1) (@pa_c _ _ _ _ _ (@pe_cmpR _ _ _ _ _ _ _ _ op_in_seq (va nm_L_aside 3) (@pe_tup _ _ _ _ _ (pa_c pe_int (pa_c pe_int pa_nil))) (by with_unfolding_all rfl)) pa_nil (by rfl)) (by rfl)) (by rfl)) (by decide) (by rfl) (by rfl)) (by rfl) (by kernel_rfl) (by exact .inl rfl)) (@pss_cons _ _ _ _ _ (@sa _ _ _ _ _ _ sc_L_aside.nd lm_L_aside 5 (pe_dget (hu_of hr) (va nm_L_aside 1) pe_str (fun _ _=>rfl)) (by rfl) (by kernel_rfl) (by exact .inl rfl)) (@pss_cons _ _ _ _ _ (@sa _ _ _ _ _ _ sc_L_aside.nd lm_L_aside 6 (@pe_call _ _ _ _ _ _ _ _ _ _ _ _ _ _ _ _ TK.ok (hr.mono (by omega)) (by show _=_;kernel_rfl) TK.at' TK.kp TK.bd .nil pass0 (pa_c (va nm_L_aside 0) (pa_c pe_int pa_nil)) (by decide) (by rfl) (by rfl)) (by rfl) (by kernel_rfl) (by exact .inl rfl)) (@pss_cons _ _ _ _ _ (@ps_if _ _ _ _ _ _ _ _ (pt_cmpR op_eq (va nm_L_aside 3) pe_int (nomark _)) (@pss_one _ _ _ (@ps_ret _ _ _ _ (@pe_tup _ _ _ _ _ (@pa_c _ _ _ _ _ pe_str (@pa_c _ _ _ _ _ (@pe_ix _ _ _ _ _ _ _ ix_str pe_str (@pe_call _ _ _ _ _ _ _ _ _ _ _ _ _ _ _ _ TK.ok (hr.mono (by omega)) (by show _=_;kernel_rfl) TK.at' TK.kp TK.bd .nil pass0 (pa_c (va nm_L_aside 0) (pa_c pe_int pa_nil)) (by decide) (by rfl) (by rfl)) (fun _ _=>rfl)) (@pa_c _ _ _ _ _ (va nm_L_aside 2) (pa_c (va nm_L_aside 4) pa_nil) (by rfl)) (by rfl)) (by rfl))))) pss_nil) (@pss_cons _ _ _ _ _ (@ps_if _ _ _ _ _ _ _ _ (pt_cmpR op_eq (va nm_L_aside 3) pe_int (nomark _)) (@pss_one _ _ _ (@ps_ret _ _ _ _ (@pe_tup _ _ _ _ _ (@pa_c _ _ _ _ _ pe_str (@pa_c _ _ _ _ _ (@pe_ix _ _ _ _ _ _ _ ix_str pe_str (@pe_call _ _ _ _ _ _ _ _ _ _ _ _ _ _ _ _ TK.ok (hr.mono (by omega)) (by show _=_;kernel_rfl) TK.at' TK.kp TK.bd .nil pass0 (pa_c (va nm_L_aside 0) (pa_c pe_int pa_nil)) (by decide) (by rfl) (by rfl)) (fun _ _=>rfl)) (@pa_c _ _ _ _ _ (va nm_L_aside 4) (pa_c (va nm_L_aside 2) pa_nil) (by rfl)) (by rfl)) (by rfl))))) pss_nil) (@pss_cons _ _ _ _ _ (@ps_if _ _ _ _ _ _ _ _ (pt_cmpR op_eq (va nm_L_aside 3) pe_int (nomark _)) (@pss_one _ _ _ (@ps_ret _ _ _ _ (@pe_ix _ _ _ _ _ _ _ ix_list (@pe_lst _ _ _ _ (@pa_c _ _ _ _ _ (@pe_tup _ _ _ _ _ (@pa_c _ _ _ _ _ pe_str (@pa_c _ _ _ _ _ (pe_ix ix_list (va nm_L_aside 5) pe_int (fun _ _=>rfl)) (@pa_c _ _ _ _ _ (va nm_L_aside 2) (@pa_c _ _ _ _ _ (@pe_tup _ _ _ _ _ (pa_c pe_str (pa_c pe_int pa_nil))) pa_nil (by rfl)) (by rfl)) (by rfl)) (by rfl))) (@pa_c _ _ _ _ _ (@pe_tup _ _ _ _ _ (@pa_c _ _ _ _ _ pe_str (@pa_c _ _ _ _ _ (pe_ix ix_list (va nm_L_aside 5) pe_int (fun _ _=>rfl)) (@pa_c _ _ _ _ _ (va nm_L_aside 4) (pa_c (va nm_L_aside 2) pa_nil) (by rfl)) (by rfl)) (by rfl))) pa_nil (by rfl)) (by rfl))) (va nm_L_aside 6) (fun _ _=>rfl)))) pss_nil) (@pss_cons _ _ _ _ _ (@ps_if _ _ _ _ _ _ _ _ (pt_cmpR op_eq (va nm_L_aside 3) pe_int (nomark _)) (@pss_one _ _ _ (@ps_ret _ _ _ _ (@pe_tup _ _ _ _ _ (@pa_c _ _ _ _ _ pe_str (@pa_c _ _ _ _ _ (@pe_tup _ _ _ _ _ (@pa_c _ _ _ _ _ pe_str (@pa_c _ _ _ _ _ (va nm_L_aside 2) (pa_c (va nm_L_aside 4) pa_nil) (by rfl)) (by rfl))) pa_nil (by rfl)) (by rfl))))) pss_nil) (@pss_cons _ _ _ _ _ (@ps_if _ _ _ _ _ _ _ _ (pt_cmpR op_eq (va nm_L_aside 3) pe_int (nomark _)) (@pss_one _ _ _ (@ps_ret _ _ _ _ (@pe_tup _ _ _ _ _ (@pa_c _ _ _ _ _ pe_str (@pa_c _ _ _ _ _ (@pe_tup _ _ _ _ _ (@pa_c _ _ _ _ _ pe_str (@pa_c _ _ _ _ _ (@pe_ix _ _ _ _ _ _ _ ix_list (@pe_lst _ _ _ _ (@pa_c _ _ _ _ _ (@pe_tup _ _ _ _ _ (@pa_c _ _ _ _ _ (va nm_L_aside 2) (pa_c (va nm_L_aside 4) pa_nil) (by rfl))) (@pa_c _ _ _ _ _ (@pe_tup _ _ _ _ _ (@pa_c _ _ _ _ _ (va nm_L_aside 4) (pa_c (va nm_L_aside 2) pa_nil) (by rfl))) (@pa_c _ _ _ _ _ (@pe_tup _ _ _ _ _ (pa_c (va nm_L_aside 2) pa_nil)) pa_nil (by rfl)) (by rfl)) (by rfl))) (@pe_call _ _ _ _ _ _ _ _ _ _ _ _ _ _ _ _ TK.ok (hr.mono (by omega)) (by show _=_;kernel_rfl) TK.at' TK.kp TK.bd .nil pass0 (pa_c (va nm_L_aside 0) (pa_c pe_int pa_nil)) (by decide) (by rfl) (by rfl)) (fun _ _=>rfl)) pa_nil (by rfl)) (by rfl))) pa_nil (by rfl)) (by rfl))))) pss_nil) (@pss_cons _ _ _ _ _ (@ps_if _ _ _ _ _ _ _ _ (pt_cmpR op_eq (va nm_L_aside 3) pe_int (nomark _)) (@pss_cons _ _ _ _ _ (@ps_par _ _ (7) (8) _ _ _ _ _ _ _ _ _ _ _ rfl sc_L_aside.nd rfl rfl (by decide) rfl rfl (@pa_c _ _ _ _ _ (@pe_tup _ _ _ _ _ (@pa_c _ _ _ _ _ (pe_ix ix_list (va nm_L_aside 5) pe_int (fun _ _=>rfl)) (@pa_c _ _ _ _ _ (@pe_tup _ _ _ _ _ (@pa_c _ _ _ _ _ (pe_ix ix_list (va nm_L_aside 5) pe_int (fun _ _=>rfl)) pa_nil (by rfl))) (@pa_c _ _ _ _ _ (@pe_tup _ _ _ _ _ (@pa_c _ _ _ _ _ pe_str (@pa_c _ _ _ _ _ (pe_ix ix_list (va nm_L_aside 5) pe_int (fun _ _=>rfl)) pa_nil (by rfl)) (by rfl))) pa_nil (by rfl)) (by rfl)) (by rfl))) (@pa_c _ _ _ _ _ (@pe_tup _ _ _ _ _ (@pa_c _ _ _ _ _ (pe_ix ix_list (va nm_L_aside 5) pe_int (fun _ _=>rfl)) (@pa_c _ _ _ _ _ (pe_tup pa_nil) (pa_c (va nm_L_aside 4) pa_nil) (by rfl)) (by rfl))) pa_nil (by rfl)) (by rfl)) (by rfl) (by rfl)) (@pss_one _ _ _ (@ps_ret _ _ _ _ (@pe_tup _ _ _ _ _ (@pa_c _ _ _ _ _ pe_str (@pa_c _ _ _ _ _ (@pe_tup _ _ _ _ _ (@pa_c _ _ _ _ _ pe_str (@pa_c _ _ _ _ _ (pe_ix ix_list (va nm_L_aside 5) pe_int (fun _ _=>rfl)) (@pa_c _ _ _ _ _ (@pe_tup _ _ _ _ _ (pa_c (va nm_L_aside 2) pa_nil)) pa_nil (by rfl)) (by rfl)) (by rfl))) (@pa_c _ _ _ _ _ (@pe_ix _ _ _ _ _ _ _ ix_list (@pe_lst _ _ _ _ (@pa_c _ _ _ _ _ (@pe_tup _ _ _ _ _ (@pa_c _ _ _ _ _ (va nm_L_aside 7) (pa_c (va nm_L_aside 8) pa_nil) (by rfl))) (@pa_c _ _ _ _ _ (@pe_tup _ _ _ _ _ (@pa_c _ _ _ _ _ (va nm_L_aside 8) (pa_c (va nm_L_aside 7) pa_nil) (by rfl))) pa_nil (by rfl)) (by rfl))) (va nm_L_aside 6) (fun _ _=>rfl)) pa_nil (by rfl)) (by rfl)) (by rfl)))))) pss_nil) (@pss_cons _ _ _ _ _ (@ps_if _ _ _ _ _ _ _ _ (pt_cmpR op_eq (va nm_L_aside 3) pe_int (nomark _)) (@pss_one _ _ _ (@ps_ret _ _ _ _ (@pe_tup _ _ _ _ _ (@pa_c _ _ _ _ _ pe_str (@pa_c _ _ _ _ _ (pe_ix ix_list (va nm_L_aside 5) pe_int (fun _ _=>rfl)) (@pa_c _ _ _ _ _ (@pe_ix _ _ _ _ _ _ _ ix_list (@pe_lst _ _ _ _ (@pa_c _ _ _ _ _ (@pe_tup _ _ _ _ _ (@pa_c _ _ _ _ _ (va nm_L_aside 2) (pa_c (va nm_L_aside 4) pa_nil) (by rfl))) (@pa_c _ _ _ _ _ (@pe_tup _ _ _ _ _ (@pa_c _ _ _ _ _ (va nm_L_aside 4) (pa_c (va nm_L_aside 2) pa_nil) (by rfl))) pa_nil (by rfl)) (by rfl))) (va nm_L_aside 6) (fun _ _=>rfl)) pa_nil (by rfl)) (by rfl)) (by rfl))))) pss_nil) (@pss_cons _ _ _ _ _ (@ps_if _ _ _ _ _ _ _ _ (pt_cmpR op_eq (va nm_L_aside 3) pe_int (nomark _)) (@pss_one _ _ _ (@ps_ret _ _ _ _ (@pe_tup _ _ _ _ _ (@pa_c _ _ _ _ _ pe_str (@pa_c _ _ _ _ _ (va nm_L_aside 2) (@pa_c _ _ _ _ _ (va nm_L_aside 4) (@pa_c _ _ _ _ _ (@pe_tup _ _ _ _ _ (pa_c pe_str (pa_c pe_int pa_nil))) pa_nil (by rfl)) (by rfl)) (by rfl)) (by rfl))))) pss_nil) (@pss_cons _ _ _ _ _ (@ps_if _ _ _ _ _ _ _ _ (pt_cmpR op_eq (va nm_L_aside 6) pe_int (nomark _)) (@pss_one _ _ _ (@ps_ret _ _ _ _ (@pe_tup _ _ _ _ _ (@pa_c _ _ _ _ _ pe_str (@pa_c _ _ _ _ _ (va nm_L_aside 4) (@pa_c _ _ _ _ _ (pe_ix ix_list (va nm_L_aside 5) pe_int (fun _ _=>rfl)) (@pa_c _ _ _ _ _ (pe_ix ix_list (va nm_L_aside 5) pe_int (fun _ _=>rfl)) (@pa_c _ _ _ _ _ (va nm_L_aside 2) (@pa_c _ _ _ _ _ (@pe_tup _ _ _ _ _ (pa_c pe_str (pa_c pe_int pa_nil))) pa_nil (by rfl)) (by rfl)) (by rfl)) (by rfl)) (by rfl)) (by rfl))))) pss_nil) (@pss_one _ _ _ (@ps_ret _ _ _ _ (@pe_tup _ _ _ _ _ (@pa_c _ _ _ _ _ pe_str (@pa_c _ _ _ _ _ (@pe_tup _ _ _ _ _ (@pa_c _ _ _ _ _ pe_str (@pa_c _ _ _ _ _ (@pe_tup _ _ _ _ _ (pa_c (va nm_L_aside 2) pa_nil)) pa_nil (by rfl)) (by rfl))) (@pa_c _ _ _ _ _ (pe_ix ix_list (va nm_L_aside 5) pe_int (fun _ _=>rfl)) (@pa_c _ _ _ _ _ (pe_ix ix_list (va nm_L_aside 5) pe_int (fun _ _=>rfl)) (@pa_c _ _ _ _ _ (@pe_tup _ _ _ _ _ (pa_c pe_str (pa_c pe_int pa_nil))) (@pa_c _ _ _ _ _ (@pe_tup _ _ _ _ _ (@pa_c _ _ _ _ _ pe_str (@pa_c _ _ _ _ _ (pe_ix ix_list (va nm_L_aside 5) pe_int (fun _ _=>rfl)) pa_nil (by rfl)) (by rfl))) pa_nil (by rfl)) (by rfl)) (by rfl)) (by rfl)) (by rfl)) (by rfl)))))))))))))))))),?_⟩
 have hf:=hs.hf
 fail "R"
 intro z H1 z0 z9 x1
 have hs1:=hs.ext x1
 have rk1:=rk.kt (x1.kt hf)
 fail "R"
 intro p hp
 have s2:=same_new hp (.tup [.int 3,.int 8])
 have hs2:=hs1.same s2
 have rk2:=rk1.same s2
 fail "R"
 intro H3 v o n3 c3 hs3 hn3 ho ro
 have rk3:=rk2.kt (hs2.kt c3)
 have cc:Cg f2 d H H3:=((Cg.ext x1).trans (Cg.same s2)).trans c3
 have dg:=hs3.g.2
 have hf3:=hs3.hf
 clear hs hs1 hs2 rk rk1 rk2 c3 x1 s2 hf hp
 fail "R"
 intro y H4 y0 y2 x4
 have hs4:=hs3.ext x4
 have rk4:=rk3.kt (x4.kt hf3)
 have ro4:=ro.kt (x4.kt hf3)
 have hfF:=hs4.hf
 have hn4:=hs4.hn
 have kk:∀ (H':Hp) (v:V) (tm:Tm),Ext f2 H4 H'->Asd (wf xs) kt tm->Rp K H' (enc tm) v->Q v H':=fun H' v tm s3 c r=>k H' v tm n3 ((cc.trans (Cg.ext x4)).trans (Cg.ext s3)) (hs4.ext s3) hn3 c r
 clear k dg x4 hs3 rk3 ro cc
 have y01:y=0\/y=1:=by omega
 fail "R"
 refine ite2 (fun c=>?_) (fun c=>?_)
 ·obtain rfl:z=0:=by have:=of_decide_eq_true c;injection this
  have ho':Ot false o:=ho
  clear c ho
  refine ret_tx hfF (tx_tup (txs_cons tx_s (txs_cons (tx_sixC (m:=6) (P:=(·∈sgs)) rfl (by omega) (by omega) (by decide +kernel) sg6) (txs_cons (tx_v hfF rk4 rfl) (txs_cons (tx_v hfF ro4 rfl) txs_nil))))) ?_;rintro H9 v9 _ x9 ⟨_,⟨_,_,rfl,⟨_,_,⟨a1,ha1,rfl⟩,⟨_,_,rfl,⟨_,_,rfl,rfl,rfl⟩,rfl⟩,rfl⟩,rfl⟩,rfl⟩ r9
  exact kk _ _ (.mk (.op _) [kt,o]) x9 (.opL ha1 ho') (by rw [e_op];exact r9)
 have z0':z≠0:=fun e=>c (by rw [e];exact decide_eq_true rfl)
 clear c
 fail "R"
 refine ite2 (fun c=>?_) (fun c=>?_)
 ·obtain rfl:z=1:=by have:=of_decide_eq_true c;injection this
  have ho':Ot false o:=ho
  clear c ho
  refine ret_tx hfF (tx_tup (txs_cons tx_s (txs_cons (tx_sixC (m:=5) (P:=(fun y=>y∈sgs/\y≠":")) rfl (by omega) (by omega) (by decide +kernel) sg5) (txs_cons (tx_v hfF ro4 rfl) (txs_cons (tx_v hfF rk4 rfl) txs_nil))))) ?_;rintro H9 v9 _ x9 ⟨_,⟨_,_,rfl,⟨_,_,⟨a1,ha1,rfl⟩,⟨_,_,rfl,⟨_,_,rfl,rfl,rfl⟩,rfl⟩,rfl⟩,rfl⟩,rfl⟩ r9
  exact kk _ _ (.mk (.op _) [o,kt]) x9 (.opR ha1.1 ha1.2 ho') (by rw [e_op];exact r9)
 have z1':z≠1:=fun e=>c (by rw [e];exact decide_eq_true rfl)
 clear c
 fail "R"
 refine ite2 (fun c=>?_) (fun c=>?_)
 ·obtain rfl:z=2:=by have:=of_decide_eq_true c;injection this
  have ho':Ot false o:=ho
  clear c ho
  rcases y01 with rfl | rfl
  ·refine ret_tx hfF (tx_lix0 (txs_cons (tx_tup (txs_cons tx_s (txs_cons (tx_nm (i:=0) hfF hn4 rfl (by omega)) (txs_cons (tx_v hfF rk4 rfl) (txs_cons (tx_tup (txs_cons tx_s (txs_cons tx_i txs_nil))) txs_nil))))) (txs_cons (tx_tup (txs_cons tx_s (txs_cons (tx_nm (i:=0) hfF hn4 rfl (by omega)) (txs_cons (tx_v hfF ro4 rfl) (txs_cons (tx_v hfF rk4 rfl) txs_nil))))) txs_nil)) rfl) ?_;rintro H9 v9 _ x9 ⟨_,⟨_,_,rfl,⟨_,_,rfl,⟨_,_,rfl,⟨_,_,⟨_,⟨_,_,rfl,⟨_,_,rfl,rfl,rfl⟩,rfl⟩,rfl⟩,rfl,rfl⟩,rfl⟩,rfl⟩,rfl⟩,rfl⟩ r9
   exact kk _ _ (.mk (.lt _) [kt,num 3]) x9 .let1 (by rw [e_lt,e_num];exact r9)
  ·refine ret_tx hfF (tx_lix1 (txs_cons (tx_tup (txs_cons tx_s (txs_cons (tx_nm (i:=0) hfF hn4 rfl (by omega)) (txs_cons (tx_v hfF rk4 rfl) (txs_cons (tx_tup (txs_cons tx_s (txs_cons tx_i txs_nil))) txs_nil))))) (txs_cons (tx_tup (txs_cons tx_s (txs_cons (tx_nm (i:=0) hfF hn4 rfl (by omega)) (txs_cons (tx_v hfF ro4 rfl) (txs_cons (tx_v hfF rk4 rfl) txs_nil))))) txs_nil)) rfl) ?_;rintro H9 v9 _ x9 ⟨_,⟨_,_,rfl,⟨_,_,rfl,⟨_,_,rfl,⟨_,_,rfl,rfl,rfl⟩,rfl⟩,rfl⟩,rfl⟩,rfl⟩ r9
   exact kk _ _ (.mk (.lt _) [o,kt]) x9 (.let2 ho') (by rw [e_lt];exact r9)
 have z2':z≠2:=fun e=>c (by rw [e];exact decide_eq_true rfl)
 clear c
 fail "R"
 refine ite2 (fun c=>?_) (fun c=>?_)
 ·obtain rfl:z=3:=by have:=of_decide_eq_true c;injection this
  have ho':Ot true o:=ho
  clear c ho
  refine ret_tx hfF (tx_tup (txs_cons tx_s (txs_cons (tx_tup (txs_cons tx_s (txs_cons (tx_v hfF rk4 rfl) (txs_cons (tx_v hfF ro4 rfl) txs_nil)))) txs_nil))) ?_;rintro H9 v9 _ x9 ⟨_,⟨_,_,rfl,⟨_,_,⟨_,⟨_,_,rfl,⟨_,_,rfl,⟨_,_,rfl,rfl,rfl⟩,rfl⟩,rfl⟩,rfl⟩,rfl,rfl⟩,rfl⟩,rfl⟩ r9
  exact kk _ _ (.mk .long [.mk .more [kt,o]]) x9 (.more ho') (by rw [e_long,e_more];exact r9)
 have z3':z≠3:=fun e=>c (by rw [e];exact decide_eq_true rfl)
 clear c
 fail "R"
 refine ite2 (fun c=>?_) (fun c=>?_)
 ·obtain rfl:z=4:=by have:=of_decide_eq_true c;injection this
  have ho':Ot false o:=ho
  clear c ho
  refine ret_tx hfF (tx_tup (txs_cons tx_s (txs_cons (tx_tup (txs_cons tx_s (txs_cons (tx_lixC3 (txs_cons (tx_tup (txs_cons (tx_v hfF rk4 rfl) (txs_cons (tx_v hfF ro4 rfl) txs_nil))) (txs_cons (tx_tup (txs_cons (tx_v hfF ro4 rfl) (txs_cons (tx_v hfF rk4 rfl) txs_nil))) (txs_cons (tx_tup (txs_cons (tx_v hfF rk4 rfl) txs_nil)) txs_nil))) rfl) txs_nil))) txs_nil))) ?_;rintro H9 v9 _ x9 ⟨_,⟨_,_,rfl,⟨_,_,⟨_,⟨_,_,rfl,⟨_,_,(⟨_,⟨_,_,rfl,⟨_,_,rfl,rfl,rfl⟩,rfl⟩,rfl⟩ | ⟨_,⟨_,_,rfl,⟨_,_,rfl,rfl,rfl⟩,rfl⟩,rfl⟩ | ⟨_,⟨_,_,rfl,rfl,rfl⟩,rfl⟩),rfl,rfl⟩,rfl⟩,rfl⟩,rfl,rfl⟩,rfl⟩,rfl⟩ r9
  ·exact kk _ _ (.mk .long [.mk .row [kt,o]]) x9 (.row2 ho') (by rw [e_long,e_row];exact r9)
  ·exact kk _ _ (.mk .long [.mk .row [o,kt]]) x9 (.row3 ho') (by rw [e_long,e_row];exact r9)
  ·exact kk _ _ (.mk .long [.mk .row [kt]]) x9 .row1 (by rw [e_long,e_row];exact r9)
 have z4':z≠4:=fun e=>c (by rw [e];exact decide_eq_true rfl)
 clear c
 fail "R"
 refine ite2 (fun c=>?_) (fun c=>?_)
 ·obtain rfl:z=5:=by have:=of_decide_eq_true c;injection this
  have ho':Ot false o:=ho
  clear c ho
  refine par_tx hfF (txs_cons (tx_tup (txs_cons (tx_nm (i:=1) hfF hn4 rfl (by omega)) (txs_cons (tx_tup (txs_cons (tx_nm (i:=2) hfF hn4 rfl (by omega)) txs_nil)) (txs_cons (tx_tup (txs_cons tx_s (txs_cons (tx_nm (i:=2) hfF hn4 rfl (by omega)) txs_nil))) txs_nil)))) (txs_cons (tx_tup (txs_cons (tx_nm (i:=3) hfF hn4 rfl (by omega)) (txs_cons (tx_tup txs_nil) (txs_cons (tx_v hfF ro4 rfl) txs_nil)))) txs_nil)) ?_;rintro H9 u9 w9 _ _ x9 ⟨_,⟨_,_,rfl,⟨_,_,⟨_,⟨_,_,rfl,rfl,rfl⟩,rfl⟩,⟨_,_,⟨_,⟨_,_,rfl,⟨_,_,rfl,rfl,rfl⟩,rfl⟩,rfl⟩,rfl,rfl⟩,rfl⟩,rfl⟩,rfl⟩ ⟨_,⟨_,_,rfl,⟨_,_,⟨_,rfl,rfl⟩,⟨_,_,rfl,rfl,rfl⟩,rfl⟩,rfl⟩,rfl⟩ ru9 rw9
  have rk5:=rk4.kt (x9.kt hfF)
  have ro5:=ro4.kt (x9.kt hfF)
  have hn5:=x9.1 ln _ (ne_feed hfF hn4) hn4
  replace kk:∀ (H':Hp) (v:V) (tm:Tm),Ext f2 H9 H'->Asd (wf xs) kt tm->Rp K H' (enc tm) v->Q v H':=fun H' v tm s3 c r=>kk H' v tm (x9.trans s3) c r
  replace hfF:=x9.2
  clear x9
  rcases y01 with rfl | rfl
  ·refine ret_tx hfF (tx_tup (txs_cons tx_s (txs_cons (tx_tup (txs_cons tx_s (txs_cons (tx_nm (i:=1) hfF hn5 rfl (by omega)) (txs_cons (tx_tup (txs_cons (tx_v hfF rk5 rfl) txs_nil)) txs_nil)))) (txs_cons (tx_lix0 (txs_cons (tx_tup (txs_cons (tx_v hfF ru9 rfl) (txs_cons (tx_v hfF rw9 rfl) txs_nil))) (txs_cons (tx_tup (txs_cons (tx_v hfF rw9 rfl) (txs_cons (tx_v hfF ru9 rfl) txs_nil))) txs_nil)) rfl) txs_nil)))) ?_;rintro H9 v9 _ x9 ⟨_,⟨_,_,rfl,⟨_,_,⟨_,⟨_,_,rfl,⟨_,_,rfl,⟨_,_,⟨_,⟨_,_,rfl,rfl,rfl⟩,rfl⟩,rfl,rfl⟩,rfl⟩,rfl⟩,rfl⟩,⟨_,_,⟨_,⟨_,_,rfl,⟨_,_,rfl,rfl,rfl⟩,rfl⟩,rfl⟩,rfl,rfl⟩,rfl⟩,rfl⟩,rfl⟩ r9
   exact kk _ _ (.mk (.mat (ms (wf xs))) [.mk (.tag (wf xs 1)) [kt],name (wf xs 2),o]) x9 (.mat1 ho') (by rw [e_mat,e_tag];simp only [List.map_cons,List.map_nil,e_name];exact r9)
  ·refine ret_tx hfF (tx_tup (txs_cons tx_s (txs_cons (tx_tup (txs_cons tx_s (txs_cons (tx_nm (i:=1) hfF hn5 rfl (by omega)) (txs_cons (tx_tup (txs_cons (tx_v hfF rk5 rfl) txs_nil)) txs_nil)))) (txs_cons (tx_lix1 (txs_cons (tx_tup (txs_cons (tx_v hfF ru9 rfl) (txs_cons (tx_v hfF rw9 rfl) txs_nil))) (txs_cons (tx_tup (txs_cons (tx_v hfF rw9 rfl) (txs_cons (tx_v hfF ru9 rfl) txs_nil))) txs_nil)) rfl) txs_nil)))) ?_;rintro H9 v9 _ x9 ⟨_,⟨_,_,rfl,⟨_,_,⟨_,⟨_,_,rfl,⟨_,_,rfl,⟨_,_,⟨_,⟨_,_,rfl,rfl,rfl⟩,rfl⟩,rfl,rfl⟩,rfl⟩,rfl⟩,rfl⟩,⟨_,_,⟨_,⟨_,_,rfl,⟨_,_,rfl,rfl,rfl⟩,rfl⟩,rfl⟩,rfl,rfl⟩,rfl⟩,rfl⟩,rfl⟩ r9
   exact kk _ _ (.mk (.mat (ms' (wf xs))) [.mk (.tag (wf xs 1)) [kt],o,name (wf xs 2)]) x9 (.mat2 ho') (by rw [e_mat,e_tag];simp only [List.map_cons,List.map_nil,e_name];exact r9)
 have z5':z≠5:=fun e=>c (by rw [e];exact decide_eq_true rfl)
 clear c
 fail "R"
 refine ite2 (fun c=>?_) (fun c=>?_)
 ·obtain rfl:z=6:=by have:=of_decide_eq_true c;injection this
  have ho':Ot false o:=ho
  clear c ho
  rcases y01 with rfl | rfl
  ·refine ret_tx hfF (tx_tup (txs_cons tx_s (txs_cons (tx_nm (i:=5) hfF hn4 rfl (by omega)) (txs_cons (tx_lix0 (txs_cons (tx_tup (txs_cons (tx_v hfF rk4 rfl) (txs_cons (tx_v hfF ro4 rfl) txs_nil))) (txs_cons (tx_tup (txs_cons (tx_v hfF ro4 rfl) (txs_cons (tx_v hfF rk4 rfl) txs_nil))) txs_nil)) rfl) txs_nil)))) ?_;rintro H9 v9 _ x9 ⟨_,⟨_,_,rfl,⟨_,_,rfl,⟨_,_,⟨_,⟨_,_,rfl,⟨_,_,rfl,rfl,rfl⟩,rfl⟩,rfl⟩,rfl,rfl⟩,rfl⟩,rfl⟩,rfl⟩ r9
   exact kk _ _ (.mk (.call _) [kt,o]) x9 (.call1 ho') (by rw [e_call];exact r9)
  ·refine ret_tx hfF (tx_tup (txs_cons tx_s (txs_cons (tx_nm (i:=5) hfF hn4 rfl (by omega)) (txs_cons (tx_lix1 (txs_cons (tx_tup (txs_cons (tx_v hfF rk4 rfl) (txs_cons (tx_v hfF ro4 rfl) txs_nil))) (txs_cons (tx_tup (txs_cons (tx_v hfF ro4 rfl) (txs_cons (tx_v hfF rk4 rfl) txs_nil))) txs_nil)) rfl) txs_nil)))) ?_;rintro H9 v9 _ x9 ⟨_,⟨_,_,rfl,⟨_,_,rfl,⟨_,_,⟨_,⟨_,_,rfl,⟨_,_,rfl,rfl,rfl⟩,rfl⟩,rfl⟩,rfl,rfl⟩,rfl⟩,rfl⟩,rfl⟩ r9
   exact kk _ _ (.mk (.call _) [o,kt]) x9 (.call2 ho') (by rw [e_call];exact r9)
 have z6':z≠6:=fun e=>c (by rw [e];exact decide_eq_true rfl)
 clear c
 fail "R"
 refine ite2 (fun c=>?_) (fun c=>?_)
 ·obtain rfl:z=7:=by have:=of_decide_eq_true c;injection this
  have ho':Ot false o:=ho
  clear c ho
  refine ret_tx hfF (tx_tup (txs_cons tx_s (txs_cons (tx_v hfF rk4 rfl) (txs_cons (tx_v hfF ro4 rfl) (txs_cons (tx_tup (txs_cons tx_s (txs_cons tx_i txs_nil))) txs_nil))))) ?_;rintro H9 v9 _ x9 ⟨_,⟨_,_,rfl,⟨_,_,rfl,⟨_,_,rfl,⟨_,_,⟨_,⟨_,_,rfl,⟨_,_,rfl,rfl,rfl⟩,rfl⟩,rfl⟩,rfl,rfl⟩,rfl⟩,rfl⟩,rfl⟩,rfl⟩ r9
  exact kk _ _ (.mk .ife [kt,o,num 4]) x9 (.ife ho') (by rw [e_ife,e_num];exact r9)
 have z7':z≠7:=fun e=>c (by rw [e];exact decide_eq_true rfl)
 clear c
 obtain rfl:z=8:=by omega
 have ho':Ot true o:=ho
 clear ho
 fail "R"
 refine ite2 (fun c=>?_) (fun c=>?_)
 ·refine ret_tx hfF (tx_tup (txs_cons tx_s (txs_cons (tx_v hfF ro4 rfl) (txs_cons (tx_nm (i:=0) hfF hn4 rfl (by omega)) (txs_cons (tx_nm (i:=2) hfF hn4 rfl (by omega)) (txs_cons (tx_v hfF rk4 rfl) (txs_cons (tx_tup (txs_cons tx_s (txs_cons tx_i txs_nil))) txs_nil))))))) ?_;rintro H9 v9 _ x9 ⟨_,⟨_,_,rfl,⟨_,_,rfl,⟨_,_,rfl,⟨_,_,rfl,⟨_,_,rfl,⟨_,_,⟨_,⟨_,_,rfl,⟨_,_,rfl,rfl,rfl⟩,rfl⟩,rfl⟩,rfl,rfl⟩,rfl⟩,rfl⟩,rfl⟩,rfl⟩,rfl⟩,rfl⟩ r9
  exact kk _ _ (.mk (.fold _ _) [o,kt,num 5]) x9 (.fold1 ho') (by rw [e_fold,e_num];exact r9)
 ·refine ret_tx hfF (tx_tup (txs_cons tx_s (txs_cons (tx_tup (txs_cons tx_s (txs_cons (tx_tup (txs_cons (tx_v hfF rk4 rfl) txs_nil)) txs_nil))) (txs_cons (tx_nm (i:=0) hfF hn4 rfl (by omega)) (txs_cons (tx_nm (i:=2) hfF hn4 rfl (by omega)) (txs_cons (tx_tup (txs_cons tx_s (txs_cons tx_i txs_nil))) (txs_cons (tx_tup (txs_cons tx_s (txs_cons (tx_nm (i:=0) hfF hn4 rfl (by omega)) txs_nil))) txs_nil))))))) ?_;rintro H9 v9 _ x9 ⟨_,⟨_,_,rfl,⟨_,_,⟨_,⟨_,_,rfl,⟨_,_,⟨_,⟨_,_,rfl,rfl,rfl⟩,rfl⟩,rfl,rfl⟩,rfl⟩,rfl⟩,⟨_,_,rfl,⟨_,_,rfl,⟨_,_,⟨_,⟨_,_,rfl,⟨_,_,rfl,rfl,rfl⟩,rfl⟩,rfl⟩,⟨_,_,⟨_,⟨_,_,rfl,⟨_,_,rfl,rfl,rfl⟩,rfl⟩,rfl⟩,rfl,rfl⟩,rfl⟩,rfl⟩,rfl⟩,rfl⟩,rfl⟩,rfl⟩ r9
  exact kk _ _ (.mk (.fold _ _) [.mk .row [kt],num 0,name _]) x9 .fold2 (by rw [e_fold,e_num,e_row,e_name];exact r9)
end
end G28
namespace G28
open PySem L2
section
variable {P : Program} {w : World} {K : PySem.W.Frag} {mg : Str → Option Value} {base : Heap} {C : Addr}
variable {gT gU gO gC : Addr} {tfd ufd ofd cfd : FuncData}
theorem nm_L_within:Nm ["_law_feed_here","_law_scene","_law_core_here","_law_form","_law_way","_law_looked","_law_other_here","_law_w","_law_side","_law_test","_law_taken","_law_one","_law_last","_law_rows"] (defScope s_L_within):=by decide +kernel
theorem lm_L_within:Lm ["_law_feed_here","_law_scene","_law_core_here","_law_form","_law_way","_law_looked","_law_other_here","_law_w","_law_side","_law_test","_law_taken","_law_one","_law_last","_law_rows"] (defScope s_L_within):=by decide +kernel
theorem sc_L_within:FnScope ["_law_feed_here","_law_scene","_law_core_here","_law_form","_law_way","_law_looked","_law_other_here","_law_w","_law_side","_law_test","_law_taken","_law_one","_law_last","_law_rows"] ["_law_feed_here","_law_scene","_law_core_here"] (defScope s_L_within):=⟨rfl,rfl,rfl,by decide +kernel,rfl,by decide +kernel,by decide +kernel⟩
theorem within_rest {f:Addr}{cdv:Value}{A:Around}{outer:List PySem.Env}{s:Shared}{H0:Hp}{E:XK}(TK:Has P w K mg base "_law_take" 1 ["_law_feed_here","_law_many"] spTake gT tfd)(OT:Has P w K mg base "_law_other" 3 ["_law_feed_here","_law_scene","_law_rows"] (spOther K) gO ofd)(hr:Room 3 (A.deeper (PyProof.Rows.envOfC "_law_within" (defScope s_L_within) s.heap.objs.size f cdv)))
  {D:L2.Ends} {H:Hp} {f2 d ln:Addr} {xs:List Str} {n:Nat} {u ul:V} {kt:Tm} {fm way yl:Int} {x6 x7 x8 x9 x10 x11 x12 x13:Option V} (hs:Sc H f2 d ln xs n) (hn:n<=5) (lx:xs.length=10) (rk:Rp K H (enc kt) u) (rl:Rp K H (enc (gap yl)) ul) (hy:yl.natAbs < 2 ^ 20) (hf0:0<=fm) (hf3:fm < 3) (hw:way=0\/way=1\/way=2)
  (k:∀ (H':Hp) (p:Addr) (v:V) (tm:Tm) (here:Bool) (n':Nat),Cg f2 d H H'->Sc H' f2 d ln xs n'->n'<=5->Wth (wf xs) kt tm here->H' p=some (.tup [v,.bl here])->Rp K H' (enc tm) v->D.rt (.ref p) H') :
  tBlk (cxOf CX0 P w K mg base ["_law_feed_here","_law_scene","_law_core_here","_law_form","_law_way","_law_looked","_law_other_here","_law_w","_law_side","_law_test","_law_taken","_law_one","_law_last","_law_rows"] "_law_within" (defScope s_L_within) f cdv A outer s H0 E).nox ((defBody s_L_within).drop 4) D [some (.ref f2),some (.ref d),some u,some (.int fm),some (.int way),some ul,x6,x7,x8,x9,x10,x11,x12,x13] H:=by
 refine blk_of ((@pss_cons _ _ _ _ _ (@sa _ _ _ _ _ _ sc_L_within.nd lm_L_within 6 (@pe_call _ _ _ _ _ _ _ _ _ _ _ _ _ _ _ _ OT.ok (hr.mono (by omega)) (by show _=_;kernel_rfl) OT.at' OT.kp OT.bd .nil pass0 (@pa_c _ _ _ _ _ (va nm_L_within 0) (pa_c (va nm_L_within 1) (pa_c pe_bl pa_nil)) (by rfl)) (by decide) (by rfl) (by rfl)) (by rfl) (by kernel_rfl) (by exact .inl rfl)) (@pss_cons _ _ _ _ _ (@sa _ _ _ _ _ _ sc_L_within.nd lm_L_within 7 (pe_dget (hu_of hr) (va nm_L_within 1) pe_str (fun _ _=>rfl)) (by rfl) (by kernel_rfl) (by exact .inl rfl)) (@pss_cons _ _ _ _ _ (@sa _ _ _ _ _ _ sc_L_within.nd lm_L_within 8 (@pe_call _ _ _ _ _ _ _ _ _ _ _ _ _ _ _ _ TK.ok (hr.mono (by omega)) (by show _=_;kernel_rfl) TK.at' TK.kp TK.bd .nil pass0 (pa_c (va nm_L_within 0) (pa_c pe_int pa_nil)) (by decide) (by rfl) (by rfl)) (by rfl) (by kernel_rfl) (by exact .inl rfl)) (@pss_cons _ _ _ _ _ (@ps_if _ _ _ _ _ _ _ _ (pt_cmpR op_eq (va nm_L_within 3) pe_int (nomark _)) (@pss_cons _ _ _ _ _ (@sa _ _ _ _ _ _ sc_L_within.nd lm_L_within 9 (@pe_ix _ _ _ _ _ _ _ ix_list (@pe_lst _ _ _ _ (@pa_c _ _ _ _ _ (@pe_tup _ _ _ _ _ (@pa_c _ _ _ _ _ pe_str (@pa_c _ _ _ _ _ (@pe_op _ _ _ _ _ _ _ _ op_add pe_int (@pe_call _ _ _ _ _ _ _ _ _ _ _ _ _ _ _ _ TK.ok (hr.mono (by omega)) (by show _=_;kernel_rfl) TK.at' TK.kp TK.bd .nil pass0 (pa_c (va nm_L_within 0) (pa_c pe_int pa_nil)) (by decide) (by rfl) (by rfl))) pa_nil (by rfl)) (by rfl))) (@pa_c _ _ _ _ _ (@pe_tup _ _ _ _ _ (pa_c pe_str (pa_c pe_int pa_nil))) (pa_c (va nm_L_within 5) pa_nil) (by rfl)) (by rfl))) (va nm_L_within 4) (fun _ _=>rfl)) (by rfl) (by kernel_rfl) (by exact .inl rfl)) (@pss_one _ _ _ (@ps_ret _ _ _ _ (@pe_tup _ _ _ _ _ (@pa_c _ _ _ _ _ (@pe_op _ _ _ _ _ _ _ _ op_catT (@pe_tup _ _ _ _ _ (@pa_c _ _ _ _ _ pe_str (pa_c (va nm_L_within 9) pa_nil) (by rfl))) (@pe_ix _ _ _ _ _ _ _ ix_list (@pe_lst _ _ _ _ (@pa_c _ _ _ _ _ (@pe_tup _ _ _ _ _ (@pa_c _ _ _ _ _ (va nm_L_within 2) (pa_c (va nm_L_within 6) pa_nil) (by rfl))) (@pa_c _ _ _ _ _ (@pe_tup _ _ _ _ _ (@pa_c _ _ _ _ _ (va nm_L_within 6) (pa_c (va nm_L_within 2) pa_nil) (by rfl))) pa_nil (by rfl)) (by rfl))) (va nm_L_within 8) (fun _ _=>rfl))) (@pa_c _ _ _ _ _ (pe_cmpR op_eq (va nm_L_within 4) (va nm_L_within 8) (nomark _)) pa_nil (by rfl)) (by rfl)))))) pss_nil) (@pss_cons _ _ _ _ _ (@ps_if _ _ _ _ _ _ _ _ (pt_cmpR op_eq (va nm_L_within 3) pe_int (nomark _)) (@pss_cons _ _ _ _ _ (@sa _ _ _ _ _ _ sc_L_within.nd lm_L_within 10 (@pe_ix _ _ _ _ _ _ _ ix_list (@pe_lst _ _ _ _ (@pa_c _ _ _ _ _ (@pe_tup _ _ _ _ _ (@pa_c _ _ _ _ _ pe_str (@pa_c _ _ _ _ _ (pe_ix ix_list (va nm_L_within 7) pe_int (fun _ _=>rfl)) (@pa_c _ _ _ _ _ (@pe_tup _ _ _ _ _ (@pa_c _ _ _ _ _ (@pe_tup _ _ _ _ _ (pa_c pe_str (pa_c pe_int pa_nil))) pa_nil (by rfl))) pa_nil (by rfl)) (by rfl)) (by rfl))) (@pa_c _ _ _ _ _ (@pe_tup _ _ _ _ _ (@pa_c _ _ _ _ _ pe_str (@pa_c _ _ _ _ _ (pe_ix ix_list (va nm_L_within 7) pe_int (fun _ _=>rfl)) (pa_c (pe_tup pa_nil) pa_nil) (by rfl)) (by rfl))) (pa_c (va nm_L_within 5) pa_nil) (by rfl)) (by rfl))) (va nm_L_within 4) (fun _ _=>rfl)) (by rfl) (by kernel_rfl) (by exact .inl rfl)) (@pss_cons _ _ _ _ _ (@ps_par _ _ (11) (12) _ _ _ _ _ _ _ _ _ _ _ rfl sc_L_within.nd rfl rfl (by decide) rfl rfl (@pa_c _ _ _ _ _ (@pe_tup _ _ _ _ _ (@pa_c _ _ _ _ _ (pe_ix ix_list (va nm_L_within 7) pe_int (fun _ _=>rfl)) (@pa_c _ _ _ _ _ (@pe_tup _ _ _ _ _ (@pa_c _ _ _ _ _ (pe_ix ix_list (va nm_L_within 7) pe_int (fun _ _=>rfl)) pa_nil (by rfl))) (@pa_c _ _ _ _ _ (@pe_ix _ _ _ _ _ _ _ ix_list (@pe_lst _ _ _ _ (@pa_c _ _ _ _ _ (va nm_L_within 2) (pa_c (va nm_L_within 6) pa_nil) (by rfl))) (va nm_L_within 8) (fun _ _=>rfl)) pa_nil (by rfl)) (by rfl)) (by rfl))) (@pa_c _ _ _ _ _ (@pe_tup _ _ _ _ _ (@pa_c _ _ _ _ _ (pe_ix ix_list (va nm_L_within 7) pe_int (fun _ _=>rfl)) (@pa_c _ _ _ _ _ (pe_tup pa_nil) (@pa_c _ _ _ _ _ (@pe_ix _ _ _ _ _ _ _ ix_list (@pe_lst _ _ _ _ (@pa_c _ _ _ _ _ (va nm_L_within 6) (pa_c (va nm_L_within 2) pa_nil) (by rfl))) (va nm_L_within 8) (fun _ _=>rfl)) pa_nil (by rfl)) (by rfl)) (by rfl))) pa_nil (by rfl)) (by rfl)) (by rfl) (by rfl)) (@pss_one _ _ _ (@ps_ret _ _ _ _ (@pe_tup _ _ _ _ _ (@pa_c _ _ _ _ _ (@pe_tup _ _ _ _ _ (@pa_c _ _ _ _ _ pe_str (@pa_c _ _ _ _ _ (va nm_L_within 10) (@pa_c _ _ _ _ _ (@pe_ix _ _ _ _ _ _ _ ix_list (@pe_lst _ _ _ _ (@pa_c _ _ _ _ _ (@pe_tup _ _ _ _ _ (@pa_c _ _ _ _ _ (va nm_L_within 11) (pa_c (va nm_L_within 12) pa_nil) (by rfl))) (@pa_c _ _ _ _ _ (@pe_tup _ _ _ _ _ (@pa_c _ _ _ _ _ (va nm_L_within 12) (pa_c (va nm_L_within 11) pa_nil) (by rfl))) pa_nil (by rfl)) (by rfl))) (@pe_call _ _ _ _ _ _ _ _ _ _ _ _ _ _ _ _ TK.ok (hr.mono (by omega)) (by show _=_;kernel_rfl) TK.at' TK.kp TK.bd .nil pass0 (pa_c (va nm_L_within 0) (pa_c pe_int pa_nil)) (by decide) (by rfl) (by rfl)) (fun _ _=>rfl)) pa_nil (by rfl)) (by rfl)) (by rfl))) (@pa_c _ _ _ _ _ (pe_cmpR op_eq (va nm_L_within 4) (va nm_L_within 8) (nomark _)) pa_nil (by rfl)) (by rfl))))))) pss_nil) (@pss_cons _ _ _ _ _ (@sa _ _ _ _ _ _ sc_L_within.nd lm_L_within 13 (@pe_ix _ _ _ _ _ _ _ ix_list (@pe_lst _ _ _ _ (@pa_c _ _ _ _ _ (@pe_tup _ _ _ _ _ (@pa_c _ _ _ _ _ pe_str (@pa_c _ _ _ _ _ (@pe_tup _ _ _ _ _ (@pa_c _ _ _ _ _ (va nm_L_within 6) (@pa_c _ _ _ _ _ (@pe_tup _ _ _ _ _ (pa_c pe_str (pa_c pe_int pa_nil))) pa_nil (by rfl)) (by rfl))) pa_nil (by rfl)) (by rfl))) (@pa_c _ _ _ _ _ (@pe_tup _ _ _ _ _ (@pa_c _ _ _ _ _ pe_str (pa_c (pe_tup pa_nil) pa_nil) (by rfl))) (pa_c (va nm_L_within 5) pa_nil) (by rfl)) (by rfl))) (va nm_L_within 4) (fun _ _=>rfl)) (by rfl) (by kernel_rfl) (by exact .inl rfl)) (@pss_one _ _ _ (@ps_ret _ _ _ _ (@pe_tup _ _ _ _ _ (@pa_c _ _ _ _ _ (@pe_tup _ _ _ _ _ (@pa_c _ _ _ _ _ pe_str (@pa_c _ _ _ _ _ (va nm_L_within 13) (@pa_c _ _ _ _ _ (pe_ix ix_list (va nm_L_within 7) pe_int (fun _ _=>rfl)) (@pa_c _ _ _ _ _ (pe_ix ix_list (va nm_L_within 7) pe_int (fun _ _=>rfl)) (@pa_c _ _ _ _ _ (@pe_tup _ _ _ _ _ (pa_c pe_str (pa_c pe_int pa_nil))) (pa_c (va nm_L_within 2) pa_nil) (by rfl)) (by rfl)) (by rfl)) (by rfl)) (by rfl))) (@pa_c _ _ _ _ _ (pe_cmpR op_eq (va nm_L_within 4) pe_int (nomark _)) pa_nil (by rfl)) (by rfl)))))))))))) ?_
 have hf:=hs.hf
 fail "R"
 intro H3 v o n3 c3 hs3 hn3 ho ro
 have rk3:=rk.kt (hs.kt c3)
 have rl3:=rl.kt (hs.kt c3)
 have dg:=hs3.g.2
 have hf3':=hs3.hf
 clear hs rk rl hf
 fail "R"
 intro y H4 y0 y2 x4
 have hs4:=hs3.ext x4
 have rk4:=rk3.kt (x4.kt hf3')
 have rl4:=rl3.kt (x4.kt hf3')
 have ro4:=ro.kt (x4.kt hf3')
 have hfF:=hs4.hf
 have hn4:=hs4.hn
 have kk:∀ (H':Hp) (p:Addr) (v:V) (tm:Tm) (here:Bool),Ext f2 H4 H'->Wth (wf xs) kt tm here->H' p=some (.tup [v,.bl here])->Rp K H' (enc tm) v->D.rt (.ref p) H':=fun H' p v tm b s3=>k H' p v tm b n3 ((c3.trans (Cg.ext x4)).trans (Cg.ext s3)) (hs4.ext s3) hn3
 clear k dg x4 hs3 rk3 ro c3 rl3
 rw [e_gap] at rl4
 have y01:y=0\/y=1:=by omega
 fail "R"
 refine ite2 (fun c=>?_) (fun c=>?_)
 ·clear c
  rcases hw with rfl | rfl | rfl
  ·rcases y01 with rfl | rfl
   ·refine asg_tx hfF (tx_lix0 (txs_cons (tx_tup (txs_cons tx_s (txs_cons (tx_addC (m:=9) rfl (by omega) (by omega)) txs_nil))) (txs_cons (tx_tup (txs_cons tx_s (txs_cons tx_i txs_nil))) (txs_cons (tx_v hfF rl4 rfl) txs_nil))) rfl) ?_;rintro H9 t9 _ x9 ⟨_,⟨_,_,rfl,⟨_,_,⟨a1,ha11,ha12,rfl⟩,rfl,rfl⟩,rfl⟩,rfl⟩ rt9
    have rk5:=rk4.kt (x9.kt hfF)
    have ro5:=ro4.kt (x9.kt hfF)
    have hn5:=x9.1 ln _ (ne_feed hfF hn4) hn4
    replace kk:∀ (H':Hp) (p:Addr) (v:V) (tm:Tm) (here:Bool),Ext f2 H9 H'->Wth (wf xs) kt tm here->H' p=some (.tup [v,.bl here])->Rp K H' (enc tm) v->D.rt (.ref p) H':=fun H' p v tm b s3=>kk H' p v tm b (x9.trans s3)
    replace hfF:=x9.2
    clear x9
    refine ret_pr hfF (tx_cat (txs_cons tx_s (txs_cons (tx_v hfF rt9 rfl) txs_nil)) (tx_lix0 (txs_cons (tx_tup (txs_cons (tx_v hfF rk5 rfl) (txs_cons (tx_v hfF ro5 rfl) txs_nil))) (txs_cons (tx_tup (txs_cons (tx_v hfF ro5 rfl) (txs_cons (tx_v hfF rk5 rfl) txs_nil))) txs_nil)) rfl) (by decide) (fun _ p=>pc2_le p)) (fun H1 Q h=>eq_bl (a:=0) (b:=0) rfl rfl H1 Q h) ?_;rintro H9 p9 v9 _ x9 ⟨_,_,⟨_,_,rfl,⟨_,_,rfl,rfl,rfl⟩,rfl⟩,⟨_,_,rfl,⟨_,_,rfl,rfl,rfl⟩,rfl⟩,rfl⟩ r9 h9
    exact kk _ _ _ (.mk .ife [num a1,kt,o]) _ x9 (.ifA0 (by omega) (by omega) ho) h9 (by rw [e_ife,e_num];exact r9)
   ·refine asg_tx hfF (tx_lix0 (txs_cons (tx_tup (txs_cons tx_s (txs_cons (tx_addC (m:=9) rfl (by omega) (by omega)) txs_nil))) (txs_cons (tx_tup (txs_cons tx_s (txs_cons tx_i txs_nil))) (txs_cons (tx_v hfF rl4 rfl) txs_nil))) rfl) ?_;rintro H9 t9 _ x9 ⟨_,⟨_,_,rfl,⟨_,_,⟨a1,ha11,ha12,rfl⟩,rfl,rfl⟩,rfl⟩,rfl⟩ rt9
    have rk5:=rk4.kt (x9.kt hfF)
    have ro5:=ro4.kt (x9.kt hfF)
    have hn5:=x9.1 ln _ (ne_feed hfF hn4) hn4
    replace kk:∀ (H':Hp) (p:Addr) (v:V) (tm:Tm) (here:Bool),Ext f2 H9 H'->Wth (wf xs) kt tm here->H' p=some (.tup [v,.bl here])->Rp K H' (enc tm) v->D.rt (.ref p) H':=fun H' p v tm b s3=>kk H' p v tm b (x9.trans s3)
    replace hfF:=x9.2
    clear x9
    refine ret_pr hfF (tx_cat (txs_cons tx_s (txs_cons (tx_v hfF rt9 rfl) txs_nil)) (tx_lix1 (txs_cons (tx_tup (txs_cons (tx_v hfF rk5 rfl) (txs_cons (tx_v hfF ro5 rfl) txs_nil))) (txs_cons (tx_tup (txs_cons (tx_v hfF ro5 rfl) (txs_cons (tx_v hfF rk5 rfl) txs_nil))) txs_nil)) rfl) (by decide) (fun _ p=>pc2_le p)) (fun H1 Q h=>eq_bl (a:=0) (b:=1) rfl rfl H1 Q h) ?_;rintro H9 p9 v9 _ x9 ⟨_,_,⟨_,_,rfl,⟨_,_,rfl,rfl,rfl⟩,rfl⟩,⟨_,_,rfl,⟨_,_,rfl,rfl,rfl⟩,rfl⟩,rfl⟩ r9 h9
    exact kk _ _ _ (.mk .ife [num a1,o,kt]) _ x9 (.ifB0 (by omega) (by omega) ho) h9 (by rw [e_ife,e_num];exact r9)
  ·rcases y01 with rfl | rfl
   ·refine asg_tx hfF (tx_lix1 (txs_cons (tx_tup (txs_cons tx_s (txs_cons (tx_addC (m:=9) rfl (by omega) (by omega)) txs_nil))) (txs_cons (tx_tup (txs_cons tx_s (txs_cons tx_i txs_nil))) (txs_cons (tx_v hfF rl4 rfl) txs_nil))) rfl) ?_;rintro H9 t9 _ x9 ⟨_,⟨_,_,rfl,⟨_,_,rfl,rfl,rfl⟩,rfl⟩,rfl⟩ rt9
    have rk5:=rk4.kt (x9.kt hfF)
    have ro5:=ro4.kt (x9.kt hfF)
    have hn5:=x9.1 ln _ (ne_feed hfF hn4) hn4
    replace kk:∀ (H':Hp) (p:Addr) (v:V) (tm:Tm) (here:Bool),Ext f2 H9 H'->Wth (wf xs) kt tm here->H' p=some (.tup [v,.bl here])->Rp K H' (enc tm) v->D.rt (.ref p) H':=fun H' p v tm b s3=>kk H' p v tm b (x9.trans s3)
    replace hfF:=x9.2
    clear x9
    refine ret_pr hfF (tx_cat (txs_cons tx_s (txs_cons (tx_v hfF rt9 rfl) txs_nil)) (tx_lix0 (txs_cons (tx_tup (txs_cons (tx_v hfF rk5 rfl) (txs_cons (tx_v hfF ro5 rfl) txs_nil))) (txs_cons (tx_tup (txs_cons (tx_v hfF ro5 rfl) (txs_cons (tx_v hfF rk5 rfl) txs_nil))) txs_nil)) rfl) (by decide) (fun _ p=>pc2_le p)) (fun H1 Q h=>eq_bl (a:=1) (b:=0) rfl rfl H1 Q h) ?_;rintro H9 p9 v9 _ x9 ⟨_,_,⟨_,_,rfl,⟨_,_,rfl,rfl,rfl⟩,rfl⟩,⟨_,_,rfl,⟨_,_,rfl,rfl,rfl⟩,rfl⟩,rfl⟩ r9 h9
    exact kk _ _ _ (.mk .ife [num 0,kt,o]) _ x9 (.ifA1 ho) h9 (by rw [e_ife,e_num];exact r9)
   ·refine asg_tx hfF (tx_lix1 (txs_cons (tx_tup (txs_cons tx_s (txs_cons (tx_addC (m:=9) rfl (by omega) (by omega)) txs_nil))) (txs_cons (tx_tup (txs_cons tx_s (txs_cons tx_i txs_nil))) (txs_cons (tx_v hfF rl4 rfl) txs_nil))) rfl) ?_;rintro H9 t9 _ x9 ⟨_,⟨_,_,rfl,⟨_,_,rfl,rfl,rfl⟩,rfl⟩,rfl⟩ rt9
    have rk5:=rk4.kt (x9.kt hfF)
    have ro5:=ro4.kt (x9.kt hfF)
    have hn5:=x9.1 ln _ (ne_feed hfF hn4) hn4
    replace kk:∀ (H':Hp) (p:Addr) (v:V) (tm:Tm) (here:Bool),Ext f2 H9 H'->Wth (wf xs) kt tm here->H' p=some (.tup [v,.bl here])->Rp K H' (enc tm) v->D.rt (.ref p) H':=fun H' p v tm b s3=>kk H' p v tm b (x9.trans s3)
    replace hfF:=x9.2
    clear x9
    refine ret_pr hfF (tx_cat (txs_cons tx_s (txs_cons (tx_v hfF rt9 rfl) txs_nil)) (tx_lix1 (txs_cons (tx_tup (txs_cons (tx_v hfF rk5 rfl) (txs_cons (tx_v hfF ro5 rfl) txs_nil))) (txs_cons (tx_tup (txs_cons (tx_v hfF ro5 rfl) (txs_cons (tx_v hfF rk5 rfl) txs_nil))) txs_nil)) rfl) (by decide) (fun _ p=>pc2_le p)) (fun H1 Q h=>eq_bl (a:=1) (b:=1) rfl rfl H1 Q h) ?_;rintro H9 p9 v9 _ x9 ⟨_,_,⟨_,_,rfl,⟨_,_,rfl,rfl,rfl⟩,rfl⟩,⟨_,_,rfl,⟨_,_,rfl,rfl,rfl⟩,rfl⟩,rfl⟩ r9 h9
    exact kk _ _ _ (.mk .ife [num 0,o,kt]) _ x9 (.ifB1 ho) h9 (by rw [e_ife,e_num];exact r9)
  ·rcases y01 with rfl | rfl
   ·refine asg_tx hfF (tx_lix2 (txs_cons (tx_tup (txs_cons tx_s (txs_cons (tx_addC (m:=9) rfl (by omega) (by omega)) txs_nil))) (txs_cons (tx_tup (txs_cons tx_s (txs_cons tx_i txs_nil))) (txs_cons (tx_v hfF rl4 rfl) txs_nil))) rfl) ?_;rintro H9 t9 _ x9 rfl rt9
    have rk5:=rk4.kt (x9.kt hfF)
    have ro5:=ro4.kt (x9.kt hfF)
    have hn5:=x9.1 ln _ (ne_feed hfF hn4) hn4
    replace kk:∀ (H':Hp) (p:Addr) (v:V) (tm:Tm) (here:Bool),Ext f2 H9 H'->Wth (wf xs) kt tm here->H' p=some (.tup [v,.bl here])->Rp K H' (enc tm) v->D.rt (.ref p) H':=fun H' p v tm b s3=>kk H' p v tm b (x9.trans s3)
    replace hfF:=x9.2
    clear x9
    refine ret_pr hfF (tx_cat (txs_cons tx_s (txs_cons (tx_v hfF rt9 rfl) txs_nil)) (tx_lix0 (txs_cons (tx_tup (txs_cons (tx_v hfF rk5 rfl) (txs_cons (tx_v hfF ro5 rfl) txs_nil))) (txs_cons (tx_tup (txs_cons (tx_v hfF ro5 rfl) (txs_cons (tx_v hfF rk5 rfl) txs_nil))) txs_nil)) rfl) (by decide) (fun _ p=>pc2_le p)) (fun H1 Q h=>eq_bl (a:=2) (b:=0) rfl rfl H1 Q h) ?_;rintro H9 p9 v9 _ x9 ⟨_,_,⟨_,_,rfl,⟨_,_,rfl,rfl,rfl⟩,rfl⟩,⟨_,_,rfl,⟨_,_,rfl,rfl,rfl⟩,rfl⟩,rfl⟩ r9 h9
    exact kk _ _ _ (.mk .ife [gap yl,kt,o]) _ x9 (.ifA2 hy ho) h9 (by rw [e_ife,e_gap];exact r9)
   ·refine asg_tx hfF (tx_lix2 (txs_cons (tx_tup (txs_cons tx_s (txs_cons (tx_addC (m:=9) rfl (by omega) (by omega)) txs_nil))) (txs_cons (tx_tup (txs_cons tx_s (txs_cons tx_i txs_nil))) (txs_cons (tx_v hfF rl4 rfl) txs_nil))) rfl) ?_;rintro H9 t9 _ x9 rfl rt9
    have rk5:=rk4.kt (x9.kt hfF)
    have ro5:=ro4.kt (x9.kt hfF)
    have hn5:=x9.1 ln _ (ne_feed hfF hn4) hn4
    replace kk:∀ (H':Hp) (p:Addr) (v:V) (tm:Tm) (here:Bool),Ext f2 H9 H'->Wth (wf xs) kt tm here->H' p=some (.tup [v,.bl here])->Rp K H' (enc tm) v->D.rt (.ref p) H':=fun H' p v tm b s3=>kk H' p v tm b (x9.trans s3)
    replace hfF:=x9.2
    clear x9
    refine ret_pr hfF (tx_cat (txs_cons tx_s (txs_cons (tx_v hfF rt9 rfl) txs_nil)) (tx_lix1 (txs_cons (tx_tup (txs_cons (tx_v hfF rk5 rfl) (txs_cons (tx_v hfF ro5 rfl) txs_nil))) (txs_cons (tx_tup (txs_cons (tx_v hfF ro5 rfl) (txs_cons (tx_v hfF rk5 rfl) txs_nil))) txs_nil)) rfl) (by decide) (fun _ p=>pc2_le p)) (fun H1 Q h=>eq_bl (a:=2) (b:=1) rfl rfl H1 Q h) ?_;rintro H9 p9 v9 _ x9 ⟨_,_,⟨_,_,rfl,⟨_,_,rfl,rfl,rfl⟩,rfl⟩,⟨_,_,rfl,⟨_,_,rfl,rfl,rfl⟩,rfl⟩,rfl⟩ r9 h9
    exact kk _ _ _ (.mk .ife [gap yl,o,kt]) _ x9 (.ifB2 hy ho) h9 (by rw [e_ife,e_gap];exact r9)
 fail "R"
 refine ite2 (fun c=>?_) (fun c=>?_)
 ·clear c
  rcases hw with rfl | rfl | rfl
  ·rcases y01 with rfl | rfl
   ·refine asg_tx hfF (tx_lix0 (txs_cons (tx_tup (txs_cons tx_s (txs_cons (tx_nm (i:=1) hfF hn4 rfl (by omega)) (txs_cons (tx_tup (txs_cons (tx_tup (txs_cons tx_s (txs_cons tx_i txs_nil))) txs_nil)) txs_nil)))) (txs_cons (tx_tup (txs_cons tx_s (txs_cons (tx_nm (i:=3) hfF hn4 rfl (by omega)) (txs_cons (tx_tup txs_nil) txs_nil)))) (txs_cons (tx_v hfF rl4 rfl) txs_nil))) rfl) ?_;rintro H9 t9 _ x9 ⟨_,⟨_,_,rfl,⟨_,_,rfl,⟨_,_,⟨_,⟨_,_,⟨_,⟨_,_,rfl,⟨_,_,rfl,rfl,rfl⟩,rfl⟩,rfl⟩,rfl,rfl⟩,rfl⟩,rfl,rfl⟩,rfl⟩,rfl⟩,rfl⟩ rt9
    have rk5:=rk4.kt (x9.kt hfF)
    have ro5:=ro4.kt (x9.kt hfF)
    have hn5:=x9.1 ln _ (ne_feed hfF hn4) hn4
    replace kk:∀ (H':Hp) (p:Addr) (v:V) (tm:Tm) (here:Bool),Ext f2 H9 H'->Wth (wf xs) kt tm here->H' p=some (.tup [v,.bl here])->Rp K H' (enc tm) v->D.rt (.ref p) H':=fun H' p v tm b s3=>kk H' p v tm b (x9.trans s3)
    replace hfF:=x9.2
    clear x9
    refine par_tx hfF (txs_cons (tx_tup (txs_cons (tx_nm (i:=1) hfF hn5 rfl (by omega)) (txs_cons (tx_tup (txs_cons (tx_nm (i:=2) hfF hn5 rfl (by omega)) txs_nil)) (txs_cons (tx_lix0 (txs_cons (tx_v hfF rk5 rfl) (txs_cons (tx_v hfF ro5 rfl) txs_nil)) rfl) txs_nil)))) (txs_cons (tx_tup (txs_cons (tx_nm (i:=3) hfF hn5 rfl (by omega)) (txs_cons (tx_tup txs_nil) (txs_cons (tx_lix0 (txs_cons (tx_v hfF ro5 rfl) (txs_cons (tx_v hfF rk5 rfl) txs_nil)) rfl) txs_nil)))) txs_nil)) ?_;rintro H9 u9 w9 _ _ x9 ⟨_,⟨_,_,rfl,⟨_,_,⟨_,⟨_,_,rfl,rfl,rfl⟩,rfl⟩,⟨_,_,rfl,rfl,rfl⟩,rfl⟩,rfl⟩,rfl⟩ ⟨_,⟨_,_,rfl,⟨_,_,⟨_,rfl,rfl⟩,⟨_,_,rfl,rfl,rfl⟩,rfl⟩,rfl⟩,rfl⟩ ru9 rw9
    have rt6:=rt9.kt (x9.kt hfF)
    have rk6:=rk5.kt (x9.kt hfF)
    have ro6:=ro5.kt (x9.kt hfF)
    have hn6:=x9.1 ln _ (ne_feed hfF hn5) hn5
    replace kk:∀ (H':Hp) (p:Addr) (v:V) (tm:Tm) (here:Bool),Ext f2 H9 H'->Wth (wf xs) kt tm here->H' p=some (.tup [v,.bl here])->Rp K H' (enc tm) v->D.rt (.ref p) H':=fun H' p v tm b s3=>kk H' p v tm b (x9.trans s3)
    replace hfF:=x9.2
    clear x9
    refine ret_pr hfF (tx_tup (txs_cons tx_s (txs_cons (tx_v hfF rt6 rfl) (txs_cons (tx_lixC2 (txs_cons (tx_tup (txs_cons (tx_v hfF ru9 rfl) (txs_cons (tx_v hfF rw9 rfl) txs_nil))) (txs_cons (tx_tup (txs_cons (tx_v hfF rw9 rfl) (txs_cons (tx_v hfF ru9 rfl) txs_nil))) txs_nil)) rfl) txs_nil)))) (fun H1 Q h=>eq_bl (a:=0) (b:=0) rfl rfl H1 Q h) ?_;rintro H9 p9 v9 _ x9 ⟨_,⟨_,_,rfl,⟨_,_,rfl,⟨_,_,(⟨_,⟨_,_,rfl,⟨_,_,rfl,rfl,rfl⟩,rfl⟩,rfl⟩ | ⟨_,⟨_,_,rfl,⟨_,_,rfl,rfl,rfl⟩,rfl⟩,rfl⟩),rfl,rfl⟩,rfl⟩,rfl⟩,rfl⟩ r9 h9
    ·exact kk _ _ _ (matT (wf xs) false (.mk (.tag (wf xs 1)) [num 7]) kt o) _ x9 (.matA0 (sw:=false) ho) h9 (by rw [show matT (wf xs) false (.mk (.tag (wf xs 1)) [num 7]) kt o=.mk (.mat (ms (wf xs))) [.mk (.tag (wf xs 1)) [num 7],kt,o] from rfl,e_mat];first | (rw [e_tag];simp only [List.map_cons,List.map_nil,e_num];exact r9) | (rw [e_gap];exact r9))
    ·exact kk _ _ _ (matT (wf xs) true (.mk (.tag (wf xs 1)) [num 7]) kt o) _ x9 (.matA0 (sw:=true) ho) h9 (by rw [show matT (wf xs) true (.mk (.tag (wf xs 1)) [num 7]) kt o=.mk (.mat (ms' (wf xs))) [.mk (.tag (wf xs 1)) [num 7],o,kt] from rfl,e_mat];first | (rw [e_tag];simp only [List.map_cons,List.map_nil,e_num];exact r9) | (rw [e_gap];exact r9))
   ·refine asg_tx hfF (tx_lix0 (txs_cons (tx_tup (txs_cons tx_s (txs_cons (tx_nm (i:=1) hfF hn4 rfl (by omega)) (txs_cons (tx_tup (txs_cons (tx_tup (txs_cons tx_s (txs_cons tx_i txs_nil))) txs_nil)) txs_nil)))) (txs_cons (tx_tup (txs_cons tx_s (txs_cons (tx_nm (i:=3) hfF hn4 rfl (by omega)) (txs_cons (tx_tup txs_nil) txs_nil)))) (txs_cons (tx_v hfF rl4 rfl) txs_nil))) rfl) ?_;rintro H9 t9 _ x9 ⟨_,⟨_,_,rfl,⟨_,_,rfl,⟨_,_,⟨_,⟨_,_,⟨_,⟨_,_,rfl,⟨_,_,rfl,rfl,rfl⟩,rfl⟩,rfl⟩,rfl,rfl⟩,rfl⟩,rfl,rfl⟩,rfl⟩,rfl⟩,rfl⟩ rt9
    have rk5:=rk4.kt (x9.kt hfF)
    have ro5:=ro4.kt (x9.kt hfF)
    have hn5:=x9.1 ln _ (ne_feed hfF hn4) hn4
    replace kk:∀ (H':Hp) (p:Addr) (v:V) (tm:Tm) (here:Bool),Ext f2 H9 H'->Wth (wf xs) kt tm here->H' p=some (.tup [v,.bl here])->Rp K H' (enc tm) v->D.rt (.ref p) H':=fun H' p v tm b s3=>kk H' p v tm b (x9.trans s3)
    replace hfF:=x9.2
    clear x9
    refine par_tx hfF (txs_cons (tx_tup (txs_cons (tx_nm (i:=1) hfF hn5 rfl (by omega)) (txs_cons (tx_tup (txs_cons (tx_nm (i:=2) hfF hn5 rfl (by omega)) txs_nil)) (txs_cons (tx_lix1 (txs_cons (tx_v hfF rk5 rfl) (txs_cons (tx_v hfF ro5 rfl) txs_nil)) rfl) txs_nil)))) (txs_cons (tx_tup (txs_cons (tx_nm (i:=3) hfF hn5 rfl (by omega)) (txs_cons (tx_tup txs_nil) (txs_cons (tx_lix1 (txs_cons (tx_v hfF ro5 rfl) (txs_cons (tx_v hfF rk5 rfl) txs_nil)) rfl) txs_nil)))) txs_nil)) ?_;rintro H9 u9 w9 _ _ x9 ⟨_,⟨_,_,rfl,⟨_,_,⟨_,⟨_,_,rfl,rfl,rfl⟩,rfl⟩,⟨_,_,rfl,rfl,rfl⟩,rfl⟩,rfl⟩,rfl⟩ ⟨_,⟨_,_,rfl,⟨_,_,⟨_,rfl,rfl⟩,⟨_,_,rfl,rfl,rfl⟩,rfl⟩,rfl⟩,rfl⟩ ru9 rw9
    have rt6:=rt9.kt (x9.kt hfF)
    have rk6:=rk5.kt (x9.kt hfF)
    have ro6:=ro5.kt (x9.kt hfF)
    have hn6:=x9.1 ln _ (ne_feed hfF hn5) hn5
    replace kk:∀ (H':Hp) (p:Addr) (v:V) (tm:Tm) (here:Bool),Ext f2 H9 H'->Wth (wf xs) kt tm here->H' p=some (.tup [v,.bl here])->Rp K H' (enc tm) v->D.rt (.ref p) H':=fun H' p v tm b s3=>kk H' p v tm b (x9.trans s3)
    replace hfF:=x9.2
    clear x9
    refine ret_pr hfF (tx_tup (txs_cons tx_s (txs_cons (tx_v hfF rt6 rfl) (txs_cons (tx_lixC2 (txs_cons (tx_tup (txs_cons (tx_v hfF ru9 rfl) (txs_cons (tx_v hfF rw9 rfl) txs_nil))) (txs_cons (tx_tup (txs_cons (tx_v hfF rw9 rfl) (txs_cons (tx_v hfF ru9 rfl) txs_nil))) txs_nil)) rfl) txs_nil)))) (fun H1 Q h=>eq_bl (a:=0) (b:=1) rfl rfl H1 Q h) ?_;rintro H9 p9 v9 _ x9 ⟨_,⟨_,_,rfl,⟨_,_,rfl,⟨_,_,(⟨_,⟨_,_,rfl,⟨_,_,rfl,rfl,rfl⟩,rfl⟩,rfl⟩ | ⟨_,⟨_,_,rfl,⟨_,_,rfl,rfl,rfl⟩,rfl⟩,rfl⟩),rfl,rfl⟩,rfl⟩,rfl⟩,rfl⟩ r9 h9
    ·exact kk _ _ _ (matT (wf xs) false (.mk (.tag (wf xs 1)) [num 7]) o kt) _ x9 (.matB0 (sw:=false) ho) h9 (by rw [show matT (wf xs) false (.mk (.tag (wf xs 1)) [num 7]) o kt=.mk (.mat (ms (wf xs))) [.mk (.tag (wf xs 1)) [num 7],o,kt] from rfl,e_mat];first | (rw [e_tag];simp only [List.map_cons,List.map_nil,e_num];exact r9) | (rw [e_gap];exact r9))
    ·exact kk _ _ _ (matT (wf xs) true (.mk (.tag (wf xs 1)) [num 7]) o kt) _ x9 (.matB0 (sw:=true) ho) h9 (by rw [show matT (wf xs) true (.mk (.tag (wf xs 1)) [num 7]) o kt=.mk (.mat (ms' (wf xs))) [.mk (.tag (wf xs 1)) [num 7],kt,o] from rfl,e_mat];first | (rw [e_tag];simp only [List.map_cons,List.map_nil,e_num];exact r9) | (rw [e_gap];exact r9))
  ·rcases y01 with rfl | rfl
   ·refine asg_tx hfF (tx_lix1 (txs_cons (tx_tup (txs_cons tx_s (txs_cons (tx_nm (i:=1) hfF hn4 rfl (by omega)) (txs_cons (tx_tup (txs_cons (tx_tup (txs_cons tx_s (txs_cons tx_i txs_nil))) txs_nil)) txs_nil)))) (txs_cons (tx_tup (txs_cons tx_s (txs_cons (tx_nm (i:=3) hfF hn4 rfl (by omega)) (txs_cons (tx_tup txs_nil) txs_nil)))) (txs_cons (tx_v hfF rl4 rfl) txs_nil))) rfl) ?_;rintro H9 t9 _ x9 ⟨_,⟨_,_,rfl,⟨_,_,rfl,⟨_,_,⟨_,rfl,rfl⟩,rfl,rfl⟩,rfl⟩,rfl⟩,rfl⟩ rt9
    have rk5:=rk4.kt (x9.kt hfF)
    have ro5:=ro4.kt (x9.kt hfF)
    have hn5:=x9.1 ln _ (ne_feed hfF hn4) hn4
    replace kk:∀ (H':Hp) (p:Addr) (v:V) (tm:Tm) (here:Bool),Ext f2 H9 H'->Wth (wf xs) kt tm here->H' p=some (.tup [v,.bl here])->Rp K H' (enc tm) v->D.rt (.ref p) H':=fun H' p v tm b s3=>kk H' p v tm b (x9.trans s3)
    replace hfF:=x9.2
    clear x9
    refine par_tx hfF (txs_cons (tx_tup (txs_cons (tx_nm (i:=1) hfF hn5 rfl (by omega)) (txs_cons (tx_tup (txs_cons (tx_nm (i:=2) hfF hn5 rfl (by omega)) txs_nil)) (txs_cons (tx_lix0 (txs_cons (tx_v hfF rk5 rfl) (txs_cons (tx_v hfF ro5 rfl) txs_nil)) rfl) txs_nil)))) (txs_cons (tx_tup (txs_cons (tx_nm (i:=3) hfF hn5 rfl (by omega)) (txs_cons (tx_tup txs_nil) (txs_cons (tx_lix0 (txs_cons (tx_v hfF ro5 rfl) (txs_cons (tx_v hfF rk5 rfl) txs_nil)) rfl) txs_nil)))) txs_nil)) ?_;rintro H9 u9 w9 _ _ x9 ⟨_,⟨_,_,rfl,⟨_,_,⟨_,⟨_,_,rfl,rfl,rfl⟩,rfl⟩,⟨_,_,rfl,rfl,rfl⟩,rfl⟩,rfl⟩,rfl⟩ ⟨_,⟨_,_,rfl,⟨_,_,⟨_,rfl,rfl⟩,⟨_,_,rfl,rfl,rfl⟩,rfl⟩,rfl⟩,rfl⟩ ru9 rw9
    have rt6:=rt9.kt (x9.kt hfF)
    have rk6:=rk5.kt (x9.kt hfF)
    have ro6:=ro5.kt (x9.kt hfF)
    have hn6:=x9.1 ln _ (ne_feed hfF hn5) hn5
    replace kk:∀ (H':Hp) (p:Addr) (v:V) (tm:Tm) (here:Bool),Ext f2 H9 H'->Wth (wf xs) kt tm here->H' p=some (.tup [v,.bl here])->Rp K H' (enc tm) v->D.rt (.ref p) H':=fun H' p v tm b s3=>kk H' p v tm b (x9.trans s3)
    replace hfF:=x9.2
    clear x9
    refine ret_pr hfF (tx_tup (txs_cons tx_s (txs_cons (tx_v hfF rt6 rfl) (txs_cons (tx_lixC2 (txs_cons (tx_tup (txs_cons (tx_v hfF ru9 rfl) (txs_cons (tx_v hfF rw9 rfl) txs_nil))) (txs_cons (tx_tup (txs_cons (tx_v hfF rw9 rfl) (txs_cons (tx_v hfF ru9 rfl) txs_nil))) txs_nil)) rfl) txs_nil)))) (fun H1 Q h=>eq_bl (a:=1) (b:=0) rfl rfl H1 Q h) ?_;rintro H9 p9 v9 _ x9 ⟨_,⟨_,_,rfl,⟨_,_,rfl,⟨_,_,(⟨_,⟨_,_,rfl,⟨_,_,rfl,rfl,rfl⟩,rfl⟩,rfl⟩ | ⟨_,⟨_,_,rfl,⟨_,_,rfl,rfl,rfl⟩,rfl⟩,rfl⟩),rfl,rfl⟩,rfl⟩,rfl⟩,rfl⟩ r9 h9
    ·exact kk _ _ _ (matT (wf xs) false (.mk (.tag (wf xs 3)) []) kt o) _ x9 (.matA1 (sw:=false) ho) h9 (by rw [show matT (wf xs) false (.mk (.tag (wf xs 3)) []) kt o=.mk (.mat (ms (wf xs))) [.mk (.tag (wf xs 3)) [],kt,o] from rfl,e_mat];first | (rw [e_tag];simp only [List.map_cons,List.map_nil,e_num];exact r9) | (rw [e_gap];exact r9))
    ·exact kk _ _ _ (matT (wf xs) true (.mk (.tag (wf xs 3)) []) kt o) _ x9 (.matA1 (sw:=true) ho) h9 (by rw [show matT (wf xs) true (.mk (.tag (wf xs 3)) []) kt o=.mk (.mat (ms' (wf xs))) [.mk (.tag (wf xs 3)) [],o,kt] from rfl,e_mat];first | (rw [e_tag];simp only [List.map_cons,List.map_nil,e_num];exact r9) | (rw [e_gap];exact r9))
   ·refine asg_tx hfF (tx_lix1 (txs_cons (tx_tup (txs_cons tx_s (txs_cons (tx_nm (i:=1) hfF hn4 rfl (by omega)) (txs_cons (tx_tup (txs_cons (tx_tup (txs_cons tx_s (txs_cons tx_i txs_nil))) txs_nil)) txs_nil)))) (txs_cons (tx_tup (txs_cons tx_s (txs_cons (tx_nm (i:=3) hfF hn4 rfl (by omega)) (txs_cons (tx_tup txs_nil) txs_nil)))) (txs_cons (tx_v hfF rl4 rfl) txs_nil))) rfl) ?_;rintro H9 t9 _ x9 ⟨_,⟨_,_,rfl,⟨_,_,rfl,⟨_,_,⟨_,rfl,rfl⟩,rfl,rfl⟩,rfl⟩,rfl⟩,rfl⟩ rt9
    have rk5:=rk4.kt (x9.kt hfF)
    have ro5:=ro4.kt (x9.kt hfF)
    have hn5:=x9.1 ln _ (ne_feed hfF hn4) hn4
    replace kk:∀ (H':Hp) (p:Addr) (v:V) (tm:Tm) (here:Bool),Ext f2 H9 H'->Wth (wf xs) kt tm here->H' p=some (.tup [v,.bl here])->Rp K H' (enc tm) v->D.rt (.ref p) H':=fun H' p v tm b s3=>kk H' p v tm b (x9.trans s3)
    replace hfF:=x9.2
    clear x9
    refine par_tx hfF (txs_cons (tx_tup (txs_cons (tx_nm (i:=1) hfF hn5 rfl (by omega)) (txs_cons (tx_tup (txs_cons (tx_nm (i:=2) hfF hn5 rfl (by omega)) txs_nil)) (txs_cons (tx_lix1 (txs_cons (tx_v hfF rk5 rfl) (txs_cons (tx_v hfF ro5 rfl) txs_nil)) rfl) txs_nil)))) (txs_cons (tx_tup (txs_cons (tx_nm (i:=3) hfF hn5 rfl (by omega)) (txs_cons (tx_tup txs_nil) (txs_cons (tx_lix1 (txs_cons (tx_v hfF ro5 rfl) (txs_cons (tx_v hfF rk5 rfl) txs_nil)) rfl) txs_nil)))) txs_nil)) ?_;rintro H9 u9 w9 _ _ x9 ⟨_,⟨_,_,rfl,⟨_,_,⟨_,⟨_,_,rfl,rfl,rfl⟩,rfl⟩,⟨_,_,rfl,rfl,rfl⟩,rfl⟩,rfl⟩,rfl⟩ ⟨_,⟨_,_,rfl,⟨_,_,⟨_,rfl,rfl⟩,⟨_,_,rfl,rfl,rfl⟩,rfl⟩,rfl⟩,rfl⟩ ru9 rw9
    have rt6:=rt9.kt (x9.kt hfF)
    have rk6:=rk5.kt (x9.kt hfF)
    have ro6:=ro5.kt (x9.kt hfF)
    have hn6:=x9.1 ln _ (ne_feed hfF hn5) hn5
    replace kk:∀ (H':Hp) (p:Addr) (v:V) (tm:Tm) (here:Bool),Ext f2 H9 H'->Wth (wf xs) kt tm here->H' p=some (.tup [v,.bl here])->Rp K H' (enc tm) v->D.rt (.ref p) H':=fun H' p v tm b s3=>kk H' p v tm b (x9.trans s3)
    replace hfF:=x9.2
    clear x9
    refine ret_pr hfF (tx_tup (txs_cons tx_s (txs_cons (tx_v hfF rt6 rfl) (txs_cons (tx_lixC2 (txs_cons (tx_tup (txs_cons (tx_v hfF ru9 rfl) (txs_cons (tx_v hfF rw9 rfl) txs_nil))) (txs_cons (tx_tup (txs_cons (tx_v hfF rw9 rfl) (txs_cons (tx_v hfF ru9 rfl) txs_nil))) txs_nil)) rfl) txs_nil)))) (fun H1 Q h=>eq_bl (a:=1) (b:=1) rfl rfl H1 Q h) ?_;rintro H9 p9 v9 _ x9 ⟨_,⟨_,_,rfl,⟨_,_,rfl,⟨_,_,(⟨_,⟨_,_,rfl,⟨_,_,rfl,rfl,rfl⟩,rfl⟩,rfl⟩ | ⟨_,⟨_,_,rfl,⟨_,_,rfl,rfl,rfl⟩,rfl⟩,rfl⟩),rfl,rfl⟩,rfl⟩,rfl⟩,rfl⟩ r9 h9
    ·exact kk _ _ _ (matT (wf xs) false (.mk (.tag (wf xs 3)) []) o kt) _ x9 (.matB1 (sw:=false) ho) h9 (by rw [show matT (wf xs) false (.mk (.tag (wf xs 3)) []) o kt=.mk (.mat (ms (wf xs))) [.mk (.tag (wf xs 3)) [],o,kt] from rfl,e_mat];first | (rw [e_tag];simp only [List.map_cons,List.map_nil,e_num];exact r9) | (rw [e_gap];exact r9))
    ·exact kk _ _ _ (matT (wf xs) true (.mk (.tag (wf xs 3)) []) o kt) _ x9 (.matB1 (sw:=true) ho) h9 (by rw [show matT (wf xs) true (.mk (.tag (wf xs 3)) []) o kt=.mk (.mat (ms' (wf xs))) [.mk (.tag (wf xs 3)) [],kt,o] from rfl,e_mat];first | (rw [e_tag];simp only [List.map_cons,List.map_nil,e_num];exact r9) | (rw [e_gap];exact r9))
  ·rcases y01 with rfl | rfl
   ·refine asg_tx hfF (tx_lix2 (txs_cons (tx_tup (txs_cons tx_s (txs_cons (tx_nm (i:=1) hfF hn4 rfl (by omega)) (txs_cons (tx_tup (txs_cons (tx_tup (txs_cons tx_s (txs_cons tx_i txs_nil))) txs_nil)) txs_nil)))) (txs_cons (tx_tup (txs_cons tx_s (txs_cons (tx_nm (i:=3) hfF hn4 rfl (by omega)) (txs_cons (tx_tup txs_nil) txs_nil)))) (txs_cons (tx_v hfF rl4 rfl) txs_nil))) rfl) ?_;rintro H9 t9 _ x9 rfl rt9
    have rk5:=rk4.kt (x9.kt hfF)
    have ro5:=ro4.kt (x9.kt hfF)
    have hn5:=x9.1 ln _ (ne_feed hfF hn4) hn4
    replace kk:∀ (H':Hp) (p:Addr) (v:V) (tm:Tm) (here:Bool),Ext f2 H9 H'->Wth (wf xs) kt tm here->H' p=some (.tup [v,.bl here])->Rp K H' (enc tm) v->D.rt (.ref p) H':=fun H' p v tm b s3=>kk H' p v tm b (x9.trans s3)
    replace hfF:=x9.2
    clear x9
    refine par_tx hfF (txs_cons (tx_tup (txs_cons (tx_nm (i:=1) hfF hn5 rfl (by omega)) (txs_cons (tx_tup (txs_cons (tx_nm (i:=2) hfF hn5 rfl (by omega)) txs_nil)) (txs_cons (tx_lix0 (txs_cons (tx_v hfF rk5 rfl) (txs_cons (tx_v hfF ro5 rfl) txs_nil)) rfl) txs_nil)))) (txs_cons (tx_tup (txs_cons (tx_nm (i:=3) hfF hn5 rfl (by omega)) (txs_cons (tx_tup txs_nil) (txs_cons (tx_lix0 (txs_cons (tx_v hfF ro5 rfl) (txs_cons (tx_v hfF rk5 rfl) txs_nil)) rfl) txs_nil)))) txs_nil)) ?_;rintro H9 u9 w9 _ _ x9 ⟨_,⟨_,_,rfl,⟨_,_,⟨_,⟨_,_,rfl,rfl,rfl⟩,rfl⟩,⟨_,_,rfl,rfl,rfl⟩,rfl⟩,rfl⟩,rfl⟩ ⟨_,⟨_,_,rfl,⟨_,_,⟨_,rfl,rfl⟩,⟨_,_,rfl,rfl,rfl⟩,rfl⟩,rfl⟩,rfl⟩ ru9 rw9
    have rt6:=rt9.kt (x9.kt hfF)
    have rk6:=rk5.kt (x9.kt hfF)
    have ro6:=ro5.kt (x9.kt hfF)
    have hn6:=x9.1 ln _ (ne_feed hfF hn5) hn5
    replace kk:∀ (H':Hp) (p:Addr) (v:V) (tm:Tm) (here:Bool),Ext f2 H9 H'->Wth (wf xs) kt tm here->H' p=some (.tup [v,.bl here])->Rp K H' (enc tm) v->D.rt (.ref p) H':=fun H' p v tm b s3=>kk H' p v tm b (x9.trans s3)
    replace hfF:=x9.2
    clear x9
    refine ret_pr hfF (tx_tup (txs_cons tx_s (txs_cons (tx_v hfF rt6 rfl) (txs_cons (tx_lixC2 (txs_cons (tx_tup (txs_cons (tx_v hfF ru9 rfl) (txs_cons (tx_v hfF rw9 rfl) txs_nil))) (txs_cons (tx_tup (txs_cons (tx_v hfF rw9 rfl) (txs_cons (tx_v hfF ru9 rfl) txs_nil))) txs_nil)) rfl) txs_nil)))) (fun H1 Q h=>eq_bl (a:=2) (b:=0) rfl rfl H1 Q h) ?_;rintro H9 p9 v9 _ x9 ⟨_,⟨_,_,rfl,⟨_,_,rfl,⟨_,_,(⟨_,⟨_,_,rfl,⟨_,_,rfl,rfl,rfl⟩,rfl⟩,rfl⟩ | ⟨_,⟨_,_,rfl,⟨_,_,rfl,rfl,rfl⟩,rfl⟩,rfl⟩),rfl,rfl⟩,rfl⟩,rfl⟩,rfl⟩ r9 h9
    ·exact kk _ _ _ (matT (wf xs) false (gap yl) kt o) _ x9 (.matA2 (sw:=false) hy ho) h9 (by rw [show matT (wf xs) false (gap yl) kt o=.mk (.mat (ms (wf xs))) [gap yl,kt,o] from rfl,e_mat];first | (rw [e_tag];simp only [List.map_cons,List.map_nil,e_num];exact r9) | (rw [e_gap];exact r9))
    ·exact kk _ _ _ (matT (wf xs) true (gap yl) kt o) _ x9 (.matA2 (sw:=true) hy ho) h9 (by rw [show matT (wf xs) true (gap yl) kt o=.mk (.mat (ms' (wf xs))) [gap yl,o,kt] from rfl,e_mat];first | (rw [e_tag];simp only [List.map_cons,List.map_nil,e_num];exact r9) | (rw [e_gap];exact r9))
   ·refine asg_tx hfF (tx_lix2 (txs_cons (tx_tup (txs_cons tx_s (txs_cons (tx_nm (i:=1) hfF hn4 rfl (by omega)) (txs_cons (tx_tup (txs_cons (tx_tup (txs_cons tx_s (txs_cons tx_i txs_nil))) txs_nil)) txs_nil)))) (txs_cons (tx_tup (txs_cons tx_s (txs_cons (tx_nm (i:=3) hfF hn4 rfl (by omega)) (txs_cons (tx_tup txs_nil) txs_nil)))) (txs_cons (tx_v hfF rl4 rfl) txs_nil))) rfl) ?_;rintro H9 t9 _ x9 rfl rt9
    have rk5:=rk4.kt (x9.kt hfF)
    have ro5:=ro4.kt (x9.kt hfF)
    have hn5:=x9.1 ln _ (ne_feed hfF hn4) hn4
    replace kk:∀ (H':Hp) (p:Addr) (v:V) (tm:Tm) (here:Bool),Ext f2 H9 H'->Wth (wf xs) kt tm here->H' p=some (.tup [v,.bl here])->Rp K H' (enc tm) v->D.rt (.ref p) H':=fun H' p v tm b s3=>kk H' p v tm b (x9.trans s3)
    replace hfF:=x9.2
    clear x9
    refine par_tx hfF (txs_cons (tx_tup (txs_cons (tx_nm (i:=1) hfF hn5 rfl (by omega)) (txs_cons (tx_tup (txs_cons (tx_nm (i:=2) hfF hn5 rfl (by omega)) txs_nil)) (txs_cons (tx_lix1 (txs_cons (tx_v hfF rk5 rfl) (txs_cons (tx_v hfF ro5 rfl) txs_nil)) rfl) txs_nil)))) (txs_cons (tx_tup (txs_cons (tx_nm (i:=3) hfF hn5 rfl (by omega)) (txs_cons (tx_tup txs_nil) (txs_cons (tx_lix1 (txs_cons (tx_v hfF ro5 rfl) (txs_cons (tx_v hfF rk5 rfl) txs_nil)) rfl) txs_nil)))) txs_nil)) ?_;rintro H9 u9 w9 _ _ x9 ⟨_,⟨_,_,rfl,⟨_,_,⟨_,⟨_,_,rfl,rfl,rfl⟩,rfl⟩,⟨_,_,rfl,rfl,rfl⟩,rfl⟩,rfl⟩,rfl⟩ ⟨_,⟨_,_,rfl,⟨_,_,⟨_,rfl,rfl⟩,⟨_,_,rfl,rfl,rfl⟩,rfl⟩,rfl⟩,rfl⟩ ru9 rw9
    have rt6:=rt9.kt (x9.kt hfF)
    have rk6:=rk5.kt (x9.kt hfF)
    have ro6:=ro5.kt (x9.kt hfF)
    have hn6:=x9.1 ln _ (ne_feed hfF hn5) hn5
    replace kk:∀ (H':Hp) (p:Addr) (v:V) (tm:Tm) (here:Bool),Ext f2 H9 H'->Wth (wf xs) kt tm here->H' p=some (.tup [v,.bl here])->Rp K H' (enc tm) v->D.rt (.ref p) H':=fun H' p v tm b s3=>kk H' p v tm b (x9.trans s3)
    replace hfF:=x9.2
    clear x9
    refine ret_pr hfF (tx_tup (txs_cons tx_s (txs_cons (tx_v hfF rt6 rfl) (txs_cons (tx_lixC2 (txs_cons (tx_tup (txs_cons (tx_v hfF ru9 rfl) (txs_cons (tx_v hfF rw9 rfl) txs_nil))) (txs_cons (tx_tup (txs_cons (tx_v hfF rw9 rfl) (txs_cons (tx_v hfF ru9 rfl) txs_nil))) txs_nil)) rfl) txs_nil)))) (fun H1 Q h=>eq_bl (a:=2) (b:=1) rfl rfl H1 Q h) ?_;rintro H9 p9 v9 _ x9 ⟨_,⟨_,_,rfl,⟨_,_,rfl,⟨_,_,(⟨_,⟨_,_,rfl,⟨_,_,rfl,rfl,rfl⟩,rfl⟩,rfl⟩ | ⟨_,⟨_,_,rfl,⟨_,_,rfl,rfl,rfl⟩,rfl⟩,rfl⟩),rfl,rfl⟩,rfl⟩,rfl⟩,rfl⟩ r9 h9
    ·exact kk _ _ _ (matT (wf xs) false (gap yl) o kt) _ x9 (.matB2 (sw:=false) hy ho) h9 (by rw [show matT (wf xs) false (gap yl) o kt=.mk (.mat (ms (wf xs))) [gap yl,o,kt] from rfl,e_mat];first | (rw [e_tag];simp only [List.map_cons,List.map_nil,e_num];exact r9) | (rw [e_gap];exact r9))
    ·exact kk _ _ _ (matT (wf xs) true (gap yl) o kt) _ x9 (.matB2 (sw:=true) hy ho) h9 (by rw [show matT (wf xs) true (gap yl) o kt=.mk (.mat (ms' (wf xs))) [gap yl,kt,o] from rfl,e_mat];first | (rw [e_tag];simp only [List.map_cons,List.map_nil,e_num];exact r9) | (rw [e_gap];exact r9))
 clear c
 rcases hw with rfl | rfl | rfl
 ·refine asg_tx hfF (tx_lix0 (txs_cons (tx_tup (txs_cons tx_s (txs_cons (tx_tup (txs_cons (tx_v hfF ro4 rfl) (txs_cons (tx_tup (txs_cons tx_s (txs_cons tx_i txs_nil))) txs_nil))) txs_nil))) (txs_cons (tx_tup (txs_cons tx_s (txs_cons (tx_tup txs_nil) txs_nil))) (txs_cons (tx_v hfF rl4 rfl) txs_nil))) rfl) ?_;rintro H9 t9 _ x9 ⟨_,⟨_,_,rfl,⟨_,_,⟨_,⟨_,_,rfl,⟨_,_,⟨_,⟨_,_,rfl,⟨_,_,rfl,rfl,rfl⟩,rfl⟩,rfl⟩,rfl,rfl⟩,rfl⟩,rfl⟩,rfl,rfl⟩,rfl⟩,rfl⟩ rt9
  have rk5:=rk4.kt (x9.kt hfF)
  have ro5:=ro4.kt (x9.kt hfF)
  have hn5:=x9.1 ln _ (ne_feed hfF hn4) hn4
  replace kk:∀ (H':Hp) (p:Addr) (v:V) (tm:Tm) (here:Bool),Ext f2 H9 H'->Wth (wf xs) kt tm here->H' p=some (.tup [v,.bl here])->Rp K H' (enc tm) v->D.rt (.ref p) H':=fun H' p v tm b s3=>kk H' p v tm b (x9.trans s3)
  replace hfF:=x9.2
  clear x9
  refine ret_pr hfF (tx_tup (txs_cons tx_s (txs_cons (tx_v hfF rt9 rfl) (txs_cons (tx_nm (i:=0) hfF hn5 rfl (by omega)) (txs_cons (tx_nm (i:=2) hfF hn5 rfl (by omega)) (txs_cons (tx_tup (txs_cons tx_s (txs_cons tx_i txs_nil))) (txs_cons (tx_v hfF rk5 rfl) txs_nil))))))) (fun H1 Q h=>eq_blC (a:=0) (b:=0) rfl H1 Q h) ?_;rintro H9 p9 v9 _ x9 ⟨_,⟨_,_,rfl,⟨_,_,rfl,⟨_,_,rfl,⟨_,_,rfl,⟨_,_,⟨_,⟨_,_,rfl,⟨_,_,rfl,rfl,rfl⟩,rfl⟩,rfl⟩,⟨_,_,rfl,rfl,rfl⟩,rfl⟩,rfl⟩,rfl⟩,rfl⟩,rfl⟩,rfl⟩ r9 h9
  exact kk _ _ _ (.mk (.fold _ _) [.mk .row [o,num 2],num 1,kt]) _ x9 (.fold0 ho) h9 (by rw [e_fold,e_row,e_num];simp only [List.map_cons,List.map_nil,e_num];exact r9)
 ·refine asg_tx hfF (tx_lix1 (txs_cons (tx_tup (txs_cons tx_s (txs_cons (tx_tup (txs_cons (tx_v hfF ro4 rfl) (txs_cons (tx_tup (txs_cons tx_s (txs_cons tx_i txs_nil))) txs_nil))) txs_nil))) (txs_cons (tx_tup (txs_cons tx_s (txs_cons (tx_tup txs_nil) txs_nil))) (txs_cons (tx_v hfF rl4 rfl) txs_nil))) rfl) ?_;rintro H9 t9 _ x9 ⟨_,⟨_,_,rfl,⟨_,_,⟨_,rfl,rfl⟩,rfl,rfl⟩,rfl⟩,rfl⟩ rt9
  have rk5:=rk4.kt (x9.kt hfF)
  have ro5:=ro4.kt (x9.kt hfF)
  have hn5:=x9.1 ln _ (ne_feed hfF hn4) hn4
  replace kk:∀ (H':Hp) (p:Addr) (v:V) (tm:Tm) (here:Bool),Ext f2 H9 H'->Wth (wf xs) kt tm here->H' p=some (.tup [v,.bl here])->Rp K H' (enc tm) v->D.rt (.ref p) H':=fun H' p v tm b s3=>kk H' p v tm b (x9.trans s3)
  replace hfF:=x9.2
  clear x9
  refine ret_pr hfF (tx_tup (txs_cons tx_s (txs_cons (tx_v hfF rt9 rfl) (txs_cons (tx_nm (i:=0) hfF hn5 rfl (by omega)) (txs_cons (tx_nm (i:=2) hfF hn5 rfl (by omega)) (txs_cons (tx_tup (txs_cons tx_s (txs_cons tx_i txs_nil))) (txs_cons (tx_v hfF rk5 rfl) txs_nil))))))) (fun H1 Q h=>eq_blC (a:=1) (b:=0) rfl H1 Q h) ?_;rintro H9 p9 v9 _ x9 ⟨_,⟨_,_,rfl,⟨_,_,rfl,⟨_,_,rfl,⟨_,_,rfl,⟨_,_,⟨_,⟨_,_,rfl,⟨_,_,rfl,rfl,rfl⟩,rfl⟩,rfl⟩,⟨_,_,rfl,rfl,rfl⟩,rfl⟩,rfl⟩,rfl⟩,rfl⟩,rfl⟩,rfl⟩ r9 h9
  exact kk _ _ _ (.mk (.fold _ _) [.mk .row [],num 1,kt]) _ x9 (.fold1) h9 (by rw [e_fold,e_row,e_num];exact r9)
 ·refine asg_tx hfF (tx_lix2 (txs_cons (tx_tup (txs_cons tx_s (txs_cons (tx_tup (txs_cons (tx_v hfF ro4 rfl) (txs_cons (tx_tup (txs_cons tx_s (txs_cons tx_i txs_nil))) txs_nil))) txs_nil))) (txs_cons (tx_tup (txs_cons tx_s (txs_cons (tx_tup txs_nil) txs_nil))) (txs_cons (tx_v hfF rl4 rfl) txs_nil))) rfl) ?_;rintro H9 t9 _ x9 rfl rt9
  have rk5:=rk4.kt (x9.kt hfF)
  have ro5:=ro4.kt (x9.kt hfF)
  have hn5:=x9.1 ln _ (ne_feed hfF hn4) hn4
  replace kk:∀ (H':Hp) (p:Addr) (v:V) (tm:Tm) (here:Bool),Ext f2 H9 H'->Wth (wf xs) kt tm here->H' p=some (.tup [v,.bl here])->Rp K H' (enc tm) v->D.rt (.ref p) H':=fun H' p v tm b s3=>kk H' p v tm b (x9.trans s3)
  replace hfF:=x9.2
  clear x9
  refine ret_pr hfF (tx_tup (txs_cons tx_s (txs_cons (tx_v hfF rt9 rfl) (txs_cons (tx_nm (i:=0) hfF hn5 rfl (by omega)) (txs_cons (tx_nm (i:=2) hfF hn5 rfl (by omega)) (txs_cons (tx_tup (txs_cons tx_s (txs_cons tx_i txs_nil))) (txs_cons (tx_v hfF rk5 rfl) txs_nil))))))) (fun H1 Q h=>eq_blC (a:=2) (b:=0) rfl H1 Q h) ?_;rintro H9 p9 v9 _ x9 ⟨_,⟨_,_,rfl,⟨_,_,rfl,⟨_,_,rfl,⟨_,_,rfl,⟨_,_,⟨_,⟨_,_,rfl,⟨_,_,rfl,rfl,rfl⟩,rfl⟩,rfl⟩,⟨_,_,rfl,rfl,rfl⟩,rfl⟩,rfl⟩,rfl⟩,rfl⟩,rfl⟩,rfl⟩ r9 h9
  exact kk _ _ _ (.mk (.fold _ _) [gap yl,num 1,kt]) _ x9 (.fold2 hy) h9 (by rw [e_fold,e_gap,e_num];exact r9)
end
end G28
namespace G28
open PySem L2
section
variable {P : Program} {w : World} {K : PySem.W.Frag} {mg : Str → Option Value} {base : Heap} {C : Addr}
variable {gT gU gO gC : Addr} {tfd ufd ofd cfd : FuncData}
theorem ok_within {f:Addr}{fd:FuncData}(F:Fun K "_law_within" "_law_within" s_L_within f fd)(TK:Has P w K mg base "_law_take" 1 ["_law_feed_here","_law_many"] spTake gT tfd)(OT:Has P w K mg base "_law_other" 3 ["_law_feed_here","_law_scene","_law_rows"] (spOther K) gO ofd)(z_int:mg "int"=none) :
  FnOk P w K mg base CX0 4 f fd ["_law_feed_here","_law_scene","_law_core_here"] (spWithin K):=by
 refine F.ok sc_L_within (fun vs H Q E h=>?_) (fun cdv A outer s H vs Q E hr h=>?_)
 ·obtain ⟨_,_,_,_,_,_,_,rfl,_⟩:=h
  rfl
 obtain ⟨f2,d,ln,xs,n,u,kt,rfl,hs,hn,lx,rk,k⟩:=h
 refine ⟨_,(@pss_cons _ _ _ _ _ (@sa _ _ _ _ _ _ sc_L_within.nd lm_L_within 3 (@pe_call _ _ _ _ _ _ _ _ _ _ _ _ _ _ _ _ TK.ok (hr.mono (by omega)) (by show _=_;kernel_rfl) TK.at' TK.kp TK.bd .nil pass0 (pa_c (va nm_L_within 0) (pa_c pe_int pa_nil)) (by decide) (by rfl) (by rfl)) (by rfl) (by kernel_rfl) (by exact .inl rfl)) (@pss_cons _ _ _ _ _ (@sa _ _ _ _ _ _ sc_L_within.nd lm_L_within 4 (@pe_call _ _ _ _ _ _ _ _ _ _ _ _ _ _ _ _ TK.ok (hr.mono (by omega)) (by show _=_;kernel_rfl) TK.at' TK.kp TK.bd .nil pass0 (@pa_c _ _ _ _ _ (va nm_L_within 0) (@pa_c _ _ _ _ _ (@pe_op _ _ _ _ _ _ _ _ op_add pe_int (@pe_callTy _ _ _ _ _ _ _ _ _ call_int1 (by show _=_;kernel_rfl) z_int PyProof.Rows.boot_int (@pa_c _ _ _ _ _ (@pe_cmpR _ _ _ _ _ _ _ _ op_lt (pe_dget (hu_of hr) (va nm_L_within 1) pe_str (fun _ _=>rfl)) pe_int (nomark _)) pa_nil (by rfl)) (by decide) (by decide) (by rfl) (by rfl))) pa_nil (by rfl)) (by rfl)) (by decide) (by rfl) (by rfl)) (by rfl) (by kernel_rfl) (by exact .inl rfl)) (@pss_cons _ _ _ _ _ (@sa _ _ _ _ _ _ sc_L_within.nd lm_L_within 5 (@pe_tup _ _ _ _ _ (pa_c pe_str (pa_c pe_int pa_nil))) (by rfl) (by kernel_rfl) (by exact .inl rfl)) (@pss_cons _ _ _ _ _ (@ps_if _ _ _ _ _ _ _ _ (pt_cmpR op_eq (va nm_L_within 4) pe_int (nomark _)) (@pss_cons _ _ _ _ _ (@ps_dput _ _ _ _ _ _ _ _ _ (hu_of hr) (va nm_L_within 1) pe_str (@pe_op _ _ _ _ _ _ _ _ op_add (pe_dget (hu_of hr) (va nm_L_within 1) pe_str (fun _ _=>rfl)) pe_int) (by rfl)) (@pss_one _ _ _ (@sa _ _ _ _ _ _ sc_L_within.nd lm_L_within 5 (@pe_tup _ _ _ _ _ (@pa_c _ _ _ _ _ pe_str (@pa_c _ _ _ _ _ (@pe_op _ _ _ _ _ _ _ _ op_sub (@pe_op _ _ _ _ _ _ _ _ op_mul (pe_dget (hu_of hr) (va nm_L_within 1) pe_str (fun _ _=>rfl)) pe_int) pe_int) pa_nil (by rfl)) (by rfl))) (by rfl) (by kernel_rfl) (by exact .inl rfl)))) pss_nil) pss_blk)))),?_⟩
 have hf:=hs.hf
 fail "R"
 intro z H1 z0 z3 x1
 have hs1:=hs.ext x1
 have rk1:=rk.kt (x1.kt hf)
 have dg1:=hs1.g.1
 have hf1:=hs1.hf
 fail "R"
 refine .inr ⟨_,rfl,?_⟩
 generalize hb:decide ((n:Int) < 5)=b
 obtain ⟨m,hm,hm1⟩:∃ m:Nat,((m:Int)=2 + if b=true then 1 else 0)/\(m=2\/m=3/\n < 5):=by
  cases b with
  | true=>exact ⟨3,rfl,.inr ⟨rfl,by have:=of_decide_eq_true hb;omega⟩⟩
  | false=>exact ⟨2,rfl,.inl rfl⟩
 clear hb
 have hm3:m<=3:=by omega
 have hm2:2<=m:=by omega
 have e9:(V.int (2 + if b=true then 1 else 0))=V.int (m:Int):=by rw [hm]
 fail "R"
 intro y H2 y0 y3 x2
 rw [←hm] at y3
 have hs2:=hs1.ext x2
 have rk2:=rk1.kt (x2.kt hf1)
 fail "R"
 intro p hp
 have s3:=same_new hp (.tup [.str "gap",.int 95])
 have hs3:=hs2.same s3
 have rk3:=rk2.same s3
 have rl3:Rp K (upd H2 p (.tup [.str "gap",.int 95])) (enc (gap 95)) (.ref p):=by rw [e_gap];exact Rp.new (K:=K) hp (.cons .s (.one .i))
 have cc:Cg f2 d H (upd H2 p (.tup [.str "gap",.int 95])):=((Cg.ext x1).trans (Cg.ext x2)).trans (Cg.same s3)
 generalize upd H2 p (.tup [.str "gap",.int 95])=H3 at s3 hs3 rk3 rl3 cc ⊢
 clear hs hs1 hs2 rk rk1 rk2 hf hf1 dg1 x1 x2 s3 hp
 have dg3:=hs3.g.1
 have hp3:=hs3.p
 fail "R"
 refine ite2 (fun c=>?_) (fun c=>?_)
 ·obtain rfl:y=2:=by have:=of_decide_eq_true c;injection this
  clear c
  have n5:n < 5:=by omega
  obtain ⟨hs4,c4⟩:=hs3.put
  have rk4:=rk3.kt (hs3.kt c4)
  have dg4:=hs4.g.1
  generalize upd H3 d (.dK (scK (n + 1) ln))=H4 at hp3 hs4 c4 rk4 dg4
  fail "R"
  intro q hq
  have s5:=same_new hq (.tup [.str "gap",.int (((n + 1:Nat):Int) * 17 - 9)])
  refine within_rest (yl:=((n + 1:Nat):Int) * 17 - 9) TK OT hr (hs4.same s5) (by omega) lx (rk4.same s5) (by rw [e_gap];exact Rp.new (K:=K) hq (.cons .s (.one .i))) (g20 (by omega)) z0 z3 (.inr (.inr rfl)) fun H' p v tm here n' c=>k H' p v tm here n' ((cc.trans c4).trans ((Cg.same s5).trans c))
 ·clear c
  fail "R"
  exact within_rest (yl:=95) TK OT hr hs3 hn lx rk3 rl3 (by decide) z0 z3 (by omega) fun H' p v tm here n' c=>k H' p v tm here n' (cc.trans c)
end
end G28
namespace G28
open PySem L2
def spWrapped (K:PySem.W.Frag):Sp:=fun vs H Q _=>∃ (f d ln:Addr) (xs:List Str) (n:Nat) (u:V) (k:Tm) (g:Bool),vs=[.ref f,.ref d,u,.bl g]/\Sc H f d ln xs n/\n<=5/\xs.length=10/\Rp K H (enc k) u /\
 ∀ (H':Hp) (p:Addr) (v:V) (tm:Tm) (g':Bool) (n' m:Nat),Cg f d H H'->Sc H' f d ln xs n'->n'<=5->m<=2->Wr (wf xs) k g m tm g'->H' p=some (.tup [v,.bl g'])->Rp K H' (enc tm) v->Q (.ref p) H'
section
variable {P : Program} {w : World} {K : PySem.W.Frag} {mg : Str → Option Value} {base : Heap} {C : Addr}
variable {gT gU gO gC gA gW : Addr} {tfd ufd ofd cfd afd wfd : FuncData}
theorem nm_L_wrapped:Nm ["_law_feed_here","_law_scene","_law_term","_law_goes","_law_k","_law_here"] (defScope s_L_wrapped):=by decide +kernel
theorem lm_L_wrapped:Lm ["_law_feed_here","_law_scene","_law_term","_law_goes","_law_k","_law_here"] (defScope s_L_wrapped):=by decide +kernel
theorem sc_L_wrapped:FnScope ["_law_feed_here","_law_scene","_law_term","_law_goes","_law_k","_law_here"] ["_law_feed_here","_law_scene","_law_term","_law_goes"] (defScope s_L_wrapped):=⟨rfl,rfl,rfl,by decide +kernel,rfl,by decide +kernel,by decide +kernel⟩
theorem ok_wrapped {f:Addr}{fd:FuncData}(F:Fun K "_law_wrapped" "_law_wrapped" s_L_wrapped f fd)(TK:Has P w K mg base "_law_take" 1 ["_law_feed_here","_law_many"] spTake gT tfd)(AS:Has P w K mg base "_law_aside" 4 ["_law_feed_here","_law_scene","_law_core_here"] (spAside K) gA afd)(WI:Has P w K mg base "_law_within" 4 ["_law_feed_here","_law_scene","_law_core_here"] (spWithin K) gW wfd)(z_range:mg "range"=none) :
  FnOk P w K mg base CX0 5 f fd ["_law_feed_here","_law_scene","_law_term","_law_goes"] (spWrapped K):=by
 refine F.ok sc_L_wrapped (fun vs H Q E h=>?_) (fun cdv A outer s H vs Q E hr h=>?_)
 ·obtain ⟨_,_,_,_,_,_,_,_,rfl,_⟩:=h
  rfl
 obtain ⟨f2,d,ln,xs,n,u,kt,g,rfl,hs,hn,lx,rk,k⟩:=h
 refine ⟨_,(@pss_cons _ _ _ _ _ (@ps_for _ _ _ _ _ _ _ _ PassesOwn.never rfl (@pi_range1 _ _ _ _ _ _ (by show _=_;kernel_rfl) z_range (@pa_c _ _ _ _ _ (@pe_op _ _ _ _ _ _ _ _ op_add pe_int (@pe_call _ _ _ _ _ _ _ _ _ _ _ _ _ _ _ _ TK.ok (hr.mono (by omega)) (by show _=_;kernel_rfl) TK.at' TK.kp TK.bd .nil pass0 (pa_c (va nm_L_wrapped 0) (pa_c pe_int pa_nil)) (by decide) (by rfl) (by rfl))) pa_nil (by rfl)) (by rfl)) (ga sc_L_wrapped.nd lm_L_wrapped 4) (@pss_one _ _ _ (@ps_if _ _ _ _ _ _ _ _ (@pt_cmpR _ _ _ _ _ _ _ _ op_eq (@pe_call _ _ _ _ _ _ _ _ _ _ _ _ _ _ _ _ TK.ok (hr.mono (by omega)) (by show _=_;kernel_rfl) TK.at' TK.kp TK.bd .nil pass0 (pa_c (va nm_L_wrapped 0) (pa_c pe_int pa_nil)) (by decide) (by rfl) (by rfl)) pe_int (nomark _)) (@pss_one _ _ _ (@sa _ _ _ _ _ _ sc_L_wrapped.nd lm_L_wrapped 2 (@pe_call _ _ _ _ _ _ _ _ _ _ _ _ _ _ _ _ AS.ok (hr.mono (by omega)) (by show _=_;kernel_rfl) AS.at' AS.kp AS.bd .nil pass0 (@pa_c _ _ _ _ _ (va nm_L_wrapped 0) (@pa_c _ _ _ _ _ (va nm_L_wrapped 1) (pa_c (va nm_L_wrapped 2) pa_nil) (by rfl)) (by rfl)) (by decide) (by rfl) (by rfl)) (by rfl) (by kernel_rfl) (by exact .inl rfl))) (@pss_cons _ _ _ _ _ (@ps_asg _ _ _ _ _ _ (@pe_call _ _ _ _ _ _ _ _ _ _ _ _ _ _ _ _ WI.ok (hr.mono (by omega)) (by show _=_;kernel_rfl) WI.at' WI.kp WI.bd .nil pass0 (@pa_c _ _ _ _ _ (va nm_L_wrapped 0) (@pa_c _ _ _ _ _ (va nm_L_wrapped 1) (pa_c (va nm_L_wrapped 2) pa_nil) (by rfl)) (by rfl)) (by decide) (by rfl) (by rfl)) (@pg_tupK _ _ _ _ _ (2) K rfl rfl (@pgs_cons _ _ _ _ _ (ga sc_L_wrapped.nd lm_L_wrapped 2) (pgs_cons (ga sc_L_wrapped.nd lm_L_wrapped 5) pgs_nil) (by rfl)) (by rfl) (by rfl)) (by rfl) (by rfl) (by rfl)) (@pss_one _ _ _ (@sa _ _ _ _ _ _ sc_L_wrapped.nd lm_L_wrapped 3 (@pe_and _ _ _ _ _ _ _ (va nm_L_wrapped 3) (pe_one (va nm_L_wrapped 5))) (by rfl) (by kernel_rfl) (by exact .inl rfl)))))) (by intro _;rfl)) (@pss_one _ _ _ (@ps_ret _ _ _ _ (@pe_tup _ _ _ _ _ (@pa_c _ _ _ _ _ (va nm_L_wrapped 2) (pa_c (va nm_L_wrapped 3) pa_nil) (by rfl)))))),?_⟩
 have hf:=hs.hf
 fail "R"
 intro z H1 z0 z2 x1
 have hs1:=hs.ext x1
 have rk1:=rk.kt (x1.kt hf)
 fail "R"
 have hm:(1 + z).toNat<=2:=by omega
 generalize (1 + z).toNat=m at hm ⊢
 refine for_range (n:=m) (fun i σ Hi=>∃ (v:V) (tm:Tm) (g':Bool) (n':Nat) (x4 x5:Option V),σ=[some (.ref f2),some (.ref d),some v,some (.bl g'),x4,x5]/\Cg f2 d H Hi/\Sc Hi f2 d ln xs n'/\n'<=5/\Wr (wf xs) kt g i tm g'/\Rp K Hi (enc tm) v) ⟨u,kt,g,n,_,_,rfl,Cg.ext x1,hs1,hn,.nil,rk1⟩ ?_ ?_
 ·rintro i σ Hi hi ⟨v,tm,g',n',x4,x5,rfl,ci,hsi,hni,wi,ri⟩
  have hfi:=hsi.hf
  fail "R"
  intro y H2 y0 y2 x2
  have hs2:=hsi.ext x2
  have r2:=ri.kt (x2.kt hfi)
  fail "R"
  refine ite2 (fun c=>?_) (fun c=>?_)
  ·clear c
   fail "R"
   intro H3 v3 tm3 n3 c3 hs3 hn3 a3 r3
   exact ⟨v3,tm3,g',n3,_,_,rfl,(ci.trans (Cg.ext x2)).trans c3,hs3,hn3,.asd wi a3,r3⟩
  ·clear c
   fail "R"
   intro H3 p3 v3 tm3 b3 n3 c3 hs3 hn3 w3 e3 r3
   fail "R"
   have ww:=Wr.wth wi w3
   refine ite2 (fun c=>?_) (fun c=>?_)
   ·subst c
    exact ⟨_,rfl,v3,tm3,b3,n3,_,_,rfl,(ci.trans (Cg.ext x2)).trans c3,hs3,hn3,ww,r3⟩
   ·obtain rfl:g'=false:=by cases g' with | true=>exact absurd rfl c | false=>rfl
    exact ⟨v3,tm3,false,n3,_,_,rfl,(ci.trans (Cg.ext x2)).trans c3,hs3,hn3,ww,r3⟩
 ·rintro σ Hi ⟨v,tm,g',n',x4,x5,rfl,ci,hsi,hni,wi,ri⟩
  fail "R"
  intro p hp
  have s:=same_new hp (.tup [v,.bl g'])
  exact k _ p v tm g' n' m (ci.trans (Cg.same s)) (hsi.same s) hni hm wi upd_same (ri.same s)
end
end G28
namespace G28
open PySem L2
def spCase (K:PySem.W.Frag):Sp:=fun vs H Q _=>∃ (f:Addr),vs=[.ref f]/\FeedAt H f /\
 ∀ (H':Hp) (p:Addr) (v:V) (kd:T) (ds:List Def) (d:Def) (g:Bool),Ext f H H'->H' p=some (.tup [v,.bl g])->Rp K H' (progT kd (ds++[d])) v->Fate kd ds d g->Q (.ref p) H'
theorem asg_tr {K:PySem.W.Frag}{te:TE}{tr:T}{i:Nat}{σ:St}{H:Hp}{D:L2.Ends}(h:Tr K te σ H tr)(k:∀ H2 v,Same H H2->Rp K H2 tr v->D.nx (σ.set i (some v)) H2):tAsg te (gName i) D σ H:=h H _ (Same.refl _) k
theorem mg_scK (ln:Addr):mergeK [] (scK 0 ln)=scK 0 ln:=by kernel_rfl
theorem ix_wf {xs:List Str}{i:Nat}(h:i < xs.length):atI (xs.map V.str) (i:Int)=some (.str (wf xs i)):=atI_nat (by rw [List.getElem?_map,wf_get h];rfl)
section
variable {P : Program} {w : World} {K : PySem.W.Frag} {mg : Str → Option Value} {base : Heap} {C : Addr}
variable {gT gU gO gC gN gW : Addr} {tfd ufd ofd cfd nfd wfd : FuncData}
theorem nm_L_case:Nm ["_law_feed_here","_law_scene","_law_w","_law_defs","_law_term","_law_goes","_law_kinds"] (defScope s_L_case):=by decide +kernel
theorem lm_L_case:Lm ["_law_feed_here","_law_scene","_law_w","_law_defs","_law_term","_law_goes","_law_kinds"] (defScope s_L_case):=by decide +kernel
theorem sc_L_case:FnScope ["_law_feed_here","_law_scene","_law_w","_law_defs","_law_term","_law_goes","_law_kinds"] ["_law_feed_here"] (defScope s_L_case):=⟨rfl,rfl,rfl,by decide +kernel,rfl,by decide +kernel,by decide +kernel⟩
theorem case_tail {f:Addr}{cdv:Value}{A:Around}{outer:List PySem.Env}{s:Shared}{H0:Hp}{E:XK}(z_tuple:mg "tuple"=none)(hr:Room 6 (A.deeper (PyProof.Rows.envOfC "_law_case" (defScope s_L_case) s.heap.objs.size f cdv)))
  {D:L2.Ends} {H:Hp} {x0 x1 x6:Option V} {ln ld:Addr} {xs:List Str} {v:V} {dv:List V} {ds:List Def} {t:Tm} {g:Bool} (lx:xs.length=10) (hn:H ln=some (.lst (xs.map V.str))) (hd:H ld=some (.lst dv)) (rd0:Rps K H (ds.map defT) dv) (dl:ds.length<=10) (rt:Rp K H (enc t) v)
  (k:∀ (H':Hp) (p:Addr) (v':V),Same H H'->H' p=some (.tup [v',.bl g])->Rp K H' (progT (kdT (wf xs)) (ds++[(wf xs 9,[],enc t)])) v'->D.rt (.ref p) H') :
  tBlk (cxOf CX0 P w K mg base ["_law_feed_here","_law_scene","_law_w","_law_defs","_law_term","_law_goes","_law_kinds"] "_law_case" (defScope s_L_case) f cdv A outer s H0 E).nox ((defBody s_L_case).drop 5) D [x0,x1,some (.ref ln),some (.ref ld),some v,some (.bl g),x6] H:=by
 refine blk_of ((@pss_cons _ _ _ _ _ (@sa _ _ _ _ _ _ sc_L_case.nd lm_L_case 6 (@pe_tup _ _ _ _ _ (@pa_c _ _ _ _ _ (@pe_tup _ _ _ _ _ (@pa_c _ _ _ _ _ (pe_ix ix_list (va nm_L_case 2) pe_int (fun _ _=>rfl)) (@pa_c _ _ _ _ _ (@pe_tup _ _ _ _ _ (@pa_c _ _ _ _ _ (@pe_tup _ _ _ _ _ (@pa_c _ _ _ _ _ (pe_ix ix_list (va nm_L_case 2) pe_int (fun _ _=>rfl)) (@pa_c _ _ _ _ _ (pe_tup (pa_c pe_str pa_nil)) pa_nil (by rfl)) (by rfl))) (@pa_c _ _ _ _ _ (@pe_tup _ _ _ _ _ (@pa_c _ _ _ _ _ (pe_ix ix_list (va nm_L_case 2) pe_int (fun _ _=>rfl)) (pa_c (pe_tup pa_nil) pa_nil) (by rfl))) pa_nil (by rfl)) (by rfl))) pa_nil (by rfl)) (by rfl))) pa_nil (by rfl))) (by rfl) (by kernel_rfl) (by exact .inl rfl)) (@pss_one _ _ _ (@ps_ret _ _ _ _ (@pe_tup _ _ _ _ _ (@pa_c _ _ _ _ _ (@pe_tup _ _ _ _ _ (@pa_c _ _ _ _ _ (va nm_L_case 6) (@pa_c _ _ _ _ _ (@pe_callTy _ _ _ _ _ _ _ _ _ call_tuple_of (by show _=_;kernel_rfl) z_tuple PyProof.Rows.boot_tuple (@pa_c _ _ _ _ _ (@pe_op _ _ _ _ _ _ _ _ op_cat (va nm_L_case 3) (@pe_lst _ _ _ _ (@pa_c _ _ _ _ _ (@pe_tup _ _ _ _ _ (@pa_c _ _ _ _ _ (pe_ix ix_list (va nm_L_case 2) pe_int (fun _ _=>rfl)) (@pa_c _ _ _ _ _ (pe_tup pa_nil) (pa_c (va nm_L_case 4) pa_nil) (by rfl)) (by rfl))) pa_nil (by rfl)))) pa_nil (by rfl)) (by decide) (by decide) (by rfl) (by rfl)) pa_nil (by rfl)) (by rfl))) (pa_c (va nm_L_case 5) pa_nil) (by rfl))))))) ?_
 refine asg_tr (tr:=kdT (wf xs)) (tr_tup (trs_cons (tr_tup (trs_cons (tr_nm (i:=4) rfl hn (wf_get (by omega))) (trs_cons (tr_tup (trs_cons (tr_tup (trs_cons (tr_nm (i:=1) rfl hn (wf_get (by omega))) (trs_cons (tr_tup (trs_cons tr_s trs_nil)) trs_nil))) (trs_cons (tr_tup (trs_cons (tr_nm (i:=3) rfl hn (wf_get (by omega))) (trs_cons (tr_tup trs_nil) trs_nil))) trs_nil))) trs_nil))) trs_nil)) fun H1 kv s1 rk=>?_
 have hn1:=s1 _ _ hn
 have hd1:=s1 _ _ hd
 have rd1:=rd0.same s1
 have rt1:=rt.same s1
 have i9:atI (xs.map V.str) 9=some (.str (wf xs 9)):=ix_wf (i:=9) (by omega)
 clear hn hd rd0 rt
 fail "R"
 intro p1 hp1
 have r1:Rp K (upd H1 p1 (.tup [])) (.t []) (.ref p1):=Rp.new (K:=K) hp1 .nil
 have s2:=same_new hp1 (.tup [])
 fail "R"
 intro p2 hp2
 have s3:=s2.trans (same_new hp2 (.tup [.str (wf xs 9),.ref p1,v]))
 have r2:Rp K (upd (upd H1 p1 (.tup [])) p2 (.tup [.str (wf xs 9),.ref p1,v])) (defT (wf xs 9,[],enc t)) (.ref p2):=Rp.new (K:=K) hp2 (.cons .s (.cons r1 (.one (rt1.same s2))))
 fail "R"
 intro p3 hp3
 have s4:=s3.trans (same_new hp3 (.lst [.ref p2]))
 have hd4:=s4 _ _ hd1
 have r3:=r2.same (same_new hp3 (.lst [.ref p2]))
 have e3:upd (upd (upd H1 p1 (.tup [])) p2 (.tup [.str (wf xs 9),.ref p1,v])) p3 (.lst [.ref p2]) p3=some (.lst [.ref p2]):=upd_same
 generalize upd (upd (upd H1 p1 (.tup [])) p2 (.tup [.str (wf xs 9),.ref p1,v])) p3 (.lst [.ref p2])=H4 at s4 hd4 r3 e3 ⊢
 have ll:dv.length + [V.ref p2].length<=sizeLine:=small (by rw [rd1.length,List.length_map];simp;omega)
 fail "R"
 intro p4 hp4
 have rs4:Rps K (upd H4 p4 (.lst (dv++[.ref p2]))) ((ds++[(wf xs 9,[],enc t)]).map defT) (dv++[.ref p2]):=by
  rw [List.map_append]
  exact ((rd1.same s4).snoc r3).same (same_new hp4 _)
 have s5:=s4.trans (same_new hp4 (.lst (dv++[.ref p2])))
 have e4:upd H4 p4 (.lst (dv++[.ref p2])) p4=some (.lst (dv++[.ref p2])):=upd_same
 generalize upd H4 p4 (.lst (dv++[.ref p2]))=H5 at rs4 s5 e4 ⊢
 fail "R"
 refine .inl ⟨SqL.of e4,fun p5 hp5=>?_⟩
 have r5:Rp K (upd H5 p5 (.tup (dv++[.ref p2]))) (.t ((ds++[(wf xs 9,[],enc t)]).map defT)) (.ref p5):=Rp.new (K:=K) hp5 rs4
 have s6:=s5.trans (same_new hp5 (.tup (dv++[.ref p2])))
 fail "R"
 intro p6 hp6
 have r6:Rp K (upd (upd H5 p5 (.tup (dv++[.ref p2]))) p6 (.tup [kv,.ref p5])) (progT (kdT (wf xs)) (ds++[(wf xs 9,[],enc t)])) (.ref p6):=Rp.new (K:=K) hp6 (.cons (rk.same s6) (.one r5))
 fail "R"
 intro p7 hp7
 exact k _ p7 (.ref p6) (s1.trans (s6.trans ((same_new hp6 _).trans (same_new hp7 _)))) upd_same (r6.same (same_new hp7 _))
end
end G28
namespace G28
open PySem L2
section
variable {P : Program} {w : World} {K : PySem.W.Frag} {mg : Str → Option Value} {base : Heap} {C : Addr}
variable {gT gU gO gC gN gW : Addr} {tfd ufd ofd cfd nfd wfd : FuncData}
theorem ne_ld {H:Hp}{f d ln ld a:Addr}{xs:List Str}{n:Nat}(h:Sc H f d ln xs n)(e:H ld=some (.lst [.ref a])):ld≠f/\ld≠d/\ld≠ln:=by
 refine ⟨fun z=>?_,fun z=>?_,fun z=>?_⟩
 ·obtain ⟨p,q,e2⟩:=h.hf
  rw [←z,e] at e2
  cases e2
 ·have e2:=h.hd
  rw [←z,e] at e2
  cases e2
 ·have e2:=h.hn
  rw [←z,e] at e2
  injection e2 with e2
  injection e2 with e2
  cases xs with
  | nil=>cases e2
  | cons y ys=>rw [List.map_cons] at e2;injection e2 with e2;cases e2
theorem ok_case {f:Addr}{fd:FuncData}(F:Fun K "_law_case" "_law_case" s_L_case f fd)(TK:Has P w K mg base "_law_take" 1 ["_law_feed_here","_law_many"] spTake gT tfd)(NM:Has P w K mg base "_law_names" 2 ["_law_feed_here","_law_many"] spNames gN nfd)(NU:Has P w K mg base "_law_number" 2 ["_law_feed_here"] spNumber gU ufd)(CR:Has P w K mg base "_law_core" 4 ["_law_feed_here","_law_scene"] (spCore K) gC cfd)(WP:Has P w K mg base "_law_wrapped" 5 ["_law_feed_here","_law_scene","_law_term","_law_goes"] (spWrapped K) gW wfd)(z_tuple:mg "tuple"=none) :
  FnOk P w K mg base CX0 7 f fd ["_law_feed_here"] (spCase K):=by
 refine F.ok sc_L_case (fun vs H Q E h=>?_) (fun cdv A outer s H vs Q E hr h=>?_)
 ·obtain ⟨_,rfl,_⟩:=h
  rfl
 obtain ⟨f2,rfl,hf,k⟩:=h
 refine ⟨_,(@pss_cons _ _ _ _ _ (@sa _ _ _ _ _ _ sc_L_case.nd lm_L_case 1 (@pe_disp2 _ _ _ _ _ _ _ _ _ _ pe_str pe_int pe_str (@pe_call _ _ _ _ _ _ _ _ _ _ _ _ _ _ _ _ NM.ok (hr.mono (by omega)) (by show _=_;kernel_rfl) NM.at' NM.kp NM.bd .nil pass0 (pa_c (va nm_L_case 0) (pa_c pe_int pa_nil)) (by decide) (by rfl) (by rfl))) (by rfl) (by kernel_rfl) (by exact .inl rfl)) (@pss_cons _ _ _ _ _ (@sa _ _ _ _ _ _ sc_L_case.nd lm_L_case 2 (pe_dget (hu_of hr) (va nm_L_case 1) pe_str (fun _ _=>rfl)) (by rfl) (by kernel_rfl) (by exact .inl rfl)) (@pss_cons _ _ _ _ _ (@sa _ _ _ _ _ _ sc_L_case.nd lm_L_case 3 (@pe_lst _ _ _ _ (@pa_c _ _ _ _ _ (@pe_tup _ _ _ _ _ (@pa_c _ _ _ _ _ (pe_ix ix_list (va nm_L_case 2) pe_int (fun _ _=>rfl)) (@pa_c _ _ _ _ _ (@pe_tup _ _ _ _ _ (@pa_c _ _ _ _ _ (@pe_tup _ _ _ _ _ (@pa_c _ _ _ _ _ (pe_ix ix_list (va nm_L_case 2) pe_int (fun _ _=>rfl)) (pa_c pe_str pa_nil) (by rfl))) (@pa_c _ _ _ _ _ (@pe_tup _ _ _ _ _ (@pa_c _ _ _ _ _ (pe_ix ix_list (va nm_L_case 2) pe_int (fun _ _=>rfl)) (pa_c pe_str pa_nil) (by rfl))) pa_nil (by rfl)) (by rfl))) (@pa_c _ _ _ _ _ (@pe_tup _ _ _ _ _ (@pa_c _ _ _ _ _ pe_str (@pa_c _ _ _ _ _ (@pe_call _ _ _ _ _ _ _ _ _ _ _ _ _ _ _ _ NU.ok (hr.mono (by omega)) (by show _=_;kernel_rfl) NU.at' NU.kp NU.bd .nil pass0 (pa_c (va nm_L_case 0) pa_nil) (by decide) (by rfl) (by rfl)) pa_nil (by rfl)) (by rfl))) pa_nil (by rfl)) (by rfl)) (by rfl))) pa_nil (by rfl))) (by rfl) (by kernel_rfl) (by exact .inl rfl)) (@pss_cons _ _ _ _ _ (@ps_asg _ _ _ _ _ _ (@pe_call _ _ _ _ _ _ _ _ _ _ _ _ _ _ _ _ WP.ok (hr.mono (by omega)) (by show _=_;kernel_rfl) WP.at' WP.kp WP.bd .nil pass0 (@pa_c _ _ _ _ _ (va nm_L_case 0) (@pa_c _ _ _ _ _ (va nm_L_case 1) (@pa_c _ _ _ _ _ (@pe_call _ _ _ _ _ _ _ _ _ _ _ _ _ _ _ _ CR.ok (hr.mono (by omega)) (by show _=_;kernel_rfl) CR.at' CR.kp CR.bd .nil pass0 (@pa_c _ _ _ _ _ (va nm_L_case 0) (pa_c (va nm_L_case 1) pa_nil) (by rfl)) (by decide) (by rfl) (by rfl)) (pa_c pe_bl pa_nil) (by rfl)) (by rfl)) (by rfl)) (by decide) (by rfl) (by rfl)) (@pg_tupK _ _ _ _ _ (2) K rfl rfl (@pgs_cons _ _ _ _ _ (ga sc_L_case.nd lm_L_case 4) (pgs_cons (ga sc_L_case.nd lm_L_case 5) pgs_nil) (by rfl)) (by rfl) (by rfl)) (by rfl) (by rfl) (by rfl)) (@pss_cons _ _ _ _ _ (@ps_if _ _ _ _ _ _ _ _ (@pt_cmpR _ _ _ _ _ _ _ _ op_eq (@pe_call _ _ _ _ _ _ _ _ _ _ _ _ _ _ _ _ TK.ok (hr.mono (by omega)) (by show _=_;kernel_rfl) TK.at' TK.kp TK.bd .nil pass0 (pa_c (va nm_L_case 0) (pa_c pe_int pa_nil)) (by decide) (by rfl) (by rfl)) pe_int (nomark _)) (@pss_cons _ _ _ _ _ (@ps_expr _ _ _ _ (@pe_bm _ _ _ _ _ _ _ _ _ _ _ _ PySem.F.plainAttrs_list PySem.F.slot_list_append PySem.F.type_list_append mt_append (va nm_L_case 3) (@pa_c _ _ _ _ _ (@pe_tup _ _ _ _ _ (@pa_c _ _ _ _ _ (pe_ix ix_list (va nm_L_case 2) pe_int (fun _ _=>rfl)) (@pa_c _ _ _ _ _ (pe_tup pa_nil) (pa_c (va nm_L_case 4) pa_nil) (by rfl)) (by rfl))) pa_nil (by rfl)) (by rfl) (by rfl) (by rfl) (by rfl) (by rfl)) (by rfl)) (@pss_one _ _ _ (@ps_asg _ _ _ _ _ _ (@pe_call _ _ _ _ _ _ _ _ _ _ _ _ _ _ _ _ WP.ok (hr.mono (by omega)) (by show _=_;kernel_rfl) WP.at' WP.kp WP.bd .nil pass0 (@pa_c _ _ _ _ _ (va nm_L_case 0) (@pa_c _ _ _ _ _ (va nm_L_case 1) (@pa_c _ _ _ _ _ (@pe_tup _ _ _ _ _ (@pa_c _ _ _ _ _ pe_str (@pa_c _ _ _ _ _ (pe_ix ix_list (va nm_L_case 2) pe_int (fun _ _=>rfl)) (pa_c (pe_tup pa_nil) pa_nil) (by rfl)) (by rfl))) (pa_c (va nm_L_case 5) pa_nil) (by rfl)) (by rfl)) (by rfl)) (by decide) (by rfl) (by rfl)) (@pg_tupK _ _ _ _ _ (2) K rfl rfl (@pgs_cons _ _ _ _ _ (ga sc_L_case.nd lm_L_case 4) (pgs_cons (ga sc_L_case.nd lm_L_case 5) pgs_nil) (by rfl)) (by rfl) (by rfl)) (by rfl) (by rfl) (by rfl)))) pss_nil) pss_blk))))),?_⟩
 fail "R"
 intro d hd
 have s1:=same_new hd (.dK [])
 have hf1:=feed_same hf s1
 have hd1:upd H d (.dK []) d=some (.dK []):=upd_same
 generalize upd H d (.dK [])=H1 at s1 hf1 hd1 ⊢
 fail "R"
 intro ln H2 xs x2 nln hln lx0 hx un
 have lx:xs.length=(10:Nat):=lx0
 clear lx0
 have ndf:d≠f2:=fun z=>by obtain ⟨p,q,e⟩:=hf;rw [←z,hd] at e;cases e
 have hd2:=x2.1 d _ ndf hd1
 fail "R"
 ·exact (show _=(scK 0 ln).map (fun kv=>(kV kv.1,kv.2)) from rfl)
 refine ⟨by show 2<=15;decide,?_⟩
 rw [mg_scK]
 have hs0:Sc (upd H2 d (.dK (scK 0 ln))) f2 d ln xs 0:=by
  obtain ⟨p,q,e⟩:=x2.2
  exact ⟨⟨p,q,by rw [upd_ne ndf.symm];exact e⟩,upd_same,by rw [upd_ne (ne_of hln hd2 (fun z=>nomatch z))];exact hln⟩
 have cg0:∀ b u,b≠f2->H b=some u->upd H2 d (.dK (scK 0 ln)) b=some u:=fun b u n e=>by
  rw [upd_ne (ne_of_none e hd)]
  exact x2.1 b u n (s1 b u e)
 generalize upd H2 d (.dK (scK 0 ln))=H3 at hs0 cg0 ⊢
 clear s1 hf1 hd1 x2 hln hd2 nln
 have dg:=hs0.g.2
 have hn3:=hs0.hn
 have hf3:=hs0.hf
 have i5:atI (xs.map V.str) 5=some (.str (wf xs 5)):=ix_wf (i:=5) (by omega)
 have i6:atI (xs.map V.str) 6=some (.str (wf xs 6)):=ix_wf (i:=6) (by omega)
 have i7:atI (xs.map V.str) 7=some (.str (wf xs 7)):=ix_wf (i:=7) (by omega)
 have i8:atI (xs.map V.str) 8=some (.str (wf xs 8)):=ix_wf (i:=8) (by omega)
 fail "R"
 intro p1 hp1
 have hn4:=same_new hp1 (.tup [.str (wf xs 6),.str "num"]) _ _ hn3
 have r1:Rp K (upd H3 p1 (.tup [.str (wf xs 6),.str "num"])) (pT (wf xs 6,.s "num")) (.ref p1):=Rp.new (K:=K) hp1 (.cons .s (.one .s))
 fail "R"
 intro p2 hp2
 have r2:Rp K (upd (upd H3 p1 (.tup [.str (wf xs 6),.str "num"])) p2 (.tup [.str (wf xs 7),.str "num"])) (pT (wf xs 7,.s "num")) (.ref p2):=Rp.new (K:=K) hp2 (.cons .s (.one .s))
 fail "R"
 intro p3 hp3
 have r3:Rp K (upd (upd (upd H3 p1 (.tup [.str (wf xs 6),.str "num"])) p2 (.tup [.str (wf xs 7),.str "num"])) p3 (.tup [.ref p1,.ref p2])) (.t [pT (wf xs 6,.s "num"),pT (wf xs 7,.s "num")]) (.ref p3):=Rp.new (K:=K) hp3 (.cons (r1.same (same_new hp2 _)) (.one r2))
 have s4:Same H3 (upd (upd (upd H3 p1 (.tup [.str (wf xs 6),.str "num"])) p2 (.tup [.str (wf xs 7),.str "num"])) p3 (.tup [.ref p1,.ref p2])):=((same_new hp1 _).trans (same_new hp2 _)).trans (same_new hp3 _)
 generalize upd (upd (upd H3 p1 (.tup [.str (wf xs 6),.str "num"])) p2 (.tup [.str (wf xs 7),.str "num"])) p3 (.tup [.ref p1,.ref p2])=H4 at r3 s4 ⊢
 have hs4:=hs0.same s4
 have cg4:Cg f2 d H3 H4:=Cg.same s4
 clear r1 r2 hn4 hp1 hp2 hp3 s4
 have hf4:=hs4.hf
 fail "R"
 intro m H5 m0 m1 x5
 have hs5:=hs4.ext x5
 have r5:=r3.kt (x5.kt hf4)
 fail "R"
 intro p4 hp4
 have r6:Rp K (upd H5 p4 (.tup [.str "num",.int m])) (numT m) (.ref p4):=Rp.new (K:=K) hp4 (.cons .s (.one .i))
 fail "R"
 intro p5 hp5
 have r7:Rp K (upd (upd H5 p4 (.tup [.str "num",.int m])) p5 (.tup [.str (wf xs 5),.ref p3,.ref p4])) (defT (d5 (wf xs) m)) (.ref p5):=Rp.new (K:=K) hp5 (.cons .s (.cons (r5.same (same_new hp4 _)) (.one r6)))
 fail "R"
 intro ld hld
 have nld0:H ld=none:=by
  have s67:Same H5 (upd (upd H5 p4 (.tup [.str "num",.int m])) p5 (.tup [.str (wf xs 5),.ref p3,.ref p4])):=(same_new hp4 _).trans (same_new hp5 _)
  have h67:=hs5.same s67
  have nf:ld≠f2:=fun z=>by obtain ⟨p,q,e⟩:=h67.hf;rw [←z,hld] at e;cases e
  have nd:ld≠d:=fun z=>by have e:=h67.hd;rw [←z,hld] at e;cases e
  cases q:H ld with
  | none=>rfl
  | some u=>rw [s67 _ _ (x5.1 ld u nf (cg4 ld u nf nd (cg0 ld u nf q)))] at hld;cases hld
 have s8:Same H5 (upd (upd (upd H5 p4 (.tup [.str "num",.int m])) p5 (.tup [.str (wf xs 5),.ref p3,.ref p4])) ld (.lst [.ref p5])):=((same_new hp4 _).trans (same_new hp5 _)).trans (same_new hld _)
 have r8:=r7.same (same_new hld (.lst [.ref p5]))
 have e8:upd (upd (upd H5 p4 (.tup [.str "num",.int m])) p5 (.tup [.str (wf xs 5),.ref p3,.ref p4])) ld (.lst [.ref p5]) ld=some (.lst [.ref p5]):=upd_same
 generalize upd (upd (upd H5 p4 (.tup [.str "num",.int m])) p5 (.tup [.str (wf xs 5),.ref p3,.ref p4])) ld (.lst [.ref p5])=H8 at s8 r8 e8 ⊢
 have hs8:=hs5.same s8
 have cg8:Cg f2 d H3 H8:=(cg4.trans (Cg.ext x5)).trans (Cg.same s8)
 clear r3 r5 r6 r7 hp4 hp5 s8 cg4 x5 hs4 hs5 hf4
 fail "R"
 intro H9 v9 t0 n9 c9 hs9 hn9 C0 r9
 obtain ⟨nl1,nl2,nl3⟩:=ne_ld hs8 e8
 have e9:=c9 ld _ nl1 nl2 e8
 have r9':=r8.kt (hs8.kt c9)
 have cg9:=cg8.trans c9
 clear hs8 e8 r8 c9 cg8 hs0
 fail "R"
 intro HA pA vA t1 g1 nA jA cA hsA hnA hjA W1 eA rA
 have eA':=cA ld _ nl1 nl2 e9
 have rA':=r9'.kt (hs9.kt cA)
 have cgA:=cg9.trans cA
 clear hs9 e9 r9' r9 cg9 cA hn9
 have hfA:=hsA.hf
 fail "R"
 intro y HB y0 y2 xB
 have hsB:=hsA.ext xB
 have eB:=xB.1 ld _ nl1 eA'
 have kB:=xB.kt hfA
 have rB:=rA'.kt kB
 have rtB:=rA.kt kB
 have cgB:=cgA.trans (Cg.ext xB)
 clear hsA eA' rA' rA cgA eA hfA xB kB
 have hnB:=hsB.hn
 have ext:∀ {H':Hp},(∀ b u,b≠f2->b≠d->b≠ld->H3 b=some u->H' b=some u)->FeedAt H' f2->Ext f2 H H':=fun {H'} c hf'=>⟨fun b u n e=>c b u n (ne_of_none e hd) (ne_of_none e nld0) (cg0 b u n e),hf'⟩
 fail "R"
 refine ite2 (fun c=>?_) (fun c=>?_)
 ·clear c
  fail "R"
  intro q1 hq1
  have hnC:=same_new hq1 (.tup []) _ _ hnB
  have rC1:Rp K (upd HB q1 (.tup [])) (.t []) (.ref q1):=Rp.new (K:=K) hq1 .nil
  fail "R"
  intro q2 hq2
  have sC:Same HB (upd (upd HB q1 (.tup [])) q2 (.tup [.str (wf xs 8),.ref q1,vA])):=(same_new hq1 _).trans (same_new hq2 _)
  have rC:Rp K (upd (upd HB q1 (.tup [])) q2 (.tup [.str (wf xs 8),.ref q1,vA])) (defT (wf xs 8,[],enc t1)) (.ref q2):=Rp.new (K:=K) hq2 (.cons .s (.cons rC1 (.one (rtB.same (same_new hq1 _)))))
  generalize upd (upd HB q1 (.tup [])) q2 (.tup [.str (wf xs 8),.ref q1,vA])=HC at sC rC ⊢
  have hsC:=hsB.same sC
  have eC:=sC _ _ eB
  have rC5:=rB.same sC
  have cgC:=cgB.trans (Cg.same sC)
  clear rC1 hnC hq1 hq2 sC hsB eB rB rtB cgB hnB
  have kD:Kt HC (upd HC ld (.lst ([.ref p5]++[.ref q2]))):=Kt.lst eC _
  have hsD:Sc (upd HC ld (.lst ([.ref p5]++[.ref q2]))) f2 d ln xs nA:=by
   obtain ⟨p,q,e⟩:=hsC.hf
   exact ⟨⟨p,q,by rw [upd_ne nl1.symm];exact e⟩,by rw [upd_ne nl2.symm];exact hsC.hd,by rw [upd_ne nl3.symm];exact hsC.hn⟩
  have eD:upd HC ld (.lst ([.ref p5]++[.ref q2])) ld=some (.lst [.ref p5,.ref q2]):=upd_same
  have rD:=rC.kt kD
  have rD5:=rC5.kt kD
  have cgD:∀ b u,b≠f2->b≠d->b≠ld->H3 b=some u->upd HC ld (.lst ([.ref p5]++[.ref q2])) b=some u:=fun b u n1 n2 n3 e=>by rw [upd_ne n3];exact cgC b u n1 n2 e
  have hnD:=hsD.hn
  fail "R"
  generalize upd HC ld (.lst ([.ref p5]++[.ref q2]))=HD at kD hsD eD rD rD5 cgD hnD ⊢
  clear rC rC5 kD eC cgC hsC
  fail "R"
  intro q3 hq3
  have hnE:=same_new hq3 (.tup []) _ _ hnD
  have rE1:Rp K (upd HD q3 (.tup [])) (.t []) (.ref q3):=Rp.new (K:=K) hq3 .nil
  fail "R"
  intro q4 hq4
  have sE:Same HD (upd (upd HD q3 (.tup [])) q4 (.tup [.str "call",.str (wf xs 8),.ref q3])):=(same_new hq3 _).trans (same_new hq4 _)
  have rE:Rp K (upd (upd HD q3 (.tup [])) q4 (.tup [.str "call",.str (wf xs 8),.ref q3])) (enc (.mk (.call (wf xs 8)) [])) (.ref q4):=by rw [e_call];exact Rp.new (K:=K) hq4 (.cons .s (.cons .s (.one rE1)))
  generalize upd (upd HD q3 (.tup [])) q4 (.tup [.str "call",.str (wf xs 8),.ref q3])=HE at sE rE ⊢
  have hsE:=hsD.same sE
  have eE:=sE _ _ eD
  have rE8:=rD.same sE
  have rE5:=rD5.same sE
  have cgE:∀ b u,b≠f2->b≠d->b≠ld->H3 b=some u->HE b=some u:=fun b u n1 n2 n3 e=>sE b u (cgD b u n1 n2 n3 e)
  clear rE1 hnE hq3 hq4 sE hsD eD rD rD5 cgD hnD
  fail "R"
  intro HF pF vF t2 g2 nF jF cF hsF hnF hjF W2 eF rF
  have kF:=hsE.kt cF
  have eF':=cF ld _ nl1 nl2 eE
  have rF8:=rE8.kt kF
  have rF5:=rE5.kt kF
  fail "R"
  refine case_tail (ds:=[d5 (wf xs) m,(wf xs 8,[],enc t1)]) z_tuple hr lx hsF.hn eF' (.cons rF5 (.one rF8)) (by simp) rF fun H' p v' sG e r=>?_
  exact k H' p v' _ _ _ g2 (ext (fun b u n1 n2 n3 e=>sG b u (cF b u n1 n2 (cgE b u n1 n2 n3 e))) (feed_same hsF.hf sG)) e r (fate2 lx hx un ⟨m0,m1⟩ C0 W1 hjA W2 hjF)
 ·clear c
  fail "R"
  refine case_tail (ds:=[d5 (wf xs) m]) z_tuple hr lx hsB.hn eB (.one rB) (by simp) rtB fun H' p v' sF e r=>?_
  exact k H' p v' _ _ _ g1 (ext (fun b u n1 n2 _ e=>(cgB.trans (Cg.same sF)) b u n1 n2 e) (feed_same hsB.hf sF)) e r (fate1 lx hx un ⟨m0,m1⟩ C0 W1 hjA)
end
end G28
namespace G28
open PySem L2
def spLaw (K:PySem.W.Frag):Sp:=fun vs H Q _=>∃ (a:Addr) (ns:List Int),vs=[.ref a]/\SqL K H a (ns.map V.int)/\ns.length<=63/\∀ H',Q (.bl true) H'
@[irreducible] def spRunI (K:PySem.W.Frag):Sp:=spRun K
theorem spRunI_mk {K:PySem.W.Frag}{vs:List V}{H:Hp}{Q:VK}{E:XK}(h:spRun K vs H Q E):spRunI K vs H Q E:=by unfold spRunI;exact h
theorem spRunI_of {K:PySem.W.Frag}{vs:List V}{H:Hp}{Q:VK}{E:XK}(h:spRunI K vs H Q E):spRun K vs H Q E:=by unfold spRunI at h;exact h
theorem ok_runI {P:Program}{w:World}{K:PySem.W.Frag}{mg:Str->Option Value}{base:Heap}{f:Addr}{fd:FuncData}{n:Nat}{ps:List Str}(h:FnOk P w K mg base CX0 n f fd ps (spRun K)):FnOk P w K mg base CX0 n f fd ps (spRunI K) :=
 ⟨fun vs H Q E x=>h.len _ _ _ _ (spRunI_of x),fun A outer s H args us vs Q E hr he hb hv x=>h.run A outer s H args us vs Q E hr he hb hv (spRunI_of x)⟩
structure CsAt (K:PySem.W.Frag) (H:Hp) (x:V):Prop where
 ex:∃ (p:Addr) (v:V) (kd:T) (ds:List Def) (d:Def) (g:Bool),x=.ref p/\SqT K H p [v,.bl g]/\Rp K H (progT kd (ds++[d])) v/\Fate kd ds d g
theorem CsAt.kt {K:PySem.W.Frag}{H H':Hp}{x:V}(h:CsAt K H x)(k:Kt H H'):CsAt K H' x:=by
 obtain ⟨p,v,kd,ds,d,g,e,sq,r,f⟩:=h.ex
 exact ⟨p,v,kd,ds,d,g,e,sq.kt k,r.kt k,f⟩
section
variable {P : Program} {w : World} {K : PySem.W.Frag} {mg : Str → Option Value} {base : Heap} {gF gC gR : Addr} {ffd cfd rfd : FuncData}
theorem nm_law:Nm ["_law_script","_law_some","_law_program","_law_goes","_law_kept","_law_found"] (defScope s_law):=by decide +kernel
theorem lm_law:Lm ["_law_script","_law_some","_law_program","_law_goes","_law_kept","_law_found"] (defScope s_law):=by decide +kernel
theorem sc_law:FnScope ["_law_script","_law_some","_law_program","_law_goes","_law_kept","_law_found"] ["_law_script"] (defScope s_law):=⟨rfl,rfl,rfl,by decide +kernel,rfl,by decide +kernel,by decide +kernel⟩
theorem ok_law {f:Addr}{fd:FuncData}(F:Fun K "law" "law" s_law f fd)(FD:Has P w K mg base "_law_feed" 1 ["_law_script","_law_k"] (spFeed K) gF ffd)(CA:Has P w K mg base "_law_case" 7 ["_law_feed_here"] (spCase K) gC cfd)(RU:Has P w K mg base "run" 7 ["program","inputs","most"] (spRunI K) gR rfd)(z_range:mg "range"=none)(z_repr:mg "repr"=none):FnOk P w K mg base CX0 8 f fd ["_law_script"] (spLaw K):=by
 refine F.ok sc_law (fun vs H Q E h=>?_) (fun cdv A outer s H vs Q E hr h=>?_)
 ·obtain ⟨a,ns,rfl,_⟩:=h
  rfl
 obtain ⟨a,ns,rfl,hS,hn,k⟩:=h
 refine ⟨_,(@pss_cons _ _ _ _ _ (@ps_compC _ _ _ _ _ _ _ _ _ _ _ _ _ _ _ (defScope s_law) ["_law_script","_law_some","_law_program","_law_goes","_law_kept","_law_found"] ["_law_k"] [0] rfl rfl rfl (by decide +kernel) (pi_range1 (by show _=_;kernel_rfl) z_range (pa_c pe_int pa_nil)) (fun _ _ _ _=>(pg_name (i:=0) (show (["_law_k","_law_script"]:List Str).Nodup by decide +kernel) rfl (Or.inl (by kernel_rfl)) (by first | exact .inl rfl | exact .inr (by kernel_rfl)))) (fun _ _ _ _=>pifs_nil) (fun _ _ _ _=>(@pe_call _ _ _ _ _ _ _ _ _ _ _ _ _ _ _ _ CA.ok (hr.mono (by omega)) (by show _=_;kernel_rfl) CA.at' CA.kp CA.bd .nil pass0 (@pa_c _ _ _ _ _ (@pe_call _ _ _ _ _ _ _ _ _ _ _ _ _ _ _ _ FD.ok (hr.mono (by omega)) (by show _=_;kernel_rfl) FD.at' FD.kp FD.bd .nil pass0 (@pa_c _ _ _ _ _ (va (show Nm ["_law_k","_law_script"] _ by show _=_;kernel_rfl) 1) (pa_c (va (show Nm ["_law_k","_law_script"] _ by show _=_;kernel_rfl) 0) pa_nil) (by rfl)) (by decide) (by rfl) (by rfl)) pa_nil (by rfl)) (by decide) (by rfl) (by rfl))) (ga sc_law.nd lm_law 1) (by kernel_rfl) (by intro _;rfl)) (@pss_cons _ _ _ _ _ (@ps_for _ _ _ _ _ _ _ _ PassesOwn.never rfl (@pi_list _ _ _ _ (@pe_op _ _ _ _ _ _ _ _ op_cat (va nm_law 1) (pe_slice sl_list (va nm_law 1) po_none (po_some pe_int)))) (@pg_tupK _ _ _ _ _ (2) K rfl rfl (@pgs_cons _ _ _ _ _ (ga sc_law.nd lm_law 2) (pgs_cons (ga sc_law.nd lm_law 3) pgs_nil) (by rfl)) (by rfl) (by rfl)) (@pss_cons _ _ _ _ _ (@sa _ _ _ _ _ _ sc_law.nd lm_law 4 (@pe_callB _ _ _ _ _ _ _ _ _ (call_reprI hr.gd hr.u150) (by show _=_;kernel_rfl) z_repr PyProof.Rows.boot_repr (pa_c (va nm_law 2) pa_nil) (by decide) (by decide) (by rfl) (by rfl)) (by rfl) (by kernel_rfl) (by exact .inl rfl)) (@pss_cons _ _ _ _ _ (@sa _ _ _ _ _ _ sc_law.nd lm_law 5 (@pe_call _ _ _ _ _ _ _ _ _ _ _ _ _ _ _ _ RU.ok (hr.mono (by omega)) (by show _=_;kernel_rfl) RU.at' RU.kp RU.bd .nil pass0 (@pa_c _ _ _ _ _ (va nm_law 2) (pa_c (pe_tup pa_nil) (pa_c pe_int pa_nil)) (by rfl)) (by decide) (by rfl) (by rfl)) (by rfl) (by kernel_rfl) (by exact .inl rfl)) (@pss_one _ _ _ (@ps_if _ _ _ _ _ _ _ _ (PW.pt (@pw_or _ _ _ _ _ _ _ (PW.pt (@pw_and _ _ _ _ _ _ _ (pt_val (va nm_law 3)) (@pw_and1 _ _ _ _ (@pt_cmpR _ _ _ _ _ _ _ _ (op_neT hr.u150) (va nm_law 5) (pe_tup (pa_c pe_str pa_nil)) (nomark _))))) (@pw_or _ _ _ _ _ _ _ (PW.pt (@pw_and _ _ _ _ _ _ _ (@pt_not _ _ _ _ (pt_val (va nm_law 3))) (@pw_and1 _ _ _ _ (@pt_cmpR _ _ _ _ _ _ _ _ op_ne (pe_ix ix_tup (va nm_law 5) pe_int (fun _ _=>rfl)) pe_str (nomark _))))) (@pw_or1 _ _ _ _ (@pt_cmpR _ _ _ _ _ _ _ _ op_ne (@pe_callB _ _ _ _ _ _ _ _ _ (call_reprI hr.gd hr.u150) (by show _=_;kernel_rfl) z_repr PyProof.Rows.boot_repr (pa_c (va nm_law 2) pa_nil) (by decide) (by decide) (by rfl) (by rfl)) (va nm_law 4) (nomark _)))))) (pss_one (ps_ret pe_bl)) pss_nil)))) (by intro _;rfl)) (pss_one (ps_ret pe_bl)))),?_⟩
 fail "R"
 refine comp_range (n:=4) (fun i σ us Hc=>(∃ x,σ=[x,some (.ref a)])/\Same H Hc/\us.length=i/\∀ u∈us,CsAt K Hc u) ⟨⟨_,rfl⟩,Same.refl _,rfl,fun _ h=>nomatch h⟩ ?_ (small (by decide)) ?_ ?_
 ·rintro i σ us Hc _ ⟨_,_,h,_⟩
  exact Nat.le_of_eq h
 ·rintro i σ us Hc hi ⟨⟨x,rfl⟩,sc,hl,hu⟩
  have hSc:=sc.seq hS
  fail "R"
  intro r H1 s1 nr hf1
  fail "R"
  intro H2 p v kd ds d g x2 e2 r2 F2
  have s2:Same Hc H2:=fun b u e=>x2.1 b u (ne_of_none e nr) (s1 b u e)
  refine ⟨⟨_,rfl⟩,sc.trans s2,by rw [List.length_append,hl];rfl,fun u hu'=>?_⟩
  rcases List.mem_append.mp hu' with h | h
  ·exact (hu u h).kt (Kt.same s2)
  ·rw [List.mem_singleton.mp h]
   exact ⟨p,v,kd,ds,d,g,rfl,SqT.of e2,r2,F2⟩
 ·rintro σ us Hc ⟨_,sc,hl,hu⟩ p1 hp1
  have e1:upd Hc p1 (.lst us) p1=some (.lst us):=upd_same
  have hu1:∀ u∈us,CsAt K (upd Hc p1 (.lst us)) u:=fun u h=>(hu u h).kt (Kt.same (same_new hp1 _))
  generalize upd Hc p1 (.lst us)=H1 at e1 hu1 ⊢
  clear sc hp1 hu
  fail "R"
  intro p2 hp2
  rw [show (some (1:Int))=some ((1:Nat):Int) from rfl,cut_take]
  have s2:=same_new hp2 (.lst (us.take 1))
  have e2:=s2 _ _ e1
  have e2':upd H1 p2 (.lst (us.take 1)) p2=some (.lst (us.take 1)):=upd_same
  have hu2:∀ u∈us,CsAt K (upd H1 p2 (.lst (us.take 1))) u:=fun u h=>(hu1 u h).kt (Kt.same s2)
  generalize upd H1 p2 (.lst (us.take 1))=H2 at s2 e2 e2' hu2 ⊢
  have ll:us.length + (us.take 1).length<=sizeLine:=small (by rw [List.length_take];omega)
  fail "R"
  intro p3 hp3
  have e3:upd H2 p3 (.lst (us++us.take 1)) p3=some (.lst (us++us.take 1)):=upd_same
  have hu3:∀ u∈us++us.take 1,CsAt K (upd H2 p3 (.lst (us++us.take 1))) u:=fun u h=>by
   have:u∈us:=by
    rcases List.mem_append.mp h with h | h
    ·exact h
    ·exact List.mem_of_mem_take h
   exact (hu2 u this).kt (Kt.same (same_new hp3 _))
  generalize upd H2 p3 (.lst (us++us.take 1))=H3 at e3 hu3 ⊢
  generalize us++us.take 1=ws at e3 hu3
  clear s2 e2 e2' hu2 ll hp2 hp3 e1 hu1
  fail "R"
  refine for_list (xs:=ws) (fun i σ Hi=>(∃ x1 x2 x3 x4 x5,σ=[some (.ref a),x1,x2,x3,x4,x5])/\Same H3 Hi) ⟨⟨_,_,_,_,_,rfl⟩,Same.refl _⟩ ?_ ?_ ?_
  ·rintro i σ Hi _ ⟨_,sm⟩
   exact SqL.of (sm _ _ e3)
  ·rintro i x σ Hi hx ⟨⟨x1,x2,x3,x4,x5,rfl⟩,sm⟩
   obtain ⟨p,v,kd,ds,d,g,rfl,sq,rp,F⟩:=(hu3 x (List.mem_of_getElem? hx)).ex
   have sqi:=sq.kt (Kt.same sm)
   have rpi:=rp.same sm
   have sh:=F.sh
   obtain ⟨n9,fin,R,f1,f2⟩:=F.run
   fail "R"
   intro q hq
   have s4:=same_new hq (.tup [])
   have rp4:=rpi.same s4
   have sq4:SqT K (upd Hi q (.tup [])) q []:=SqT.of upd_same
   generalize upd Hi q (.tup [])=H4 at s4 rp4 sq4 ⊢
   have R':Runs ((ds++[d]).map dOf) n9 ⟨0,false,[],[],[termT d.2.2 (arT (boundE [] (d.2.1.map (·.1)) []))]⟩ fin:=by rw [F.ps];exact R
   fail "R"
   refine spRunI_mk ⟨v,q,true,kd,ds,d,[],[],fin,n9,rfl,rp4,sq4,.nil,by rw [F.ps];rfl,F.dl,F.pl,R',f1,fun H5 u s5 ru=>?_⟩
   have rp5:=rp4.same s5
   have sm5:=sm.trans (s4.trans s5)
   clear R R' sq4 rp4 s4 s5 sqi rpi sq rp hu3 RU CA FD
   cases g with
   | true =>
    have ru':Rp K H5 (.t [.s "fault"]) u:=by unfold resT at ru;rw [if_pos f2] at ru;exact ru
    clear ru f1 f2
    fail "R"
    intro q2 hq2
    have s6:=same_new hq2 (.tup [.str "fault"])
    have r6:Rp K (upd H5 q2 (.tup [.str "fault"])) (.t [.s "fault"]) (.ref q2):=Rp.new (K:=K) hq2 (.one .s)
    have r6':=ru'.same s6
    have rp6:=rp5.same s6
    generalize upd H5 q2 (.tup [.str "fault"])=H6 at s6 r6 r6' rp6 ⊢
    refine ⟨_,_,r6',r6,by decide,?_⟩
    rw [show (!decide (T.t [T.s "fault"]=T.t [T.s "fault"]))=false by rw [decide_eq_true rfl];rfl]
    fail "R"
    refine ite2 (fun c=>absurd c (by rw [decide_eq_true rfl];decide)) (fun c=>?_)
    exact ⟨⟨_,_,_,_,_,rfl⟩,sm5.trans s6⟩
   | false =>
    have ru':Rp K H5 (.t [.s "sheet",.t [fin.told.headD .n,.t fin.rows],.i fin.many]) u:=by unfold resT at ru;rw [if_neg (by rw [f2];decide)] at ru;exact ru
    clear ru f1 f2
    obtain ⟨pu,us',rfl,squ,ru0,_⟩:=Rp.hd ru'
    fail "R"
    refine ite2 (fun c=>absurd c (by rw [decide_eq_true rfl];decide)) (fun c=>?_)
    exact ⟨⟨_,_,_,_,_,rfl⟩,sm5⟩
  ·rintro σ Hi ⟨⟨x1,x2,x3,x4,x5,rfl⟩,sm⟩
   fail "R"
   exact k _
end
end G28
namespace G28
open PySem L2 PySem.W
structure FnAt (K:Frag) (x qual:Str) (st:Stmt) (f:Addr) (fd:FuncData):Prop where
 ex:∃ (od:Option Addr) (kV doc pm:Value) (an:Option Addr) (cdv ct:Value) (osl:Array (Option Value)),
  fd=fnOf x qual (defArgs st) (defBody st) (defScope st) .none kV doc pm an cdv ct/\K.lookup f=some ⟨.type "function",od,.func fd,osl⟩/\codeIn K cdv qual=true
 kp:keepIn K (.ref f)=true
theorem FnAt.f {K:Frag}{x qual:Str}{st:Stmt}{f:Addr}{fd:FuncData}(F:FnAt K x qual st f fd):Fun K x qual st f fd:=by
 obtain ⟨od,kV,doc,pm,an,cdv,ct,osl,e,l,c⟩:=F.ex
 exact ⟨⟨_,od,kV,doc,pm,an,cdv,ct,osl,e,l,c⟩,F.kp⟩
theorem fnAt_mk {K:Frag}{x qual:Str}{st:Stmt}{f:Addr}{od an:Option Addr}{osl:Array (Option Value)}{kV doc pm cdv ct:Value}(l:K.lookup f=some ⟨.type "function",od,.func (fnOf x qual (defArgs st) (defBody st) (defScope st) .none kV doc pm an cdv ct),osl⟩)
  (c:codeIn K cdv qual=true) (k:keepIn K (.ref f)=true):FnAt K x qual st f (fnOf x qual (defArgs st) (defBody st) (defScope st) .none kV doc pm an cdv ct):=⟨⟨od,kV,doc,pm,an,cdv,ct,osl,rfl,l,c⟩,k⟩
def tupB (K:Frag)(a:Addr)(ns:List Nat):Bool:=match K.lookup a with
 | some ⟨.type "tuple",none,.seq its _,_⟩=>its.toList.length == ns.length && (its.toList.zip ns).all (fun p=>match p.1 with | .int i _=>i == (p.2:Int) | _=>false)
 | _=>false
theorem tupB_T {K:Frag}{a:Addr}{ns:List Nat}(h:tupB K a ns=true)(hn:ns.length<=10):∀ H,SqT K H a (ns.map fun (j:Nat)=>V.int (j:Int)):=by
 intro H
 unfold tupB at h
 split at h
 ·rename_i its n sl e
  rw [Bool.and_eq_true] at h
  obtain ⟨h1,h2⟩:=h
  replace h1:=eq_of_beq h1
  have hz:its.size<=sizeLine:=by
   have z:its.toList.length=its.size:=by simp
   exact small (by omega)
  refine .inr ⟨_,its,n,e,rfl,rfl,hz,?_,rfl⟩
  clear hz e
  generalize its.toList=l at h1 h2
  clear hn
  induction l generalizing ns with
  | nil=>cases ns with
   | nil=>exact .nil
   | cons _ _=>simp at h1
  | cons v r ih =>
   cases ns with
   | nil=>simp at h1
   | cons m q =>
    rw [List.zip_cons_cons,List.all_cons,Bool.and_eq_true] at h2
    obtain ⟨h3,h4⟩:=h2
    refine .cons ?_ (ih (by simpa using h1) h4)
    split at h3
    ·rename_i i t e'
     have:i=(m:Int):=eq_of_beq h3
     subst this
     exact ⟨t,e'⟩
    ·cases h3
 ·cases h
theorem all_mk {l:OpenLaw}{w:World}{K:Frag}{h:Heap}{mg:Str->Option Value}{g1 g2 g3 g4 g5 g6 g7 g8 g9 g10 g11 g12 g13 g14 g15 g16 g17 g18 g19 g20 g21 g22 g23 g24 g25 g26 g27 g28 g29 g30 g31 g32 m1 m2 m3 m4 m5 m6 C fa dP dM dD dT t0 t1 t2 t3 t4 t5 t6 t7 t8:Addr}{e1 e2 e3 e4 e5 e6 e7 e8 e9 e10 e11 e12 e13 e14 e15 e16 e17 e18 e19 e20 e21 e22 e23 e24 e25 e26 e27 e28 e29 e30 e31 e32 d1 d2 d3 d4 d5 d6:FuncData}{esP esM esD esT:Array DictEntry}{nP nM nD nT:Nat}{tkW:Tok}(X:K.In h)(G:h.Ns mainGlobals mg)(hfa:mg "law"=some (.ref fa))
  (a1:nsIn K mainGlobals "right_in"=some (some (.ref g1)))
  (a2:nsIn K mainGlobals "inner_terms"=some (some (.ref g2)))
  (a3:nsIn K mainGlobals "bound_to"=some (some (.ref g3)))
  (a4:nsIn K mainGlobals "is_left"=some (some (.ref g4)))
  (a5:nsIn K mainGlobals "op_number"=some (some (.ref g5)))
  (a6:nsIn K mainGlobals "do_gap"=some (some (.ref g6)))
  (a7:nsIn K mainGlobals "do_op"=some (some (.ref g7)))
  (a8:nsIn K mainGlobals "do_more"=some (some (.ref g8)))
  (a9:nsIn K mainGlobals "do_first"=some (some (.ref g9)))
  (a10:nsIn K mainGlobals "do_long"=some (some (.ref g10)))
  (a11:nsIn K mainGlobals "do_match"=some (some (.ref g11)))
  (a12:nsIn K mainGlobals "do_if"=some (some (.ref g12)))
  (a13:nsIn K mainGlobals "do_fold"=some (some (.ref g13)))
  (a14:nsIn K mainGlobals "do_row"=some (some (.ref g14)))
  (a15:nsIn K mainGlobals "go_round"=some (some (.ref g15)))
  (a16:nsIn K mainGlobals "told_ahead"=some (some (.ref g16)))
  (a17:nsIn K mainGlobals "begin_term"=some (some (.ref g17)))
  (a18:nsIn K mainGlobals "row_of_term"=some (some (.ref g18)))
  (a19:nsIn K mainGlobals "end_term"=some (some (.ref g19)))
  (a20:nsIn K mainGlobals "finish"=some (some (.ref g20)))
  (a21:nsIn K mainGlobals "run"=some (some (.ref g21)))
  (a22:nsIn K mainGlobals "_law_feed"=some (some (.ref g22)))
  (a23:nsIn K mainGlobals "_law_take"=some (some (.ref g23)))
  (a24:nsIn K mainGlobals "_law_names"=some (some (.ref g24)))
  (a25:nsIn K mainGlobals "_law_number"=some (some (.ref g25)))
  (a26:nsIn K mainGlobals "_law_other"=some (some (.ref g26)))
  (a27:nsIn K mainGlobals "_law_core"=some (some (.ref g27)))
  (a28:nsIn K mainGlobals "_law_aside"=some (some (.ref g28)))
  (a29:nsIn K mainGlobals "_law_within"=some (some (.ref g29)))
  (a30:nsIn K mainGlobals "_law_wrapped"=some (some (.ref g30)))
  (a31:nsIn K mainGlobals "_law_case"=some (some (.ref g31)))
  (a32:nsIn K mainGlobals "law"=some (some (.ref g32)))
  (F1:FnAt K "right_in" "right_in" s_right_in g1 e1)
  (F2:FnAt K "inner_terms" "inner_terms" s_inner_terms g2 e2)
  (F3:FnAt K "bound_to" "bound_to" s_bound_to g3 e3)
  (F4:FnAt K "is_left" "is_left" s_is_left g4 e4)
  (F5:FnAt K "op_number" "op_number" s_op_number g5 e5)
  (F6:FnAt K "do_gap" "do_gap" s_do_gap g6 e6)
  (F7:FnAt K "do_op" "do_op" s_do_op g7 e7)
  (F8:FnAt K "do_more" "do_more" s_do_more g8 e8)
  (F9:FnAt K "do_first" "do_first" s_do_first g9 e9)
  (F10:FnAt K "do_long" "do_long" s_do_long g10 e10)
  (F11:FnAt K "do_match" "do_match" s_do_match g11 e11)
  (F12:FnAt K "do_if" "do_if" s_do_if g12 e12)
  (F13:FnAt K "do_fold" "do_fold" s_do_fold g13 e13)
  (F14:FnAt K "do_row" "do_row" s_do_row g14 e14)
  (F15:FnAt K "go_round" "go_round" s_go_round g15 e15)
  (F16:FnAt K "told_ahead" "told_ahead" s_told_ahead g16 e16)
  (F17:FnAt K "begin_term" "begin_term" s_begin_term g17 e17)
  (F18:FnAt K "row_of_term" "row_of_term" s_row_of_term g18 e18)
  (F19:FnAt K "end_term" "end_term" s_end_term g19 e19)
  (F20:FnAt K "finish" "finish" s_finish g20 e20)
  (F21:FnAt K "run" "run" s_run g21 e21)
  (F22:FnAt K "_law_feed" "_law_feed" s_L_feed g22 e22)
  (F23:FnAt K "_law_take" "_law_take" s_L_take g23 e23)
  (F24:FnAt K "_law_names" "_law_names" s_L_names g24 e24)
  (F25:FnAt K "_law_number" "_law_number" s_L_number g25 e25)
  (F26:FnAt K "_law_other" "_law_other" s_L_other g26 e26)
  (F27:FnAt K "_law_core" "_law_core" s_L_core g27 e27)
  (F28:FnAt K "_law_aside" "_law_aside" s_L_aside g28 e28)
  (F29:FnAt K "_law_within" "_law_within" s_L_within g29 e29)
  (F30:FnAt K "_law_wrapped" "_law_wrapped" s_L_wrapped g30 e30)
  (F31:FnAt K "_law_case" "_law_case" s_L_case g31 e31)
  (F32:FnAt K "law" "law" s_law g32 e32)
  (M1:FnAt K "__init__" "Work.__init__" s_Work_init m1 d1)
  (M2:FnAt K "tell" "Work.tell" s_Work_tell m2 d2)
  (M3:FnAt K "take" "Work.take" s_Work_take m3 d3)
  (M4:FnAt K "do_one" "Work.do_one" s_Work_do_one m4 d4)
  (M5:FnAt K "write" "Work.write" s_Work_write m5 d5)
  (M6:FnAt K "go_into" "Work.go_into" s_Work_go_into m6 d6)
  (aC:nsIn K mainGlobals "Work"=some (some (.ref C)))
  (b1:findIn K (.ref C) "__init__"=some (some (.ref m1)))
  (i1:isFn K (.ref m1)=true)
  (b2:findIn K (.ref C) "tell"=some (some (.ref m2)))
  (i2:isFn K (.ref m2)=true)
  (b3:findIn K (.ref C) "take"=some (some (.ref m3)))
  (i3:isFn K (.ref m3)=true)
  (b4:findIn K (.ref C) "do_one"=some (some (.ref m4)))
  (i4:isFn K (.ref m4)=true)
  (b5:findIn K (.ref C) "write"=some (some (.ref m5)))
  (i5:isFn K (.ref m5)=true)
  (b6:findIn K (.ref C) "go_into"=some (some (.ref m6)))
  (i6:isFn K (.ref m6)=true)
  (c1:plainGet K C Str.empty=true) (c2:hasDictIn K C=true) (c3:plainOver K C=true) (c4:findIn K (.ref C) "__setattr__"=some (some (.builtin "object.__setattr__"))) (c5:makesIn K C=true) (c6:keepIn K (.ref C)=true)
  (n1:findIn K (.ref C) "defs"=some none)
  (n2:findIn K (.ref C) "most"=some none)
  (n3:findIn K (.ref C) "many"=some none)
  (n4:findIn K (.ref C) "rows"=some none)
  (n5:findIn K (.ref C) "failed"=some none)
  (n6:findIn K (.ref C) "told"=some none)
  (n7:findIn K (.ref C) "waiting"=some none)
  (aW:nsIn K mainGlobals "WIDE"=some (some (.int 1000000 tkW)))
  (pP:nsIn K mainGlobals "PLACES"=some (some (.ref dP)))
  (lP:K.lookup dP=some { cls:=.type "dict",dict:=none,data:=.dict esP nP,slots:=#[] })
  (kP:KDs w esP.toList [("num",V.ref t0),("name",V.ref t1),("gap",V.ref t2),("op",V.ref t3),("more",V.ref t4),("first",V.ref t5),("others",V.ref t6),("long",V.ref t7),("if",V.ref t8)])
  (sP:(dP == sysModules)=false)
  (pM:nsIn K mainGlobals "PLACE_OF_MANY"=some (some (.ref dM)))
  (lM:K.lookup dM=some { cls:=.type "dict",dict:=none,data:=.dict esM nM,slots:=#[] })
  (kM:KDs w esM.toList manyOf)
  (sM:(dM == sysModules)=false)
  (pD:nsIn K mainGlobals "DEEDS"=some (some (.ref dD)))
  (lD:K.lookup dD=some { cls:=.type "dict",dict:=none,data:=.dict esD nD,slots:=#[] })
  (kD:KDs w esD.toList [("gap",V.ref g6),("op",V.ref g7),("more",V.ref g8),("first",V.ref g9),("others",V.ref g9),("long",V.ref g10),("match",V.ref g11),("if",V.ref g12),("fold",V.ref g13)])
  (sD:(dD == sysModules)=false)
  (pT:nsIn K mainGlobals "TASKS"=some (some (.ref dT)))
  (lT:K.lookup dT=some { cls:=.type "dict",dict:=none,data:=.dict esT nT,slots:=#[] })
  (kT:KDs w esT.toList [("term",V.ref g17),("rest",V.ref g19),("round",V.ref g15)])
  (sT:(dT == sysModules)=false)
  (q0:tupB K t0 []=true)
  (q1:tupB K t1 []=true)
  (q2:tupB K t2 []=true)
  (q3:tupB K t3 [2,3]=true)
  (q4:tupB K t4 [1,2]=true)
  (q5:tupB K t5 [1]=true)
  (q6:tupB K t6 [1]=true)
  (q7:tupB K t7 [1]=true)
  (q8:tupB K t8 [1,2,3]=true)
  (z0:nsIn K mainGlobals "len"=some none)
  (z1:nsIn K mainGlobals "range"=some none)
  (z2:nsIn K mainGlobals "int"=some none)
  (z3:nsIn K mainGlobals "tuple"=some none)
  (z4:nsIn K mainGlobals "list"=some none)
  (z5:nsIn K mainGlobals "zip"=some none)
  (z6:nsIn K mainGlobals "dict"=some none)
  (z7:nsIn K mainGlobals "repr"=some none)
  (z8:nsIn K mainGlobals "all"=some none) :
  ∃ fd:FuncData,(∀ (s:Shared) (v:Value),BindsTo s fd ⟨[v],[]⟩ [("_law_script",v)])/\∀ base:Heap,K.In base->base.Ns mainGlobals mg->FnOk l.prog w K mg base CX0 8 fa fd ["_law_script"] (spLaw K):=by
 have e:=hfa.symm.trans (mg_of X G a32)
 cases e
 have B1:=F1.f.binds (ps:=["term"]) fun _ _ _ _ _ _ us hl=>match us,hl with | [_],_=>rfl
 have u1:=mg_of X G a1
 have B2:=F2.f.binds (ps:=["term"]) fun _ _ _ _ _ _ us hl=>match us,hl with | [_],_=>rfl
 have u2:=mg_of X G a2
 have B3:=F3.f.binds (ps:=["around","names","things"]) fun _ _ _ _ _ _ us hl=>match us,hl with | [_,_,_],_=>rfl
 have u3:=mg_of X G a3
 have B4:=F4.f.binds (ps:=["thing"]) fun _ _ _ _ _ _ us hl=>match us,hl with | [_],_=>rfl
 have u4:=mg_of X G a4
 have B5:=F5.f.binds (ps:=["sign","a","b"]) fun _ _ _ _ _ _ us hl=>match us,hl with | [_,_,_],_=>rfl
 have u5:=mg_of X G a5
 have B6:=F6.f.binds (ps:=["work","row"]) fun _ _ _ _ _ _ us hl=>match us,hl with | [_,_],_=>rfl
 have u6:=mg_of X G a6
 have B7:=F7.f.binds (ps:=["work","row"]) fun _ _ _ _ _ _ us hl=>match us,hl with | [_,_],_=>rfl
 have u7:=mg_of X G a7
 have B8:=F8.f.binds (ps:=["work","row"]) fun _ _ _ _ _ _ us hl=>match us,hl with | [_,_],_=>rfl
 have u8:=mg_of X G a8
 have B9:=F9.f.binds (ps:=["work","row"]) fun _ _ _ _ _ _ us hl=>match us,hl with | [_,_],_=>rfl
 have u9:=mg_of X G a9
 have B10:=F10.f.binds (ps:=["work","row"]) fun _ _ _ _ _ _ us hl=>match us,hl with | [_,_],_=>rfl
 have u10:=mg_of X G a10
 have B11:=F11.f.binds (ps:=["work","row"]) fun _ _ _ _ _ _ us hl=>match us,hl with | [_,_],_=>rfl
 have u11:=mg_of X G a11
 have B12:=F12.f.binds (ps:=["work","row"]) fun _ _ _ _ _ _ us hl=>match us,hl with | [_,_],_=>rfl
 have u12:=mg_of X G a12
 have B13:=F13.f.binds (ps:=["work","row"]) fun _ _ _ _ _ _ us hl=>match us,hl with | [_,_],_=>rfl
 have u13:=mg_of X G a13
 have B14:=F14.f.binds (ps:=["work","row"]) fun _ _ _ _ _ _ us hl=>match us,hl with | [_,_],_=>rfl
 have u14:=mg_of X G a14
 have B15:=F15.f.binds (ps:=["work","task"]) fun _ _ _ _ _ _ us hl=>match us,hl with | [_,_],_=>rfl
 have u15:=mg_of X G a15
 have B16:=F16.f.binds (ps:=["term"]) fun _ _ _ _ _ _ us hl=>match us,hl with | [_],_=>rfl
 have u16:=mg_of X G a16
 have B17:=F17.f.binds (ps:=["work","task"]) fun _ _ _ _ _ _ us hl=>match us,hl with | [_,_],_=>rfl
 have u17:=mg_of X G a17
 have B18:=F18.f.binds (ps:=["term","things","around"]) fun _ _ _ _ _ _ us hl=>match us,hl with | [_,_,_],_=>rfl
 have u18:=mg_of X G a18
 have B19:=F19.f.binds (ps:=["work","task"]) fun _ _ _ _ _ _ us hl=>match us,hl with | [_,_],_=>rfl
 have u19:=mg_of X G a19
 have B20:=F20.f.binds (ps:=["work"]) fun _ _ _ _ _ _ us hl=>match us,hl with | [_],_=>rfl
 have u20:=mg_of X G a20
 have B21:=F21.f.binds (ps:=["program","inputs","most"]) fun _ _ _ _ _ _ us hl=>match us,hl with | [_,_,_],_=>rfl
 have u21:=mg_of X G a21
 have B22:=F22.f.binds (ps:=["_law_script","_law_k"]) fun _ _ _ _ _ _ us hl=>match us,hl with | [_,_],_=>rfl
 have u22:=mg_of X G a22
 have B23:=F23.f.binds (ps:=["_law_feed_here","_law_many"]) fun _ _ _ _ _ _ us hl=>match us,hl with | [_,_],_=>rfl
 have u23:=mg_of X G a23
 have B24:=F24.f.binds (ps:=["_law_feed_here","_law_many"]) fun _ _ _ _ _ _ us hl=>match us,hl with | [_,_],_=>rfl
 have u24:=mg_of X G a24
 have B25:=F25.f.binds (ps:=["_law_feed_here"]) fun _ _ _ _ _ _ us hl=>match us,hl with | [_],_=>rfl
 have u25:=mg_of X G a25
 have B26:=F26.f.binds (ps:=["_law_feed_here","_law_scene","_law_rows"]) fun _ _ _ _ _ _ us hl=>match us,hl with | [_,_,_],_=>rfl
 have u26:=mg_of X G a26
 have B27:=F27.f.binds (ps:=["_law_feed_here","_law_scene"]) fun _ _ _ _ _ _ us hl=>match us,hl with | [_,_],_=>rfl
 have u27:=mg_of X G a27
 have B28:=F28.f.binds (ps:=["_law_feed_here","_law_scene","_law_core_here"]) fun _ _ _ _ _ _ us hl=>match us,hl with | [_,_,_],_=>rfl
 have u28:=mg_of X G a28
 have B29:=F29.f.binds (ps:=["_law_feed_here","_law_scene","_law_core_here"]) fun _ _ _ _ _ _ us hl=>match us,hl with | [_,_,_],_=>rfl
 have u29:=mg_of X G a29
 have B30:=F30.f.binds (ps:=["_law_feed_here","_law_scene","_law_term","_law_goes"]) fun _ _ _ _ _ _ us hl=>match us,hl with | [_,_,_,_],_=>rfl
 have u30:=mg_of X G a30
 have B31:=F31.f.binds (ps:=["_law_feed_here"]) fun _ _ _ _ _ _ us hl=>match us,hl with | [_],_=>rfl
 have u31:=mg_of X G a31
 have B32:=F32.f.binds (ps:=["_law_script"]) fun _ _ _ _ _ _ us hl=>match us,hl with | [_],_=>rfl
 have u32:=mg_of X G a32
 have D1:=M1.f.binds (ps:=["self","program","most"]) fun _ _ _ _ _ _ us hl=>match us,hl with | [_,_,_],_=>rfl
 have D2:=M2.f.binds (ps:=["self","thing"]) fun _ _ _ _ _ _ us hl=>match us,hl with | [_,_],_=>rfl
 have D3:=M3.f.binds (ps:=["self","many"]) fun _ _ _ _ _ _ us hl=>match us,hl with | [_,_],_=>rfl
 have D4:=M4.f.binds (ps:=["self"]) fun _ _ _ _ _ _ us hl=>match us,hl with | [_],_=>rfl
 have D5:=M5.f.binds (ps:=["self","row"]) fun _ _ _ _ _ _ us hl=>match us,hl with | [_,_],_=>rfl
 have D6:=M6.f.binds (ps:=["self","term","around"]) fun _ _ _ _ _ _ us hl=>match us,hl with | [_,_,_],_=>rfl
 have z_len:=mg_none_of X G z0
 have z_range:=mg_none_of X G z1
 have z_int:=mg_none_of X G z2
 have z_tuple:=mg_none_of X G z3
 have z_list:=mg_none_of X G z4
 have z_zip:=mg_none_of X G z5
 have z_dict:=mg_none_of X G z6
 have z_repr:=mg_none_of X G z7
 have z_all:=mg_none_of X G z8
 have TB:Tabs K w mg dP dM [("num",V.ref t0),("name",V.ref t1),("gap",V.ref t2),("op",V.ref t3),("more",V.ref t4),("first",V.ref t5),("others",V.ref t6),("long",V.ref t7),("if",V.ref t8)]:={
  mP:=mg_of X G pP,mM:=mg_of X G pM,kP:=⟨esP,nP,lP,kP,(show (["num","name","gap","op","more","first","others","long","if"]:List Str).Nodup by decide +kernel),sP⟩,kM:=⟨esM,nM,lM,kM,by decide +kernel,sM⟩,
  at_:=fun f ps hm=>by
   unfold placesOf at hm
   simp only [List.mem_cons,List.not_mem_nil,or_false,Prod.mk.injEq] at hm
   rcases hm with ⟨rfl,rfl⟩ | ⟨rfl,rfl⟩ | ⟨rfl,rfl⟩ | ⟨rfl,rfl⟩ | ⟨rfl,rfl⟩ | ⟨rfl,rfl⟩ | ⟨rfl,rfl⟩ | ⟨rfl,rfl⟩ | ⟨rfl,rfl⟩
   ·exact ⟨t0,rfl,tupB_T q0 (by decide)⟩
   ·exact ⟨t1,rfl,tupB_T q1 (by decide)⟩
   ·exact ⟨t2,rfl,tupB_T q2 (by decide)⟩
   ·exact ⟨t3,rfl,tupB_T q3 (by decide)⟩
   ·exact ⟨t4,rfl,tupB_T q4 (by decide)⟩
   ·exact ⟨t5,rfl,tupB_T q5 (by decide)⟩
   ·exact ⟨t6,rfl,tupB_T q6 (by decide)⟩
   ·exact ⟨t7,rfl,tupB_T q7 (by decide)⟩
   ·exact ⟨t8,rfl,tupB_T q8 (by decide)⟩ }
 have kDD:KD K w dD [("gap",V.ref g6),("op",V.ref g7),("more",V.ref g8),("first",V.ref g9),("others",V.ref g9),("long",V.ref g10),("match",V.ref g11),("if",V.ref g12),("fold",V.ref g13)]:=⟨esD,nD,lD,kD,(show (["gap","op","more","first","others","long","match","if","fold"]:List Str).Nodup by decide +kernel),sD⟩
 have kTT:KD K w dT [("term",V.ref g17),("rest",V.ref g19),("round",V.ref g15)]:=⟨esT,nT,lT,kT,(show (["term","rest","round"]:List Str).Nodup by decide +kernel),sT⟩
 have N:NoA K C:=⟨⟨c1,c2,c3,c4⟩,n1,n2,n3,n4,n5,n6,n7⟩
 obtain ⟨od,kV,doc,pm,an,cdv,ct,osl,rfl,lk,cc⟩:=F32.ex
 refine ⟨fnOf "law" "law" (defArgs s_law) (defBody s_law) (defScope s_law) .none kV doc pm an cdv ct,fun s v=>.of_eq rfl,fun base _ _=>?_⟩
 have RI:Has l.prog w K mg base "right_in" 1 _ _ g1 e1:=⟨ok_right_in F1.f TB,u1,F1.kp,B1⟩
 have IN:Has l.prog w K mg base "inner_terms" 2 _ _ g2 e2:=⟨ok_inner F2.f RI,u2,F2.kp,B2⟩
 have BT:Has l.prog w K mg base "bound_to" 1 _ _ g3 e3:=⟨ok_bound F3.f z_tuple z_zip,u3,F3.kp,B3⟩
 have IL:Has l.prog w K mg base "is_left" 1 _ _ g4 e4:=⟨ok_is_left F4.f,u4,F4.kp,B4⟩
 have ON:Has l.prog w K mg base "op_number" 1 _ _ g5 e5:=⟨ok_op_number F5.f (mg_of X G aW),u5,F5.kp,B5⟩
 have INI:HasM l.prog w K mg base C "__init__" 1 _ _ m1 d1:=⟨ok_init M1.f N,⟨b1,i1,M1.kp⟩,D1,N.c⟩
 have mTell:HasM l.prog w K mg base C "tell" 1 _ _ m2 d2:=⟨ok_tell M2.f N,⟨b2,i2,M2.kp⟩,D2,N.c⟩
 have mTake:HasM l.prog w K mg base C "take" 1 _ _ m3 d3:=⟨ok_wtake M3.f N z_range,⟨b3,i3,M3.kp⟩,D3,N.c⟩
 have mOne:HasM l.prog w K mg base C "do_one" 1 _ _ m4 d4:=⟨ok_one M4.f N,⟨b4,i4,M4.kp⟩,D4,N.c⟩
 have mWrite:HasM l.prog w K mg base C "write" 2 _ _ m5 d5:=⟨ok_write M5.f N mTell z_len,⟨b5,i5,M5.kp⟩,D5,N.c⟩
 have mInto:HasM l.prog w K mg base C "go_into" 1 _ _ m6 d6:=⟨ok_into M6.f N,⟨b6,i6,M6.kp⟩,D6,N.c⟩
 have XG:Has l.prog w K mg base "do_gap" 3 _ _ g6 e6:=⟨ok_do_gap F6.f mWrite,u6,F6.kp,B6⟩
 have XO:Has l.prog w K mg base "do_op" 3 _ _ g7 e7:=⟨ok_do_op F7.f N IL ON mTell mOne mWrite,u7,F7.kp,B7⟩
 have XM:Has l.prog w K mg base "do_more" 3 _ _ g8 e8:=⟨ok_do_more F8.f N IL mTell mOne mWrite,u8,F8.kp,B8⟩
 have XF:Has l.prog w K mg base "do_first" 3 _ _ g9 e9:=⟨ok_do_first F9.f N IL mTell mOne mWrite,u9,F9.kp,B9⟩
 have XL:Has l.prog w K mg base "do_long" 3 _ _ g10 e10:=⟨ok_do_long F10.f N IL mTell mOne mWrite z_len,u10,F10.kp,B10⟩
 have XI:Has l.prog w K mg base "do_if" 3 _ _ g12 e12:=⟨ok_do_if F12.f N IL mInto mOne mWrite,u12,F12.kp,B12⟩
 have XD:Has l.prog w K mg base "do_fold" 3 _ _ g13 e13:=⟨ok_do_fold F13.f N IL mTell mWrite,u13,F13.kp,B13⟩
 have XT:Has l.prog w K mg base "do_match" 3 _ _ g11 e11:=⟨ok_do_match F11.f N IL BT mInto mOne mWrite,u11,F11.kp,B11⟩
 have DS:Deeds l.prog w K mg base C [("gap",V.ref g6),("op",V.ref g7),("more",V.ref g8),("first",V.ref g9),("others",V.ref g9),("long",V.ref g10),("match",V.ref g11),("if",V.ref g12),("fold",V.ref g13)]:=⟨.of XG (by kernel_rfl),.of XO (by kernel_rfl),.of XM (by kernel_rfl),.of XF (by kernel_rfl),.of XF (by kernel_rfl),.of XL (by kernel_rfl),.of XT (by kernel_rfl),.of XI (by kernel_rfl),.of XD (by kernel_rfl)⟩
 have DR:Has l.prog w K mg base "do_row" 4 _ _ g14 e14:=⟨ok_do_row F14.f DS (mg_of X G pD) kDD,u14,F14.kp,B14⟩
 have TA:Has l.prog w K mg base "told_ahead" 3 _ _ g16 e16:=⟨ok_told_ahead F16.f IN,u16,F16.kp,B16⟩
 have BE:Has l.prog w K mg base "begin_term" 5 _ _ g17 e17:=⟨ok_begin F17.f N TA mTell mInto z_dict,u17,F17.kp,B17⟩
 have RO:Has l.prog w K mg base "row_of_term" 1 _ _ g18 e18:=⟨ok_row_of F18.f z_tuple,u18,F18.kp,B18⟩
 have EN:Has l.prog w K mg base "end_term" 5 _ _ g19 e19:=⟨ok_end F19.f N TA RO DR BT mTake mTell mOne mInto z_len z_tuple,u19,F19.kp,B19⟩
 have GR:Has l.prog w K mg base "go_round" 5 _ _ g15 e15:=⟨ok_round F15.f N BT mTake mOne mInto z_len,u15,F15.kp,B15⟩
 have TS:Tasks l.prog w K mg base C [("term",V.ref g17),("rest",V.ref g19),("round",V.ref g15)]:=⟨.of BE (by kernel_rfl),.of EN (by kernel_rfl),.of GR (by kernel_rfl)⟩
 have FI:Has l.prog w K mg base "finish" 6 _ _ g20 e20:=⟨ok_finish F20.f N TS mTake (mg_of X G pT) kTT,u20,F20.kp,B20⟩
 have RU:Has l.prog w K mg base "run" 7 _ _ g21 e21:=⟨ok_run F21.f N ⟨c5,b1,i1,c6⟩ INI (mg_of X G aC) BT FI mInto z_tuple,u21,F21.kp,B21⟩
 have RV:Has l.prog w K mg base "run" 7 _ _ g21 e21:=⟨ok_runI RU.ok,u21,F21.kp,B21⟩
 have FD:Has l.prog w K mg base "_law_feed" 1 _ _ g22 e22:=⟨ok_feed F22.f z_len,u22,F22.kp,B22⟩
 have TK:Has l.prog w K mg base "_law_take" 1 _ _ g23 e23:=⟨ok_take F23.f,u23,F23.kp,B23⟩
 have NM:Has l.prog w K mg base "_law_names" 2 _ _ g24 e24:=⟨ok_names F24.f TK z_range z_len z_int,u24,F24.kp,B24⟩
 have NU:Has l.prog w K mg base "_law_number" 2 _ _ g25 e25:=⟨ok_number F25.f TK,u25,F25.kp,B25⟩
 have OT:Has l.prog w K mg base "_law_other" 3 _ _ g26 e26:=⟨ok_other F26.f TK NU,u26,F26.kp,B26⟩
 have CR:Has l.prog w K mg base "_law_core" 4 _ _ g27 e27:=⟨ok_core F27.f TK OT,u27,F27.kp,B27⟩
 have AS:Has l.prog w K mg base "_law_aside" 4 _ _ g28 e28:=⟨ok_aside F28.f TK OT,u28,F28.kp,B28⟩
 have WI:Has l.prog w K mg base "_law_within" 4 _ _ g29 e29:=⟨ok_within F29.f TK OT z_int,u29,F29.kp,B29⟩
 have WP:Has l.prog w K mg base "_law_wrapped" 5 _ _ g30 e30:=⟨ok_wrapped F30.f TK AS WI z_range,u30,F30.kp,B30⟩
 have CA:Has l.prog w K mg base "_law_case" 7 _ _ g31 e31:=⟨ok_case F31.f TK NM NU CR WP z_tuple,u31,F31.kp,B31⟩
 exact ok_law ⟨⟨_,od,kV,doc,pm,an,cdv,ct,osl,rfl,lk,cc⟩,F32.kp⟩ FD CA RV z_range z_repr
theorem walk {l:PySem.W.OpenLaw}{q:Program}{loose:List Str}{XP:(Str->Option Value)->Heap->Prop}{YP:World->Heap->Prop}{d:DefRec}{K:Params->PySem.W.Frag}(hn:l.most=some 63)(hdf:d.params.defaults=[])
  (hY:∀ (w:World) (h:Heap),YP w h->(K w.params).In h)
  (F:∀ (w:World) (mg:Str->Option Value) (fa:Addr) (h:Heap),(K w.params).In h->h.Ns mainGlobals mg->mg d.name=some (.ref fa) ->
   ∃ fd:FuncData,(∀ (s:Shared) (u:Value),BindsTo s fd ⟨[u],[]⟩ [("_law_script",u)])/\∀ base:Heap,(K w.params).In base->base.Ns mainGlobals mg->FnOk l.prog w (K w.params) mg base CX0 8 fa fd ["_law_script"] (spLaw (K w.params))) :
  PySem.W.WalkO q loose XP YP l.row.toRowW d [] (fun f vs=>PySem.call f vs) :=
 L2.walk_of (n:=63) (k:=8) (x:="_law_script") (CX:=fun _=>CX0) (sp:=fun w=>spLaw (K w.params)) hn (by decide) hdf ⟨rfl,by decide,by decide,rfl⟩ hY F (fun _ _ a ns hl _ hS=>⟨a,ns,rfl,hS,hl,fun _=>rfl⟩) fun _ _ _ _ _ z=>z
end G28
def PySem.W.Fast.tw4226265697279460328 : Unit := ()
def PySem.W.Fast.tw1588423285854989601 : Unit := ()
def PySem.W.Fast.tw12037696899956404093 : Unit := ()
def PySem.W.Fast.tw17111760014237498332 : Unit := ()
def PySem.W.Fast.tw4305197253599226169 : Unit := ()
def PySem.W.Fast.tw5588928296684084458 : Unit := ()
def PySem.W.Fast.tw16543751891054314691 : Unit := ()
def PySem.W.Fast.tw14941179286311657848 : Unit := ()
def PySem.W.Fast.tw14518199036460196735 : Unit := ()
def PySem.W.Fast.tw17304217604320613806 : Unit := ()
def PySem.W.Fast.tw14724499983172916618 : Unit := ()
def PySem.W.Fast.tw15625837897554026748 : Unit := ()
def PySem.W.Fast.tw2385328745506879314 : Unit := ()
def PySem.W.Fast.tw16400929377080070098 : Unit := ()
def PySem.W.Fast.tw5732781425319080582 : Unit := ()
def PySem.W.Fast.tw12599072299988263661 : Unit := ()
def PySem.W.Fast.tw2450440729130509880 : Unit := ()
def PySem.W.Fast.tw7926925545032227702 : Unit := ()
def PySem.W.Fast.tw676984380452983389 : Unit := ()
def PySem.W.Fast.tw12895639341163497994 : Unit := ()
def PySem.W.Fast.tw12464165804030169597 : Unit := ()
def PySem.W.Fast.tw1022320288994257512 : Unit := ()
def PySem.W.Fast.tw2469359061081954686 : Unit := ()
def PySem.W.Fast.tw12007437130751560127 : Unit := ()
def PySem.W.Fast.tw10923816039645694451 : Unit := ()
def PySem.W.Fast.tw2130721930053491005 : Unit := ()
def PySem.W.Fast.tw4530211832708307320 : Unit := ()
def PySem.W.Fast.tw18415678488612690201 : Unit := ()
def PySem.W.Fast.tw9579280116784574706 : Unit := ()
def PySem.W.Fast.tw16053369181344170235 : Unit := ()
def PySem.W.Fast.tw8464133955507859187 : Unit := ()
def PySem.W.Fast.tw10769800508180865787 : Unit := ()
def PySem.W.Fast.tw7554945951144953156 : Unit := ()
def PySem.W.Fast.tw8276347679985756523 : Unit := ()
def PySem.W.Fast.tw5819050274079674997 : Unit := ()
def PySem.W.Fast.tw939592743446879992 : Unit := ()
def PySem.W.Fast.tw7214263370683717624 : Unit := ()
def PySem.W.Fast.tw6100730240274614624 : Unit := ()
def PySem.W.Fast.tw13209553077399294445 : Unit := ()
def PySem.W.Fast.tw13294728054024738502 : Unit := ()
def PySem.W.Fast.tw2844370043427571579 : Unit := ()
def PySem.W.Fast.tw8373680372981065527 : Unit := ()
def PySem.W.Fast.tw14251407703123623050 : Unit := ()
def PySem.W.Fast.tw16165814286028083995 : Unit := ()
def PySem.W.Fast.tw6527467608264639140 : Unit := ()
def PySem.W.Fast.tw6849820895653441642 : Unit := ()
def PySem.W.Fast.tw9396241176330167513 : Unit := ()
def PySem.W.Fast.tw4080366735133957735 : Unit := ()
def PySem.W.Fast.tw1125912435925929487 : Unit := ()
def PySem.W.Fast.tw7178354446704466156 : Unit := ()
def PySem.W.Fast.tw7974834873134143145 : Unit := ()
def PySem.W.Fast.tw14941114310677945832 : Unit := ()
def PySem.W.Fast.tw10846827163572959532 : Unit := ()
def PySem.W.Fast.tw9395084704515703972 : Unit := ()
def PySem.W.Fast.tw8598297345509572510 : Unit := ()
def PySem.W.Fast.tw4495229268667736437 : Unit := ()
def PySem.W.Fast.tw11324429185906327621 : Unit := ()
def PySem.W.Fast.tw11064039964135779853 : Unit := ()
def PySem.W.Fast.tw6557283872571768535 : Unit := ()
def PySem.W.Fast.tw1713221272857664253 : Unit := ()
def PySem.W.Fast.tw3288638177009947746 : Unit := ()
def PySem.W.Fast.tw5691106458226303918 : Unit := ()
def PySem.W.Fast.tw14278439141430909169 : Unit := ()
def PySem.W.Fast.tw17785802699966660590 : Unit := ()
def PySem.W.Fast.tw3471692217597363137 : Unit := ()
def PySem.W.Fast.tw1861742089654727806 : Unit := ()
def PySem.W.Fast.tw2712179103640803464 : Unit := ()
def PySem.W.Fast.tw11518752506405432823 : Unit := ()
def PySem.W.Fast.tw10799814619876561295 : Unit := ()
def PySem.W.Fast.tw6066470298290162790 : Unit := ()
def PySem.W.Fast.tw7647969115472311068 : Unit := ()
def PySem.W.Fast.tw6272595381194606797 : Unit := ()
def PySem.W.Fast.tw7962843055546110478 : Unit := ()
def PySem.W.Fast.tw6222402465383232791 : Unit := ()
def PySem.W.Fast.tw2724418130127208707 : Unit := ()
def PySem.W.Fast.tw3621619732410104146 : Unit := ()
def PySem.W.Fast.tw4065310883179177356 : Unit := ()
def PySem.W.Fast.tw11684353317102074028 : Unit := ()
def PySem.W.Fast.tw15055976562997471851 : Unit := ()
def PySem.W.Fast.tw14940981326777368951 : Unit := ()
def PySem.W.Fast.tw15349267055966995941 : Unit := ()
def PySem.W.Fast.tw742554117141724159 : Unit := ()
def PySem.W.Fast.tw10579865675666133740 : Unit := ()
def PySem.W.Fast.tw11154581368035769334 : Unit := ()
def PySem.W.Fast.tw597131398781424485 : Unit := ()
def PySem.W.Fast.tw7842039675183219492 : Unit := ()
def PySem.W.Fast.tw15956654554831525840 : Unit := ()
def PySem.W.Fast.tw18298149049183523425 : Unit := ()
def PySem.W.Fast.tw2154408603420356861 : Unit := ()
def PySem.W.Fast.tw18038184362355030530 : Unit := ()
def PySem.W.Fast.tw3191059717284135744 : Unit := ()
def PySem.W.Fast.tw14717966379082331820 : Unit := ()
def PySem.W.Fast.tw4962949189100915889 : Unit := ()
def PySem.W.Fast.tw12562515491394082893 : Unit := ()
def PySem.W.Fast.tw15731945297420064469 : Unit := ()
def PySem.W.Fast.tw1819000752455264081 : Unit := ()
def PySem.W.Fast.tw11497990237566850969 : Unit := ()
def PySem.W.Fast.tw11228895016085869629 : Unit := ()
def PySem.W.Fast.tw7377234669131097068 : Unit := ()
def PySem.W.Fast.tw15173342121181973375 : Unit := ()
def PySem.W.Fast.tw10688577846559022873 : Unit := ()
def PySem.W.Fast.tw1991079789485303396 : Unit := ()
def PySem.W.Fast.tw16271408174009769971 : Unit := ()
def PySem.W.Fast.tw13441074742398911397 : Unit := ()
def PySem.W.Fast.tw6996714291480841947 : Unit := ()
def PySem.W.Fast.tw7036272743386159436 : Unit := ()
def PySem.W.Fast.tw5058811601632960582 : Unit := ()
def PySem.W.Fast.tw17518729870618589694 : Unit := ()
def PySem.W.Fast.tw17909184293580151347 : Unit := ()
def PySem.W.Fast.tw4558927732600572450 : Unit := ()
def PySem.W.Fast.tw15725243505770360710 : Unit := ()
open PySem PySem.W PyProof.Rows
set_option maxRecDepth 100000 in
set_option maxHeartbeats 0 in
theorem PySem.Challenge.cw_gapwork_k28_faults_reached_or_not_holds : PySem.Challenge.rw_gapwork_k28_faults_reached_or_not.Holds := by
  w_on; o_law; k_head; (case hw => w_witness2)
  k_fill
  refine G28.walk (l := PySem.Challenge.rw_gapwork_k28_faults_reached_or_not) rfl rfl (fun w h Y => PySem.W.kIn_of Y) ?F
  case F =>
    intro w mg fa h KX G hmg
    refine' G28.all_mk KX G hmg ?a1 ?a2 ?a3 ?a4 ?a5 ?a6 ?a7 ?a8 ?a9 ?a10 ?a11 ?a12 ?a13 ?a14 ?a15 ?a16 ?a17 ?a18 ?a19 ?a20 ?a21 ?a22 ?a23 ?a24 ?a25 ?a26 ?a27 ?a28 ?a29 ?a30 ?a31 ?a32 ?F1 ?F2 ?F3 ?F4 ?F5 ?F6 ?F7 ?F8 ?F9 ?F10 ?F11 ?F12 ?F13 ?F14 ?F15 ?F16 ?F17 ?F18 ?F19 ?F20 ?F21 ?F22 ?F23 ?F24 ?F25 ?F26 ?F27 ?F28 ?F29 ?F30 ?F31 ?F32 ?M1 ?M2 ?M3 ?M4 ?M5 ?M6 ?aC ?b1 ?i1 ?b2 ?i2 ?b3 ?i3 ?b4 ?i4 ?b5 ?i5 ?b6 ?i6 ?c1 ?c2 ?c3 ?c4 ?c5 ?c6 ?n1 ?n2 ?n3 ?n4 ?n5 ?n6 ?n7 ?aW ?pP ?lP ?kP ?sP ?pM ?lM ?kM ?sM ?pD ?lD ?kD ?sD ?pT ?lT ?kT ?sT ?q0 ?q1 ?q2 ?q3 ?q4 ?q5 ?q6 ?q7 ?q8 ?z0 ?z1 ?z2 ?z3 ?z4 ?z5 ?z6 ?z7 ?z8
    (case a1 => k_is)
    (case a2 => k_is)
    (case a3 => k_is)
    (case a4 => k_is)
    (case a5 => k_is)
    (case a6 => k_is)
    (case a7 => k_is)
    (case a8 => k_is)
    (case a9 => k_is)
    (case a10 => k_is)
    (case a11 => k_is)
    (case a12 => k_is)
    (case a13 => k_is)
    (case a14 => k_is)
    (case a15 => k_is)
    (case a16 => k_is)
    (case a17 => k_is)
    (case a18 => k_is)
    (case a19 => k_is)
    (case a20 => k_is)
    (case a21 => k_is)
    (case a22 => k_is)
    (case a23 => k_is)
    (case a24 => k_is)
    (case a25 => k_is)
    (case a26 => k_is)
    (case a27 => k_is)
    (case a28 => k_is)
    (case a29 => k_is)
    (case a30 => k_is)
    (case a31 => k_is)
    (case a32 => k_is)
    (case F1 => exact G28.fnAt_mk (by k_is) (by k_is) (by k_is))
    (case F2 => exact G28.fnAt_mk (by k_is) (by k_is) (by k_is))
    (case F3 => exact G28.fnAt_mk (by k_is) (by k_is) (by k_is))
    (case F4 => exact G28.fnAt_mk (by k_is) (by k_is) (by k_is))
    (case F5 => exact G28.fnAt_mk (by k_is) (by k_is) (by k_is))
    (case F6 => exact G28.fnAt_mk (by k_is) (by k_is) (by k_is))
    (case F7 => exact G28.fnAt_mk (by k_is) (by k_is) (by k_is))
    (case F8 => exact G28.fnAt_mk (by k_is) (by k_is) (by k_is))
    (case F9 => exact G28.fnAt_mk (by k_is) (by k_is) (by k_is))
    (case F10 => exact G28.fnAt_mk (by k_is) (by k_is) (by k_is))
    (case F11 => exact G28.fnAt_mk (by k_is) (by k_is) (by k_is))
    (case F12 => exact G28.fnAt_mk (by k_is) (by k_is) (by k_is))
    (case F13 => exact G28.fnAt_mk (by k_is) (by k_is) (by k_is))
    (case F14 => exact G28.fnAt_mk (by k_is) (by k_is) (by k_is))
    (case F15 => exact G28.fnAt_mk (by k_is) (by k_is) (by k_is))
    (case F16 => exact G28.fnAt_mk (by k_is) (by k_is) (by k_is))
    (case F17 => exact G28.fnAt_mk (by k_is) (by k_is) (by k_is))
    (case F18 => exact G28.fnAt_mk (by k_is) (by k_is) (by k_is))
    (case F19 => exact G28.fnAt_mk (by k_is) (by k_is) (by k_is))
    (case F20 => exact G28.fnAt_mk (by k_is) (by k_is) (by k_is))
    (case F21 => exact G28.fnAt_mk (by k_is) (by k_is) (by k_is))
    (case F22 => exact G28.fnAt_mk (by k_is) (by k_is) (by k_is))
    (case F23 => exact G28.fnAt_mk (by k_is) (by k_is) (by k_is))
    (case F24 => exact G28.fnAt_mk (by k_is) (by k_is) (by k_is))
    (case F25 => exact G28.fnAt_mk (by k_is) (by k_is) (by k_is))
    (case F26 => exact G28.fnAt_mk (by k_is) (by k_is) (by k_is))
    (case F27 => exact G28.fnAt_mk (by k_is) (by k_is) (by k_is))
    (case F28 => exact G28.fnAt_mk (by k_is) (by k_is) (by k_is))
    (case F29 => exact G28.fnAt_mk (by k_is) (by k_is) (by k_is))
    (case F30 => exact G28.fnAt_mk (by k_is) (by k_is) (by k_is))
    (case F31 => exact G28.fnAt_mk (by k_is) (by k_is) (by k_is))
    (case F32 => exact G28.fnAt_mk (by k_is) (by k_is) (by k_is))
    (case aC => k_is)
    (case b1 => k_is)
    (case b2 => k_is)
    (case b3 => k_is)
    (case b4 => k_is)
    (case b5 => k_is)
    (case b6 => k_is)
    (case c1 => k_is)
    (case c2 => k_is)
    (case c3 => k_is)
    (case c4 => k_is)
    (case c5 => k_is)
    (case c6 => k_is)
    (case n1 => k_is)
    (case n2 => k_is)
    (case n3 => k_is)
    (case n4 => k_is)
    (case n5 => k_is)
    (case n6 => k_is)
    (case n7 => k_is)
    (case aW => k_is)
    (case pP => k_is)
    (case lP => k_is)
    (case kP => exact ⟨_, _, _, rfl, ⟨_, rfl⟩, rfl, rfl, ⟨_, _, _, rfl, ⟨_, rfl⟩, rfl, rfl, ⟨_, _, _, rfl, ⟨_, rfl⟩, rfl, rfl, ⟨_, _, _, rfl, ⟨_, rfl⟩, rfl, rfl, ⟨_, _, _, rfl, ⟨_, rfl⟩, rfl, rfl, ⟨_, _, _, rfl, ⟨_, rfl⟩, rfl, rfl, ⟨_, _, _, rfl, ⟨_, rfl⟩, rfl, rfl, ⟨_, _, _, rfl, ⟨_, rfl⟩, rfl, rfl, ⟨_, _, _, rfl, ⟨_, rfl⟩, rfl, rfl, rfl⟩⟩⟩⟩⟩⟩⟩⟩⟩)
    (case sP => kernel_rfl)
    (case pM => k_is)
    (case lM => k_is)
    (case kM => exact ⟨_, _, _, rfl, ⟨_, rfl⟩, rfl, ⟨_, rfl⟩, ⟨_, _, _, rfl, ⟨_, rfl⟩, rfl, ⟨_, rfl⟩, ⟨_, _, _, rfl, ⟨_, rfl⟩, rfl, ⟨_, rfl⟩, rfl⟩⟩⟩)
    (case sM => kernel_rfl)
    (case pD => k_is)
    (case lD => k_is)
    (case kD => exact ⟨_, _, _, rfl, ⟨_, rfl⟩, rfl, rfl, ⟨_, _, _, rfl, ⟨_, rfl⟩, rfl, rfl, ⟨_, _, _, rfl, ⟨_, rfl⟩, rfl, rfl, ⟨_, _, _, rfl, ⟨_, rfl⟩, rfl, rfl, ⟨_, _, _, rfl, ⟨_, rfl⟩, rfl, rfl, ⟨_, _, _, rfl, ⟨_, rfl⟩, rfl, rfl, ⟨_, _, _, rfl, ⟨_, rfl⟩, rfl, rfl, ⟨_, _, _, rfl, ⟨_, rfl⟩, rfl, rfl, ⟨_, _, _, rfl, ⟨_, rfl⟩, rfl, rfl, rfl⟩⟩⟩⟩⟩⟩⟩⟩⟩)
    (case sD => kernel_rfl)
    (case pT => k_is)
    (case lT => k_is)
    (case kT => exact ⟨_, _, _, rfl, ⟨_, rfl⟩, rfl, rfl, ⟨_, _, _, rfl, ⟨_, rfl⟩, rfl, rfl, ⟨_, _, _, rfl, ⟨_, rfl⟩, rfl, rfl, rfl⟩⟩⟩)
    (case sT => kernel_rfl)
    (case q0 => kernel_rfl)
    (case q1 => kernel_rfl)
    (case q2 => kernel_rfl)
    (case q3 => kernel_rfl)
    (case q4 => kernel_rfl)
    (case q5 => kernel_rfl)
    (case q6 => kernel_rfl)
    (case q7 => kernel_rfl)
    (case q8 => kernel_rfl)
    (case z0 => k_is)
    (case z1 => k_is)
    (case z2 => k_is)
    (case z3 => k_is)
    (case z4 => k_is)
    (case z5 => k_is)
    (case z6 => k_is)
    (case z7 => k_is)
    (case z8 => k_is)
    (case i1 => k_is)
    (case i2 => k_is)
    (case i3 => k_is)
    (case i4 => k_is)
    (case i5 => k_is)
    (case i6 => k_is)
    (case M1 => exact G28.fnAt_mk (by k_is) (by k_is) (by k_is))
    (case M2 => exact G28.fnAt_mk (by k_is) (by k_is) (by k_is))
    (case M3 => exact G28.fnAt_mk (by k_is) (by k_is) (by k_is))
    (case M4 => exact G28.fnAt_mk (by k_is) (by k_is) (by k_is))
    (case M5 => exact G28.fnAt_mk (by k_is) (by k_is) (by k_is))
    (case M6 => exact G28.fnAt_mk (by k_is) (by k_is) (by k_is))
#print axioms PySem.Challenge.cw_gapwork_k28_faults_reached_or_not_holds
