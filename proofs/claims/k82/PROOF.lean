import PyProof.Rows.All
import Wide.All
import OpenK.AllK
import Wide.FinOn
import Lean
import PyProof.EqAt
import PyProof.EqKinds
import PyProof.TupleCall
import PySem.Challenge.RW_feastwheel_k82_almanacs_read
set_option Elab.async false
set_option linter.all false
set_option maxRecDepth 100000
namespace L2
open PySem PySem.Spec PyProof.Rows
abbrev Key:=Sum Int Str
def keyIs:Key→Value→Bool
 | .inl k,v=>Value.isInt k v
 | .inr x,v=>Value.isStrOf x v
def keyH(w:World):Key→Int
 | .inl k=>hashInt k
 | .inr x=>hashStr w x
theorem keyIs_shape:∀{k:Key} {v:Value},keyIs k v=true→(∃i t,k=Sum.inl i∧v=Value.int i t)∨(∃x t,k=Sum.inr x∧v=Value.str x t)
 | .inl i,v,h=>by
  obtain⟨t,e⟩:=Value.isInt_shape (k:=i) (v:=v) h
  exact .inl ⟨i,t,rfl,e⟩
 | .inr x,v,h=>by
  obtain⟨t,e⟩:=Value.isStrOf_shape (x:=x) (v:=v) h
  exact .inr ⟨x,t,rfl,e⟩
theorem key_ll(a b:Int):decide ((Sum.inl a:Key)=Sum.inl b)=(a==b):=by
 by_cases e:a=b
 ·subst e;simp
 ·have h:¬(Sum.inl a:Key)=Sum.inl b:=fun q=>e (Sum.inl.inj q)
  rw[decide_eq_false h]
  exact(beq_eq_false_iff_ne.mpr e).symm
theorem key_rr(a b:Str):decide ((Sum.inr a:Key)=Sum.inr b)=decide (a=b):=by
 by_cases e:a=b
 ·subst e;simp
 ·have h:¬(Sum.inr a:Key)=Sum.inr b:=fun q=>e (Sum.inr.inj q)
  rw[decide_eq_false h,decide_eq_false e]
theorem key_lr(a:Int)(b:Str):decide ((Sum.inl a:Key)=Sum.inr b)=false:=decide_eq_false (fun q=>nomatch q)
theorem key_rl(a:Str)(b:Int):decide ((Sum.inr a:Key)=Sum.inl b)=false:=decide_eq_false (fun q=>nomatch q)
def mixKind(prog:Program)(w:World):PySem.KeyKind prog w Key where
 is:=keyIs
 hash:=keyH w
 inj:=fun v a b ha hb=>by
  rcases keyIs_shape ha with ⟨i,t,rfl,rfl⟩ | ⟨x,t,rfl,rfl⟩
  ·rcases keyIs_shape hb with ⟨j,u,rfl,e⟩ | ⟨y,u,rfl,e⟩
   ·injection e with e1 _;rw[e1]
   ·exact nomatch e
  ·rcases keyIs_shape hb with ⟨j,u,rfl,e⟩ | ⟨y,u,rfl,e⟩
   ·exact nomatch e
   ·injection e with e1 _;rw[e1]
 byValue:=fun k v h=>by
  rcases keyIs_shape h with ⟨i,t,rfl,rfl⟩ | ⟨x,t,rfl,rfl⟩<;>rfl
 pyHash:=fun hv h=>by
  rcases keyIs_shape hv with ⟨i,t,rfl,rfl⟩ | ⟨x,t,rfl,rfl⟩
  ·exact wpAny_pyHash_int h
  ·exact wpAny_pyHash_str h
 eqBool:=fun hu hv h=>by
  rcases keyIs_shape hu with ⟨i,t,rfl,rfl⟩ | ⟨x,t,rfl,rfl⟩
  ·rcases keyIs_shape hv with ⟨j,u,rfl,rfl⟩ | ⟨y,u,rfl,rfl⟩
   ·rw[key_ll] at h;exact wpAny_eqBool_int h
   ·rw[key_lr] at h;exact SeqAt.EqAt.int_str i t y u _ _ _ _ h
  ·rcases keyIs_shape hv with ⟨j,u,rfl,rfl⟩ | ⟨y,u,rfl,rfl⟩
   ·rw[key_rl] at h;exact SeqAt.EqAt.str_int x t j u _ _ _ _ h
   ·rw[key_rr] at h;exact wpAny_eqBool_str h
 «strs»:=fun k x t v h=>by
  rcases keyIs_shape h with ⟨i,u,rfl,e⟩ | ⟨y,u,rfl,e⟩
  ·exact nomatch e
  ·injection e with e1 _
   subst e1
   cases v<;>rfl
end L2
namespace L2
open PySem PySem.Spec PyProof.Rows
inductive V where
 | non | bl (b:Bool) | int (i:Int) | str (x:Str) | byt (b:Array UInt8) | flt (b:UInt64) | ref (a:Addr) | ty (n:String)
 deriving DecidableEq
def RelV:V→Value→Prop
 | .non,u=>u=Value.none
 | .bl b,u=>u=Value.bool b
 | .int i,u=>∃t,u=Value.int i t
 | .str x,u=>∃t,u=Value.str x t
 | .byt b,u=>∃t,u=Value.bytes b t
 | .flt b,u=>∃t,u=Value.float b t
 | .ref a,u=>u=Value.ref a
 | .ty n,u=>u=Value.type n
abbrev Vals:List V→List Value→Prop:=Paired RelV
theorem Vals.length{xs:List V}{us:List Value}(r:Vals xs us):xs.length=us.length:=Paired.length r
theorem Vals.get:∀{xs:List V} {us:List Value} {i:Nat} {x:V},Vals xs us→xs[i]?=some x→∃u,us[i]?=some u∧RelV x u
 | _,_,_,_,.nil,e=>by simp at e
 | _,_,0,_,.cons r _,e=>by simp at e;subst e;exact⟨_,rfl,r⟩
 | _,_,i+1,x,.cons _ t,e=>by
  obtain⟨u,h1,h2⟩:=Vals.get (i:=i) (x:=x) t (by simpa using e)
  exact⟨u,by simpa using h1,h2⟩
theorem Vals.set{x:V}{u:Value}(r:RelV x u):∀{xs:List V} {us:List Value} (i:Nat),Vals xs us→Vals (xs.set i x) (us.set i u)
 | _,_,_,.nil=>.nil
 | _,_,0,.cons _ t=>.cons r t
 | _,_,i+1,.cons q t=>.cons q (Vals.set r i t)
theorem Vals.append:∀{xs ys:List V} {us ws:List Value},Vals xs us→Vals ys ws→Vals (xs++ys) (us++ws)
 | _,_,_,_,.nil,s=>s
 | _,_,_,_,.cons r t,s=>.cons r (Vals.append t s)
theorem Vals.take:∀{xs:List V} {us:List Value} (n:Nat),Vals xs us→Vals (xs.take n) (us.take n)
 | _,_,0,_=>.nil
 | _,_,_+1,.nil=>.nil
 | _,_,n+1,.cons r t=>.cons r (Vals.take n t)
theorem Vals.drop:∀{xs:List V} {us:List Value} (n:Nat),Vals xs us→Vals (xs.drop n) (us.drop n)
 | _,_,0,r=>r
 | _,_,_+1,.nil=>.nil
 | _,_,n+1,.cons _ t=>Vals.drop n t
def RelO:Option V→Option Value→Prop
 | some v,some u=>RelV v u
 | none,none=>True
 | _,_=>False
def KV{κ:Type}:List (κ×V)→List (κ×Value)→Prop:=Paired fun(p:κ×V) (q:κ×Value)=>p.1=q.1∧RelV p.2 q.2
def kV:Key→V
 | .inl i=>.int i
 | .inr x=>.str x
inductive HO where
 | lst (xs:List V)
 | tup (xs:List V)
 | dK (kvs:List (Key×V)) | dT (kvs:List (List Key×V))
 | set (S:Int→Bool) (n:Nat)
 | ins (C dx:Addr) (fs:List (Str×V))
 | own (x:Addr)
 | xd (fs:List (Str×V))
 | met (f x:Addr)
 | rng (lo hi:Int)
 | frz (o:Obj) (u:HO)
 | tbl (ps:Array Value)
 | ext (φ:Heap→Prop)
abbrev Hp:=Addr→Option HO
def upd(H:Hp)(a:Addr)(o:HO):Hp:=fun b=>if b=a then some o else H b
theorem upd_same{H:Hp}{a:Addr}{o:HO}:upd H a o a=some o:=by unfold upd;rw[if_pos rfl]
theorem upd_ne{H:Hp}{a b:Addr}{o:HO}(h:b≠a):upd H a o b=H b:=by unfold upd;rw[if_neg h]
theorem upd_upd{H:Hp}{a:Addr}{o u:HO}:upd (upd H a o) a u=upd H a u:=by
 funext b;unfold upd;split<;>rfl
theorem ne_of{H:Hp}{a b:Addr}{o u:HO}(h:H a=some o)(h':H b=some u)(d:o≠u):a≠b:=by
 intro e;subst e;rw[h] at h';exact d (Option.some.inj h')
theorem ne_of_none{H:Hp}{a b:Addr}{o:HO}(h:H a=some o)(h':H b=none):a≠b:=by
 intro e;subst e;rw[h] at h';cases h'
section
variable(P:Program)(w:World)
def ObjOk(H:Hp)(h:Heap)(a:Addr):HO→Prop
 | .lst xs=>xs.length≤sizeLine∧∃(its:List Value) (n:Nat),Vals xs its∧h.get? a=some { cls:=.type "list",data:=.seq its.toArray n }
 | .tup xs=>xs.length≤sizeLine∧∃its:List Value,Vals xs its∧IsTup h a its.toArray
 | .dK kvs=>kvs.length≤sizeLine∧(a==sysModules)=false∧∃vs,KV kvs vs∧h.DictOf (mixKind P w) a vs
 | .dT kvs=>kvs.length≤sizeLine∧(a==sysModules)=false∧∃xs:List (List Key×Addr×Value),
  Paired (fun (p:List Key×V) (q:List Key×Addr×Value)=>p.1=q.1∧H q.2.1=some (.tup (p.1.map kV))∧RelV p.2 q.2.2) kvs xs∧
  ∃o es ep,h.get? a=some o∧o.ExactDict∧o.data=.dict es ep∧es.toList=xs.map (entryOfKey (tupleKind (mixKind P w)))∧(xs.map (·.1)).Nodup
 | .set S n=>h.SetOf (intKind P w) a S n
 | .ins C dx fs=>H dx=some (.own a)∧fs.length≤1000∧dx≠a∧h.get? a=some (PySem.W.instObj C dx)∧
  ∃mA,h.Ns1 dx mA∧(∀f,RelO (fs.lookup f) (mA f))∧PySem.Within mA (fs.map (·.1))
 | .own _=>∃o,h.get? a=some o
 | .xd fs=>∃mA,h.Ns1 a mA∧∀f,RelO (fs.lookup f) (mA f)
 | .rng lo hi=>∃t u v,h.get? a=some { cls:=.type "range",data:=.fields #[.int lo t,.int hi u,.int 1 v] }
 | .frz o u=>h.get? a=some o∧ObjOk H h a u
 | .tbl ps=>h.get? a=some { cls:=.none,data:=.fields ps }
 | .met f x=>h.get? a=some (PySem.W.methodObj (.ref f) (.ref x))
 | .ext φ=>φ h∧(∃o,h.get? a=some o)∧∀h1 h2:Heap,φ h1→(∀o,h1.get? a=some o→h2.get? a=some o)→φ h2
def HOk(H:Hp)(h:Heap):Prop:=∀a o,H a=some o→ObjOk P w H h a o
end
section
variable{P:Program}{w:World}{H H':Hp}{h h':Heap}{a:Addr}{o:HO}
theorem ObjOk.lt(x:ObjOk P w H h a o):a<h.objs.size:=by
 cases o with
 | lst xs=>obtain⟨_,_,_,_,e⟩:=x;exact Heap.lt_size e
 | tup xs=>obtain⟨_,_,_,p⟩:=x;exact p.lt
 | dK kvs=>obtain⟨_,_,_,_,o,_,_,e,_⟩:=x;exact Heap.lt_size e
 | dT kvs=>obtain⟨_,_,_,_,o,_,_,e,_⟩:=x;exact Heap.lt_size e
 | set S n=>obtain⟨o,_,_,_,e,_⟩:=x;exact Heap.lt_size e
 | ins C dx fs=>obtain⟨_,_,_,e,_⟩:=x;exact Heap.lt_size e
 | own y=>obtain⟨_,e⟩:=x;exact Heap.lt_size e
 | xd fs=>obtain⟨_,⟨_,_,_,e,_⟩,_⟩:=x;exact Heap.lt_size e
 | rng lo hi=>obtain⟨_,_,_,e⟩:=x;exact Heap.lt_size e
 | frz ob u=>obtain⟨e,_⟩:=x;exact Heap.lt_size e
 | tbl ps=>exact Heap.lt_size (show h.get? a=some _ from x)
 | met f y=>exact Heap.lt_size (show h.get? a=some _ from x)
 | ext φ=>obtain⟨_,⟨_,e⟩,_⟩:=x;exact Heap.lt_size e
theorem Paired.mapP{α β:Type}{F G:α→β→Prop}:∀{l₁:List α} {l₂:List β},Paired F l₁ l₂→(∀a b,F a b→G a b)→Paired G l₁ l₂
 | _,_,.nil,_=>.nil
 | _,_,.cons r t,f=>.cons (f _ _ r) (Paired.mapP t f)
theorem ObjOk.stay(x:ObjOk P w H h a o)(k:∀b u,(b=a∨H b=some (.own a))→h.get? b=some u→h'.get? b=some u)
 (ho:∀b,H b=some (.own a)→H' b=some (.own a))(ht:∀b xs,H b=some (.tup xs)→H' b=some (.tup xs)):ObjOk P w H' h' a o:=by
 induction o with
 | lst xs=>obtain⟨z,its,n,r,e⟩:=x;exact⟨z,its,n,r,k _ _ (.inl rfl) e⟩
 | tup xs=>obtain⟨z,its,r,ob,e,c⟩:=x;exact⟨z,its,r,ob,k _ _ (.inl rfl) e,c⟩
 | dK kvs=>obtain⟨z,y,vs,r,ob,es,ep,e,c⟩:=x;exact⟨z,y,vs,r,ob,es,ep,k _ _ (.inl rfl) e,c⟩
 | dT kvs=>
  obtain⟨z,y,xs,r,ob,es,ep,e,c⟩:=x
  exact⟨z,y,xs,Paired.mapP r fun p q z=>⟨z.1,ht _ _ z.2.1,z.2.2⟩,ob,es,ep,k _ _ (.inl rfl) e,c⟩
 | set S n=>obtain⟨ob,es,ep,t,e,c⟩:=x;exact⟨ob,es,ep,t,k _ _ (.inl rfl) e,c⟩
 | ins C dx fs=>
  obtain⟨d,z,ne,e,mA,⟨od,es,ep,e2,c⟩,r⟩:=x
  exact⟨ho _ d,z,ne,k _ _ (.inl rfl) e,mA,⟨od,es,ep,k _ _ (.inr d) e2,c⟩,r⟩
 | own y=>obtain⟨ob,e⟩:=x;exact⟨ob,k _ _ (.inl rfl) e⟩
 | xd fs=>obtain⟨mA,⟨od,es,ep,e,c⟩,r⟩:=x;exact⟨mA,⟨od,es,ep,k _ _ (.inl rfl) e,c⟩,r⟩
 | rng lo hi=>obtain⟨t,u,v,e⟩:=x;exact⟨t,u,v,k _ _ (.inl rfl) e⟩
 | frz ob u ih=>obtain⟨e,q⟩:=x;exact⟨k _ _ (.inl rfl) e,ih q⟩
 | tbl ps=>
  have e:h.get? a=some { cls:=.none,data:=.fields ps }:=x
  show h'.get? a=some { cls:=.none,data:=.fields ps }
  exact k a _ (.inl rfl) e
 | met f y=>
  have e:h.get? a=some (PySem.W.methodObj (.ref f) (.ref y)):=x
  show h'.get? a=some (PySem.W.methodObj (.ref f) (.ref y))
  exact k a _ (.inl rfl) e
 | ext φ=>obtain⟨p,⟨o,e⟩,st⟩:=x;exact⟨st _ _ p fun o q=>k _ _ (.inl rfl) q,⟨o,k _ _ (.inl rfl) e⟩,st⟩
theorem HOk.lt(x:HOk P w H h)(e:H a=some o):a<h.objs.size:=(x a o e).lt
theorem HOk.fresh(x:HOk P w H h)(e:h.objs.size≤a):H a=none:=by
 cases q:H a with
 | none=>rfl
 | some u=>exact absurd (Nat.lt_of_lt_of_le (x.lt q) e) (Nat.lt_irrefl _)
theorem HOk.kept(x:HOk P w H h)(k:∀b u,h.get? b=some u→h'.get? b=some u):HOk P w H h':=fun a o e=>
 (x a o e).stay (fun b u _ q=>k b u q) (fun _ q=>q) fun _ _ q=>q
theorem HOk.laid(x:HOk P w H h)(k:∀b u,h.get? b=some u→h'.get? b=some u)(hp:h.objs.size≤a)(new:ObjOk P w (upd H a o) h' a o):HOk P w (upd H a o) h':=fun b u e=>by
 have hn:=x.fresh hp
 by_cases hb:b=a
 ·subst hb;rw[upd_same] at e;cases e;exact new
 ·rw[upd_ne hb] at e
  exact(x b u e).stay (fun c v _ q=>k c v q) (fun c q=>by rw[upd_ne (ne_of_none q hn)];exact q) fun c xs q=>by rw[upd_ne (ne_of_none q hn)];exact q
end
def Rd(H:Hp)(a:Addr)(u:HO):Prop:=H a=some u∨∃o,H a=some (.frz o u)
theorem Rd.of{H:Hp}{a:Addr}{u:HO}(h:H a=some u):Rd H a u:=.inl h
theorem Rd.ok{P:Program}{w:World}{H:Hp}{h:Heap}{a:Addr}{u:HO}(r:Rd H a u)(x:HOk P w H h):ObjOk P w H h a u:=by
 rcases r with r | ⟨o,r⟩
 ·exact x a u r
 ·obtain⟨_,q⟩:=x a _ r
  exact q
def Mut:Option HO→Prop
 | some (.lst _)=>True
 | some (.dK _)=>True
 | some (.dT _)=>True
 | some (.set _ _)=>True
 | some (.ins _ _ _)=>True
 | some (.ext _)=>True
 | _=>False
section
variable{P:Program}{w:World}{H:Hp}{h h':Heap}{x e:Addr}{o':HO}
theorem HOk.write(ok:HOk P w H h)(mu:Mut (H x))(he:e=x∨H e=some (.own x))(k:∀b u,b≠e→h.get? b=some u→h'.get? b=some u)(heo:∃u,h'.get? e=some u)
 (new:ObjOk P w (upd H x o') h' x o'):HOk P w (upd H x o') h':=fun b u q=>by
 have nown:∀c y,H c=some (.own y)→c≠x:=fun c y r z=>by subst z;rw[r] at mu;exact mu
 have ntup:∀c xs,H c=some (.tup xs)→c≠x:=fun c xs r z=>by subst z;rw[r] at mu;exact mu
 by_cases hb:b=x
 ·subst hb;rw[upd_same] at q;cases q;exact new
 ·rw[upd_ne hb] at q
  by_cases hbe:b=e
  ·have q':H b=some (.own x):=by
    rcases he with z | z
    ·exact absurd (hbe.trans z) hb
    ·rw[hbe];exact z
   rw[q] at q';cases q'
   obtain⟨v,hv⟩:=heo
   exact⟨v,by rw[hbe];exact hv⟩
  ·refine(ok b u q).stay (fun c v hc r=>k c v ?_ r) (fun c r=>by rw[upd_ne (nown c b r)];exact r) fun c xs r=>by rw[upd_ne (ntup c xs r)];exact r
   rcases hc with rfl | hc
   ·exact hbe
   ·rintro rfl
    rcases he with z | z
    ·exact nown c b hc z
    ·rw[hc] at z;cases z;exact hb rfl
end
structure Un(fs ex:List Addr)(H H':Hp)(h h':Heap):Prop where
 keep:∀b o,h.get? b=some o→H b=none→b∉fs→b∉ex→h'.get? b=some o
 slot:∀b o,h.get? b=some o→H b=none→b∈fs→b∉ex→∃sl,h'.get? b=some { o with slots:=sl }
 free:∀b o,h.get? b=some o→H b=none→b∉ex→H' b=none
 there:∀b o,h.get? b=some o→b∉ex→∃o',h'.get? b=some o'
 tups:∀b xs,H b=some (.tup xs)→H' b=some (.tup xs)
 frzs:∀b o u,H b=some (.frz o u)→H' b=some (.frz o u)
 tbls:∀b ps,H b=some (.tbl ps)→∃more,H' b=some (.tbl (ps++more))
section
variable{fs fs' ex ex':List Addr}{H H1 H2:Hp}{h h1 h2 h':Heap}{a x e:Addr}{o:HO}
theorem Un.any(u:Un fs ex H H1 h h1){b:Addr}{ob:Obj}(q:h.get? b=some ob)(n:H b=none)(hx:b∉ex):∃sl,h1.get? b=some { ob with slots:=sl }:=by
 by_cases hb:b∈fs
 ·exact u.slot b ob q n hb hx
 ·exact⟨ob.slots,u.keep b ob q n hb hx⟩
theorem Un.trans(a:Un fs ex H H1 h h1)(b:Un fs ex H1 H2 h1 h2):Un fs ex H H2 h h2 where
 keep:=fun c ob q n hc hx=>b.keep c ob (a.keep c ob q n hc hx) (a.free c ob q n hx) hc hx
 slot:=fun c ob q n hc hx=>by
  obtain⟨sl,e1⟩:=a.slot c ob q n hc hx
  obtain⟨sl',e2⟩:=b.slot c _ e1 (a.free c ob q n hx) hc hx
  exact⟨sl',e2⟩
 free:=fun c ob q n hx=>by
  obtain⟨o',e1⟩:=a.there c ob q hx
  exact b.free c o' e1 (a.free c ob q n hx) hx
 there:=fun c ob q hx=>by
  obtain⟨o',e1⟩:=a.there c ob q hx
  exact b.there c o' e1 hx
 tups:=fun c xs q=>b.tups c xs (a.tups c xs q)
 frzs:=fun c ob xs q=>b.frzs c ob xs (a.frzs c ob xs q)
 tbls:=fun c ps q=>by
  obtain⟨m1,e1⟩:=a.tbls c ps q
  obtain⟨m2,e2⟩:=b.tbls c _ e1
  exact⟨m1++m2,by rw[e2,Array.append_assoc]⟩
theorem Un.kept(k:∀b u,h.get? b=some u→h'.get? b=some u):Un fs ex H H h h':=
 ⟨fun b ob q _ _ _=>k b ob q,fun b ob q _ _ _=>⟨ob.slots,k b ob q⟩,fun _ _ _ n _=>n,fun b ob q _=>⟨ob,k b ob q⟩,fun _ _ q=>q,fun _ _ _ q=>q,fun _ ps q=>⟨#[],by rw[q];simp⟩⟩
theorem Un.refl:Un fs ex H H h h:=Un.kept fun _ _ q=>q
theorem Un.laid(k:∀b u,h.get? b=some u→h'.get? b=some u)(hp:h.objs.size≤a)(hn:H a=none):Un fs ex H (upd H a o) h h' where
 keep:=fun b u q _ _ _=>k b u q
 slot:=fun b u q _ _ _=>⟨u.slots,k b u q⟩
 free:=fun b u q n _=>by rw[upd_ne (Nat.ne_of_lt (Nat.lt_of_lt_of_le (Heap.lt_size q) hp))];exact n
 there:=fun b u q _=>⟨u,k b u q⟩
 tups:=fun b xs q=>by rw[upd_ne (ne_of_none q hn)];exact q
 frzs:=fun b u xs q=>by rw[upd_ne (ne_of_none q hn)];exact q
 tbls:=fun b ps q=>⟨#[],by rw[upd_ne (ne_of_none q hn),q];simp⟩
theorem Un.write(mu:Mut (H x))(he:e=x∨H e=some (.own x))(k:∀b u,b≠e→h.get? b=some u→h'.get? b=some u)(heo:∃u,h'.get? e=some u):Un fs ex H (upd H x o) h h':=by
 have hx:∀b,H b=none→b≠x:=fun b n z=>by subst z;rw[n] at mu;exact mu
 have hb:∀b,H b=none→b≠e:=fun b n z=>by
  subst z
  rcases he with r | r
  ·exact hx b n r
  ·rw[n] at r;cases r
 have hm:∀b u,H b=some u→¬Mut (some u)→b≠x:=fun b u q nm z=>by subst z;rw[q] at mu;exact nm mu
 refine⟨fun b u q n _ _=>k b u (hb b n) q,fun b u q n _ _=>⟨u.slots,k b u (hb b n) q⟩,fun b u q n _=>by rw[upd_ne (hx b n)];exact n,fun b u q _=>?_,
  fun b xs q=>by rw[upd_ne (hm b _ q fun z=>z)];exact q,fun b u xs q=>by rw[upd_ne (hm b _ q fun z=>z)];exact q,fun b ps q=>⟨#[],by rw[upd_ne (hm b _ q fun z=>z),q];simp⟩⟩
 by_cases hbe:b=e
 ·subst hbe;exact heo
 ·exact⟨u,k b u hbe q⟩
theorem Un.mono(u:Un fs ex H H1 h h1)(hs:∀b∈fs,b∈fs')(hx:∀b∈ex,b∈ex'):Un fs' ex' H H1 h h1:=
 ⟨fun b ob q n hb he=>u.keep b ob q n (fun z=>hb (hs b z)) fun z=>he (hx b z),fun _ _ q n _ he=>u.any q n fun z=>he (hx _ z),fun b ob q n he=>u.free b ob q n fun z=>he (hx b z),fun b ob q he=>u.there b ob q fun z=>he (hx b z),u.tups,u.frzs,u.tbls⟩
end
def trk(h:Heap)(H:Hp):List Addr:=(List.range h.objs.size).filter fun a=>(H a).isSome
def hidT(h:Heap)(H:Hp):Heap:=PySem.W.hideAll h (trk h H)
theorem hidT_size(h:Heap)(H:Hp):(hidT h H).objs.size=h.objs.size:=PySem.W.hideAll_size _ _
theorem hidT_get{h:Heap}{H:Hp}{b:Addr}{o:Obj}(e:h.get? b=some o)(n:H b=none):(hidT h H).get? b=some o:=
 PySem.W.hideAll_get _ e fun hm=>by
  have q:(H b).isSome=true:=(List.mem_filter.mp hm).2
  rw[n] at q;simp at q
theorem of_hidT{h:Heap}{H:Hp}{b:Addr}{o:Obj}(e:(hidT h H).get? b=some o):h.get? b=some o∧H b=none:=by
 have e':h.get? b=some o:=PySem.W.of_hideAll (trk h H) e
 refine⟨e',?_⟩
 cases q:H b with
 | none=>rfl
 | some x=>
  have hm:b∈trk h H:=List.mem_filter.mpr ⟨List.mem_range.mpr (Heap.lt_size e'),by simp[q]⟩
  have z:(hidT h H).get? b=none:=PySem.W.hideAll_none (trk h H) hm
  rw[z] at e;cases e
def allNews(g h:Heap)(L:Addr):List (Addr×Obj):=(List.range h.objs.size).filterMap fun a=>if a=L∨(g.get? a).isSome=true then none else (h.get? a).map fun o=>(a,o)
def rest(g h:Heap)(L d:Addr):List (Addr×Obj):=(allNews g h L).filter fun p=>decide (p.1≠d)
end L2
namespace L2
open PySem PySem.Spec PyProof.Rows
structure Mod(K:PySem.W.Frag)(mg:Str→Option Value)(base:Heap):Prop where
 kin:K.In base
 glob:base.Ns mainGlobals mg
 blt:∃mb,base.Ns builtinsNs mb∧∀x:Str,x≠"__name__"→mb x=bootBuiltins x
 nolimit:base.NoLimit
structure Cx where
 prog:Program
 w:World
 K:PySem.W.Frag
 mg:Str→Option Value
 base:Heap
 A:Around
 N:List Str
 s₀:Shared
 H₀:Hp
 env:Env
 outer:List Env
 stack:List Env
 ex:List Addr
 fn:Str→Bool
 calm:Bool
 pn:List (Addr×Obj)
 xe:Value→Shared→Prop
def frs(l:List Env):List Addr:=l.filterMap (·.frame)
abbrev Cx.fs(X:Cx):List Addr:=frs X.outer
def Vis(sc:Scope)(x:Str):Prop:=sc.names.lookup x=some .local∨sc.names.lookup x=some .cell∨sc.names.lookup x=some .free
def Loc(sc:Scope)(x:Str):Prop:=sc.names.lookup x=some .local∨sc.names.lookup x=some .cell
def Look(env:Env)(h:Heap)(m:Str→Option Value)(x:Str)(u:Value):Prop:=
 (env.kindOf x=some .local∧m x=some u)∨((env.kindOf x=some .cell∨env.kindOf x=some .free)∧∃c,env.cells.lookup x=some c∧h.IsCell c (some u))
structure Cx.Ok(X:Cx):Prop where
 mod:Mod X.K X.mg X.base
 kind:X.env.scope.kind=.function
 glob:X.env.globals=mainGlobals
 blt:X.env.builtins=builtinsNs
 above:X.s₀.heap.objs.size≤X.env.locals
 inj:∀x y c,X.env.cells.lookup x=some c→X.env.cells.lookup y=some c→x=y
 has:∀x,(X.env.kindOf x=some .cell∨X.env.kindOf x=some .free)→∃c,X.env.cells.lookup x=some c
 cab:∀x c,X.fn x=true→X.env.cells.lookup x=some c→X.s₀.heap.objs.size≤c
 hd:X.calm=true→X.A.handled=none
 frames:X.A.frames=some X.stack
 stk:X.stack=X.outer∨(X.stack=X.env::X.outer∧X.env.frame=some X.env.locals)
 exf:∀b∈X.ex,b≠X.env.locals∧∀x c,X.env.cells.lookup x=some c→c≠b
 bs:∀b o,X.base.get? b=some o→X.s₀.heap.get? b=some o∧X.H₀ b=none
 bsz:X.base.objs.size≤X.s₀.heap.objs.size
 noex:∀b o,X.base.get? b=some o→b∉X.ex
 exfs:∀b∈X.ex,b∉X.fs
 funs:X.s₀.heap.FunFrames X.base X.outer
 frf:∀b∈X.fs,X.H₀ b=none
structure Inv(X:Cx)(pins:List (Addr×Obj))(σ:List (Option V))(H:Hp)(s:Shared):Prop where
 ok:X.Ok
 os:s.os=X.s₀.os
 bare:AllBare s.gens
 base:Un X.fs X.ex X.H₀ H X.s₀.heap s.heap
 loc:∃m,s.heap.Ns X.env.locals m∧∀(i:Nat) (x:Str) (v:V),X.N[i]?=some x→σ[i]?=some (some v)→Vis X.env.scope x→∃u,RelV v u∧Look X.env s.heap m x u
 cell:∀x c,X.env.cells.lookup x=some c→∃v,s.heap.IsCell c v
 free:H X.env.locals=none
 freeC:∀x c,X.env.cells.lookup x=some c→H c=none
 pin:∀p∈X.pn++pins,s.heap.get? p.1=some p.2∧H p.1=none∧p.1≠X.env.locals∧p.1∉X.fs∧∀v,p.2.data≠.cell v
 hok:HOk X.prog X.w H s.heap
 len:σ.length=X.N.length
section
variable{X:Cx}{pins:List (Addr×Obj)}{σ:List (Option V)}{H H':Hp}{s:Shared}{h':Heap}
theorem Cx.Ok.nofr(ok:X.Ok){b:Addr}{o:Obj}(e:X.base.get? b=some o):b∉X.fs:=fun hb=>by
 have:=(ok.funs.mem hb).1
 rw[e] at this;cases this
theorem Inv.bs(I:Inv X pins σ H s):∀b o,X.base.get? b=some o→s.heap.get? b=some o∧H b=none:=fun b o e=>
 ⟨I.base.keep b o (I.ok.bs b o e).1 (I.ok.bs b o e).2 (I.ok.nofr e) (I.ok.noex b o e),I.base.free b o (I.ok.bs b o e).1 (I.ok.bs b o e).2 (I.ok.noex b o e)⟩
theorem Inv.bk(I:Inv X pins σ H s):∀b o,X.base.get? b=some o→s.heap.get? b=some o:=fun b o e=>(I.bs b o e).1
theorem Inv.mod(I:Inv X pins σ H s):Mod X.K X.mg X.base:=I.ok.mod
theorem Inv.kIn(I:Inv X pins σ H s):X.K.In s.heap:=I.ok.mod.kin.keeps I.bk
theorem Inv.fr(I:Inv X pins σ H s):∃m,Fr X.base X.env.locals s.heap m:=
 let ⟨m,hn,_⟩:=I.loc
 ⟨m,hn,I.bk,Nat.le_trans I.ok.bsz I.ok.above⟩
theorem Inv.lt(I:Inv X pins σ H s):X.env.locals<s.heap.objs.size:=let ⟨_,hn,_⟩:=I.loc;hn.lt
theorem Inv.sz(I:Inv X pins σ H s):X.s₀.heap.objs.size≤s.heap.objs.size:=Nat.le_trans I.ok.above (Nat.le_of_lt I.lt)
theorem Inv.nofs(I:Inv X pins σ H s){a:Addr}(h:s.heap.objs.size≤a):a∉X.fs:=fun hb=>by
 obtain⟨_,o,ho,_⟩:=I.ok.funs.mem hb
 exact absurd (Nat.lt_of_lt_of_le (Heap.lt_size ho) (Nat.le_trans I.sz h)) (Nat.lt_irrefl _)
theorem Inv.cne(I:Inv X pins σ H s):∀x c,X.env.cells.lookup x=some c→c≠X.env.locals:=fun x c e z=>by
 obtain⟨v,o,ho,hd⟩:=I.cell x c e
 obtain⟨m,⟨o',es,ep,ho',hd',_⟩,_⟩:=I.loc
 rw[z,ho'] at ho;cases ho;rw[hd'] at hd;cases hd
theorem Inv.funs(I:Inv X pins σ H s):s.heap.FunFrames X.base X.outer:=by
 have all:∀(l:List Env),(∀b∈frs l,b∈X.fs)→X.s₀.heap.FunFrames X.base l→s.heap.FunFrames X.base l:=by
  intro l
  induction l with
  | nil=>intro _ _;trivial
  | cons env r ih=>
   intro hs hl
   obtain⟨hk,⟨L,o,hf,hn,ho,hd⟩,hr⟩:=hl
   have hL:L∈X.fs:=hs L (by unfold frs;rw[List.filterMap_cons,hf];exact List.mem_cons_self)
   obtain⟨sl,e⟩:=I.base.slot L o ho (I.ok.frf L hL) hL fun z=>I.ok.exfs L z hL
   exact⟨hk,⟨L,_,hf,hn,e,hd⟩,ih (fun b hb=>hs b (by unfold frs;rw[List.filterMap_cons,hf];exact List.mem_cons_of_mem _ hb)) hr⟩
 exact all X.outer (fun _ hb=>hb) I.ok.funs
theorem Inv.stack(I:Inv X pins σ H s):s.heap.FunFrames X.base X.stack:=by
 rcases I.ok.stk with e | ⟨e,hf⟩
 ·rw[e];exact I.funs
 ·rw[e]
  obtain⟨m,hn,_⟩:=I.loc
  refine .cons (by rw[I.ok.kind];decide) hf hn ?_ I.funs
  exact Heap.get?_none_of_le (Nat.le_trans I.ok.bsz I.ok.above)
theorem Inv.stkSub(I:Inv X pins σ H s):∀b∈frs X.stack,b∈X.env.locals::X.fs:=fun b hb=>by
 rcases I.ok.stk with e | ⟨e,hf⟩
 ·rw[e] at hb;exact List.mem_cons_of_mem _ hb
 ·rw[e] at hb
  unfold frs at hb
  rw[List.filterMap_cons,hf] at hb
  exact hb
theorem Inv.stkFree(I:Inv X pins σ H s):∀b∈frs X.stack,H b=none:=fun b hb=>by
 rcases List.mem_cons.mp (I.stkSub b hb) with e | hb
 ·rw[e];exact I.free
 ·obtain⟨_,o,ho,_⟩:=I.ok.funs.mem hb
  exact I.base.free b o ho (I.ok.frf b hb) fun z=>I.ok.exfs b z hb
theorem Inv.step{g':Array GenState}{t':Nat}{d':Drawn}{ch:List Addr}(I:Inv X pins σ H s)
 (hch:∀b∈ch,(b∈X.ex∨X.s₀.heap.objs.size≤b)∧b≠X.env.locals∧(∀x c,X.env.cells.lookup x=some c→c≠b)∧∀p∈X.pn++pins,p.1≠b)
 (keep:∀b o,b≠X.env.locals→b∉X.fs→b∉ch→s.heap.get? b=some o→H b=none→h'.get? b=some o)
 (slot:∀b o,b≠X.env.locals→b∈X.fs→b∉ch→s.heap.get? b=some o→H b=none→∃sl,h'.get? b=some { o with slots:=sl })(free:∀b o,b∉ch→s.heap.get? b=some o→H b=none→H' b=none)
 (there:∀b o,b∉ch→s.heap.get? b=some o→∃o',h'.get? b=some o')
 (tups:∀b xs,H b=some (.tup xs)→H' b=some (.tup xs))(frzs:∀b o u,H b=some (.frz o u)→H' b=some (.frz o u))(tbls:∀b ps,H b=some (.tbl ps)→∃more,H' b=some (.tbl (ps++more)))
 (ns:∀m,s.heap.Ns X.env.locals m→h'.Ns X.env.locals m)(hok:HOk X.prog X.w H' h')(hg:AllBare g'):
 Inv X pins σ H' { s with heap:=h',gens:=g',drawn:=d',toks:=t' }:=by
 have neL:∀b o,X.s₀.heap.get? b=some o→b≠X.env.locals:=fun b o e=>Nat.ne_of_lt (Nat.lt_of_lt_of_le (Heap.lt_size e) I.ok.above)
 have neC:∀b o,X.s₀.heap.get? b=some o→b∉X.ex→b∉ch:=fun b o e hx hb=>by
  rcases(hch b hb).1 with z | z
  ·exact hx z
  ·exact absurd (Nat.lt_of_lt_of_le (Heap.lt_size e) z) (Nat.lt_irrefl _)
 have cellK:∀x c,X.env.cells.lookup x=some c→∀v,s.heap.IsCell c v→h'.IsCell c v:=fun x c e v ⟨o,ho,hd⟩=>by
  have nch:c∉ch:=fun z=>(hch c z).2.2.1 x c e rfl
  by_cases hc:c∈X.fs
  ·obtain⟨sl,q⟩:=slot c o (I.cne x c e) hc nch ho (I.freeC x c e)
   exact⟨_,q,hd⟩
  ·exact⟨o,keep c o (I.cne x c e) hc nch ho (I.freeC x c e),hd⟩
 refine⟨I.ok,I.os,hg,⟨fun b o e n hb hx=>?_,fun b o e n hb hx=>?_,fun b o e n hx=>?_,fun b o e hx=>?_,fun b xs e=>tups b xs (I.base.tups b xs e),fun b o xs e=>frzs b o xs (I.base.frzs b o xs e),fun b ps e=>?_⟩,?_,fun x c e=>?_,?_,fun x c e=>?_,fun p hp=>?_,hok,I.len⟩
 ·exact keep b o (neL b o e) hb (neC b o e hx) (I.base.keep b o e n hb hx) (I.base.free b o e n hx)
 ·obtain⟨sl,e1⟩:=I.base.slot b o e n hb hx
  obtain⟨sl',e2⟩:=slot b _ (neL b o e) hb (neC b o e hx) e1 (I.base.free b o e n hx)
  exact⟨sl',e2⟩
 ·obtain⟨o',e1⟩:=I.base.there b o e hx
  exact free b o' (neC b o e hx) e1 (I.base.free b o e n hx)
 ·obtain⟨o',e1⟩:=I.base.there b o e hx
  exact there b o' (neC b o e hx) e1
 ·obtain⟨m1,e1⟩:=I.base.tbls b ps e
  obtain⟨m2,e2⟩:=tbls b _ e1
  exact⟨m1++m2,by rw[e2,Array.append_assoc]⟩
 ·obtain⟨m,hn,hl⟩:=I.loc
  refine⟨m,ns m hn,fun i x v e1 e2 e3=>?_⟩
  obtain⟨u,r,l⟩:=hl i x v e1 e2 e3
  refine⟨u,r,?_⟩
  rcases l with l | ⟨k,c,e,z⟩
  ·exact .inl l
  ·exact .inr ⟨k,c,e,cellK x c e _ z⟩
 ·obtain⟨v,z⟩:=I.cell x c e
  exact⟨v,cellK x c e v z⟩
 ·obtain⟨m,⟨o,_,_,ho,_⟩,_⟩:=I.loc
  exact free _ o (fun z=>(hch _ z).2.1 rfl) ho I.free
 ·obtain⟨v,o,ho,hd⟩:=I.cell x c e
  exact free c o (fun z=>(hch c z).2.2.1 x c e rfl) ho (I.freeC x c e)
 ·obtain⟨e,n,ne,nf,d⟩:=I.pin p hp
  have nch:p.1∉ch:=fun z=>(hch p.1 z).2.2.2 p hp rfl
  exact⟨keep p.1 p.2 ne nf nch e n,free p.1 p.2 nch e n,ne,nf,d⟩
theorem Inv.un{t':Nat}(I:Inv X pins σ H s)(u:Un X.fs [] H H' s.heap h')(hok:HOk X.prog X.w H' h'):Inv X pins σ H' { s with heap:=h',toks:=t' }:=by
 obtain⟨m,⟨o,es,ep,ho,r⟩,_⟩:=id I.loc
 obtain⟨sl,hL⟩:=u.any ho I.free (by simp)
 exact I.step (g':=s.gens) (d':=s.drawn) (ch:=[]) (fun _ z=>nomatch z) (fun b o _ hb _ e n=>u.keep b o e n hb (by simp)) (fun b o _ hb _ e n=>u.slot b o e n hb (by simp)) (fun b o _ e n=>u.free b o e n (by simp)) (fun b o _ e=>u.there b o e (by simp)) u.tups u.frzs u.tbls (fun m' hm=>by
  obtain⟨o',es',ep',ho',r'⟩:=hm
  rw[ho] at ho';cases ho'
  exact⟨_,es',ep',hL,r'⟩) hok I.bare
theorem Inv.call{g':Array GenState}{t':Nat}{d':Drawn}{ch:List Addr}(I:Inv X pins σ H s)(u:Un (frs X.stack) ch H H' s.heap h')(hok:HOk X.prog X.w H' h')(hg:AllBare g')
 (hch:∀b∈ch,(b∈X.ex∨X.s₀.heap.objs.size≤b)∧b≠X.env.locals∧(∀x c,X.env.cells.lookup x=some c→c≠b)∧∀p∈X.pn++pins,p.1≠b):
 Inv X pins σ H' { s with heap:=h',gens:=g',drawn:=d',toks:=t' }:=by
 obtain⟨m,⟨o,es,ep,ho,r⟩,_⟩:=id I.loc
 obtain⟨sl,hL⟩:=u.any ho I.free fun z=>(hch _ z).2.1 rfl
 exact I.step (ch:=ch) hch (fun b o hL hb hc e n=>u.keep b o e n (fun z=>(List.mem_cons.mp (I.stkSub b z)).elim hL hb) hc) (fun b o _ _ hc e n=>u.any e n hc) (fun b o hc e n=>u.free b o e n hc) (fun b o hc e=>u.there b o e hc) u.tups u.frzs u.tbls (fun m' hm=>by
  obtain⟨o',es',ep',ho',r'⟩:=hm
  rw[ho] at ho';cases ho'
  exact⟨_,es',ep',hL,r'⟩) hok hg
theorem Inv.turned{t':Nat}{it:Addr}(I:Inv X pins σ H s)(k:∀b o,b≠it→s.heap.get? b=some o→h'.get? b=some o)(hn:H it=none)(hL:it≠X.env.locals)
 (h1:it∈X.ex∨X.s₀.heap.objs.size≤it)(h2:∀x c,X.env.cells.lookup x=some c→c≠it)(h3:∀p∈X.pn++pins,p.1≠it):Inv X pins σ H { s with heap:=h',toks:=t' }:=by
 have nit:∀b u,H b=some u→b≠it:=fun b u e z=>by rw[z,hn] at e;cases e
 refine I.step (g':=s.gens) (d':=s.drawn) (ch:=[it]) (fun b hb=>?_) (fun b o _ _ hc e _=>k b o (fun z=>hc (by simp[z])) e) (fun b o _ _ hc e _=>⟨o.slots,k b o (fun z=>hc (by simp[z])) e⟩) (fun _ _ _ _ n=>n)
  (fun b o hc e=>⟨o,k b o (fun z=>hc (by simp[z])) e⟩) (fun _ _ e=>e) (fun _ _ _ e=>e) (fun b ps e=>⟨#[],by rw[e];simp⟩) (fun m hm=>?_) (fun b u e=>?_) I.bare
 ·have e:b=it:=by simpa using hb
  subst e
  exact⟨h1,hL,h2,h3⟩
 ·obtain⟨o,es,ep,ho,r⟩:=hm
  exact⟨o,es,ep,k _ o (Ne.symm hL) ho,r⟩
 ·refine(I.hok b u e).stay (fun c v hc q=>k c v ?_ q) (fun _ q=>q) fun _ _ q=>q
  rcases hc with z | z
  ·rw[z];exact nit b u e
  ·exact nit c _ z
theorem Inv.tok(I:Inv X pins σ H s)(t:Nat):Inv X pins σ H { s with toks:=t }:=I.un (h':=s.heap) (t':=t) Un.refl I.hok
theorem Inv.kept{t':Nat}(I:Inv X pins σ H s)(k:∀b u,s.heap.get? b=some u→h'.get? b=some u):Inv X pins σ H { s with heap:=h',toks:=t' }:=I.un (Un.kept k) (I.hok.kept k)
theorem Inv.laid{a:Addr}{o:HO}{t':Nat}(I:Inv X pins σ H s)(k:∀b u,s.heap.get? b=some u→h'.get? b=some u)(hp:s.heap.objs.size≤a)(new:ObjOk X.prog X.w (upd H a o) h' a o):
 Inv X pins σ (upd H a o) { s with heap:=h',toks:=t' }:=I.un (Un.laid k hp (I.hok.fresh hp)) (I.hok.laid k hp new)
theorem Inv.write{x e:Addr}{o:HO}{t':Nat}(I:Inv X pins σ H s)(mu:Mut (H x))(he:e=x∨H e=some (.own x))(k:∀b u,b≠e→s.heap.get? b=some u→h'.get? b=some u)(heo:∃u,h'.get? e=some u)
 (new:ObjOk X.prog X.w (upd H x o) h' x o):Inv X pins σ (upd H x o) { s with heap:=h',toks:=t' }:=I.un (Un.write mu he k heo) (I.hok.write mu he k heo new)
theorem Inv.pins_of{pins':List (Addr×Obj)}(I:Inv X pins σ H s)(h:∀p∈pins',s.heap.get? p.1=some p.2∧H p.1=none∧p.1≠X.env.locals∧p.1∉X.fs∧∀v,p.2.data≠.cell v):Inv X pins' σ H s:=
 ⟨I.ok,I.os,I.bare,I.base,I.loc,I.cell,I.free,I.freeC,fun p hp=>(List.mem_append.mp hp).elim (fun z=>I.pin p (List.mem_append_left _ z)) (h p),I.hok,I.len⟩
theorem nodup_ix{N:List Str}(hN:N.Nodup){i j:Nat}{x:Str}(a:N[i]?=some x)(b:N[j]?=some x):i=j:=by
 obtain⟨h1,e1⟩:=List.getElem?_eq_some_iff.mp a
 obtain⟨h2,e2⟩:=List.getElem?_eq_some_iff.mp b
 exact(List.getElem_inj hN).mp (e1.trans e2.symm)
theorem store_ok2{M:Model}{A:Around}{E:Value→Shared→Prop}{i:Nat}{x:Str}{v:V}{u:Value}{Q:Unit→Shared→Prop}(I:Inv X pins σ H s)(hN:X.N.Nodup)(hi:X.N[i]?=some x)(hx:Loc X.env.scope x)(r:RelV v u)
 (h:∀s',Inv X pins (σ.set i (some v)) H s'→(∃a,Heap.SameBut a s.heap s'.heap∧(a=X.env.locals∨X.env.cells.lookup x=some a))→Q () s')(hf:X.fn x=true∨X.env.scope.names.lookup x=some .local:=by first | exact .inl rfl | exact .inr rfl | assumption):wpAny M A (storeName X.env x u) Q E s:=by
 obtain⟨m,hn,hl⟩:=id I.loc
 have hcls:(X.env.scope.kind==.class||(X.env.scope.kind==.module&&X.env.locals != X.env.globals))=false:=by rw[I.ok.kind];rfl
 have hiσ:i<σ.length:=by rw[I.len];exact(List.getElem?_eq_some_iff.mp hi).1
 have cne:=I.cne
 have tracked:∀{a:Addr} {h':Heap},(∃o,s.heap.get? a=some o∧H a=none)→Heap.SameBut a s.heap h'→HOk X.prog X.w H h':=fun{a h'} ha hs b ob e=>by
  obtain⟨_,_,hfree⟩:=ha
  refine(I.hok b ob e).stay (fun c w' hc q=>(hs.2 c ?_).trans q) (fun _ q=>q) fun _ _ q=>q
  rintro rfl
  rcases hc with rfl | hc
  ·rw[hfree] at e;cases e
  ·rw[hfree] at hc;cases hc
 rcases hx with hk | hk
 ·refine wpAny_storeName_local hk hn (fun h' hn' hs=>?_) hcls
  obtain⟨oL,_,_,hoL,_⟩:=id hn
  refine h _ ⟨I.ok,I.os,I.bare,⟨fun b o e n hb hx=>?_,fun b o e n hb hx=>?_,I.base.free,fun b o e hx=>?_,I.base.tups,I.base.frzs,I.base.tbls⟩,⟨_,hn',fun j y v' e1 e2 e3=>?_⟩,fun y c e=>?_,I.free,I.freeC,fun p hp=>?_,tracked ⟨oL,hoL,I.free⟩ hs,by simpa using I.len⟩ ⟨_,hs,.inl rfl⟩
  ·exact(hs.2 b (Nat.ne_of_lt (Nat.lt_of_lt_of_le (Heap.lt_size e) I.ok.above))).trans (I.base.keep b o e n hb hx)
  ·obtain⟨sl,e1⟩:=I.base.slot b o e n hb hx
   exact⟨sl,(hs.2 b (Nat.ne_of_lt (Nat.lt_of_lt_of_le (Heap.lt_size e) I.ok.above))).trans e1⟩
  ·obtain⟨o',e1⟩:=I.base.there b o e hx
   exact⟨o',(hs.2 b (Nat.ne_of_lt (Nat.lt_of_lt_of_le (Heap.lt_size e) I.ok.above))).trans e1⟩
  ·by_cases hj:j=i
   ·subst hj
    rw[hi] at e1;cases e1
    rw[List.getElem?_set_self hiσ] at e2
    cases e2
    exact⟨u,r,.inl ⟨hk,by simp⟩⟩
   ·rw[List.getElem?_set_ne (Ne.symm hj)] at e2
    obtain⟨u',r',q⟩:=hl j y v' e1 e2 e3
    refine⟨u',r',?_⟩
    rcases q with ⟨k,e⟩ | ⟨k,c,e,z⟩
    ·refine .inl ⟨k,?_⟩
     have:y≠x:=fun e=>hj (nodup_ix hN e1 (e ▸ hi))
     simp[this,e]
    ·exact .inr ⟨k,c,e,z.sameBut hs (cne y c e)⟩
  ·obtain⟨w',z⟩:=I.cell y c e
   exact⟨w',z.sameBut hs (cne y c e)⟩
  ·obtain⟨e,n,ne,nf,d⟩:=I.pin p hp
   exact⟨(hs.2 p.1 ne).trans e,n,ne,nf,d⟩
 ·have hfn:X.fn x=true:=by
   rcases hf with z | z
   ·exact z
   ·rw[z] at hk;cases hk
  obtain⟨c,hc⟩:=I.ok.has x (.inl hk)
  obtain⟨w',z⟩:=I.cell x c hc
  refine wpAny_storeName_cell I.ok.kind hk hc z (fun h' hc' hs=>?_)
  obtain⟨oc,hoc,hocd⟩:=id z
  refine h { s with heap:=h' } ⟨I.ok,I.os,I.bare,⟨fun b o e n hb hx=>?_,fun b o e n hb hx=>?_,I.base.free,fun b o e hx=>?_,I.base.tups,I.base.frzs,I.base.tbls⟩,⟨m,hn.sameBut hs (Ne.symm (cne x c hc)),fun j y v' e1 e2 e3=>?_⟩,fun y c' e=>?_,I.free,I.freeC,fun p hp=>?_,tracked ⟨oc,hoc,I.freeC x c hc⟩ hs,by simpa using I.len⟩ ⟨c,hs,.inr hc⟩
  ·exact(hs.2 b (Nat.ne_of_lt (Nat.lt_of_lt_of_le (Heap.lt_size e) (I.ok.cab x c hfn hc)))).trans (I.base.keep b o e n hb hx)
  ·obtain⟨sl,e1⟩:=I.base.slot b o e n hb hx
   exact⟨sl,(hs.2 b (Nat.ne_of_lt (Nat.lt_of_lt_of_le (Heap.lt_size e) (I.ok.cab x c hfn hc)))).trans e1⟩
  ·obtain⟨o',e1⟩:=I.base.there b o e hx
   exact⟨o',(hs.2 b (Nat.ne_of_lt (Nat.lt_of_lt_of_le (Heap.lt_size e) (I.ok.cab x c hfn hc)))).trans e1⟩
  ·by_cases hj:j=i
   ·subst hj
    rw[hi] at e1;cases e1
    rw[List.getElem?_set_self hiσ] at e2
    cases e2
    exact⟨u,r,.inr ⟨.inl hk,c,hc,hc'⟩⟩
   ·rw[List.getElem?_set_ne (Ne.symm hj)] at e2
    obtain⟨u',r',q⟩:=hl j y v' e1 e2 e3
    refine⟨u',r',?_⟩
    rcases q with q | ⟨k,c',e,z'⟩
    ·exact .inl q
    ·refine .inr ⟨k,c',e,z'.sameBut hs ?_⟩
     rintro rfl
     exact hj (nodup_ix hN e1 (I.ok.inj _ _ _ e hc ▸ hi))
  ·by_cases hcc:c'=c
   ·subst hcc;exact⟨_,hc'⟩
   ·obtain⟨w2,z2⟩:=I.cell y c' e
    exact⟨w2,z2.sameBut hs hcc⟩
  ·obtain⟨e,n,ne,nf,d⟩:=I.pin p hp
   refine⟨(hs.2 p.1 ?_).trans e,n,ne,nf,d⟩
   intro q
   rw[q,hoc] at e
   have q':oc=p.2:=Option.some.inj e
   exact d w' (by rw[←q'];exact hocd)
theorem store_ok{M:Model}{A:Around}{E:Value→Shared→Prop}{i:Nat}{x:Str}{v:V}{u:Value}{Q:Unit→Shared→Prop}(I:Inv X pins σ H s)(hN:X.N.Nodup)(hi:X.N[i]?=some x)(hx:Loc X.env.scope x)(r:RelV v u)
 (h:∀s',Inv X pins (σ.set i (some v)) H s'→Q () s')(hf:X.fn x=true∨X.env.scope.names.lookup x=some .local:=by first | exact .inl rfl | exact .inr rfl | assumption):wpAny M A (storeName X.env x u) Q E s:=
 store_ok2 I hN hi hx r (fun s' I' _=>h s' I') hf
theorem Inv.call'{s':Shared}{ch:List Addr}(I:Inv X pins σ H s)(ho:s'.os=s.os)(u:Un (frs X.stack) ch H H' s.heap s'.heap)(hok:HOk X.prog X.w H' s'.heap)(hg:AllBare s'.gens)
 (hch:∀b∈ch,(b∈X.ex∨X.s₀.heap.objs.size≤b)∧b≠X.env.locals∧(∀x c,X.env.cells.lookup x=some c→c≠b)∧∀p∈X.pn++pins,p.1≠b):Inv X pins σ H' s':=by
 obtain⟨h',g',d',t',o'⟩:=s'
 have e:o'=s.os:=ho
 subst e
 exact I.call (g':=g') (t':=t') (d':=d') u hok hg hch
end
abbrev XK:=Value→Option Addr→Hp→Prop
abbrev St:=List (Option V)
abbrev VK:=V→Hp→Prop
abbrev TE:=St→Hp→VK→Prop
abbrev TT:=St→Hp→(Bool→Hp→Prop)→Prop
abbrev TA:=St→Hp→(List V→Hp→Prop)→Prop
structure Ends where
 nx:St→Hp→Prop
 rt:VK
 bk:St→Hp→Prop:=fun _ _=>False
 ct:St→Hp→Prop:=fun _ _=>False
abbrev TS:=Ends→St→Hp→Prop
def EP(X:Cx)(pins:List (Addr×Obj))(σ:St)(Q:VK)(u:Value)(s':Shared):Prop:=∃v H',Inv X pins σ H' s'∧RelV v u∧Q v H'
def TP(X:Cx)(pins:List (Addr×Obj))(σ:St)(Q:Bool→Hp→Prop)(b:Bool)(s':Shared):Prop:=∃H',Inv X pins σ H' s'∧Q b H'
def AP(X:Cx)(pins:List (Addr×Obj))(σ:St)(Q:List V→Hp→Prop)(us:List Value)(s':Shared):Prop:=∃vs H',Inv X pins σ H' s'∧Vals vs us∧Q vs H'
def SP(X:Cx)(pins:List (Addr×Obj))(D:Ends)(f:Flow)(s':Shared):Prop:=
 match f with
 | .next=>∃σ' H',Inv X pins σ' H' s'∧D.nx σ' H'
 | .brk=>∃σ' H',Inv X pins σ' H' s'∧D.bk σ' H'
 | .cont=>∃σ' H',Inv X pins σ' H' s'∧D.ct σ' H'
 | .ret u=>∃v σ' H',Inv X pins σ' H' s'∧RelV v u∧D.rt v H'
def PE(X:Cx)(e:Expr)(t:TE):Prop:=
 ∀(pins:List (Addr×Obj)) (s:Shared) (σ:St) (H:Hp) (Q:VK),Inv X pins σ H s→t σ H Q→wpAny (model X.prog X.w) X.A (eval e X.env) (EP X pins σ Q) X.xe s
def PT(X:Cx)(e:Expr)(t:TT):Prop:=
 ∀(pins:List (Addr×Obj)) (s:Shared) (σ:St) (H:Hp) (Q:Bool→Hp→Prop),Inv X pins σ H s→t σ H Q→wpAny (model X.prog X.w) X.A (isTrue e X.env (eval e X.env)) (TP X pins σ Q) X.xe s
def PW(X:Cx)(e:Expr)(t:TT):Prop:=
 ∀(whole:Sem Value) (pins:List (Addr×Obj)) (s:Shared) (σ:St) (H:Hp) (Q:Bool→Hp→Prop),Inv X pins σ H s→t σ H Q→wpAny (model X.prog X.w) X.A (isTrue e X.env whole) (TP X pins σ Q) X.xe s
theorem PW.pt{X:Cx}{e:Expr}{t:TT}(h:PW X e t):PT X e t:=h _
def PA(X:Cx)(es:List Expr)(t:TA):Prop:=
 ∀(pos:Pos) (pins:List (Addr×Obj)) (s:Shared) (σ:St) (H:Hp) (Q:List V→Hp→Prop),Inv X pins σ H s→t σ H Q→wpAny (model X.prog X.w) X.A (spliced (backTo pos (starEach es X.env))) (AP X pins σ Q) X.xe s
def PS(X:Cx)(st:Stmt)(t:TS):Prop:=
 ∀(pins:List (Addr×Obj)) (s:Shared) (σ:St) (H:Hp) (D:Ends),Inv X pins σ H s→t D σ H→wpAny (model X.prog X.w) X.A (exec st X.env) (SP X pins D) X.xe s
def PSs(X:Cx)(st:List Stmt)(t:TS):Prop:=
 ∀(pins:List (Addr×Obj)) (s:Shared) (σ:St) (H:Hp) (D:Ends),Inv X pins σ H s→t D σ H→wpAny (model X.prog X.w) X.A (execs st X.env) (SP X pins D) X.xe s
theorem thn{α:Type}{t:Sem α}{Q Q':α→Shared→Prop}{M:Model}{A:Around}{E:Value→Shared→Prop}{s:Shared}(h:wpAny M A t Q E s)(hQ:∀a s,Q a s→Q' a s):wpAny M A t Q' E s:=wpAny_mono h hQ fun _ _ x=>x
end L2
namespace L2
open PySem PySem.Spec PyProof.Rows
section
variable{X:Cx}
def tVar(i:Nat):TE:=fun σ H Q=>∃v,σ[i]?=some (some v)∧Q v H
def tC(v:V):TE:=fun _ H Q=>Q v H
theorem pe_var{i:Nat}{x:Str}{pos:Pos}(hN:X.N[i]?=some x)(hv:Vis X.env.scope x)(hd:(x==("__debug__":Str))=false:=by decide)(hcd:(x==("__classdict__":Str))=false:=by decide):PE X (.Name x pos) (tVar i):=by
 intro pins s σ H Q I h
 obtain⟨v,e,h⟩:=h
 obtain⟨m,hn,hl⟩:=I.loc
 obtain⟨u,r,l⟩:=hl i x v hN e hv
 have fin:EP X pins σ Q u s:=⟨v,H,I,r,h⟩
 rcases l with ⟨hk,hm⟩ | ⟨hk,c,hc,hcell⟩
 ·exact wpAny_Name (wpAny_loadName_local I.ok.kind hk hn hm fin) hd
 ·rcases hk with hk | hk
  ·exact wpAny_Name (wpAny_loadName_cell I.ok.kind hk hc hcell fin) hd
  ·exact wpAny_Name (wpAny_loadName_free I.ok.kind hk hc hcell fin hcd) hd
theorem pe_int{i j pos}:PE X (.Constant (.int i) j pos) (tC (.int i)):=fun _ _ _ H _ I h=>wpAny_Constant_int ⟨.int i,H,I.tok _,⟨_,rfl⟩,h⟩
theorem pe_bl{b j pos}:PE X (.Constant (.bool b) j pos) (tC (.bl b)):=fun _ _ _ H _ I h=>Constant_bool ⟨.bl b,H,I,rfl,h⟩
theorem pe_non{j pos}:PE X (.Constant .none j pos) (tC .non):=fun _ _ _ H _ I h=>Constant_none ⟨.non,H,I,rfl,h⟩
theorem pe_str{x j pos}:PE X (.Constant (.str x) j pos) (tC (.str x)):=fun _ _ _ H _ I h=>Calls.Constant_str ⟨.str x,H,I.tok _,⟨_,rfl⟩,h⟩
def Gl(X:Cx)(x:Str):Prop:=X.env.kindOf x=some .globalImplicit
theorem ld_glob{E:Value→Shared→Prop}{pins:List (Addr×Obj)}{s:Shared}{σ:St}{H:Hp}{x:Str}{u:Value}{pos:Pos}{Q:Value→Shared→Prop}(I:Inv X pins σ H s)(hg:Gl X x)(hm:X.mg x=some u)(h:Q u s)
 (hd:(x==("__debug__":Str))=false:=by decide):wpAny (model X.prog X.w) X.A (eval (.Name x pos) X.env) Q E s:=
 Calls.Name_function_global I.ok.kind hg (Calls.loadGlobal_global (by rw[I.ok.glob];exact I.mod.glob.keeps I.bk) hm h) hd
theorem ld_blt{E:Value→Shared→Prop}{pins:List (Addr×Obj)}{s:Shared}{σ:St}{H:Hp}{x:Str}{u:Value}{pos:Pos}{Q:Value→Shared→Prop}(I:Inv X pins σ H s)(hg:Gl X x)(hm:X.mg x=none)(hv:bootBuiltins x=some u)(h:Q u s)
 (hn:x≠"__name__":=by decide)(hd:(x==("__debug__":Str))=false:=by decide):wpAny (model X.prog X.w) X.A (eval (.Name x pos) X.env) Q E s:=by
 obtain⟨mb,h1,h2⟩:=I.mod.blt
 exact Calls.Name_function_global I.ok.kind hg (Calls.loadGlobal_builtin (by rw[I.ok.glob];exact I.mod.glob.keeps I.bk) hm (by rw[I.ok.blt];exact h1.keeps I.bk) ((h2 x hn).trans hv) h) hd
theorem pe_glob{x:Str}{v:V}{u:Value}{pos:Pos}(hg:Gl X x)(hm:X.mg x=some u)(r:RelV v u)(hd:(x==("__debug__":Str))=false:=by decide):PE X (.Name x pos) (tC v):=
 fun _ _ _ H _ I h=>ld_glob I hg hm ⟨v,H,I,r,h⟩ hd
theorem pe_bltn{x:Str}{v:V}{u:Value}{pos:Pos}(hg:Gl X x)(hm:X.mg x=none)(hv:bootBuiltins x=some u)(r:RelV v u)(hn:x≠"__name__":=by decide)(hd:(x==("__debug__":Str))=false:=by decide):PE X (.Name x pos) (tC v):=
 fun _ _ _ H _ I h=>ld_blt I hg hm hv ⟨v,H,I,r,h⟩ hn hd
variable{a b:Expr}{ta tb:TE}{pos:Pos}
def tB(t:TE):TT:=fun σ H Q=>t σ H fun x H1=>∃c,x=.bl c∧Q c H1
theorem pt_val{e:Expr}{t:TE}(h:PE X e t)(he:∀whole,isTrue e X.env whole=(do let v ←whole;standAt e.pos;holding [v] (truthy v)):=by intro _;rfl):PT X e (tB t):=by
 intro pins s σ H Q I hw
 refine isTrue_plain (thn (h pins s σ H _ I hw) fun v s1 ⟨x,H1,I1,r1,q1⟩=>?_) (he _)
 obtain⟨d,rfl,q⟩:=q1
 cases r1
 exact wpAny_truthy_bool ⟨H1,I1,q⟩
variable{tA tB':TT}{rest:List Expr}
def tAnd(t u:TT):TT:=fun σ H Q=>t σ H fun c H1=>if c=true then u σ H1 Q else Q false H1
def tOr(t u:TT):TT:=fun σ H Q=>t σ H fun c H1=>if c=true then Q true H1 else u σ H1 Q
def tNot(t:TT):TT:=fun σ H Q=>t σ H fun c H1=>Q (!c) H1
theorem pw_and1(ha:PT X a tA):PW X (.BoolOp .And [a] pos) tA:=by
 intro wh pins s σ H Q I h
 refine isTrue_and (thn (ha pins s σ H Q I h) fun c s1 e=>?_)
 cases c with
 | true=>exact isTrue_and_nil e
 | false=>exact e
theorem pw_or1(ha:PT X a tA):PW X (.BoolOp .Or [a] pos) tA:=by
 intro wh pins s σ H Q I h
 refine isTrue_or (thn (ha pins s σ H Q I h) fun c s1 e=>?_)
 cases c with
 | false=>exact isTrue_or_nil e
 | true=>exact e
theorem pw_and(ha:PT X a tA)(hb:PW X (.BoolOp .And (b::rest) pos) tB'):PW X (.BoolOp .And (a::b::rest) pos) (tAnd tA tB'):=by
 intro wh pins s σ H Q I h
 refine isTrue_and (thn (ha pins s σ H _ I h) fun c s1 ⟨H1,I1,q1⟩=>?_)
 cases c with
 | true=>exact hb wh pins s1 σ H1 Q I1 q1
 | false=>exact⟨H1,I1,q1⟩
theorem pw_or(ha:PT X a tA)(hb:PW X (.BoolOp .Or (b::rest) pos) tB'):PW X (.BoolOp .Or (a::b::rest) pos) (tOr tA tB'):=by
 intro wh pins s σ H Q I h
 refine isTrue_or (thn (ha pins s σ H _ I h) fun c s1 ⟨H1,I1,q1⟩=>?_)
 cases c with
 | true=>exact⟨H1,I1,q1⟩
 | false=>exact hb wh pins s1 σ H1 Q I1 q1
theorem pt_not(ha:PT X a tA):PT X (.UnaryOp .Not a pos) (tNot tA):=by
 intro pins s σ H Q I h
 exact isTrue_not (ha pins s σ H (fun c H1=>Q (!c) H1) I h)
def tAndV(ta tb:TE):TE:=fun σ H Q=>ta σ H fun x H1=>∃c,x=.bl c∧if c=true then tb σ H1 Q else Q (.bl false) H1
def tNotV(ta:TE):TE:=fun σ H Q=>ta σ H fun x H1=>∃c,x=.bl c∧Q (.bl (!c)) H1
theorem pe_one{op}{t:TE}(h:PE X a t):PE X (.BoolOp op [a] pos) t:=fun pins s σ H Q I hw=>BoolOp_one (h pins s σ H Q I hw)
theorem pe_and(ha:PE X a ta)(hb:PE X (.BoolOp .And (b::rest) pos) tb):PE X (.BoolOp .And (a::b::rest) pos) (tAndV ta tb):=by
 intro pins s σ H Q I h
 refine BoolOp_and (thn (ha pins s σ H _ I h) fun v s1 ⟨x,H1,I1,r1,q1⟩=>?_)
 obtain⟨c,rfl,q1⟩:=q1
 cases r1
 refine wpAny_truthy_bool ?_
 cases c with
 | true=>exact hb pins s1 σ H1 Q I1 q1
 | false=>exact⟨.bl false,H1,I1,rfl,q1⟩
theorem pe_not(ha:PE X a ta):PE X (.UnaryOp .Not a pos) (tNotV ta):=by
 intro pins s σ H Q I h
 refine UnaryOp_ (thn (ha pins s σ H _ I h) fun v s1 ⟨x,H1,I1,r1,q1⟩=>?_)
 obtain⟨c,rfl,q1⟩:=q1
 cases r1
 exact not_of (wpAny_truthy_bool ⟨.bl (!c),H1,I1,rfl,q1⟩)
def tIf(t:TT)(ta tb:TE):TE:=fun σ H Q=>t σ H fun c H1=>if c=true then ta σ H1 Q else tb σ H1 Q
theorem pe_ifExp{c:Expr}(hc:PT X c tA)(ha:PE X a ta)(hb:PE X b tb):PE X (.IfExp c a b pos) (tIf tA ta tb):=by
 intro pins s σ H Q I h
 refine wpAny_IfExp (thn (hc pins s σ H _ I h) fun d s1 ⟨H1,I1,q1⟩=>?_)
 cases d with
 | true=>exact ha pins s1 σ H1 Q I1 q1
 | false=>exact hb pins s1 σ H1 Q I1 q1
end
end L2
namespace L2
open PySem PySem.Spec PyProof.Rows
def SqL(K:PySem.W.Frag)(H:Hp)(a:Addr)(xs:List V):Prop:=
 Rd H a (.lst xs)∨
  ∃(o:Obj) (its:Array Value) (n:Nat),K.lookup a=some o∧o.cls=.type "list"∧o.dict=none∧o.data=.seq its n∧its.size≤sizeLine∧Vals xs its.toList
def SqT(K:PySem.W.Frag)(H:Hp)(a:Addr)(xs:List V):Prop:=
 Rd H a (.tup xs)∨
  ∃(o:Obj) (its:Array Value) (n:Nat),K.lookup a=some o∧o.cls=.type "tuple"∧o.data=.seq its n∧its.size≤sizeLine∧Vals xs its.toList
def absV:Value→Option V
 | .none=>some .non
 | .bool b=>some (.bl b)
 | .int i _=>some (.int i)
 | .str x _=>some (.str x)
 | .bytes b _=>some (.byt b)
 | .float b _=>some (.flt b)
 | .ref a=>some (.ref a)
 | .type n=>some (.ty n)
 | _=>none
theorem RelV.abs{x:V}{u:Value}(r:RelV x u):absV u=some x:=by
 cases x with
 | non=>cases r;rfl
 | bl _=>cases r;rfl
 | int _=>obtain⟨t,rfl⟩:=r;rfl
 | str _=>obtain⟨t,rfl⟩:=r;rfl
 | byt _=>obtain⟨t,rfl⟩:=r;rfl
 | flt _=>obtain⟨t,rfl⟩:=r;rfl
 | ref _=>cases r;rfl
 | ty _=>cases r;rfl
theorem RelV.inj{x y:V}{u:Value}(r:RelV x u)(q:RelV y u):x=y:=Option.some.inj (r.abs.symm.trans q.abs)
theorem Vals.inj:∀{xs ys:List V} {us:List Value},Vals xs us→Vals ys us→xs=ys
 | _,_,_,.nil,.nil=>rfl
 | _,_,_,.cons r t,.cons r' t'=>by rw[r.inj r',Vals.inj t t']
section
variable{X:Cx}{pins:List (Addr×Obj)}{σ:St}{H:Hp}{s:Shared}{a:Addr}{xs ys:List V}
theorem SqL.of{K:PySem.W.Frag}(h:H a=some (.lst xs)):SqL K H a xs:=.inl (.inl h)
theorem SqT.of{K:PySem.W.Frag}(h:H a=some (.tup xs)):SqT K H a xs:=.inl (.inl h)
theorem Inv.list(I:Inv X pins σ H s)(h:SqL X.K H a xs):∃its:List Value,Vals xs its∧PlainL s.heap a its.toArray∧xs.length≤sizeLine:=by
 rcases h with h | ⟨o,its,n,hk,hc,hd,hs,hz,r⟩
 ·obtain⟨z,its,n,r,e⟩:=h.ok I.hok
  exact⟨its,r,⟨_,n,e,rfl,rfl,rfl⟩,z⟩
 ·refine⟨its.toList,r,⟨o,n,I.kIn a o hk,hc,hd,by simpa using hs⟩,?_⟩
  have e:=r.length
  simp only[Array.length_toList] at e
  omega
theorem Inv.tuple(I:Inv X pins σ H s)(h:SqT X.K H a xs):∃its:List Value,Vals xs its∧IsTup s.heap a its.toArray∧xs.length≤sizeLine:=by
 rcases h with h | ⟨o,its,n,hk,hc,hs,hz,r⟩
 ·obtain⟨z,its,r,p⟩:=h.ok I.hok
  exact⟨its,r,p,z⟩
 ·refine⟨its.toList,r,⟨o,I.kIn a o hk,hc,n,by simpa using hs⟩,?_⟩
  have e:=r.length
  simp only[Array.length_toList] at e
  omega
theorem Inv.list_inj(I:Inv X pins σ H s)(h:SqL X.K H a xs)(h':SqL X.K H a ys):xs=ys:=by
 obtain⟨its,r,⟨o,n,e,_,_,d⟩,_⟩:=I.list h
 obtain⟨its',r',⟨o',n',e',_,_,d'⟩,_⟩:=I.list h'
 rw[e] at e';cases e'
 rw[d] at d'
 injection d' with d1 _
 have:its=its':=by simpa using congrArg Array.toList d1
 subst this
 exact r.inj r'
theorem Inv.tuple_inj(I:Inv X pins σ H s)(h:SqT X.K H a xs)(h':SqT X.K H a ys):xs=ys:=by
 obtain⟨its,r,⟨o,e,_,n,d⟩,_⟩:=I.tuple h
 obtain⟨its',r',⟨o',e',_,n',d'⟩,_⟩:=I.tuple h'
 rw[e] at e';cases e'
 rw[d] at d'
 injection d' with d1 _
 have:its=its':=by simpa using congrArg Array.toList d1
 subst this
 exact r.inj r'
end
abbrev Cx.wish(X:Cx)(E:Value→Shared→Prop):Cx:={ X with xe:=E }
abbrev Cx.nox(X:Cx):Cx:=X.wish fun _ _=>False
theorem Cx.Ok.wish{X:Cx}(ok:X.Ok)(E:Value→Shared→Prop):(X.wish E).Ok:=
 ⟨ok.mod,ok.kind,ok.glob,ok.blt,ok.above,ok.inj,ok.has,ok.cab,ok.hd,ok.frames,ok.stk,ok.exf,ok.bs,ok.bsz,ok.noex,ok.exfs,ok.funs,ok.frf⟩
theorem Cx.Ok.unwish{X:Cx}{E:Value→Shared→Prop}(ok:(X.wish E).Ok):X.Ok:=
 ⟨ok.mod,ok.kind,ok.glob,ok.blt,ok.above,ok.inj,ok.has,ok.cab,ok.hd,ok.frames,ok.stk,ok.exf,ok.bs,ok.bsz,ok.noex,ok.exfs,ok.funs,ok.frf⟩
section
variable{X:Cx}{pins:List (Addr×Obj)}{σ:St}{H:Hp}{s:Shared}{E:Value→Shared→Prop}
theorem Inv.wish(I:Inv X pins σ H s)(E:Value→Shared→Prop):Inv (X.wish E) pins σ H s:=⟨I.ok.wish E,I.os,I.bare,I.base,I.loc,I.cell,I.free,I.freeC,I.pin,I.hok,I.len⟩
theorem Inv.unwish(I:Inv (X.wish E) pins σ H s):Inv X pins σ H s:=⟨I.ok.unwish,I.os,I.bare,I.base,I.loc,I.cell,I.free,I.freeC,I.pin,I.hok,I.len⟩
theorem SP.unwish{D:Ends}{f:Flow}{s':Shared}(h:SP (X.wish E) pins D f s'):SP X pins D f s':=by
 cases f with
 | next=>obtain⟨σ',H',I,q⟩:=h;exact⟨σ',H',I.unwish,q⟩
 | brk=>obtain⟨σ',H',I,q⟩:=h;exact⟨σ',H',I.unwish,q⟩
 | cont=>obtain⟨σ',H',I,q⟩:=h;exact⟨σ',H',I.unwish,q⟩
 | ret u=>obtain⟨v,σ',H',I,r,q⟩:=h;exact⟨v,σ',H',I.unwish,r,q⟩
theorem PSs.nox{st:List Stmt}{t:TS}(h:PSs X.nox st t):PSs X st t:=fun pins s σ H D I hw=>
 wpAny_mono (h pins s σ H D (I.wish _) hw) (fun _ _ q=>q.unwish) fun _ _ z=>False.elim z
end
section
variable{X:Cx}{st:Stmt}{rest:List Stmt}{t u:TS}{e:Expr}{te:TE}{pos:Pos}
def tNext:TS:=fun D σ H=>D.nx σ H
def tSeq(t u:TS):TS:=fun D σ H=>t { D with nx:=u D } σ H
theorem pss_nil:PSs X [] tNext:=fun _ _ σ H _ I h=>wpAny_execs_nil ⟨σ,H,I,h⟩
theorem pss_cons(h1:PS X st t)(h2:PSs X rest u):PSs X (st::rest) (tSeq t u):=by
 intro pins s σ H D I h
 refine wpAny_execs_cons (thn (h1 pins s σ H { D with nx:=u D } I h) fun f s1 q=>?_)
 cases f with
 | next=>
  obtain⟨σ',H',I',q⟩:=q
  exact h2 pins s1 σ' H' D I' q
 | ret v=>exact q
 | brk=>exact q
 | cont=>exact q
theorem pss_one(h1:PS X st t):PSs X [st] t:=by
 intro pins s σ H D I h
 refine wpAny_execs_cons (thn (h1 pins s σ H D I h) fun f s1 q=>?_)
 cases f with
 | next=>exact wpAny_execs_nil q
 | ret v=>exact q
 | brk=>exact q
 | cont=>exact q
def tBreak:TS:=fun D σ H=>D.bk σ H
theorem ps_break:PS X (.Break pos) tBreak:=fun _ _ σ H _ I h=>wpAny_Break ⟨σ,H,I,h⟩
theorem Inv.quiet{pins:List (Addr×Obj)}{σ:St}{H:Hp}{s:Shared}(I:Inv X pins σ H s):interactive X.env=false:=by simp[interactive,I.ok.kind]
def tDrop(te:TE):TS:=fun D σ H=>te σ H fun _ H1=>D.nx σ H1
theorem ps_expr(he:PE X e te)(hs:swapsWith e none pos.line X.env=pure false:=by rfl):PS X (.Expr e pos) (tDrop te):=by
 intro pins s σ H D I h
 exact wpAny_Expr_any (thn (he pins s σ H _ I h) fun v s1 ⟨x,H1,I1,r1,q1⟩=>⟨σ,H1,I1,q1⟩) I.quiet hs
def tRet(te:TE):TS:=fun D σ H=>te σ H D.rt
theorem ps_ret(he:PE X e te):PS X (.Return (some e) pos) (tRet te):=by
 intro pins s σ H D I h
 exact wpAny_Return_some (thn (he pins s σ H _ I h) fun v s1 ⟨x,H1,I1,r1,q1⟩=>⟨x,σ,H1,I1,r1,q1⟩)
def tIfS(c:TT)(t u:TS):TS:=fun D σ H=>c σ H fun b H1=>if b=true then t D σ H1 else u D σ H1
theorem ps_if{c:Expr}{a b:List Stmt}{tc:TT}(hc:PT X c tc)(ha:PSs X a t)(hb:PSs X b u):PS X (.If c a b pos) (tIfS tc t u):=by
 intro pins s σ H D I h
 refine wpAny_If (thn (hc pins s σ H _ I h) fun d s1 ⟨H1,I1,q1⟩=>?_)
 cases d with
 | true=>exact ha pins s1 σ H1 D I1 q1
 | false=>exact hb pins s1 σ H1 D I1 q1
def tNever:TS:=fun _ _ _=>False
theorem ps_never:PS X st tNever:=fun _ _ _ _ _ _ h=>h.elim
end
abbrev TG:=V→St→Hp→(St→Hp→Prop)→Prop
abbrev TGs:=List V→St→Hp→(St→Hp→Prop)→Prop
def PG(X:Cx)(target:Expr)(t:TG):Prop:=
 ∀(pins:List (Addr×Obj)) (s:Shared) (σ:St) (H:Hp) (v:V) (u:Value) (Q:St→Hp→Prop),Inv X pins σ H s→RelV v u→t v σ H Q→
  wpAny (model X.prog X.w) X.A (assign target X.env u) (fun _ s'=>∃σ' H',Inv X pins σ' H' s'∧Q σ' H') X.xe s
def PGs(X:Cx)(ts:List Expr)(t:TGs):Prop:=
 ∀(pins:List (Addr×Obj)) (s:Shared) (σ:St) (H:Hp) (vs:List V) (us:List Value) (Q:St→Hp→Prop),Inv X pins σ H s→Vals vs us→t vs σ H Q→
  wpAny (model X.prog X.w) X.A (assignInOrder ((assignEach ts X.env).map (·.2)) us) (fun _ s'=>∃σ' H',Inv X pins σ' H' s'∧Q σ' H') X.xe s
abbrev TSet:=V→V→V→Hp→(Hp→Prop)→Prop
def PSet(X:Cx)(t:TSet):Prop:=
 ∀(pins:List (Addr×Obj)) (s:Shared) (σ:St) (H:Hp) (o i v:V) (ov iv u:Value) (Q:Hp→Prop),Inv X pins σ H s→RelV o ov→RelV i iv→RelV v u→t o i v H Q→
  wpAny (model X.prog X.w) X.A (setItem ov iv u) (fun _ s'=>∃H',Inv X pins σ H' s'∧Q H') X.xe s
section
variable{X:Cx}{pos:Pos}
def gName(i:Nat):TG:=fun v σ H Q=>Q (σ.set i (some v)) H
theorem pg_name{i:Nat}{x:Str}(hN:X.N.Nodup)(hi:X.N[i]?=some x)(hx:Loc X.env.scope x)(hf:X.fn x=true∨X.env.scope.names.lookup x=some .local:=by first | exact .inl rfl | exact .inr rfl | assumption):PG X (.Name x pos) (gName i):=by
 intro pins s σ H v u Q I r h
 exact wpAny_assign_Name (store_ok I hN hi hx r (fun s' I'=>⟨_,H,I',h⟩) hf)
def gNil:TGs:=fun vs σ H Q=>vs=[]∧Q σ H
def gCons(t:TG)(u:TGs):TGs:=fun vs σ H Q=>∃v r,vs=v::r∧t v σ H fun σ' H'=>u r σ' H' Q
theorem pgs_nil:PGs X [] gNil:=by
 intro pins s σ H vs us Q I r h
 obtain⟨e,h⟩:=h
 subst e
 cases r
 exact assignInOrder_nil ⟨σ,H,I,h⟩
theorem pgs_cons{e:Expr}{es:List Expr}{t:TG}{u:TGs}(h1:PG X e t)(h2:PGs X es u)
 (hs:(assignEach (e::es) X.env).map (·.2)=assign e X.env::(assignEach es X.env).map (·.2):=by rfl):PGs X (e::es) (gCons t u):=by
 intro pins s σ H vs us Q I r h
 obtain⟨v,vr,e1,h⟩:=h
 subst e1
 cases r with
 | cons r rr=>
  rw[hs]
  refine assignInOrder_cons (thn (h1 pins s σ H _ _ _ I r h) fun _ s1 ⟨σ1,H1,I1,q1⟩=>?_)
  exact h2 pins s1 σ1 H1 _ _ Q I1 rr q1
def gTup(K:PySem.W.Frag)(n:Nat)(t:TGs):TG:=fun v σ H Q=>∃a xs,v=.ref a∧SqT K H a xs∧xs.length=n∧t xs σ H Q
theorem pg_tup{es:List Expr}{k:Nat}{t:TGs}{n:Nat}(hc:X.calm=true)(h:PGs X es t)
 (hn:(assignEach es X.env).length=n:=by rfl)(hst:(assignEach es X.env).findIdx? (·.1)=none:=by rfl):PG X (.Tuple es k pos) (gTup X.K n t):=by
 intro pins s σ H v u Q I r hw
 obtain⟨a,xs,e1,hq,hl,hw⟩:=hw
 subst e1
 cases r
 obtain⟨its,rv,ht,hz⟩:=I.tuple hq
 refine assign_Tuple_tuple (I.ok.hd hc) ht (by simp[hn,←hl,rv.length]) hst fun h' hx=>?_
 have I1:Inv X pins σ H { s with heap:=h' }:=I.kept (t':=s.toks) fun b o e=>hx b o (Nat.ne_of_lt (Heap.lt_size e)) e
 exact h pins _ σ H xs _ Q I1 (by simpa using rv) hw
def gSub(to ti:TE)(t:TSet):TG:=fun v σ H Q=>to σ H fun o H1=>ti σ H1 fun i H2=>t o i v H2 fun H3=>Q σ H3
theorem pg_sub{o i:Expr}{to ti:TE}{t:TSet}(ho:PE X o to)(hi:PE X i ti)(hs:PSet X t)
 (ha:∀v,assign (.Subscript o i pos) X.env v=(do
  let ov ←holding [v] (eval o X.env)
  let iv ←holding [v,ov] (eval i X.env)
  standAt pos
  holding [v,ov,iv] (setItem ov iv v)
  release [v,ov,iv] []):=by intro _;rfl):PG X (.Subscript o i pos) (gSub to ti t):=by
 intro pins s σ H v u Q I r h
 rw[ha]
 refine wpAny_bind (wpAny_holding (thn (ho pins s σ H _ I h) fun ov s1 ⟨x,H1,I1,r1,q1⟩=>?_))
 refine wpAny_bind (wpAny_holding (thn (hi pins s1 σ H1 _ I1 q1) fun iv s2 ⟨y,H2,I2,r2,q2⟩=>?_))
 refine wpAny_bind (wpAny_standAt (wpAny_bind (wpAny_holding (thn (hs pins s2 σ H2 x y v ov iv u _ I2 r1 r2 r q2) fun _ s3 ⟨H3,I3,q3⟩=>?_))))
 exact wpAny_release ⟨σ,H3,I3,q3⟩
def tAsg(te:TE)(g:TG):TS:=fun D σ H=>te σ H fun x H1=>g x σ H1 D.nx
theorem ps_asg{tg e:Expr}{te:TE}{g:TG}(he:PE X e te)(hg:PG X tg g)(hs:swapsWithSole [tg] e pos.line X.env=pure false:=by rfl)(hw:swappedStores [tg] e X.env=pure none:=by rfl)
 (h1:(assignEach [tg] X.env).map (·.2)=[assign tg X.env]:=by rfl):PS X (.Assign [tg] e pos) (tAsg te g):=by
 intro pins s σ H D I h
 refine wpAny_Assign_stores (thn (he pins s σ H _ I h) fun v s1 ⟨x,H1,I1,r1,q1⟩=>?_) hs hw
 rw[h1]
 exact thn (hg pins s1 σ H1 x v _ I1 r1 q1) fun _ s2 q=>q
theorem ps_set{i:Nat}{x:Str}{e:Expr}{te:TE}{pos':Pos}(hN:X.N.Nodup)(hi:X.N[i]?=some x)(hx:Loc X.env.scope x)(he:PE X e te)(hs:swapsWith e (some (.Name x pos')) pos.line X.env=pure false:=by rfl)(hf:X.fn x=true∨X.env.scope.names.lookup x=some .local:=by first | exact .inl rfl | exact .inr rfl | assumption):
 PS X (.Assign [.Name x pos'] e pos) (tAsg te (gName i)):=by
 intro pins s σ H D I h
 refine wpAny_Assign_Name (thn (he pins s σ H _ I h) fun v s1 ⟨y,H1,I1,r1,q1⟩=>?_) hs
 exact store_ok I1 hN hi hx r1 (fun s2 I2=>⟨_,H1,I2,q1⟩) hf
end
section
variable{X:Cx}{pos:Pos}
def tWhile(c:TT)(tb:TS):TS:=fun D σ H=>∃W:Nat→St→Hp→Prop,(∃m,W m σ H)∧∀m σ H,W m σ H→
 c σ H fun b H1=>if b=true then ∃N:St→Hp→Prop,(∀σ' H',N σ' H'→∃m',m'<m∧W m' σ' H')∧tb { D with nx:=N,ct:=N,bk:=D.nx } σ H1 else D.nx σ H1
theorem ps_while{c:Expr}{body:List Stmt}{tc:TT}{tb:TS}(hp:PassesOwn (model X.prog X.w) X.A X.env X.xe)(hc:PT X c tc)(hb:PSs X body tb):PS X (.While c body [] pos) (tWhile tc tb):=by
 intro pins s σ H D I h
 obtain⟨W,⟨m0,w0⟩,turn⟩:=h
 refine wpAny_While (codeAny_whileLoop (fun n s'=>∃σ' H',Inv X pins σ' H' s'∧W n σ' H') ?_ m0 ⟨σ,H,I,w0⟩)
 rintro n s1 ⟨σ1,H1,I1,w1⟩
 refine wpAny_passesOwn hp (thn (hc pins s1 σ1 H1 _ I1 (turn n σ1 H1 w1)) fun b s2 ⟨H2,I2,q2⟩=>?_)
 cases b with
 | true=>
  obtain⟨N,hN,q2⟩:=q2
  rw[if_pos rfl]
  refine wpAny_passesOwn hp (thn (hb pins s2 σ1 H2 _ I2 q2) fun f s3 q3=>?_)
  cases f with
  | next=>
   obtain⟨σ3,H3,I3,n3⟩:=q3
   obtain⟨m',hm,w3⟩:=hN σ3 H3 n3
   exact⟨m',hm,σ3,H3,I3,w3⟩
  | cont=>
   obtain⟨σ3,H3,I3,n3⟩:=q3
   obtain⟨m',hm,w3⟩:=hN σ3 H3 n3
   exact⟨m',hm,σ3,H3,I3,w3⟩
  | brk=>exact q3
  | ret v=>exact q3
 | false=>
  rw[if_neg Bool.false_ne_true]
  exact wpAny_execs_nil ⟨σ1,H2,I2,q2⟩
end
structure It where
 go:Nat→Hp→Prop
 yld:Nat→Hp→V→Hp→Prop
 stop:Nat→Hp→Prop
def FpOk(X:Cx)(pins:List (Addr×Obj))(H:Hp)(b:Addr):Prop:=
 H b=none∧b≠X.env.locals∧b∉X.fs∧(b∈X.ex∨X.s₀.heap.objs.size≤b)∧(∀x c,X.env.cells.lookup x=some c→c≠b)∧∀p∈X.pn++pins,p.1≠b
theorem Inv.fpOk{X:Cx}{pins:List (Addr×Obj)}{σ:St}{H H':Hp}{s:Shared}{b:Addr}(I:Inv X pins σ H s)(hb:s.heap.objs.size≤b)(hn:H' b=none):FpOk X pins H' b:=by
 refine⟨hn,Nat.ne_of_gt (Nat.lt_of_lt_of_le I.lt hb),I.nofs hb,.inr (Nat.le_trans I.sz hb),fun x c e z=>?_,fun p hp z=>?_⟩
 ·obtain⟨v,q⟩:=I.cell x c e
  exact absurd (Nat.lt_of_lt_of_le q.lt (by rw[z];exact hb)) (Nat.lt_irrefl _)
 ·exact absurd (Nat.lt_of_lt_of_le (Heap.lt_size (I.pin p hp).1) (by rw[z];exact hb)) (Nat.lt_irrefl _)
structure Turn(P:Program)(w:World)(K:PySem.W.Frag)(tg:Expr)(J:It)(fp:List Addr)(it:Addr)(tn:Nat→Heap→Prop):Prop where
 mem:it∈fp
 obj:∀i h,tn i h→∀b∈fp,∃o,h.get? b=some o∧∀v,o.data≠.cell v
 keep:∀i h h',tn i h→(∀b∈fp,∀o,h.get? b=some o→h'.get? b=some o)→tn i h'
 item:∀(X:Cx),X.prog=P→X.w=w→X.K=K→X.calm=true→∀(i:Nat) (pins:List (Addr×Obj)) (s:Shared) (σ:St) (H:Hp) (E:Value→Shared→Prop),Inv X pins σ H s→(∀b∈fp,FpOk X pins H b)→tn i s.heap→J.go i H→
  wpAny (model P w) X.A (pyNext (.ref it)) (fun r s1=>∃u,r=some u∧
   wpAny (model P w) X.A (letOwnedTupleGo tg (.ref it) u) (fun _ s2=>∃x H',Inv X pins σ H' s2∧RelV x u∧J.yld i H x H'∧tn (i+1) s2.heap∧∀b∈fp,H' b=none) E s1) E s
 done:∀(X:Cx),X.prog=P→X.w=w→X.K=K→X.calm=true→∀(i:Nat) (pins:List (Addr×Obj)) (s:Shared) (σ:St) (H:Hp) (E:Value→Shared→Prop),Inv X pins σ H s→(∀b∈fp,FpOk X pins H b)→tn i s.heap→J.stop i H→
  wpAny (model P w) X.A (pyNext (.ref it)) (fun r s1=>r=none∧Inv X pins σ H s1) E s
 self:∀(A:Around) (i:Nat) (s:Shared) (Q:Value→Shared→Prop) (E:Value→Shared→Prop),tn i s.heap→Q (.ref it) s→wpAny (model P w) A (pyIter (.ref it)) Q E s
abbrev TI:=St→Hp→(It→Hp→Prop)→Prop
def PIE(X:Cx)(pins:List (Addr×Obj))(σ:St)(tg:Expr)(R:It→Hp→Prop)(itv:Value)(s2:Shared):Prop:=
 ∃(it:Addr) (fp:List Addr) (tn:Nat→Heap→Prop) (J:It) (H':Hp),itv=.ref it∧Inv X pins σ H' s2∧Turn X.prog X.w X.K tg J fp it tn∧tn 0 s2.heap∧(∀b∈fp,FpOk X pins H' b)∧R J H'
def PI(X:Cx)(tg iter:Expr)(wi:TI):Prop:=
 ∀(pins:List (Addr×Obj)) (s:Shared) (σ:St) (H:Hp) (R:It→Hp→Prop),Inv X pins σ H s→wi σ H R→
  wpAny (model X.prog X.w) X.A (eval iter X.env) (fun v s1=>wpAny (model X.prog X.w) X.A (pyIter v) (PIE X pins σ tg R) X.xe s1) X.xe s
theorem go_of{M:Model}{A:Around}{E:Value→Shared→Prop}{s:Shared}{tg:Expr}{it:Addr}{u:Value}{o:Obj}{n:String}{vs:Array Value}{Q:Unit→Shared→Prop}(ho:s.heap.get? it=some o)(hc:o.cls=.type n)(hd:o.data=.fields vs)
 (hn:["enumerate","zip","dict_itemiterator","dict_reverseitemiterator","odict_iterator","itertools.zip_longest","itertools.pairwise"].contains n=false)(hQ:Q () s):wpAny M A (letOwnedTupleGo tg (.ref it) u) Q E s:=by
 unfold letOwnedTupleGo
 cases tg<;>first
  | exact wpAny_pure hQ
  | (cases u<;>first
   | exact wpAny_pure hQ
   | (refine wpAny_bind (wpAny_load ho ?_)
      rw[hc,hd]
      show wpAny M A (if (["enumerate","zip","dict_itemiterator","dict_reverseitemiterator","odict_iterator","itertools.zip_longest","itertools.pairwise"].contains n&&vs[0]?==some (rawInt _))=true then _ else _) Q E s
      rw[if_neg (by intro h;rw[hn,Bool.false_and] at h;cases h)]
      exact wpAny_pure hQ))
def Itl(K:PySem.W.Frag)(a:Addr):It:=
 ⟨fun i H=>∃xs x,SqL K H a xs∧xs[i]?=some x,fun i H x H'=>H'=H∧∀xs,SqL K H a xs→xs[i]?=some x,fun i H=>∃xs,SqL K H a xs∧xs.length≤i⟩
def Itt(K:PySem.W.Frag)(a:Addr):It:=
 ⟨fun i H=>∃xs x,SqT K H a xs∧xs[i]?=some x,fun i H x H'=>H'=H∧∀xs,SqT K H a xs→xs[i]?=some x,fun i H=>∃xs,SqT K H a xs∧xs.length≤i⟩
def Itr(lo:Int)(n:Nat):It:=⟨fun i _=>i<n,fun i H x H'=>H'=H∧x=.int (lo+i),fun i _=>n≤i⟩
theorem turn_list{P:Program}{w:World}{K:PySem.W.Frag}{tg:Expr}(a it:Addr):Turn P w K tg (Itl K a) [it] it (fun i h=>h.IsListIter it a i) where
 mem:=by simp
 obj:=fun i h st b hb=>by
  have e:b=it:=by simpa using hb
  subst e
  obtain⟨o,e,c,d⟩:=st
  exact⟨o,e,fun v z=>by rw[d] at z;cases z⟩
 keep:=fun i h h' st k=>st.at fun o e=>k it (by simp) o e
 item:=by
  intro X hP hw hK hc i pins s σ H E I hf st hg
  subst hP hw hK
  obtain⟨xs,x,hq,hx⟩:=hg
  obtain⟨its,rv,p,hz⟩:=I.list hq
  obtain⟨u,hu,ru⟩:=rv.get hx
  obtain⟨f0,f1,f2,f3,f4,f5⟩:=hf it (by simp)
  refine wpAny_pyNext_list_item st p.isList (x:=u) (by simpa using hu) fun h' st' sb=>?_
  have I1:Inv X pins σ H { s with heap:=h' }:=I.turned (t':=s.toks) (fun b o hb e=>(sb.2 b hb).trans e) f0 f1 f3 f4 f5
  obtain⟨o,e,c,d⟩:=id st'
  exact⟨u,rfl,go_of (s:={ s with heap:=h' }) e c d (by decide) ⟨x,H,I1,ru,⟨rfl,fun ys hy=>by rw[I.list_inj hy hq];exact hx⟩,st',fun b hb=>(hf b hb).1⟩⟩
 done:=by
  intro X hP hw hK hc i pins s σ H E I hf st hg
  subst hP hw hK
  obtain⟨xs,hq,hx⟩:=hg
  obtain⟨its,rv,p,hz⟩:=I.list hq
  obtain⟨f0,f1,f2,f3,f4,f5⟩:=hf it (by simp)
  have hl:=rv.length
  exact wpAny_pyNext_list_end (I.ok.hd hc) st p.isList (by simp;omega) fun h' eb=>⟨rfl,I.turned (t':=s.toks) (fun b o hb e=>eb b o hb e) f0 f1 f3 f4 f5⟩
 self:=fun _ _ _ _ _ st h=>wpAny_pyIter_listiter st h
theorem turn_tuple{P:Program}{w:World}{K:PySem.W.Frag}{tg:Expr}(a it:Addr):Turn P w K tg (Itt K a) [it] it (fun i h=>h.IsTupleIter it a i) where
 mem:=by simp
 obj:=fun i h st b hb=>by
  have e:b=it:=by simpa using hb
  subst e
  obtain⟨o,e,c,d⟩:=st
  exact⟨o,e,fun v z=>by rw[d] at z;cases z⟩
 keep:=fun i h h' st k=>st.at fun o e=>k it (by simp) o e
 item:=by
  intro X hP hw hK hc i pins s σ H E I hf st hg
  subst hP hw hK
  obtain⟨xs,x,hq,hx⟩:=hg
  obtain⟨its,rv,p,hz⟩:=I.tuple hq
  obtain⟨u,hu,ru⟩:=rv.get hx
  obtain⟨f0,f1,f2,f3,f4,f5⟩:=hf it (by simp)
  refine wpAny_pyNext_tuple_item st (show s.heap.IsTuple a its.toArray from p) (x:=u) (by simpa using hu) fun h' st' sb=>?_
  have I1:Inv X pins σ H { s with heap:=h' }:=I.turned (t':=s.toks) (fun b o hb e=>(sb.2 b hb).trans e) f0 f1 f3 f4 f5
  obtain⟨o,e,c,d⟩:=id st'
  exact⟨u,rfl,go_of (s:={ s with heap:=h' }) e c d (by decide) ⟨x,H,I1,ru,⟨rfl,fun ys hy=>by rw[I.tuple_inj hy hq];exact hx⟩,st',fun b hb=>(hf b hb).1⟩⟩
 done:=by
  intro X hP hw hK hc i pins s σ H E I hf st hg
  subst hP hw hK
  obtain⟨xs,hq,hx⟩:=hg
  obtain⟨its,rv,p,hz⟩:=I.tuple hq
  obtain⟨f0,f1,f2,f3,f4,f5⟩:=hf it (by simp)
  have hl:=rv.length
  exact wpAny_pyNext_tuple_end (I.ok.hd hc) st (show s.heap.IsTuple a its.toArray from p) (by simp;omega) fun h' eb=>⟨rfl,I.turned (t':=s.toks) (fun b o hb e=>eb b o hb e) f0 f1 f3 f4 f5⟩
 self:=fun _ _ _ _ _ st h=>wpAny_pyIter_tupleiter st h
theorem turn_range{P:Program}{w:World}{K:PySem.W.Frag}{tg:Expr}(it:Addr)(lo:Int)(n:Nat):Turn P w K tg (Itr lo n) [it] it (fun i h=>IsRangeIter h it (lo+(i:Nat)*1) ((n:Int)-(i:Nat)) 1) where
 mem:=by simp
 obj:=fun i h st b hb=>by
  have e:b=it:=by simpa using hb
  subst e
  exact⟨_,st,fun v z=>by
   have z':Data.fields _=Data.cell v:=z
   cases z'⟩
 keep:=fun i h h' st k=>k it (by simp) _ st
 item:=by
  intro X hP hw hK hc i pins s σ H E I hf st hg
  subst hP hw hK
  obtain⟨f0,f1,f2,f3,f4,f5⟩:=hf it (by simp)
  have W:=Walks.range (prog:=X.prog) (w:=X.w) (I.ok.hd hc) it lo 1 n
  refine W.item i s _ _ hg st fun v h' tk hv st' kk=>?_
  obtain⟨t,rfl⟩:=hv
  have I1:Inv X pins σ H { s with heap:=h',toks:=tk }:=I.turned (fun b o hb e=>kk b o (by simpa using hb) e) f0 f1 f3 f4 f5
  refine⟨_,rfl,go_of (s:={ s with heap:=h',toks:=tk }) (n:="range_iterator") st' rfl rfl (by decide) ⟨.int (lo+i),H,I1,⟨t,?_⟩,⟨rfl,rfl⟩,st',fun b hb=>(hf b hb).1⟩⟩
  rw[Int.mul_one]
 done:=by
  intro X hP hw hK hc i pins s σ H E I hf st hg
  subst hP hw hK
  obtain⟨f0,f1,f2,f3,f4,f5⟩:=hf it (by simp)
  exact wpAny_pyNext_range_end (I.ok.hd hc) st (by have:n≤i:=hg;omega) fun h' eb=>⟨rfl,I.turned (t':=s.toks) (fun b o hb e=>eb b o hb e) f0 f1 f3 f4 f5⟩
 self:=fun _ _ _ _ _ st h=>wpAny_pyIter_rangeiter st h
end L2
namespace L2
open PySem PySem.Spec PyProof.Rows
section
variable{X:Cx}{tg:Expr}
def iList(K:PySem.W.Frag)(tl:TE):TI:=fun σ H R=>tl σ H fun x H1=>∃a,x=.ref a∧(∃xs,SqL K H1 a xs)∧R (Itl K a) H1
def iTup(K:PySem.W.Frag)(tl:TE):TI:=fun σ H R=>tl σ H fun x H1=>∃a,x=.ref a∧(∃xs,SqT K H1 a xs)∧R (Itt K a) H1
theorem pi_list{l:Expr}{tl:TE}(hl:PE X l tl):PI X tg l (iList X.K tl):=by
 intro pins s σ H R I h
 refine thn (hl pins s σ H _ I h) fun v s1 ⟨x,H1,I1,r1,q1⟩=>?_
 obtain⟨a,e,⟨xs,hq⟩,q⟩:=q1
 subst e
 cases r1
 obtain⟨its,rv,p,hz⟩:=I1.list hq
 refine wpAny_pyIter_list p.isList ?_
 refine⟨s1.heap.objs.size,[s1.heap.objs.size],_,_,H1,rfl,I1.kept (t':=s1.toks) fun b o e=>Heap.get?_push_of_some _ e,turn_list a _,⟨_,Heap.get?_push_size _ rfl,rfl,rfl⟩,fun b hb=>?_,q⟩
 have e:b=s1.heap.objs.size:=by simpa using hb
 subst e
 exact I1.fpOk (Nat.le_refl _) (I1.hok.fresh (Nat.le_refl _))
theorem pi_tup{l:Expr}{tl:TE}(hl:PE X l tl):PI X tg l (iTup X.K tl):=by
 intro pins s σ H R I h
 refine thn (hl pins s σ H _ I h) fun v s1 ⟨x,H1,I1,r1,q1⟩=>?_
 obtain⟨a,e,⟨xs,hq⟩,q⟩:=q1
 subst e
 cases r1
 obtain⟨its,rv,p,hz⟩:=I1.tuple hq
 refine wpAny_pyIter_tuple (show s1.heap.IsTuple a its.toArray from p) ?_
 refine⟨s1.heap.objs.size,[s1.heap.objs.size],_,_,H1,rfl,I1.kept (t':=s1.toks) fun b o e=>Heap.get?_push_of_some _ e,turn_tuple a _,⟨_,Heap.get?_push_size _ rfl,rfl,rfl⟩,fun b hb=>?_,q⟩
 have e:b=s1.heap.objs.size:=by simpa using hb
 subst e
 exact I1.fpOk (Nat.le_refl _) (I1.hok.fresh (Nat.le_refl _))
theorem range_it{pins:List (Addr×Obj)}{σ:St}{H:Hp}{s:Shared}{R:It→Hp→Prop}{E:Value→Shared→Prop}{lo hi:Int}{t u v:Tok}{tk:Nat}(I:Inv X pins σ H s)(h1: -(2^62)≤lo)(h2:lo<2^62)(h3: -(2^62)≤hi)(h4:hi<2^62)
 (q:R (Itr lo (hi-lo).toNat) H):wpAny (model X.prog X.w) X.A (pyIter (.ref s.heap.objs.size)) (PIE X pins σ tg R) E { s with heap:=s.heap.push { cls:=.type "range",data:=.fields #[.int lo t,.int hi u,.int 1 v] },toks:=tk }:=by
 refine wpAny_pyIter_range (IsRange.new ..) (small_one h1 h2 h3 h4) ?_
 have I1:Inv X pins σ H { s with heap:=s.heap.push { cls:=.type "range",data:=.fields #[.int lo t,.int hi u,.int 1 v] },toks:=tk }:=I.kept fun b o e=>Heap.get?_push_of_some _ e
 refine⟨(s.heap.push { cls:=.type "range",data:=.fields #[.int lo t,.int hi u,.int 1 v] }).objs.size,[(s.heap.push { cls:=.type "range",data:=.fields #[.int lo t,.int hi u,.int 1 v] }).objs.size],_,_,H,rfl,
  I1.kept (t':=tk) fun b o e=>Heap.get?_push_of_some _ e,turn_range _ lo (hi-lo).toNat,?_,fun b hb=>?_,q⟩
 ·have e1:lo+((0:Nat):Int)*1=lo:=by simp
  have e2:(((hi-lo).toNat:Nat):Int)-((0:Nat):Int)=Builtin.Range.rangeSize lo hi 1:=by rw[rangeSize_one];split<;>omega
  show IsRangeIter _ _ (lo+((0:Nat):Int)*1) ((((hi-lo).toNat:Nat):Int)-((0:Nat):Int)) 1
  rw[e1,e2]
  exact Heap.get?_push_size _ rfl
 ·have e:b=(s.heap.push { cls:=.type "range",data:=.fields #[.int lo t,.int hi u,.int 1 v] }).objs.size:=by simpa using hb
  subst e
  exact I1.fpOk (Nat.le_refl _) (I1.hok.fresh (Nat.le_refl _))
def iRng1(ta:TA):TI:=fun σ H R=>ta σ H fun vs H1=>∃j:Int,vs=[.int j]∧ -(2^62)≤j∧j<2^62∧R (Itr 0 j.toNat) H1
theorem pi_range1{a:Expr}{ta:TA}{p pos:Pos}(hg:Gl X "range")(hm:X.mg "range"=none)(ha:PA X [a] ta)(hs:starEach [a] X.env=[(false,eval a X.env)]:=by rfl):PI X tg (.Call (.Name "range" p) [a] [] pos) (iRng1 ta):=by
 intro pins s σ H R I h
 refine Call_ (ld_blt I hg hm boot_range (PyProof.Rows.callWith_type1 (thn (ha pos pins s σ H _ I h) fun us s1 ⟨vs,H1,I1,r1,q1⟩=>?_) hs rfl))
 obtain⟨j,e,q1,q2,q⟩:=q1
 subst e
 cases r1 with
 | cons r rr=>
  cases rr
  obtain⟨t,rfl⟩:=r
  exact call_range_1 (range_it I1 (by omega) (by omega) q1 q2 (by simpa using q))
def tFor(wi:TI)(g:TG)(tb:TS):TS:=fun D σ H=>wi σ H fun J H1=>∃W:Nat→Nat→St→Hp→Prop,(∃m,W 0 m σ H1)∧∀i m σ H,W i m σ H→
 (J.stop i H∧D.nx σ H)∨(J.go i H∧∃N:St→Hp→Prop,(∀σ' H',N σ' H'→∃m',m'<m∧W (i+1) m' σ' H')∧∀x H',J.yld i H x H'→g x σ H' fun σ2 H2=>tb { D with nx:=N,ct:=N,bk:=D.nx } σ2 H2)
def pinsAt(fp:List Addr)(h:Heap):List (Addr×Obj):=fp.filterMap fun b=>(h.get? b).map fun o=>(b,o)
theorem mem_pinsAt{fp:List Addr}{h:Heap}{b:Addr}{o:Obj}(hb:b∈fp)(e:h.get? b=some o):(b,o)∈pinsAt fp h:=List.mem_filterMap.mpr ⟨b,hb,by rw[e];rfl⟩
theorem of_pinsAt{fp:List Addr}{h:Heap}{p:Addr×Obj}(hp:p∈pinsAt fp h):p.1∈fp∧h.get? p.1=some p.2:=by
 obtain⟨b,hb,e⟩:=List.mem_filterMap.mp hp
 cases q:h.get? b with
 | none=>rw[q] at e;cases e
 | some o=>
  rw[q] at e
  have e':(b,o)=p:=Option.some.inj e
  subst e'
  exact⟨hb,q⟩
theorem Inv.pinned{pins:List (Addr×Obj)}{σ:St}{H:Hp}{s:Shared}{fp:List Addr}(I:Inv X pins σ H s)(hf:∀b∈fp,FpOk X pins H b)(ho:∀b∈fp,∃o,s.heap.get? b=some o∧∀v,o.data≠.cell v):Inv X (pins++pinsAt fp s.heap) σ H s:=
 I.pins_of fun p hp=>(List.mem_append.mp hp).elim (fun z=>I.pin p (List.mem_append_right _ z)) fun z=>by
  obtain⟨hb,e⟩:=of_pinsAt z
  obtain⟨f0,f1,f2,_⟩:=hf p.1 hb
  obtain⟨o,e',d⟩:=ho p.1 hb
  rw[e] at e';cases e'
  exact⟨e,f0,f1,f2,d⟩
theorem Inv.unpinned{pins pl:List (Addr×Obj)}{σ:St}{H:Hp}{s:Shared}(I:Inv X (pins++pl) σ H s):Inv X pins σ H s:=I.pins_of fun p hp=>I.pin p (List.mem_append_right _ (List.mem_append_left _ hp))
theorem ps_for{iter:Expr}{body:List Stmt}{wi:TI}{g:TG}{tb:TS}{pos:Pos}(hp:PassesOwn (model X.prog X.w) X.A X.env X.xe)(hc:X.calm=true)(hi:PI X tg iter wi)(hg:PG X tg g)(hb:PSs X body tb)
 (hs:∀x,foldedSetIterable iter X.env x=pure x:=by intro _;rfl):PS X (.For tg iter body [] pos) (tFor wi g tb):=by
 intro pins s σ H D I h
 refine wpAny_For (thn (hi pins s σ H _ I h) fun v s1 h1=>thn h1 fun itv s2 h2=>?_) hs
 obtain⟨it,fp,tn,J,H2,e,I2,T,st2,f2,W,⟨m0,w0⟩,turn⟩:=h2
 subst e
 have stat:∀{H':Hp},(∀b∈fp,H' b=none)→∀b∈fp,FpOk X pins H' b:=fun hn b hb=>⟨hn b hb,(f2 b hb).2⟩
 refine codeAny_forLoop_any (fun n s'=>∃i σ' H',Inv X pins σ' H' s'∧tn i s'.heap∧(∀b∈fp,H' b=none)∧W i n σ' H') ?_ m0 ⟨0,σ,H2,I2,st2,fun b hb=>(f2 b hb).1,w0⟩
 rintro n s3 ⟨i,σ3,H3,I3,st3,fr3,w3⟩
 rcases turn i n σ3 H3 w3 with ⟨stop,qn⟩ | ⟨go,N,hN,step⟩
 ·refine wpAny_passesOwn hp (thn (T.done X rfl rfl rfl hc i pins s3 σ3 H3 X.xe I3 (stat fr3) st3 stop) fun r s4 ⟨hr,I4⟩=>?_)
  subst hr
  exact wpAny_execs_nil ⟨σ3,H3,I4,qn⟩
 ·refine wpAny_passesOwn hp (thn (T.item X rfl rfl rfl hc i pins s3 σ3 H3 X.xe I3 (stat fr3) st3 go) fun r s4 ⟨u,hr,h4⟩=>?_)
  subst hr
  refine wpAny_passesOwn hp (thn h4 fun _ s5 ⟨x,H5,I5,r5,y5,st5,fr5⟩=>?_)
  have I5':=I5.pinned (stat fr5) (T.obj _ _ st5)
  refine wpAny_passesOwn hp (thn (hg _ s5 σ3 H5 x u _ I5' r5 (step x H5 y5)) fun _ s6 ⟨σ6,H6,I6,q6⟩=>?_)
  refine wpAny_passesOwn hp (thn (hb _ s6 σ6 H6 _ I6 q6) fun f s7 q7=>?_)
  have again:∀{σ7:St} {H7:Hp},Inv X (pins++pinsAt fp s5.heap) σ7 H7 s7→N σ7 H7→∃m,m<n∧∃i σ' H',Inv X pins σ' H' s7∧tn i s7.heap∧(∀b∈fp,H' b=none)∧W i m σ' H':=fun{σ7 H7} I7 n7=>by
   obtain⟨m',hm,w7⟩:=hN σ7 H7 n7
   refine⟨m',hm,i+1,σ7,H7,I7.unpinned,T.keep _ _ _ st5 fun b hb o e=>(I7.pin (b,o) (List.mem_append_right _ (List.mem_append_right _ (mem_pinsAt hb e)))).1,fun b hb=>?_,w7⟩
   obtain⟨o,e,d⟩:=T.obj _ _ st5 b hb
   exact(I7.pin (b,o) (List.mem_append_right _ (List.mem_append_right _ (mem_pinsAt hb e)))).2.1
  cases f with
  | next=>obtain⟨σ7,H7,I7,n7⟩:=q7;exact again I7 n7
  | cont=>obtain⟨σ7,H7,I7,n7⟩:=q7;exact again I7 n7
  | brk=>obtain⟨σ7,H7,I7,q7⟩:=q7;exact⟨σ7,H7,I7.unpinned,q7⟩
  | ret v=>obtain⟨x7,σ7,H7,I7,r7,q7⟩:=q7;exact⟨x7,σ7,H7,I7.unpinned,r7,q7⟩
end
theorem for_list{K:PySem.W.Frag}{a:Addr}{xs:List V}{g:TG}{tb:TS}{D:Ends}{σ:St}{H:Hp}(Pv:Nat→St→Hp→Prop)(h0:Pv 0 σ H)(hl:∀i σ H,i≤xs.length→Pv i σ H→SqL K H a xs)
 (hs:∀i x σ H,xs[i]?=some x→Pv i σ H→g x σ H fun σ2 H2=>tb { D with nx:=Pv (i+1),ct:=Pv (i+1),bk:=D.nx } σ2 H2)(hd:∀σ H,Pv xs.length σ H→D.nx σ H):
 ∃W:Nat→Nat→St→Hp→Prop,(∃m,W 0 m σ H)∧∀i m σ H,W i m σ H→
  ((Itl K a).stop i H∧D.nx σ H)∨((Itl K a).go i H∧∃N:St→Hp→Prop,(∀σ' H',N σ' H'→∃m',m'<m∧W (i+1) m' σ' H')∧∀x H',(Itl K a).yld i H x H'→g x σ H' fun σ2 H2=>tb { D with nx:=N,ct:=N,bk:=D.nx } σ2 H2):=by
 refine⟨fun i m σ H=>m=xs.length-i∧i≤xs.length∧Pv i σ H,⟨xs.length,by simp,Nat.zero_le _,h0⟩,?_⟩
 rintro i m σ H ⟨rfl,hi,p⟩
 have q:=hl i σ H hi p
 by_cases hlt:i<xs.length
 ·refine .inr ⟨⟨xs,xs[i],q,by simp[hlt]⟩,Pv (i+1),fun σ' H' p'=>⟨xs.length-(i+1),by omega,rfl,hlt,p'⟩,fun x H' y=>?_⟩
  obtain⟨e,y⟩:=y
  subst e
  exact hs i x σ _ (y xs q) p
 ·have e:i=xs.length:=by omega
  subst e
  exact .inl ⟨⟨xs,q,Nat.le_refl _⟩,hd σ H p⟩
theorem for_tup{K:PySem.W.Frag}{a:Addr}{xs:List V}{g:TG}{tb:TS}{D:Ends}{σ:St}{H:Hp}(Pv:Nat→St→Hp→Prop)(h0:Pv 0 σ H)(hl:∀i σ H,i≤xs.length→Pv i σ H→SqT K H a xs)
 (hs:∀i x σ H,xs[i]?=some x→Pv i σ H→g x σ H fun σ2 H2=>tb { D with nx:=Pv (i+1),ct:=Pv (i+1),bk:=D.nx } σ2 H2)(hd:∀σ H,Pv xs.length σ H→D.nx σ H):
 ∃W:Nat→Nat→St→Hp→Prop,(∃m,W 0 m σ H)∧∀i m σ H,W i m σ H→
  ((Itt K a).stop i H∧D.nx σ H)∨((Itt K a).go i H∧∃N:St→Hp→Prop,(∀σ' H',N σ' H'→∃m',m'<m∧W (i+1) m' σ' H')∧∀x H',(Itt K a).yld i H x H'→g x σ H' fun σ2 H2=>tb { D with nx:=N,ct:=N,bk:=D.nx } σ2 H2):=by
 refine⟨fun i m σ H=>m=xs.length-i∧i≤xs.length∧Pv i σ H,⟨xs.length,by simp,Nat.zero_le _,h0⟩,?_⟩
 rintro i m σ H ⟨rfl,hi,p⟩
 have q:=hl i σ H hi p
 by_cases hlt:i<xs.length
 ·refine .inr ⟨⟨xs,xs[i],q,by simp[hlt]⟩,Pv (i+1),fun σ' H' p'=>⟨xs.length-(i+1),by omega,rfl,hlt,p'⟩,fun x H' y=>?_⟩
  obtain⟨e,y⟩:=y
  subst e
  exact hs i x σ _ (y xs q) p
 ·have e:i=xs.length:=by omega
  subst e
  exact .inl ⟨⟨xs,q,Nat.le_refl _⟩,hd σ H p⟩
theorem for_range{lo:Int}{n:Nat}{g:TG}{tb:TS}{D:Ends}{σ:St}{H:Hp}(Pv:Nat→St→Hp→Prop)(h0:Pv 0 σ H)
 (hs:∀i σ H,i<n→Pv i σ H→g (.int (lo+i)) σ H fun σ2 H2=>tb { D with nx:=Pv (i+1),ct:=Pv (i+1),bk:=D.nx } σ2 H2)(hd:∀σ H,Pv n σ H→D.nx σ H):
 ∃W:Nat→Nat→St→Hp→Prop,(∃m,W 0 m σ H)∧∀i m σ H,W i m σ H→
  ((Itr lo n).stop i H∧D.nx σ H)∨((Itr lo n).go i H∧∃N:St→Hp→Prop,(∀σ' H',N σ' H'→∃m',m'<m∧W (i+1) m' σ' H')∧∀x H',(Itr lo n).yld i H x H'→g x σ H' fun σ2 H2=>tb { D with nx:=N,ct:=N,bk:=D.nx } σ2 H2):=by
 refine⟨fun i m σ H=>m=n-i∧i≤n∧Pv i σ H,⟨n,by simp,Nat.zero_le _,h0⟩,?_⟩
 rintro i m σ H ⟨rfl,hi,p⟩
 by_cases hlt:i<n
 ·refine .inr ⟨hlt,Pv (i+1),fun σ' H' p'=>⟨n-(i+1),by omega,rfl,hlt,p'⟩,fun x H' y=>?_⟩
  obtain⟨e,y⟩:=y
  subst e y
  exact hs i σ _ hlt p
 ·have e:i=n:=by omega
  subst e
  exact .inl ⟨Nat.le_refl _,hd σ H p⟩
end L2
namespace L2
open PySem PySem.Spec PyProof.Rows
abbrev R2:=V→V→Hp→VK→Prop
def OpR(X:Cx)(f:Value→Value→Sem Value)(r:R2):Prop:=
 ∀(pins:List (Addr×Obj)) (s:Shared) (σ:St) (H:Hp) (x y:V) (v u:Value) (Q:VK),Inv X pins σ H s→RelV x v→RelV y u→r x y H Q→
  wpAny (model X.prog X.w) X.A (f v u) (EP X pins σ Q) X.xe s
def UnR(X:Cx)(f:Value→Sem Value)(r:V→Hp→VK→Prop):Prop:=
 ∀(pins:List (Addr×Obj)) (s:Shared) (σ:St) (H:Hp) (x:V) (v:Value) (Q:VK),Inv X pins σ H s→RelV x v→r x H Q→
  wpAny (model X.prog X.w) X.A (f v) (EP X pins σ Q) X.xe s
def CallR(X:Cx)(f:Value)(r:List V→Hp→VK→Prop):Prop:=
 ∀(pins:List (Addr×Obj)) (s:Shared) (σ:St) (H:Hp) (xs:List V) (us:List Value) (Q:VK),Inv X pins σ H s→Vals xs us→r xs H Q→
  wpAny (model X.prog X.w) X.A (call f us) (EP X pins σ Q) X.xe s
def tOp(r:R2)(ta tb:TE):TE:=fun σ H Q=>ta σ H fun x H1=>tb σ H1 fun y H2=>r x y H2 Q
def tUn(r:V→Hp→VK→Prop)(ta:TE):TE:=fun σ H Q=>ta σ H fun x H1=>r x H1 Q
def rI(C:Int→Int→Prop)(g:Int→Int→V):R2:=fun x y H Q=>∃i j,x=.int i∧y=.int j∧C i j∧Q (g i j) H
def rI0(g:Int→Int→V):R2:=fun x y H Q=>∃i j,x=.int i∧y=.int j∧Q (g i j) H
def rU(g:Int→V):V→Hp→VK→Prop:=fun x H Q=>∃i,x=.int i∧Q (g i) H
section
variable{X:Cx}{a b c:Expr}{ta tb tc:TE}{pos:Pos}
theorem binT(ha:PE X a ta)(hb:PE X b tb){pins:List (Addr×Obj)}{s:Shared}{σ:St}{H:Hp}{R:V→V→Hp→Prop}(I:Inv X pins σ H s)
 (h:ta σ H fun x H1=>tb σ H1 fun y H2=>R x y H2){Q:Value→Shared→Prop}{f:Value→Value→Sem Value}
 (hf:∀v u s2 x y H2,Inv X pins σ H2 s2→RelV x v→RelV y u→R x y H2→wpAny (model X.prog X.w) X.A (f v u) Q X.xe s2):
 wpAny (model X.prog X.w) X.A (eval a X.env) (fun v s₁=>wpAny (model X.prog X.w) X.A (eval b X.env) (fun u s₂=>wpAny (model X.prog X.w) X.A (f v u) Q X.xe s₂) X.xe s₁) X.xe s:=by
 refine thn (ha pins s σ H _ I h) fun v s1 ⟨x,H1,I1,r1,q1⟩=>?_
 refine thn (hb pins s1 σ H1 _ I1 q1) fun u s2 ⟨y,H2,I2,r2,q2⟩=>?_
 exact hf v u s2 x y H2 I2 r1 r2 q2
theorem pe_op{op:Operator}{r:R2}(ho:OpR X (binaryOp op) r)(ha:PE X a ta)(hb:PE X b tb):PE X (.BinOp a op b pos) (tOp r ta tb):=by
 intro pins s σ H Q I h
 exact wpAny_BinOp (binT ha hb I h fun v u s2 x y H2 I2 rx ry q=>ho pins s2 σ H2 x y v u Q I2 rx ry q)
theorem pe_un{op:UnaryOp}{r:V→Hp→VK→Prop}(ho:UnR X (unaryOp op) r)(ha:PE X a ta):PE X (.UnaryOp op a pos) (tUn r ta):=by
 intro pins s σ H Q I h
 exact UnaryOp_ (thn (ha pins s σ H _ I h) fun v s1 ⟨x,H1,I1,r1,q1⟩=>ho pins s1 σ H1 x v Q I1 r1 q1)
theorem opI{f:Value→Value→Sem Value}{C:Int→Int→Prop}{g:Int→Int→Int}
 (rule:∀(i j:Int) (t u:Tok) (s:Shared) (Q:Value→Shared→Prop) (E:Value→Shared→Prop),C i j→Q (.int (g i j) s.toks) { s with toks:=s.toks+1 }→wpAny (model X.prog X.w) X.A (f (.int i t) (.int j u)) Q E s):
 OpR X f (rI C fun i j=>.int (g i j)):=by
 intro pins s σ H x y v u Q I rx ry h
 obtain⟨i,j,rfl,rfl,hc,q⟩:=h
 obtain⟨t,rfl⟩:=rx
 obtain⟨t',rfl⟩:=ry
 exact rule i j t t' s _ _ hc ⟨.int (g i j),H,I.tok _,⟨_,rfl⟩,q⟩
theorem opI0{f:Value→Value→Sem Value}{g:Int→Int→Int}
 (rule:∀(i j:Int) (t u:Tok) (s:Shared) (Q:Value→Shared→Prop) (E:Value→Shared→Prop),Q (.int (g i j) s.toks) { s with toks:=s.toks+1 }→wpAny (model X.prog X.w) X.A (f (.int i t) (.int j u)) Q E s):
 OpR X f (rI0 fun i j=>.int (g i j)):=by
 intro pins s σ H x y v u Q I rx ry h
 obtain⟨i,j,rfl,rfl,q⟩:=h
 obtain⟨t,rfl⟩:=rx
 obtain⟨t',rfl⟩:=ry
 exact rule i j t t' s _ _ ⟨.int (g i j),H,I.tok _,⟨_,rfl⟩,q⟩
theorem opB0{f:Value→Value→Sem Value}{g:Int→Int→Bool}
 (rule:∀(i j:Int) (t u:Tok) (s:Shared) (Q:Value→Shared→Prop) (E:Value→Shared→Prop),Q (.bool (g i j)) s→wpAny (model X.prog X.w) X.A (f (.int i t) (.int j u)) Q E s):
 OpR X f (rI0 fun i j=>.bl (g i j)):=by
 intro pins s σ H x y v u Q I rx ry h
 obtain⟨i,j,rfl,rfl,q⟩:=h
 obtain⟨t,rfl⟩:=rx
 obtain⟨t',rfl⟩:=ry
 exact rule i j t t' s _ _ ⟨.bl (g i j),H,I,rfl,q⟩
def CPow(i j:Int):Prop:=0≤j∧j≤1000000∧i.natAbs<2^64
def CMul(i j:Int):Prop:=(-(2^64)<i∧i<2^64)∨(-(2^64)<j∧j<2^64)
theorem CMul.ok{i j:Int}(h:CMul i j):IntMulOk i j:=by
 rcases h with ⟨h1,h2⟩ | ⟨h1,h2⟩
 ·exact .of_left (intBits_le_64 h1 h2)
 ·exact .of_right (intBits_le_64 h1 h2)
theorem two_pow_nn(k:Nat):(0:Int)≤2^k:=by
 rw[two_pow_cast]
 exact Int.natCast_nonneg _
theorem op_add:OpR X (binaryOp .Add) (rI0 fun i j=>.int (i+j)):=opI0 fun _ _ _ _ _ _ _ q=>add_int q
theorem op_sub:OpR X (binaryOp .Sub) (rI0 fun i j=>.int (i-j)):=opI0 fun _ _ _ _ _ _ _ q=>sub_int q
theorem op_mod:OpR X (binaryOp .Mod) (rI (fun _ j=>0<j) fun i j=>.int (i%j)):=opI fun i j _ _ _ _ _ hc q=>by
 have h1:(0:Int)<j:=hc
 exact mod_int' (by omega) (by rw[Int.fmod_eq_emod_of_nonneg i (by omega)];exact q)
theorem op_pow:OpR X (binaryOp .Pow) (rI CPow fun i j=>.int (i^j.toNat)):=opI fun _ _ _ _ _ _ _ hc q=>pow_int_small hc.1 hc.2.1 hc.2.2 q
theorem op_shr:OpR X (binaryOp .RShift) (rI (fun _ j=>0≤j) fun i j=>.int (i/2^j.toNat)):=opI fun i j _ _ _ _ _ hc q=>
 rshift_int hc (by rw[Int.fdiv_eq_ediv_of_nonneg i (two_pow_nn _)];exact q)
theorem op_and:OpR X (binaryOp .BitAnd) (rI0 fun i j=>.int (Builtin.bitAnd i j)):=opI0 fun _ _ _ _ _ _ _ q=>and_int q
theorem op_or:OpR X (binaryOp .BitOr) (rI0 fun i j=>.int (Builtin.bitOr i j)):=opI0 fun _ _ _ _ _ _ _ q=>or_int q
theorem unI{f:Value→Sem Value}{g:Int→Int}
 (rule:∀(i:Int) (t:Tok) (s:Shared) (Q:Value→Shared→Prop) (E:Value→Shared→Prop),Q (.int (g i) s.toks) { s with toks:=s.toks+1 }→wpAny (model X.prog X.w) X.A (f (.int i t)) Q E s):
 UnR X f (rU fun i=>.int (g i)):=by
 intro pins s σ H x v Q I rx h
 obtain⟨i,rfl,q⟩:=h
 obtain⟨t,rfl⟩:=rx
 exact rule i t s _ _ ⟨.int (g i),H,I.tok _,⟨_,rfl⟩,q⟩
theorem un_neg:UnR X (unaryOp .USub) (rU fun i=>.int (-i)):=unI fun _ _ _ _ _ q=>neg_int q
end
def scal:V→V→Bool
 | .non,.non=>true | .non,.int _=>true | .int _,.non=>true | .non,.bl _=>true | .bl _,.non=>true | .non,.str _=>true | .str _,.non=>true
 | .int _,.int _=>true | .bl _,.bl _=>true | .str _,.str _=>true | .byt _,.byt _=>true
 | .int _,.str _=>true | .str _,.int _=>true | .bl _,.str _=>true | .str _,.bl _=>true
 | _,_=>false
def rEq:R2:=fun x y H Q=>scal x y=true∧Q (.bl (decide (x=y))) H
def rNe:R2:=fun x y H Q=>scal x y=true∧Q (.bl (!decide (x=y))) H
theorem dec_int{i j:Int}:decide (V.int i=V.int j)=(i==j):=by
 rw[Bool.eq_iff_iff]
 simp
theorem dec_bl{i j:Bool}:decide (V.bl i=V.bl j)=(i==j):=by
 rw[Bool.eq_iff_iff]
 simp
theorem dec_str{i j:Str}:decide (V.str i=V.str j)=(i==j):=by
 rw[Bool.eq_iff_iff]
 simp
theorem dec_byt{i j:Array UInt8}:decide (V.byt i=V.byt j)=(i.toList==j.toList):=by
 rw[Bool.eq_iff_iff]
 cases i
 cases j
 simp
section
variable{X:Cx}{a b c:Expr}{ta tb tc:TE}{pos:Pos}
theorem fin_bl{pins:List (Addr×Obj)}{σ:St}{H:Hp}{s:Shared}{Q:VK}{k k':Bool}(I:Inv X pins σ H s)(q:Q (.bl k) H)(e:k=k'):EP X pins σ Q (.bool k') s:=by
 subst e
 exact⟨.bl k,H,I,rfl,q⟩
theorem op_eq:OpR X (compareOp .Eq) rEq:=by
 intro pins s σ H x y v u Q I rx ry h
 obtain⟨hs,q⟩:=h
 cases x with
 | non=>
  cases rx
  cases y with
  | non=>cases ry;exact PySem.EqNone.eq_none_none (fin_bl I q (by simp))
  | bl j=>cases ry;exact PySem.EqNone.eq_none_bool (fin_bl I q (by simp))
  | int j=>obtain⟨t',rfl⟩:=ry;exact PySem.EqNone.eq_none_int (fin_bl I q (by simp))
  | str j=>obtain⟨t',rfl⟩:=ry;exact PySem.EqNone.eq_none_str (fin_bl I q (by simp))
  | _=>exact absurd (show false=true from hs) Bool.false_ne_true
 | bl i=>
  cases rx
  cases y with
  | non=>cases ry;exact PySem.EqNone.eq_bool_none (fin_bl I q (by simp))
  | bl j=>cases ry;exact eq_bool (fin_bl I q dec_bl)
  | str j=>obtain⟨t',rfl⟩:=ry;exact PySem.EqMixed.eq_bool_str (fin_bl I q (by simp))
  | _=>exact absurd (show false=true from hs) Bool.false_ne_true
 | int i=>
  obtain⟨t,rfl⟩:=rx
  cases y with
  | non=>cases ry;exact PySem.EqNone.eq_int_none (fin_bl I q (by simp))
  | int j=>obtain⟨t',rfl⟩:=ry;exact eq_int (fin_bl I q dec_int)
  | str j=>obtain⟨t',rfl⟩:=ry;exact PySem.EqMixed.eq_int_str (fin_bl I q (by simp))
  | _=>exact absurd (show false=true from hs) Bool.false_ne_true
 | str i=>
  obtain⟨t,rfl⟩:=rx
  cases y with
  | non=>cases ry;exact PySem.EqNone.eq_str_none (fin_bl I q (by simp))
  | bl j=>cases ry;exact PySem.EqMixed.eq_str_bool (fin_bl I q (by simp))
  | int j=>obtain⟨t',rfl⟩:=ry;exact PySem.EqMixed.eq_str_int (fin_bl I q (by simp))
  | str j=>obtain⟨t',rfl⟩:=ry;exact eq_str (fin_bl I q dec_str)
  | _=>exact absurd (show false=true from hs) Bool.false_ne_true
 | byt i=>
  obtain⟨t,rfl⟩:=rx
  cases y with
  | byt j=>obtain⟨t',rfl⟩:=ry;exact PySem.W.eq_bytes (fin_bl I q dec_byt)
  | _=>exact absurd (show false=true from hs) Bool.false_ne_true
 | _=>cases y<;>exact absurd (show false=true from hs) Bool.false_ne_true
theorem op_ne:OpR X (compareOp .NotEq) rNe:=by
 intro pins s σ H x y v u Q I rx ry h
 obtain⟨hs,q⟩:=h
 cases x with
 | non=>
  cases rx
  cases y with
  | non=>cases ry;exact PySem.EqNone.ne_none_none (fin_bl I q (by simp))
  | bl j=>cases ry;exact PySem.EqNone.ne_none_bool (fin_bl I q (by simp))
  | int j=>obtain⟨t',rfl⟩:=ry;exact PySem.EqNone.ne_none_int (fin_bl I q (by simp))
  | str j=>obtain⟨t',rfl⟩:=ry;exact PySem.EqNone.ne_none_str (fin_bl I q (by simp))
  | _=>exact absurd (show false=true from hs) Bool.false_ne_true
 | bl i=>
  cases rx
  cases y with
  | non=>cases ry;exact PySem.EqNone.ne_bool_none (fin_bl I q (by simp))
  | bl j=>cases ry;exact ne_bool (fin_bl I q (congrArg not dec_bl))
  | str j=>obtain⟨t',rfl⟩:=ry;exact PySem.EqMixed.ne_bool_str (fin_bl I q (by simp))
  | _=>exact absurd (show false=true from hs) Bool.false_ne_true
 | int i=>
  obtain⟨t,rfl⟩:=rx
  cases y with
  | non=>cases ry;exact PySem.EqNone.ne_int_none (fin_bl I q (by simp))
  | int j=>obtain⟨t',rfl⟩:=ry;exact ne_int (fin_bl I q (congrArg not dec_int))
  | str j=>obtain⟨t',rfl⟩:=ry;exact PySem.EqMixed.ne_int_str (fin_bl I q (by simp))
  | _=>exact absurd (show false=true from hs) Bool.false_ne_true
 | str i=>
  obtain⟨t,rfl⟩:=rx
  cases y with
  | non=>cases ry;exact PySem.EqNone.ne_str_none (fin_bl I q (by simp))
  | bl j=>cases ry;exact PySem.EqMixed.ne_str_bool (fin_bl I q (by simp))
  | int j=>obtain⟨t',rfl⟩:=ry;exact PySem.EqMixed.ne_str_int (fin_bl I q (by simp))
  | str j=>obtain⟨t',rfl⟩:=ry;exact ne_str (fin_bl I q (congrArg not dec_str))
  | _=>exact absurd (show false=true from hs) Bool.false_ne_true
 | byt i=>
  obtain⟨t,rfl⟩:=rx
  cases y with
  | byt j=>obtain⟨t',rfl⟩:=ry;exact PySem.W.ne_bytes (fin_bl I q (congrArg not dec_byt))
  | _=>exact absurd (show false=true from hs) Bool.false_ne_true
 | _=>cases y<;>exact absurd (show false=true from hs) Bool.false_ne_true
theorem op_lt:OpR X (compareOp .Lt) (rI0 fun i j=>.bl (decide (i<j))):=opB0 fun _ _ _ _ _ _ _ q=>lt_int q
theorem op_le:OpR X (compareOp .LtE) (rI0 fun i j=>.bl (decide (i≤j))):=opB0 fun _ _ _ _ _ _ _ q=>le_int q
theorem op_gt:OpR X (compareOp .Gt) (rI0 fun i j=>.bl (decide (j<i))):=opB0 fun _ _ _ _ _ _ _ q=>gt_int q
theorem op_ge:OpR X (compareOp .GtE) (rI0 fun i j=>.bl (decide (j≤i))):=opB0 fun _ _ _ _ _ _ _ q=>ge_int q
theorem op_in_str:OpR X (compareOp .In) (fun x y H Q=>∃i j,x=.str i∧y=.str j∧Q (.bl (!(Builtin.Str.occurrences j i 0 j.length 1).isEmpty)) H):=by
 intro pins s σ H x y v u Q I rx ry h
 obtain⟨i,j,rfl,rfl,q⟩:=h
 obtain⟨t,rfl⟩:=rx
 obtain⟨t',rfl⟩:=ry
 exact in_str (fin_bl I q rfl)
theorem op_isN:OpR X (compareOp .Is) (fun x y H Q=>y=.non∧Q (.bl (decide (x=.non))) H):=by
 intro pins s σ H x y v u Q I rx ry h
 obtain⟨rfl,q⟩:=h
 cases ry
 refine is_none_gen (fin_bl I q ?_)
 cases x<;>first
  | (cases rx;rfl)
  | (obtain ⟨t,rfl⟩:=rx;rfl)
theorem nomark(b:Expr){op:CmpOp}(h:op≠.In:=by decide)(h2:op≠.NotIn:=by decide):behindInMarks op b=false:=by
 have e1:(op==CmpOp.In)=false:=by cases op<;>first | rfl | exact absurd rfl h
 have e2:(op==CmpOp.NotIn)=false:=by cases op<;>first | rfl | exact absurd rfl h2
 cases b<;>simp[behindInMarks,e1,e2]
theorem pe_cmpR{op:CmpOp}{r:R2}(ho:OpR X (compareOp op) r)(ha:PE X a ta)(hb:PE X b tb)(hm:behindInMarks op b=false):PE X (.Compare a [op] [b] pos) (tOp r ta tb):=by
 intro pins s σ H Q I h
 exact wpAny_Compare1 (binT ha hb I h fun v u s2 x y H2 I2 rx ry q=>ho pins s2 σ H2 x y v u Q I2 rx ry q) hm
def tTest(t:TE):TT:=fun σ H Q=>t σ H fun x H'=>∃k,x=.bl k∧Q k H'
theorem pt_cmpR{op:CmpOp}{r:R2}(ho:OpR X (compareOp op) r)(ha:PE X a ta)(hb:PE X b tb)(hm:behindInMarks op b=false):PT X (.Compare a [op] [b] pos) (tTest (tOp r ta tb)):=by
 intro pins s σ H Q I h
 refine wpAny_isTrue_Compare1 (thn (ha pins s σ H _ I h) fun v s1 ⟨x,H1,I1,r1,q1⟩=>thn (hb pins s1 σ H1 _ I1 q1) fun u s2 ⟨y,H2,I2,r2,q2⟩=>
  thn (ho pins s2 σ H2 x y v u _ I2 r1 r2 q2) fun c s3 ⟨z,H3,I3,r3,k,e,q3⟩=>?_) hm
 subst e
 cases r3
 exact wpAny_truthy_bool ⟨H3,I3,q3⟩
def tChain(r r':R2)(ta tb tc:TE):TE:=fun σ H Q=>ta σ H fun x H1=>tb σ H1 fun y H2=>r x y H2 fun z H3=>∃k,z=.bl k∧
 (if k=true then tc σ H3 fun w' H4=>r' y w' H4 Q else Q (.bl false) H3)
theorem pe_chain{op op':CmpOp}{r r':R2}(ho:OpR X (compareOp op) r)(ho':OpR X (compareOp op') r')(ha:PE X a ta)(hb:PE X b tb)(hc:PE X c tc)
 (hm:lastMarks [op,op'] [b,c]=false:=by with_unfolding_all rfl):PE X (.Compare a [op,op'] [b,c] pos) (tChain r r' ta tb tc):=by
 intro pins s σ H Q I h
 refine Compare_chain (thn (ha pins s σ H _ I h) fun v s1 ⟨x,H1,I1,r1,q1⟩=>chain_link (thn (hb pins s1 σ H1 _ I1 q1) fun u s2 ⟨y,H2,I2,r2,q2⟩=>
  thn (ho pins s2 σ H2 x y v u _ I2 r1 r2 q2) fun d s3 ⟨z,H3,I3,r3,k,e,q3⟩=>?_)) hm
 subst e
 cases r3
 refine wpAny_truthy_bool ?_
 cases k with
 | false=>exact ite_ff ⟨.bl false,H3,I3,rfl,q3⟩
 | true=>exact ite_tt (chain_last (thn (hc pins s3 σ H3 _ I3 q3) fun w' s4 ⟨z',H4,I4,r4,q4⟩=>ho' pins s4 σ H4 y z' u w' Q I4 r2 r4 q4))
theorem line63:(sizeLine:Nat)<2^63:=by rw[sizeLine_eq];decide
theorem op_add_str:OpR X (binaryOp .Add) (fun x y H Q=>∃i j,x=.str i∧y=.str j∧i.length+j.length≤sizeLine∧Q (.str (i++j)) H):=by
 intro pins s σ H x y v u Q I rx ry h
 obtain⟨i,j,rfl,rfl,hz,q⟩:=h
 obtain⟨t,rfl⟩:=rx
 obtain⟨t',rfl⟩:=ry
 exact add_str (fun t' tk=>⟨.str (i++j),H,I.tok _,⟨_,rfl⟩,q⟩) hz
theorem vals1{x:V}{us:List Value}(r:Vals [x] us):∃u,us=[u]∧RelV x u:=by
 cases r with
 | cons r1 r2=>cases r2;exact⟨_,rfl,r1⟩
theorem vals2{x y:V}{us:List Value}(r:Vals [x,y] us):∃u w',us=[u,w']∧RelV x u∧RelV y w':=by
 cases r with
 | cons r1 r2=>
  cases r2 with
  | cons r3 r4=>cases r4;exact⟨_,_,rfl,r1,r3⟩
theorem call_int1:CallR X (.type "int") (fun xs H Q=>(∃i,xs=[.int i]∧Q (.int i) H)∨∃k,xs=[.bl k]∧Q (.int (if k then 1 else 0)) H):=by
 intro pins s σ H xs us Q I r h
 rcases h with ⟨i,rfl,q⟩ | ⟨k,rfl,q⟩
 ·obtain⟨u,rfl,t,rfl⟩:=vals1 r
  exact call_int_int ⟨.int i,H,I,⟨_,rfl⟩,q⟩
 ·obtain⟨u,rfl,r1⟩:=vals1 r
  cases r1
  exact call_int_bool ⟨.int (if k then 1 else 0),H,I.tok _,⟨_,rfl⟩,q⟩
theorem call_str_int:CallR X (.type "str") (fun xs H Q=>∃i,xs=[.int i]∧i.natAbs.log2<1920∧Q (.str (toString i)) H):=by
 intro pins s σ H xs us Q I r h
 obtain⟨i,rfl,hz,q⟩:=h
 obtain⟨u,rfl,t,rfl⟩:=vals1 r
 exact PySem.P.str_of_int hz ⟨.str _,H,I.tok _,⟨_,rfl⟩,q⟩
end
end L2
namespace L2
open PySem PySem.Spec PyProof.Rows
structure ObjM(h:Heap)(x dx C:Addr)(mA:Str→Option Value):Prop where
 obj:h.get? x=some (PySem.W.instObj C dx)
 ns:h.Ns1 dx mA
 ne:dx≠x
theorem lookIn_ns{h:Heap}{dx:Addr}{mA:Str→Option Value}(n:h.Ns1 dx mA):∃od,h.get? dx=some od∧∀name,PySem.W.lookIn name od=some (mA name):=by
 obtain⟨o,es,ep,ho,hd,hk,_,hm⟩:=n
 refine⟨o,ho,fun name=>?_⟩
 have e:=hm name
 unfold nsFind findBy at e
 rw[←Array.find?_toList] at e
 unfold PySem.W.lookIn
 rw[hd]
 dsimp only
 split
 ·rename_i y q
  rw[q] at e
  exact congrArg some e
 ·rename_i q
  rw[q] at e
  have a:es.toList.any (·.refKey)=false:=by
   rw[List.any_eq_false]
   intro y hy
   obtain⟨z,t,hkey⟩:=hk y (Array.mem_toList_iff.mp hy)
   simp[DictEntry.refKey,hkey]
  have a':¬es.toList.any (·.refKey)=true:=by rw[a];exact Bool.false_ne_true
  rw[if_neg a']
  exact congrArg some e
theorem ObjM.look{h:Heap}{x dx C:Addr}{mA:Str→Option Value}(I:ObjM h x dx C mA):∃od,PySem.W.InstAt h x (PySem.W.instObj C dx) C (some od)∧∀name,PySem.W.lookIn name od=some (mA name):=
 let ⟨od,ho,hl⟩:=lookIn_ns I.ns
 ⟨od,⟨I.obj,rfl,rfl,ho⟩,hl⟩
section
variable{prog:Program}{w:World}{A:Around}{E:Value→Shared→Prop}{s:Shared}{K:PySem.W.Frag}{x dx C f:Addr}{mA:Str→Option Value}{name:Str}{v:Value}
theorem get_map{expr:Bool}{Q:Value→Shared→Prop}(X:K.In s.heap)(I:ObjM s.heap x dx C mA)(hg:PySem.W.plainGet K C name=true)(hh:PySem.W.hasDictIn K C=true)
 (ha:PySem.W.findIn K (.ref C) name=some none)(hv:mA name=some v)(hv':PySem.W.handedIn v=true)(h:Q v { s with toks:=s.toks+1 }):
 wpAny (model prog w) A (getAttr (.ref x) name expr) Q E s:=by
 obtain⟨od,J,hl⟩:=I.look
 exact PySem.W.get_value X J (PySem.W.plainGet_of hg).1 (PySem.W.findObj_own hh ha rfl (by rw[hl,hv])) hv' h
theorem get_meth{pl:Sem Bool}{Q:Value×List Value→Shared→Prop}(X:K.In s.heap)(I:ObjM s.heap x dx C mA)(hg:PySem.W.plainGet K C name=true)
 (hf:PySem.W.findIn K (.ref C) name=some (some (.ref f)))(ht:PySem.W.isFn K (.ref f)=true)(hv:mA name=none)(h:Q (.ref f,[.ref x]) s):
 wpAny (model prog w) A (getMethod (.ref x) name pl) Q E s:=by
 obtain⟨od,J,hl⟩:=I.look
 exact PySem.W.method_fn X J (PySem.W.plainGet_of hg).1 (PySem.W.plainGet_of hg).2 hf (beq_iff_eq.mp ht) (by show(PySem.W.lookIn name od).map (·.isSome)=some false;rw[hl,hv];rfl) h
theorem set_map{ns:List Str}{Q:Unit→Shared→Prop}(X:K.In s.heap)(I:ObjM s.heap x dx C mA)
 (hs:PySem.W.findIn K (.ref C) "__setattr__"=some (some (.builtin "object.__setattr__")))(hp:PySem.W.plainOver K C=true)(ht:PySem.W.takerIn K C name=some none)(hh:PySem.W.hasDictIn K C=true)
 (hw:PySem.Within mA ns)(hsz:ns.length≤sizeLine)
 (h:∀h',ObjM h' x dx C (fun y=>if y=name then some v else mA y)→Heap.SameBut dx s.heap h'→Q () { s with heap:=h',toks:=s.toks+2 }):
 wpAny (model prog w) A (setAttr (.ref x) name v) Q E s:=by
 obtain⟨od,J,hl⟩:=I.look
 refine PySem.W.set_plain X J hs (PySem.W.osa_open (s:={ s with toks:=s.toks+1 }) (r:=none) X J hp ht fun b=>?_)
 obtain⟨cd,hc,hd'⟩:=PySem.W.any_some hh
 have hx:s.heap.get? x=some ⟨.ref C,some dx,.plain,#[]⟩:=I.obj
 refine wpAny_bind (wpAny_pure (wpAny_bind (wpAny_bind (wpAny_loadPart hx (wpAny_bind (PySem.W.Looks.here (s:={ s with toks:=s.toks+1 }) (PySem.W.looks_clsIn X hc) ?_))))))
 rw[hd']
 refine wpAny_pure (a:=some dx) (wpAny_bind (wpAny_pure (wpAny_bind ?_)))
 refine wpAny_nsSet1 (s:={ s with toks:=s.toks+1 }) I.ns fun h' hn2 hs2=>?_
 obtain⟨oD,esD,epD,hoD,hdD,hcD⟩:=hn2.count (PySem.Within.cons name v hw)
 refine wpAny_bind (wpAny_lookBehind hoD (by rw[hdD];exact pastItsLine_dict (Nat.le_trans hcD (by rw[List.length_cons];omega))) ?_)
 exact wpAny_pure (h _ ⟨(hs2.2 _ (Ne.symm I.ne)).trans I.obj,hn2,I.ne⟩ hs2)
theorem make_map{R:Result→Shared→Prop}{vs:List Value}{kw:List (Str×Value)}(X:K.In s.heap)(hm:PySem.W.makesIn K C=true)
 (hi:PySem.W.findIn K (.ref C) "__init__"=some (some (.ref f)))(hf:PySem.W.typeIn K (.ref f)=some (.type "function"))
 (h:codeAny (model prog w) (A.under (.builtin "type.__call__" ⟨.ref C::vs,kw⟩)) (.call (.ref f) ⟨.ref (s.heap.objs.size+1)::vs,kw⟩) (PySem.W.InitBack (s.heap.objs.size+1) R)
  { s with heap:=(s.heap.push PySem.W.emptyDict).push (PySem.W.instObj C s.heap.objs.size) }):
 codeAny (model prog w) A (.call (.ref C) ⟨vs,kw⟩) R s:=by
 obtain⟨hh,g,d,t,os⟩:=s
 exact PySem.W.make_core (PySem.W.makes_of X hm) (PySem.W.looks_findIn X hi) (fun self=>PySem.W.bind_fn X self hf) (.inl rfl) h
end
def putF(f:Str)(v:V):List (Str×V)→List (Str×V)
 | []=>[(f,v)]
 | (g,x)::r=>if g=f then (g,v)::r else (g,x)::putF f v r
theorem lookup_putF(f g:Str)(v:V):∀fs:List (Str×V),(putF f v fs).lookup g=if g=f then some v else fs.lookup g
 | []=>by
  show List.lookup g [(f,v)]=_
  by_cases h:g=f
  ·have hb:(g==f)=true:=beq_iff_eq.mpr h
   simp only[List.lookup,hb,if_pos h]
  ·have hb:(g==f)=false:=beq_eq_false_iff_ne.mpr h
   simp only[List.lookup,hb,if_neg h]
 | (k,x)::r=>by
  have ih:=lookup_putF f g v r
  rw[show putF f v ((k,x)::r)=(if k=f then (k,v)::r else (k,x)::putF f v r) from rfl]
  by_cases hk:k=f
  ·rw[if_pos hk]
   by_cases h:g=k
   ·have hb:(g==k)=true:=beq_iff_eq.mpr h
    simp only[List.lookup,hb,if_pos (h.trans hk)]
   ·have hb:(g==k)=false:=beq_eq_false_iff_ne.mpr h
    simp only[List.lookup,hb,if_neg (fun e:g=f=>h (e.trans hk.symm))]
  ·rw[if_neg hk]
   by_cases h:g=k
   ·have hb:(g==k)=true:=beq_iff_eq.mpr h
    simp only[List.lookup,hb,if_neg (fun e:g=f=>hk (h.symm.trans e))]
   ·have hb:(g==k)=false:=beq_eq_false_iff_ne.mpr h
    simp only[List.lookup,hb]
    exact ih
theorem keys_putF(f:Str)(v:V):∀fs:List (Str×V),f∈(putF f v fs).map (·.1)∧∀g,g∈fs.map (·.1)→g∈(putF f v fs).map (·.1)
 | []=>⟨by simp[putF],fun g h=>by simp at h⟩
 | (k,x)::r=>by
  obtain⟨i1,i2⟩:=keys_putF f v r
  rw[show putF f v ((k,x)::r)=(if k=f then (k,v)::r else (k,x)::putF f v r) from rfl]
  by_cases hk:k=f
  ·rw[if_pos hk]
   subst hk
   exact⟨by simp,fun g h=>by simpa using h⟩
  ·rw[if_neg hk]
   refine⟨?_,fun g h=>?_⟩
   ·rw[List.map_cons]
    exact List.mem_cons_of_mem _ i1
   ·rw[List.map_cons] at h ⊢
    rcases List.mem_cons.mp h with e | e
    ·exact List.mem_cons.mpr (.inl e)
    ·exact List.mem_cons_of_mem _ (i2 g e)
theorem length_putF(f:Str)(v:V):∀fs:List (Str×V),(putF f v fs).length≤fs.length+1
 | []=>by simp[putF]
 | (k,x)::r=>by
  have ih:=length_putF f v r
  rw[show putF f v ((k,x)::r)=(if k=f then (k,v)::r else (k,x)::putF f v r) from rfl]
  by_cases hk:k=f
  ·rw[if_pos hk,List.length_cons,List.length_cons];omega
  ·rw[if_neg hk,List.length_cons,List.length_cons];omega
theorem RelO.some_of{v:V}{o:Option Value}(r:RelO (some v) o):∃u,o=some u∧RelV v u:=by
 cases o with
 | none=>exact(show False from r).elim
 | some u=>exact⟨u,rfl,r⟩
theorem RelO.none_of{o:Option Value}(r:RelO none o):o=none:=by
 cases o with
 | none=>rfl
 | some u=>exact(show False from r).elim
theorem handed_of{v:V}{u:Value}(r:RelV v u):PySem.W.handedIn u=true:=by
 cases v with
 | non=>cases (show u=Value.none from r);rfl
 | bl b=>cases (show u=Value.bool b from r);rfl
 | int i=>obtain⟨t,e⟩:=(show ∃t,u=Value.int i t from r);cases e;rfl
 | str x=>obtain⟨t,e⟩:=(show ∃t,u=Value.str x t from r);cases e;rfl
 | byt b=>obtain⟨t,e⟩:=(show ∃t,u=Value.bytes b t from r);cases e;rfl
 | flt b=>obtain⟨t,e⟩:=(show ∃t,u=Value.float b t from r);cases e;rfl
 | ref a=>cases (show u=Value.ref a from r);rfl
 | ty n=>cases (show u=Value.type n from r);rfl
section
variable{P:Program}{w:World}{H H':Hp}{h h':Heap}{a C dx:Addr}{fs fs':List (Str×V)}
theorem ins_get(hok:HOk P w H h)(e:H a=some (.ins C dx fs)):∃mA,ObjM h a dx C mA∧(∀f,RelO (fs.lookup f) (mA f))∧PySem.Within mA (fs.map (·.1))∧fs.length≤1000∧H dx=some (.own a):=by
 obtain⟨d,z,ne,ob,mA,n,r,q⟩:=(show ObjOk P w H h a (.ins C dx fs) from hok a _ e)
 exact⟨mA,⟨ob,n,ne⟩,r,q,z,d⟩
end
structure Cls(K:PySem.W.Frag)(C:Addr):Prop where
 pg:PySem.W.plainGet K C Str.empty=true
 hd:PySem.W.hasDictIn K C=true
 po:PySem.W.plainOver K C=true
 sa:PySem.W.findIn K (.ref C) "__setattr__"=some (some (.builtin "object.__setattr__"))
theorem Cls.get{K:PySem.W.Frag}{C:Addr}(c:Cls K C)(f:Str):PySem.W.plainGet K C f=true:=c.pg
def NoAttr(K:PySem.W.Frag)(C:Addr)(f:Str):Prop:=PySem.W.findIn K (.ref C) f=some none
theorem NoAttr.taker{K:PySem.W.Frag}{C:Addr}{f:Str}(n:NoAttr K C f):PySem.W.takerIn K C f=some none:=by
 unfold PySem.W.takerIn
 rw[show PySem.W.findIn K (.ref C) f=some none from n]
 rfl
structure Meth(K:PySem.W.Frag)(C:Addr)(m:Str)(f:Addr):Prop where
 at_:PySem.W.findIn K (.ref C) m=some (some (.ref f))
 fn:PySem.W.isFn K (.ref f)=true
 kp:PySem.W.keepIn K (.ref f)=true
section
variable{X:Cx}{pins:List (Addr×Obj)}{σ:St}{H:Hp}{s:Shared}{a C dx:Addr}{fs:List (Str×V)}{f:Str}{v:V}{A:Around}{E:Value→Shared→Prop}
theorem getattr_ok{b:Bool}{Q:Value→Shared→Prop}(I:Inv X pins σ H s)(e:H a=some (.ins C dx fs))(c:Cls X.K C)(n:NoAttr X.K C f)(l:fs.lookup f=some v)
 (h:∀u s',Inv X pins σ H s'→RelV v u→Q u s'):wpAny (model X.prog X.w) A (getAttr (.ref a) f b) Q E s:=by
 obtain⟨mA,O,r,_,_,_⟩:=ins_get I.hok e
 obtain⟨u,hu,ru⟩:=RelO.some_of (v:=v) (o:=mA f) (by rw[←l];exact r f)
 exact get_map I.kIn O (c.get f) c.hd n hu (handed_of ru) (h u _ (I.tok _) ru)
theorem getmeth_ok{m:Str}{g:Addr}{pl:Sem Bool}{Q:Value×List Value→Shared→Prop}(I:Inv X pins σ H s)(e:H a=some (.ins C dx fs))(c:Cls X.K C)(k:Meth X.K C m g)(l:fs.lookup m=none)
 (h:Q (.ref g,[.ref a]) s):wpAny (model X.prog X.w) A (getMethod (.ref a) m pl) Q E s:=by
 obtain⟨mA,O,r,_,_,_⟩:=ins_get I.hok e
 have hn:mA m=none:=RelO.none_of (by rw[←l];exact r m)
 exact get_meth I.kIn O (c.get m) k.at_ k.fn hn h
theorem setattr_ok{y:V}{u:Value}{Q:Unit→Shared→Prop}(I:Inv X pins σ H s)(e:H a=some (.ins C dx fs))(c:Cls X.K C)(n:NoAttr X.K C f)(hl:fs.length<1000)(ry:RelV y u)
 (h:∀s',Inv X pins σ (upd H a (.ins C dx (putF f y fs))) s'→Q () s'):wpAny (model X.prog X.w) A (setAttr (.ref a) f u) Q E s:=by
 obtain⟨mA,O,r,wi,_,ho⟩:=ins_get I.hok e
 have hz:(fs.map (·.1)).length≤sizeLine:=by rw[List.length_map,sizeLine_eq];omega
 refine set_map I.kIn O c.sa c.po n.taker c.hd wi hz fun h' O' sb=>h _ ?_
 have hd:∃o,h'.get? dx=some o:=let ⟨o,_,_,e',_⟩:=O'.ns;⟨o,e'⟩
 refine I.write (x:=a) (e:=dx) (by rw[e];exact True.intro) (.inr ho) (fun b q hb z=>(sb.2 b hb).trans z) hd ?_
 refine⟨by rw[upd_ne O.ne];exact ho,?_,O.ne,O'.obj,_,O'.ns,fun g=>?_,fun g hg=>?_⟩
 ·have:=length_putF f y fs;omega
 ·show RelO ((putF f y fs).lookup g) (if g=f then some u else mA g)
  rw[lookup_putF]
  by_cases q:g=f
  ·rw[if_pos q,if_pos q];exact ry
  ·rw[if_neg q,if_neg q];exact r g
 ·by_cases q:g=f
  ·rw[q];exact(keys_putF f y fs).1
  ·refine(keys_putF f y fs).2 g (wi g fun z=>hg ?_)
   show(if g=f then some u else mA g)=none
   rw[if_neg q];exact z
theorem Inv.made(I:Inv X pins σ H s):Inv X pins σ (upd (upd H s.heap.objs.size (.own (s.heap.objs.size+1))) (s.heap.objs.size+1) (.ins C s.heap.objs.size []))
 { s with heap:=(s.heap.push PySem.W.emptyDict).push (PySem.W.instObj C s.heap.objs.size) }:=by
 have e1:(s.heap.push PySem.W.emptyDict).get? s.heap.objs.size=some PySem.W.emptyDict:=Heap.get?_push_size s.heap rfl
 have e2:((s.heap.push PySem.W.emptyDict).push (PySem.W.instObj C s.heap.objs.size)).get? (s.heap.objs.size+1)=some (PySem.W.instObj C s.heap.objs.size):=by
  have:=Heap.get?_push_size (s.heap.push PySem.W.emptyDict) (o:=PySem.W.instObj C s.heap.objs.size) rfl
  rwa [Heap.size_push] at this
 have e3:(s.heap.push PySem.W.emptyDict).Ns s.heap.objs.size (fun _=>none):=⟨PySem.W.emptyDict,#[],_,e1,rfl,(fun e he=>absurd he (by simp)),fun _=>rfl⟩
 have I1:=I.laid (a:=s.heap.objs.size) (o:=.own (s.heap.objs.size+1)) (h':=s.heap.push PySem.W.emptyDict) (t':=s.toks) (fun b u q=>Heap.get?_push_of_some _ q) (Nat.le_refl _) ⟨_,e1⟩
 refine I1.laid (a:=s.heap.objs.size+1) (o:=.ins C s.heap.objs.size []) (t':=s.toks) (fun b u q=>Heap.get?_push_of_some _ q) (Nat.le_of_eq (Heap.size_push _ _)) ?_
 have ne:s.heap.objs.size≠s.heap.objs.size+1:=Nat.ne_of_lt (Nat.lt_succ_self _)
 refine⟨by rw[upd_ne ne,upd_same],Nat.zero_le _,ne,e2,fun _=>none,(Heap.Ns1.of_empty e3).at fun o q=>Heap.get?_push_of_some _ q,fun _=>True.intro,fun y hy=>absurd rfl hy⟩
theorem attr_of{prog:Program}{w:World}{env:Env}{e:Expr}{f:Str}{pos:Pos}{s:Shared}{Q:Value→Shared→Prop}(hb:attributeBase e f env (eval e env)=eval e env)
 (h:wpAny (model prog w) A (eval e env) (fun o s₁=>wpAny (model prog w) A (getAttr o f true) Q E s₁) E s):wpAny (model prog w) A (eval (.Attribute e f pos) env) Q E s:=
 Attribute_any_ h (by rw[arm_eval_Attribute,hb])
end
def tFld(K:PySem.W.Frag)(ta:TE)(f:Str):TE:=fun σ H Q=>ta σ H fun x H1=>∃a C dx fs v,x=.ref a∧H1 a=some (.ins C dx fs)∧Cls K C∧NoAttr K C f∧fs.lookup f=some v∧Q v H1
def sFld(K:PySem.W.Frag)(ta tv:TE)(f:Str):TS:=fun D σ H=>tv σ H fun y H1=>ta σ H1 fun x H2=>∃a C dx fs,x=.ref a∧H2 a=some (.ins C dx fs)∧Cls K C∧NoAttr K C f∧fs.length<1000∧
 D.nx σ (upd H2 a (.ins C dx (putF f y fs)))
section
variable{X:Cx}{o e value:Expr}{f:Str}{pos pos' tpos:Pos}{ta tv:TE}
theorem pe_fld(he:PE X e ta)(hb:attributeBase e f X.env (eval e X.env)=eval e X.env):PE X (.Attribute e f pos) (tFld X.K ta f):=by
 intro pins s σ H Q I h
 refine attr_of hb (thn (he pins s σ H _ I h) fun u s1 ⟨x,H1,I1,rx,a,C,dx,fs,v,ex,ea,c,n,l,q⟩=>?_)
 subst ex
 obtain rfl:u=Value.ref a:=rx
 exact getattr_ok I1 ea c n l fun u' s2 I2 ru=>⟨v,H1,I2,ru,q⟩
theorem ps_fld(ha:PE X o ta)(hv:PE X value tv)(hs:swapsWith value (some (.Attribute o f pos')) pos.line X.env=pure false):PS X (.Assign [.Attribute o f pos'] value pos) (sFld X.K ta tv f):=by
 intro pins s σ H D I h
 refine plainObj_wpAny_Assign_Attribute (thn (hv pins s σ H _ I h) fun u s1 ⟨y,H1,I1,ry,q⟩=>thn (ha pins s1 σ H1 _ I1 q) fun ov s2 ⟨x,H2,I2,rx,a,C,dx,fs,ex,ea,c,n,l,q2⟩=>?_) hs
 subst ex
 obtain rfl:ov=Value.ref a:=rx
 exact setattr_ok I2 ea c n l ry fun s3 I3=>⟨σ,_,I3,q2⟩
end
section
variable{X:Cx}{pins:List (Addr×Obj)}{σ:St}{H:Hp}{s:Shared}{A:Around}{E:Value→Shared→Prop}{Q:Value→Shared→Prop}{c:Value}{b:Bool}
inductive TyOf(K:PySem.W.Frag)(H:Hp):V→Value→Prop where
 | non:TyOf K H .non (.type "NoneType")
 | bl (x:Bool):TyOf K H (.bl x) (.type "bool")
 | int (i:Int):TyOf K H (.int i) (.type "int")
 | str (x:Str):TyOf K H (.str x) (.type "str")
 | flt (x:UInt64):TyOf K H (.flt x) (.type "float")
 | lst {a:Addr} {xs:List V} (e:H a=some (.lst xs)):TyOf K H (.ref a) (.type "list")
 | frz {a:Addr} {o:Obj} {xs:List V} (e:H a=some (.frz o (.lst xs))):TyOf K H (.ref a) (.type "list")
 | tup {a:Addr} {xs:List V} (e:H a=some (.tup xs)):TyOf K H (.ref a) (.type "tuple")
 | dK {a:Addr} {kvs:List (Key×V)} (e:H a=some (.dK kvs)):TyOf K H (.ref a) (.type "dict")
 | dT {a:Addr} {kvs:List (List Key×V)} (e:H a=some (.dT kvs)):TyOf K H (.ref a) (.type "dict")
 | ins {a C dx:Addr} {fs:List (Str×V)} (e:H a=some (.ins C dx fs)) (cl:Cls K C) (ha:PySem.W.findIn K (.ref C) "__class__"=some (some (.builtin "object.__class__")))
  (hn:PySem.W.specialIn K (.builtin "object.__class__") "__get__"=some (some (.builtin "getset_descriptor.__get__"))) (htk:PySem.W.takesIn K (.builtin "object.__class__")=some true)
  (hm:PySem.W.mroIn K C (.type "object")=some true):TyOf K H (.ref a) (.ref C)
theorem isinst_ok{x:V}{u t:Value}(I:Inv X pins σ H s)(rx:RelV x u)(ty:TyOf X.K H x t)(e:PySem.W.kitOne X.K t c=some b)(h:∀tk,Q (.bool b) { s with toks:=tk }):
 wpAny (model X.prog X.w) A (call (.builtin "isinstance") [u,c]) Q E s:=by
 cases ty with
 | non=>cases (show u=Value.none from rx);exact PySem.W.kia_one PySem.W.kitx_none I.kIn True.intro e (fun z=>nomatch z) h
 | bl y=>cases (show u=Value.bool y from rx);exact PySem.W.kia_one PySem.W.kitx_bool I.kIn True.intro e (fun z=>nomatch z) h
 | int i=>obtain⟨t,q⟩:=(show ∃t,u=Value.int i t from rx);cases q;exact PySem.W.kia_one PySem.W.kitx_int I.kIn True.intro e (fun z=>nomatch z) h
 | str y=>obtain⟨t,q⟩:=(show ∃t,u=Value.str y t from rx);cases q;exact PySem.W.kia_one PySem.W.kitx_str I.kIn True.intro e (fun z=>nomatch z) h
 | flt y=>obtain⟨t,q⟩:=(show ∃t,u=Value.float y t from rx);cases q;exact PySem.W.kia_one PySem.W.kitx_float I.kIn True.intro e (fun z=>nomatch z) h
 | @lst a xs ea=>
  cases (show u=Value.ref a from rx)
  obtain⟨_,_,n,_,h1⟩:=(show ObjOk X.prog X.w H s.heap a (.lst xs) from I.hok a _ ea)
  exact PySem.W.kia_one PySem.W.kitx_list I.kIn ⟨_,h1,rfl⟩ e (fun z=>nomatch z) h
 | @frz a ob xs ea=>
  cases (show u=Value.ref a from rx)
  obtain⟨_,_,_,n,_,h1⟩:=(show ObjOk X.prog X.w H s.heap a (.frz ob (.lst xs)) from I.hok a _ ea)
  exact PySem.W.kia_one PySem.W.kitx_list I.kIn ⟨_,h1,rfl⟩ e (fun z=>nomatch z) h
 | @tup a xs ea=>
  cases (show u=Value.ref a from rx)
  obtain⟨_,_,_,p⟩:=(show ObjOk X.prog X.w H s.heap a (.tup xs) from I.hok a _ ea)
  obtain⟨o,h1,h2,_⟩:=p
  exact PySem.W.kia_one PySem.W.kitx_tuple I.kIn ⟨o,h1,h2⟩ e (fun z=>nomatch z) h
 | @dK a kvs ea=>
  cases (show u=Value.ref a from rx)
  obtain⟨_,_,vs,_,p⟩:=(show ObjOk X.prog X.w H s.heap a (.dK kvs) from I.hok a _ ea)
  obtain⟨o,es,ep,h1,h2,_⟩:=p
  exact PySem.W.kia_one PySem.W.kitx_dict I.kIn ⟨o,h1,h2.1⟩ e (fun z=>nomatch z) h
 | @dT a kvs ea=>
  cases (show u=Value.ref a from rx)
  obtain⟨_,_,xs,_,o,es,ep,h1,h2,_⟩:=(show ObjOk X.prog X.w H s.heap a (.dT kvs) from I.hok a _ ea)
  exact PySem.W.kia_one PySem.W.kitx_dict I.kIn ⟨o,h1,h2.1⟩ e (fun z=>nomatch z) h
 | @ins a C dx fs ea cl ha hn htk hm=>
  cases (show u=Value.ref a from rx)
  obtain⟨mA,O,_⟩:=ins_get I.hok ea
  obtain⟨od,J,_⟩:=O.look
  exact PySem.W.kia_one (PySem.W.kitx_own (cl.get _) cl.hd ha hn htk hm) I.kIn J e (fun z=>nomatch z) h
end
end L2
namespace L2
open PySem PySem.Spec PyProof.Rows
structure Room(k:Nat)(A:Around):Prop where
 hd:A.handled=none
 dp:A.depth+3*k+5<recursionLimit
 un:A.units+16*k+200<cLine
 gd:A.guards=some []
theorem Room.mono{j k:Nat}{A:Around}(r:Room k A)(h:j≤k):Room j A:=⟨r.hd,by have:=r.dp;omega,by have:=r.un;omega,r.gd⟩
theorem Room.deeper{k:Nat}{A:Around}(r:Room (k+1) A)(env:Env):Room k (A.deeper env):=
 ⟨r.hd,by have:=r.dp;show A.depth+1+3*k+5<_;omega,by have:=r.un;show A.units+3+16*k+200<_;omega,r.gd⟩
theorem make_depth{A:Around}{C:Addr}{us:List Value}{kw:List (Str×Value)}:(A.under (.builtin "type.__call__" ⟨.ref C::us,kw⟩)).depth=A.depth+1:=by
 first | rfl | simp[Around.under,Code.weight,Code.isCreation,Code.isGuard,Code.isCaller,Code.frames,Code.isFrame,guardIds]
theorem make_units{A:Around}{C:Addr}{us:List Value}{kw:List (Str×Value)}:(A.under (.builtin "type.__call__" ⟨.ref C::us,kw⟩)).units=A.units+1:=by
 first | rfl | simp[Around.under,Code.cUnits,Code.frames,Code.isFrame]
theorem make_guards{A:Around}{C:Addr}{us:List Value}{kw:List (Str×Value)}(h:A.guards=some []):(A.under (.builtin "type.__call__" ⟨.ref C::us,kw⟩)).guards=some []:=by
 have e:(Code.builtin "type.__call__" ⟨.ref C::us,kw⟩).guards=[]:=by
  unfold Code.guards
  rw[if_neg (by show ¬guardIds.contains "type.__call__"=true;decide)]
 have e2:(A.under (.builtin "type.__call__" ⟨.ref C::us,kw⟩)).guards=pushGuards (Code.builtin "type.__call__" ⟨.ref C::us,kw⟩).guards A.guards:=rfl
 rw[e2,e,h];rfl
theorem Room.make{k:Nat}{A:Around}(r:Room (k+1) A)(C:Addr)(us:List Value)(kw:List (Str×Value)):Room k (A.under (.builtin "type.__call__" ⟨.ref C::us,kw⟩)):=
 ⟨r.hd,by have:=r.dp;rw[make_depth];omega,by have:=r.un;rw[make_units];omega,make_guards r.gd⟩
theorem Room.depth{k:Nat}{A:Around}(r:Room k A):A.depth<recursionLimit:=by have:=r.dp;omega
theorem Room.units{k:Nat}{A:Around}(r:Room k A):A.units+64<cLine:=by have:=r.un;omega
def tNil:TA:=fun _ H Q=>Q [] H
def tCons(ta:TE)(tr:TA):TA:=fun σ H Q=>ta σ H fun x H1=>tr σ H1 fun xs H2=>Q (x::xs) H2
section
variable{X:Cx}{e:Expr}{es:List Expr}{te:TE}{t:TA}{pos:Pos}
theorem pa_nil:PA X [] tNil:=fun _ _ _ _ H Q I h=>Calls.spliced_nil ⟨[],H,I,.nil,h⟩
theorem pa_cons(ha:PE X e te)(hr:PA X es t)(hs:starEach (e::es) X.env=(false,eval e X.env)::starEach es X.env:=by rfl):PA X (e::es) (tCons te t):=by
 intro pos pins s σ H Q I h
 rw[hs]
 show wpAny _ _ (spliced ((false,eval e X.env)::backTo pos (starEach es X.env))) _ _ s
 refine Calls.spliced_cons (thn (ha pins s σ H _ I h) fun u s1 ⟨x,H1,I1,r1,q1⟩=>?_)
 exact thn (hr pos pins s1 σ H1 _ I1 q1) fun us s2 ⟨xs,H2,I2,r2,q2⟩=>⟨x::xs,H2,I2,.cons r1 r2,q2⟩
def tTup(t:TA):TE:=fun σ H Q=>t σ H fun xs H1=>xs.length≤sizeLine∧∀p,H1 p=none→Q (.ref p) (upd H1 p (.tup xs))
def tLst(t:TA):TE:=fun σ H Q=>t σ H fun xs H1=>xs.length≤sizeLine∧∀p,H1 p=none→Q (.ref p) (upd H1 p (.lst xs))
theorem pe_tup{x1}(h:PA X es t):PE X (.Tuple es x1 pos) (tTup t):=by
 intro pins s σ H Q I hq
 refine wpAny_Tuple_spliced (thn (h pos pins s σ H _ I hq) fun us s1 ⟨xs,H1,I1,r,z,q⟩=>⟨by rw[←r.length];exact z,?_⟩)
 have hf:H1 s1.heap.objs.size=none:=I1.hok.fresh (Nat.le_refl _)
 refine⟨.ref s1.heap.objs.size,upd H1 s1.heap.objs.size (.tup xs),I1.laid (t':=s1.toks) (fun b u e=>Heap.get?_push_of_some _ e) (Nat.le_refl _) ?_,rfl,q _ hf⟩
 exact⟨z,us,r,⟨_,Heap.get?_push_size _ rfl,rfl,_,rfl⟩⟩
theorem pe_lst(h:PA X es t):PE X (.List es pos) (tLst t):=by
 intro pins s σ H Q I hq
 refine wpAny_List_spliced (thn (h pos pins s σ H _ I hq) fun us s1 ⟨xs,H1,I1,r,z,q⟩=>⟨by rw[←r.length];exact z,?_⟩)
 have hf:H1 s1.heap.objs.size=none:=I1.hok.fresh (Nat.le_refl _)
 refine⟨.ref s1.heap.objs.size,upd H1 s1.heap.objs.size (.lst xs),I1.laid (t':=s1.toks) (fun b u e=>Heap.get?_push_of_some _ e) (Nat.le_refl _) ?_,rfl,q _ hf⟩
 exact⟨z,us,0,r,Heap.get?_push_size _ rfl⟩
end
abbrev Sp:=List V→Hp→VK→XK→Prop
abbrev CXT:=List Env→Hp→Shared→XK→Value→Shared→Prop
structure Env0(P:Program)(w:World)(K:PySem.W.Frag)(mg:Str→Option Value)(base:Heap)(A:Around)(outer:List Env)(s:Shared)(H:Hp):Prop where
 frames:A.frames=some outer
 mod:Mod K mg base
 bs:∀b o,base.get? b=some o→s.heap.get? b=some o∧H b=none
 bsz:base.objs.size≤s.heap.objs.size
 funs:s.heap.FunFrames base outer
 frf:∀b∈frs outer,H b=none
 hok:HOk P w H s.heap
 bare:AllBare s.gens
def CE(outer:List Env)(P:Program)(w:World)(H:Hp)(s:Shared)(Q:VK)(u:Value)(s':Shared):Prop:=
 ∃v H',s'.os=s.os∧AllBare s'.gens∧Un (frs outer) [] H H' s.heap s'.heap∧HOk P w H' s'.heap∧RelV v u∧Q v H'
def CR(CX:CXT)(outer:List Env)(P:Program)(w:World)(H:Hp)(s:Shared)(Q:VK)(E:XK)(r:Result)(s':Shared):Prop:=
 match r with
 | .ok (.ret u)=>CE outer P w H s Q u s'
 | .ok _=>False
 | .error e=>CX outer H s E e s'
structure FnOk(P:Program)(w:World)(K:PySem.W.Frag)(mg:Str→Option Value)(base:Heap)(CX:CXT)(k:Nat)(f:Addr)(fd:FuncData)(ps:List Str)(sp:Sp):Prop where
 len:∀vs H Q E,sp vs H Q E→vs.length=ps.length
 run:∀(A:Around) (outer:List Env) (s:Shared) (H:Hp) (args:Args) (us:List Value) (vs:List V) (Q:VK) (E:XK),Room k A→Env0 P w K mg base A outer s H→BindsTo s fd args (ps.zip us)→Vals vs us→sp vs H Q E→
  codeAny (model P w) A (.call (.ref f) args) (CR CX outer P w H s Q E) s
theorem FnOk.mono{P:Program}{w:World}{K:PySem.W.Frag}{mg:Str→Option Value}{base:Heap}{CX:CXT}{j k:Nat}{f:Addr}{fd:FuncData}{ps:List Str}{sp:Sp}(F:FnOk P w K mg base CX j f fd ps sp)(h:j≤k):
 FnOk P w K mg base CX k f fd ps sp:=⟨F.len,fun A outer s H args us vs Q E hr=>F.run A outer s H args us vs Q E (hr.mono h)⟩
theorem Env0.make{P:Program}{w:World}{K:PySem.W.Frag}{mg:Str→Option Value}{base:Heap}{A:Around}{outer:List Env}{s:Shared}{H:Hp}(e:Env0 P w K mg base A outer s H)(C:Addr)(us:List Value)(kw:List (Str×Value)):
 Env0 P w K mg base (A.under (.builtin "type.__call__" ⟨.ref C::us,kw⟩)) outer s H:=⟨by first | exact e.frames | (simpa [Around.under,Code.envs,Code.isFrame,pushEnvs] using e.frames),e.mod,e.bs,e.bsz,e.funs,e.frf,e.hok,e.bare⟩
section
variable{X:Cx}{pins:List (Addr×Obj)}{σ:St}{H:Hp}{s s':Shared}
theorem Inv.env0(I:Inv X pins σ H s):Env0 X.prog X.w X.K X.mg X.base X.A X.stack s H:=
 ⟨I.ok.frames,I.ok.mod,I.bs,Nat.le_trans I.ok.bsz I.sz,I.stack,I.stkFree,I.hok,I.bare⟩
theorem Inv.after{Q:VK}{u:Value}(I:Inv X pins σ H s)(h:CE X.stack X.prog X.w H s Q u s'):EP X pins σ Q u s':=by
 obtain⟨v,H',os,bare,un,hok,r,q⟩:=h
 obtain⟨hh,g,d,t,os'⟩:=s'
 obtain rfl:os'=s.os:=os
 exact⟨v,H',I.call (h':=hh) (g':=g) (d':=d) (t':=t) (ch:=[]) un hok bare (fun b z=>absurd z (by simp)),r,q⟩
end
def tCall(sp:Sp)(dvs:List V)(E:XK)(t:TA):TE:=fun σ H Q=>t σ H fun vs H1=>sp (vs++dvs) H1 Q E
def tMeth(C:Addr)(m:Str)(sp:Sp)(dvs:List V)(E:XK)(ta:TE)(t:TA):TE:=fun σ H Q=>ta σ H fun x H1=>∃a dx fs,x=.ref a∧H1 a=some (.ins C dx fs)∧fs.lookup m=none∧
 t σ H1 fun vs H2=>sp (x::(vs++dvs)) H2 Q E
def tMake(C:Addr)(sp:Sp)(dvs:List V)(E:XK)(t:TA):TE:=fun σ H Q=>t σ H fun vs H1=>∀x dx,H1 x=none→H1 dx=none→dx≠x→
 sp (.ref x::(vs++dvs)) (upd (upd H1 dx (.own x)) x (.ins C dx [])) (fun v H2=>v=.non∧Q (.ref x) H2) E
def Binds(K:PySem.W.Frag)(fd:FuncData)(ps:List Str)(ds:List Value):Prop:=
 ∀(s:Shared) (us:List Value),K.In s.heap→(us++ds).length=ps.length→BindsTo s fd ⟨us,[]⟩ (ps.zip (us++ds))
theorem Binds.all{K:PySem.W.Frag}{fd:FuncData}{ps:List Str}(h:∀us:List Value,us.length=ps.length→bindArgs fd ⟨us,[]⟩=pure (ps.zip us)):Binds K fd ps []:=fun s us _ hl=>by
 rw[List.append_nil] at hl ⊢
 exact .of_eq (h us hl)
def Passes(CX:CXT)(X:Cx)(E:XK):Prop:=∀(pins:List (Addr×Obj)) (σ:St) (H:Hp) (s:Shared) (e:Value) (s':Shared),Inv X pins σ H s→CX X.stack H s E e s'→X.xe e s'
section
variable{X:Cx}{CX:CXT}{k:Nat}{f C:Addr}{fd:FuncData}{ps:List Str}{sp:Sp}{dvs:List V}{ds:List Value}{E:XK}{x m:Str}{p pos apos:Pos}{e o:Expr}{es:List Expr}{ta:TE}{t:TA}
theorem run_fn{pins:List (Addr×Obj)}{σ:St}{H:Hp}{s:Shared}{Q:VK}{us:List Value}{vs:List V}(F:FnOk X.prog X.w X.K X.mg X.base CX k f fd ps sp)(hr:Room k X.A)(hb:Binds X.K fd ps ds)(hd:Vals dvs ds)(hx:Passes CX X E)
 (I:Inv X pins σ H s)(r:Vals vs us)(h:sp (vs++dvs) H Q E):wpAny (model X.prog X.w) X.A (call (.ref f) us) (EP X pins σ Q) X.xe s:=by
 have r2:Vals (vs++dvs) (us++ds):=r.append hd
 have hl:(us++ds).length=ps.length:=by rw[←r2.length];exact F.len _ _ _ _ h
 refine wpAny_call (codeAny_mono (F.run X.A X.stack s H ⟨us,[]⟩ (us++ds) (vs++dvs) Q E hr I.env0 (hb s us I.kIn hl) r2 h) fun r s' hq=>?_)
 cases r with
 | error e=>exact hx pins σ H s e s' I hq
 | ok fl=>
  cases fl with
  | ret u=>exact I.after hq
  | next=>exact False.elim hq
  | brk=>exact False.elim hq
  | cont=>exact False.elim hq
theorem pe_call(F:FnOk X.prog X.w X.K X.mg X.base CX k f fd ps sp)(hr:Room k X.A)(hg:Gl X x)(hm:X.mg x=some (.ref f))(hk:PySem.W.keepIn X.K (.ref f)=true)(hb:Binds X.K fd ps ds)(hd:Vals dvs ds)(hx:Passes CX X E)
 (ha:PA X (e::es) t)(hdb:(x==("__debug__":Str))=false:=by decide)(he:starEach (e::es) X.env=(false,eval e X.env)::starEach es X.env:=by rfl)(hpl:(backTo pos (starEach es X.env)).any (·.1)=false:=by rfl):
 PE X (.Call (.Name x p) (e::es) [] pos) (tCall sp dvs E t):=by
 intro pins s σ H Q I h
 refine wpAny_Call_Name_kw (ld_glob I hg hm ?_ hdb)
 refine PySem.W.callWith_K (h₀:=X.base) I.ok.mod.kin hk (thn (ha pos pins s σ H _ I h) fun us s1 ⟨vs,H1,I1,r,q⟩=>⟨I1.kIn,?_⟩) he hpl
 exact run_fn F hr hb hd hx I1 r q
theorem pe_meth{pl:Sem Bool}(he:PE X o ta)(c:Cls X.K C)(hm:Meth X.K C m f)(F:FnOk X.prog X.w X.K X.mg X.base CX k f fd ps sp)(hr:Room k X.A)(hb:Binds X.K fd ps ds)(hd:Vals dvs ds)(hx:Passes CX X E)(ha:PA X (e::es) t)
 (hst:starEach (e::es) X.env=(false,eval e X.env)::starEach es X.env:=by rfl)(hpl:(backTo pos (starEach es X.env)).any (·.1)=false:=by rfl)
 (ht:eval (.Call (.Attribute o m apos) (e::es) [] pos) X.env=(do
  let ov ←eval o X.env
  standAt apos.atName
  let (f,first) ←holding [ov] (getMethod ov m pl)
  callWith pos f first (backTo pos (starEach (e::es) X.env)) (backToKw pos (keywordEach [] X.env))):=by rfl):
 PE X (.Call (.Attribute o m apos) (e::es) [] pos) (tMeth C m sp dvs E ta t):=by
 intro pins s σ H Q I h
 refine PySem.W.methodCall_KW (pl:=pl) (thn (he pins s σ H _ I h) fun u s1 ⟨x,H1,I1,rx,a,dx,fs,ex,ea,l,q⟩=>?_) ht
 subst ex
 obtain rfl:u=Value.ref a:=rx
 refine getmeth_ok I1 ea c hm l ?_
 refine PySem.W.callWith_K (first:=[.ref a]) (h₀:=X.base) I.ok.mod.kin hm.kp (thn (ha pos pins s1 σ H1 _ I1 q) fun us s2 ⟨vs,H2,I2,r,q2⟩=>⟨I2.kIn,?_⟩) hst hpl
 exact run_fn (us:=.ref a::us) (vs:=.ref a::vs) F hr hb hd hx I2 (.cons rfl r) q2
structure Mk(K:PySem.W.Frag)(C f:Addr):Prop where
 makes:PySem.W.makesIn K C=true
 init:PySem.W.findIn K (.ref C) "__init__"=some (some (.ref f))
 fn:PySem.W.isFn K (.ref f)=true
 kp:PySem.W.keepIn K (.ref C)=true
theorem run_make{pins:List (Addr×Obj)}{σ:St}{H:Hp}{s:Shared}{Q:VK}{us:List Value}{vs:List V}(M:Mk X.K C f)(F:FnOk X.prog X.w X.K X.mg X.base CX k f fd ps sp)(hr:Room (k+1) X.A)(hb:Binds X.K fd ps ds)(hd:Vals dvs ds)
 (hx:Passes CX X E)(I:Inv X pins σ H s)(r:Vals vs us)
 (h:∀x dx,H x=none→H dx=none→dx≠x→sp (.ref x::(vs++dvs)) (upd (upd H dx (.own x)) x (.ins C dx [])) (fun v H2=>v=.non∧Q (.ref x) H2) E):
 wpAny (model X.prog X.w) X.A (call (.ref C) us) (EP X pins σ Q) X.xe s:=by
 have hq:=h (s.heap.objs.size+1) s.heap.objs.size (I.hok.fresh (Nat.le_succ _)) (I.hok.fresh (Nat.le_refl _)) (Nat.ne_of_lt (Nat.lt_succ_self _))
 have I2:=Inv.made (C:=C) I
 have r2:Vals (V.ref (s.heap.objs.size+1)::(vs++dvs)) (Value.ref (s.heap.objs.size+1)::(us++ds)):=.cons rfl (r.append hd)
 have hl:(Value.ref (s.heap.objs.size+1)::us++ds).length=ps.length:=by
  have e:=r2.length
  rw[F.len _ _ _ _ hq] at e
  exact e.symm
 refine wpAny_call (make_map (f:=f) I.kIn M.makes M.init (beq_iff_eq.mp M.fn) (codeAny_mono (F.run _ X.stack _ _ ⟨Value.ref (s.heap.objs.size+1)::us,[]⟩ (Value.ref (s.heap.objs.size+1)::(us++ds)) _ _ E (hr.make C us [])
  (I2.env0.make C us []) (hb _ (Value.ref (s.heap.objs.size+1)::us) I2.kIn hl) r2 hq) fun r s' hq'=>?_))
 cases r with
 | error e=>exact hx pins σ _ _ e s' I2 hq'
 | ok fl=>
  cases fl with
  | ret u=>
   obtain⟨v,H',I3,rv,ev,q3⟩:=I2.after hq'
   subst ev
   exact⟨rv,⟨V.ref (s.heap.objs.size+1),H',I3,rfl,q3⟩⟩
  | next=>exact False.elim hq'
  | brk=>exact False.elim hq'
  | cont=>exact False.elim hq'
theorem pe_make(M:Mk X.K C f)(F:FnOk X.prog X.w X.K X.mg X.base CX k f fd ps sp)(hr:Room (k+1) X.A)(hg:Gl X x)(hm:X.mg x=some (.ref C))(hb:Binds X.K fd ps ds)(hd:Vals dvs ds)(hx:Passes CX X E)
 (ha:PA X (e::es) t)(hdb:(x==("__debug__":Str))=false:=by decide)(he:starEach (e::es) X.env=(false,eval e X.env)::starEach es X.env:=by rfl)(hpl:(backTo pos (starEach es X.env)).any (·.1)=false:=by rfl):
 PE X (.Call (.Name x p) (e::es) [] pos) (tMake C sp dvs E t):=by
 intro pins s σ H Q I h
 refine wpAny_Call_Name_kw (ld_glob I hg hm ?_ hdb)
 refine PySem.W.callWith_K (h₀:=X.base) I.ok.mod.kin M.kp (thn (ha pos pins s σ H _ I h) fun us s1 ⟨vs,H1,I1,r,q⟩=>⟨I1.kIn,?_⟩) he hpl
 exact run_make M F hr hb hd hx I1 r q
end
section
variable{X:Cx}{CX:CXT}{k:Nat}{f C:Addr}{fd:FuncData}{ps ks:List Str}{sp:Sp}{E:XK}{x m:Str}{p pos apos kpos:Pos}{e o:Expr}{es:List Expr}{kws:List Keyword}{te ta:TE}{t tk:TA}{nm:Option Str}
variable{g:List Value→List Value→List Value}{gV:List V→List V→List V}
end
structure FnScope(N P:List Str)(sc:Scope):Prop where
 kind:sc.kind=.function
 co:sc.isCoroutine=false
 gen:sc.isGenerator=false
 nd:N.Nodup
 pre:N.take P.length=P
 par:∀x∈P,sc.names.lookup x=some .local∨sc.names.lookup x=some .cell
 nofree:∀y∈sc.names,y.2≠.free
theorem bindL_out{kindOf:Str→Option NameKind}{x:Str}:∀{binds:List (Str×Value)} {m:Str→Option Value},(∀v,(x,v)∉binds)→bindL kindOf binds m x=m x
 | [],_,_=>rfl
 | (n,v)::r,m,h=>by
  unfold bindL
  rw[bindL_out fun w hw=>h w (List.mem_cons_of_mem _ hw)]
  split
  ·have:x≠n:=by rintro rfl;exact h v List.mem_cons_self
   simp[this]
  ·rfl
theorem bindC_out{kindOf:Str→Option NameKind}{x:Str}:∀{binds:List (Str×Value)} {m:Str→Option Value},(∀v,(x,v)∉binds)→bindC kindOf binds m x=m x
 | [],_,_=>rfl
 | (n,v)::r,m,h=>by
  unfold bindC
  rw[bindC_out fun w hw=>h w (List.mem_cons_of_mem _ hw)]
  split
  ·rfl
  ·have:x≠n:=by rintro rfl;exact h v List.mem_cons_self
   simp[this]
theorem bindL_get{kindOf:Str→Option NameKind}{x:Str}{v:Value}:∀{P:List Str} {vs:List Value} {i:Nat} {m:Str→Option Value},P.Nodup→P[i]?=some x→vs[i]?=some v→kindOf x=some .local→
 bindL kindOf (P.zip vs) m x=some v
 | [],_,_,_,_,h,_,_=>by simp at h
 | _::_,[],_,_,_,_,h,_=>by simp at h
 | p::P,w::vs,0,m,nd,h1,h2,hk=>by
  simp at h1 h2;subst h1;subst h2
  show bindL kindOf ((p,w)::P.zip vs) m p=_
  unfold bindL
  rw[bindL_out fun v hv=>(List.nodup_cons.mp nd).1 (List.of_mem_zip hv).1,if_pos hk]
  simp
 | p::P,w::vs,i+1,m,nd,h1,h2,hk=>by
  show bindL kindOf ((p,w)::P.zip vs) m x=_
  unfold bindL
  exact bindL_get (i:=i) (List.nodup_cons.mp nd).2 (by simpa using h1) (by simpa using h2) hk
theorem bindC_get{kindOf:Str→Option NameKind}{x:Str}{v:Value}:∀{P:List Str} {vs:List Value} {i:Nat} {m:Str→Option Value},P.Nodup→P[i]?=some x→vs[i]?=some v→kindOf x≠some .local→
 bindC kindOf (P.zip vs) m x=some v
 | [],_,_,_,_,h,_,_=>by simp at h
 | _::_,[],_,_,_,_,h,_=>by simp at h
 | p::P,w::vs,0,m,nd,h1,h2,hk=>by
  simp at h1 h2;subst h1;subst h2
  show bindC kindOf ((p,w)::P.zip vs) m p=_
  unfold bindC
  rw[bindC_out fun v hv=>(List.nodup_cons.mp nd).1 (List.of_mem_zip hv).1,if_neg hk]
  simp
 | p::P,w::vs,i+1,m,nd,h1,h2,hk=>by
  show bindC kindOf ((p,w)::P.zip vs) m x=_
  unfold bindC
  exact bindC_get (i:=i) (List.nodup_cons.mp nd).2 (by simpa using h1) (by simpa using h2) hk
def start(N:List Str)(vs:List V):St:=vs.map some++List.replicate (N.length-vs.length) none
def cxOf(CX:CXT)(P:Program)(w:World)(K:PySem.W.Frag)(mg:Str→Option Value)(base:Heap)(N:List Str)(qual:Str)(scope:Scope)(f:Addr)(cd:Value)(A:Around)(outer:List Env)(s:Shared)(H:Hp)(E:XK):Cx where
 prog:=P
 w:=w
 K:=K
 mg:=mg
 base:=base
 A:=A.deeper (envOfC qual scope s.heap.objs.size f cd)
 N:=N
 s₀:=s
 H₀:=H
 env:=envOfC qual scope s.heap.objs.size f cd
 outer:=outer
 stack:=envOfC qual scope s.heap.objs.size f cd::outer
 ex:=[]
 calm:=true
 fn:=fun _=>true
 pn:=[]
 xe:=fun e s'=>wpAny (model P w) (A.deeper (envOfC qual scope s.heap.objs.size f cd)) (leaving (envOfC qual scope s.heap.objs.size f cd) e) (fun _ s''=>CX outer H s E e s'') (fun e' s''=>CX outer H s E e' s'') s'
theorem cell_has{sc:Scope}{n:Nat}{x:Str}(h:sc.names.lookup x=some .cell):∃c,(cellsFrom n sc.names []).lookup x=some c:=by
 have q:=PySem.W.cellsFrom_some sc.names n [] (.inl h)
 exact Option.isSome_iff_exists.mp q
theorem inv_start{CX:CXT}{P:Program}{w:World}{K:PySem.W.Frag}{mg:Str→Option Value}{base:Heap}{N ps:List Str}{qual:Str}{scope:Scope}{f:Addr}{cd:Value}{A:Around}{outer:List Env}{s s1:Shared}{H:Hp}{E:XK}{us:List Value}{vs:List V}
 (S:FnScope N ps scope)(hd:A.handled=none)(e0:Env0 P w K mg base A outer s H)(hl:vs.length=ps.length)(r:Vals vs us)
 (x:InCallC s s.heap.objs.size (bindL (envOfC qual scope s.heap.objs.size f cd).kindOf (ps.zip us) fun _=>none) (cellsFrom (s.heap.objs.size+1) scope.names []) (bindC (envOfC qual scope s.heap.objs.size f cd).kindOf (ps.zip us) fun _=>none) s1):
 Inv (cxOf CX P w K mg base N qual scope f cd A outer s H E) [] (start N vs) H s1:=by
 have hpl:ps.length≤N.length:=by have:=congrArg List.length S.pre;rw[List.length_take] at this;omega
 obtain⟨h1,tk,rfl,hk⟩:=x.done
 have noA:∀b:Addr,b∉(cxOf CX P w K mg base N qual scope f cd A outer s H E).ex:=fun b z=>absurd (show b∈([]:List Addr) from z) (by simp)
 refine⟨⟨e0.mod,S.kind,rfl,rfl,Nat.le_refl _,fun y z c h1 h2=>?_,fun y hy=>?_,fun y c _ h=>?_,fun _=>hd,Around.frames_deeper e0.frames,.inr ⟨rfl,rfl⟩,fun b z=>absurd z (noA b),e0.bs,e0.bsz,fun b _ _=>noA b,fun b z=>absurd z (noA b),e0.funs,e0.frf⟩,
  rfl,e0.bare,Un.kept hk,⟨_,x.toInCall.ns,fun i y v h1 h2 h3=>?_⟩,fun y c h=>⟨_,x.cell y c h⟩,e0.hok.fresh (Nat.le_refl _),fun y c h=>?_,fun p hp=>absurd (show p∈([]:List (Addr×Obj)) from hp) (by simp),e0.hok.kept hk,?_⟩
 ·exact name_of_addr x.apart (PySem.mem_of_lookup h1) (PySem.mem_of_lookup h2)
 ·have hy:scope.names.lookup y=some .cell∨scope.names.lookup y=some .free:=hy
  rcases hy with hy | hy
  ·exact cell_has hy
  ·exact absurd rfl (S.nofree _ (PySem.mem_of_lookup hy))
 ·exact Nat.le_of_lt (x.above y c (PySem.mem_of_lookup h))
 ·have hi:i<vs.length:=by
   unfold start at h2
   by_cases hi:i<vs.length
   ·exact hi
   ·rw[List.getElem?_append_right (by simpa using hi)] at h2
    rw[List.getElem?_replicate] at h2
    split at h2<;>cases h2
  have ha:vs[i]?=some v:=by
   unfold start at h2
   rw[List.getElem?_append_left (by simpa using hi),List.getElem?_map] at h2
   cases e:vs[i]? with
   | none=>rw[e] at h2;cases h2
   | some a=>rw[e] at h2;cases h2;rfl
  obtain⟨u,hu,rv⟩:=r.get ha
  have hp:ps[i]?=some y:=by
   rw[←S.pre,List.getElem?_take_of_lt (by omega)];exact h1
  have ndP:ps.Nodup:=by rw[←S.pre];exact S.nd.sublist (List.take_sublist _ _)
  refine⟨u,rv,?_⟩
  rcases S.par y (List.mem_of_getElem? hp) with k | k
  ·exact .inl ⟨k,bindL_get ndP hp hu k⟩
  ·obtain⟨c,e⟩:=cell_has (n:=s.heap.objs.size+1) k
   refine .inr ⟨.inl k,c,e,?_⟩
   have q:=x.cell y c e
   rw[bindC_get ndP hp hu (by show scope.names.lookup y≠_;rw[k];decide)] at q
   exact q
 ·exact e0.hok.fresh (Nat.le_of_lt (x.above y c (PySem.mem_of_lookup h)))
 ·unfold start
  show _=N.length
  rw[List.length_append,List.length_map,List.length_replicate]
  omega
theorem fn_of{CX:CXT}{P:Program}{w:World}{K:PySem.W.Frag}{mg:Str→Option Value}{base:Heap}{k:Nat}{f:Addr}{name qual:Str}{params:Arguments}{body:List Stmt}{scope:Scope}{dV kV doc pm cdv ct oc:Value}{an od:Option Addr}
 {osl:Array (Option Value)}{N ps:List Str}{sp:Sp}(lk:K.lookup f=some ⟨oc,od,.func (PySem.W.fnOf name qual params body scope dV kV doc pm an cdv ct),osl⟩)(hcd:PySem.W.codeIn K cdv qual=true)(S:FnScope N ps scope)
 (len:∀vs H Q E,sp vs H Q E→vs.length=ps.length)
 (hbody:∀(A:Around) (outer:List Env) (s:Shared) (H:Hp) (vs:List V) (Q:VK) (E:XK),Room k (A.deeper (envOfC qual scope s.heap.objs.size f cdv))→sp vs H Q E→
  ∃t,PSs (cxOf CX P w K mg base N qual scope f cdv A outer s H E) body t∧t { nx:=fun _ H'=>Q .non H',rt:=Q } (start N vs) H):
 FnOk P w K mg base CX (k+1) f (PySem.W.fnOf name qual params body scope dV kV doc pm an cdv ct) ps sp:=by
 refine⟨len,fun A outer s H args us vs Q E hr e0 hb r hsp=>?_⟩
 have hl:=len _ _ _ _ hsp
 have KX:K.In s.heap:=e0.mod.kin.keeps fun b o e=>(e0.bs b o e).1
 have lim:s.heap.NoLimit:=e0.mod.nolimit.keeps fun b o e=>(e0.bs b o e).1
 have hkind:∀y∈ps.zip us,scope.names.lookup y.1=some .local∨(scope.names.lookup y.1=some .cell∧((cellsFrom (s.heap.objs.size+1) scope.names []).lookup y.1).isSome=true):=fun⟨n,v⟩ hy=>by
  rcases S.par n (List.of_mem_zip hy).1 with q | q
  ·exact .inl q
  ·exact .inr ⟨q,PySem.W.cellsFrom_some _ _ _ (.inl q)⟩
 refine codeAny_call_function hr.depth (KX _ _ lk) rfl S.co S.gen rfl (PySem.W.codeRec_of KX hcd) (hb _ _ _ _ ?_)
 refine wpAny_newFunctionEnv_cells S.kind hkind fun env he s1 x=>?_
 subst he
 refine⟨lim.keeps x.toInCall.keep,codeAny_func ?_⟩
 obtain⟨t,ht,hq⟩:=hbody A outer s H vs Q E (hr.deeper _) hsp
 have I:Inv (cxOf CX P w K mg base N qual scope f cdv A outer s H E) [] (start N vs) H s1:=inv_start S hr.hd e0 hl r x
 refine wpAny_mono (ht [] s1 (start N vs) H _ I hq) (fun fl s' hs=>?_) fun e s' hs=>hs
 have fin:∀{σ':St} {H':Hp} {v:V} {u:Value},Inv (cxOf CX P w K mg base N qual scope f cdv A outer s H E) [] σ' H' s'→RelV v u→Q v H'→CE outer P w H s Q u s':=
  fun{σ' H' v u} J rv q=>⟨v,H',J.os,J.bare,J.base,J.hok,rv,q⟩
 cases fl with
 | ret u=>
  obtain⟨v,σ',H',J,rv,q⟩:=hs
  exact fin J rv q
 | next=>
  obtain⟨σ',H',J,q⟩:=hs
  exact fin (v:=V.non) (u:=Value.none) J rfl q
 | brk=>
  obtain⟨_,_,_,q⟩:=hs
  exact False.elim q
 | cont=>
  obtain⟨_,_,_,q⟩:=hs
  exact False.elim q
end L2
namespace L2
open PySem PySem.Spec PyProof.Rows
section
variable{X:Cx}{x:Str}{p pos:Pos}{e:Expr}{es:List Expr}{t:TA}{id T:String}{r:List V→Hp→VK→Prop}
def tCB(r:List V→Hp→VK→Prop)(t:TA):TE:=fun σ H Q=>t σ H fun vs H1=>r vs H1 Q
theorem pe_callB(hc:CallR X (.builtin id) r)(hg:Gl X x)(hm:X.mg x=none)(hv:bootBuiltins x=some (.builtin id))(ha:PA X (e::es) t)(hn:x≠"__name__":=by decide)(hdb:(x==("__debug__":Str))=false:=by decide)
 (he:starEach (e::es) X.env=(false,eval e X.env)::starEach es X.env:=by rfl)(hpl:(backTo pos (starEach es X.env)).any (·.1)=false:=by rfl):PE X (.Call (.Name x p) (e::es) [] pos) (tCB r t):=by
 intro pins s σ H Q I h
 refine wpAny_Call_Name_kw (ld_blt I hg hm hv ?_ hn hdb)
 exact PyProof.Rows.callWith_builtin1 (thn (ha pos pins s σ H _ I h) fun us s1 ⟨vs,H1,I1,r1,q1⟩=>hc pins s1 σ H1 vs us Q I1 r1 q1) he hpl
theorem pe_callTy(hc:CallR X (.type T) r)(hg:Gl X x)(hm:X.mg x=none)(hv:bootBuiltins x=some (.type T))(ha:PA X (e::es) t)(hn:x≠"__name__":=by decide)(hdb:(x==("__debug__":Str))=false:=by decide)
 (he:starEach (e::es) X.env=(false,eval e X.env)::starEach es X.env:=by rfl)(hpl:(backTo pos (starEach es X.env)).any (·.1)=false:=by rfl):PE X (.Call (.Name x p) (e::es) [] pos) (tCB r t):=by
 intro pins s σ H Q I h
 refine wpAny_Call_Name_kw (ld_blt I hg hm hv ?_ hn hdb)
 exact PyProof.Rows.callWith_type1 (thn (ha pos pins s σ H _ I h) fun us s1 ⟨vs,H1,I1,r1,q1⟩=>hc pins s1 σ H1 vs us Q I1 r1 q1) he hpl
end
end L2
namespace HT
open PySem PyProof.Rows
section
open PySem.SeqAt
open PySem.AutoSeq1 (wpAny_loadPart')
open PySem.MeetsSeq PySem.MeetsSeq2 PySem.MeetsSeq3
end
section
variable{prog:Program}{w:World}{A:Around}{E:Value→Shared→Prop}{s:Shared}
def sIx(n d:Nat):Option Int→Nat
 | none=>d
 | some v=>if v<0 then (v+(n:Int)).toNat else min v.toNat n
theorem sIx_none(n d:Nat):sIx n d none=d:=rfl
theorem sIx_nat(n d k:Nat):sIx n d (some (k:Int))=min k n:=by
 show(if (k:Int)<0 then ((k:Int)+(n:Int)).toNat else min (k:Int).toNat n)=min k n
 rw[if_neg (by omega),Int.toNat_natCast]
end
end HT
namespace L2
open PySem PySem.Spec PyProof.Rows
abbrev TO:=St→Hp→(Option Int→Hp→Prop)→Prop
def PO(X:Cx)(e:Option Expr)(t:TO):Prop:=
 ∀(pins:List (Addr×Obj)) (s:Shared) (σ:St) (H:Hp) (Q:Option Int→Hp→Prop),Inv X pins σ H s→t σ H Q→
  wpAny (model X.prog X.w) X.A (evalPart e X.env) (fun u s'=>∃o H',Inv X pins σ H' s'∧IsPart u o∧Q o H') X.xe s
def tNoPart:TO:=fun _ H Q=>Q none H
def tPart(t:TE):TO:=fun σ H Q=>t σ H fun x H1=>∃i,x=.int i∧Q (some i) H1
theorem intsAre_of{ns:List Int}:∀{us:List Value},Vals (ns.map V.int) us→IntsAre us ns:=by
 induction ns with
 | nil=>intro us r;rw[List.map_nil] at r;cases r;exact .nil
 | cons n ns ih=>
  intro us r
  rw[List.map_cons] at r
  cases r with
  | cons r1 r2=>
   obtain⟨t,e⟩:=r1
   subst e
   exact .cons n t (ih r2)
section
variable{X:Cx}{e:Expr}{te:TE}{lo hi:Option Expr}{tl th:TO}{pos p2:Pos}
theorem po_none:PO X none tNoPart:=by
 intro pins s σ H Q I h
 rw[evalPart_none]
 exact wpAny_pure ⟨none,H,I,.none,h⟩
theorem po_some(h:PE X e te):PO X (some e) (tPart te):=by
 intro pins s σ H Q I hw
 rw[evalPart_some]
 refine thn (h pins s σ H _ I hw) fun u s1 ⟨x,H1,I1,r1,q1⟩=>?_
 obtain⟨i,rfl,q⟩:=q1
 obtain⟨t,rfl⟩:=r1
 exact⟨some i,H1,I1,.int i t,q⟩
def SlR(X:Cx)(r:V→Option Int→Option Int→Hp→VK→Prop):Prop:=
 ∀(pins:List (Addr×Obj)) (s:Shared) (σ:St) (H:Hp) (x:V) (v vl vu:Value) (lo hi:Option Int) (sl:Addr) (Q:VK),Inv X pins σ H s→RelV x v→s.heap.IsSliceOf sl vl vu .none→IsPart vl lo→IsPart vu hi→r x lo hi H Q→
  ∃T id,typeLookup (.type T) "__getitem__"=pure (some (.builtin id))∧s.TypeIs v T∧wpAny (model X.prog X.w) X.A (getItem v (.ref sl)) (EP X pins σ Q) X.xe s
def tSl(r:V→Option Int→Option Int→Hp→VK→Prop)(te:TE)(tl th:TO):TE:=fun σ H Q=>te σ H fun x H1=>tl σ H1 fun l H2=>th σ H2 fun u H3=>r x l u H3 Q
theorem pe_slice{r:V→Option Int→Option Int→Hp→VK→Prop}(hr:SlR X r)(he:PE X e te)(hl:PO X lo tl)(hu:PO X hi th):PE X (.Subscript e (.Slice lo hi none p2) pos) (tSl r te tl th):=by
 intro pins s σ H Q I h
 refine Subscript_ (thn (he pins s σ H _ I h) fun v s1 ⟨x,H1,I1,r1,q1⟩=>?_)
 refine wpAny_Slice (thn (hl pins s1 σ H1 _ I1 q1) fun vl s2 ⟨l,H2,I2,pl,q2⟩=>thn (hu pins s2 σ H2 _ I2 q2) fun vu s3 ⟨u,H3,I3,pu,q3⟩=>?_)
 rw[evalPart_none]
 refine wpAny_pure ?_
 have I4:Inv X pins σ H3 { s3 with heap:=s3.heap.push { cls:=.type "slice",data:=.fields #[vl,vu,.none] } }:=I3.kept (t':=s3.toks) fun b ob q=>Heap.get?_push_of_some _ q
 obtain⟨T,id,hT,ht,hg⟩:=hr pins { s3 with heap:=s3.heap.push { cls:=.type "slice",data:=.fields #[vl,vu,.none] } } σ H3 x v vl vu l u s3.heap.objs.size Q I4 r1 (Heap.IsSliceOf.new ..) pl pu q3
 show wpAny (model X.prog X.w) X.A (subscriptTail e (.Slice lo hi none p2) v (.ref s3.heap.objs.size)) (EP X pins σ Q) X.xe { s3 with heap:=s3.heap.push { cls:=.type "slice",data:=.fields #[vl,vu,.none] } }
 exact tail_any (ops:=[.ref s3.heap.objs.size,v]) ht hT hg (by with_unfolding_all rfl)
def cutV(xs:List V)(lo hi:Option Int):List V:=(xs.drop (HT.sIx xs.length 0 lo)).take (HT.sIx xs.length xs.length hi-HT.sIx xs.length 0 lo)
theorem cutV_length(xs:List V)(lo hi:Option Int):(cutV xs lo hi).length≤xs.length:=by
 unfold cutV
 rw[List.length_take,List.length_drop]
 omega
end
end L2
namespace L2
open PySem PySem.Spec PyProof.Rows
def ixN(n:Nat)(i:Int):Option Nat:=if 0≤i then (if i<n then some i.toNat else none) else if -(n:Int)≤i then some (i+n).toNat else none
def atI{α:Type}(xs:List α)(i:Int):Option α:=(ixN xs.length i).bind fun j=>xs[j]?
theorem ixN_seq{n:Nat}{i:Int}{j:Nat}(h:ixN n i=some j):seqIndex? i n=some j∧j<n∧ -(n:Int)≤i∧i<n:=by
 unfold ixN at h
 by_cases h0:0≤i
 ·rw[if_pos h0] at h
  by_cases h1:i<n
  ·rw[if_pos h1] at h
   have e:i.toNat=j:=Option.some.inj h
   exact⟨by rw[seqIndex_of h0 h1,e],by omega,by omega,h1⟩
  ·rw[if_neg h1] at h;cases h
 ·rw[if_neg h0] at h
  by_cases h1: -(n:Int)≤i
  ·rw[if_pos h1] at h
   have e:(i+n).toNat=j:=Option.some.inj h
   exact⟨by rw[seqIndex_neg (by omega) h1,e],by omega,h1,by omega⟩
  ·rw[if_neg h1] at h;cases h
theorem atI_get{α:Type}{xs:List α}{i:Int}{v:α}(h:atI xs i=some v):∃j,seqIndex? i xs.length=some j∧xs[j]?=some v∧j<xs.length∧ -(xs.length:Int)≤i∧i<xs.length:=by
 unfold atI at h
 cases e:ixN xs.length i with
 | none=>rw[e] at h;cases h
 | some j=>
  rw[e] at h
  obtain⟨h1,h2,h3,h4⟩:=ixN_seq e
  exact⟨j,h1,h,h2,h3,h4⟩
theorem atI_nat{α:Type}{xs:List α}{j:Nat}{v:α}(h:xs[j]?=some v):atI xs (j:Int)=some v:=by
 have hj:j<xs.length:=(List.getElem?_eq_some_iff.mp h).1
 have e:ixN xs.length (j:Int)=some j:=by
  unfold ixN
  rw[if_pos (by omega),if_pos (by omega)];simp
 unfold atI;rw[e];exact h
def PlainIx(b:Expr):Prop:=∀o i,subscripted b false o i=operate [o,i] (getItem o i)
def IxR(X:Cx)(r:R2):Prop:=
 ∀(value slice:Expr) (pins:List (Addr×Obj)) (s:Shared) (σ:St) (H:Hp) (x y:V) (v u:Value) (Q:VK),Inv X pins σ H s→RelV x v→RelV y u→r x y H Q→
  subscripted slice false v u=operate [v,u] (getItem v u)→wpAny (model X.prog X.w) X.A (subscriptTail value slice v u) (EP X pins σ Q) X.xe s
def MtR(X:Cx)(id:String)(r:V→List V→Hp→VK→Prop):Prop:=
 ∀(pins:List (Addr×Obj)) (s:Shared) (σ:St) (H:Hp) (x:V) (xs:List V) (v:Value) (us:List Value) (Q:VK),Inv X pins σ H s→RelV x v→Vals xs us→r x xs H Q→
  wpAny (model X.prog X.w) X.A (call (.builtin id) (v::us)) (EP X pins σ Q) X.xe s
section
variable{X:Cx}{a b:Expr}{ta tb:TE}{pos:Pos}
theorem pe_ix{r:R2}(hr:IxR X r)(ha:PE X a ta)(hb:PE X b tb)(hs:PlainIx b):PE X (.Subscript a b pos) (tOp r ta tb):=by
 intro pins s σ H Q I h
 exact Subscript_ (binT ha hb I h fun v u s2 x y H2 I2 rx ry q=>hr a b pins s2 σ H2 x y v u Q I2 rx ry q (hs _ _))
def rIxL(K:PySem.W.Frag):R2:=fun x y H Q=>∃p xs i v,x=.ref p∧y=.int i∧SqL K H p xs∧atI xs i=some v∧Q v H
def rIxT(K:PySem.W.Frag):R2:=fun x y H Q=>∃p xs i v,x=.ref p∧y=.int i∧SqT K H p xs∧atI xs i=some v∧Q v H
def rIxS:R2:=fun x y H Q=>∃z i c,x=.str z∧y=.int i∧z.length≤sizeLine∧atI z.cps.toList i=some c∧Q (.str ⟨#[c]⟩) H
theorem ix_list:IxR X (rIxL X.K):=by
 intro value slice pins s σ H x y v u Q I rx ry h hs
 obtain⟨p,xs,i,z,rfl,rfl,hq,he,q⟩:=h
 cases rx
 obtain⟨t,rfl⟩:=ry
 obtain⟨its,r,pl,hz⟩:=I.list hq
 obtain⟨j,h1,h2,h3,h4,h5⟩:=atI_get he
 obtain⟨w,ew,rw'⟩:=r.get h2
 have hl:=r.length
 have hn:=line63
 have fin:EP X pins σ Q w s:=⟨z,H,I,rw',q⟩
 by_cases h0:0≤i
 ·have hj:i.toNat=j:=by
   rw[seqIndex_of h0 h5] at h1
   exact Option.some.inj h1
  exact item_listR pl.isList h0 (by omega) (by rw[hj];simpa using ew) fin hs
 ·have hj:(i+(its.toArray.size:Int)).toNat=j:=by
   rw[seqIndex_neg (by omega) h4] at h1
   rw[List.size_toArray,←hl]
   exact Option.some.inj h1
  exact subscriptTail_builtinR (x:=w) pl.isList.typeIs slot_list_getitem.lookup
   (wpAny_getItem_list_neg (Q:=fun r s'=>r=w∧EP X pins σ Q r s') pl.isList (by omega) (by rw[List.size_toArray]<;>omega) (by omega) (by rw[hj];simpa using ew) ⟨rfl,fin⟩) hs
theorem ix_tup:IxR X (rIxT X.K):=by
 intro value slice pins s σ H x y v u Q I rx ry h hs
 obtain⟨p,xs,i,z,rfl,rfl,hq,he,q⟩:=h
 cases rx
 obtain⟨t,rfl⟩:=ry
 obtain⟨its,r,pl,hz⟩:=I.tuple hq
 obtain⟨j,h1,h2,h3,h4,h5⟩:=atI_get he
 obtain⟨w,ew,rw'⟩:=r.get h2
 have hl:=r.length
 have hn:=line63
 have fin:EP X pins σ Q w s:=⟨z,H,I,rw',q⟩
 exact subscriptTail_builtinR (x:=w) pl.typeIs slot_tuple_getitem.lookup
  (getItem_tuple (j:=j) (Q:=fun r s'=>r=w∧EP X pins σ Q r s') pl (by omega) (by omega) (by rw[List.size_toArray,←hl];exact h1) (by simpa using ew) ⟨rfl,fin⟩) hs
theorem ix_str:IxR X rIxS:=by
 intro value slice pins s σ H x y v u Q I rx ry h hs
 obtain⟨z,i,c,rfl,rfl,hz,he,q⟩:=h
 obtain⟨t,rfl⟩:=rx
 obtain⟨t',rfl⟩:=ry
 obtain⟨j,h1,h2,h3,h4,h5⟩:=atI_get he
 have hl:z.cps.toList.length=z.length:=by simp[Str.length]
 rw[hl] at h1 h4 h5
 have hn:=line63
 exact tail_any (typeIs_str s z t) slot_str_getitem.lookup (getItem_str (c:=c) (by
  have e1:decide (i< -(2^63:Int))=false:=decide_eq_false (by omega)
  have e2:decide (i≥2^63)=false:=decide_eq_false (by omega)
  rw[e1,e2,Bool.or_false]) (by rw[h1];simpa using h2) ⟨.str ⟨#[c]⟩,H,I.tok _,⟨_,rfl⟩,q⟩) hs
theorem mapSeq_set(its:List Value)(n j:Nat)(u:Value):Obj.mapSeq (·.setIfInBounds j u) { cls:=.type "list",data:=.seq its.toArray n }={ cls:=.type "list",data:=.seq (its.set j u).toArray n }:=by
 simp[Obj.mapSeq]
theorem Inv.lst{pins:List (Addr×Obj)}{σ:St}{H:Hp}{s:Shared}{p:Addr}{xs:List V}(I:Inv X pins σ H s)(h:H p=some (.lst xs)):
 ∃(its:List Value) (n:Nat),Vals xs its∧s.heap.get? p=some { cls:=.type "list",data:=.seq its.toArray n }∧xs.length≤sizeLine:=by
 obtain⟨z,its,n,r,e⟩:=I.hok p _ h
 exact⟨its,n,r,e,z⟩
theorem Inv.lstUpd{pins:List (Addr×Obj)}{σ:St}{H:Hp}{s:Shared}{p:Addr}{xs ys:List V}{its its':List Value}{n n':Nat}{f:Obj→Obj}(I:Inv X pins σ H s)(h:H p=some (.lst xs))
 (ho:s.heap.get? p=some { cls:=.type "list",data:=.seq its.toArray n })(hf:f { cls:=.type "list",data:=.seq its.toArray n }={ cls:=.type "list",data:=.seq its'.toArray n' })(r:Vals ys its')(hz:ys.length≤sizeLine)(t:Nat):
 Inv X pins σ (upd H p (.lst ys)) { s with heap:=s.heap.update p f,toks:=t }:=by
 have e:(s.heap.update p f).get? p=some { cls:=.type "list",data:=.seq its'.toArray n' }:=by
  rw[Heap.get?_update_self f ho (by rw[hf]<;>rfl),hf]
 refine I.write (x:=p) (e:=p) (by rw[h];trivial) (.inl rfl) (fun b u hb q=>(Heap.get?_update_other _ _ (Ne.symm hb)).trans q) ⟨_,e⟩ ?_
 exact⟨hz,its',n',r,e⟩
def rSetL:V→V→V→Hp→(Hp→Prop)→Prop:=fun o i v H Q=>∃p xs k j,o=.ref p∧i=.int k∧H p=some (.lst xs)∧ixN xs.length k=some j∧Q (upd H p (.lst (xs.set j v)))
theorem set_list:PSet X rSetL:=by
 intro pins s σ H o i v ov iv u Q I ro ri rv h
 obtain⟨p,xs,k,j,rfl,rfl,hp,hj,q⟩:=h
 cases ro
 obtain⟨t,rfl⟩:=ri
 obtain⟨its,n,r,ho,hz⟩:=I.lst hp
 obtain⟨h1,h2,h3,h4⟩:=ixN_seq hj
 have hl:=r.length
 have hn:=line63
 have I':Inv X pins σ (upd H p (.lst (xs.set j v))) { s with heap:=s.heap.update p (Obj.mapSeq (·.setIfInBounds j u)) }:=
  I.lstUpd hp ho (mapSeq_set its n j u) (r.set rv j) (by rw[List.length_set];exact hz) s.toks
 by_cases h0:0≤k
 ·have hk:k.toNat=j:=by
   rw[seqIndex_of h0 h4] at h1
   exact Option.some.inj h1
  exact PySem.W.ki_setAt ho h0 (by omega) (by rw[List.size_toArray,←hl];exact h4) (by rw[hk];exact⟨_,I',q⟩)
 ·have hk:(k+(its.toArray.size:Int)).toNat=j:=by
   rw[seqIndex_neg (by omega) h3] at h1
   rw[List.size_toArray,←hl]
   exact Option.some.inj h1
  exact PySem.W.ki_setBack ho (by omega) (by rw[List.size_toArray,←hl];exact h3) (by omega) (by rw[hk];exact⟨_,I',q⟩)
theorem slice_bounds(lo hi:Option Int)(n:Nat):(sliceBounds lo hi none n).1=((HT.sIx n 0 lo:Nat):Int)∧(sliceBounds lo hi none n).2.1=((HT.sIx n n hi:Nat):Int)∧(sliceBounds lo hi none n).2.2=1:=by
 refine⟨?_,?_,rfl⟩
 ·cases lo with
  | none=>simp[sliceBounds,HT.sIx]
  | some i=>
   simp only[sliceBounds,HT.sIx,Option.getD_none,show(1:Int)>0 by decide,if_true]
   by_cases h:i<0
   ·simp only[h,if_true]<;>omega
   ·simp only[h,if_false]<;>omega
 ·cases hi with
  | none=>simp[sliceBounds,HT.sIx]
  | some i=>
   simp only[sliceBounds,HT.sIx,Option.getD_none,show(1:Int)>0 by decide,if_true]
   by_cases h:i<0
   ·simp only[h,if_true]<;>omega
   ·simp only[h,if_false]<;>omega
theorem slicePick_cut(its:List Value)(lo hi:Option Int):slicePick its.toArray lo hi none=((its.drop (HT.sIx its.length 0 lo)).take (HT.sIx its.length its.length hi-HT.sIx its.length 0 lo)).toArray:=by
 obtain⟨h1,h2,h3⟩:=slice_bounds lo hi its.toArray.size
 unfold slicePick
 rw[h1,h2,h3]
 simp only[sliceRange_one,pick_run,List.size_toArray]<;>rfl
def rSlL(K:PySem.W.Frag):V→Option Int→Option Int→Hp→VK→Prop:=fun x lo hi H Q=>∃a xs,x=.ref a∧SqL K H a xs∧∀p,H p=none→Q (.ref p) (upd H p (.lst (cutV xs lo hi)))
theorem sl_list:SlR X (rSlL X.K):=by
 intro pins s σ H x v vl vu lo hi sl Q I rx hs pl pu h
 obtain⟨a,xs,rfl,hx,q⟩:=h
 cases rx
 obtain⟨its,r,ht,hz⟩:=I.list hx
 have hlen:=r.length
 refine⟨"list",_,slot_list_getitem.lookup,ht.isList.typeIs,?_⟩
 refine wpAny_getItem_list_slice ht.isList hs pl pu .none (by simp) ?_ (by rw[List.size_toArray]<;>omega)
 rw[slicePick_cut,←hlen]
 refine⟨.ref s.heap.objs.size,_,I.laid (t':=s.toks) (o:=.lst (cutV xs lo hi)) (fun b ob q=>Heap.get?_push_of_some _ q) (Nat.le_refl _) ?_,rfl,q _ (I.hok.fresh (Nat.le_refl _))⟩
 exact⟨Nat.le_trans (cutV_length xs lo hi) hz,_,0,(r.drop (HT.sIx xs.length 0 lo)).take (HT.sIx xs.length xs.length hi-HT.sIx xs.length 0 lo),Heap.get?_push_size _ rfl⟩
def flatV:V→Bool
 | .non=>true
 | .bl _=>true
 | .int _=>true
 | .str _=>true
 | _=>false
def eqV:V→V→Bool
 | .non,.non=>true
 | .bl a,.bl b=>a==b
 | .bl a,.int b=>(if a then 1 else 0)==b
 | .int a,.bl b=>a==(if b then 1 else 0)
 | .int a,.int b=>a==b
 | .str a,.str b=>a==b
 | _,_=>false
theorem eqAt_V{A:Around}{s:Shared}{y x:V}{u v:Value}(ry:RelV y u)(rx:RelV x v)(fy:flatV y=true)(fx:flatV x=true):SeqAt.EqAt A s u v (eqV y x):=by
 cases y with
 | non=>
  cases ry
  cases x with
  | non=>cases rx;exact SeqAt.EqAt.same _
  | bl b=>cases rx;exact SeqAt.EqAt.none_bool b
  | int b=>obtain⟨t,rfl⟩:=rx;exact SeqAt.EqAt.none_int b t
  | str b=>obtain⟨t,rfl⟩:=rx;exact SeqAt.EqAt.none_str b t
  | _=>exact absurd (show false=true from fx) Bool.false_ne_true
 | bl a=>
  cases ry
  cases x with
  | non=>cases rx;exact SeqAt.EqAt.bool_none a
  | bl b=>cases rx;exact SeqAt.EqAt.bool_bool a b
  | int b=>obtain⟨t,rfl⟩:=rx;exact SeqAt.EqAt.bool_int a b t
  | str b=>obtain⟨t,rfl⟩:=rx;exact SeqAt.EqAt.bool_str a b t
  | _=>exact absurd (show false=true from fx) Bool.false_ne_true
 | int a=>
  obtain⟨t',rfl⟩:=ry
  cases x with
  | non=>cases rx;exact SeqAt.EqAt.int_none a t'
  | bl b=>cases rx;exact SeqAt.EqAt.int_bool a t' b
  | int b=>obtain⟨t,rfl⟩:=rx;exact SeqAt.EqAt.int_int a t' b t
  | str b=>obtain⟨t,rfl⟩:=rx;exact SeqAt.EqAt.int_str a t' b t
  | _=>exact absurd (show false=true from fx) Bool.false_ne_true
 | str a=>
  obtain⟨t',rfl⟩:=ry
  cases x with
  | non=>cases rx;exact SeqAt.EqAt.str_none a t'
  | bl b=>cases rx;exact SeqAt.EqAt.str_bool a t' b
  | int b=>obtain⟨t,rfl⟩:=rx;exact SeqAt.EqAt.str_int a t' b t
  | str b=>obtain⟨t,rfl⟩:=rx;exact SeqAt.EqAt.str_str a t' b t
  | _=>exact absurd (show false=true from fx) Bool.false_ne_true
 | _=>exact absurd (show false=true from fy) Bool.false_ne_true
def eqU(x:V)(u:Value):Bool:=match u with
 | .none=>eqV .non x
 | .bool b=>eqV (.bl b) x
 | .int i _=>eqV (.int i) x
 | .str z _=>eqV (.str z) x
 | _=>false
theorem eqU_of{x y:V}{u:Value}(r:RelV y u)(f:flatV y=true):eqU x u=eqV y x:=by
 cases y with
 | non=>cases r;rfl
 | bl b=>cases r;rfl
 | int i=>obtain⟨t,rfl⟩:=r;rfl
 | str z=>obtain⟨t,rfl⟩:=r;rfl
 | _=>exact absurd (show false=true from f) Bool.false_ne_true
theorem any_eqU{x:V}:∀{xs:List V} {us:List Value},Vals xs us→xs.all flatV=true→us.any (eqU x)=xs.any fun y=>eqV y x
 | _,_,.nil,_=>rfl
 | y::xs,u::us,.cons r t,f=>by
  rw[List.all_cons,Bool.and_eq_true] at f
  rw[List.any_cons,List.any_cons,eqU_of r f.1,any_eqU t f.2]
theorem mem_eqAt{A:Around}{s:Shared}{x:V}{v:Value}(rx:RelV x v)(fx:flatV x=true):∀{xs:List V} {us:List Value},Vals xs us→xs.all flatV=true→∀u∈us,SeqAt.EqAt A s u v (eqU x u)
 | _,_,.nil,_=>fun u hu=>by cases hu
 | y::xs,u::us,.cons r t,f=>fun u' hu=>by
  rw[List.all_cons,Bool.and_eq_true] at f
  rcases List.mem_cons.mp hu with rfl | hu
  ·rw[eqU_of r f.1];exact eqAt_V r rx f.1 fx
  ·exact mem_eqAt rx fx t f.2 u' hu
def inV(x:V)(xs:List V):Bool:=xs.any fun y=>eqV y x
def rIn(K:PySem.W.Frag)(neg:Bool):R2:=fun x y H Q=>∃p xs,y=.ref p∧(SqL K H p xs∨SqT K H p xs)∧flatV x=true∧xs.all flatV=true∧Q (.bl (if neg then !inV x xs else inV x xs)) H
theorem op_in_seq:OpR X (compareOp .In) (rIn X.K false):=by
 intro pins s σ H x y v u Q I rx ry h
 obtain⟨p,xs,rfl,hq,fx,fs,q⟩:=h
 cases ry
 rcases hq with hq | hq
 ·obtain⟨its,r,pl,hz⟩:=I.list hq
  refine SeqAt.in_listAt (eqU x) pl.isList (fun w hw=>mem_eqAt rx fx r fs w (by simpa using hw)) ⟨.bl _,H,I,rfl,?_⟩
  rw[show its.toArray.any (eqU x)=its.any (eqU x) by simp,any_eqU r fs]
  exact q
 ·obtain⟨its,r,pl,hz⟩:=I.tuple hq
  refine SeqAt.in_tupleAt (eqU x) pl (fun w hw=>mem_eqAt rx fx r fs w (by simpa using hw)) ⟨.bl _,H,I,rfl,?_⟩
  rw[show its.toArray.any (eqU x)=its.any (eqU x) by simp,any_eqU r fs]
  exact q
theorem call_len_seq:CallR X (.builtin "len") (fun xs H Q=>∃p ys,xs=[.ref p]∧(SqL X.K H p ys∨SqT X.K H p ys)∧Q (.int ys.length) H):=by
 intro pins s σ H xs us Q I r h
 obtain⟨p,ys,rfl,hq,q⟩:=h
 obtain⟨u,rfl,rx⟩:=vals1 r
 cases rx
 have hn:=line63
 rcases hq with hq | hq
 ·obtain⟨its,r',pl,hz⟩:=I.list hq
  have hlen:=r'.length
  exact Calls.call_len_list pl.isList (by simp only[List.size_toArray]<;>omega) ⟨.int ys.length,H,I.tok _,⟨s.toks+1,by rw[List.size_toArray,hlen]⟩,q⟩
 ·obtain⟨its,r',pl,hz⟩:=I.tuple hq
  have hlen:=r'.length
  exact len_tuple pl (by simp only[List.size_toArray]<;>omega) ⟨.int ys.length,H,I.tok _,⟨s.toks+1,by rw[List.size_toArray,hlen]⟩,q⟩
theorem call_len_str:CallR X (.builtin "len") (fun xs H Q=>∃z,xs=[.str z]∧z.length≤sizeLine∧Q (.int z.length) H):=by
 intro pins s σ H xs us Q I r h
 obtain⟨z,rfl,hz,q⟩:=h
 obtain⟨u,rfl,t,rfl⟩:=vals1 r
 have hn:=line63
 exact len_str (by omega) ⟨.int z.length,H,I.tok _,⟨_,rfl⟩,q⟩
theorem call_list_of:CallR X (.type "list") (fun xs H Q=>∃p ys,xs=[.ref p]∧(SqL X.K H p ys∨SqT X.K H p ys)∧∀l,H l=none→Q (.ref l) (upd H l (.lst ys))):=by
 intro pins s σ H xs us Q I r h
 obtain⟨p,ys,rfl,hq,q⟩:=h
 obtain⟨u,rfl,rx⟩:=vals1 r
 cases rx
 have fin:∀(its:List Value),Vals ys its→ys.length≤sizeLine→∀(h':Heap) (c':Nat),(∀b o',s.heap.get? b=some o'→h'.get? b=some o')→
  h'.get? s.heap.objs.size=some { cls:=.type "list",dict:=none,data:=.seq its.toArray c',slots:= #[] }→EP X pins σ Q (.ref s.heap.objs.size) { s with heap:=h' }:=fun its r' hz h' c' kp e=>
  ⟨.ref s.heap.objs.size,_,I.laid (t':=s.toks) kp (Nat.le_refl _) (show ObjOk X.prog X.w _ h' _ (.lst ys) from ⟨hz,its,c',r',e⟩),rfl,q _ (I.hok.fresh (Nat.le_refl _))⟩
 rcases hq with hq | hq
 ·obtain⟨its,r',pl,hz⟩:=I.list hq
  have hlen:=r'.length
  obtain⟨o,ho,hc,n,hd⟩:=pl.isList
  exact call_list_seq p (.inl rfl) ho hc hd (fun h' c' kp e=>fin its r' hz h' c' kp e) (by simp only[List.size_toArray]<;>omega)
 ·obtain⟨its,r',pl,hz⟩:=I.tuple hq
  have hlen:=r'.length
  obtain⟨o,ho,hc,n,hd⟩:=pl
  exact call_list_seq p (.inr rfl) ho hc hd (fun h' c' kp e=>fin its r' hz h' c' kp e) (by simp only[List.size_toArray]<;>omega)
theorem call_tuple_of:CallR X (.type "tuple") (fun xs H Q=>∃p ys,xs=[.ref p]∧((SqL X.K H p ys∧∀l,H l=none→Q (.ref l) (upd H l (.tup ys)))∨(SqT X.K H p ys∧Q (.ref p) H))):=by
 intro pins s σ H xs us Q I r h
 obtain⟨p,ys,rfl,h⟩:=h
 obtain⟨u,rfl,rx⟩:=vals1 r
 cases rx
 rcases h with ⟨hq,q⟩ | ⟨hq,q⟩
 ·obtain⟨its,r',pl,hz⟩:=I.list hq
  have hlen:=r'.length
  refine call_tuple_list pl.isList (fun h' kp=>?_) (by simp only[List.size_toArray]<;>omega)
  have I1:Inv X pins σ H { s with heap:=h' }:=I.kept (t':=s.toks) kp
  have I2:Inv X pins σ (upd H h'.objs.size (.tup ys)) { s with heap:=h'.push { cls:=.type "tuple",data:=.seq its.toArray } }:=
   I1.laid (t':=s.toks) (fun b o e=>Heap.get?_push_of_some _ e) (Nat.le_refl _) (show ObjOk X.prog X.w _ _ _ (.tup ys) from ⟨hz,its,r',IsTup.new _ _⟩)
  exact⟨.ref h'.objs.size,_,I2,rfl,q _ (I1.hok.fresh (Nat.le_refl _))⟩
 ·obtain⟨its,r',pl,hz⟩:=I.tuple hq
  exact call_tuple_same pl ⟨.ref p,H,I,rfl,q⟩
def tyV(K:PySem.W.Frag)(T:String)(x:V)(H:Hp):Prop:=match x with
 | .str _=>T="str"
 | .int _=>T="int"
 | .ref p=>(T="list"∧∃xs,SqL K H p xs)∨(T="tuple"∧∃o,K.lookup p=some o∧o.cls=.type "tuple"∧o.dict=none)∨
  (T="dict"∧((∃kvs,H p=some (.dK kvs))∨∃kvs,H p=some (.dT kvs)))∨(T="set"∧∃S n,H p=some (.set S n))
 | _=>False
theorem tyV_is{pins:List (Addr×Obj)}{σ:St}{H:Hp}{s:Shared}{T:String}{x:V}{v:Value}(I:Inv X pins σ H s)(r:RelV x v)(ty:tyV X.K T x H):
 s.TypeIs v T∧∀a,v=.ref a→∃ob,s.heap.get? a=some ob∧ob.dict=none:=by
 cases x with
 | str z=>
  obtain⟨t,rfl⟩:=r
  cases (show T="str" from ty)
  exact⟨typeIs_str s z t,fun _ e=>nomatch e⟩
 | int i=>
  obtain⟨t,rfl⟩:=r
  cases (show T="int" from ty)
  exact⟨typeIs_int s i t,fun _ e=>nomatch e⟩
 | ref p=>
  cases r
  rcases ty with ⟨rfl,xs,hq⟩ | ⟨rfl,o,hk,hc,hd⟩ | ⟨rfl,hk⟩ | ⟨rfl,S,n,hk⟩
  ·obtain⟨its,_,pl,_⟩:=I.list hq
   refine⟨pl.isList.typeIs,fun a e=>?_⟩
   cases e
   obtain⟨o,n,e,c,hd,_⟩:=pl
   exact⟨o,e,hd⟩
  ·refine⟨⟨o,I.kIn p o hk,hc⟩,fun a e=>?_⟩
   cases e
   exact⟨o,I.kIn _ o hk,hd⟩
  ·have z:∃o,s.heap.get? p=some o∧o.ExactDict:=by
    rcases hk with ⟨kvs,hk⟩ | ⟨kvs,hk⟩
    ·obtain⟨_,_,_,_,o,_,_,e,ex,_⟩:=I.hok p _ hk
     exact⟨o,e,ex⟩
    ·obtain⟨_,_,_,_,o,_,_,e,ex,_⟩:=I.hok p _ hk
     exact⟨o,e,ex⟩
   obtain⟨o,e,ex⟩:=z
   refine⟨⟨o,e,ex.1⟩,fun a e2=>?_⟩
   cases e2
   exact⟨o,e,ex.2.1⟩
  ·obtain⟨o,_,_,_,e,ex,_⟩:=I.hok p _ hk
   refine⟨⟨o,e,ex.1⟩,fun a e2=>?_⟩
   cases e2
   exact⟨o,e,ex.2.1⟩
 | _=>exact False.elim ty
def tBM(K:PySem.W.Frag)(T:String)(r:V→List V→Hp→VK→Prop)(to:TE)(t:TA):TE:=fun σ H Q=>to σ H fun x H1=>tyV K T x H1∧t σ H1 fun xs H2=>r x xs H2 Q
variable{o e:Expr}{es:List Expr}{to:TE}{t:TA}{name:Str}{apos cpos:Pos}{T id:String}{r:V→List V→Hp→VK→Prop}
theorem pe_bm(pa:PlainAttrs T)(slot:Slot T name id)(hty:typeOf (.builtin id)=pure (.type "method_descriptor"))(hm:MtR X id r)(ho:PE X o to)(ha:PA X (e::es) t)
 (hbase:attributeBase o name X.env (eval o X.env)=eval o X.env:=by rfl)
 (hfew:((backTo cpos (starEach (e::es) X.env)).all (fun x=>!x.1)&&(backToKw cpos (keywordEach [] X.env)).all (fun x=>x.1.isSome)
  &&decide ((e::es).length+([]:List Keyword).length+(if ([]:List Keyword).isEmpty then 0 else 1)<30))=true:=by rfl)
 (hline:(apos.endLine==cpos.line)=true:=by rfl)(hs:starEach (e::es) X.env=(false,eval e X.env)::starEach es X.env:=by rfl)(hplain:(backTo cpos (starEach es X.env)).any (·.1)=false:=by rfl):
 PE X (.Call (.Attribute o name apos) (e::es) [] cpos) (tBM X.K T r to t):=by
 intro pins s σ H Q I h
 refine wpAny_Call_method_late hbase hfew hline rfl (thn (ho pins s σ H _ I h) fun v s1 ⟨x,H1,I1,r1,ty,q1⟩=>?_)
 obtain⟨h1,h2⟩:=tyV_is I1 r1 ty
 refine⟨T,id,pa,slot,hty,h1,h2,?_⟩
 have hA:=ha cpos pins s1 σ H1 _ I1 q1
 rw[hs] at hA ⊢
 refine Calls.callWith_builtin (by show(false||(backTo cpos (starEach es X.env)).any (·.1))=false;rw[hplain]<;>rfl) (Calls.evalArgs_plain ?_)
 exact thn hA fun us s2 ⟨vs,H2,I2,r2,q2⟩=>hm pins s2 σ H2 x vs v us Q I2 r1 r2 q2
end
end L2
namespace L2
open PySem PySem.Spec PyProof.Rows
def MtM(X:Cx)(id:String)(r:V→List V→Hp→VK→Prop):Prop:=
 ∀(pins:List (Addr×Obj)) (s:Shared) (σ:St) (H:Hp) (x:V) (xs:List V) (v:Value) (us:List Value) (Q:VK),Inv X pins σ H s→RelV x v→Vals xs us→r x xs H Q→
  wpAny (model X.prog X.w) X.A (call (.builtin id) (v::us)) (EP X pins σ Q) X.xe s
theorem Vals.one:∀{x:V} {us:List Value},Vals [x] us→∃u,us=[u]∧RelV x u
 | _,_,.cons r .nil=>⟨_,rfl,r⟩
theorem Vals.two:∀{x y:V} {us:List Value},Vals [x,y] us→∃u v,us=[u,v]∧RelV x u∧RelV y v
 | _,_,_,.cons r (.cons q .nil)=>⟨_,_,rfl,r,q⟩
theorem Vals.rep{xs:List V}{us:List Value}(h:Vals xs us):∀k:Nat,Vals (List.replicate k xs).flatten (List.replicate k us).flatten
 | 0=>.nil
 | k+1=>by
  rw[List.replicate_succ,List.replicate_succ,List.flatten_cons,List.flatten_cons]
  exact Vals.append h (Vals.rep h k)
theorem foldl_rep(its:List Value):∀(k:Nat) (acc:List Value),
 List.foldl (fun x1 x2=>x1++x2) acc.toArray (List.replicate k its.toArray)=(acc++(List.replicate k its).flatten).toArray
 | 0,acc=>by simp
 | k+1,acc=>by
  have e:acc.toArray++its.toArray=(acc++its).toArray:=by simp
  have e2:(acc++its)++(List.replicate k its).flatten=acc++(List.replicate (k+1) its).flatten:=by
   rw[List.replicate_succ,List.flatten_cons,List.append_assoc]
  rw[←e2,←foldl_rep its k (acc++its),←e,List.replicate_succ,List.foldl_cons]
section
variable{X:Cx}{pins:List (Addr×Obj)}{σ:St}{H:Hp}{s:Shared}{l b:Addr}{xs ys zs:List V}
theorem Inv.lset{its its':List Value}{n:Nat}{f:Array Value→Array Value}{t':Nat}(I:Inv X pins σ H s)(hH:H l=some (.lst xs))
 (e:s.heap.get? l=some { cls:=.type "list",data:=.seq its.toArray n })(hf:f its.toArray=its'.toArray)(hv:Vals ys its')(hz:ys.length≤sizeLine):
 Inv X pins σ (upd H l (.lst ys)) { s with heap:=s.heap.update l (Obj.mapSeq f),toks:=t' }:=by
 have q:=PySem.IsL.update e f
 rw[hf] at q
 refine I.write (x:=l) (e:=l) (by rw[hH];exact trivial) (.inl rfl) (fun b' u hb hu=>(Heap.get?_update_other s.heap (Obj.mapSeq f) (Ne.symm hb)).trans hu) ⟨_,q⟩ ?_
 exact⟨hz,its',_,hv,q⟩
theorem Inv.lnew{its:List Value}{t':Nat}(I:Inv X pins σ H s)(hv:Vals ys its)(hz:ys.length≤sizeLine):
 Inv X pins σ (upd H s.heap.objs.size (.lst ys)) { s with heap:=s.heap.push { cls:=.type "list",data:=.seq its.toArray },toks:=t' }:=
 I.laid (fun _ _ q=>Heap.get?_push_of_some _ q) (Nat.le_refl _) ⟨hz,its,0,hv,Heap.get?_push_size _ rfl⟩
theorem Inv.fresh(I:Inv X pins σ H s):H s.heap.objs.size=none:=I.hok.fresh (Nat.le_refl _)
theorem Inv.lstM(I:Inv X pins σ H s)(hH:H l=some (.lst xs)):xs.length≤sizeLine∧∃(its:List Value) (n:Nat),Vals xs its∧xs.length=its.length∧s.heap.get? l=some { cls:=.type "list",data:=.seq its.toArray n }:=by
 obtain⟨z,its,n,r,e⟩:=I.hok l _ hH
 exact⟨z,its,n,r,r.length,e⟩
theorem notLongL{n:Nat}(h:n≤sizeLine):Builtin.List.listTooLong n=false:=by
 unfold Builtin.List.listTooLong
 exact decide_eq_false (by omega)
end
section
variable{X:Cx}
def rAppend:V→List V→Hp→VK→Prop:=fun x vs H Q=>∃l xs y,x=.ref l∧vs=[y]∧H l=some (.lst xs)∧xs.length<sizeLine∧Q .non (upd H l (.lst (xs++[y])))
theorem mt_append:MtM X "list.append" rAppend:=by
 intro pins s σ H x vs v us Q I rx rv h
 obtain⟨l,xs,y,rfl,rfl,hH,hz,q⟩:=h
 cases rx
 obtain⟨u,rfl,ru⟩:=rv.one
 obtain⟨z,its,n,r,hl,e⟩:=I.lstM hH
 refine call_meets F.slot_list_append ⟨_,e,rfl⟩ F.entry_list_append (F.args_list_append_2 _ _) (PySem.list_append l its.toArray n u (by rw[List.size_toArray];omega)) ⟨e,?_⟩
 refine⟨.non,_,I.lset (its':=its++[u]) hH e (by simp) (r.append (.cons ru .nil)) ?_,rfl,q⟩
 rw[List.length_append,List.length_singleton]
 omega
def rCat:R2:=fun x y H Q=>∃l b xs zs,x=.ref l∧y=.ref b∧H l=some (.lst xs)∧H b=some (.lst zs)∧xs.length+zs.length≤sizeLine∧∀p,H p=none→Q (.ref p) (upd H p (.lst (xs++zs)))
theorem op_cat:OpR X (binaryOp .Add) rCat:=by
 intro pins s σ H x y v u Q I rx ry h
 obtain⟨l,b,xs,zs,rfl,rfl,hH,hB,hz,q⟩:=h
 cases rx
 cases ry
 obtain⟨z,its,n,r,hl,e⟩:=I.lstM hH
 obtain⟨z2,its2,n2,r2,hl2,e2⟩:=I.lstM hB
 refine PySem.P.add_list e e2 ?_ (by rw[List.size_toArray,List.size_toArray];omega)
 have ea:its.toArray++its2.toArray=(its++its2).toArray:=by simp
 rw[ea]
 exact⟨.ref _,_,I.lnew (t':=s.toks) (r.append r2) (by rw[List.length_append];omega),rfl,q _ I.fresh⟩
def rRep:R2:=fun x y H Q=>∃l k xs,x=.ref l∧y=.int k∧H l=some (.lst xs)∧ -(2^63)≤k∧k<2^63∧xs.length*k.toNat≤sizeLine∧
 ∀p,H p=none→Q (.ref p) (upd H p (.lst (List.replicate k.toNat xs).flatten))
theorem len_rep{α:Type}(xs:List α)(k:Nat):(List.replicate k xs).flatten.length=k*xs.length:=by
 induction k with
 | zero=>simp
 | succ k ih=>rw[List.replicate_succ,List.flatten_cons,List.length_append,ih,Nat.succ_mul,Nat.add_comm]
theorem op_rep:OpR X (binaryOp .Mult) rRep:=by
 intro pins s σ H x y v u Q I rx ry h
 obtain⟨l,k,xs,rfl,rfl,hH,h1,h2,hz,q⟩:=h
 cases rx
 obtain⟨t,rfl⟩:=ry
 obtain⟨z,its,n,r,hl,e⟩:=I.lstM hH
 have hlen:its.toArray.size*k.toNat≤sizeLine:=by rw[List.size_toArray,←hl];exact hz
 have hcap:¬its.toArray.size*k.toNat>(2^63-1)/8:=by
  have:(sizeLine:Nat)≤(2^63-1)/8:=by decide
  omega
 have hfit:¬(!Builtin.List.listFitsIndex k)=true:=by
  rw[fitsIndex_both h1 h2]
  exact Bool.false_ne_true
 have hlong:¬Builtin.List.listTooLong (its.toArray.size*k.toNat)=true:=by
  rw[notLongL hlen]
  exact Bool.false_ne_true
 have hnew:List.foldl (fun x1 x2=>x1++x2) #[] (List.replicate (if its.toArray.isEmpty=true then 0 else k.toNat) its.toArray)=(List.replicate k.toNat its).flatten.toArray:=by
  have f0:∀m:Nat,List.foldl (fun x1 x2=>x1++x2) #[] (List.replicate m its.toArray)=(List.replicate m its).flatten.toArray:=fun m=>by
   have:=foldl_rep its m []
   rw[List.nil_append] at this
   exact this
  rw[f0]
  cases its with
  | nil=>simp
  | cons a r'=>rw[if_neg (by simp)]
 refine wpAny_binaryOp_repeat_ref (T:="list") (U:="int") (by decide) ⟨_,e,rfl⟩ (fun s'=>typeIs_int s' k t) noFill_list_mul F.fills_int_mul F.slot_int_rmul repeat_list F.slot_int_index.lookup
  (call_meets F.slot_int_rmul (typeIs_int s k t) F.entry_int_rmul (F.args_int_rmul_2 _ _) (int___rmul___int_list k t l its.toArray n)
   ⟨e,rfl,⟨_,e,rfl⟩,call_meets F.slot_list_mul ⟨_,e,rfl⟩ F.entry_list_mul (F.args_list_mul_2 _ _) (AutoListH.list___mul___list_int_3 l its.toArray n k t hfit hcap hlong) ⟨e,?_⟩⟩)
 rw[hnew]
 exact⟨.ref _,_,I.lnew (t':=s.toks) (r.rep k.toNat) (by rw[len_rep,Nat.mul_comm];exact hz),rfl,q _ I.fresh⟩
end
section
variable{prog:Program}{w:World}{A:Around}{E:Value→Shared→Prop}{s:Shared}
end
section
variable{X:Cx}
end
end L2
namespace Att
open PySem PySem.W PySem.Calls PyProof.Rows
theorem ints_of_wellAll{P:Params}{h:Heap}:∀(ns:List Int) (vs:List Value),WellAll P h vs (ns.map WData.int)→IntsAre vs ns:=by
 intro ns
 induction ns with
 | nil=>
  intro vs w
  rw[List.map_nil] at w
  cases w
  exact .nil
 | cons n ns ih=>
  intro vs w
  rw[List.map_cons] at w
  cases w with
  | cons a b=>
   cases a
   exact .cons _ _ (ih _ b)
theorem script_of{l:OpenLaw}{n:Nat}(hn:l.most=some n){P:Params}{h:Heap}{args:List WData}{vals:List Value}
 (hpre:l.row.toRowW.claim.pre args=true)(hwl:WellAll P h vals args):
 ∃a vs ns,vals=[Value.ref a]∧args=[WData.list (ns.map WData.int)]∧h.get? a=some { cls:=.type "list",data:=.seq vs.toArray }∧IntsAre vs ns∧ns.length≤n:=by
 have hsh:WShape.hasAll [] args [.list .int]=true:=(pre_splitW hpre).1
 have hc:l.pre.holds [] { args:=args }=true:=(pre_splitW hpre).2
 obtain⟨d,r,rfl,h1,h2⟩:=hasAllW_cons hsh
 obtain rfl:=hasAllW_nil h2
 obtain⟨xs,rfl,h3⟩:=hasW_list h1
 obtain⟨ns,rfl⟩:=items_int h3
 have hlen:ns.length≤n:=by
  unfold OpenLaw.pre at hc
  have h4:(WTm.not (.lt (.lit (.int (n:Int))) (.len (.arg 0)))).holds [] { args:=[.list (ns.map .int)] }=true:=by
   have h4:=(holds_andW hc).1
   rw[hn] at h4
   exact h4
  have h5:=condW_of h4 (w_not (w_lt w_lit (w_len_list (w_arg rfl))))
  rw[List.length_map] at h5
  refine Nat.le_of_not_lt fun q=>?_
  have q':(n:Int)<((ns.length:Nat):Int):=by omega
  first
   | (rw [decide_eq_true q'] at h5;exact absurd h5 (by decide))
   | (simp at h5;omega)
 cases hwl with
 | cons w1 w2=>
  cases w2
  cases w1 with
  | list ho hall=>exact⟨_,_,ns,rfl,rfl,ho,ints_of_wellAll ns _ hall,hlen⟩
theorem post_true(l:OpenLaw)(args:List WData):l.row.toRowW.claim.post args (.bool true) args=true:=
 postW_of (r:=l.row.toRowW) (X:=(true==true))
  (show WShape.has [] (.bool true) .bool=true by first | rfl | decide | simp[WShape.has,WShape.arms,WShape.armsAll])
  (show (WTm.eq .res (.lit (.bool true))).value [] { args:=args,res:=some (.bool true),after:=args }=some (.bool (true==true)) from w_eq_bool (w_res rfl) w_lit) rfl
section
variable{prog:Program}{w:World}{A:Around}{E:Value→Shared→Prop}{s:Shared}{K:Frag}
end
end Att
namespace L2
open PySem PySem.Spec PyProof.Rows
theorem vals_ints:∀{vs:List Value} {ns:List Int},IntsAre vs ns→Vals (ns.map V.int) vs
 | _,_,.nil=>.nil
 | _,_,.cons n t h=>.cons ⟨t,rfl⟩ (vals_ints h)
def Only(H:Hp):Prop:=∀b,H b=none∨∃o xs,H b=some (.frz o (.lst xs))
theorem law_call{P:Program}{w:World}{K:PySem.W.Frag}{mg mb:Str→Option Value}{CX:CXT}{k:Nat}{fa a:Addr}{fd:FuncData}{x:Str}{sp:Sp}{s₁:Shared}{vs:List Value}{ns:List Int}
 (KX:K.In s₁.heap)(hns:s₁.heap.Ns mainGlobals mg)(hb:s₁.heap.Ns builtinsNs mb)(hbb:∀x:Str,x≠"__name__"→mb x=bootBuiltins x)(hlim:s₁.heap.NoLimit)(hg:s₁.gens= #[])
 (ha:s₁.heap.get? a=some { cls:=.type "list",data:=.seq vs.toArray })(hi:IntsAre vs ns)(hl:ns.length≤sizeLine)(hr:Room k callerA)
 (F:∀base:Heap,K.In base→base.Ns mainGlobals mg→FnOk P w K mg base CX k fa fd [x] sp)(hbind:∀(s:Shared) (u:Value),BindsTo s fd ⟨[u],[]⟩ [(x,u)])
 (hsp:∀H:Hp,Only H→SqL K H a (ns.map V.int)→sp [.ref a] H (fun v _=>v=.bl true) fun _ _ _=>False)
 (hCX:∀H e s',CX [] H s₁ (fun _ _ _=>False) e s'→False):
 codeAny (model P w) callerA (.call (.ref fa) ⟨[.ref a],[]⟩) (fun r s'=>r=.ok (.ret (.bool true))∧OldK s₁.heap s'.heap∧s'.os=s₁.os∧AllBare s'.gens) s₁:=by
 have rv:=vals_ints hi
 have lenV:=hi.length
 have core:∀H:Hp,Only H→SqL K H a (ns.map V.int)→HOk P w H s₁.heap→(∀b,H b≠none→b=a)→(H a≠none→K.lookup a=none)→
  codeAny (model P w) callerA (.call (.ref fa) ⟨[.ref a],[]⟩) (fun r s'=>r=.ok (.ret (.bool true))∧OldK s₁.heap s'.heap∧s'.os=s₁.os∧AllBare s'.gens) s₁:=by
  intro H hO hS hok hA hK
  have base_of:∀{b:Addr} {o:Obj},s₁.heap.get? b=some o→H b=none→(hidT s₁.heap H).get? b=some o:=fun e n=>hidT_get e n
  have noA:∀{b:Addr} {o:Obj} {es:Array DictEntry} {ep:Nat},s₁.heap.get? b=some o→o.data=.dict es ep→H b=none:=fun{b o es ep} e d=>by
   cases q:H b with
   | none=>rfl
   | some u=>
    have e':b=a:=hA b (by rw[q];simp)
    subst e'
    rw[ha] at e;cases e
    have d':Data.seq vs.toArray _=Data.dict es ep:=d
    cases d'
  have nsK:∀{b:Addr} {m:Str→Option Value},s₁.heap.Ns b m→(hidT s₁.heap H).Ns b m:=fun{b m} ⟨o,es,ep,e,d,r⟩=>⟨o,es,ep,base_of e (noA e d),d,r⟩
  have hKb:K.In (hidT s₁.heap H):=fun b o e=>base_of (KX b o e) (by
   cases q:H b with
   | none=>rfl
   | some u=>
    have e':b=a:=hA b (by rw[q];simp)
    subst e'
    rw[hK (by rw[q];simp)] at e;cases e)
  have hM:Mod K mg (hidT s₁.heap H):=⟨hKb,nsK hns,⟨mb,nsK hb,hbb⟩,let ⟨mc,h1,h2⟩:=hlim;⟨mc,nsK h1,h2⟩⟩
  have e0:Env0 P w K mg (hidT s₁.heap H) callerA [] s₁ H:=⟨rfl,hM,fun b o e=>of_hidT e,Nat.le_of_eq (hidT_size _ _),trivial,fun b hb=>absurd (show b∈([]:List Addr) from hb) (by simp),hok,.of_eq hg⟩
  refine codeAny_mono ((F _ hKb (nsK hns)).run callerA [] s₁ H ⟨[.ref a],[]⟩ [.ref a] [.ref a] _ _ hr e0 (hbind s₁ (.ref a)) (.cons rfl .nil) (hsp H hO hS)) fun r s' h=>?_
  cases r with
  | error e=>exact(hCX H e s' h).elim
  | ok fl=>
   cases fl with
   | next=>exact False.elim h
   | brk=>exact False.elim h
   | cont=>exact False.elim h
   | ret u=>
    obtain⟨v,H',os,bare,un,hok',r',q⟩:=h
    have q':v=.bl true:=q
    subst q'
    obtain rfl:u=Value.bool true:=r'
    refine⟨rfl,OldK.of_keep fun b o e=>?_,os,bare⟩
    cases q:H b with
    | none=>exact un.keep b o e q (by intro z;exact absurd (show b∈([]:List Addr) from z) (by simp)) (by simp)
    | some u=>
     rcases hO b with z | ⟨ob,xs,z⟩
     ·rw[q] at z;cases z
     ·have z2:=un.frzs b ob _ z
      obtain⟨e1,_⟩:=hok b _ z
      obtain⟨e2,_⟩:=hok' b _ z2
      rw[e] at e1;cases e1
      exact e2
 cases hk:K.lookup a with
 | some o=>
  have e:=KX a o hk
  rw[ha] at e
  cases e
  refine core (fun _=>none) (fun _=>.inl rfl) (.inr ⟨_,vs.toArray,_,hk,rfl,rfl,rfl,by rw[List.size_toArray,lenV];exact hl,by simpa using rv⟩) (fun b u z=>by have z':(none:Option HO)=some u:=z;cases z') (fun b z=>absurd rfl z) fun z=>absurd rfl z
 | none=>
  refine core (fun b=>if b=a then some (.frz { cls:=.type "list",data:=.seq vs.toArray } (.lst (ns.map V.int))) else none) (fun b=>?_) (.inl (.inr ⟨{ cls:=.type "list",data:=.seq vs.toArray },if_pos rfl⟩)) (fun b u z=>?_) (fun b z=>?_) fun _=>hk
  ·by_cases hb:b=a
   ·exact .inr ⟨_,_,if_pos hb⟩
   ·exact .inl (if_neg hb)
  ·by_cases hb:b=a
   ·have z':=(if_pos hb).symm.trans z
    cases z'
    subst hb
    exact⟨ha,by rw[List.length_map];exact hl,vs,_,rv,ha⟩
   ·have z':=(if_neg hb).symm.trans z
    cases z'
  ·by_cases hb:b=a
   ·exact hb
   ·exact absurd (if_neg hb) z
end L2
namespace L2
open PySem PySem.Spec PyProof.Rows
abbrev KOf{K:PySem.W.Frag}{h:Heap}(_:K.In h):PySem.W.Frag:=K
end L2
namespace L2
open PySem PySem.Spec PyProof.Rows
def inClass(s:Stmt)(j:Nat):Stmt:=match s with
 | .ClassDef _ _ _ body _ _ _ _ _ _ _=>body.getD j (.Pass ⟨0,0,0,0⟩)
 | _=>.Pass ⟨0,0,0,0⟩
def defArgs(s:Stmt):Arguments:=match s with
 | .FunctionDef _ a _ _ _ _ _ _ _ _=>a
 | _=>{ posonlyargs:=[],args:=[],vararg:=none,kwonlyargs:=[],kw_defaults:=[],kwarg:=none,defaults:=[] }
def defBody(s:Stmt):List Stmt:=match s with
 | .FunctionDef _ _ b _ _ _ _ _ _ _=>b
 | _=>[]
def defScope(s:Stmt):Scope:=match s with
 | .FunctionDef _ _ _ _ _ _ sc _ _ _=>sc
 | _=>{ kind:=.function,names:=[],isGenerator:=false,isCoroutine:=false }
abbrev CX0:CXT:=fun _ _ _ _ _ _=>False
abbrev E0:XK:=fun _ _ _=>False
theorem pass0{X:Cx}:Passes CX0 X E0:=fun _ _ _ _ _ _ _ h=>h.elim
structure Fun(K:PySem.W.Frag)(x qual:Str)(st:Stmt)(f:Addr)(fd:FuncData):Prop where
 ex:∃(oc:Value) (od:Option Addr) (kV doc pm:Value) (an:Option Addr) (cdv ct:Value) (osl:Array (Option Value)),
  fd=PySem.W.fnOf x qual (defArgs st) (defBody st) (defScope st) .none kV doc pm an cdv ct∧K.lookup f=some ⟨oc,od,.func fd,osl⟩∧PySem.W.codeIn K cdv qual=true
 kp:PySem.W.keepIn K (.ref f)=true
section
variable{P:Program}{w:World}{K:PySem.W.Frag}{mg:Str→Option Value}{base:Heap}
theorem Fun.ok{x qual:Str}{st:Stmt}{f:Addr}{fd:FuncData}{N ps:List Str}{k:Nat}{sp:Sp}(F:Fun K x qual st f fd)(S:FnScope N ps (defScope st))(len:∀vs H Q E,sp vs H Q E→vs.length=ps.length)
 (hbody:∀(cdv:Value) (A:Around) (outer:List Env) (s:Shared) (H:Hp) (vs:List V) (Q:VK) (E:XK),Room k (A.deeper (envOfC qual (defScope st) s.heap.objs.size f cdv))→sp vs H Q E→
  ∃t,PSs (cxOf CX0 P w K mg base N qual (defScope st) f cdv A outer s H E).nox (defBody st) t∧t { nx:=fun _ H'=>Q .non H',rt:=Q } (start N vs) H):FnOk P w K mg base CX0 (k+1) f fd ps sp:=by
 obtain⟨oc,od,kV,doc,pm,an,cdv,ct,osl,rfl,lk,hcd⟩:=F.ex
 refine fn_of lk hcd S len fun A outer s H vs Q E hr hsp=>?_
 obtain⟨t,h,q⟩:=hbody cdv A outer s H vs Q E hr hsp
 exact⟨t,h.nox,q⟩
theorem Fun.binds{x qual:Str}{st:Stmt}{f:Addr}{fd:FuncData}{ps:List Str}(F:Fun K x qual st f fd)
 (h:∀(kV doc pm:Value) (an:Option Addr) (cdv ct:Value) (us:List Value),us.length=ps.length→bindArgs (PySem.W.fnOf x qual (defArgs st) (defBody st) (defScope st) .none kV doc pm an cdv ct) ⟨us,[]⟩=pure (ps.zip us)):Binds K fd ps []:=by
 obtain⟨oc,od,kV,doc,pm,an,cdv,ct,osl,rfl,lk,hcd⟩:=F.ex
 exact .all (h kV doc pm an cdv ct)
theorem fun_mk{x qual:Str}{st:Stmt}{f:Addr}{oc:Value}{od an:Option Addr}{osl:Array (Option Value)}{kV doc pm cdv ct:Value}(l:K.lookup f=some ⟨oc,od,.func (PySem.W.fnOf x qual (defArgs st) (defBody st) (defScope st) .none kV doc pm an cdv ct),osl⟩)
 (c:PySem.W.codeIn K cdv qual=true)(k:PySem.W.keepIn K (.ref f)=true):Fun K x qual st f (PySem.W.fnOf x qual (defArgs st) (defBody st) (defScope st) .none kV doc pm an cdv ct):=⟨⟨oc,od,kV,doc,pm,an,cdv,ct,osl,rfl,l,c⟩,k⟩
end
theorem small1000{n:Nat}(h:n≤1000):n<sizeLine:=Nat.lt_of_le_of_lt h (by decide)
section
variable{X:Cx}
theorem pv(i:Nat){x:Str}{pos:Pos}(hN:X.N[i]?=some x:=by rfl)(hv:Vis X.env.scope x:=by first | exact Or.inl rfl | exact Or.inr (Or.inl rfl) | exact Or.inr (Or.inr rfl))(hd:(x==("__debug__":Str))=false:=by decide)
 (hcd:(x==("__classdict__":Str))=false:=by decide):PE X (.Name x pos) (tVar i):=pe_var hN hv hd hcd
end
theorem iteF{A B:Prop}(h:B):if false=true then A else B:=by
 rw[if_neg Bool.false_ne_true]
 exact h
theorem iteT{A B:Prop}(h:A):if true=true then A else B:=by
 rw[if_pos rfl]
 exact h
theorem iteNS{c A B:Prop}[Decidable c](hc:c)(h:B):if (!decide c)=true then A else B:=by
 rw[decide_eq_true hc]
 exact iteF h
def Same(H H':Hp):Prop:=∀b o,H b=some o→H' b=some o
theorem Same.refl(H:Hp):Same H H:=fun _ _ h=>h
theorem Same.trans{H H1 H2:Hp}(a:Same H H1)(b:Same H1 H2):Same H H2:=fun c o h=>b c o (a c o h)
theorem Same.free{H H':Hp}(e:Same H H'){l:Addr}(h:H' l=Option.none):H l=Option.none:=by
 cases q:H l with
 | none=>rfl
 | some o=>
  rw[e l o q] at h
  cases h
theorem Same.seq{K:PySem.W.Frag}{H H':Hp}{a:Addr}{xs:List V}(e:Same H H')(h:SqL K H a xs):SqL K H' a xs:=by
 rcases h with (h | ⟨o,h⟩) | h
 ·exact .inl (.inl (e _ _ h))
 ·exact .inl (.inr ⟨o,e _ _ h⟩)
 ·exact .inr h
end L2
set_option Elab.async false
set_option linter.all false
set_option maxRecDepth 100000
set_option maxHeartbeats 4000000
namespace L2
open PySem PySem.Spec PyProof.Rows
def Bt(k:Nat)(x:Int):Prop:=x.natAbs<2^k
theorem Bt.bits{k:Nat}{x:Int}(h:Bt k x):Builtin.Int.intBits x≤k:=PySem.intBits_le_iff.mpr h
theorem Bt.mono{k m:Nat}{x:Int}(h:Bt k x)(l:k≤m):Bt m x:=Nat.lt_of_lt_of_le h (Nat.pow_le_pow_right (by decide) l)
theorem Bt.le{k:Nat}{x y:Int}(h:Bt k y)(l:x.natAbs≤y.natAbs):Bt k x:=Nat.lt_of_le_of_lt l h
theorem Bt.mul{k m:Nat}{x y:Int}(h:Bt k x)(g:Bt m y):Bt (k+m) (x*y):=by
 unfold Bt at*
 rw[Int.natAbs_mul,Nat.pow_add]
 exact Nat.mul_lt_mul'' h g
theorem Bt.add{k:Nat}{x y:Int}(h:Bt k x)(g:Bt k y):Bt (k+1) (x+y):=by
 unfold Bt at*
 have:=Int.natAbs_add_le x y
 rw[Nat.pow_succ];omega
theorem Bt.neg{k:Nat}{x:Int}(h:Bt k x):Bt k (-x):=by unfold Bt at *;omega
def CMulB(i j:Int):Prop:=∃n m:Nat,Bt n i∧Bt m j∧n+m≤134217728
theorem CMulB.ok{i j:Int}(h:CMulB i j):IntMulOk i j:=by
 obtain⟨n,m,h1,h2,h3⟩:=h
 have a:=h1.bits
 have b:=h2.bits
 have hs:((Builtin.Int.intBits i+Builtin.Int.intBits j:Nat):Int)≤2^27:=by
  have e:(2:Int)^27=134217728:=by decide
  rw[e];omega
 have hb:Builtin.Int.intTooBig ((Builtin.Int.intBits i+Builtin.Int.intBits j:Nat):Int)=false:=decide_eq_false (Int.not_lt.mpr hs)
 unfold IntMulOk
 first
  | (rw [show (((Builtin.Int.intBits i:Nat):Int)+((Builtin.Int.intBits j:Nat):Int))=((Builtin.Int.intBits i+Builtin.Int.intBits j:Nat):Int) by omega,hb];simp)
  | (rw [hb];simp)
  | (intro z;simp only[Bool.and_eq_true] at z;simp_all)
section
variable{X:Cx}{a b c:Expr}{ta tb tc:TE}{pos:Pos}
theorem op_mulB:OpR X (binaryOp .Mult) (rI CMulB fun i j=>.int (i*j)):=opI fun _ _ _ _ _ _ _ hc q=>mul_int q hc.ok
theorem log2_lt9000{j:Int}(h:Bt 9000 j):j.natAbs.log2<9000:=by
 by_cases h0:j.natAbs=0
 ·rw[h0];decide +kernel
 ·exact(Nat.log2_lt h0).mpr h
def CDivB(_ j:Int):Prop:=0<j∧Bt 9000 j
def CDivF(_ j:Int):Prop:=j≠0∧Bt 9000 j
theorem op_fdivB:OpR X (binaryOp .FloorDiv) (rI CDivB fun i j=>.int (i/j)):=opI fun i j _ _ _ _ _ hc q=>by
 have h1:(0:Int)<j:=hc.1
 exact floordiv_int (by omega) (by rw[Int.fdiv_eq_ediv_of_nonneg i (by omega)];exact q) (.inl (PyProof.noPylong_of_log2 (log2_lt9000 hc.2)))
theorem op_fdivF:OpR X (binaryOp .FloorDiv) (rI CDivF fun i j=>.int (i.fdiv j)):=opI fun i j _ _ _ _ _ hc q=>
 floordiv_int hc.1 q (.inl (PyProof.noPylong_of_log2 (log2_lt9000 hc.2)))
def CShl(i j:Int):Prop:=0≤j∧∃n:Nat,Bt n i∧(n:Int)+j≤134217728
theorem op_shlB:OpR X (binaryOp .LShift) (rI CShl fun i j=>.int (i*2^j.toNat)):=opI fun i j _ _ _ _ _ hc q=>by
 obtain⟨h0,n,hn,h1⟩:=hc
 have:=hn.bits
 refine lshift_int h0 ?_ q
 have e:(2:Int)^27=134217728:=by decide
 rw[e];omega
def rIsi(K:PySem.W.Frag):List V→Hp→VK→Prop:=fun xs H Q=>∃x c t b,xs=[x,.ty c]∧TyOf K H x t∧PySem.W.kitOne K t (.type c)=some b∧Q (.bl b) H
theorem call_isi:CallR X (.builtin "isinstance") (rIsi X.K):=by
 intro pins s σ H xs us Q I r h
 obtain⟨x,c,t,b,rfl,ty,e,q⟩:=h
 obtain⟨u,w',rfl,r1,r2⟩:=vals2 r
 cases (show w'=Value.type c from r2)
 exact isinst_ok I r1 ty e fun tk=>⟨.bl b,H,I.tok tk,rfl,q⟩
structure Cal(P:Program)(w:World)(K:PySem.W.Frag)(mg:Str→Option Value)(base:Heap)(k:Nat)(x:Str)(ps:List Str)(sp:Sp):Prop where
 ex:∃(f:Addr) (fd:FuncData),FnOk P w K mg base CX0 k f fd ps sp∧Binds K fd ps []∧PySem.W.keepIn K (.ref f)=true∧mg x=some (.ref f)
theorem pe_cal{k:Nat}{x:Str}{ps:List Str}{sp:Sp}{e:Expr}{es:List Expr}{t:TA}{p:Pos}(C:Cal X.prog X.w X.K X.mg X.base k x ps sp)(hr:Room k X.A)(hg:Gl X x)(ha:PA X (e::es) t)
 (hdb:(x==("__debug__":Str))=false:=by decide)(he:starEach (e::es) X.env=(false,eval e X.env)::starEach es X.env:=by rfl)(hpl:(backTo pos (starEach es X.env)).any (·.1)=false:=by rfl):
 PE X (.Call (.Name x p) (e::es) [] pos) (tCall sp [] E0 t):=by
 obtain⟨f,fd,F,b,kp,m⟩:=C.ex
 exact pe_call F hr hg m kp b .nil pass0 ha hdb he hpl
def tCut(t:TS):TS:=fun D σ H=>∃J:St→Hp→Prop,t { D with nx:=J } σ H∧∀σ' H',J σ' H'→D.nx σ' H'
theorem ps_cut{st:Stmt}{t:TS}(h:PS X st t):PS X st (tCut t):=by
 intro pins s σ H D I hw
 obtain⟨J,h1,h2⟩:=hw
 refine thn (h pins s σ H { D with nx:=J } I h1) fun f s1 q=>?_
 cases f with
 | next=>
  obtain⟨σ',H',I',q⟩:=q
  exact⟨σ',H',I',h2 _ _ q⟩
 | ret v=>exact q
 | brk=>exact q
 | cont=>exact q
theorem rd_cut{t:TS}{D:Ends}{σ:St}{H:Hp}(J:St→Hp→Prop)(h1:t { D with nx:=J } σ H)(h2:∀σ' H',J σ' H'→D.nx σ' H'):tCut t D σ H:=⟨J,h1,h2⟩
theorem rd_var{i:Nat}{σ:St}{H:Hp}{Q:VK}{v:V}(e:σ[i]?=some (some v))(h:Q v H):tVar i σ H Q:=⟨v,e,h⟩
theorem rd_c{v:V}{σ:St}{H:Hp}{Q:VK}(h:Q v H):tC v σ H Q:=h
theorem rd_op{r:R2}{σ:St}{H:Hp}{Q:VK}(h:ta σ H fun x H1=>tb σ H1 fun y H2=>r x y H2 Q):tOp r ta tb σ H Q:=h
theorem rd_un{r:V→Hp→VK→Prop}{σ:St}{H:Hp}{Q:VK}(h:ta σ H fun x H1=>r x H1 Q):tUn r ta σ H Q:=h
theorem rd_i0{g:Int→Int→V}{i j:Int}{H:Hp}{Q:VK}(h:Q (g i j) H):rI0 g (.int i) (.int j) H Q:=⟨i,j,rfl,rfl,h⟩
theorem rd_i{C:Int→Int→Prop}{g:Int→Int→V}{i j:Int}{H:Hp}{Q:VK}(c:C i j)(h:Q (g i j) H):rI C g (.int i) (.int j) H Q:=⟨i,j,rfl,rfl,c,h⟩
theorem rd_u{g:Int→V}{i:Int}{H:Hp}{Q:VK}(h:Q (g i) H):rU g (.int i) H Q:=⟨i,rfl,h⟩
theorem rd_eq{x y:V}{H:Hp}{Q:VK}(s:scal x y=true)(h:Q (.bl (decide (x=y))) H):rEq x y H Q:=⟨s,h⟩
theorem rd_ne{x y:V}{H:Hp}{Q:VK}(s:scal x y=true)(h:Q (.bl (!decide (x=y))) H):rNe x y H Q:=⟨s,h⟩
theorem rd_test{t:TE}{σ:St}{H:Hp}{Q:Bool→Hp→Prop}(h:t σ H fun x H'=>∃k,x=.bl k∧Q k H'):tTest t σ H Q:=h
theorem rd_b{t:TE}{σ:St}{H:Hp}{Q:Bool→Hp→Prop}(h:t σ H fun x H'=>∃k,x=.bl k∧Q k H'):L2.tB t σ H Q:=h
theorem rd_bl{k:Bool}{Q:Bool→Prop}(h:Q k):∃k',V.bl k=.bl k'∧Q k':=⟨k,rfl,h⟩
theorem rel_ty(n:String):RelV (.ty n) (.type n):=rfl
theorem rel_int(i:Int)(t:Tok):RelV (.int i) (.int i t):=⟨t,rfl⟩
theorem rd_not{t:TT}{σ:St}{H:Hp}{Q:Bool→Hp→Prop}(h:t σ H fun c H1=>Q (!c) H1):tNot t σ H Q:=h
theorem rd_and{t u:TT}{σ:St}{H:Hp}{Q:Bool→Hp→Prop}(h:t σ H fun c H1=>if c=true then u σ H1 Q else Q false H1):tAnd t u σ H Q:=h
theorem rd_or{t u:TT}{σ:St}{H:Hp}{Q:Bool→Hp→Prop}(h:t σ H fun c H1=>if c=true then Q true H1 else u σ H1 Q):tOr t u σ H Q:=h
theorem rd_andV{σ:St}{H:Hp}{Q:VK}(h:ta σ H fun x H1=>∃c,x=.bl c∧if c=true then tb σ H1 Q else Q (.bl false) H1):tAndV ta tb σ H Q:=h
theorem rd_notV{σ:St}{H:Hp}{Q:VK}(h:ta σ H fun x H1=>∃c,x=.bl c∧Q (.bl (!c)) H1):tNotV ta σ H Q:=h
theorem rd_chain{r r':R2}{σ:St}{H:Hp}{Q:VK}(h:ta σ H fun x H1=>tb σ H1 fun y H2=>r x y H2 fun z H3=>∃k,z=.bl k∧(if k=true then tc σ H3 fun w' H4=>r' y w' H4 Q else Q (.bl false) H3)):tChain r r' ta tb tc σ H Q:=h
theorem rd_call{sp:Sp}{dvs:List V}{E:XK}{t:TA}{σ:St}{H:Hp}{Q:VK}(h:t σ H fun vs H1=>sp (vs++dvs) H1 Q E):tCall sp dvs E t σ H Q:=h
theorem rd_cb{r:List V→Hp→VK→Prop}{t:TA}{σ:St}{H:Hp}{Q:VK}(h:t σ H fun vs H1=>r vs H1 Q):tCB r t σ H Q:=h
theorem rd_nil{σ:St}{H:Hp}{Q:List V→Hp→Prop}(h:Q [] H):tNil σ H Q:=h
theorem rd_cons{tr:TA}{σ:St}{H:Hp}{Q:List V→Hp→Prop}(h:ta σ H fun x H1=>tr σ H1 fun xs H2=>Q (x::xs) H2):tCons ta tr σ H Q:=h
theorem rd_tup{t:TA}{σ:St}{H:Hp}{Q:VK}(h:t σ H fun xs H1=>xs.length≤sizeLine∧∀p,H1 p=none→Q (.ref p) (upd H1 p (.tup xs))):tTup t σ H Q:=h
theorem rd_lst{t:TA}{σ:St}{H:Hp}{Q:VK}(h:t σ H fun xs H1=>xs.length≤sizeLine∧∀p,H1 p=none→Q (.ref p) (upd H1 p (.lst xs))):tLst t σ H Q:=h
theorem rd_seq{t u:TS}{D:Ends}{σ:St}{H:Hp}(h:t { D with nx:=u D } σ H):tSeq t u D σ H:=h
theorem rd_next{D:Ends}{σ:St}{H:Hp}(h:D.nx σ H):tNext D σ H:=h
theorem rd_ret{te:TE}{D:Ends}{σ:St}{H:Hp}(h:te σ H D.rt):tRet te D σ H:=h
theorem rd_ifS{c:TT}{t u:TS}{D:Ends}{σ:St}{H:Hp}(h:c σ H fun b H1=>if b=true then t D σ H1 else u D σ H1):tIfS c t u D σ H:=h
theorem rd_asg{te:TE}{g:TG}{D:Ends}{σ:St}{H:Hp}(h:te σ H fun x H1=>g x σ H1 D.nx):tAsg te g D σ H:=h
theorem rd_drop{te:TE}{D:Ends}{σ:St}{H:Hp}(h:te σ H fun _ H1=>D.nx σ H1):tDrop te D σ H:=h
theorem rd_gname{i:Nat}{v:V}{σ:St}{H:Hp}{Q:St→Hp→Prop}(h:Q (σ.set i (some v)) H):gName i v σ H Q:=h
theorem rd_gtup{K:PySem.W.Frag}{n:Nat}{t:TGs}{a:Addr}{xs:List V}{σ:St}{H:Hp}{Q:St→Hp→Prop}(hs:SqT K H a xs)(hl:xs.length=n)(h:t xs σ H Q):gTup K n t (.ref a) σ H Q:=⟨a,xs,rfl,hs,hl,h⟩
theorem rd_gcons{t:TG}{u:TGs}{v:V}{r:List V}{σ:St}{H:Hp}{Q:St→Hp→Prop}(h:t v σ H fun σ' H'=>u r σ' H' Q):gCons t u (v::r) σ H Q:=⟨v,r,rfl,h⟩
theorem rd_gnil{σ:St}{H:Hp}{Q:St→Hp→Prop}(h:Q σ H):gNil [] σ H Q:=⟨rfl,h⟩
theorem rd_ixT{K:PySem.W.Frag}{p:Addr}{xs:List V}{i:Int}{v:V}{H:Hp}{Q:VK}(hs:SqT K H p xs)(e:atI xs i=some v)(h:Q v H):rIxT K (.ref p) (.int i) H Q:=⟨p,xs,i,v,rfl,rfl,hs,e,h⟩
theorem rd_ixL{K:PySem.W.Frag}{p:Addr}{xs:List V}{i:Int}{v:V}{H:Hp}{Q:VK}(hs:SqL K H p xs)(e:atI xs i=some v)(h:Q v H):rIxL K (.ref p) (.int i) H Q:=⟨p,xs,i,v,rfl,rfl,hs,e,h⟩
theorem rd_isi{K:PySem.W.Frag}{x:V}{c:String}{t:Value}{b:Bool}{H:Hp}{Q:VK}(ty:TyOf K H x t)(e:PySem.W.kitOne K t (.type c)=some b)(h:Q (.bl b) H):rIsi K [x,.ty c] H Q:=⟨x,c,t,b,rfl,ty,e,h⟩
theorem iteD{c A B:Prop}[Decidable c](hc:c)(h:A):if decide c=true then A else B:=by
 rw[decide_eq_true hc];exact iteT h
theorem iteN{c A B:Prop}[Decidable c](hc:¬c)(h:B):if decide c=true then A else B:=by
 rw[decide_eq_false hc];exact iteF h
theorem iteNN{c A B:Prop}[Decidable c](hc:¬c)(h:A):if (!decide c)=true then A else B:=by
 rw[decide_eq_false hc];exact iteT h
theorem ite2d{c A B:Prop}[Decidable c](h1:c→A)(h2:¬c→B):if decide c=true then A else B:=by
 by_cases h:c
 ·exact iteD h (h1 h)
 ·exact iteN h (h2 h)
theorem Same.tup{K:PySem.W.Frag}{H H':Hp}{a:Addr}{xs:List V}(e:Same H H')(h:SqT K H a xs):SqT K H' a xs:=by
 rcases h with (h | ⟨o,h⟩) | h
 ·exact .inl (.inl (e _ _ h))
 ·exact .inl (.inr ⟨o,e _ _ h⟩)
 ·exact .inr h
theorem same_new{H:Hp}{p:Addr}(h:H p=none)(o:HO):Same H (upd H p o):=fun b u q=>by rw[upd_ne (ne_of_none q h)];exact q
theorem cdiv_small{i j:Int}(h0:0<j)(h1:j<18446744073709551616):CDivB i j:=⟨h0,Bt.mono (k:=64) (by unfold Bt;omega) (by decide)⟩
theorem bitAnd_nat(x y:Nat):Builtin.bitAnd (x:Int) (y:Int)=((x &&& y:Nat):Int):=PyProof.Rows.bitAnd_pp (Int.natCast_nonneg x) (Int.natCast_nonneg y)
theorem bitNot_neg(x:Nat):decide ((0:Int)≤Builtin.bitNot (x:Int))=false:=decide_eq_false (by unfold Builtin.bitNot;omega)
theorem bitOr_nat(x y:Nat):Builtin.bitOr (x:Int) (y:Int)=((x ||| y:Nat):Int):=by
 have e:∀z:Int,Builtin.bitNot (Builtin.bitNot z)=z:=fun z=>by unfold Builtin.bitNot;omega
 unfold Builtin.bitOr Builtin.bitAnd
 rw[bitNot_neg,bitNot_neg]
 dsimp only
 rw[e,e,e,Int.toNat_natCast,Int.toNat_natCast]
theorem kit_int_int(K:PySem.W.Frag):PySem.W.kitOne K (.type "int") (.type "int")=some true:=by unfold PySem.W.kitOne;rw[if_pos (by simp)]
end
end L2
namespace Att
open PySem PySem.W PySem.Calls PyProof.Rows
theorem weight_item:∀{ns:List Int} {n:Int},n∈ns→Builtin.Int.intBits n≤WData.weightAll (ns.map WData.int)
 | m::ns,n,h=>by
  rw[List.map_cons]
  show _≤WData.weight (.int m)+1+WData.weightAll (ns.map WData.int)
  rcases List.mem_cons.mp h with rfl | h
  ·have e:WData.weight (.int n)=Builtin.Int.intBits n:=by first | rfl | (unfold Builtin.Int.intBits;rfl) | simp[WData.weight,Builtin.Int.intBits]
   omega
  ·have:=weight_item h
   omega
theorem bits_of_lay{ns:List Int}(h:WData.layableAll [WData.list (ns.map WData.int)]=true):∀n∈ns,L2.Bt 1048576 n:=fun n hn=>by
 have h1:WData.layable (WData.list (ns.map WData.int))=true:=(Bool.and_eq_true_iff.mp h).1
 have h2:WData.weight (WData.list (ns.map WData.int))≤2^20:=of_decide_eq_true (Bool.and_eq_true_iff.mp h1).2
 have h3:=weight_item hn
 have e:WData.weight (WData.list (ns.map WData.int))=WData.weightAll (ns.map WData.int):=by first | rfl | simp[WData.weight]
 refine PySem.intBits_le_iff.mp ?_
 omega
theorem attach_callB{l:OpenLaw}{n:Nat}{q:Program}{loose:List Str}{XP:(Str→Option Value)→Heap→Prop}{YP:World→Heap→Prop}{d:DefRec}
 (hn:l.most=some n)(hdf:d.params.defaults=[])
 (call:∀(w:World) (s₀ s₁:Shared) (mg mb:Str→Option Value) (fa:Addr) (o:Obj) (pm cd doc:Value) (a:Addr) (vs:List Value) (ns:List Int),
  Ground q loose [] XP w s₀ mg mb s₁.heap→YP w s₁.heap→
  s₁.heap.get? fa=some o→o.data=.func (docDef d.name d.params d.body d.scope pm cd doc)→s₁.heap.CodeRec cd d.name→mg d.name=some (.ref fa)→
  s₁.heap.get? a=some { cls:=.type "list",data:=.seq vs.toArray }→IntsAre vs ns→ns.length≤n→(∀n∈ns,L2.Bt 1048576 n)→s₁.gens= #[]→
  codeAny (model l.prog w) callerA (.call (.ref fa) ⟨[.ref a],[]⟩) (fun r s'=>r=.ok (.ret (.bool true))∧OldK s₁.heap s'.heap∧s'.os=s₁.os∧AllBare s'.gens) s₁):
 WalkO q loose XP YP l.row.toRowW d [] (fun f vs=>PySem.call f vs):=by
 intro w s₀ s₁ mg mb G Y fa o pm cd doc dV kV ho hd hcd hD hmg hg args vals as hpre hlay hrd hwl hlo
 obtain rfl:dV=.none:=Dflts.none hD hdf
 obtain rfl:kV=.none:=Dflts.noKw hD
 obtain⟨a,vs,ns,rfl,rfl,hobj,hints,hlen⟩:=script_of hn hpre hwl
 refine enter_call (codeAny_mono (call w s₀ s₁ mg mb fa o pm cd doc a vs ns G Y ho (fd_plain hd) hcd hmg hobj hints hlen (bits_of_lay hlay) hg) fun r s' hq=>?_)
 obtain⟨rfl,h2,h3,h4⟩:=hq
 exact⟨.inl ⟨.bool true,.bool true,[],rfl,fun _=>rfl,.bool true,post_true l _,fun _=>⟨List.Pairwise.nil,fun _ hm=>(nomatch hm)⟩⟩,h2,h3,h4⟩
end Att
namespace L2
open PySem PySem.Spec PyProof.Rows
def spLaw(K:PySem.W.Frag):Sp:=fun vs H Q _=>∃(a:Addr) (ns:List Int),vs=[.ref a]∧SqL K H a (ns.map V.int)∧ns.length≤63∧(∀n∈ns,Bt 1048576 n)∧∀H',Q (.bl true) H'
theorem walk_ofB{l:PySem.W.OpenLaw}{k:Nat}{q:Program}{loose:List Str}{XP:(Str→Option Value)→Heap→Prop}{YP:World→Heap→Prop}{d:DefRec}{K:Params→PySem.W.Frag}
 (hn:l.most=some 63)(hdf:d.params.defaults=[])(hr:Room k callerA)
 (hY:∀(w:World) (h:Heap),YP w h→(K w.params).In h)
 (F:∀(w:World) (mg:Str→Option Value) (fa:Addr) (h:Heap),(K w.params).In h→h.Ns mainGlobals mg→mg d.name=some (.ref fa)→
  ∃fd:FuncData,(∀(s:Shared) (u:Value),BindsTo s fd ⟨[u],[]⟩ [("_law_script",u)])∧
   ∀base:Heap,(K w.params).In base→base.Ns mainGlobals mg→FnOk l.prog w (K w.params) mg base CX0 k fa fd ["_law_script"] (spLaw (K w.params))):
 PySem.W.WalkO q loose XP YP l.row.toRowW d [] (fun f vs=>PySem.call f vs):=by
 refine Att.attach_callB hn hdf fun w s₀ s₁ mg mb fa o pm cd doc a vs ns G Y ho hd hcd hmg hobj hints hlen hbits hg=>?_
 have KX:=hY w _ Y
 obtain⟨fd,hb,hF⟩:=F w mg fa _ KX G.T.g hmg
 exact law_call KX G.T.g G.T.b G.T.builtins G.T.nolimit hg hobj hints (Nat.le_trans hlen (by decide)) hr hF hb (fun H hO hS=>⟨a,ns,rfl,hS,hlen,hbits,fun _=>rfl⟩) fun H e s'=>fun z=>z
end L2
set_option Elab.async false
set_option linter.all false
set_option maxRecDepth 100000
set_option maxHeartbeats 4000000
namespace L2
open PySem PySem.Spec PyProof.Rows
def compCx(X:Cx)(M:List Str)(x:Str)(scope:Scope)(cl:List (Str×Addr))(C:Addr)(s₀:Shared)(H₀:Hp)(fp:List Addr):Cx:=
 { X with N:=x::M,s₀:=s₀,H₀:=H₀,env:=compEnvC scope cl C X.env,outer:=X.stack,ex:=fp,fn:=fun _=>false,pn:=[],xe:=fun _ _=>False }
structure CompOk(X:Cx)(M:List Str)(x:Str)(scope:Scope)(cl:List (Str×Addr)):Prop where
 clos:closureFor scope X.env=pure cl
 cell:∀y∈scope.names,y.2≠.cell
 kind:scope.kind=.function
 names:∀y∈scope.names,y.2=.local→scope.names.lookup y.1=some .local
 xl:scope.names.lookup x=some .local
 nd:(x::M).Nodup
 len:M.length=X.N.length
 sub:∀y c,cl.lookup y=some c→X.env.cells.lookup y=some c
 has:∀y,((relabel scope X.env).names.lookup y=some .cell∨(relabel scope X.env).names.lookup y=some .free)→∃c,cl.lookup y=some c
 vis:∀(i:Nat) (y:Str),M[i]?=some y→Vis (relabel scope X.env) y→X.N[i]?=some y∧((relabel scope X.env).names.lookup y=some .cell∨(relabel scope X.env).names.lookup y=some .free)∧(X.env.scope.names.lookup y=some .cell∨X.env.scope.names.lookup y=some .free)
def PIfs(X:Cx)(ifs:List Expr)(t:TT):Prop:=
 ∀(pins:List (Addr×Obj)) (s:Shared) (σ:St) (H:Hp) (Q:Bool→Hp→Prop),Inv X pins σ H s→t σ H Q→
  wpAny (model X.prog X.w) X.A (forIn ifs true fun c r=>if r=true then do let ok ←isTrue c X.env (eval c X.env);pure (ForInStep.yield ok) else pure (ForInStep.yield r)) (TP X pins σ Q) X.xe s
def tTrue:TT:=fun _ H Q=>Q true H
section
variable{X:Cx}
theorem pifs_nil:PIfs X [] tTrue:=fun pins s σ H Q I h=>by
 rw[List.forIn_nil]
 exact wpAny_pure ⟨H,I,h⟩
theorem pifs_one{c:Expr}{t:TT}(hc:PT X c t):PIfs X [c] t:=fun pins s σ H Q I h=>by
 rw[List.forIn_cons]
 refine wpAny_bind ?_
 rw[if_pos rfl]
 refine wpAny_bind (thn (hc pins s σ H Q I h) fun b s1 q=>wpAny_pure ?_)
 dsimp only
 rw[List.forIn_nil]
 exact wpAny_pure q
def tComp(wi:TI)(tt:TT)(te:TE):TE:=fun σ H Q=>wi σ H fun J H1=>∀D,H1 D=none→∃W:Nat→Nat→List V→Hp→Prop,(∃m,W 0 m [] (upd H1 D (.lst [])))∧
 ∀i m ys H2,W i m ys H2→H2 D=some (.lst ys)∧((J.stop i H2∧Q (.ref D) H2)∨(J.go i H2∧ys.length<sizeLine∧∃m',m'<m∧∀x H3,J.yld i H2 x H3→
  tt (some x::σ) H3 fun b H4=>if b=true then te (some x::σ) H4 fun y H5=>H5 D=some (.lst ys)∧W (i+1) m' (ys++[y]) (upd H5 D (.lst (ys++[y]))) else W (i+1) m' ys H4))
theorem comp_ok{M:List Str}{pins:List (Addr×Obj)}{σ:St}{H:Hp}{s:Shared}{x:Str}{scope:Scope}{cl:List (Str×Addr)}{C:Addr}{fp:List Addr}(I:Inv X pins σ H s)(ok:CompOk X M x scope cl)(hC:s.heap.objs.size≤C)
 (hf:∀b∈fp,FpOk X pins H b)(hb:∀b∈fp,b<s.heap.objs.size):(compCx X M x scope cl C s H fp).Ok where
 mod:=I.ok.mod
 kind:=ok.kind
 glob:=I.ok.glob
 blt:=I.ok.blt
 above:=hC
 inj:=fun y z c h1 h2=>I.ok.inj y z c (ok.sub y c h1) (ok.sub z c h2)
 has:=ok.has
 cab:=fun y c h=>by cases h
 hd:=I.ok.hd
 frames:=I.ok.frames
 stk:=.inl rfl
 exf:=fun b h=>⟨Nat.ne_of_lt (Nat.lt_of_lt_of_le (hb b h) hC),fun y c e=>(hf b h).2.2.2.2.1 y c (ok.sub y c e)⟩
 bs:=I.bs
 bsz:=Nat.le_trans I.ok.bsz I.sz
 noex:=fun b o e h=>by
  rcases(hf b h).2.2.2.1 with z | z
  ·exact I.ok.noex b o e z
  ·exact absurd (Nat.lt_of_lt_of_le (Heap.lt_size (I.ok.bs b o e).1) z) (Nat.lt_irrefl _)
 exfs:=fun b h z=>by
  rcases List.mem_cons.mp (I.stkSub b z) with e | e
  ·exact(hf b h).2.1 e
  ·exact(hf b h).2.2.1 e
 funs:=I.stack
 frf:=I.stkFree
def CompR(tt:TT)(te:TE)(σ:St)(Q:VK):It→Hp→Prop:=fun J H1=>∀D,H1 D=none→∃W:Nat→Nat→List V→Hp→Prop,(∃m,W 0 m [] (upd H1 D (.lst [])))∧
 ∀i m ys H2,W i m ys H2→H2 D=some (.lst ys)∧((J.stop i H2∧Q (.ref D) H2)∨(J.go i H2∧ys.length<sizeLine∧∃m',m'<m∧∀x H3,J.yld i H2 x H3→
  tt (some x::σ) H3 fun b H4=>if b=true then te (some x::σ) H4 fun y H5=>H5 D=some (.lst ys)∧W (i+1) m' (ys++[y]) (upd H5 D (.lst (ys++[y]))) else W (i+1) m' ys H4))
theorem comp_core{M:List Str}{elt iter:Expr}{x:Str}{px pos:Pos}{ifs:List Expr}{scope:Scope}{cl:List (Str×Addr)}{tt:TT}{te:TE}(hc:X.calm=true)(ok:CompOk X M x scope cl)
 (ht:∀C s₀ H₀ fp,PIfs (compCx X M x scope cl C s₀ H₀ fp) ifs tt)(he:∀C s₀ H₀ fp,PE (compCx X M x scope cl C s₀ H₀ fp) elt te)
 {pins:List (Addr×Obj)}{σ:St}{H2:Hp}{s2:Shared}{it:Addr}{fp:List Addr}{tn:Nat→Heap→Prop}{J:It}{Q:VK}(I2:Inv X pins σ H2 s2)(T:Turn X.prog X.w X.K (.Name x px) J fp it tn)(st2:tn 0 s2.heap)(f2:∀b∈fp,FpOk X pins H2 b)
 (hW:CompR tt te σ Q J H2)(post:Value→Addr→Result→Shared→Prop)
 (fin:∀D C H3 s4,Inv X pins σ H3 s4→(∃m,s4.heap.Ns C m)→FpOk X pins H3 C→Q (.ref D) H3→post (.ref D) C (.ok .next) s4):
 wpAny (model X.prog X.w) X.A (newList []) (fun acc s₃=>wpAny (model X.prog X.w) X.A (newFunctionEnv scope X.env.globals cl [] X.env.qual none .none (some X.env)) (fun cenv s₄=>
  codeAny (model X.prog X.w) X.A (.compStart (.ListComp elt [⟨.Name x px,iter,ifs,0⟩] scope pos) 0 (.ref it) acc { cenv with scope:=relabel scope X.env }) (post acc cenv.locals) s₄) X.xe s₃) X.xe s2:=by
 refine wpAny_newObj_type (wpAny_newFunctionEnv ok.cell (by intro y hy;simp at hy) (fun h₁ hns₁ hsb₁=>?_) ok.kind)
 dsimp only at hns₁ hsb₁ ⊢
 generalize hH2:s2.heap.push { cls:=.type "list",dict:=none,data:=.seq ([]:List Value).toArray }=G2 at hns₁ hsb₁ ⊢
 have hC:G2.objs.size=s2.heap.objs.size+1:=by rw[←hH2,Heap.size_push]
 have hDC:s2.heap.objs.size≠G2.objs.size:=by rw[hC];exact Nat.ne_of_lt (Nat.lt_succ_self _)
 have hCle:s2.heap.objs.size≤G2.objs.size:=by rw[hC];exact Nat.le_succ _
 have below:∀b,b<s2.heap.objs.size→b≠G2.objs.size∧b≠s2.heap.objs.size:=fun b hb=>⟨by rw[hC];exact Nat.ne_of_lt (Nat.lt_succ_of_lt hb),Nat.ne_of_lt hb⟩
 have old:∀b o,s2.heap.get? b=some o→h₁.get? b=some o:=fun b o e=>hsb₁.extBut b o (below b (Heap.lt_size e)).1 (Heap.get?_push_of_some _ (hH2 ▸ Heap.get?_push_of_some _ e))
 have hacc:h₁.get? s2.heap.objs.size=some { cls:=.type "list",data:=.seq ([]:List Value).toArray }:=hsb₁.extBut _ _ hDC (Heap.get?_push_of_some _ (hH2 ▸ Heap.get?_push_size _ rfl))
 have fpb:∀b∈fp,b<s2.heap.objs.size:=fun b hb=>by
  obtain⟨o,e,_⟩:=T.obj _ _ st2 b hb
  exact Heap.lt_size e
 have hD0:H2 s2.heap.objs.size=none:=I2.hok.fresh (Nat.le_refl _)
 have hC0:H2 G2.objs.size=none:=I2.hok.fresh hCle
 generalize hDD:s2.heap.objs.size=D at*
 generalize hCC:G2.objs.size=C at*
 obtain⟨W,⟨m0,w0⟩,turn⟩:=hW D hD0
 have okX:(compCx X M x scope cl C s2 H2 fp).Ok:=comp_ok I2 ok (by rw[hDD];exact hCle) f2 (by rw[hDD];exact fpb)
 have lenN:(none::σ:St).length=(compCx X M x scope cl C s2 H2 fp).N.length:=by
  show(none::σ).length=(x::M).length
  rw[List.length_cons,List.length_cons,I2.len,ok.len]
 have locs:∀(h':Heap) (m:Str→Option Value) (w':Option V),(∀y c,X.env.cells.lookup y=some c→∀v,s2.heap.IsCell c v→h'.IsCell c v)→w'=none→
  ∀(i:Nat) (y:Str) (v:V),(x::M)[i]?=some y→(w'::σ:St)[i]?=some (some v)→Vis (relabel scope X.env) y→∃u,RelV v u∧Look (compEnvC scope cl C X.env) h' m y u:=by
  intro h' m w' hcell hw i y v e1 e2 e3
  subst hw
  cases i with
  | zero=>simp at e2
  | succ i=>
   have e0:M[i]?=some y:=by simpa using e1
   have e2':σ[i]?=some (some v):=by simpa using e2
   obtain⟨e1',k1,k2⟩:=ok.vis i y e0 e3
   obtain⟨m2,_,hl⟩:=I2.loc
   obtain⟨u,r,l⟩:=hl i y v e1' e2' (k2.elim (fun z=>.inr (.inl z)) fun z=>.inr (.inr z))
   obtain⟨c',hc'⟩:=ok.has y k1
   rcases l with ⟨z,_⟩ | ⟨_,c,hcc,z⟩
   ·have z':X.env.scope.names.lookup y=some .local:=z
    rcases k2 with q | q<;>(rw [q] at z';cases z')
   ·have q:=ok.sub y c' hc'
    rw[hcc] at q
    cases q
    exact⟨u,r,.inr ⟨k1,c',hc',hcell y c' hcc _ z⟩⟩
 have I0:Inv (compCx X M x scope cl C s2 H2 fp) [] (none::σ) (upd H2 D (.lst [])) { s2 with heap:=h₁,toks:=s2.toks+([]:List (Str×Value)).length }:=by
  refine⟨okX,rfl,I2.bare,?_,⟨_,hns₁,locs h₁ _ none (fun y c e v z=>?_) rfl⟩,fun y c e=>?_,?_,fun y c e=>?_,fun p hp=>?_,?_,lenN⟩
  ·exact Un.laid old (Nat.le_of_eq hDD) hD0
  ·obtain⟨o,ho,hd⟩:=z
   exact⟨o,old c o ho,hd⟩
  ·obtain⟨v,o,ho,hd⟩:=I2.cell y c (ok.sub y c e)
   exact⟨v,o,old c o ho,hd⟩
  ·show upd H2 D (.lst []) C=none
   rw[upd_ne (Ne.symm hDC)]
   exact hC0
  ·have hn:=I2.freeC y c (ok.sub y c e)
   obtain⟨v,o,ho,hd⟩:=I2.cell y c (ok.sub y c e)
   rw[upd_ne (fun z=>by have:=Heap.lt_size ho;rw[hDD,z] at this;exact Nat.lt_irrefl _ this)]
   exact hn
  ·exact absurd hp (by show p∉([]++[]:List (Addr×Obj));simp)
  ·refine I2.hok.laid old (Nat.le_of_eq hDD) ⟨Nat.zero_le _,[],_,.nil,hacc⟩
 have fpk:∀{H':Hp},(∀b∈fp,H' b=none)→∀b∈fp,FpOk (compCx X M x scope cl C s2 H2 fp) [] H' b:=fun hn b hb=>by
  refine⟨hn b hb,(below b (fpb b hb)).1,okX.exfs b hb,.inl hb,fun y c e=>(f2 b hb).2.2.2.2.1 y c (ok.sub y c e),fun p hp=>?_⟩
  exact absurd hp (by show p∉([]++[]:List (Addr×Obj));simp)
 have loop:∀s₃:Shared,s₃={ s2 with heap:=h₁,toks:=s2.toks+([]:List (Str×Value)).length }→
  codeAny (model X.prog X.w) X.A (.compLoop (.ListComp elt [⟨.Name x px,iter,ifs,0⟩] scope pos) 0 (.ref it) (.ref D) (compEnvC scope cl C X.env))
   (post (.ref D) C) s₃:=by
  rintro s₃ rfl
  refine codeAny_compLoop_tests (fun n s'=>∃i ys w' H',Inv (compCx X M x scope cl C s2 H2 fp) [] (w'::σ) H' s'∧tn i s'.heap∧(∀b∈fp,H' b=none)∧W i n ys H') ?_ m0
   ⟨0,[],none,_,I0,T.keep _ _ _ st2 (fun b _ o e=>old b o e),fun b hb=>by rw[upd_ne (below b (fpb b hb)).2];exact(f2 b hb).1,w0⟩
  rintro n s3 ⟨i,ys,w3,H3,I3,st3,fr3,wt⟩
  obtain⟨hD3,hh⟩:=turn i n ys H3 wt
  rcases hh with ⟨stop,q⟩ | ⟨go,hlen,m',hm,step⟩
  ·refine thn (T.done (compCx X M x scope cl C s2 H2 fp) rfl rfl rfl hc i [] s3 (w3::σ) H3 _ I3 (fpk fr3) st3 stop) fun r s4 ⟨hr,I4⟩=>?_
   subst hr
   obtain⟨m4,hn4,_⟩:=id I4.loc
   have hC4:H3 C=none:=I4.free
   exact fin D C H3 s4 (I2.call' (ch:=fp) I4.os I4.base I4.hok I4.bare fun b hb=>⟨(f2 b hb).2.2.2.1,(f2 b hb).2.1,(f2 b hb).2.2.2.2.1,(f2 b hb).2.2.2.2.2⟩) ⟨m4,hn4⟩ (I2.fpOk (by rw[hDD];exact hCle) hC4) q
  ·refine wpAny_mono (T.item (compCx X M x scope cl C s2 H2 fp) rfl rfl rfl hc i [] s3 (w3::σ) H3 (fun _ _=>False) I3 (fpk fr3) st3 go) (fun r s4 h4=>?_) (fun _ _ z=>z.elim)
   obtain⟨u,hr,h4⟩:=h4
   subst hr
   refine(show wpAny (model X.prog X.w) X.A (letOwnedTupleGo (.Name x px) (.ref it) u >>= fun _=>assign (.Name x px) (compEnvC scope cl C X.env) u) _ _ _ from wpAny_bind (wpAny_mono h4 (fun _ s4 h4=>?_) (fun _ _ z=>z.elim)))
   obtain⟨x',H5,I5,r5,y5,st5,fr5⟩:=h4
   have I5':=I5.pinned (fpk fr5) (T.obj _ _ st5)
   refine wpAny_assign_Name (store_ok (X:=compCx X M x scope cl C s2 H2 fp) (i:=0) I5' ok.nd rfl (.inl (lookup_relabel_local ok.xl)) r5 (fun s6 I6=>?_) (.inr (lookup_relabel_local ok.xl)))
   have I6':Inv (compCx X M x scope cl C s2 H2 fp) ([]++pinsAt fp s4.heap) (some x'::σ) H5 s6:=I6
   have back:∀{s7:Shared} {H7:Hp} {w7:Option V},Inv (compCx X M x scope cl C s2 H2 fp) ([]++pinsAt fp s4.heap) (w7::σ) H7 s7→tn (i+1) s7.heap∧(∀b∈fp,H7 b=none)∧Inv (compCx X M x scope cl C s2 H2 fp) [] (w7::σ) H7 s7:=fun{s7 H7 w7} I7=>by
    refine⟨T.keep _ _ _ st5 fun b hb o e=>(I7.pin (b,o) (List.mem_append_right _ (List.mem_append_right _ (mem_pinsAt hb e)))).1,fun b hb=>?_,I7.unpinned⟩
    obtain⟨o,e,d⟩:=T.obj _ _ st5 b hb
    exact(I7.pin (b,o) (List.mem_append_right _ (List.mem_append_right _ (mem_pinsAt hb e)))).2.1
   refine wpAny_mono (ht C s2 H2 fp _ s6 _ H5 _ I6' (step x' H5 y5)) (fun ok' s7 h7=>?_) (fun _ _ z=>z.elim)
   obtain⟨H7,I7,q7⟩:=h7
   cases ok' with
   | false=>
    have q7':W (i+1) m' ys H7:=by simpa using q7
    rw[if_neg Bool.false_ne_true]
    obtain⟨b1,b2,b3⟩:=back I7
    exact⟨m',hm,i+1,ys,_,H7,b3,b1,b2,q7'⟩
   | true=>
    rw[if_pos rfl] at q7 ⊢
    refine wpAny_mono (he C s2 H2 fp _ s7 _ H7 _ I7 q7) (fun y s8 h8=>?_) (fun _ _ z=>z.elim)
    obtain⟨v8,H8,I8,r8,hD8,w8⟩:=h8
    refine wpAny_mono (mt_append (X:=compCx X M x scope cl C s2 H2 fp) _ s8 _ H8 (.ref D) [v8] (.ref D) [y] (fun _ H9=>H9=upd H8 D (.lst (ys++[v8]))) I8 rfl (.cons r8 .nil) ⟨D,ys,v8,rfl,rfl,hD8,hlen,rfl⟩) (fun _ s9 h9=>?_) (fun _ _ z=>z.elim)
    obtain⟨v9,H9,I9,_,e9⟩:=h9
    subst e9
    obtain⟨b1,b2,b3⟩:=back I9
    exact⟨m',hm,i+1,_,_,_,b3,b1,b2,w8⟩
 exact codeAny_compStart_list (loop _ rfl) (T.self _ 0 _ _ _ (T.keep _ _ _ st2 (fun b _ o e=>old b o e)) (loop _ rfl))
theorem pe_comp{M:List Str}{elt iter:Expr}{x:Str}{px pos:Pos}{ifs:List Expr}{scope:Scope}{cl:List (Str×Addr)}{wi:TI}{tt:TT}{te:TE}(hc:X.calm=true)(ok:CompOk X M x scope cl)(hi:PI X (.Name x px) iter wi)
 (ht:∀C s₀ H₀ fp,PIfs (compCx X M x scope cl C s₀ H₀ fp) ifs tt)(he:∀C s₀ H₀ fp,PE (compCx X M x scope cl C s₀ H₀ fp) elt te)
 (hs:∀x,foldedSetIterable iter X.env x=pure x:=by intro _;rfl):
 PE X (.ListComp elt [⟨.Name x px,iter,ifs,0⟩] scope pos) (tComp wi tt te):=by
 intro pins s σ H Q I h
 rw[eval_ListComp]
 refine wpAny_comprehension_free (use:=none) rfl hs ok.clos ok.kind ok.names (thn (hi pins s σ H _ I h) fun xv s1 h1=>thn h1 fun itv s2 h2=>?_)
 obtain⟨it,fp,tn,J,H2,e,I2,T,st2,f2,hW⟩:=h2
 subst e
 refine comp_core hc ok ht he I2 T st2 f2 hW (compPost (model X.prog X.w) X.A X.xe none (EP X pins σ Q)) fun D C H3 s4 I4 hm fC q=>?_
 obtain⟨m,hn⟩:=hm
 exact⟨m,hn,fun h' hsb=>⟨.ref D,H3,I4.turned (t':=s4.toks) (fun b o hb e=>hsb.extBut b o hb e) fC.1 fC.2.1 fC.2.2.2.1 fC.2.2.2.2.1 fC.2.2.2.2.2,rfl,q⟩⟩
theorem ps_setComp{M:List Str}{elt iter:Expr}{x y:Str}{px py pos spos:Pos}{ifs:List Expr}{scope:Scope}{cl:List (Str×Addr)}{wi:TI}{tt:TT}{te:TE}{i:Nat}(hN:X.N.Nodup)(hiy:X.N[i]?=some y)(hy:Loc X.env.scope y)
 (hc:X.calm=true)(ok:CompOk X M x scope cl)(hi:PI X (.Name x px) iter wi)
 (ht:∀C s₀ H₀ fp,PIfs (compCx X M x scope cl C s₀ H₀ fp) ifs tt)(he:∀C s₀ H₀ fp,PE (compCx X M x scope cl C s₀ H₀ fp) elt te)
 (hsw:swapsWith (.ListComp elt [⟨.Name x px,iter,ifs,0⟩] scope pos) (some (.Name y py)) spos.line X.env=pure true:=by with_unfolding_all rfl)
 (hf:X.fn y=true∨X.env.scope.names.lookup y=some .local:=by first | exact .inl rfl | exact .inr rfl | assumption)
 (hs:∀x,foldedSetIterable iter X.env x=pure x:=by intro _;rfl):
 PS X (.Assign [.Name y py] (.ListComp elt [⟨.Name x px,iter,ifs,0⟩] scope pos) spos) (tAsg (tComp wi tt te) (gName i)):=by
 intro pins s σ H D I h
 rw[exec_Assign_Name_used _ _ _ _ hsw]
 refine wpAny_bind (wpAny_standAt (wpAny_bind ?_))
 show wpAny _ X.A (do let _ ←comprehension (.ListComp elt [⟨.Name x px,iter,ifs,0⟩] scope pos) scope X.env _ (newList []) false (eval iter X.env) (some (assign (.Name y py) X.env))) _ _ s
 refine wpAny_bind (wpAny_mono (wpAny_comprehension_free (use:=some (assign (.Name y py) X.env)) (Q:=fun _ s'=>SP X pins D .next s') rfl hs ok.clos ok.kind ok.names
  (thn (hi pins s σ H _ I h) fun xv s1 h1=>thn h1 fun itv s2 h2=>?_)) (fun _ s' hq=>wpAny_pure (wpAny_pure hq)) fun _ _ e=>e)
 obtain⟨it,fp,tn,J,H2,e,I2,T,st2,f2,hW⟩:=h2
 subst e
 refine comp_core (Q:=fun x H1=>gName i x σ H1 D.nx) hc ok ht he I2 T st2 f2 hW (compPost (model X.prog X.w) X.A X.xe (some (assign (.Name y py) X.env)) (fun _ s'=>SP X pins D .next s')) fun Dd C H3 s4 I4 hm fC q=>?_
 obtain⟨m,hn⟩:=hm
 show wpAny _ X.A (assign (.Name y py) X.env (.ref Dd)) _ _ _
 refine wpAny_assign_Name (store_ok2 I4 hN hiy hy (v:=.ref Dd) rfl (fun s5 I5 hsb=>?_) hf)
 obtain⟨a,sb,ha⟩:=hsb
 have hCa:C≠a:=by
  rcases ha with rfl | ha
  ·exact fC.2.1
  ·exact(fC.2.2.2.2.1 _ _ ha).symm
 exact⟨m,hn.sameBut sb hCa,fun h' hsb'=>⟨_,H3,I5.turned (t':=s5.toks) (fun b o hb e=>hsb'.extBut b o hb e) fC.1 fC.2.1 fC.2.2.2.1 fC.2.2.2.2.1 fC.2.2.2.2.2,q⟩⟩
theorem vals_bls:∀{bs:List Bool} {us:List Value},Vals (bs.map V.bl) us→us=bs.map Value.bool
 | [],_,.nil=>rfl
 | b::bs,u::us,.cons r t=>by
  cases (show u=Value.bool b from r)
  rw[vals_bls t]
  rfl
theorem range_allB(bs:List Bool):((List.range bs.length).all fun i=>(bs[i]?).getD true)=bs.all id:=by
 induction bs with
 | nil=>rfl
 | cons b bs ih=>
  rw[List.length_cons,List.range_succ_eq_map,List.all_cons,List.all_map,List.all_cons,←ih]
  rfl
theorem kept_it{s:Shared}{h':Heap}{o:Obj}(hk:∀b x,b∉[s.heap.objs.size]→(s.heap.push o).get? b=some x→h'.get? b=some x):∀b x,s.heap.get? b=some x→h'.get? b=some x:=
 fun b x e=>hk b x (fun hm=>by rw[List.mem_singleton.mp hm] at e;exact Nat.lt_irrefl _ (Heap.lt_size e)) (Heap.get?_push_of_some _ e)
theorem call_all(hc:X.calm=true):CallR X (.builtin "all") (fun xs H Q=>∃(p:Addr) (bs:List Bool),xs=[.ref p]∧SqL X.K H p (bs.map V.bl)∧Q (.bl (bs.all id)) H):=by
 intro pins s σ H xs us Q I r h
 obtain⟨p,bs,rfl,hq,q⟩:=h
 obtain⟨u,rfl,ru⟩:=vals1 r
 cases (show u=Value.ref p from ru)
 obtain⟨its,rv,pl,_⟩:=I.list hq
 obtain rfl:=vals_bls rv
 have hl:=pl.isList
 have hlt:p<s.heap.objs.size:=by obtain⟨_,e,_⟩:=id hl;exact Heap.lt_size e
 refine call_all_walk (wpAny_pyIter_list hl ?_)
 refine⟨s.heap.objs.size,[s.heap.objs.size,p],[s.heap.objs.size],(bs.map Value.bool).toArray.size,_,_,fun i=>(bs[i]?).getD true,rfl,Walks.list (A:=X.A.in1) (I.ok.hd hc) _ p (Nat.ne_of_lt hlt) (bs.map Value.bool).toArray,
  ⟨⟨_,Heap.get?_push_size _ rfl,rfl,rfl⟩,hl.push _⟩,fun i v s' Q' E' hP hQ=>?_,fun h' tk hk=>?_⟩
 ·have hP':(bs.map Value.bool)[i]?=some v:=by simpa using hP
  rw[List.getElem?_map] at hP'
  cases e:bs[i]? with
  | none=>rw[e] at hP';cases hP'
  | some b=>
   rw[e] at hP'
   cases hP'
   simp only[e,Option.getD_some] at hQ
   exact wpAny_truthy_bool hQ
 ·have e:((List.range (bs.map Value.bool).toArray.size).all fun i=>(bs[i]?).getD true)=bs.all id:=by
   rw[List.size_toArray,List.length_map];exact range_allB bs
  rw[e]
  exact⟨.bl _,H,I.kept (kept_it hk),rfl,q⟩
theorem lookup_mem{κ β:Type}[BEq κ][LawfulBEq κ]{k:κ}{v:β}:∀{l:List (κ×β)},l.lookup k=some v→(k,v)∈l
 | (a,b)::r,h=>by
  rw[List.lookup_cons] at h
  cases e:k==a with
  | true=>
   rw[e] at h
   cases h
   rw[eq_of_beq e]
   exact List.mem_cons_self
  | false=>
   rw[e] at h
   exact List.mem_cons_of_mem _ (lookup_mem h)
theorem relabel_plain{scope:Scope}{env:Env}(h:∀y∈scope.names,y.2≠.free):(relabel scope env).names=scope.names:=
 map_eq_self fun x hx=>by
  obtain⟨n,k⟩:=x
  have:(k==NameKind.free)=false:=by simpa using h _ hx
  simp[this]
theorem compOk_nil{x:Str}{scope:Scope}(N:List Str)(hN:X.N=N)(hf:∀y∈scope.names,y.2≠.free∧y.2≠.cell)(hk:scope.kind=.function)(hn:∀y∈scope.names,y.2=.local→scope.names.lookup y.1=some .local)
 (hx:scope.names.lookup x=some .local)(nd:(x::N).Nodup)(vis:∀y∈N,scope.names.lookup y≠some .local):CompOk X N x scope []:=by
 have e:=relabel_plain (env:=X.env) fun y hy=>(hf y hy).1
 refine⟨closureFor_none fun y hy=>(hf y hy).1,fun y hy=>(hf y hy).2,hk,hn,hx,nd,by rw[hN],fun y c h=>(by cases h),fun y h=>?_,fun i y hy h=>?_⟩
 ·rw[e] at h
  rcases h with h | h
  ·exact absurd rfl (hf _ (lookup_mem h)).2
  ·exact absurd rfl (hf _ (lookup_mem h)).1
 ·rcases h with h | h | h
  ·rw[e] at h;exact absurd h (vis y (List.mem_of_getElem? hy))
  ·rw[e] at h;exact absurd rfl (hf _ (lookup_mem h)).2
  ·rw[e] at h;exact absurd rfl (hf _ (lookup_mem h)).1
structure Walk(J:It)(ok:Hp→Prop)(xs:List V):Prop where
 go:∀i H,ok H→i<xs.length→J.go i H
 yld:∀i H x H',ok H→J.yld i H x H'→i<xs.length→H'=H∧xs[i]?=some x
 stop:∀i H,ok H→xs.length≤i→J.stop i H
theorem walk_l{K:PySem.W.Frag}{a:Addr}{xs:List V}:Walk (Itl K a) (fun H=>SqL K H a xs) xs:=
 ⟨fun i H h hi=>⟨xs,xs[i],h,by simp[hi]⟩,fun i H x H' h y hi=>⟨y.1,y.2 xs h⟩,fun i H h hi=>⟨xs,h,hi⟩⟩
theorem walk_t{K:PySem.W.Frag}{a:Addr}{xs:List V}:Walk (Itt K a) (fun H=>SqT K H a xs) xs:=
 ⟨fun i H h hi=>⟨xs,xs[i],h,by simp[hi]⟩,fun i H x H' h y hi=>⟨y.1,y.2 xs h⟩,fun i H h hi=>⟨xs,h,hi⟩⟩
theorem walk_r{lo:Int}{n:Nat}:Walk (Itr lo n) (fun _=>True) ((List.range n).map fun i=>V.int (lo+(i:Nat))):=
 ⟨fun i H _ hi=>(by show i<n;simpa using hi),fun i H x H' _ y hi=>⟨y.1,by
  have hi':i<n:=by simpa using hi
  rw[y.2]
  simp[hi']⟩,fun i H _ hi=>(by show n≤i;simpa using hi)⟩
theorem comp_by{J:It}{ok:Hp→Prop}{xs:List V}{σ:St}{H:Hp}{Q:VK}{tt:TT}{te:TE}(Wk:Walk J ok xs)(hz:xs.length<sizeLine)(hok:∀D ys,H D=none→ok (upd H D (.lst ys)))(p:V→Bool)(f:V→V)
 (ht:∀x∈xs,∀D ys (Q':Bool→Hp→Prop),H D=none→Q' (p x) (upd H D (.lst ys))→tt (some x::σ) (upd H D (.lst ys)) Q')
 (he:∀x∈xs,p x=true→∀D ys (Q':VK),H D=none→Q' (f x) (upd H D (.lst ys))→te (some x::σ) (upd H D (.lst ys)) Q')
 (h:∀D,H D=none→Q (.ref D) (upd H D (.lst ((xs.filter p).map f)))):
 ∀D,H D=none→∃W:Nat→Nat→List V→Hp→Prop,(∃m,W 0 m [] (upd H D (.lst [])))∧
  ∀i m ys H2,W i m ys H2→H2 D=some (.lst ys)∧((J.stop i H2∧Q (.ref D) H2)∨(J.go i H2∧ys.length<sizeLine∧∃m',m'<m∧∀x H3,J.yld i H2 x H3→
   tt (some x::σ) H3 fun b H4=>if b=true then te (some x::σ) H4 fun y H5=>H5 D=some (.lst ys)∧W (i+1) m' (ys++[y]) (upd H5 D (.lst (ys++[y]))) else W (i+1) m' ys H4)):=by
 intro D hD
 refine⟨fun i m ys H2=>i≤xs.length∧m=xs.length-i∧ys=((xs.take i).filter p).map f∧H2=upd H D (.lst ys),⟨_,Nat.zero_le _,rfl,by simp,rfl⟩,?_⟩
 rintro i m ys H2 ⟨hi,rfl,hys,rfl⟩
 refine⟨upd_same,?_⟩
 by_cases hlt:i<xs.length
 ·have hl:ys.length≤i:=by
   rw[hys,List.length_map]
   exact Nat.le_trans (List.length_filter_le _ _) (by rw[List.length_take];omega)
  refine .inr ⟨Wk.go i _ (hok D ys hD) hlt,by omega,xs.length-(i+1),by omega,fun x H3 hy=>?_⟩
  obtain⟨e3,ex⟩:=Wk.yld i _ x H3 (hok D ys hD) hy hlt
  subst e3
  have hm:x∈xs:=List.mem_of_getElem? ex
  have et:xs.take (i+1)=xs.take i++[x]:=by rw[List.take_add_one,ex];rfl
  refine ht x hm D ys _ hD ?_
  cases hp:p x with
  | false=>
   rw[if_neg Bool.false_ne_true]
   refine⟨hlt,rfl,?_,rfl⟩
   rw[et,List.filter_append,hys]
   simp[hp]
  | true=>
   rw[if_pos rfl]
   refine he x hm hp D ys _ hD ⟨upd_same,hlt,rfl,?_,by rw[upd_upd]⟩
   rw[et,List.filter_append,hys]
   simp[hp]
 ·have e:i=xs.length:=by omega
  subst e
  refine .inl ⟨Wk.stop _ _ (hok D ys hD) (Nat.le_refl _),?_⟩
  rw[hys,List.take_length]
  exact h D hD
theorem rd_rng1{ta:TA}{σ:St}{H:Hp}{R:It→Hp→Prop}(h:ta σ H fun vs H1=>∃j:Int,vs=[.int j]∧ -(2^62)≤j∧j<2^62∧R (Itr 0 j.toNat) H1):iRng1 ta σ H R:=h
theorem rd_comp{wi:TI}{tt:TT}{te:TE}{σ:St}{H:Hp}{Q:VK}(h:wi σ H (CompR tt te σ Q)):tComp wi tt te σ H Q:=h
theorem comp_go{J:It}{ok:Hp→Prop}{xs:List V}{σ:St}{H:Hp}{Q:VK}{tt:TT}{te:TE}(Wk:Walk J ok xs)(hz:xs.length<sizeLine)(hok:∀D ys,H D=none→ok (upd H D (.lst ys)))(p:V→Bool)(f:V→V)
 (ht:∀x∈xs,∀D ys (Q':Bool→Hp→Prop),H D=none→Q' (p x) (upd H D (.lst ys))→tt (some x::σ) (upd H D (.lst ys)) Q')
 (he:∀x∈xs,p x=true→∀D ys (Q':VK),H D=none→Q' (f x) (upd H D (.lst ys))→te (some x::σ) (upd H D (.lst ys)) Q')
 (h:∀D,H D=none→Q (.ref D) (upd H D (.lst ((xs.filter p).map f)))):CompR tt te σ Q J H:=comp_by Wk hz hok p f ht he h
theorem comp_t{K:PySem.W.Frag}{i:Nat}{a:Addr}{xs:List V}{σ:St}{H:Hp}{Q:VK}{tt:TT}{te:TE}(ei:σ[i]?=some (some (.ref a)))(hS:SqT K H a xs)(hz:xs.length<sizeLine)(p:V→Bool)(f:V→V)
 (ht:∀x∈xs,∀D ys (Q':Bool→Hp→Prop),H D=none→Q' (p x) (upd H D (.lst ys))→tt (some x::σ) (upd H D (.lst ys)) Q')
 (he:∀x∈xs,p x=true→∀D ys (Q':VK),H D=none→Q' (f x) (upd H D (.lst ys))→te (some x::σ) (upd H D (.lst ys)) Q')
 (h:∀D,H D=none→Q (.ref D) (upd H D (.lst ((xs.filter p).map f)))):tComp (iTup K (tVar i)) tt te σ H Q:=
 ⟨_,ei,a,rfl,⟨_,hS⟩,comp_by walk_t hz (fun D ys hD=>(same_new hD _).tup hS) p f ht he h⟩
theorem rd_true{σ:St}{H:Hp}{Q:Bool→Hp→Prop}(h:Q true H):tTrue σ H Q:=h
theorem compOk_freeM{x:Str}{scope:Scope}{cl:List (Str×Addr)}(M N:List Str)(hl:M.length=N.length)(hN:X.N=N)(clos:closureFor scope X.env=pure cl)(hc:(scope.names.all fun y=>y.2 != .cell)=true)(hk:scope.kind=.function)
 (hn:(scope.names.all fun y=>y.2 != .local||scope.names.lookup y.1==some .local)=true)(hx:scope.names.lookup x=some .local)(nd:(x::M).Nodup)
 (hs:∀p∈cl,X.env.cells.lookup p.1=some p.2)
 (hh:((relabel scope X.env).names.all fun p=>(p.2 != .cell&&p.2 != .free)||(cl.lookup p.1).isSome)=true)
 (hv:((M.zip N).all fun q=>match (relabel scope X.env).names.lookup q.1 with
  | some .local=>false
  | some .cell=>q.1==q.2&&(X.env.scope.names.lookup q.1==some .cell||X.env.scope.names.lookup q.1==some .free)
  | some .free=>q.1==q.2&&(X.env.scope.names.lookup q.1==some .cell||X.env.scope.names.lookup q.1==some .free)
  | _=>true)=true):CompOk X M x scope cl:=by
 refine⟨clos,fun y hy=>?_,hk,fun y hy hl=>?_,hx,nd,by rw[hN];exact hl,fun y c h=>hs _ (lookup_mem h),fun y h=>?_,fun i y hy h=>?_⟩
 ·have:=List.all_eq_true.mp hc y hy
  simpa using this
 ·have:=List.all_eq_true.mp hn y hy
  simpa [hl] using this
 ·rcases h with h | h
  ·have:=List.all_eq_true.mp hh _ (lookup_mem h)
   exact Option.isSome_iff_exists.mp (by simpa using this)
  ·have:=List.all_eq_true.mp hh _ (lookup_mem h)
   exact Option.isSome_iff_exists.mp (by simpa using this)
 ·have hi:i<N.length:=by
   have:=(List.getElem?_eq_some_iff.mp hy).1
   omega
  have hz:(y,N[i])∈M.zip N:=by
   have:(M.zip N)[i]?=some (y,N[i]):=List.getElem?_zip_eq_some.mpr ⟨hy,by simp[hi]⟩
   exact List.mem_of_getElem? this
  have z:=List.all_eq_true.mp hv _ hz
  have fin:y=N[i]→X.N[i]?=some y:=fun e=>by rw[hN,e];simp[hi]
  rcases h with h | h | h
  ·dsimp only at z
   rw[h] at z;cases z
  ·dsimp only at z
   rw[h] at z
   simp only[Bool.and_eq_true,beq_iff_eq,Bool.or_eq_true] at z
   exact⟨fin z.1,.inl h,z.2⟩
  ·dsimp only at z
   rw[h] at z
   simp only[Bool.and_eq_true,beq_iff_eq,Bool.or_eq_true] at z
   exact⟨fin z.1,.inr h,z.2⟩
theorem dec_int0{a b:Int}:decide (V.int a=V.int b)=decide (a=b):=by
 rw[Bool.eq_iff_iff]
 simp
theorem rd_append{K:PySem.W.Frag}{i:Nat}{t:TA}{σ:St}{H:Hp}{Q:VK}{l:Addr}{xs:List V}(e:σ[i]?=some (some (.ref l)))(h:H l=some (.lst xs))
 (g:t σ H fun ys H2=>rAppend (.ref l) ys H2 Q):tBM K "list" rAppend (tVar i) t σ H Q:=⟨_,e,.inl ⟨rfl,_,SqL.of h⟩,g⟩
theorem rd_app{l:Addr}{xs:List V}{y:V}{H:Hp}{Q:VK}(h:H l=some (.lst xs))(hz:xs.length<sizeLine)(q:Q .non (upd H l (.lst (xs++[y])))):rAppend (.ref l) [y] H Q:=⟨l,xs,y,rfl,rfl,h,hz,q⟩
theorem rd_for{wi:TI}{g:TG}{tb:TS}{D:Ends}{σ:St}{H:Hp}(h:wi σ H fun J H1=>∃W:Nat→Nat→St→Hp→Prop,(∃m,W 0 m σ H1)∧∀i m σ H,W i m σ H→
 (J.stop i H∧D.nx σ H)∨(J.go i H∧∃N:St→Hp→Prop,(∀σ' H',N σ' H'→∃m',m'<m∧W (i+1) m' σ' H')∧∀x H',J.yld i H x H'→g x σ H' fun σ2 H2=>tb { D with nx:=N,ct:=N,bk:=D.nx } σ2 H2)):tFor wi g tb D σ H:=h
theorem rd_iL{K:PySem.W.Frag}{tl:TE}{σ:St}{H:Hp}{R:It→Hp→Prop}(h:tl σ H fun x H1=>∃a,x=.ref a∧(∃xs,SqL K H1 a xs)∧R (Itl K a) H1):iList K tl σ H R:=h
theorem rd_iT{K:PySem.W.Frag}{tl:TE}{σ:St}{H:Hp}{R:It→Hp→Prop}(h:tl σ H fun x H1=>∃a,x=.ref a∧(∃xs,SqT K H1 a xs)∧R (Itt K a) H1):iTup K tl σ H R:=h
theorem same_app{H H':Hp}{l:Addr}{o:HO}(h:H l=none)(s:Same H H'):Same H (upd H' l o):=fun b u e=>by
 rw[upd_ne (ne_of_none e h)]
 exact s b u e
end
end L2
set_option Elab.async false
set_option linter.all false
set_option maxRecDepth 100000
set_option maxHeartbeats 4000000
namespace L2
open PySem PySem.Spec PyProof.Rows
def XObj(h:Heap)(e:Addr)(cls:Value)(dd:Option Addr)(head:Value):Prop:=∃vs sl,h.get? e=some ⟨cls,dd,.fields vs,sl⟩∧vs[1]?=some head
def XTr(h base:Heap)(e:Addr)(cls:Value)(dd:Option Addr)(fl:Value):Prop:=∃T,XObj h e cls dd (.ref T)∧base.get? T=none∧T≠e∧∃oT ts,h.get? T=some oT∧oT.data=.fields ts∧ts[3]?=some fl
structure Sea(base:Heap)(l:List Env)(e:Addr)(h:Heap):Prop where
 stays:base.StaysIn h
 new:base.get? e=none
 frames:h.FunFrames base l
section
variable{M:Model}{A:Around}{E:Value→Shared→Prop}{s:Shared}{base:Heap}{env:Env}{outer l:List Env}{L e:Addr}{cls:Value}{dd:Option Addr}
theorem fields_set{o:Obj}{vs:Array Value}(hd:o.data=.fields vs)(i:Nat)(x:Value):Obj.mapFields (·.setIfInBounds i x) o=⟨o.cls,o.dict,.fields (vs.setIfInBounds i x),o.slots⟩:=by
 obtain⟨c,d,dt,sl⟩:=o
 cases hd
 rfl
theorem entry_x{head:Value}{nx:Bool}{Q:Unit→Shared→Prop}(hfr:A.frames=some (env::outer))(hf:env.frame=some L)(S:Sea base (env::outer) e s.heap){hd0:Value}(O:XObj s.heap e cls dd hd0)
 (k:∀h',Sea base (env::outer) e h'→XTr h' base e cls dd (rawInt L)→s.heap.UpToSlots h'→Q () { s with heap:=h' }):
 wpAny M A (do let a ←frameOf env;let pl ←entryPlaceOf L nx;let b ←EntryCells.newEntry head a .none (rawInt L) .none pl;setField (.ref e) 1 b) Q E s:=by
 obtain⟨vs,sl,he,h1⟩:=O
 have nofr:e∉(env::outer).filterMap (·.frame):=fun z=>by
  obtain⟨_,o,ho,hn⟩:=S.frames.mem z
  rw[he] at ho
  cases ho
  exact hn vs rfl
 refine wpAny_bind (wpAny_frameOf_fun hfr S.frames hf fun g1 so=>wpAny_bind (wpAny_entryPlaceOf fun pl hpl=>?_))
 unfold EntryCells.newEntry newFields;refine wpAny_bind (wpAny_newObj_type ?_ (hpl.sizeOk5 _ _ _ _ _))
 generalize hob:({ cls:=.type "traceback",dict:=none,data:=.fields ([head,.ref L,.none,rawInt L,.none]++(if pl.isEmpty then List.replicate 6 Value.none else pl)).toArray }:Obj)=tb
 have e1:g1.get? e=some ⟨cls,dd,.fields vs,sl⟩:=(so.2.1 e nofr).trans he
 have b1:base.StaysIn g1:=fun b o q=>(so.2.1 b fun z=>by rw[(S.frames.mem z).1] at q;cases q).trans (S.stays b o q)
 have e2:(g1.push tb).get? e=some ⟨cls,dd,.fields vs,sl⟩:=Heap.get?_push_of_some _ e1
 have ne:g1.objs.size≠e:=Nat.ne_of_gt (Heap.lt_size e1)
 have sz:1<vs.size:=(Array.getElem?_eq_some_iff.mp h1).1
 have tbf:tb.isFreed=false:=by rw[←hob];rfl
 refine wpAny_setField e2 rfl sz (k _ ⟨fun b o q=>?_,S.new,?_⟩ ?_ ?_)
 ·have hbe:b≠e:=fun z=>by rw[z,S.new] at q;cases q
  rw[Heap.get?_update_other _ _ (Ne.symm hbe)]
  exact Heap.get?_push_of_some _ (b1 b o q)
 ·refine S.frames.of_keeps fun b o q hn=>?_
  have hbe:b≠e:=fun z=>by rw[z,he] at q;cases q;exact hn vs rfl
  obtain⟨sl',q'⟩:=so.2.2 b o q
  refine⟨{ o with slots:=sl' },?_,rfl⟩
  rw[Heap.get?_update_other _ _ (Ne.symm hbe)]
  exact Heap.get?_push_of_some _ q'
 ·refine⟨g1.objs.size,⟨vs.setIfInBounds 1 (.ref g1.objs.size),sl,?_,?_⟩,b1.fresh,ne,tb,([head,.ref L,.none,rawInt L,.none]++(if pl.isEmpty then List.replicate 6 Value.none else pl)).toArray,?_,by rw[←hob],?_⟩
  ·rw[Heap.get?_update_self _ e2 (by rw[fields_set rfl];rfl),fields_set rfl]
  ·rw[Array.getElem?_setIfInBounds_self_of_lt sz]
  ·rw[Heap.get?_update_other _ _ (Ne.symm ne)]
   exact Heap.get?_push_size _ tbf
  ·simp
 ·intro b o q hn
  have hbe:b≠e:=fun z=>by rw[z,he] at q;cases q;exact hn vs rfl
  obtain⟨sl',q'⟩:=so.2.2 b o q
  refine⟨sl',?_⟩
  rw[Heap.get?_update_other _ _ (Ne.symm hbe)]
  exact Heap.get?_push_of_some _ q'
theorem note_new{Q:Unit→Shared→Prop}(hfr:A.frames=some (env::outer))(hf:env.frame=some L)(S:Sea base (env::outer) e s.heap)(O:XObj s.heap e cls dd .none)
 (k:∀h',Sea base (env::outer) e h'→XTr h' base e cls dd (rawInt L)→s.heap.UpToSlots h'→Q () { s with heap:=h' }):wpAny M A (noteFrame (.ref e) env) Q E s:=by
 obtain⟨vs,sl,he,h1⟩:=id O
 unfold noteFrame
 simp only[hf]
 refine wpAny_bind (wpAny_field he rfl h1 ?_)
 rw[if_neg (by decide)]
 exact entry_x hfr hf S O k
theorem note_on{Q:Unit→Shared→Prop}(hfr:A.frames=some (env::outer))(hf:env.frame=some L)(S:Sea base (env::outer) e s.heap)(O:XTr s.heap base e cls dd .none)
 (k:∀h',Sea base (env::outer) e h'→XTr h' base e cls dd (rawInt L)→s.heap.UpToSlots h'→Q () { s with heap:=h' }):wpAny M A (noteFrame (.ref e) env) Q E s:=by
 obtain⟨T,⟨vs,sl,he,h1⟩,tb,ne,oT,ts,hT,dT,h3⟩:=O
 unfold noteFrame
 simp only[hf]
 refine wpAny_bind (wpAny_field he rfl h1 ?_)
 rw[if_pos (show (Value.ref T != Value.none)=true by simp)]
 refine wpAny_bind (wpAny_field hT dT h3 ?_)
 rw[if_neg (show ¬((Value.none==rawInt L)=true) by simp[rawInt])]
 refine wpAny_bind (wpAny_setField hT dT (Array.getElem?_eq_some_iff.mp h3).1 ?_)
 have oth:∀b,b≠T→(s.heap.update T (Obj.mapFields (·.setIfInBounds 3 Value.none))).get? b=s.heap.get? b:=fun b hb=>Heap.get?_update_other _ _ (Ne.symm hb)
 have nT:∀b o,s.heap.get? b=some o→(∀ws,o.data≠.fields ws)→b≠T:=fun b o q hn z=>by
  rw[z,hT] at q
  cases q
  exact hn ts dT
 refine entry_x (hd0:=.ref T) (s:={ s with heap:=s.heap.update T (Obj.mapFields (·.setIfInBounds 3 Value.none)) }) hfr hf ⟨fun b o q=>?_,S.new,?_⟩ ⟨vs,sl,(oth e (Ne.symm ne)).trans he,h1⟩ fun h' a b c=>k h' a b fun x o q hn=>?_
 ·exact(oth b fun z=>by rw[z,tb] at q;cases q).trans (S.stays b o q)
 ·exact S.frames.of_keeps fun b o q hn=>⟨o,(oth b (nT b o q hn)).trans q,rfl⟩
 ·exact c x o ((oth x (nT x o q hn)).trans q) hn
theorem note_again{Q:Unit→Shared→Prop}(hf:env.frame=some L)(O:XTr s.heap base e cls dd (rawInt L))(k:Q () s):wpAny M A (noteFrame (.ref e) env) Q E s:=by
 obtain⟨T,⟨vs,sl,he,h1⟩,tb,ne,oT,ts,hT,dT,h3⟩:=O
 unfold noteFrame
 simp only[hf]
 refine wpAny_bind (wpAny_field he rfl h1 ?_)
 rw[if_pos (show (Value.ref T != Value.none)=true by simp)]
 refine wpAny_bind (wpAny_field hT dT h3 ?_)
 rw[if_pos (show (rawInt L==rawInt L)=true by simp)]
 exact wpAny_pure k
theorem flight_off{fl:Value}{Q:Unit→Shared→Prop}(S:Sea base l e s.heap)(O:XTr s.heap base e cls dd fl)
 (k:∀h',Sea base l e h'→XTr h' base e cls dd .none→s.heap.UpToSlots h'→Q () { s with heap:=h' }):wpAny M A (setFlight (.ref e) none) Q E s:=by
 obtain⟨T,⟨vs,sl,he,h1⟩,tb,ne,oT,ts,hT,dT,h3⟩:=O
 have sz:3<ts.size:=(Array.getElem?_eq_some_iff.mp h3).1
 unfold setFlight
 refine wpAny_bind (wpAny_field he rfl h1 ?_)
 rw[if_pos (show (Value.ref T != Value.none)=true by simp)]
 have oth:∀b,b≠T→(s.heap.update T (Obj.mapFields (·.setIfInBounds 3 ((none:Option Addr).elim Value.none fun f=>rawInt f)))).get? b=s.heap.get? b:=fun b hb=>Heap.get?_update_other _ _ (Ne.symm hb)
 have nT:∀b o,s.heap.get? b=some o→(∀ws,o.data≠.fields ws)→b≠T:=fun b o q hn z=>by
  rw[z,hT] at q
  cases q
  exact hn ts dT
 refine wpAny_setField hT dT sz (k _ ⟨fun b o q=>?_,S.new,?_⟩ ⟨T,⟨vs,sl,(oth e (Ne.symm ne)).trans he,h1⟩,tb,ne,_,ts.setIfInBounds 3 .none,Heap.get?_update_self _ hT ?_,?_,?_⟩ fun b o q hn=>⟨o.slots,(oth b (nT b o q hn)).trans q⟩)
 ·exact(oth b fun z=>by rw[z,tb] at q;cases q).trans (S.stays b o q)
 ·exact S.frames.of_keeps fun b o q hn=>⟨o,(oth b (nT b o q hn)).trans q,rfl⟩
 ·rw[fields_set dT];rfl
 ·rw[fields_set dT];rfl
 ·rw[Array.getElem?_setIfInBounds_self_of_lt sz]
theorem Sea.tail(S:Sea base (env::outer) e s.heap):Sea base outer e s.heap:=⟨S.stays,S.new,S.frames.2.2⟩
theorem leave_new{Q:Unit→Shared→Prop}(hfr:A.frames=some (env::outer))(hf:env.frame=some L)(S:Sea base (env::outer) e s.heap)(O:XObj s.heap e cls dd .none)
 (k:∀h',Sea base outer e h'→XTr h' base e cls dd .none→s.heap.UpToSlots h'→Q () { s with heap:=h' }):wpAny M A (leaving env (.ref e)) Q E s:=by
 unfold leaving
 refine wpAny_bind (note_new hfr hf S O fun h1 S1 O1 u1=>?_)
 exact flight_off (s:={ s with heap:=h1 }) S1 O1 fun h2 S2 O2 u2=>k h2 (Sea.tail (s:={ s with heap:=h2 }) S2) O2 (u1.trans u2)
theorem leave_on{Q:Unit→Shared→Prop}(hfr:A.frames=some (env::outer))(hf:env.frame=some L)(S:Sea base (env::outer) e s.heap)(O:XTr s.heap base e cls dd .none)
 (k:∀h',Sea base outer e h'→XTr h' base e cls dd .none→s.heap.UpToSlots h'→Q () { s with heap:=h' }):wpAny M A (leaving env (.ref e)) Q E s:=by
 unfold leaving
 refine wpAny_bind (note_on hfr hf S O fun h1 S1 O1 u1=>?_)
 exact flight_off (s:={ s with heap:=h1 }) S1 O1 fun h2 S2 O2 u2=>k h2 (Sea.tail (s:={ s with heap:=h2 }) S2) O2 (u1.trans u2)
end
end L2
set_option Elab.async false
set_option linter.all false
set_option maxRecDepth 100000
set_option maxHeartbeats 4000000
namespace L2
open PySem PySem.Spec PyProof.Rows
def Old(fs:List Addr)(H:Hp)(h B:Heap):Prop:=∀b u,h.get? b=some u→b∉fs→∃u',B.get? b=some u'∧(H b=none→u'=u)
def Tra(H:Hp)(h B:Heap):Prop:=∀b o,H b=some o→∃u,h.get? b=some u∧B.get? b=some u
section
variable{P:Program}{w:World}{fs:List Addr}{H H':Hp}{h h1 h2 B:Heap}
theorem un_flown(u:Un fs [] H H' h h1)(o:Old fs H h B)(st:B.StaysIn h2)(up:h1.UpToSlots h2)(fr:∀b∈fs,∃ob,h1.get? b=some ob∧∀vs,ob.data≠.fields vs):Un fs [] H H' h h2 where
 keep:=fun b ob q n hb hx=>by
  obtain⟨u',e,z⟩:=o b ob q hb
  rw[z n] at e
  exact st _ _ e
 slot:=fun b ob q n hb hx=>by
  obtain⟨sl,e⟩:=u.slot b ob q n hb hx
  obtain⟨o2,e2,nf⟩:=fr b hb
  rw[e] at e2
  cases e2
  obtain⟨sl',e3⟩:=up b _ e nf
  exact⟨sl',e3⟩
 free:=u.free
 there:=fun b ob q hx=>by
  by_cases hb:b∈fs
  ·obtain⟨o2,e2,nf⟩:=fr b hb
   obtain⟨sl,e3⟩:=up b _ e2 nf
   exact⟨_,e3⟩
  ·obtain⟨u',e,_⟩:=o b ob q hb
   exact⟨u',st _ _ e⟩
 tups:=u.tups
 frzs:=u.frzs
 tbls:=u.tbls
theorem hok_flown(ok:HOk P w H' h1)(t:Tra H' h1 B)(st:B.StaysIn h2):HOk P w H' h2:=fun a o e=>by
 refine(ok a o e).stay (fun b u hb q=>?_) (fun _ q=>q) fun _ _ q=>q
 have go:∀ob,H' b=some ob→h2.get? b=some u:=fun ob z=>by
  obtain⟨u',e1,e2⟩:=t b ob z
  rw[q] at e1
  cases e1
  exact st _ _ e2
 rcases hb with z | z
 ·exact go o (z ▸ e)
 ·exact go _ z
theorem Tra.later(t:Tra H' h1 B)(st:B.StaysIn h2):Tra H' h2 B:=fun b o e=>by
 obtain⟨u,_,q⟩:=t b o e
 exact⟨u,st _ _ q,q⟩
end
def CX1(P:Program)(w:World):CXT:=fun outer H s E e s'=>∃(ea:Addr) (cls:Value) (dx:Option Addr) (B:Heap) (H':Hp),e=.ref ea∧s'.os=s.os∧AllBare s'.gens∧Un (frs outer) [] H H' s.heap s'.heap∧
 HOk P w H' s'.heap∧Sea B outer ea s'.heap∧XTr s'.heap B ea cls dx .none∧Old (frs outer) H s.heap B∧Tra H' s'.heap B∧E cls dx H'
def CXM(P:Program)(w:World):CXT:=fun outer H s E e s'=>∃(ea:Addr) (cls:Value) (dx:Option Addr) (B:Heap) (H':Hp),e=.ref ea∧s'.os=s.os∧AllBare s'.gens∧Un (frs outer) [] H H' s.heap s'.heap∧
 HOk P w H' s'.heap∧Sea B outer ea s'.heap∧XObj s'.heap ea cls dx .none∧Old (frs outer) H s.heap B∧Tra H' s'.heap B∧E cls dx H'
structure Thr(X:Cx)(EE:Value→Option Addr→St→Hp→Prop):Prop where
 call:∀(pins:List (Addr×Obj)) (σ:St) (H:Hp) (s:Shared) (e:Value) (s':Shared),Inv X pins σ H s→CX1 X.prog X.w X.stack H s (fun c d H'=>EE c d σ H') e s'→X.xe e s'
 made:∀(pins:List (Addr×Obj)) (σ:St) (H:Hp) (s:Shared) (e:Value) (s':Shared),Inv X pins σ H s→CXM X.prog X.w X.stack H s (fun c d H'=>EE c d σ H') e s'→X.xe e s'
section
variable{X:Cx}{pins:List (Addr×Obj)}{σ:St}{H H':Hp}{s:Shared}
theorem frames_are(I:Inv X pins σ H s){s':Shared}(u:Un (frs X.stack) [] H H' s.heap s'.heap):∀b∈frs X.stack,∃ob,s'.heap.get? b=some ob∧∀vs,ob.data≠.fields vs:=fun b hb=>by
 obtain⟨_,o,ho,hn⟩:=I.stack.mem hb
 obtain⟨sl,e⟩:=u.any ho (I.stkFree b hb) (by simp)
 exact⟨_,e,hn⟩
theorem un_out{s2:Heap}(I:Inv X pins σ H s)(hx:X.ex=[])(hst:X.stack=X.env::X.outer)(hfr:X.env.frame=some X.env.locals)(u:Un (frs X.stack) [] H H' s.heap s2):Un X.fs [] X.H₀ H' X.s₀.heap s2:=by
 have nl:∀b o,X.s₀.heap.get? b=some o→b≠X.env.locals:=fun b o e=>Nat.ne_of_lt (Nat.lt_of_lt_of_le (Heap.lt_size e) I.ok.above)
 have sub:∀b,b∈frs X.stack→b=X.env.locals∨b∈X.fs:=fun b hb=>List.mem_cons.mp (I.stkSub b hb)
 have sup:∀b,b∈X.fs→b∈frs X.stack:=fun b hb=>by
  rw[hst]
  show b∈(X.env::X.outer).filterMap (·.frame)
  rw[List.filterMap_cons,hfr]
  exact List.mem_cons_of_mem _ hb
 have ie:∀b,b∉X.ex:=fun b=>by rw[hx];simp
 exact{
  keep:=fun b o e n hb _=>u.keep b o (I.base.keep b o e n hb (ie b)) (I.base.free b o e n (ie b)) (fun z=>(sub b z).elim (nl b o e) hb) (by simp)
  slot:=fun b o e n hb _=>by
   obtain⟨sl,e1⟩:=I.base.slot b o e n hb (ie b)
   obtain⟨sl',e2⟩:=u.slot b _ e1 (I.base.free b o e n (ie b)) (sup b hb) (by simp)
   exact⟨sl',e2⟩
  free:=fun b o e n _=>by
   obtain⟨o',e1⟩:=I.base.there b o e (ie b)
   exact u.free b o' e1 (I.base.free b o e n (ie b)) (by simp)
  there:=fun b o e _=>by
   obtain⟨o',e1⟩:=I.base.there b o e (ie b)
   exact u.there b o' e1 (by simp)
  tups:=fun b xs e=>u.tups b xs (I.base.tups b xs e)
  frzs:=fun b o xs e=>u.frzs b o xs (I.base.frzs b o xs e)
  tbls:=fun b ps e=>by
   obtain⟨m1,e1⟩:=I.base.tbls b ps e
   obtain⟨m2,e2⟩:=u.tbls b _ e1
   exact⟨m1++m2,by rw[e2,Array.append_assoc]⟩ }
theorem old_out{B:Heap}(I:Inv X pins σ H s)(hx:X.ex=[])(o:Old (frs X.stack) H s.heap B):Old X.fs X.H₀ X.s₀.heap B:=fun b u e hb=>by
 have ie:b∉X.ex:=by rw[hx];simp
 have hs:b∉frs X.stack:=fun z=>(List.mem_cons.mp (I.stkSub b z)).elim (fun q=>Nat.lt_irrefl _ (Nat.lt_of_lt_of_le (Heap.lt_size e) (q ▸ I.ok.above))) hb
 obtain⟨o',e1⟩:=I.base.there b u e ie
 obtain⟨u',e2,z⟩:=o b o' e1 hs
 refine⟨u',e2,fun n=>?_⟩
 have e3:=I.base.keep b u e n hb ie
 rw[e1] at e3
 cases e3
 exact z (I.base.free b _ e n ie)
end
theorem ObjOk.obj{P:Program}{w:World}{H:Hp}{h:Heap}{a:Addr}{o:HO}(x:ObjOk P w H h a o):∃u,h.get? a=some u:=by
 cases o with
 | lst xs=>obtain⟨_,_,_,_,e⟩:=x;exact⟨_,e⟩
 | tup xs=>obtain⟨_,_,_,ob,e,_⟩:=x;exact⟨_,e⟩
 | dK kvs=>obtain⟨_,_,_,_,ob,_,_,e,_⟩:=x;exact⟨_,e⟩
 | dT kvs=>obtain⟨_,_,_,_,ob,_,_,e,_⟩:=x;exact⟨_,e⟩
 | set S n=>obtain⟨ob,_,_,_,e,_⟩:=x;exact⟨_,e⟩
 | ins C dx fs=>obtain⟨_,_,_,e,_⟩:=x;exact⟨_,e⟩
 | own y=>exact x
 | xd fs=>obtain⟨_,⟨ob,_,_,e,_⟩,_⟩:=x;exact⟨_,e⟩
 | rng lo hi=>obtain⟨_,_,_,e⟩:=x;exact⟨_,e⟩
 | frz ob u=>exact⟨_,x.1⟩
 | tbl ps=>exact⟨_,x⟩
 | met f y=>exact⟨_,x⟩
 | ext φ=>exact x.2.1
theorem cxm_made{X:Cx}{pins:List (Addr×Obj)}{σ:St}{H H':Hp}{s s':Shared}{e:Addr}{cls:Value}{dx:Option Addr}{E:XK}(I:Inv X pins σ H s)(I':Inv X pins σ H' s')(un:Un (frs X.stack) [] H H' s.heap s'.heap)(os:s'.os=s.os)(O:XObj s'.heap e cls dx .none)(hn:s.heap.get? e=none)(hn':H' e=none)
 (q:E cls dx H'):CXM X.prog X.w X.stack H s E (.ref e) s':=by
 refine⟨e,cls,dx,PySem.W.hideAll s'.heap (e::frs X.stack),H',rfl,os,I'.bare,un,I'.hok,⟨fun b o z=>PySem.W.of_hideAll _ z,PySem.W.hideAll_none _ (by simp),?_⟩,O,fun b u z hb=>?_,fun b o z=>?_,q⟩
 ·refine PySem.W.funFrames_hide I'.stack fun env he a ha=>List.mem_cons_of_mem _ ?_
  exact List.mem_filterMap.mpr ⟨env,he,ha⟩
 ·have ne:b∉e::frs X.stack:=fun hm=>(List.mem_cons.mp hm).elim (fun r=>by rw[r,hn] at z;cases z) hb
  obtain⟨u',e1⟩:=un.there b u z (by simp)
  refine⟨u',PySem.W.hideAll_get _ e1 ne,fun n=>?_⟩
  have e2:=un.keep b u z n hb (by simp)
  rw[e1] at e2
  cases e2
  rfl
 ·obtain⟨u,hu⟩:=(I'.hok b o z).obj
  refine⟨u,hu,PySem.W.hideAll_get _ hu fun hm=>?_⟩
  rcases List.mem_cons.mp hm with r | r
  ·rw[r,hn'] at z;cases z
  ·rw[I'.stkFree b r] at z;cases z
theorem thr_fn{P:Program}{w:World}{K:PySem.W.Frag}{mg:Str→Option Value}{base:Heap}{N:List Str}{qual:Str}{scope:Scope}{f:Addr}{cd:Value}{A:Around}{outer:List Env}{s₀:Shared}{H₀:Hp}{E:XK}:
 Thr (cxOf (CX1 P w) P w K mg base N qual scope f cd A outer s₀ H₀ E) (fun c d _ H'=>E c d H') where
 call:=by
  rintro pins σ H s e s' I ⟨ea,cls,dx,B,H',rfl,os,bare,un,hok,sea,tr,old,tra,q⟩
  refine leave_on (A:=(cxOf (CX1 P w) P w K mg base N qual scope f cd A outer s₀ H₀ E).A) (I.ok.frames) rfl sea tr fun h2 S2 O2 u2=>?_
  refine⟨ea,cls,dx,B,H',rfl,os.trans I.os,bare,?_,hok_flown hok tra S2.stays,S2,O2,old_out I rfl old,tra.later S2.stays,q⟩
  exact un_out I rfl rfl rfl (un_flown un old S2.stays u2 (frames_are I un))
 made:=by
  rintro pins σ H s e s' I ⟨ea,cls,dx,B,H',rfl,os,bare,un,hok,sea,tr,old,tra,q⟩
  refine leave_new (A:=(cxOf (CX1 P w) P w K mg base N qual scope f cd A outer s₀ H₀ E).A) (I.ok.frames) rfl sea tr fun h2 S2 O2 u2=>?_
  refine⟨ea,cls,dx,B,H',rfl,os.trans I.os,bare,?_,hok_flown hok tra S2.stays,S2,O2,old_out I rfl old,tra.later S2.stays,q⟩
  exact un_out I rfl rfl rfl (un_flown un old S2.stays u2 (frames_are I un))
end L2
set_option Elab.async false
set_option linter.all false
set_option maxRecDepth 100000
set_option maxHeartbeats 4000000
namespace L2
open PySem PySem.Spec PyProof.Rows
section
variable{P:Program}{w:World}{K:PySem.W.Frag}{mg:Str→Option Value}{base:Heap}
theorem Fun.okE{x qual:Str}{st:Stmt}{f:Addr}{fd:FuncData}{N ps:List Str}{k:Nat}{sp:Sp}(F:Fun K x qual st f fd)(S:FnScope N ps (defScope st))(len:∀vs H Q E,sp vs H Q E→vs.length=ps.length)
 (hbody:∀(cdv:Value) (A:Around) (outer:List Env) (s:Shared) (H:Hp) (vs:List V) (Q:VK) (E:XK),Room k (A.deeper (envOfC qual (defScope st) s.heap.objs.size f cdv))→sp vs H Q E→
  Thr (cxOf (CX1 P w) P w K mg base N qual (defScope st) f cdv A outer s H E) (fun c d _ H'=>E c d H')→
  ∃t,PSs (cxOf (CX1 P w) P w K mg base N qual (defScope st) f cdv A outer s H E) (defBody st) t∧t { nx:=fun _ H'=>Q .non H',rt:=Q } (start N vs) H):FnOk P w K mg base (CX1 P w) (k+1) f fd ps sp:=by
 obtain⟨oc,od,kV,doc,pm,an,cdv,ct,osl,rfl,lk,hcd⟩:=F.ex
 exact fn_of lk hcd S len fun A outer s H vs Q E hr hsp=>hbody cdv A outer s H vs Q E hr hsp thr_fn
end
structure CalE(P:Program)(w:World)(K:PySem.W.Frag)(mg:Str→Option Value)(base:Heap)(k:Nat)(x:Str)(ps:List Str)(sp:Sp):Prop where
 ex:∃(f:Addr) (fd:FuncData),FnOk P w K mg base (CX1 P w) k f fd ps sp∧Binds K fd ps []∧PySem.W.keepIn K (.ref f)=true∧mg x=some (.ref f)
def tCallE(sp:Sp)(EE:Value→Option Addr→St→Hp→Prop)(t:TA):TE:=fun σ H Q=>t σ H fun vs H1=>sp (vs++[]) H1 Q (fun c d H'=>EE c d σ H')
section
variable{X:Cx}{EE:Value→Option Addr→St→Hp→Prop}
theorem pe_calE{k:Nat}{x:Str}{ps:List Str}{sp:Sp}{e:Expr}{es:List Expr}{t:TA}{p pos:Pos}(T:Thr X EE)(C:CalE X.prog X.w X.K X.mg X.base k x ps sp)(hr:Room k X.A)(hg:Gl X x)(ha:PA X (e::es) t)
 (hdb:(x==("__debug__":Str))=false:=by decide)(he:starEach (e::es) X.env=(false,eval e X.env)::starEach es X.env:=by rfl)(hpl:(backTo pos (starEach es X.env)).any (·.1)=false:=by rfl):
 PE X (.Call (.Name x p) (e::es) [] pos) (tCallE sp EE t):=by
 intro pins s σ H Q I h
 obtain⟨f,fd,F,b,kp,m⟩:=C.ex
 refine wpAny_Call_Name_kw (ld_glob I hg m ?_ hdb)
 refine PySem.W.callWith_K (h₀:=X.base) I.ok.mod.kin kp (thn (ha pos pins s σ H _ I h) fun us s1 ⟨vs,H1,I1,r,q⟩=>⟨I1.kIn,?_⟩) he hpl
 dsimp only at q
 rw[List.append_nil] at q
 have hl:us.length=ps.length:=by rw[←r.length];exact F.len _ _ _ _ q
 have hb:=b s1 us I1.kIn (by rw[List.append_nil];exact hl)
 rw[List.append_nil] at hb
 show wpAny _ _ (call (.ref f) us) _ _ _
 refine wpAny_call (codeAny_mono (F.run X.A X.stack s1 H1 ⟨us,[]⟩ us vs Q _ hr I1.env0 hb r q) fun z s' hq=>?_)
 cases z with
 | error e=>exact T.call pins σ H1 s1 e s' I1 hq
 | ok fl=>
  cases fl with
  | ret u=>exact I1.after hq
  | next=>exact False.elim hq
  | brk=>exact False.elim hq
  | cont=>exact False.elim hq
theorem exc_cls{K:PySem.W.Frag}{h:Heap}{C:Addr}{bmB:List Value}{newId:String}(KX:K.In h)(q:PySem.W.excIn K C bmB newId=true):
 ∃bm N nm qn bs hd sn sub ab col dd k0 k1 k2 k3 k5 mN,h.get? C=some (excClassObj nm qn C N bs bm hd sn sub ab col dd k0 k1 k2 k3 k5 newId)∧h.Ns N mN∧mN "__init__"=none∧OwnTail h bmB bm:=by
 unfold PySem.W.excIn at q
 split at q
 ·rename_i dd cd sl ho
  split at q
  ·rename_i C' bm k0 k1 k2 k3 n k5 hm hs
   simp only[Bool.and_eq_true,beq_iff_eq,Bool.not_eq_true'] at q
   obtain⟨⟨⟨⟨⟨e1,e2⟩,hdel⟩,ht⟩,hok⟩,hni⟩:=q
   subst e1 e2
   obtain⟨nm,bs,mro,ns,qn,hd,sn,sub,ab,col,del⟩:=cd
   dsimp only at hm hdel hok hni
   subst hm hdel
   obtain⟨l⟩:=sl
   dsimp only at hs
   subst hs
   exact⟨bm,ns,nm,qn,bs,hd,sn,sub,ab,col,dd,k0,k1,k2,k3,k5,_,KX _ _ ho,.of_isNs (PySem.W.isNs_of_in KX hok),PySem.W.nsMap_none_of_in KX hok hni,PySem.W.tail_of_in KX ht⟩
  ·cases q
 ·cases q
abbrev bmV:List Value:=[.type "ValueError",.type "Exception",.type "BaseException",.type "object"]
structure XCls(K:PySem.W.Frag)(mg:Str→Option Value)(x:Str)(C:Addr):Prop where
 bound:mg x=some (.ref C)
 exc:PySem.W.excIn K C bmV "ValueError.__new__"=true
def tRaise(C:Addr)(EE:Value→Option Addr→St→Hp→Prop)(ta:TA):TS:=fun _ σ H=>ta σ H fun vs H1=>vs.length≤sizeLine∧EE (.ref C) none σ H1
theorem ps_raise{x:Str}{C:Addr}{e:Expr}{es:List Expr}{t:TA}{np cpos pos:Pos}(T:Thr X EE)(hc:X.calm=true)(O:XCls X.K X.mg x C)(hg:Gl X x)(ha:PA X (e::es) t)
 (hdb:(x==("__debug__":Str))=false:=by decide)(he:starEach (e::es) X.env=(false,eval e X.env)::starEach es X.env:=by rfl)(hpl:(backTo cpos (starEach es X.env)).any (·.1)=false:=by rfl):
 PS X (.Raise (some (.Call (.Name x np) (e::es) [] cpos)) none pos) (tRaise C EE t):=by
 intro pins s σ H D I h
 obtain⟨tl,N,nm,qn,bs,hd,sn,sub,ab,col,dd,k0,k1,k2,k3,k5,mN,hC,hN,hni,TL⟩:=exc_cls I.ok.mod.kin O.exc
 have FV:=PySem.F.excBase_ValueError
 refine wpAny_Raise_call_subU (C:=C) (nm:=nm) (q:=qn) (N:=N) (bs:=bs) (bm:=tl) (hdct:=hd) (sn:=sn) (sub:=sub) (ab:=ab) (col:=col) (dd:=dd) (k0:=k0) (k1:=k1) (k2:=k2) (k3:=k3) (k5:=k5)
  FV (by decide +kernel) FV (mN:=mN) (TL.hasType FV.hasBase) (I.ok.hd hc) ?_ hni (ld_glob I hg O.bound ⟨rfl,?_⟩ hdb)
 ·rw[he]
  show(false||(backTo cpos (starEach es X.env)).any (·.1))=false
  rw[hpl];rfl
 have hh:=thn (ha cpos pins s σ H _ I h) (Q':=fun vs s₂=>vs.length≤sizeLine∧(∀b o,X.base.get? b=some o→s₂.heap.get? b=some o)∧∀h' ea,Heap.MadeExcOf s₂.heap h' ea (.ref C) vs→X.xe (.ref ea) { s₂ with heap:=h' }) fun us s1 ⟨vs,H1,I1,r,hz,q⟩=>by
  refine⟨by rw[←r.length];exact hz,I1.bk,fun h' ea M=>?_⟩
  obtain⟨ta,e1,_,_⟩:=M.there
  have I2:Inv X pins σ H1 { s1 with heap:=h' }:=I1.kept (t':=s1.toks) M.keeps
  have hn:H1 ea=none:=by
   cases z:H1 ea with
   | none=>rfl
   | some o=>
    obtain⟨u,hu⟩:=(I1.hok ea o z).obj
    rw[M.new] at hu;cases hu
  exact T.made pins σ H1 s1 _ _ I1 (cxm_made I1 I2 (Un.kept M.keeps) rfl ⟨_,#[],e1,rfl⟩ M.new hn q)
 rw[he] at hh ⊢
 exact Calls.evalArgs_plain (thn hh fun vs s₂ h₂=>⟨rfl,h₂.1,h₂.2.1 _ _ hC,hN.keeps h₂.2.1,TL.keeps h₂.2.1,h₂.2.2⟩)
end
end L2
set_option Elab.async false
set_option linter.all false
set_option maxRecDepth 100000
set_option maxHeartbeats 4000000
namespace L2
open PySem PySem.Spec PyProof.Rows
theorem Inv.re{X Y:Cx}{pins pins':List (Addr×Obj)}{σ:St}{H:Hp}{s:Shared}(I:Inv X pins σ H s)(ok:Y.Ok)(e1:Y.prog=X.prog)(e2:Y.w=X.w)(e3:Y.s₀=X.s₀)(e4:Y.outer=X.outer)(e5:Y.ex=X.ex)(e6:Y.H₀=X.H₀)(e7:Y.env=X.env)(e8:Y.N=X.N)
 (hp:∀p∈Y.pn++pins',p∈X.pn++pins):Inv Y pins' σ H s:=by
 obtain⟨P,w,K,mg,base,A,N,s₀,H₀,env,outer,stack,ex,fn,calm,pn,xe⟩:=X
 obtain⟨P',w',K',mg',base',A',N',s₀',H₀',env',outer',stack',ex',fn',calm',pn',xe'⟩:=Y
 dsimp only at e1 e2 e3 e4 e5 e6 e7 e8
 subst e1 e2 e3 e4 e5 e6 e7 e8
 exact⟨ok,I.os,I.bare,I.base,I.loc,I.cell,I.free,I.freeC,fun p h=>I.pin p (hp p h),I.hok,I.len⟩
abbrev Cx.tr(X:Cx)(xe:Value→Shared→Prop)(pn:List (Addr×Obj)):Cx:={ X with xe:=xe,pn:=pn }
abbrev Cx.hd(X:Cx)(e:Addr):Cx:={ X with A:=X.A.mark (some (.ref e)),calm:=false,xe:=fun _ _=>False }
theorem Cx.Ok.tr{X:Cx}(ok:X.Ok)(xe:Value→Shared→Prop)(pn:List (Addr×Obj)):(X.tr xe pn).Ok:=
 ⟨ok.mod,ok.kind,ok.glob,ok.blt,ok.above,ok.inj,ok.has,ok.cab,ok.hd,ok.frames,ok.stk,ok.exf,ok.bs,ok.bsz,ok.noex,ok.exfs,ok.funs,ok.frf⟩
theorem Cx.Ok.hdl{X:Cx}(ok:X.Ok)(e:Addr):(X.hd e).Ok:=
 ⟨ok.mod,ok.kind,ok.glob,ok.blt,ok.above,ok.inj,ok.has,ok.cab,(fun h=>nomatch h),ok.frames,ok.stk,ok.exf,ok.bs,ok.bsz,ok.noex,ok.exfs,ok.funs,ok.frf⟩
def ExcO(a:Addr)(cls:Value)(dx:Option Addr):HO:=.ext fun h=>∃vs sl,h.get? a=some ⟨cls,dx,.fields vs,sl⟩
structure Fl(X:Cx)(pins:List (Addr×Obj))(σ:St)(H:Hp)(s':Shared)(ea:Addr)(cls:Value)(dx:Option Addr):Prop where
 ex:∃(s₀:Shared) (H₀:Hp) (B:Heap),Inv X pins σ H₀ s₀∧s'.os=s₀.os∧AllBare s'.gens∧Un (frs X.stack) [] H₀ H s₀.heap s'.heap∧HOk X.prog X.w H s'.heap∧Sea B X.stack ea s'.heap∧XTr s'.heap B ea cls dx .none∧Old (frs X.stack) H₀ s₀.heap B∧Tra H s'.heap B
section
variable{X:Cx}{pins:List (Addr×Obj)}{σ:St}{H:Hp}{s:Shared}{ea:Addr}{cls:Value}{dx:Option Addr}
theorem Fl.inv(F:Fl X pins σ H s ea cls dx):Inv X pins σ H s:=by
 obtain⟨s₀,H₀,B,I,os,bare,un,hok,_⟩:=F.ex
 exact I.call' (ch:=[]) os un hok bare (fun b z=>nomatch z)
theorem Fl.obj(F:Fl X pins σ H s ea cls dx):∃vs sl,s.heap.get? ea=some ⟨cls,dx,.fields vs,sl⟩:=by
 obtain⟨s₀,H₀,B,I,os,bare,un,hok,sea,⟨T,⟨vs,sl,e,_⟩,_⟩,_⟩:=F.ex
 exact⟨vs,sl,e⟩
theorem Fl.free(F:Fl X pins σ H s ea cls dx):H ea=none:=by
 obtain⟨s₀,H₀,B,I,os,bare,un,hok,sea,_,_,tra⟩:=F.ex
 cases z:H ea with
 | none=>rfl
 | some o=>
  obtain⟨u,_,q⟩:=tra ea o z
  rw[sea.new] at q;cases q
theorem Fl.land{Q:Unit→Shared→Prop}{A:Around}{E:Value→Shared→Prop}(F:Fl X pins σ H s ea cls dx)(k:∀s',Inv X pins σ (upd H ea (ExcO ea cls dx)) s'→Q () s'):wpAny (model X.prog X.w) A (setFlight (.ref ea) none) Q E s:=by
 have hn:=F.free
 obtain⟨s₀,H₀,B,I,os,bare,un,hok,sea,tr,old,tra⟩:=F.ex
 refine flight_off sea tr fun h2 S2 O2 u2=>k _ ?_
 have un2:=un_flown un old S2.stays u2 (frames_are I un)
 have hok2:=hok_flown hok tra S2.stays
 obtain⟨T,⟨vs,sl,e,_⟩,_⟩:=O2
 have nf:ea∉frs X.stack:=fun z=>by
  obtain⟨_,o,ho,hn⟩:=S2.frames.mem z
  rw[e] at ho
  cases ho
  exact hn vs rfl
 have new0:s₀.heap.get? ea=none:=by
  cases z:s₀.heap.get? ea with
  | none=>rfl
  | some u=>
   obtain⟨u',q,_⟩:=old ea u z nf
   rw[S2.new] at q;cases q
 have ne:∀b u,s₀.heap.get? b=some u→b≠ea:=fun b u q z=>by rw[z,new0] at q;cases q
 refine I.call' (ch:=[]) (s':={ s with heap:=h2 }) os ?_ ?_ bare (fun b z=>nomatch z)
 ·exact⟨un2.keep,un2.slot,fun b o q n hx=>by rw[upd_ne (ne b o q)];exact un2.free b o q n hx,un2.there,fun b xs q=>by rw[upd_ne (ne_of_none (un2.tups b xs q) hn)];exact un2.tups b xs q,
   fun b o u q=>by rw[upd_ne (ne_of_none (un2.frzs b o u q) hn)];exact un2.frzs b o u q,fun b ps q=>by
    obtain⟨more,z⟩:=un2.tbls b ps q
    exact⟨more,by rw[upd_ne (ne_of_none z hn)];exact z⟩⟩
 ·intro a o q
  by_cases ha:a=ea
  ·subst ha
   rw[upd_same] at q
   cases q
   refine⟨⟨vs,sl,e⟩,⟨_,e⟩,?_⟩
   rintro h1 h3 ⟨vs',sl',q⟩ kk
   exact⟨vs',sl',kk _ q⟩
  ·rw[upd_ne ha] at q
   refine(hok2 a o q).stay (fun b u _ z=>z) (fun b z=>?_) fun b xs z=>?_
   ·rw[upd_ne (ne_of_none z hn)];exact z
   ·rw[upd_ne (ne_of_none z hn)];exact z
structure HCls(K:PySem.W.Frag)(mg:Str→Option Value)(x:Str)(C:Addr):Prop where
 bound:mg x=some (.ref C)
 ty:PySem.W.typeIn K (.ref C)=some (.type "type")
 cls:(PySem.W.clsIn K C).isSome=true
 base:PySem.W.mroIn K C (.type "BaseException")=some true
theorem exc_match{K:PySem.W.Frag}{mg:Str→Option Value}{x:Str}{M:Model}{A:Around}{E:Value→Shared→Prop}{s:Shared}{e C C':Addr}{dx:Option Addr}{vs:Array Value}{sl:Array (Option Value)}{b:Bool}{Q:Bool→Shared→Prop}(KX:K.In s.heap)(O:HCls K mg x C)
 (he:s.heap.get? e=some ⟨.ref C',dx,.fields vs,sl⟩)(hm:PySem.W.mroIn K C' (.ref C)=some b)(q:Q b s):wpAny M A (excMatches (.ref e) (.ref C)) Q E s:=by
 have L1:PySem.W.Looks M s.heap (isInstance (.ref C) (.type "tuple")) false:=(PySem.W.looks_typeIn KX O.ty).andThen (.of_pure tc_notTuple)
 have L2:PySem.W.Looks M s.heap (isType (.ref C)) true:=by
  have hc:=O.cls
  unfold PySem.W.clsIn at hc
  split at hc
  ·rename_i c' d' cd' sl' ho
   intro A' Q' E' s' k q
   unfold isType loadHead
   exact wpAny_bind (wpAny_loadPart (k _ _ (KX _ _ ho)) (wpAny_pure q))
  ·cases hc
 have L3:=PySem.W.looks_mroIn (M:=M) KX O.base
 have L4:PySem.W.Looks M s.heap (typeOf (.ref e)) (.ref C'):=(PySem.W.Looks.ld he).andThen .now
 have L5:=PySem.W.looks_mroIn (M:=M) KX hm
 unfold excMatches
 refine wpAny_bind (L1.here ?_)
 simp only[Bool.false_eq_true,if_false]
 refine wpAny_bind (wpAny_pure ?_)
 refine wpAny_bind ?_
 rw[List.forIn_cons]
 refine wpAny_bind (wpAny_bind ?_)
 unfold isExcClass
 refine wpAny_bind (L2.here ?_)
 rw[if_pos rfl]
 refine L3.here ?_
 simp only[Bool.not_true,Bool.false_eq_true,if_false]
 refine wpAny_pure ?_
 dsimp only
 rw[List.forIn_nil]
 refine wpAny_pure (wpAny_bind (L4.here (wpAny_bind ?_)))
 rw[List.forIn_cons]
 refine wpAny_bind (wpAny_bind (L5.here ?_))
 cases b with
 | true=>
  rw[if_pos rfl]
  exact wpAny_pure (wpAny_pure (wpAny_pure q))
 | false=>
  rw[if_neg Bool.false_ne_true]
  refine wpAny_pure ?_
  dsimp only
  rw[List.forIn_nil]
  exact wpAny_pure (wpAny_pure q)
end
end L2
set_option Elab.async false
set_option linter.all false
set_option maxRecDepth 100000
set_option maxHeartbeats 4000000
namespace L2
open PySem PySem.Spec PyProof.Rows
theorem SP.re{X Y:Cx}{pins pins':List (Addr×Obj)}{D:Ends}{f:Flow}{s:Shared}(h:SP X pins D f s)(k:∀σ H,Inv X pins σ H s→Inv Y pins' σ H s):SP Y pins' D f s:=by
 cases f with
 | next=>obtain⟨σ,H,I,q⟩:=h;exact⟨σ,H,k _ _ I,q⟩
 | brk=>obtain⟨σ,H,I,q⟩:=h;exact⟨σ,H,k _ _ I,q⟩
 | cont=>obtain⟨σ,H,I,q⟩:=h;exact⟨σ,H,k _ _ I,q⟩
 | ret u=>obtain⟨v,σ,H,I,r,q⟩:=h;exact⟨v,σ,H,k _ _ I,r,q⟩
section
variable{X:Cx}{pins:List (Addr×Obj)}{σ:St}{H:Hp}{s:Shared}
theorem Inv.toHd(I:Inv X pins σ H s)(e:Addr):Inv (X.hd e) pins σ H s:=I.re (I.ok.hdl e) rfl rfl rfl rfl rfl rfl rfl rfl fun _ h=>h
theorem Inv.ofHd{e:Addr}(o:X.Ok)(I:Inv (X.hd e) pins σ H s):Inv X pins σ H s:=I.re o rfl rfl rfl rfl rfl rfl rfl rfl fun _ h=>h
theorem Inv.toTr(I:Inv X pins σ H s)(xe:Value→Shared→Prop):Inv (X.tr xe (X.pn++pins)) [] σ H s:=I.re (I.ok.tr _ _) rfl rfl rfl rfl rfl rfl rfl rfl fun p h=>by simpa using h
theorem Inv.ofTr{pins':List (Addr×Obj)}{xe:Value→Shared→Prop}(o:X.Ok)(I:Inv (X.tr xe (X.pn++pins)) pins' σ H s):Inv X pins σ H s:=
 I.re o rfl rfl rfl rfl rfl rfl rfl rfl fun p h=>List.mem_append_left _ h
theorem unbind_ok{M:Model}{A:Around}{E:Value→Shared→Prop}{i:Nat}{n:Str}{pos:Pos}{Q:Unit→Shared→Prop}(I:Inv X pins σ H s)(hN:X.N.Nodup)(hi:X.N[i]?=some n)(hk:X.env.scope.names.lookup n=some .local)
 (h:∀s',Inv X pins (σ.set i none) H s'→Q () s'):wpAny M A (do bindName X.env n .none;unbindBehindTheSuite X.env n pos) Q E s:=by
 obtain⟨m,hn,hl⟩:=id I.loc
 have hcls:(X.env.scope.kind==.class||(X.env.scope.kind==.module&&X.env.locals != X.env.globals))=false:=by rw[I.ok.kind];rfl
 have hiσ:i<σ.length:=by rw[I.len];exact(List.getElem?_eq_some_iff.mp hi).1
 have cne:=I.cne
 refine wpAny_nameGoes_keeps hk hn hcls fun h' v hn' hs=>h _ ?_
 obtain⟨oL,_,_,hoL,_⟩:=id hn
 have nl:∀b o,X.s₀.heap.get? b=some o→h'.get? b=s.heap.get? b:=fun b o e=>hs.2 b (Nat.ne_of_lt (Nat.lt_of_lt_of_le (Heap.lt_size e) I.ok.above))
 refine⟨I.ok,I.os,I.bare,⟨fun b o e z hb hx=>(nl b o e).trans (I.base.keep b o e z hb hx),fun b o e z hb hx=>?_,I.base.free,fun b o e hx=>?_,I.base.tups,I.base.frzs,I.base.tbls⟩,⟨_,hn',fun j y v' e1 e2 e3=>?_⟩,fun y c e=>?_,I.free,I.freeC,fun p hp=>?_,fun b ob e=>?_,by simpa using I.len⟩
 ·obtain⟨sl,e1⟩:=I.base.slot b o e z hb hx
  exact⟨sl,(nl b o e).trans e1⟩
 ·obtain⟨o',e1⟩:=I.base.there b o e hx
  exact⟨o',(nl b o e).trans e1⟩
 ·by_cases hj:j=i
  ·subst hj
   rw[List.getElem?_set_self hiσ] at e2
   cases e2
  ·rw[List.getElem?_set_ne (Ne.symm hj)] at e2
   obtain⟨u',r',q⟩:=hl j y v' e1 e2 e3
   refine⟨u',r',?_⟩
   rcases q with ⟨k,e⟩ | ⟨k,c,e,z⟩
   ·refine .inl ⟨k,?_⟩
    have hy:y≠n:=fun z=>hj (nodup_ix hN e1 (z ▸ hi))
    simp[hy,e]
   ·exact .inr ⟨k,c,e,z.sameBut hs (cne y c e)⟩
 ·obtain⟨w',z⟩:=I.cell y c e
  exact⟨w',z.sameBut hs (cne y c e)⟩
 ·obtain⟨e,z,ne,nf,d⟩:=I.pin p hp
  exact⟨(hs.2 p.1 ne).trans e,z,ne,nf,d⟩
 ·refine(I.hok b ob e).stay (fun c w' hc q=>(hs.2 c ?_).trans q) (fun _ q=>q) fun _ _ q=>q
  rintro rfl
  rcases hc with rfl | hc
  ·rw[I.free] at e;cases e
  ·rw[I.free] at hc;cases hc
end
abbrev TH:=Value→Option Addr→Addr→Ends→St→Hp→Prop
def PHs(X:Cx)(hs:List ExceptHandler)(t:TH):Prop:=∀(pins:List (Addr×Obj)) (s:Shared) (σ:St) (H:Hp) (D:Ends) (ea:Addr) (cls:Value) (dx:Option Addr),Fl X pins σ H s ea cls dx→t cls dx ea D σ H→
 wpAny (model X.prog X.w) X.A (handleBy (.ref ea) X.env hs) (SP X pins D) X.xe s
def tNoHand:TH:=fun _ _ _ _ _ _=>False
def gone(i:Nat)(D:Ends):Ends:={ nx:=fun σ H=>D.nx (σ.set i none) H,rt:=D.rt,bk:=fun σ H=>D.bk (σ.set i none) H,ct:=fun σ H=>D.ct (σ.set i none) H }
def tHandAs(K:PySem.W.Frag)(C:Addr)(i:Nat)(ts:Addr→TS)(tr:TH):TH:=fun cls dx ea D σ H=>∃C' b,cls=.ref C'∧PySem.W.mroIn K C' (.ref C)=some b∧if b=true then ts ea (gone i D) (σ.set i (some (.ref ea))) (upd H ea (ExcO ea cls dx)) else tr cls dx ea D σ H
section
variable{X:Cx}
theorem phs_nil:PHs X [] tNoHand:=fun _ _ _ _ _ _ _ _ _ h=>h.elim
theorem phs_consA{x n:Str}{C:Addr}{i:Nat}{b₀:Stmt}{suite:List Stmt}{np pos:Pos}{rest:List ExceptHandler}{ts:Addr→TS}{tr:TH}(O:HCls X.K X.mg x C)(hg:Gl X x)(hN:X.N.Nodup)(hi:X.N[i]?=some n)(hk:X.env.scope.names.lookup n=some .local)
 (hs:∀ea,PSs (X.hd ea) (b₀::suite) (ts ea))(hr:PHs X rest tr)(hdb:(x==("__debug__":Str))=false:=by decide):PHs X (.ExceptHandler (some (.Name x np)) (some n) (b₀::suite) pos::rest) (tHandAs X.K C i ts tr):=by
 intro pins s σ H D ea cls dx F h
 obtain⟨C',b,rfl,hm,q⟩:=h
 obtain⟨vs,sl,he⟩:=F.obj
 have I:=F.inv
 refine wpAny_handleBy_cons (codeAny_handlers_test ?_) (by intro z;cases z)
 refine ld_glob (X:=X.hd ea) (I.toHd ea) hg O.bound ?_ hdb
 refine exc_match I.kIn O he hm ?_
 cases b with
 | true=>
  rw[if_pos rfl] at q
  refine codeAny_handlers_suite_as (F.land fun s' I'=>?_)
  refine store_ok (v:=.ref ea) I' hN hi (.inl hk) rfl (fun s3 I3=>?_) (.inr hk)
  refine wpAny_mono (hs ea pins s3 _ _ (gone i D) (I3.toHd ea) q) (fun f s4 z=>?_) (fun _ _ z=>z.elim)
  cases f with
  | next=>obtain⟨σ4,H4,I4,z⟩:=z;exact unbind_ok (I4.ofHd I.ok) hN hi hk fun s5 I5=>⟨_,_,I5,z⟩
  | brk=>obtain⟨σ4,H4,I4,z⟩:=z;exact unbind_ok (I4.ofHd I.ok) hN hi hk fun s5 I5=>⟨_,_,I5,z⟩
  | cont=>obtain⟨σ4,H4,I4,z⟩:=z;exact unbind_ok (I4.ofHd I.ok) hN hi hk fun s5 I5=>⟨_,_,I5,z⟩
  | ret u=>obtain⟨v,σ4,H4,I4,r,z⟩:=z;exact unbind_ok (I4.ofHd I.ok) hN hi hk fun s5 I5=>⟨v,_,_,I5,r,z⟩
 | false=>
  rw[if_neg Bool.false_ne_true] at q
  exact hr pins s σ H D ea _ dx F q
abbrev XE:=Value→Option Addr→St→Hp→Prop
def tTry(tb:XE→TS)(th:TH):TS:=fun D σ H=>tb (fun c d σ' H'=>∀ea,H' ea=none→th c d ea D σ' H') D σ H
theorem ps_try{body:List Stmt}{h₀:ExceptHandler}{hs:List ExceptHandler}{pos:Pos}{tb:XE→TS}{th:TH}(hst:X.stack=X.env::X.outer)(hf:X.env.frame=some X.env.locals)
 (hb:∀xe pn EE,Thr (X.tr xe pn) EE→PSs (X.tr xe pn) body (tb EE))(hh:PHs X (h₀::hs) th):PS X (.Try body (h₀::hs) [] [] pos) (tTry tb th):=by
 intro pins s σ H D I h
 refine wpAny_Try_except ?_
 have fr:X.A.frames=some (X.env::X.outer):=by rw[←hst];exact I.ok.frames
 generalize hxe:(fun (e:Value) (s1:Shared)=>wpAny (model X.prog X.w) X.A (noteFrame e X.env) (fun _ s2=>wpAny (model X.prog X.w) X.A (setFlight e none) (fun _ s3=>wpAny (model X.prog X.w) X.A (handleBy e X.env (h₀::hs)) (SP X pins D) X.xe s3) X.xe s2) X.xe s1)=xe
 have fin:∀(pins':List (Addr×Obj)) (σ':St) (H2 H':Hp) (s2 s':Shared) (ea:Addr) (cls:Value) (dx:Option Addr) (B h4:Heap),Inv (X.tr xe (X.pn++pins)) pins' σ' H2 s2→s'.os=s2.os→AllBare s'.gens→Un (frs X.stack) [] H2 H' s2.heap s'.heap→HOk X.prog X.w H' s'.heap→
  Old (frs X.stack) H2 s2.heap B→Tra H' s'.heap B→Sea B X.stack ea h4→XTr h4 B ea cls dx .none→s'.heap.UpToSlots h4→(∀ea,H' ea=none→th cls dx ea D σ' H')→
  wpAny (model X.prog X.w) X.A (handleBy (.ref ea) X.env (h₀::hs)) (SP X pins D) X.xe { s' with heap:=h4 }:=by
  intro pins' σ' H2 H' s2 s' ea cls dx B h4 I2 os bare un hok old tra S4 O4 u4 q
  have I3:=I2.ofTr I.ok
  refine hh pins _ σ' H' D ea cls dx ⟨s2,H2,B,I3,os,bare,un_flown un old S4.stays u4 (frames_are I3 un),hok_flown hok tra S4.stays,S4,O4,old,tra.later S4.stays⟩ (q ea ?_)
  cases z:H' ea with
  | none=>rfl
  | some o=>
   obtain⟨u,_,e⟩:=tra ea o z
   rw[S4.new] at e;cases e
 have T:Thr (X.tr xe (X.pn++pins)) (fun c d σ' H'=>∀ea,H' ea=none→th c d ea D σ' H'):=by
  constructor
  ·rintro pins' σ' H2 s2 e s' I2 ⟨ea,cls,dx,B,H',rfl,os,bare,un,hok,sea,tr,old,tra,q⟩
   show xe (.ref ea) s'
   rw[←hxe]
   have sea':Sea B (X.env::X.outer) ea s'.heap:=by rw[←hst];exact sea
   refine note_on fr hf sea' tr fun h3 S3 O3 u3=>flight_off (s:={ s' with heap:=h3 }) S3 O3 fun h4 S4 O4 u4=>?_
   exact fin pins' σ' H2 H' s2 s' ea cls dx B h4 I2 os bare un hok old tra (by rw[hst];exact S4) O4 (u3.trans u4) q
  ·rintro pins' σ' H2 s2 e s' I2 ⟨ea,cls,dx,B,H',rfl,os,bare,un,hok,sea,tr,old,tra,q⟩
   show xe (.ref ea) s'
   rw[←hxe]
   have sea':Sea B (X.env::X.outer) ea s'.heap:=by rw[←hst];exact sea
   refine note_new fr hf sea' tr fun h3 S3 O3 u3=>flight_off (s:={ s' with heap:=h3 }) S3 O3 fun h4 S4 O4 u4=>?_
   exact fin pins' σ' H2 H' s2 s' ea cls dx B h4 I2 os bare un hok old tra (by rw[hst];exact S4) O4 (u3.trans u4) q
 refine wpAny_mono (hb xe _ _ T [] s σ H D (I.toTr xe) h) (fun f s1 z=>?_) (fun e s1 z=>?_)
 ·have z':SP X pins D f s1:=z.re fun _ _ J=>J.ofTr I.ok
  cases f with
  | next=>exact wpAny_execs_nil z'
  | brk=>exact z'
  | cont=>exact z'
  | ret u=>exact z'
 ·exact z
end
end L2
set_option Elab.async false
set_option linter.all false
set_option maxRecDepth 100000
set_option maxHeartbeats 4000000
namespace L2
open PySem PySem.Spec PyProof.Rows
section
variable{prog:Program}{w:World}{A:Around}{E:Value→Shared→Prop}{s:Shared}{K:PySem.W.Frag}{x D:Addr}{ox:Obj}{odo:Option Obj}{name:Str}
structure XGet(K:PySem.W.Frag)(D:Addr):Prop where
 ga:PySem.W.findIn K (.ref D) "__getattribute__"=some (some (.builtin "BaseException.__getattribute__"))
 gk:PySem.W.findIn K (.ref D) "__getattr__"=some none
 be:PySem.W.mroIn K D (.type "BaseException")=some true
 ob:PySem.W.mroIn K D (.type "object")=some true
 ca:PySem.W.findIn K (.ref D) "__class__"=some (some (.builtin "object.__class__"))
 cl:(PySem.W.clsIn K D).isSome=true
 sp:PySem.W.specialIn K (.builtin "object.__class__") "__get__"=some (some (.builtin "getset_descriptor.__get__"))
 tk:PySem.W.takesIn K (.builtin "object.__class__")=some true
theorem xget_check{M:Model}{nv:Value}{Q:Unit→Shared→Prop}(KX:K.In s.heap)(I:PySem.W.InstAt s.heap x ox D odo)(G:XGet K D)(q:Q () s):wpAny M A (checkBuiltinCall "BaseException.__getattribute__" ⟨[.ref x,nv],[]⟩) Q E s:=by
 have hk:builtinKind "BaseException.__getattribute__"=some .slot:=by decide +kernel
 have hs:splitId "BaseException.__getattribute__"=some ("BaseException","__getattribute__"):=by decide +kernel
 have ha:=F.args_bexc_ga (.ref x) nv
 obtain⟨hh,g,d,t,os⟩:=s
 have L0:=I.type (M:=M)
 have L1:=PySem.W.looks_mroIn (M:=M) KX G.be
 simp only[checkBuiltinCall,hk,hs]
 repeat lk
 exact q
theorem xget_entryB{nv:Tok}{gv a:Value}{Q:Fin→Shared→Prop}(KX:K.In s.heap)(I:PySem.W.InstAt s.heap x ox D odo)(hf:PySem.W.findObj K D odo name=some (.bind gv a))
 (q:wpAny (model prog w) A (Builtin.ObjectAttr.bindTo gv a (.ref x) (.ref D)) Q E s):
 wpAny (model prog w) A (Builtin.«object.__getattribute__» ⟨[.ref x,.str name nv],[]⟩) Q E s:=by
 obtain⟨hh,g,d,t,os⟩:=s
 have L0:=I.type (M:=model prog w)
 have L1:=PySem.W.looks_find (M:=model prog w) KX I hf
 refine wpAny_bind (wpAny_pure (wpAny_bind (wpAny_pure (wpAny_bind (L0.at (wpAny_bind (L1.at ?_)))))))
 exact q
theorem xget_by{nv:Tok}{fill expr:Bool}{Q:Value→Shared→Prop}(KX:K.In s.heap)(I:PySem.W.InstAt s.heap x ox D odo)(G:XGet K D)
 (h:wpAny (model prog w) A.in1 (Builtin.«object.__getattribute__» ⟨[.ref x,.str name nv],[]⟩) (fun fin s'=>match fin with | .done (.ret v)=>wpAny (model prog w) A (handedOut v) Q E s' | _=>False) (fun _ _=>False) s):
 wpAny (model prog w) A (getAttrBy (.ref x) (.str name nv) fill expr) Q E s:=by
 obtain⟨hh,g,d,t,os⟩:=s
 have L0:=I.type (M:=model prog w)
 have L1:=PySem.W.looks_findIn (M:=model prog w) KX G.ga
 have L2:=PySem.W.looks_findIn (M:=model prog w) KX G.gk
 have FX:=F.excAttr_ValueError
 unfold getAttrBy
 refine wpAny_holding (wpAny_bind (L0.at (wpAny_bind (L1.at ?_))))
 have e0:(Value.builtin "BaseException.__getattribute__"==Value.builtin "object.__getattribute__")=false:=by decide +kernel
 have e1:(onTheHeap (Value.ref D)&&Value.builtin "BaseException.__getattribute__"==Value.builtin "object.__getattribute__")=false:=by rw[e0];rfl
 dsimp only
 rw[e1,if_neg Bool.false_ne_true]
 unfold getAttrByItsOwn hookBefore
 refine wpAny_bind ?_
 rw[if_pos (show onTheHeap (Value.ref D)=true from rfl)]
 refine L2.at ?_
 refine wpAny_bind (wpAny_attempt (wpAny_holding ?_))
 unfold callGetattribute
 rw[if_neg (by cases expr<;>decide)]
 unfold boundAndCalled
 rw[FX.ga.bind (.ref x)]
 refine wpAny_bind (wpAny_pure ?_)
 refine wpAny_call (codeAny_call_builtin FX.ga.plain F.entry_bexc_ga (xget_check KX I G ?_))
 refine wpAny_mono h (fun fin s' z=>?_) (fun _ _ z=>z.elim)
 rcases fin with (_ | _ | _ | _) | _<;>first | exact z | exact z.elim
theorem xget_class{Q:Option Value→Shared→Prop}(KX:K.In s.heap)(I:PySem.W.InstAt s.heap x ox D odo)(G:XGet K D)(hf:PySem.W.findObj K D odo "__class__"=some (.bind (.builtin "getset_descriptor.__get__") (.builtin "object.__class__")))
 (q:Q (some (.ref D)) { s with toks:=s.toks+1 }):wpAny (model prog w) A (getAttr? (.ref x) "__class__") Q E s:=by
 unfold getAttr? getAttrBy?
 refine wpAny_bind (wpAny_mkText (wpAny_bind (wpAny_attempt (xget_by (s:={ s with toks:=s.toks+1 }) KX I G (xget_entryB (s:={ s with toks:=s.toks+1 }) KX I hf ?_)))))
 show wpAny _ _ (holding [_] (call (.builtin "getset_descriptor.__get__") [.builtin "object.__class__",.ref x,.ref D]) >>= ret) _ _ _
 refine wpAny_bind (wpAny_holding (wpAny_call (PySem.W.class_get (s:={ s with toks:=s.toks+1 }) KX I G.ob ?_)))
 refine wpAny_pure ?_
 show wpAny _ _ (handedOut _) _ _ _
 rw[PySem.W.handedOut_of rfl]
 exact wpAny_pure (wpAny_pure q)
theorem find_dataX{a g:Value}(hc:(PySem.W.clsIn K D).isSome=true)(ha:PySem.W.findIn K (.ref D) name=some (some a))(hg:PySem.W.specialIn K a "__get__"=some (some g))(ht:PySem.W.takesIn K a=some true):PySem.W.findObj K D odo name=some (.bind g a):=by
 obtain⟨cd,hcd⟩:=Option.isSome_iff_exists.mp hc
 unfold PySem.W.findObj
 rw[hcd,Option.bind_some,ha,Option.bind_some];simp[hg,ht]
theorem kitx_exc(G:XGet K D):PySem.W.KitX K (.ref x) (.ref D) (fun h=>∃ox odo,PySem.W.InstAt h x ox D odo) where
 ty:=fun _ _ _ ⟨ox,odo,I⟩=>I.type
 it:=fun M h KX _=>by
  have hc:=G.cl
  unfold PySem.W.clsIn at hc
  split at hc
  ·rename_i c' d' cd' sl' ho
   intro A' Q' E' s' k q
   unfold isType loadHead
   exact wpAny_bind (wpAny_loadPart (k _ _ (KX _ _ ho)) (wpAny_pure q))
  ·cases hc
 ne:=fun h tp dd its n sl KX htp=>by
  have hc:=G.cl
  refine Bool.eq_false_iff.mpr fun q=>?_
  have e:D=tp:=Value.ref.inj (beq_iff_eq.mp q)
  subst e
  unfold PySem.W.clsIn at hc
  split at hc
  ·rename_i c' d' cd' sl' ho
   have z:=(KX _ _ ho).symm.trans htp
   cases z
  ·cases hc
 ca:=fun{prog w A E Q s} KX ⟨ox,odo,I⟩ k=>xget_class KX I G (find_dataX G.cl G.ca G.sp G.tk) k
end
def clsV:V→Option Value
 | .ref c=>some (.ref c)
 | .ty n=>some (.type n)
 | _=>none
def XDict(H:Hp):Option Addr→Prop
 | none=>True
 | some d=>∃fs,H d=some (.xd fs)
def rIsiX(K:PySem.W.Frag):List V→Hp→VK→Prop:=fun xs H Q=>∃a cv C c b dx,xs=[.ref a,cv]∧H a=some (ExcO a (.ref C) dx)∧XDict H dx∧XGet K C∧clsV cv=some c∧PySem.W.kitOne K (.ref C) c=some b∧Q (.bl b) H
section
variable{X:Cx}
theorem call_isiX:CallR X (.builtin "isinstance") (rIsiX X.K):=by
 intro pins s σ H xs us Q I r h
 obtain⟨a,cv,C,c,b,dx,rfl,hH,hd,G,hc,e,q⟩:=h
 obtain⟨u,w',rfl,r1,r2⟩:=vals2 r
 cases (show u=Value.ref a from r1)
 have hw:w'=c:=by
  cases cv with
  | ref c'=>cases hc;exact r2
  | ty n=>cases hc;exact r2
  | _=>cases hc
 subst hw
 obtain⟨⟨vs,sl,ho⟩,_⟩:=(show ObjOk X.prog X.w H s.heap a (ExcO a (.ref C) dx) from I.hok a _ hH)
 have J:∃ox odo,PySem.W.InstAt s.heap a ox C odo:=by
  cases dx with
  | none=>exact⟨_,none,ho,rfl,rfl,trivial⟩
  | some d=>
   obtain⟨fs,hd⟩:=hd
   obtain⟨od,hod⟩:=(I.hok d _ hd).obj
   exact⟨_,some od,ho,rfl,rfl,hod⟩
 exact PySem.W.kia_one (kitx_exc G) I.kIn J e (fun z=>nomatch z) fun tk=>⟨.bl b,H,I.tok tk,rfl,q⟩
theorem rd_isiX{K:PySem.W.Frag}{a C:Addr}{cv:V}{c:Value}{b:Bool}{dx:Option Addr}{H:Hp}{Q:VK}(hH:H a=some (ExcO a (.ref C) dx))(hd:XDict H dx)(G:XGet K C)(hc:clsV cv=some c)(e:PySem.W.kitOne K (.ref C) c=some b)(q:Q (.bl b) H):rIsiX K [.ref a,cv] H Q:=
 ⟨a,cv,C,c,b,dx,rfl,hH,hd,G,hc,e,q⟩
end
end L2
set_option Elab.async false
set_option linter.all false
set_option maxRecDepth 100000
set_option maxHeartbeats 4000000
namespace L2
open PySem PySem.Spec PyProof.Rows
structure RoomN(k:Nat)(A:Around):Prop where
 dp:A.depth+3*k+5<recursionLimit
 un:A.units+16*k+200<cLine
 gd:A.guards=some []
theorem RoomN.mono{j k:Nat}{A:Around}(r:RoomN k A)(h:j≤k):RoomN j A:=⟨by have:=r.dp;omega,by have:=r.un;omega,r.gd⟩
theorem Room.toN{k:Nat}{A:Around}(r:Room k A):RoomN k A:=⟨r.dp,r.un,r.gd⟩
section
variable{P:Program}{w:World}{K:PySem.W.Frag}{mg:Str→Option Value}{base:Heap}
end
section
variable{X:Cx}
end
theorem has_cls{K:PySem.W.Frag}{C:Addr}(h:PySem.W.hasDictIn K C=true):(PySem.W.clsIn K C).isSome=true:=by
 obtain⟨cd,e,_⟩:=PySem.W.any_some h
 rw[e];rfl
theorem rel_ref(a:Addr):RelV (.ref a) (.ref a):=rfl
theorem rd_callE{sp:Sp}{EE:XE}{t:TA}{σ:St}{H:Hp}{Q:VK}(h:t σ H fun vs H1=>sp (vs++[]) H1 Q (fun c d H'=>EE c d σ H')):tCallE sp EE t σ H Q:=h
theorem rd_raise{C:Addr}{EE:XE}{ta:TA}{D:Ends}{σ:St}{H:Hp}(h:ta σ H fun vs H1=>vs.length≤sizeLine∧EE (.ref C) none σ H1):tRaise C EE ta D σ H:=h
theorem rd_try{tb:XE→TS}{th:TH}{D:Ends}{σ:St}{H:Hp}(h:tb (fun c d σ' H'=>∀ea,H' ea=none→th c d ea D σ' H') D σ H):tTry tb th D σ H:=h
theorem rd_handA{K:PySem.W.Frag}{C C':Addr}{i:Nat}{ts:Addr→TS}{tr:TH}{dx:Option Addr}{ea:Addr}{D:Ends}{σ:St}{H:Hp}(hm:PySem.W.mroIn K C' (.ref C)=some true)(h:ts ea (gone i D) (σ.set i (some (.ref ea))) (upd H ea (ExcO ea (.ref C') dx))):tHandAs K C i ts tr (.ref C') dx ea D σ H:=
 ⟨C',true,rfl,hm,by rw[if_pos rfl];exact h⟩
section
variable{X:Cx}
end
end L2
set_option Elab.async false
set_option linter.all false
set_option maxRecDepth 100000
set_option maxHeartbeats 4000000
namespace L2
open PySem PySem.Spec PyProof.Rows
section
variable{prog:Program}{w:World}{A:Around}{E:Value→Shared→Prop}{h:Heap}{g:Array GenState}{d:Drawn}{t:Nat}{os:OsState}{K:PySem.W.Frag}{f:Addr}
variable{nm q:Str}{C N:Addr}{bs bm:List Value}{hdct:Bool}{sn:List Str}{sub:List Value}{ab:Bool}{col:Option Bool}{dd:Option Addr}{k0 k1 k2 k3 k5:Option Value}
end
end L2
set_option Elab.async false
set_option linter.all false
set_option maxRecDepth 100000
set_option maxHeartbeats 4000000
namespace L2
open PySem PySem.Spec PyProof.Rows
section
variable{prog:Program}{w:World}{A:Around}{E:Value→Shared→Prop}{h:Heap}{g:Array GenState}{d:Drawn}{t:Nat}{os:OsState}{K:PySem.W.Frag}{e:Addr}
variable{nm q:Str}{C N:Addr}{bs bm:List Value}{hdct:Bool}{sn:List Str}{sub:List Value}{ab:Bool}{col:Option Bool}{dd:Option Addr}{k0 k1 k2 k3 k5:Option Value}{newId:String}
variable{x CF:Addr}{cd:ClassData}{name:Str}{v:Value}{vs:Array Value}{sl:Array (Option Value)}
end
end L2
set_option Elab.async false
set_option linter.all false
set_option maxRecDepth 100000
set_option maxHeartbeats 4000000
namespace L2
open PySem PySem.Spec PyProof.Rows
structure XOwn(K:PySem.W.Frag)(C CF:Addr):Prop where
 obj:∃dd cd k0 k1 k2 k3 k5,K.lookup C=some ⟨.type "type",dd,.cls cd,#[k0,k1,k2,k3,some (.builtin "ValueError.__new__"),k5]⟩∧cd.mro=.ref C::.ref CF::bmV∧cd.hasDel=false∧cd.hasDict=true
 base:PySem.W.excIn K CF bmV "ValueError.__new__"=true
 sa:PySem.W.findIn K (.ref C) "__setattr__"=some (some (.builtin "object.__setattr__"))
section
variable{K:PySem.W.Frag}{C CF:Addr}{h:Heap}
theorem XOwn.at(O:XOwn K C CF)(KX:K.In h):∃N nm qn bs hd sn sub ab col dd k0 k1 k2 k3 k5,h.get? C=some (excClassObj nm qn C N bs (.ref CF::bmV) hd sn sub ab col dd k0 k1 k2 k3 k5 "ValueError.__new__"):=by
 obtain⟨dd,cd,k0,k1,k2,k3,k5,e,m,hdel,hd⟩:=O.obj
 obtain⟨nm,bs,mro,ns,qn,hd,sn,sub,ab,col,del⟩:=cd
 dsimp only at m hdel
 subst m hdel
 exact⟨_,_,_,_,_,_,_,_,_,_,_,_,_,_,_,KX _ _ e⟩
end
section
variable{X:Cx}{pins:List (Addr×Obj)}{σ:St}{H:Hp}{s:Shared}{h':Heap}
variable{o value:Expr}{f:Str}{pos pos':Pos}{ta tv:TE}
end
section
variable{M:Model}{A:Around}{E:Value→Shared→Prop}
end
end L2
set_option Elab.async false
set_option linter.all false
set_option maxRecDepth 100000
set_option maxHeartbeats 4000000
namespace L2
open PySem PySem.Spec PyProof.Rows
section
variable{X:Cx}{EE:Value→Option Addr→St→Hp→Prop}
end
end L2
set_option Elab.async false
set_option linter.all false
set_option maxRecDepth 100000
set_option maxHeartbeats 4000000
namespace L2
open PySem PySem.Spec PyProof.Rows
def intT(i:Int):Str:=Str.ofString (toString i)
def shI(is:List Int):Str:=tupleText (is.map intT)
inductive FmtV(K:PySem.W.Frag)(H:Hp):V→Str→Prop
 | int {i:Int}:i.natAbs.log2<1920→FmtV K H (.int i) (intT i)
 | str {z:Str}:z.length≤sizeLine→FmtV K H (.str z) z
 | tup {a:Addr} {is:List Int}:SqT K H a (is.map V.int)→(∀i∈is,i.natAbs.log2<1920)→(shI is).length≤sizeLine→FmtV K H (.ref a) (shI is)
theorem shownAll_ints:∀is:List Int,PyData.shownAll (is.map PyData.int)=is.map intT
 | []=>by simp[PyData.shownAll]
 | i::is=>by simp only[List.map_cons,PyData.shownAll,PyData.shown,shownAll_ints is];rfl
theorem showableAll_ints:∀is:List Int,(∀i∈is,i.natAbs.log2<1920)→PyData.showableAll (is.map PyData.int)=true
 | [],_=>by simp[PyData.showableAll]
 | i::is,h=>by
  simp only[List.map_cons,PyData.showableAll,PyData.showable,showableAll_ints is fun j hj=>h j (List.mem_cons_of_mem _ hj),Bool.and_true,decide_eq_true_eq]
  exact h i (List.mem_cons_self ..)
theorem hasDictAll_ints:∀is:List Int,PyData.hasDictAll (is.map PyData.int)=false
 | []=>by simp[PyData.hasDictAll]
 | i::is=>by simp only[List.map_cons,PyData.hasDictAll,PyData.hasDict,hasDictAll_ints is,Bool.or_self]
theorem depthAll_ints:∀is:List Int,PyData.depthAll (is.map PyData.int)≤1
 | []=>by simp[PyData.depthAll]
 | i::is=>by
  have:=depthAll_ints is
  simp only[List.map_cons,PyData.depthAll,PyData.depth]
  omega
theorem readsAll_ints{h:Heap}:∀{is:List Int} {us:List Value},Vals (is.map V.int) us→ReadsAll h us (is.map PyData.int) []
 | [],_,.nil=>.nil
 | i::is,_,.cons r t=>by
  obtain⟨tk,rfl⟩:=(show ∃tk,_=Value.int i tk from r)
  exact .cons (as:=[]) (bs:=[]) (.int i tk) (readsAll_ints t)
section
variable{X:Cx}{pins:List (Addr×Obj)}{σ:St}{H:Hp}{s:Shared}
theorem fmt_ok{k:Nat}{x:V}{u:Value}{y:Str}{Q:VK}(hr:RoomN k X.A)(I:Inv X pins σ H s)(r:RelV x u)(f:FmtV X.K H x y)(q:Q (.str y) H):wpAny (model X.prog X.w) X.A (formatField u Str.empty) (EP X pins σ Q) X.xe s:=by
 cases f with
 | int h=>
  obtain⟨t,rfl⟩:=(show ∃t,u=Value.int _ t from r)
  exact wpAny_formatField_int h ⟨.str (intT _),H,I.tok _,⟨_,rfl⟩,q⟩
 | str h=>
  obtain⟨t,rfl⟩:=(show ∃t,u=Value.str y t from r)
  exact wpAny_formatField_str ⟨.str y,H,I,⟨_,rfl⟩,q⟩ ⟨.str y,H,I.tok _,⟨_,rfl⟩,q⟩ h
 | @tup a is hs hi hz=>
  cases (show u=Value.ref a from r)
  obtain⟨its,vr,⟨o,ho,hc,n,hd⟩,hl⟩:=I.tuple hs
  have rd:Reads s.heap (.ref a) (.tuple (is.map PyData.int)) []:=.tuple ho hc hd (readsAll_ints vr)
  have e:(PyData.tuple (is.map PyData.int)).shown=shI is:=by simp only[PyData.shown,shownAll_ints];rfl
  have hdp:(PyData.tuple (is.map PyData.int)).depth≤3:=by
   have:=depthAll_ints is
   simp only[PyData.depth]
   omega
  refine formatField_of_reads rd (by simp only[PyData.showable];exact showableAll_ints is hi) (PyData.noDict_hsm (by simp only[PyData.hasDict];exact hasDictAll_ints is)) hr.gd (by have:=hr.un;omega) (fun _ _ z=>z) (fun h' u tk hk=>?_) (by rw[e];exact hz)
  rw[e]
  exact⟨.str (shI is),H,I.kept hk,⟨_,rfl⟩,q⟩
end
def tFmt(K:PySem.W.Frag)(tv:TE):TE:=fun σ H Q=>tv σ H fun x H1=>∃y,FmtV K H1 x y∧Q (.str y) H1
abbrev TJ:=Str→St→Hp→VK→Prop
def PJ(X:Cx)(es:List Expr)(t:TJ):Prop:=∀(pins:List (Addr×Obj)) (s:Shared) (σ:St) (H:Hp) (out:Str) (Q:VK),Inv X pins σ H s→t out σ H Q→wpAny (model X.prog X.w) X.A (joinParts out (evalEach es X.env)) (EP X pins σ Q) X.xe s
def jNil:TJ:=fun out _ H Q=>out.length≤sizeLine∧Q (.str out) H
def jCons(te:TE)(t:TJ):TJ:=fun out σ H Q=>te σ H fun x H1=>∃y,x=.str y∧(out++y).length≤sizeLine∧t (out++y) σ H1 Q
def tJoin(t:TJ):TE:=fun σ H Q=>t Str.empty σ H Q
section
variable{X:Cx}{k:Nat}{e e₂:Expr}{es:List Expr}{te:TE}{t:TJ}{pos:Pos}
theorem pe_fmt(hr:RoomN k X.A)(h:PE X e te):PE X (.FormattedValue e (-1) none pos) (tFmt X.K te):=by
 intro pins s σ H Q I hw
 refine FormattedValue_plain (thn (h pins s σ H _ I hw) fun u s1 ⟨x,H1,I1,r,y,f,q⟩=>?_)
 exact fmt_ok hr I1 r f q
theorem pj_nil:PJ X [] jNil:=fun pins s σ H out Q I h=>joinParts_nil ⟨.str out,H,I.tok _,⟨_,rfl⟩,h.2⟩ h.1
theorem pj_cons(h1:PE X e te)(h2:PJ X es t):PJ X (e::es) (jCons te t):=by
 intro pins s σ H out Q I h
 show wpAny _ _ (joinParts out (eval e X.env::evalEach es X.env)) _ _ _
 refine joinParts_cons (thn (h1 pins s σ H _ I h) fun u s1 ⟨x,H1,I1,r,y,ex,hz,q⟩=>?_)
 subst ex
 obtain⟨tk,rfl⟩:=(show ∃tk,u=Value.str y tk from r)
 exact⟨hz,h2 pins s1 σ H1 (out++y) Q I1 q⟩
theorem pe_join(h:PJ X (e::e₂::es) t):PE X (.JoinedStr (e::e₂::es) pos) (tJoin t):=fun pins s σ H Q I hw=>JoinedStr_many (h pins s σ H Str.empty Q I hw)
end
section
variable{X:Cx}{e:Expr}{f:Str}{pos:Pos}{ta:TE}
end
end L2
set_option Elab.async false
set_option linter.all false
set_option maxRecDepth 100000
set_option maxHeartbeats 4000000
namespace L2
open PySem PySem.Spec PyProof.Rows
section
variable{X:Cx}{EE:Value→Option Addr→St→Hp→Prop}
structure CalM(P:Program)(w:World)(K:PySem.W.Frag)(mg:Str→Option Value)(base:Heap)(CX:CXT)(k:Nat)(C:Addr)(m:Str)(ps:List Str)(sp:Sp):Prop where
 ex:∃(f:Addr) (fd:FuncData),FnOk P w K mg base CX k f fd ps sp∧Binds K fd ps []∧Meth K C m f
structure CalI(P:Program)(w:World)(K:PySem.W.Frag)(mg:Str→Option Value)(base:Heap)(CX:CXT)(k:Nat)(x:Str)(C:Addr)(ps:List Str)(sp:Sp):Prop where
 ex:∃(f:Addr) (fd:FuncData),FnOk P w K mg base CX k f fd ps sp∧Binds K fd ps []∧Mk K C f∧mg x=some (.ref C)
variable{C:Addr}{m x:Str}{k:Nat}{ps:List Str}{sp:Sp}{o e:Expr}{es:List Expr}{ta:TE}{t:TA}{apos pos p:Pos}
theorem pe_mcal{pl:Sem Bool}(O:CalM X.prog X.w X.K X.mg X.base CX0 k C m ps sp)(c:Cls X.K C)(hr:Room k X.A)(he:PE X o ta)(ha:PA X (e::es) t)
 (hst:starEach (e::es) X.env=(false,eval e X.env)::starEach es X.env:=by rfl)(hpl:(backTo pos (starEach es X.env)).any (·.1)=false:=by rfl)
 (ht:eval (.Call (.Attribute o m apos) (e::es) [] pos) X.env=(do
  let ov ←eval o X.env
  standAt apos.atName
  let (f,first) ←holding [ov] (getMethod ov m pl)
  callWith pos f first (backTo pos (starEach (e::es) X.env)) (backToKw pos (keywordEach [] X.env))):=by rfl):
 PE X (.Call (.Attribute o m apos) (e::es) [] pos) (tMeth C m sp [] E0 ta t):=by
 obtain⟨f,fd,F,hb,M⟩:=O.ex
 exact pe_meth (pl:=pl) he c M F hr hb .nil pass0 ha hst hpl ht
theorem pe_mk(O:CalI X.prog X.w X.K X.mg X.base CX0 k x C ps sp)(hr:Room (k+1) X.A)(hg:Gl X x)(ha:PA X (e::es) t)
 (hdb:(x==("__debug__":Str))=false:=by decide)(he:starEach (e::es) X.env=(false,eval e X.env)::starEach es X.env:=by rfl)(hpl:(backTo pos (starEach es X.env)).any (·.1)=false:=by rfl):
 PE X (.Call (.Name x p) (e::es) [] pos) (tMake C sp [] E0 t):=by
 obtain⟨f,fd,F,hb,M,hm⟩:=O.ex
 exact pe_make M F hr hg hm hb .nil pass0 ha hdb he hpl
end
end L2
set_option Elab.async false
set_option linter.all false
set_option maxRecDepth 100000
set_option maxHeartbeats 4000000
namespace L2
open PySem PySem.Spec PyProof.Rows
theorem intT_len{i:Int}(h:i.natAbs.log2<1920):(intT i).length≤1921:=by
 have e:=int_text_length_le (k:=1920) (by decide) h
 unfold intT
 rw[PySem.ofString_length];omega
theorem fits{s:Str}{n:Nat}(h:s.length≤n)(hn:n≤100000):s.length≤sizeLine:=Nat.le_trans h (Nat.le_trans hn (by decide))
theorem rd_join{t:TJ}{σ:St}{H:Hp}{Q:VK}(h:t Str.empty σ H Q):tJoin t σ H Q:=h
theorem rd_jnil{out:Str}{σ:St}{H:Hp}{Q:VK}(h:out.length≤sizeLine)(q:Q (.str out) H):jNil out σ H Q:=⟨h,q⟩
theorem rd_jc{x:Str}{t:TJ}{out:Str}{σ:St}{H:Hp}{Q:VK}(n:Nat)(hn:out.length≤n)(hz:n+x.length≤100000)(h:(out++x).length≤n+x.length→t (out++x) σ H Q):jCons (tC (.str x)) t out σ H Q:=by
 have e:(out++x).length≤n+x.length:=by rw[strLen_append];omega
 exact⟨x,rfl,fits e hz,h e⟩
theorem rd_ji{K:PySem.W.Frag}{j:Nat}{i:Int}{t:TJ}{out:Str}{σ:St}{H:Hp}{Q:VK}(n:Nat)(hn:out.length≤n)(hz:n+1921≤100000)(hv:σ[j]?=some (some (.int i)))(hi:i.natAbs.log2<1920)(h:(out++intT i).length≤n+1921→t (out++intT i) σ H Q):
 jCons (tFmt K (tVar j)) t out σ H Q:=by
 have e:(out++intT i).length≤n+1921:=by have:=intT_len hi;rw[strLen_append];omega
 exact⟨.int i,hv,intT i,.int hi,intT i,rfl,fits e hz,h e⟩
theorem rd_js{K:PySem.W.Frag}{j:Nat}{z:Str}{t:TJ}{out:Str}{σ:St}{H:Hp}{Q:VK}(n m:Nat)(hn:out.length≤n)(hm:z.length≤m)(hz:n+m≤100000)(hv:σ[j]?=some (some (.str z)))(h:(out++z).length≤n+m→t (out++z) σ H Q):
 jCons (tFmt K (tVar j)) t out σ H Q:=by
 have e:(out++z).length≤n+m:=by rw[strLen_append];omega
 exact⟨.str z,hv,z,.str (fits hm (by omega)),z,rfl,fits e hz,h e⟩
end L2
set_option Elab.async false
set_option linter.all false
set_option maxRecDepth 100000
set_option maxHeartbeats 4000000
namespace L2
open PySem PySem.Spec PyProof.Rows
section
variable{X:Cx}
theorem thr_never:Thr X (fun _ _ _ _=>False) where
 call:=fun _ _ _ _ _ _ _ h=>by
  obtain⟨_,_,_,_,_,_,_,_,_,_,_,_,_,_,q⟩:=h
  exact q.elim
 made:=fun _ _ _ _ _ _ _ h=>by
  obtain⟨_,_,_,_,_,_,_,_,_,_,_,_,_,_,q⟩:=h
  exact q.elim
theorem rd_ifE{t:TT}{ta tb:TE}{σ:St}{H:Hp}{Q:VK}(h:t σ H fun c H1=>if c=true then ta σ H1 Q else tb σ H1 Q):tIf t ta tb σ H Q:=h
def rSum(K:PySem.W.Frag):List V→Hp→VK→Prop:=fun xs H Q=>∃(p:Addr) (ns:List Int),xs=[.ref p]∧SqL K H p (ns.map V.int)∧Q (.int ns.sum) H
theorem call_sum(hc:X.calm=true):CallR X (.builtin "sum") (rSum X.K):=by
 intro pins s σ H xs us Q I r h
 obtain⟨p,ns,rfl,hq,q⟩:=h
 obtain⟨u,rfl,ru⟩:=vals1 r
 cases (show u=Value.ref p from ru)
 obtain⟨its,rv,pl,_⟩:=I.list hq
 have hi:=intsAre_of rv
 obtain⟨xs,hx⟩:=hi.allInts.items
 have hl':s.heap.IsList p (intItems xs):=hx ▸ pl.isList
 refine sum_intListG (I.ok.hd hc) hl' fun h' tk t' hk=>?_
 have e1:ns=xs.toList.map (·.1):=by
  rw[←nums_intItems,←hx]
  exact(show numsOf its.toArray.toList=ns from hi.numsOf).symm
 have e2:preSum (numAt xs) xs.size=ns.sum:=by
  rw[preSum_eq,List.take_of_length_le (by simp),e1]
 rw[e2]
 exact⟨.int ns.sum,H,I.kept hk,⟨_,rfl⟩,q⟩
def rMinL(K:PySem.W.Frag):List V→Hp→VK→Prop:=fun xs H Q=>∃(p:Addr) (ns:List Int),xs=[.ref p]∧SqL K H p (ns.map V.int)∧ns≠[]∧∀m,m∈ns→(∀a∈ns,m≤a)→Q (.int m) H
def rMaxL(K:PySem.W.Frag):List V→Hp→VK→Prop:=fun xs H Q=>∃(p:Addr) (ns:List Int),xs=[.ref p]∧SqL K H p (ns.map V.int)∧ns≠[]∧∀m,m∈ns→(∀a∈ns,a≤m)→Q (.int m) H
theorem call_minL(hc:X.calm=true):CallR X (.builtin "min") (rMinL X.K):=by
 intro pins s σ H xs us Q I r h
 obtain⟨p,ns,rfl,hq,hne,q⟩:=h
 obtain⟨u,rfl,ru⟩:=vals1 r
 cases (show u=Value.ref p from ru)
 obtain⟨its,rv,pl,_⟩:=I.list hq
 have hi:=intsAre_of rv
 obtain⟨xs,e⟩:=hi.allInts.items
 have hns:ns=xs.toList.map (·.1):=by
  rw[←nums_intItems,←e]
  exact(show numsOf its.toArray.toList=ns from hi.numsOf).symm
 have hsz:0<xs.size:=by
  have h3:=List.length_pos_iff.mpr hne;rw[hns,List.length_map,Array.length_toList] at h3;exact h3
 have hl':s.heap.IsList p (intItems xs):=e ▸ pl.isList
 refine min_intList (I.ok.hd hc) hl' hsz fun v h' tk hv hk=>?_
 obtain⟨t,rfl⟩:=intItems_at hv
 obtain⟨h1,h2⟩:=argBest_lt (numAt xs) (xs.size-1)
 refine⟨.int _,H,I.kept hk,⟨_,rfl⟩,q _ ?_ fun a ha=>?_⟩
 ·rw[hns,numAt_eq];exact getD_mem (by rw[List.length_map,Array.length_toList];omega)
 ·rw[hns] at ha
  obtain⟨j,hj,rfl⟩:=mem_getD ha
  rw[List.length_map,Array.length_toList] at hj
  rw[←numAt_eq];exact h2 j (by omega)
theorem call_maxL(hc:X.calm=true):CallR X (.builtin "max") (rMaxL X.K):=by
 intro pins s σ H xs us Q I r h
 obtain⟨p,ns,rfl,hq,hne,q⟩:=h
 obtain⟨u,rfl,ru⟩:=vals1 r
 cases (show u=Value.ref p from ru)
 obtain⟨its,rv,pl,_⟩:=I.list hq
 have hi:=intsAre_of rv
 obtain⟨xs,e⟩:=hi.allInts.items
 have hns:ns=xs.toList.map (·.1):=by
  rw[←nums_intItems,←e]
  exact(show numsOf its.toArray.toList=ns from hi.numsOf).symm
 have hsz:0<xs.size:=by
  have h3:=List.length_pos_iff.mpr hne;rw[hns,List.length_map,Array.length_toList] at h3;exact h3
 have hl':s.heap.IsList p (intItems xs):=e ▸ pl.isList
 refine max_intList (I.ok.hd hc) hl' hsz fun v h' tk hv hk=>?_
 obtain⟨t,rfl⟩:=intItems_at hv
 obtain⟨h1,h2⟩:=argBest_gt (numAt xs) (xs.size-1)
 refine⟨.int _,H,I.kept hk,⟨_,rfl⟩,q _ ?_ fun a ha=>?_⟩
 ·rw[hns,numAt_eq];exact getD_mem (by rw[List.length_map,Array.length_toList];omega)
 ·rw[hns] at ha
  obtain⟨j,hj,rfl⟩:=mem_getD ha
  rw[List.length_map,Array.length_toList] at hj
  rw[←numAt_eq];exact h2 j (by omega)
end
section
variable{X:Cx}{M:List Str}{x:Str}{scope:Scope}{cl:List (Str×Addr)}{C:Addr}{s₀:Shared}{H₀:Hp}{fp:List Addr}
theorem ix_tup_c:IxR (compCx X M x scope cl C s₀ H₀ fp) (rIxT X.K):=ix_tup
end
theorem turn_long{P:Program}{w:World}{K:PySem.W.Frag}{tg:Expr}(it:Addr)(lo:Int)(n:Nat):Turn P w K tg (Itr lo n) [it] it (fun i h=>IsLongIter h it (lo+(i:Nat)*1) ((n:Int)-(i:Nat)) 1) where
 mem:=by simp
 obj:=fun i h st b hb=>by
  have e:b=it:=by simpa using hb
  subst e
  exact⟨_,st,fun v z=>by
   have z':Data.fields _=Data.cell v:=z
   cases z'⟩
 keep:=fun i h h' st k=>k it (by simp) _ st
 item:=by
  intro X hP hw hK hc i pins s σ H E I hf st hg
  subst hP hw hK
  obtain⟨f0,f1,f2,f3,f4,f5⟩:=hf it (by simp)
  have W:=Walks.longrange (prog:=X.prog) (w:=X.w) (I.ok.hd hc) it lo 1 n
  refine W.item i s _ _ hg st fun v h' tk hv st' kk=>?_
  obtain⟨t,rfl⟩:=hv
  have I1:Inv X pins σ H { s with heap:=h',toks:=tk }:=I.turned (fun b o hb e=>kk b o (by simpa using hb) e) f0 f1 f3 f4 f5
  refine⟨_,rfl,go_of (s:={ s with heap:=h',toks:=tk }) (n:="longrange_iterator") st' rfl rfl (by decide) ⟨.int (lo+i),H,I1,⟨t,?_⟩,⟨rfl,rfl⟩,st',fun b hb=>(hf b hb).1⟩⟩
  rw[Int.mul_one]
 done:=by
  intro X hP hw hK hc i pins s σ H E I hf st hg
  subst hP hw hK
  obtain⟨f0,f1,f2,f3,f4,f5⟩:=hf it (by simp)
  exact wpAny_pyNext_long_end (I.ok.hd hc) st (by have:n≤i:=hg;omega) fun h' eb=>⟨rfl,I.turned (t':=s.toks) (fun b o hb e=>eb b o hb e) f0 f1 f3 f4 f5⟩
 self:=fun _ _ _ _ _ st h=>wpAny_pyIter_longiter st h
section
variable{X:Cx}{tg:Expr}
theorem range_itA{pins:List (Addr×Obj)}{σ:St}{H:Hp}{s:Shared}{R:It→Hp→Prop}{E:Value→Shared→Prop}{lo hi:Int}{t u v:Tok}{tk:Nat}(I:Inv X pins σ H s)
 (q:R (Itr lo (hi-lo).toNat) H):wpAny (model X.prog X.w) X.A (pyIter (.ref s.heap.objs.size)) (PIE X pins σ tg R) E { s with heap:=s.heap.push { cls:=.type "range",data:=.fields #[.int lo t,.int hi u,.int 1 v] },toks:=tk }:=by
 have I1:Inv X pins σ H { s with heap:=s.heap.push { cls:=.type "range",data:=.fields #[.int lo t,.int hi u,.int 1 v] },toks:=tk }:=I.kept fun b o e=>Heap.get?_push_of_some _ e
 have e1:lo+((0:Nat):Int)*1=lo:=by simp
 have e2:(((hi-lo).toNat:Nat):Int)-((0:Nat):Int)=Builtin.Range.rangeSize lo hi 1:=by rw[rangeSize_one];split<;>omega
 cases hs:Builtin.Range.small lo hi 1 with
 | true=>
  refine wpAny_pyIter_range (IsRange.new ..) hs ?_
  refine⟨(s.heap.push { cls:=.type "range",data:=.fields #[.int lo t,.int hi u,.int 1 v] }).objs.size,[(s.heap.push { cls:=.type "range",data:=.fields #[.int lo t,.int hi u,.int 1 v] }).objs.size],_,_,H,rfl,
   I1.kept (t':=tk) fun b o e=>Heap.get?_push_of_some _ e,turn_range _ lo (hi-lo).toNat,?_,fun b hb=>?_,q⟩
  ·show IsRangeIter _ _ (lo+((0:Nat):Int)*1) ((((hi-lo).toNat:Nat):Int)-((0:Nat):Int)) 1
   rw[e1,e2]
   exact Heap.get?_push_size _ rfl
  ·have e:b=(s.heap.push { cls:=.type "range",data:=.fields #[.int lo t,.int hi u,.int 1 v] }).objs.size:=by simpa using hb
   subst e
   exact I1.fpOk (Nat.le_refl _) (I1.hok.fresh (Nat.le_refl _))
 | false=>
  refine wpAny_pyIter_longrange (IsRange.new ..) hs ?_
  refine⟨(s.heap.push { cls:=.type "range",data:=.fields #[.int lo t,.int hi u,.int 1 v] }).objs.size,[(s.heap.push { cls:=.type "range",data:=.fields #[.int lo t,.int hi u,.int 1 v] }).objs.size],_,_,H,rfl,
   I1.kept (t':=tk) fun b o e=>Heap.get?_push_of_some _ e,turn_long _ lo (hi-lo).toNat,?_,fun b hb=>?_,q⟩
  ·show IsLongIter _ _ (lo+((0:Nat):Int)*1) ((((hi-lo).toNat:Nat):Int)-((0:Nat):Int)) 1
   rw[e1,e2]
   exact Heap.get?_push_size _ rfl
  ·have e:b=(s.heap.push { cls:=.type "range",data:=.fields #[.int lo t,.int hi u,.int 1 v] }).objs.size:=by simpa using hb
   subst e
   exact I1.fpOk (Nat.le_refl _) (I1.hok.fresh (Nat.le_refl _))
def iRng2A(ta:TA):TI:=fun σ H R=>ta σ H fun vs H1=>∃i j:Int,vs=[.int i,.int j]∧R (Itr i (j-i).toNat) H1
theorem pi_range2A{a b:Expr}{ta:TA}{p pos:Pos}(hg:Gl X "range")(hm:X.mg "range"=none)(ha:PA X [a,b] ta)(hs:starEach [a,b] X.env=[(false,eval a X.env),(false,eval b X.env)]:=by rfl)(hs2:starEach [b] X.env=[(false,eval b X.env)]:=by rfl):
 PI X tg (.Call (.Name "range" p) [a,b] [] pos) (iRng2A ta):=by
 intro pins s σ H R I h
 refine Call_ (ld_blt I hg hm boot_range (PyProof.Rows.callWith_type1 (thn (ha pos pins s σ H _ I h) fun us s1 ⟨vs,H1,I1,r1,q1⟩=>?_) (by rw[hs,hs2]) (by rw[hs2];rfl)))
 obtain⟨i,j,e,q⟩:=q1
 subst e
 cases r1 with
 | cons r rr=>
  cases rr with
  | cons r' rr=>
   cases rr
   obtain⟨t,rfl⟩:=r
   obtain⟨t',rfl⟩:=r'
   exact call_range_2 (range_itA I1 q)
theorem rd_rng2A{ta:TA}{σ:St}{H:Hp}{R:It→Hp→Prop}(h:ta σ H fun vs H1=>∃i j:Int,vs=[.int i,.int j]∧R (Itr i (j-i).toNat) H1):iRng2A ta σ H R:=h
end
end L2
set_option Elab.async false
set_option linter.all false
set_option maxRecDepth 100000
set_option maxHeartbeats 4000000
namespace L2
open PySem PySem.Spec PyProof.Rows
section
variable{X:Cx}
end
theorem rd_bm{K:PySem.W.Frag}{T:String}{r:V→List V→Hp→VK→Prop}{to:TE}{t:TA}{σ:St}{H:Hp}{Q:VK}(h:to σ H fun x H1=>tyV K T x H1∧t σ H1 fun xs H2=>r x xs H2 Q):tBM K T r to t σ H Q:=h
theorem rd_gsub{to ti:TE}{t:TSet}{v:V}{σ:St}{H:Hp}{Q:St→Hp→Prop}(h:to σ H fun o H1=>ti σ H1 fun i H2=>t o i v H2 fun H3=>Q σ H3):gSub to ti t v σ H Q:=h
theorem ixN_nat{m k:Nat}(h:k<m):ixN m (k:Int)=some k:=by
 unfold ixN
 rw[if_pos (by omega),if_pos (by omega),Int.toNat_natCast]
theorem rd_setL{p:Addr}{xs:List V}{k:Nat}{v:V}{H:Hp}{Q:Hp→Prop}(h:H p=some (.lst xs))(hk:k<xs.length)(q:Q (upd H p (.lst (xs.set k v)))):rSetL (.ref p) (.int (k:Int)) v H Q:=
 ⟨p,xs,k,k,rfl,rfl,h,ixN_nat hk,q⟩
theorem rd_rep{l:Addr}{k:Int}{xs:List V}{H:Hp}{Q:VK}(h:H l=some (.lst xs))(h0:0≤k)(h1:k<2^60)(hz:xs.length*k.toNat≤sizeLine)(q:∀p,H p=none→Q (.ref p) (upd H p (.lst (List.replicate k.toNat xs).flatten))):rRep (.ref l) (.int k) H Q:=
 ⟨l,k,xs,rfl,rfl,h,by omega,by omega,hz,q⟩
theorem rd_cat{l b:Addr}{xs zs:List V}{H:Hp}{Q:VK}(h:H l=some (.lst xs))(g:H b=some (.lst zs))(hz:xs.length+zs.length≤sizeLine)(q:∀p,H p=none→Q (.ref p) (upd H p (.lst (xs++zs)))):rCat (.ref l) (.ref b) H Q:=
 ⟨l,b,xs,zs,rfl,rfl,h,g,hz,q⟩
section
variable{X:Cx}{M:List Str}{x:Str}{scope:Scope}{cl:List (Str×Addr)}{C:Addr}{s₀:Shared}{H₀:Hp}{fp:List Addr}
end
end L2
set_option Elab.async false
set_option linter.all false
set_option maxRecDepth 100000
set_option maxHeartbeats 4000000
namespace L2
open PySem PySem.Spec PyProof.Rows
theorem rd_slice{r:V→Option Int→Option Int→Hp→VK→Prop}{te:TE}{tl th:TO}{σ:St}{H:Hp}{Q:VK}(h:te σ H fun x H1=>tl σ H1 fun l H2=>th σ H2 fun u H3=>r x l u H3 Q):tSl r te tl th σ H Q:=h
theorem rd_slL{K:PySem.W.Frag}{a:Addr}{xs:List V}{lo hi:Option Int}{H:Hp}{Q:VK}(h:SqL K H a xs)(q:∀p,H p=none→Q (.ref p) (upd H p (.lst (cutV xs lo hi)))):rSlL K (.ref a) lo hi H Q:=⟨a,xs,rfl,h,q⟩
theorem rd_part{t:TE}{σ:St}{H:Hp}{Q:Option Int→Hp→Prop}(h:t σ H fun x H1=>∃i,x=.int i∧Q (some i) H1):tPart t σ H Q:=h
theorem rd_exI{i:Int}{P:Int→Prop}(h:P i):∃j,V.int i=.int j∧P j:=⟨i,rfl,h⟩
theorem rd_noPart{σ:St}{H:Hp}{Q:Option Int→Hp→Prop}(h:Q none H):tNoPart σ H Q:=h
end L2
set_option Elab.async false
set_option linter.all false
set_option maxRecDepth 100000
set_option maxHeartbeats 4000000
namespace L2
open PySem PySem.Spec PyProof.Rows
section
variable{X:Cx}
theorem vals_of_itemsS{lo c:Int}:∀(acc:List Value) (k:Nat),(∀(j:Nat) (v:Value),acc[j]?=some v→∃t,v=.int (lo+((k+j:Nat):Int)*c) t)→Vals ((List.range' k acc.length).map fun(i:Nat)=>V.int (lo+(i:Int)*c)) acc
 | [],k,_=>.nil
 | v::acc,k,h=>by
  rw[List.length_cons,List.range'_succ,List.map_cons]
  refine .cons ?_ (vals_of_itemsS acc (k+1) fun j u hu=>?_)
  ·obtain⟨t,ht⟩:=h 0 v (by simp)
   exact⟨t,by rw[ht];simp⟩
  ·obtain⟨t,ht⟩:=h (j+1) u (by simpa using hu)
   exact⟨t,by rw[ht,show k+(j+1)=k+1+j by omega]⟩
end
end L2
set_option Elab.async false
set_option linter.all false
set_option maxRecDepth 100000
set_option maxHeartbeats 4000000
namespace L2
open PySem PySem.Spec PyProof.Rows
theorem comp_inv{J:It}{ok:Hp→Prop}{xs:List V}{σ:St}{H:Hp}{Q:VK}{tt:TT}{te:TE}(Wk:Walk J ok xs)(hz:xs.length<sizeLine)(Pv:Addr→Nat→List V→Hp→Prop)
 (h0:∀D,H D=none→Pv D 0 [] (upd H D (.lst [])))
 (hD:∀D i ys H2,H D=none→Pv D i ys H2→H2 D=some (.lst ys)∧ys.length≤i∧ok H2)
 (hs:∀D i x ys H2,H D=none→xs[i]?=some x→Pv D i ys H2→tt (some x::σ) H2 fun b H4=>if b=true then te (some x::σ) H4 fun y H5=>H5 D=some (.lst ys)∧Pv D (i+1) (ys++[y]) (upd H5 D (.lst (ys++[y]))) else Pv D (i+1) ys H4)
 (h:∀D ys H2,H D=none→Pv D xs.length ys H2→Q (.ref D) H2):CompR tt te σ Q J H:=by
 intro D hD0
 refine⟨fun i m ys H2=>i≤xs.length∧m=xs.length-i∧Pv D i ys H2,⟨_,Nat.zero_le _,rfl,h0 D hD0⟩,?_⟩
 rintro i m ys H2 ⟨hi,rfl,p⟩
 obtain⟨d1,d2,d3⟩:=hD D i ys H2 hD0 p
 refine⟨d1,?_⟩
 by_cases hlt:i<xs.length
 ·refine .inr ⟨Wk.go i _ d3 hlt,by omega,xs.length-(i+1),by omega,fun x H3 hy=>?_⟩
  obtain⟨e3,ex⟩:=Wk.yld i _ x H3 d3 hy hlt
  subst e3
  have:=hs D i x ys H3 hD0 ex p
  refine cast ?_ this
  congr 1
  funext b H4
  cases b with
  | false=>simp only[Bool.false_eq_true,if_false];exact propext ⟨fun z=>⟨hlt,trivial,z⟩,fun z=>z.2.2⟩
  | true=>
   simp only[if_true]
   congr 1
   funext y H5
   exact propext ⟨fun z=>⟨z.1,hlt,trivial,z.2⟩,fun z=>⟨z.1,z.2.2.2⟩⟩
 ·have e:i=xs.length:=by omega
  subst e
  exact .inl ⟨Wk.stop _ _ d3 (Nat.le_refl _),h D ys H2 hD0 p⟩
end L2
set_option Elab.async false
set_option linter.all false
set_option maxRecDepth 100000
set_option maxHeartbeats 4000000
namespace L2
open PySem PySem.Spec PyProof.Rows
def compCxT(X:Cx)(M:List Str)(xs:List Str)(scope:Scope)(cl:List (Str×Addr))(C:Addr)(s₀:Shared)(H₀:Hp)(fp:List Addr):Cx:=
 { X with N:=xs++M,s₀:=s₀,H₀:=H₀,env:=compEnvC scope cl C X.env,outer:=X.stack,ex:=fp,fn:=fun _=>false,pn:=[],xe:=fun _ _=>False }
structure CompOkT(X:Cx)(M:List Str)(xs:List Str)(scope:Scope)(cl:List (Str×Addr)):Prop where
 clos:closureFor scope X.env=pure cl
 cell:∀y∈scope.names,y.2≠.cell
 kind:scope.kind=.function
 names:∀y∈scope.names,y.2=.local→scope.names.lookup y.1=some .local
 xl:∀x∈xs,scope.names.lookup x=some .local
 nd:(xs++M).Nodup
 len:M.length=X.N.length
 sub:∀y c,cl.lookup y=some c→X.env.cells.lookup y=some c
 has:∀y,((relabel scope X.env).names.lookup y=some .cell∨(relabel scope X.env).names.lookup y=some .free)→∃c,cl.lookup y=some c
 vis:∀(i:Nat) (y:Str),M[i]?=some y→Vis (relabel scope X.env) y→X.N[i]?=some y∧((relabel scope X.env).names.lookup y=some .cell∨(relabel scope X.env).names.lookup y=some .free)∧(X.env.scope.names.lookup y=some .cell∨X.env.scope.names.lookup y=some .free)
section
variable{X:Cx}
theorem comp_okT{M:List Str}{pins:List (Addr×Obj)}{σ:St}{H:Hp}{s:Shared}{xs:List Str}{scope:Scope}{cl:List (Str×Addr)}{C:Addr}{fp:List Addr}(I:Inv X pins σ H s)(ok:CompOkT X M xs scope cl)(hC:s.heap.objs.size≤C)
 (hf:∀b∈fp,FpOk X pins H b)(hb:∀b∈fp,b<s.heap.objs.size):(compCxT X M xs scope cl C s H fp).Ok where
 mod:=I.ok.mod
 kind:=ok.kind
 glob:=I.ok.glob
 blt:=I.ok.blt
 above:=hC
 inj:=fun y z c h1 h2=>I.ok.inj y z c (ok.sub y c h1) (ok.sub z c h2)
 has:=ok.has
 cab:=fun y c h=>by cases h
 hd:=I.ok.hd
 frames:=I.ok.frames
 stk:=.inl rfl
 exf:=fun b h=>⟨Nat.ne_of_lt (Nat.lt_of_lt_of_le (hb b h) hC),fun y c e=>(hf b h).2.2.2.2.1 y c (ok.sub y c e)⟩
 bs:=I.bs
 bsz:=Nat.le_trans I.ok.bsz I.sz
 noex:=fun b o e h=>by
  rcases(hf b h).2.2.2.1 with z | z
  ·exact I.ok.noex b o e z
  ·exact absurd (Nat.lt_of_lt_of_le (Heap.lt_size (I.ok.bs b o e).1) z) (Nat.lt_irrefl _)
 exfs:=fun b h z=>by
  rcases List.mem_cons.mp (I.stkSub b z) with e | e
  ·exact(hf b h).2.1 e
  ·exact(hf b h).2.2.1 e
 funs:=I.stack
 frf:=I.stkFree
def CompRT(k:Nat)(g:TG)(tt:TT)(te:TE)(σ:St)(Q:VK):It→Hp→Prop:=fun J H1=>∀D,H1 D=none→∃W:Nat→Nat→List V→Hp→Prop,(∃m,W 0 m [] (upd H1 D (.lst [])))∧
 ∀i m ys H2,W i m ys H2→H2 D=some (.lst ys)∧((J.stop i H2∧Q (.ref D) H2)∨(J.go i H2∧ys.length<sizeLine∧∃m',m'<m∧∀x H3,J.yld i H2 x H3→∀ρ:St,ρ.length=k→
  g x (ρ++σ) H3 fun σ2 H4=>∃ρ2:St,ρ2.length=k∧σ2=ρ2++σ∧tt σ2 H4 fun b H5=>if b=true then te σ2 H5 fun y H6=>H6 D=some (.lst ys)∧W (i+1) m' (ys++[y]) (upd H6 D (.lst (ys++[y]))) else W (i+1) m' ys H5))
def tCompT(k:Nat)(wi:TI)(g:TG)(tt:TT)(te:TE):TE:=fun σ H Q=>wi σ H (CompRT k g tt te σ Q)
section
variable{prog:Program}{w:World}{A:Around}{R:Result→Shared→Prop}
abbrev NB(prog:Program)(w:World)(A:Around)(env:Env)(R:Result→Shared→Prop):Value→Shared→Prop:=notedBy (model prog w) A env fun e s'=>R (.error e) s'
theorem comp_turns{s:Shared}{elt tg iter:Expr}{ifs:List Expr}{scope:Scope}{pos:Pos}{it acc:Value}{env:Env}(I:Nat→Shared→Prop)
 (turn:∀n s,I n s→wpAny (model prog w) A (pyNext it)
  (fun r s1=>match r with
   | none=>R (.ok .next) s1
   | some v=>wpAny (model prog w) A (letOwnedTupleGo tg it v)
    (fun _ s2=>wpAny (model prog w) A (assign tg env v)
     (fun _ s3=>wpAny (model prog w) A (forIn ifs true fun c r=>if r=true then (isTrue c env (eval c env) >>= fun ok=>pure (ForInStep.yield ok)) else pure (ForInStep.yield r))
      (fun b s4=>if b=true then wpAny (model prog w) A (eval elt env)
       (fun x s5=>wpAny (model prog w) A (call (.builtin "list.append") [acc,x]) (fun _ s6=>∃m,m<n∧I m s6) (NB prog w A env R) s5) (NB prog w A env R) s4
       else ∃m,m<n∧I m s4) (NB prog w A env R) s3) (NB prog w A env R) s2) (NB prog w A env R) s1) (NB prog w A env R) s)
 (n:Nat)(h:I n s):codeAny (model prog w) A (.compLoop (.ListComp elt [⟨tg,iter,ifs,0⟩] scope pos) 0 it acc env) R s:=by
 refine codeAny_loop rfl I (fun n s hI=>?_) n h
 refine(show wpAny _ A ((compTurn (.ListComp elt [⟨tg,iter,ifs,0⟩] scope pos) 0 it acc env).onRaise _) _ _ s from wpAny_noted ?_)
 rw[compTurn_list]
 refine wpAny_bind (wpAny_standAt (wpAny_bind (wpAny_mono (turn n s hI) (fun r s1 h1=>?_) fun _ _ z=>z)))
 cases r with
 | none=>exact wpAny_pure h1
 | some v=>
  refine wpAny_bind (wpAny_mono h1 (fun _ s2 h2=>?_) fun _ _ z=>z)
  refine wpAny_bind (wpAny_mono h2 (fun _ s3 h3=>wpAny_bind (wpAny_mono h3 (fun b s4 h4=>?_) fun _ _ z=>z)) fun _ _ z=>z)
  cases b with
  | false=>exact wpAny_pure ⟨rfl,h4⟩
  | true=>
   refine wpAny_bind (wpAny_bind (wpAny_mono h4 (fun x s5 h5=>?_) fun _ _ z=>z))
   exact wpAny_bind (wpAny_mono h5 (fun _ s6 h6=>wpAny_pure (wpAny_pure ⟨rfl,h6⟩)) fun _ _ z=>z)
end
theorem comp_coreT{M:List Str}{elt iter tg:Expr}{xs:List Str}{pos:Pos}{ifs:List Expr}{scope:Scope}{cl:List (Str×Addr)}{g:TG}{tt:TT}{te:TE}(hc:X.calm=true)(ok:CompOkT X M xs scope cl)
 (ht:∀C s₀ H₀ fp,PIfs (compCxT X M xs scope cl C s₀ H₀ fp) ifs tt)(hg:∀C s₀ H₀ fp,PG (compCxT X M xs scope cl C s₀ H₀ fp) tg g)(he:∀C s₀ H₀ fp,PE (compCxT X M xs scope cl C s₀ H₀ fp) elt te)
 {pins:List (Addr×Obj)}{σ:St}{H2:Hp}{s2:Shared}{it:Addr}{fp:List Addr}{tn:Nat→Heap→Prop}{J:It}{Q:VK}(I2:Inv X pins σ H2 s2)(T:Turn X.prog X.w X.K tg J fp it tn)(st2:tn 0 s2.heap)(f2:∀b∈fp,FpOk X pins H2 b)
 (hW:CompRT xs.length g tt te σ Q J H2)(post:Value→Addr→Result→Shared→Prop)
 (fin:∀D C H3 s4,Inv X pins σ H3 s4→(∃m,s4.heap.Ns C m)→FpOk X pins H3 C→Q (.ref D) H3→post (.ref D) C (.ok .next) s4):
 wpAny (model X.prog X.w) X.A (newList []) (fun acc s₃=>wpAny (model X.prog X.w) X.A (newFunctionEnv scope X.env.globals cl [] X.env.qual none .none (some X.env)) (fun cenv s₄=>
  codeAny (model X.prog X.w) X.A (.compStart (.ListComp elt [⟨tg,iter,ifs,0⟩] scope pos) 0 (.ref it) acc { cenv with scope:=relabel scope X.env }) (post acc cenv.locals) s₄) X.xe s₃) X.xe s2:=by
 refine wpAny_newObj_type (wpAny_newFunctionEnv ok.cell (by intro y hy;simp at hy) (fun h₁ hns₁ hsb₁=>?_) ok.kind)
 dsimp only at hns₁ hsb₁ ⊢
 generalize hH2:s2.heap.push { cls:=.type "list",dict:=none,data:=.seq ([]:List Value).toArray }=G2 at hns₁ hsb₁ ⊢
 have hC:G2.objs.size=s2.heap.objs.size+1:=by rw[←hH2,Heap.size_push]
 have hDC:s2.heap.objs.size≠G2.objs.size:=by rw[hC];exact Nat.ne_of_lt (Nat.lt_succ_self _)
 have hCle:s2.heap.objs.size≤G2.objs.size:=by rw[hC];exact Nat.le_succ _
 have below:∀b,b<s2.heap.objs.size→b≠G2.objs.size∧b≠s2.heap.objs.size:=fun b hb=>⟨by rw[hC];exact Nat.ne_of_lt (Nat.lt_succ_of_lt hb),Nat.ne_of_lt hb⟩
 have old:∀b o,s2.heap.get? b=some o→h₁.get? b=some o:=fun b o e=>hsb₁.extBut b o (below b (Heap.lt_size e)).1 (Heap.get?_push_of_some _ (hH2 ▸ Heap.get?_push_of_some _ e))
 have hacc:h₁.get? s2.heap.objs.size=some { cls:=.type "list",data:=.seq ([]:List Value).toArray }:=hsb₁.extBut _ _ hDC (Heap.get?_push_of_some _ (hH2 ▸ Heap.get?_push_size _ rfl))
 have fpb:∀b∈fp,b<s2.heap.objs.size:=fun b hb=>by
  obtain⟨o,e,_⟩:=T.obj _ _ st2 b hb
  exact Heap.lt_size e
 have hD0:H2 s2.heap.objs.size=none:=I2.hok.fresh (Nat.le_refl _)
 have hC0:H2 G2.objs.size=none:=I2.hok.fresh hCle
 generalize hDD:s2.heap.objs.size=D at*
 generalize hCC:G2.objs.size=C at*
 obtain⟨W,⟨m0,w0⟩,turn⟩:=hW D hD0
 have okX:(compCxT X M xs scope cl C s2 H2 fp).Ok:=comp_okT I2 ok (by rw[hDD];exact hCle) f2 (by rw[hDD];exact fpb)
 have lenN:(List.replicate xs.length none++σ:St).length=(compCxT X M xs scope cl C s2 H2 fp).N.length:=by
  show(List.replicate xs.length none++σ).length=(xs++M).length
  rw[List.length_append,List.length_append,List.length_replicate,I2.len,ok.len]
 have locs:∀(h':Heap) (m:Str→Option Value),(∀y c,X.env.cells.lookup y=some c→∀v,s2.heap.IsCell c v→h'.IsCell c v)→
  ∀(j:Nat) (y:Str) (v:V),(xs++M)[j]?=some y→(List.replicate xs.length none++σ:St)[j]?=some (some v)→Vis (relabel scope X.env) y→∃u,RelV v u∧Look (compEnvC scope cl C X.env) h' m y u:=by
  intro h' m hcell j y v e1 e2 e3
  rcases Nat.lt_or_ge j xs.length with jl | jl
  ·rw[List.getElem?_append_left (by rw[List.length_replicate];exact jl),List.getElem?_replicate,if_pos jl] at e2
   cases e2
  ·obtain⟨i,rfl⟩:∃i,j=xs.length+i:=⟨j-xs.length,by omega⟩
   have e0:M[i]?=some y:=by
    rw[List.getElem?_append_right (Nat.le_add_right _ _),Nat.add_sub_cancel_left] at e1
    exact e1
   have e2':σ[i]?=some (some v):=by
    rw[List.getElem?_append_right (by rw[List.length_replicate];exact Nat.le_add_right _ _),List.length_replicate,Nat.add_sub_cancel_left] at e2
    exact e2
   obtain⟨e1',k1,k2⟩:=ok.vis i y e0 e3
   obtain⟨m2,_,hl⟩:=I2.loc
   obtain⟨u,r,l⟩:=hl i y v e1' e2' (k2.elim (fun z=>.inr (.inl z)) fun z=>.inr (.inr z))
   obtain⟨c',hc'⟩:=ok.has y k1
   rcases l with ⟨z,_⟩ | ⟨_,c,hcc,z⟩
   ·have z':X.env.scope.names.lookup y=some .local:=z
    rcases k2 with q | q<;>(rw [q] at z';cases z')
   ·have q:=ok.sub y c' hc'
    rw[hcc] at q
    cases q
    exact⟨u,r,.inr ⟨k1,c',hc',hcell y c' hcc _ z⟩⟩
 have I0:Inv (compCxT X M xs scope cl C s2 H2 fp) [] (List.replicate xs.length none++σ) (upd H2 D (.lst [])) { s2 with heap:=h₁,toks:=s2.toks+([]:List (Str×Value)).length }:=by
  refine⟨okX,rfl,I2.bare,?_,⟨_,hns₁,locs h₁ _ (fun y c e v z=>?_)⟩,fun y c e=>?_,?_,fun y c e=>?_,fun p hp=>?_,?_,lenN⟩
  ·exact Un.laid old (Nat.le_of_eq hDD) hD0
  ·obtain⟨o,ho,hd⟩:=z
   exact⟨o,old c o ho,hd⟩
  ·obtain⟨v,o,ho,hd⟩:=I2.cell y c (ok.sub y c e)
   exact⟨v,o,old c o ho,hd⟩
  ·show upd H2 D (.lst []) C=none
   rw[upd_ne (Ne.symm hDC)]
   exact hC0
  ·have hn:=I2.freeC y c (ok.sub y c e)
   obtain⟨v,o,ho,hd⟩:=I2.cell y c (ok.sub y c e)
   rw[upd_ne (fun z=>by have:=Heap.lt_size ho;rw[hDD,z] at this;exact Nat.lt_irrefl _ this)]
   exact hn
  ·exact absurd hp (by show p∉([]++[]:List (Addr×Obj));simp)
  ·refine I2.hok.laid old (Nat.le_of_eq hDD) ⟨Nat.zero_le _,[],_,.nil,hacc⟩
 have fpk:∀{H':Hp},(∀b∈fp,H' b=none)→∀b∈fp,FpOk (compCxT X M xs scope cl C s2 H2 fp) [] H' b:=fun hn b hb=>by
  refine⟨hn b hb,(below b (fpb b hb)).1,okX.exfs b hb,.inl hb,fun y c e=>(f2 b hb).2.2.2.2.1 y c (ok.sub y c e),fun p hp=>?_⟩
  exact absurd hp (by show p∉([]++[]:List (Addr×Obj));simp)
 have loop:∀s₃:Shared,s₃={ s2 with heap:=h₁,toks:=s2.toks+([]:List (Str×Value)).length }→
  codeAny (model X.prog X.w) X.A (.compLoop (.ListComp elt [⟨tg,iter,ifs,0⟩] scope pos) 0 (.ref it) (.ref D) (compEnvC scope cl C X.env))
   (post (.ref D) C) s₃:=by
  rintro s₃ rfl
  refine comp_turns (fun n s'=>∃i ys w' H',w'.length=xs.length∧Inv (compCxT X M xs scope cl C s2 H2 fp) [] (w'++σ) H' s'∧tn i s'.heap∧(∀b∈fp,H' b=none)∧W i n ys H') ?_ m0
   ⟨0,[],List.replicate xs.length none,_,List.length_replicate,I0,T.keep _ _ _ st2 (fun b _ o e=>old b o e),fun b hb=>by rw[upd_ne (below b (fpb b hb)).2];exact(f2 b hb).1,w0⟩
  rintro n s3 ⟨i,ys,w3,H3,l3,I3,st3,fr3,wt⟩
  obtain⟨hD3,hh⟩:=turn i n ys H3 wt
  rcases hh with ⟨stop,q⟩ | ⟨go,hlen,m',hm,step⟩
  ·refine thn (T.done (compCxT X M xs scope cl C s2 H2 fp) rfl rfl rfl hc i [] s3 (w3++σ) H3 _ I3 (fpk fr3) st3 stop) fun r s4 ⟨hr,I4⟩=>?_
   subst hr
   obtain⟨m4,hn4,_⟩:=id I4.loc
   have hC4:H3 C=none:=I4.free
   exact fin D C H3 s4 (I2.call' (ch:=fp) I4.os I4.base I4.hok I4.bare fun b hb=>⟨(f2 b hb).2.2.2.1,(f2 b hb).2.1,(f2 b hb).2.2.2.2.1,(f2 b hb).2.2.2.2.2⟩) ⟨m4,hn4⟩ (I2.fpOk (by rw[hDD];exact hCle) hC4) q
  ·refine wpAny_mono (T.item (compCxT X M xs scope cl C s2 H2 fp) rfl rfl rfl hc i [] s3 (w3++σ) H3 (fun _ _=>False) I3 (fpk fr3) st3 go) (fun r s4 h4=>?_) (fun _ _ z=>z.elim)
   obtain⟨u,hr,h4⟩:=h4
   subst hr
   refine wpAny_mono h4 (fun _ s4 h4=>?_) (fun _ _ z=>z.elim)
   obtain⟨x',H5,I5,r5,y5,st5,fr5⟩:=h4
   have I5':=I5.pinned (fpk fr5) (T.obj _ _ st5)
   refine wpAny_mono (hg C s2 H2 fp _ s4 _ H5 x' u _ I5' r5 (step x' H5 y5 w3 l3)) (fun _ s6 h6=>?_) (fun _ _ z=>z.elim)
   obtain⟨σ6,H6,I6,w6,l6,rfl,q6⟩:=h6
   have back:∀{s7:Shared} {H7:Hp} {w7:St},Inv (compCxT X M xs scope cl C s2 H2 fp) ([]++pinsAt fp s4.heap) (w7++σ) H7 s7→tn (i+1) s7.heap∧(∀b∈fp,H7 b=none)∧Inv (compCxT X M xs scope cl C s2 H2 fp) [] (w7++σ) H7 s7:=fun{s7 H7 w7} I7=>by
    refine⟨T.keep _ _ _ st5 fun b hb o e=>(I7.pin (b,o) (List.mem_append_right _ (List.mem_append_right _ (mem_pinsAt hb e)))).1,fun b hb=>?_,I7.unpinned⟩
    obtain⟨o,e,d⟩:=T.obj _ _ st5 b hb
    exact(I7.pin (b,o) (List.mem_append_right _ (List.mem_append_right _ (mem_pinsAt hb e)))).2.1
   refine wpAny_mono (ht C s2 H2 fp _ s6 _ H6 _ I6 q6) (fun ok' s7 h7=>?_) (fun _ _ z=>z.elim)
   obtain⟨H7,I7,q7⟩:=h7
   cases ok' with
   | false=>
    have q7':W (i+1) m' ys H7:=by simpa using q7
    rw[if_neg Bool.false_ne_true]
    obtain⟨b1,b2,b3⟩:=back I7
    exact⟨m',hm,i+1,ys,_,H7,l6,b3,b1,b2,q7'⟩
   | true=>
    rw[if_pos rfl] at q7 ⊢
    refine wpAny_mono (he C s2 H2 fp _ s7 _ H7 _ I7 q7) (fun y s8 h8=>?_) (fun _ _ z=>z.elim)
    obtain⟨v8,H8,I8,r8,hD8,w8⟩:=h8
    refine wpAny_mono (mt_append (X:=compCxT X M xs scope cl C s2 H2 fp) _ s8 _ H8 (.ref D) [v8] (.ref D) [y] (fun _ H9=>H9=upd H8 D (.lst (ys++[v8]))) I8 rfl (.cons r8 .nil) ⟨D,ys,v8,rfl,rfl,hD8,hlen,rfl⟩) (fun _ s9 h9=>?_) (fun _ _ z=>z.elim)
    obtain⟨v9,H9,I9,_,e9⟩:=h9
    subst e9
    obtain⟨b1,b2,b3⟩:=back I9
    exact⟨m',hm,i+1,_,_,_,l6,b3,b1,b2,w8⟩
 exact codeAny_compStart_list (loop _ rfl) (T.self _ 0 _ _ _ (T.keep _ _ _ st2 (fun b _ o e=>old b o e)) (loop _ rfl))
theorem compOkT_freeM{scope:Scope}{cl:List (Str×Addr)}(xs M N:List Str)(hl:M.length=N.length)(hN:X.N=N)(clos:closureFor scope X.env=pure cl)(hc:(scope.names.all fun y=>y.2 != .cell)=true)(hk:scope.kind=.function)
 (hn:(scope.names.all fun y=>y.2 != .local||scope.names.lookup y.1==some .local)=true)(hx:(xs.all fun x=>scope.names.lookup x==some .local)=true)(nd:(xs++M).Nodup)
 (hs:∀p∈cl,X.env.cells.lookup p.1=some p.2)
 (hh:((relabel scope X.env).names.all fun p=>(p.2 != .cell&&p.2 != .free)||(cl.lookup p.1).isSome)=true)
 (hv:((M.zip N).all fun q=>match (relabel scope X.env).names.lookup q.1 with
  | some .local=>false
  | some .cell=>q.1==q.2&&(X.env.scope.names.lookup q.1==some .cell||X.env.scope.names.lookup q.1==some .free)
  | some .free=>q.1==q.2&&(X.env.scope.names.lookup q.1==some .cell||X.env.scope.names.lookup q.1==some .free)
  | _=>true)=true):CompOkT X M xs scope cl:=by
 refine⟨clos,fun y hy=>?_,hk,fun y hy hl=>?_,(fun x hm=>by simpa using List.all_eq_true.mp hx x hm),nd,by rw[hN];exact hl,fun y c h=>hs _ (lookup_mem h),fun y h=>?_,fun i y hy h=>?_⟩
 ·have:=List.all_eq_true.mp hc y hy
  simpa using this
 ·have:=List.all_eq_true.mp hn y hy
  simpa [hl] using this
 ·rcases h with h | h
  ·have:=List.all_eq_true.mp hh _ (lookup_mem h)
   exact Option.isSome_iff_exists.mp (by simpa using this)
  ·have:=List.all_eq_true.mp hh _ (lookup_mem h)
   exact Option.isSome_iff_exists.mp (by simpa using this)
 ·have hi:i<N.length:=by
   have:=(List.getElem?_eq_some_iff.mp hy).1
   omega
  have hz:(y,N[i])∈M.zip N:=by
   have:(M.zip N)[i]?=some (y,N[i]):=List.getElem?_zip_eq_some.mpr ⟨hy,by simp[hi]⟩
   exact List.mem_of_getElem? this
  have z:=List.all_eq_true.mp hv _ hz
  have fin:y=N[i]→X.N[i]?=some y:=fun e=>by rw[hN,e];simp[hi]
  rcases h with h | h | h
  ·dsimp only at z
   rw[h] at z;cases z
  ·dsimp only at z
   rw[h] at z
   simp only[Bool.and_eq_true,beq_iff_eq,Bool.or_eq_true] at z
   exact⟨fin z.1,.inl h,z.2⟩
  ·dsimp only at z
   rw[h] at z
   simp only[Bool.and_eq_true,beq_iff_eq,Bool.or_eq_true] at z
   exact⟨fin z.1,.inr h,z.2⟩
end
theorem rd_compT{k:Nat}{wi:TI}{g:TG}{tt:TT}{te:TE}{σ:St}{H:Hp}{Q:VK}(h:wi σ H (CompRT k g tt te σ Q)):tCompT k wi g tt te σ H Q:=h
theorem compT_inv{k:Nat}{J:It}{ok:Hp→Prop}{xs:List V}{σ:St}{H:Hp}{Q:VK}{g:TG}{tt:TT}{te:TE}(Wk:Walk J ok xs)(hz:xs.length<sizeLine)(Pv:Addr→Nat→List V→Hp→Prop)
 (h0:∀D,H D=none→Pv D 0 [] (upd H D (.lst [])))
 (hD:∀D i ys H2,H D=none→Pv D i ys H2→H2 D=some (.lst ys)∧ys.length≤i∧ok H2)
 (hs:∀D i x ys H2,H D=none→xs[i]?=some x→Pv D i ys H2→∀ρ:St,ρ.length=k→∀W:Nat→List V→Hp→Prop,(∀zs H6,Pv D (i+1) zs H6→W (i+1) zs H6)→
  g x (ρ++σ) H2 fun σ2 H4=>∃ρ2:St,ρ2.length=k∧σ2=ρ2++σ∧tt σ2 H4 fun b H5=>if b=true then te σ2 H5 fun y H6=>H6 D=some (.lst ys)∧W (i+1) (ys++[y]) (upd H6 D (.lst (ys++[y]))) else W (i+1) ys H5)
 (h:∀D ys H2,H D=none→Pv D xs.length ys H2→Q (.ref D) H2):CompRT k g tt te σ Q J H:=by
 intro D hD0
 refine⟨fun i m ys H2=>i≤xs.length∧m=xs.length-i∧Pv D i ys H2,⟨_,Nat.zero_le _,rfl,h0 D hD0⟩,?_⟩
 rintro i m ys H2 ⟨hi,rfl,p⟩
 obtain⟨d1,d2,d3⟩:=hD D i ys H2 hD0 p
 refine⟨d1,?_⟩
 by_cases hlt:i<xs.length
 ·refine .inr ⟨Wk.go i _ d3 hlt,by omega,xs.length-(i+1),by omega,fun x H3 hy ρ hρ=>?_⟩
  obtain⟨e3,ex⟩:=Wk.yld i _ x H3 d3 hy hlt
  subst e3
  exact hs D i x ys H3 hD0 ex p ρ hρ (fun j zs H6=>j≤xs.length∧xs.length-(i+1)=xs.length-j∧Pv D j zs H6) fun zs H6 z=>⟨hlt,rfl,z⟩
 ·have e:i=xs.length:=by omega
  subst e
  exact .inl ⟨Wk.stop _ _ d3 (Nat.le_refl _),h D ys H2 hD0 p⟩
end L2
namespace L2
open PySem PySem.Spec PyProof.Rows
theorem rd_fld{K:PySem.W.Frag}{ta:TE}{f:Str}{σ:St}{H:Hp}{Q:VK}(h:ta σ H fun x H1=>∃a C dx fs v,x=.ref a∧H1 a=some (.ins C dx fs)∧Cls K C∧NoAttr K C f∧fs.lookup f=some v∧Q v H1):tFld K ta f σ H Q:=h
theorem rd_sfld{K:PySem.W.Frag}{ta tv:TE}{f:Str}{D:Ends}{σ:St}{H:Hp}(h:tv σ H fun y H1=>ta σ H1 fun x H2=>∃a C dx fs,x=.ref a∧H2 a=some (.ins C dx fs)∧Cls K C∧NoAttr K C f∧fs.length<1000∧D.nx σ (upd H2 a (.ins C dx (putF f y fs)))):sFld K ta tv f D σ H:=h
theorem rd_meth{C:Addr}{m:Str}{sp:Sp}{ta:TE}{t:TA}{σ:St}{H:Hp}{Q:VK}(h:ta σ H fun x H1=>∃a dx fs,x=.ref a∧H1 a=some (.ins C dx fs)∧fs.lookup m=none∧t σ H1 fun vs H2=>sp (x::(vs++[])) H2 Q E0):tMeth C m sp [] E0 ta t σ H Q:=h
end L2
set_option Elab.async false
set_option linter.all false
set_option maxRecDepth 100000
set_option maxHeartbeats 4000000
namespace L2
open PySem PySem.Spec PyProof.Rows
section
variable{X:Cx}{M xs:List Str}{scope:Scope}{cl:List (Str×Addr)}{C:Addr}{s₀:Shared}{H₀:Hp}{fp:List Addr}
theorem pg_tup_c{es:List Expr}{k:Nat}{t:TGs}{n:Nat}{pos:Pos}(hc:X.calm=true)(h:PGs (compCxT X M xs scope cl C s₀ H₀ fp) es t)
 (hn:(assignEach es (compCxT X M xs scope cl C s₀ H₀ fp).env).length=n:=by rfl)(hst:(assignEach es (compCxT X M xs scope cl C s₀ H₀ fp).env).findIdx? (·.1)=none:=by rfl):PG (compCxT X M xs scope cl C s₀ H₀ fp) (.Tuple es k pos) (gTup X.K n t):=
 pg_tup hc h hn hst
end
theorem bitAnd_mask(x:Int)(m:Nat):0≤Builtin.bitAnd x (m:Int)∧Builtin.bitAnd x (m:Int)≤(m:Int):=by
 unfold Builtin.bitAnd
 rw[decide_eq_true (Int.natCast_nonneg m)]
 cases h:decide (0≤x) with
 | true=>
  show 0≤(((x.toNat &&& ((m:Int)).toNat:Nat)):Int)∧(((x.toNat &&& ((m:Int)).toNat:Nat)):Int)≤(m:Int)
  rw[Int.toNat_natCast]
  have:=Nat.and_le_right (n:=x.toNat) (m:=m)
  omega
 | false=>
  show 0≤(m:Int)-((((m:Int)).toNat &&& (Builtin.bitNot x).toNat:Nat):Int)∧(m:Int)-((((m:Int)).toNat &&& (Builtin.bitNot x).toNat:Nat):Int)≤(m:Int)
  rw[Int.toNat_natCast]
  have:=Nat.and_le_left (n:=m) (m:=(Builtin.bitNot x).toNat)
  omega
end L2
set_option Elab.async false
set_option linter.all false
set_option maxRecDepth 100000
set_option maxHeartbeats 4000000
namespace L2
open PySem PySem.Spec PyProof.Rows
structure FunD(K:PySem.W.Frag)(x qual:Str)(st:Stmt)(f:Addr)(fd:FuncData)(ds:Array Value):Prop where
 ex:∃(oc:Value) (od:Option Addr) (T:Addr) (to:Obj) (tn:Nat) (kV doc pm:Value) (an:Option Addr) (cdv ct:Value) (osl:Array (Option Value)),
  fd=PySem.W.fnOf x qual (defArgs st) (defBody st) (defScope st) (.ref T) kV doc pm an cdv ct∧K.lookup f=some ⟨oc,od,.func fd,osl⟩∧PySem.W.codeIn K cdv qual=true∧K.lookup T=some to∧to.data=.seq ds tn
 kp:PySem.W.keepIn K (.ref f)=true
section
variable{P:Program}{w:World}{K:PySem.W.Frag}{mg:Str→Option Value}{base:Heap}{x qual:Str}{st:Stmt}{f:Addr}{fd:FuncData}{N ps:List Str}{k:Nat}{sp:Sp}{ds:Array Value}
theorem FunD.ok(F:FunD K x qual st f fd ds)(S:FnScope N ps (defScope st))(len:∀vs H Q E,sp vs H Q E→vs.length=ps.length)
 (hbody:∀(cdv:Value) (A:Around) (outer:List Env) (s:Shared) (H:Hp) (vs:List V) (Q:VK) (E:XK),Room k (A.deeper (envOfC qual (defScope st) s.heap.objs.size f cdv))→sp vs H Q E→
  ∃t,PSs (cxOf CX0 P w K mg base N qual (defScope st) f cdv A outer s H E).nox (defBody st) t∧t { nx:=fun _ H'=>Q .non H',rt:=Q } (start N vs) H):FnOk P w K mg base CX0 (k+1) f fd ps sp:=by
 obtain⟨oc,od,T,to,tn,kV,doc,pm,an,cdv,ct,osl,rfl,lk,hcd,_⟩:=F.ex
 refine fn_of lk hcd S len fun A outer s H vs Q E hr hsp=>?_
 obtain⟨t,h,q⟩:=hbody cdv A outer s H vs Q E hr hsp
 exact⟨t,h.nox,q⟩
theorem FunD.binds(F:FunD K x qual st f fd ds)
 (h:∀(T:Addr) (kV doc pm:Value) (an:Option Addr) (cdv ct:Value) (us:List Value),us.length=ps.length→bindArgs (PySem.W.fnOf x qual (defArgs st) (defBody st) (defScope st) (.ref T) kV doc pm an cdv ct) ⟨us,[]⟩=pure (ps.zip us)):Binds K fd ps []:=by
 obtain⟨oc,od,T,to,tn,kV,doc,pm,an,cdv,ct,osl,rfl,lk,hcd,_⟩:=F.ex
 exact .all (h T kV doc pm an cdv ct)
theorem FunD.bindsD{dv:List Value}(n:Nat)(hn:n+dv.length=ps.length)(F:FunD K x qual st f fd ds)
 (h:∀(T:Addr) (kV doc pm:Value) (an:Option Addr) (cdv ct:Value) (us:List Value),us.length=n→
  ∃k:Option (Array Value)→Sem (List (Str×Value)),bindArgs (PySem.W.fnOf x qual (defArgs st) (defBody st) (defScope st) (.ref T) kV doc pm an cdv ct) ⟨us,[]⟩=seqItems? (.ref T) >>= k∧k (some ds)=pure (ps.zip (us++dv))):Binds K fd ps dv:=by
 obtain⟨oc,od,T,to,tn,kV,doc,pm,an,cdv,ct,osl,rfl,lk,hcd,ht,hs⟩:=F.ex
 intro s us KX hl
 obtain⟨k,h1,h2⟩:=h T kV doc pm an cdv ct us (by rw[List.length_append] at hl;omega)
 exact PySem.W.binds_K KX rfl ht hs h1 h2
theorem fun_mkD{oc:Value}{od an:Option Addr}{osl:Array (Option Value)}{kV doc pm cdv ct:Value}{T:Addr}{to:Obj}{tn:Nat}(l:K.lookup f=some ⟨oc,od,.func (PySem.W.fnOf x qual (defArgs st) (defBody st) (defScope st) (.ref T) kV doc pm an cdv ct),osl⟩)
 (c:PySem.W.codeIn K cdv qual=true)(k:PySem.W.keepIn K (.ref f)=true)(t:K.lookup T=some to)(d:to.data=.seq ds tn):FunD K x qual st f (PySem.W.fnOf x qual (defArgs st) (defBody st) (defScope st) (.ref T) kV doc pm an cdv ct) ds:=
 ⟨⟨oc,od,T,to,tn,kV,doc,pm,an,cdv,ct,osl,rfl,l,c,t,d⟩,k⟩
end
structure CalD(P:Program)(w:World)(K:PySem.W.Frag)(mg:Str→Option Value)(base:Heap)(CX:CXT)(k:Nat)(x:Str)(ps:List Str)(dvs:List V)(sp:Sp):Prop where
 ex:∃(f:Addr) (fd:FuncData) (ds:List Value),FnOk P w K mg base CX k f fd ps sp∧Binds K fd ps ds∧Vals dvs ds∧PySem.W.keepIn K (.ref f)=true∧mg x=some (.ref f)
structure CalID(P:Program)(w:World)(K:PySem.W.Frag)(mg:Str→Option Value)(base:Heap)(CX:CXT)(k:Nat)(x:Str)(C:Addr)(ps:List Str)(dvs:List V)(sp:Sp):Prop where
 ex:∃(f:Addr) (fd:FuncData) (ds:List Value),FnOk P w K mg base CX k f fd ps sp∧Binds K fd ps ds∧Vals dvs ds∧Mk K C f∧mg x=some (.ref C)
section
variable{X:Cx}{EE:Value→Option Addr→St→Hp→Prop}{C:Addr}{m x:Str}{k:Nat}{ps:List Str}{dvs:List V}{sp:Sp}{o e:Expr}{es:List Expr}{ta:TE}{t:TA}{apos pos p:Pos}
theorem pe_mkD(O:CalID X.prog X.w X.K X.mg X.base CX0 k x C ps dvs sp)(hr:Room (k+1) X.A)(hg:Gl X x)(ha:PA X (e::es) t)
 (hdb:(x==("__debug__":Str))=false:=by decide)(he:starEach (e::es) X.env=(false,eval e X.env)::starEach es X.env:=by rfl)(hpl:(backTo pos (starEach es X.env)).any (·.1)=false:=by rfl):
 PE X (.Call (.Name x p) (e::es) [] pos) (tMake C sp dvs E0 t):=by
 obtain⟨f,fd,ds,F,hb,hv,M,hm⟩:=O.ex
 exact pe_make M F hr hg hm hb hv pass0 ha hdb he hpl
end
section
variable{X:Cx}
def rEqNil(K:PySem.W.Frag):R2:=fun x y H Q=>∃(a b:Addr) (xs:List V),x=.ref a∧y=.ref b∧SqL K H a xs∧SqL K H b []∧Q (.bl xs.isEmpty) H
theorem op_eqNil(hu:X.A.units+64<cLine):OpR X (compareOp .Eq) (rEqNil X.K):=by
 intro pins s σ H x y v u Q I rx ry h
 obtain⟨a,b,xs,rfl,rfl,ha,hb,q⟩:=h
 cases rx
 cases ry
 obtain⟨its,r,pl,_⟩:=I.list ha
 obtain⟨its',r',pl',_⟩:=I.list hb
 cases xs with
 | nil=>exact PySem.W.ke_eq_ints (ns:=[]) (ms:=[]) pl.isList pl'.isList (intsAre_of (ns:=[]) r) (intsAre_of (ns:=[]) r') hu ⟨.bl _,H,I,rfl,q⟩
 | cons x xs=>
  refine SeqAt.RcAt.lists_lengths pl.isList pl'.isList ?_ (by omega) _ _ _ _ ⟨.bl _,H,I,rfl,q⟩
  have l1:=r.length
  have l2:=r'.length
  rw[List.length_cons] at l1
  rw[List.length_nil] at l2
  simp[←l1,←l2]
end
end L2
namespace L2
open PySem PySem.Spec PyProof.Rows
theorem rd_makeD{C:Addr}{sp:Sp}{dvs:List V}{t:TA}{σ:St}{H:Hp}{Q:VK}(h:t σ H fun vs H1=>∀x dx,H1 x=none→H1 dx=none→dx≠x→sp (.ref x::(vs++dvs)) (upd (upd H1 dx (.own x)) x (.ins C dx [])) (fun v H2=>v=.non∧Q (.ref x) H2) E0):tMake C sp dvs E0 t σ H Q:=h
end L2
set_option Elab.async false
set_option linter.all false
set_option maxRecDepth 100000
set_option maxHeartbeats 4000000
namespace L2
open PySem PySem.Spec PyProof.Rows
def plainV:V→Bool
 | .byt _=>false
 | .flt _=>false
 | _=>true
inductive EqV(K:PySem.W.Frag)(H:Hp):Nat→V→V→Prop
 | same {n:Nat} {v:V}:plainV v=true→EqV K H n v v
 | lst {n:Nat} {a b:Addr} {xs ys:List V}:SqL K H a xs→SqL K H b ys→xs.length=ys.length→(∀(i:Nat) x y,xs[i]?=some x→ys[i]?=some y→EqV K H n x y)→EqV K H (n+1) (.ref a) (.ref b)
 | tup {n:Nat} {a b:Addr} {xs ys:List V}:SqT K H a xs→SqT K H b ys→xs.length=ys.length→(∀(i:Nat) x y,xs[i]?=some x→ys[i]?=some y→EqV K H n x y)→EqV K H (n+1) (.ref a) (.ref b)
theorem vals_at:∀{xs:List V} {us:List Value} {i:Nat} {u:Value},Vals xs us→us[i]?=some u→∃x,xs[i]?=some x∧RelV x u
 | _,_,i,u,.nil,h=>by simp at h
 | _,_,0,u,.cons r _,h=>by
  injection h with h
  subst h
  exact⟨_,rfl,r⟩
 | _,_,i+1,u,.cons _ rs,h=>vals_at (i:=i) rs h
section
variable{X:Cx}{pins:List (Addr×Obj)}{σ:St}{H:Hp}{s:Shared}
theorem EqV.at{n:Nat}{x y:V}(h:EqV X.K H n x y)(I:Inv X pins σ H s):∀{A:Around} {u v:Value},RelV x u→RelV y v→A.units+n<cLine→SeqAt.EqAt A s u v true:=by
 induction h with
 | @same n v hp=>
  intro A u u' r r' _
  cases v with
  | non=>cases r;cases r';exact SeqAt.EqAt.same _
  | bl b=>cases r;cases r';exact SeqAt.EqAt.same _
  | int i=>
   obtain⟨t,rfl⟩:=r
   obtain⟨t',rfl⟩:=r'
   have:=SeqAt.EqAt.int_int (A:=A) (s:=s) i t i t'
   rwa [beq_self_eq_true] at this
  | str x=>
   obtain⟨t,rfl⟩:=r
   obtain⟨t',rfl⟩:=r'
   have:=SeqAt.EqAt.str_str (A:=A) (s:=s) x t x t'
   rwa [beq_self_eq_true] at this
  | byt b=>cases hp
  | flt b=>cases hp
  | ref a=>cases r;cases r';exact SeqAt.EqAt.same _
  | ty n=>cases r;cases r';exact SeqAt.EqAt.same _
 | @lst n a b xs ys ha hb hl _ ih=>
  intro A u v r r' hu
  cases r
  cases r'
  by_cases e:a=b
  ·subst e
   exact SeqAt.EqAt.same _
  obtain⟨its,r,pl,_⟩:=I.list ha
  obtain⟨its',r',pl',_⟩:=I.list hb
  have l1:=r.length
  have l2:=r'.length
  have:=SeqAt.RcAt.lists (A:=A) (e:=fun _=>true) pl.isList pl'.isList (by simp;omega) (by omega) fun j k1 k2=>by
   obtain⟨x,hx,rx⟩:=vals_at r (i:=j) (u:=its.toArray[j]) (by simp)
   obtain⟨y,hy,ry⟩:=vals_at r' (i:=j) (u:=its'.toArray[j]) (by simp)
   exact ih j x y hx hy rx ry (by show A.units+1+n<cLine;omega)
  rw[show ((List.range its.toArray.size).all fun _=>true)=true by simp] at this
  exact SeqAt.EqAt.of_refs e this
 | @tup n a b xs ys ha hb hl _ ih=>
  intro A u v r r' hu
  cases r
  cases r'
  by_cases e:a=b
  ·subst e
   exact SeqAt.EqAt.same _
  obtain⟨its,r,pl,_⟩:=I.tuple ha
  obtain⟨its',r',pl',_⟩:=I.tuple hb
  have l1:=r.length
  have l2:=r'.length
  have:=SeqAt.RcAt.tuples (A:=A) (e:=fun _=>true) pl pl' (by omega) fun j k1 k2=>by
   obtain⟨x,hx,rx⟩:=vals_at r (i:=j) (u:=its.toArray[j]) (by simp)
   obtain⟨y,hy,ry⟩:=vals_at r' (i:=j) (u:=its'.toArray[j]) (by simp)
   exact ih j x y hx hy rx ry (by show A.units+1+n<cLine;omega)
  rw[show ((List.range (min its.toArray.size its'.toArray.size)).all fun _=>true)=true by simp,Bool.true_and,show(its.toArray.size==its'.toArray.size)=true by simp;omega] at this
  exact SeqAt.EqAt.of_refs e this
def rNeV(K:PySem.W.Frag):R2:=fun x y H Q=>∃(a b:Addr) (xs ys:List V),x=.ref a∧y=.ref b∧SqL K H a xs∧SqL K H b ys∧xs.length=ys.length∧(∀(i:Nat) x y,xs[i]?=some x→ys[i]?=some y→EqV K H 8 x y)∧Q (.bl false) H
theorem op_neV(hu:X.A.units+64<cLine):OpR X (compareOp .NotEq) (rNeV X.K):=by
 intro pins s σ H x y v u Q I rx ry h
 obtain⟨a,b,xs,ys,rfl,rfl,ha,hb,hl,he,q⟩:=h
 cases rx
 cases ry
 obtain⟨its,r,pl,_⟩:=I.list ha
 obtain⟨its',r',pl',_⟩:=I.list hb
 have l1:=r.length
 have l2:=r'.length
 refine SeqAt.RcNeAt.lists (e:=fun _=>true) pl.isList pl'.isList (by simp;omega) (by omega) (fun j k1 k2=>?_) _ _ _ _ ?_
 ·obtain⟨x,hx,rx⟩:=vals_at r (i:=j) (u:=its.toArray[j]) (by simp)
  obtain⟨y,hy,ry⟩:=vals_at r' (i:=j) (u:=its'.toArray[j]) (by simp)
  exact(he j x y hx hy).at I rx ry (by show X.A.units+1+8<cLine;omega)
 ·rw[show (!(List.range its.toArray.size).all fun _=>true)=false by simp]
  exact⟨.bl _,H,I,rfl,q⟩
def rEqV(K:PySem.W.Frag):R2:=fun x y H Q=>∃(a b:Addr) (xs ys:List V),x=.ref a∧y=.ref b∧SqL K H a xs∧SqL K H b ys∧xs.length=ys.length∧(∀(i:Nat) x y,xs[i]?=some x→ys[i]?=some y→EqV K H 8 x y)∧Q (.bl true) H
theorem op_eqV(hu:X.A.units+64<cLine):OpR X (compareOp .Eq) (rEqV X.K):=by
 intro pins s σ H x y v u Q I rx ry h
 obtain⟨a,b,xs,ys,rfl,rfl,ha,hb,hl,he,q⟩:=h
 cases rx
 cases ry
 obtain⟨its,r,pl,_⟩:=I.list ha
 obtain⟨its',r',pl',_⟩:=I.list hb
 have l1:=r.length
 have l2:=r'.length
 refine SeqAt.RcAt.lists (e:=fun _=>true) pl.isList pl'.isList (by simp;omega) (by omega) (fun j k1 k2=>?_) _ _ _ _ ?_
 ·obtain⟨x,hx,rx⟩:=vals_at r (i:=j) (u:=its.toArray[j]) (by simp)
  obtain⟨y,hy,ry⟩:=vals_at r' (i:=j) (u:=its'.toArray[j]) (by simp)
  exact(he j x y hx hy).at I rx ry (by show X.A.units+1+8<cLine;omega)
 ·rw[show ((List.range its.toArray.size).all fun _=>true)=true by simp]
  exact⟨.bl _,H,I,rfl,q⟩
end
theorem EqV.selfs{K:PySem.W.Frag}{H:Hp}{n:Nat}{xs:List V}(h:xs.all plainV=true):∀(i:Nat) x y,xs[i]?=some x→xs[i]?=some y→EqV K H n x y:=fun i x y hx hy=>by
 rw[hx] at hy
 cases hy
 exact .same (List.all_eq_true.mp h x (List.mem_of_getElem? hx))
end L2
set_option Elab.async false
set_option linter.all false
set_option maxRecDepth 100000
set_option maxHeartbeats 4000000
namespace L2
open PySem PySem.Spec PyProof.Rows
structure CalL(P:Program)(w:World)(K:PySem.W.Frag)(mg:Str→Option Value)(base:Heap)(CX:CXT)(k:Nat)(m:Str)(ps:List Str)(L:List (Addr×Sp)):Prop where
 ex:∀p∈L,Cls K p.1∧∃(f:Addr) (fd:FuncData),FnOk P w K mg base CX k f fd ps p.2∧Binds K fd ps []∧Meth K p.1 m f
theorem CalL.nil{P:Program}{w:World}{K:PySem.W.Frag}{mg:Str→Option Value}{base:Heap}{CX:CXT}{k:Nat}{m:Str}{ps:List Str}:CalL P w K mg base CX k m ps []:=⟨fun p hp=>(nomatch hp)⟩
theorem FnOk.up{P:Program}{w:World}{K:PySem.W.Frag}{mg:Str→Option Value}{base:Heap}{CX:CXT}{k j:Nat}{f:Addr}{fd:FuncData}{ps:List Str}{sp:Sp}(F:FnOk P w K mg base CX k f fd ps sp)(h:k≤j):FnOk P w K mg base CX j f fd ps sp:=
 ⟨F.len,fun A outer s H args us vs Q E hr e0 hb r hs=>F.run A outer s H args us vs Q E (hr.mono h) e0 hb r hs⟩
theorem CalL.cons{P:Program}{w:World}{K:PySem.W.Frag}{mg:Str→Option Value}{base:Heap}{CX:CXT}{k j:Nat}{m:Str}{ps:List Str}{C:Addr}{sp:Sp}{L:List (Addr×Sp)}(c:Cls K C)(O:CalM P w K mg base CX j C m ps sp)(h:j≤k)(r:CalL P w K mg base CX k m ps L):CalL P w K mg base CX k m ps ((C,sp)::L):=by
 refine⟨fun p hp=>?_⟩
 rcases List.mem_cons.mp hp with e | e
 ·subst e
  obtain⟨f,fd,F,hb,M⟩:=O.ex
  exact⟨c,f,fd,F.up h,hb,M⟩
 ·exact r.ex p e
section
variable{X:Cx}{EE:Value→Option Addr→St→Hp→Prop}{L:List (Addr×Sp)}{m:Str}{k:Nat}{ps:List Str}{o e:Expr}{es:List Expr}{ta:TE}{t:TA}{apos pos:Pos}
end
end L2
set_option Elab.async false
set_option linter.all false
namespace L2
theorem len1{α:Type}{us:List α}(h:us.length=1):∃a0,us=[a0]:=by
 match us,h with
 | [a0],_=>exact⟨a0,rfl⟩
theorem len2{α:Type}{us:List α}(h:us.length=2):∃a0 a1,us=[a0,a1]:=by
 match us,h with
 | [a0,a1],_=>exact⟨a0,a1,rfl⟩
theorem len3{α:Type}{us:List α}(h:us.length=3):∃a0 a1 a2,us=[a0,a1,a2]:=by
 match us,h with
 | [a0,a1,a2],_=>exact⟨a0,a1,a2,rfl⟩
theorem len4{α:Type}{us:List α}(h:us.length=4):∃a0 a1 a2 a3,us=[a0,a1,a2,a3]:=by
 match us,h with
 | [a0,a1,a2,a3],_=>exact⟨a0,a1,a2,a3,rfl⟩
theorem len5{α:Type}{us:List α}(h:us.length=5):∃a0 a1 a2 a3 a4,us=[a0,a1,a2,a3,a4]:=by
 match us,h with
 | [a0,a1,a2,a3,a4],_=>exact⟨a0,a1,a2,a3,a4,rfl⟩
end L2
set_option Elab.async false
set_option linter.all false
set_option maxRecDepth 100000
set_option maxHeartbeats 4000000
namespace L2
open PySem PySem.Spec PyProof.Rows
section
variable{X:Cx}
end
end L2
set_option Elab.async false
set_option linter.all false
set_option maxRecDepth 100000
set_option maxHeartbeats 4000000
namespace L2
open PySem PySem.Spec PyProof.Rows
section
variable{X:Cx}
def rNeNil(K:PySem.W.Frag):R2:=fun x y H Q=>∃(a b:Addr) (xs:List V),x=.ref a∧y=.ref b∧SqL K H a xs∧SqL K H b []∧Q (.bl (!xs.isEmpty)) H
theorem op_neNil(hu:X.A.units+64<cLine):OpR X (compareOp .NotEq) (rNeNil X.K):=by
 intro pins s σ H x y v u Q I rx ry h
 obtain⟨a,b,xs,rfl,rfl,ha,hb,q⟩:=h
 cases rx
 cases ry
 obtain⟨its,r,pl,_⟩:=I.list ha
 obtain⟨its',r',pl',_⟩:=I.list hb
 cases xs with
 | nil=>exact PySem.W.ke_ne_ints (ns:=[]) (ms:=[]) pl.isList pl'.isList (intsAre_of (ns:=[]) r) (intsAre_of (ns:=[]) r') hu ⟨.bl _,H,I,rfl,q⟩
 | cons x xs=>
  refine SeqAt.RcNeAt.lists_lengths pl.isList pl'.isList ?_ (by omega) _ _ _ _ ⟨.bl _,H,I,rfl,q⟩
  have l1:=r.length
  have l2:=r'.length
  rw[List.length_cons] at l1
  rw[List.length_nil] at l2
  simp[←l1,←l2]
theorem rd_neNil{K:PySem.W.Frag}{a b:Addr}{xs:List V}{H:Hp}{Q:VK}(ha:SqL K H a xs)(hb:SqL K H b [])(q:Q (.bl (!xs.isEmpty)) H):rNeNil K (.ref a) (.ref b) H Q:=⟨a,b,xs,rfl,rfl,ha,hb,q⟩
end
theorem cut_upto(xs:List V)(k:Nat):cutV xs none (some (k:Int))=xs.take k:=by
 unfold cutV
 rw[HT.sIx_none,HT.sIx_nat,List.drop_zero,Nat.sub_zero]
 by_cases h:k≤xs.length
 ·rw[Nat.min_eq_left h]
 ·rw[Nat.min_eq_right (by omega),List.take_of_length_le (Nat.le_refl _),List.take_of_length_le (by omega)]
end L2
set_option Elab.async false
set_option linter.all false
set_option maxRecDepth 100000
set_option maxHeartbeats 4000000
namespace L2
open PySem PySem.Spec PyProof.Rows
section
variable{X:Cx}
end
end L2
set_option Elab.async false
set_option linter.all false
set_option maxRecDepth 100000
set_option maxHeartbeats 4000000
namespace L2
open PySem PySem.Spec PyProof.Rows
section
variable{X:Cx}
end
end L2
set_option Elab.async false
set_option linter.all false
set_option maxRecDepth 100000
set_option maxHeartbeats 4000000
namespace L2
open PySem PySem.Spec PyProof.Rows
def signV(c:Nat):V:=.str ⟨#[c]⟩
def Its(z:Str):It:=⟨fun i _=>i<z.cps.size,fun i H x H'=>H'=H∧∃c,z.cps[i]?=some c∧x=signV c,fun i _=>z.cps.size≤i⟩
theorem turn_str{P:Program}{w:World}{K:PySem.W.Frag}{tg:Expr}(z:Str)(t:Tok)(it:Addr):Turn P w K tg (Its z) [it] it (fun i h=>h.IsStrIter it "str_ascii_iterator" z t i) where
 mem:=by simp
 obj:=fun i h st b hb=>by
  have e:b=it:=by simpa using hb
  subst e
  obtain⟨o,e,c,d⟩:=st
  exact⟨o,e,fun v z=>by rw[d] at z;cases z⟩
 keep:=fun i h h' st k=>by
  obtain⟨o,e,r⟩:=st
  exact⟨o,k it (by simp) o e,r⟩
 item:=by
  intro X hP hw hK hc i pins s σ H E I hf st hg
  subst hP hw hK
  have hg':i<z.cps.size:=hg
  obtain⟨f0,f1,f2,f3,f4,f5⟩:=hf it (by simp)
  refine wpAny_pyNext_ascii_item st (c:=z.cps[i]) (by simp[hg']) fun h' st' sb=>?_
  have I1:Inv X pins σ H { s with heap:=h',toks:=s.toks+1 }:=I.turned (t':=s.toks+1) (fun b o hb e=>(sb.2 b hb).trans e) f0 f1 f3 f4 f5
  obtain⟨o,e,c,d⟩:=id st'
  exact⟨_,rfl,go_of (s:={ s with heap:=h',toks:=s.toks+1 }) e c d (by decide) ⟨signV z.cps[i],H,I1,⟨_,rfl⟩,⟨rfl,_,by simp[hg'],rfl⟩,st',fun b hb=>(hf b hb).1⟩⟩
 done:=by
  intro X hP hw hK hc i pins s σ H E I hf st hg
  subst hP hw hK
  have hg':z.cps.size≤i:=hg
  obtain⟨f0,f1,f2,f3,f4,f5⟩:=hf it (by simp)
  exact wpAny_pyNext_ascii_end (I.ok.hd hc) st (by simp[hg']) fun h' eb=>⟨rfl,I.turned (t':=s.toks) (fun b o hb e=>eb b o hb e) f0 f1 f3 f4 f5⟩
 self:=fun _ _ _ _ _ st h=>wpAny_pyIter_striter_ascii st h
def asc(z:Str):Bool:=z.cps.all (· <128)
def iStr(tl:TE):TI:=fun σ H R=>tl σ H fun x H1=>∃z,x=.str z∧asc z=true∧R (Its z) H1
section
variable{X:Cx}{tg:Expr}
theorem pi_str{l:Expr}{tl:TE}(hl:PE X l tl):PI X tg l (iStr tl):=by
 intro pins s σ H R I h
 refine thn (hl pins s σ H _ I h) fun v s1 ⟨x,H1,I1,r1,q1⟩=>?_
 obtain⟨z,e,ha,q⟩:=q1
 subst e
 obtain⟨t,rfl⟩:=(show ∃t,v=Value.str z t from r1)
 refine wpAny_pyIter_ascii ha ?_
 refine⟨s1.heap.objs.size,[s1.heap.objs.size],_,_,H1,rfl,I1.kept (t':=s1.toks) fun b o e=>Heap.get?_push_of_some _ e,turn_str z t _,⟨_,Heap.get?_push_size _ rfl,rfl,rfl⟩,fun b hb=>?_,q⟩
 have e:b=s1.heap.objs.size:=by simpa using hb
 subst e
 exact I1.fpOk (Nat.le_refl _) (I1.hok.fresh (Nat.le_refl _))
def rSlS:V→Option Int→Option Int→Hp→VK→Prop:=fun x lo hi H Q=>∃z,x=.str z∧z.length≤sizeLine∧Q (.str (Txt.slice z lo hi)) H
theorem part_val{v:Value}{o:Option Int}(h:IsPart v o):∃l:Option (Int×Tok),v=partValue l∧l.map (·.1)=o:=by
 cases h with
 | none=>exact⟨none,rfl,rfl⟩
 | int i t=>exact⟨some (i,t),rfl,rfl⟩
theorem sl_str:SlR X rSlS:=by
 intro pins s σ H x v vl vu lo hi sl Q I rx hs pl pu h
 obtain⟨z,rfl,hz,q⟩:=h
 obtain⟨t,rfl⟩:=(show ∃t,v=Value.str z t from rx)
 obtain⟨l,rfl,rfl⟩:=part_val pl
 obtain⟨u,rfl,rfl⟩:=part_val pu
 refine⟨"str",_,F.slot_str_getitem.lookup,typeIs_str _ _ _,wpAny_getItem_str_slice (l:=l) (u:=u) (st:=none) hs rfl ?_⟩
 refine post_val_or_str ⟨Nat.le_trans (Txt.slice_le z _ _) hz,fun t' k=>?_⟩
 exact⟨.str _,H,I.kept (t':=k) fun b o e=>e,⟨_,rfl⟩,q⟩
theorem mt_startswith:MtR X "str.startswith" (fun x xs H Q=>∃z y,x=.str z∧xs=[.str y]∧Q (.bl (Txt.startswith z y)) H):=by
 intro pins s σ H x xs v us Q I rx rs h
 obtain⟨z,y,rfl,rfl,q⟩:=h
 obtain⟨t,rfl⟩:=(show ∃t,v=Value.str z t from rx)
 obtain⟨u,rfl,ru⟩:=vals1 rs
 obtain⟨t',rfl⟩:=(show ∃t,u=Value.str y t from ru)
 exact call_gives F.slot_str_startswith (typeIs_str _ _ _) F.entry_str_startswith (F.args_str_startswith_2 _ _) (gives_str_startswith z y t t') ⟨.bl _,H,I,rfl,q⟩
theorem call_int_text:CallR X (.type "int") (fun xs H Q=>∃z n,xs=[.str z]∧z.length≤640∧PySem.intText? z=some n∧Q (.int n) H):=by
 intro pins s σ H xs us Q I r h
 obtain⟨z,n,rfl,hl,hn,q⟩:=h
 obtain⟨u,rfl,ru⟩:=vals1 r
 obtain⟨t,rfl⟩:=(show ∃t,u=Value.str z t from ru)
 exact PySem.W.KIN.call_text hn hl ⟨.int n,H,I.tok _,⟨_,rfl⟩,q⟩
theorem op_mulS:OpR X (binaryOp .Mult) (fun x y H Q=>∃z n,x=.str z∧y=.int n∧MulOk z n∧Q (.str (Txt.mul z n)) H):=by
 intro pins s σ H x y v u Q I rx ry h
 obtain⟨z,n,rfl,rfl,hok,q⟩:=h
 obtain⟨t,rfl⟩:=(show ∃t,v=Value.str z t from rx)
 obtain⟨t',rfl⟩:=(show ∃t,u=Value.int n t from ry)
 exact SB.mul hok fun t' k=>⟨.str _,H,I.kept (t':=k) fun b o e=>e,⟨_,rfl⟩,q⟩
end
theorem walk_s{z:Str}:Walk (Its z) (fun _=>True) (z.cps.toList.map signV):=
 ⟨fun i H _ hi=>(by show i<z.cps.size;simpa using hi),fun i H x H' _ y hi=>⟨y.1,by
  obtain⟨c,hc,rfl⟩:=y.2
  rw[List.getElem?_map,Array.getElem?_toList,hc]
  rfl⟩,fun i H _ hi=>(by show z.cps.size≤i;simpa using hi)⟩
theorem rd_iS{tl:TE}{σ:St}{H:Hp}{R:It→Hp→Prop}(h:tl σ H fun x H1=>∃z,x=.str z∧asc z=true∧R (Its z) H1):iStr tl σ H R:=h
theorem rel_str(x:Str)(t:Tok):RelV (.str x) (.str x t):=⟨t,rfl⟩
section
variable{X:Cx}
end
end L2
set_option Elab.async false
set_option linter.all false
set_option maxRecDepth 100000
set_option maxHeartbeats 4000000
namespace L2
open PySem PySem.Spec PyProof.Rows
section
variable{X:Cx}{pos:Pos}
end
end L2
set_option Elab.async false
set_option linter.all false
set_option maxRecDepth 100000
set_option maxHeartbeats 4000000
namespace L2
open PySem PySem.Spec PyProof.Rows
section
variable{X:Cx}{pins:List (Addr×Obj)}{σ:St}{H:Hp}{s:Shared}{h':Heap}
end
section
variable{X:Cx}
end
section
variable{X:Cx}
theorem ps_setCompT{M:List Str}{elt iter tg:Expr}{xs:List Str}{y:Str}{py pos spos:Pos}{ifs:List Expr}{scope:Scope}{cl:List (Str×Addr)}{wi:TI}{g:TG}{tt:TT}{te:TE}{i:Nat}(hN:X.N.Nodup)(hiy:X.N[i]?=some y)(hy:Loc X.env.scope y)
 (hc:X.calm=true)(ok:CompOkT X M xs scope cl)(hi:PI X tg iter wi)
 (ht:∀C s₀ H₀ fp,PIfs (compCxT X M xs scope cl C s₀ H₀ fp) ifs tt)(hg:∀C s₀ H₀ fp,PG (compCxT X M xs scope cl C s₀ H₀ fp) tg g)(he:∀C s₀ H₀ fp,PE (compCxT X M xs scope cl C s₀ H₀ fp) elt te)
 (hsw:swapsWith (.ListComp elt [⟨tg,iter,ifs,0⟩] scope pos) (some (.Name y py)) spos.line X.env=pure true:=by with_unfolding_all rfl)
 (hf:X.fn y=true∨X.env.scope.names.lookup y=some .local:=by first | exact .inl rfl | exact .inr rfl | assumption)
 (hs:∀x,foldedSetIterable iter X.env x=pure x:=by intro _;rfl):
 PS X (.Assign [.Name y py] (.ListComp elt [⟨tg,iter,ifs,0⟩] scope pos) spos) (tAsg (tCompT xs.length wi g tt te) (gName i)):=by
 intro pins s σ H D I h
 rw[exec_Assign_Name_used _ _ _ _ hsw]
 refine wpAny_bind (wpAny_standAt (wpAny_bind ?_))
 show wpAny _ X.A (do let _ ←comprehension (.ListComp elt [⟨tg,iter,ifs,0⟩] scope pos) scope X.env _ (newList []) false (eval iter X.env) (some (assign (.Name y py) X.env))) _ _ s
 refine wpAny_bind (wpAny_mono (wpAny_comprehension_free (use:=some (assign (.Name y py) X.env)) (Q:=fun _ s'=>SP X pins D .next s') rfl hs ok.clos ok.kind ok.names
  (thn (hi pins s σ H _ I h) fun xv s1 h1=>thn h1 fun itv s2 h2=>?_)) (fun _ s' hq=>wpAny_pure (wpAny_pure hq)) fun _ _ e=>e)
 obtain⟨it,fp,tn,J,H2,e,I2,T,st2,f2,hW⟩:=h2
 subst e
 refine comp_coreT (Q:=fun x H1=>gName i x σ H1 D.nx) hc ok ht hg he I2 T st2 f2 hW (compPost (model X.prog X.w) X.A X.xe (some (assign (.Name y py) X.env)) (fun _ s'=>SP X pins D .next s')) fun Dd C H3 s4 I4 hm fC q=>?_
 obtain⟨m,hn⟩:=hm
 show wpAny _ X.A (assign (.Name y py) X.env (.ref Dd)) _ _ _
 refine wpAny_assign_Name (store_ok2 I4 hN hiy hy (v:=.ref Dd) rfl (fun s5 I5 hsb=>?_) hf)
 obtain⟨a,sb,ha⟩:=hsb
 have hCa:C≠a:=by
  rcases ha with rfl | ha
  ·exact fC.2.1
  ·exact(fC.2.2.2.2.1 _ _ ha).symm
 exact⟨m,hn.sameBut sb hCa,fun h' hsb'=>⟨_,H3,I5.turned (t':=s5.toks) (fun b o hb e=>hsb'.extBut b o hb e) fC.1 fC.2.1 fC.2.2.2.1 fC.2.2.2.2.1 fC.2.2.2.2.2,q⟩⟩
end
end L2
set_option Elab.async false
set_option linter.all false
set_option maxRecDepth 100000
set_option maxHeartbeats 4000000
namespace L2
open PySem PySem.Spec PyProof.Rows
structure BInit(K:PySem.W.Frag)(mg:Str→Option Value)(x:Str)(CB f:Addr):Prop where
 bound:mg x=some (.ref CB)
 sp:PySem.W.specialIn K (.ref CB) "__getattribute__"=some (some (.builtin "type.__getattribute__"))
 rd:PySem.W.readsIn K CB (.type "type")=true
 fc:PySem.W.findCls K (.ref CB) (.type "type") "__init__"=some (.val (.ref f))
 kp:PySem.W.keepIn K (.ref f)=true
structure CalB(P:Program)(w:World)(K:PySem.W.Frag)(mg:Str→Option Value)(base:Heap)(k:Nat)(x:Str)(ps:List Str)(sp:Sp):Prop where
 ex:∃(f CB:Addr) (fd:FuncData),FnOk P w K mg base CX0 k f fd ps sp∧Binds K fd ps []∧BInit K mg x CB f
section
variable{X:Cx}
theorem pe_binit{x:Str}{k:Nat}{ps:List Str}{sp:Sp}{e:Expr}{es:List Expr}{t:TA}{p apos pos:Pos}{pl:Sem Bool}(O:CalB X.prog X.w X.K X.mg X.base k x ps sp)(hr:Room k X.A)(hg:Gl X x)(ha:PA X (e::es) t)
 (hdb:(x==("__debug__":Str))=false:=by decide)(hst:starEach (e::es) X.env=(false,eval e X.env)::starEach es X.env:=by rfl)(hpl:(backTo pos (starEach es X.env)).any (·.1)=false:=by rfl)
 (ht:eval (.Call (.Attribute (.Name x p) "__init__" apos) (e::es) [] pos) X.env=(do
  let ov ←eval (.Name x p) X.env
  standAt apos.atName
  let (f,first) ←holding [ov] (getMethod ov "__init__" pl)
  callWith pos f first (backTo pos (starEach (e::es) X.env)) (backToKw pos (keywordEach [] X.env))):=by rfl):
 PE X (.Call (.Attribute (.Name x p) "__init__" apos) (e::es) [] pos) (tCall sp [] E0 t):=by
 intro pins s σ H Q I h
 obtain⟨f,CB,fd,F,hb,N⟩:=O.ex
 refine PySem.W.methodCall_KW (pl:=pl) (ld_glob I hg N.bound ?_ hdb) ht
 refine PySem.W.method_cls I.kIn N.sp (PySem.W.cls_value I.kIn N.rd N.fc rfl ?_)
 have I1:Inv X pins σ H { s with toks:=s.toks+1 }:=I.tok _
 refine PySem.W.callWith_K (first:=[]) (h₀:=X.base) I.ok.mod.kin N.kp (thn (ha pos pins _ σ H _ I1 h) fun us s2 ⟨vs,H2,I2,r,q2⟩=>⟨I2.kIn,?_⟩) hst hpl
 exact run_fn (us:=us) (vs:=vs) F hr hb .nil pass0 I2 r q2
end
end L2
set_option Elab.async false
set_option linter.all false
set_option maxRecDepth 100000
set_option maxHeartbeats 4000000
namespace L2
open PySem PySem.Spec PyProof.Rows
section
variable{X:Cx}
end
section
variable{X:Cx}
end
end L2
set_option Elab.async false
set_option linter.all false
set_option maxRecDepth 100000
set_option maxHeartbeats 4000000
namespace L2
open PySem PySem.Spec PyProof.Rows PySem.Builtin PySem.Builtin.Str
def plc(c:Nat):Nat→List Nat→List Nat
 | _,[]=>[]
 | k,a::l=>if a=c then k::plc c (k+1) l else plc c (k+1) l
def spl(c:Nat):List Nat→List (List Nat)
 | []=>[[]]
 | a::l=>if a=c then []::spl c l else ((a::(spl c l).headD [])::(spl c l).drop 1)
theorem spl_at(c:Nat)(l:List Nat):spl c (c::l)=[]::spl c l:=by
 conv=>lhs;unfold spl
 rw[if_pos rfl]
theorem spl_not{c a:Nat}(l:List Nat)(h:a≠c):spl c (a::l)=(a::(spl c l).headD [])::(spl c l).drop 1:=by
 conv=>lhs;unfold spl
 rw[if_neg h]
theorem str_eq{a b:Str}(h:a.cps=b.cps):a=b:=by
 cases a
 cases b
 exact congrArg Str.mk h
theorem spl_ne(c:Nat):∀l,spl c l≠[]
 | []=>fun h=>nomatch h
 | a::l=>by
  unfold spl
  split
  ·exact fun h=>nomatch h
  ·exact fun h=>nomatch h
theorem spl_eta(c:Nat)(l:List Nat):spl c l=(spl c l).headD []::(spl c l).drop 1:=by
 have:=spl_ne c l
 cases h:spl c l with
 | nil=>exact absurd h this
 | cons p ps=>rfl
theorem plc_len(c:Nat):∀(l:List Nat) (k:Nat),(plc c k l).length+1=(spl c l).length
 | [],_=>rfl
 | a::l,k=>by
  have ih:=plc_len c l (k+1)
  unfold plc spl
  split
  ·rw[List.length_cons,List.length_cons,ih]
  ·rw[ih,spl_eta c l]
   rfl
theorem plc_count(c:Nat):∀(l:List Nat) (k:Nat),(plc c k l).length=l.count c
 | [],_=>rfl
 | a::l,k=>by
  have ih:=plc_count c l (k+1)
  unfold plc
  rw[List.count_cons]
  split
  ·rename_i h
   rw[List.length_cons,ih,if_pos (by simpa using h)]
  ·rename_i h
   rw[ih,if_neg (by simpa using h)]
   rfl
theorem spl_cut(c:Nat):∀(p l:List Nat),c∉p→spl c (p++c::l)=p::spl c l
 | [],l,_=>spl_at c l
 | a::p,l,h=>by
  have ih:=spl_cut c p l fun z=>h (List.mem_cons_of_mem _ z)
  show spl c (a::(p++c::l))=_
  rw[spl_not _ (fun z=>h (by rw[z];exact List.mem_cons_self)),ih]
  rfl
theorem spl_one(c:Nat):∀(p:List Nat),c∉p→spl c p=[p]
 | [],_=>rfl
 | a::p,h=>by
  rw[spl_not _ (fun z=>h (by rw[z];exact List.mem_cons_self)),spl_one c p fun z=>h (List.mem_cons_of_mem _ z)]
  rfl
theorem spl_len(c:Nat):∀(l p:List Nat),p∈spl c l→p.length≤l.length
 | [],p,hp=>by
  cases List.mem_singleton.mp hp
  exact Nat.le_refl _
 | a::l,p,hp=>by
  have ih:=spl_len c l
  unfold spl at hp
  split at hp
  ·rcases List.mem_cons.mp hp with e | e
   ·rw[e];exact Nat.zero_le _
   ·exact Nat.le_trans (ih p e) (Nat.le_succ _)
  ·rw[spl_eta c l] at ih
   rcases List.mem_cons.mp hp with e | e
   ·rw[e]
    exact Nat.succ_le_succ (ih _ List.mem_cons_self)
   ·exact Nat.le_trans (ih p (List.mem_cons_of_mem _ e)) (Nat.le_succ _)
theorem parts_spl(c:Nat)(L:List Nat):∀(l:List Nat) (k s0:Nat),L.drop k=l→s0≤k→k≤L.length→
 ((s0::(plc c k l).map (· +1)).zip (plc c k l++[L.length])).map (fun (ij:Nat×Nat)=>(L.drop ij.1).take (ij.2-ij.1))=((L.drop s0).take (k-s0)++(spl c l).headD [])::(spl c l).drop 1
 | [],k,s0,h,h1,h2=>by
  have e:k=L.length:=by
   have:=congrArg List.length h
   rw[List.length_drop] at this
   simp at this
   omega
  subst e
  show[(L.drop s0).take (L.length-s0)]=[(L.drop s0).take (L.length-s0)++[]]
  rw[List.append_nil]
 | a::l,k,s0,h,h1,h2=>by
  have kl:k<L.length:=by
   have:=congrArg List.length h
   rw[List.length_drop,List.length_cons] at this
   omega
  have hd:L.drop (k+1)=l:=by
   rw[←List.drop_drop,h]
   rfl
  unfold plc spl
  split
  ·have ih:=parts_spl c L l (k+1) (k+1) hd (Nat.le_refl _) kl
   rw[List.map_cons,List.cons_append,List.zip_cons_cons,List.map_cons,ih,Nat.sub_self,List.take_zero,List.nil_append,←spl_eta]
   show _=((L.drop s0).take (k-s0)++[])::spl c l
   rw[List.append_nil]
  ·have ih:=parts_spl c L l (k+1) s0 hd (by omega) kl
   rw[ih]
   have e:(L.drop s0).take (k+1-s0)=(L.drop s0).take (k-s0)++[a]:=by
    have hk:(L.drop s0)[k-s0]?=some a:=by
     rw[List.getElem?_drop,show s0+(k-s0)=k by omega]
     have:=congrArg (fun z=>z[0]?) h
     simpa [List.getElem?_drop] using this
    rw[show k+1-s0=(k-s0)+1 by omega,List.take_add_one,hk]
    rfl
   rw[e,List.append_assoc]
   rfl
def cps(z:Str):List Nat:=z.cps.toList
theorem cps_len(z:Str):(cps z).length=z.length:=Array.length_toList
theorem occ_run(x:Str)(c:Nat):∀(n k free:Nat) (acc:Array Nat),k+n=x.length+1→free≤k→acc.size≤k→
 (forIn (List.range' k n) (acc,free) (StrLaws.occBody x ⟨#[c]⟩ x.length (x.length+1))).run.fst.toList=acc.toList++plc c k ((cps x).drop k)
 | 0,k,free,acc,h,_,_=>by
  rw[List.drop_of_length_le (by rw[cps_len];omega)]
  show acc.toList=acc.toList++[]
  rw[List.append_nil]
 | n+1,k,free,acc,h,hf,ha=>by
  rw[List.range'_succ,List.forIn_cons]
  have one:(⟨#[c]⟩:Str).length=1:=rfl
  by_cases z:(cps x)[k]?=some c
  ·have kl:k<(cps x).length:=(List.getElem?_eq_some_iff.mp z).1
   have hs:=(StrLaws.subAt_one x c k).mpr z
   have ed:(cps x).drop k=c::(cps x).drop (k+1):=by
    rw[List.drop_eq_getElem_cons kl,(List.getElem?_eq_some_iff.mp z).2]
   have ih:=occ_run x c n (k+1) (k+1) (acc.push k) (by omega) (Nat.le_refl _) (by rw[Array.size_push];omega)
   unfold StrLaws.occBody
   rw[if_pos ⟨⟨⟨by show acc.size<x.length+1;omega,hf⟩,hs.1⟩,hs.2⟩,ed]
   unfold plc
   rw[if_pos rfl]
   have e2:acc.toList++k::plc c (k+1) ((cps x).drop (k+1))=(acc.push k).toList++plc c (k+1) ((cps x).drop (k+1)):=by
    rw[Array.toList_push,List.append_assoc]
    rfl
   rw[e2]
   exact ih
  ·have hs:¬(k+(⟨#[c]⟩:Str).length≤x.length∧subAt x ⟨#[c]⟩ k=true):=fun y=>z ((StrLaws.subAt_one x c k).mp y)
   have ih:=occ_run x c n (k+1) free acc (by omega) (by omega) (by omega)
   have ep:plc c k ((cps x).drop k)=plc c (k+1) ((cps x).drop (k+1)):=by
    by_cases kl:k<(cps x).length
    ·rw[List.drop_eq_getElem_cons kl]
     have:(cps x)[k]≠c:=fun y=>z (by rw[List.getElem?_eq_getElem kl,y])
     show(if (cps x)[k]=c then _ else _)=_
     rw[if_neg this]
    ·rw[List.drop_of_length_le (by omega),List.drop_of_length_le (by omega)]
     rfl
   unfold StrLaws.occBody
   rw[if_neg fun y=>hs ⟨y.1.2,y.2⟩,ep]
   exact ih
theorem occ_plc(x:Str)(c:Nat):occurrences x ⟨#[c]⟩ 0 x.length (x.length+1)=plc c 0 (cps x):=by
 rw[StrLaws.occ_eq]
 have:=occ_run x c (x.length+1) 0 0 #[] (by omega) (Nat.le_refl _) (Nat.le_refl _)
 simpa using this
theorem parts_eq(x:Str)(c:Nat):partsBetween x (plc c 0 (cps x)) 1=(spl c (cps x)).map fun p=>(⟨p.toArray⟩:Str):=by
 have h:=parts_spl c (cps x) (cps x) 0 0 rfl (Nat.le_refl _) (Nat.zero_le _)
 rw[List.take_zero,List.nil_append,←spl_eta] at h
 rw[←h,List.map_map]
 unfold partsBetween
 rw[←cps_len]
 refine List.map_congr_left fun ij _=>?_
 refine str_eq (Array.toList_inj.mp ?_)
 rw[StrLaws.strSub_toList]
 rfl
section
variable{X:Cx}
theorem strs_of:∀(ps:List Str) (tk:Nat),Vals (ps.map V.str) (strsFrom tk ps)
 | [],_=>.nil
 | p::ps,tk=>.cons ⟨tk,rfl⟩ (strs_of ps (tk+1))
theorem strsAre_of:∀{zs:List Str} {us:List Value},Vals (zs.map V.str) us→StrsAre us zs
 | [],_,.nil=>.nil
 | z::zs,_,.cons r rs=>by
  obtain⟨t,rfl⟩:=(show ∃t,_=Value.str z t from r)
  exact .cons z t (strsAre_of rs)
def splS(c:Nat)(z:Str):List Str:=(spl c (cps z)).map fun p=>(⟨p.toArray⟩:Str)
theorem splS_len(c:Nat)(z:Str):(splS c z).length≤z.length+1:=by
 unfold splS
 rw[List.length_map,←plc_len c (cps z) 0,plc_count,←cps_len]
 exact Nat.succ_le_succ List.count_le_length
theorem splS_single{c:Nat}{z:Str}(h:plc c 0 (cps z)=[]):splS c z=[z]:=by
 have e:=parts_eq z c
 rw[h] at e
 unfold splS
 rw[←e]
 show[strSub z 0 z.length]=[z]
 refine congrArg (fun y=>[y]) (str_eq (Array.toList_inj.mp ?_))
 rw[StrLaws.strSub_toList,List.drop_zero,Nat.sub_zero]
 exact List.take_of_length_le (by show z.cps.toList.length≤z.cps.size;rw[Array.length_toList];exact Nat.le_refl _)
def rSplit:V→List V→Hp→VK→Prop:=fun x xs H Q=>∃z c,x=.str z∧xs=[.str ⟨#[c]⟩]∧c<256∧z.length≤1000000∧∀l,H l=none→Q (.ref l) (upd H l (.lst ((splS c z).map V.str)))
theorem mt_split:MtR X "str.split" rSplit:=by
 intro pins s σ H x xs v us Q I rx rs h
 obtain⟨z,c,rfl,rfl,hc,hz,q⟩:=h
 obtain⟨t,rfl⟩:=(show ∃t,v=Value.str z t from rx)
 obtain⟨u,rfl,ru⟩:=vals1 rs
 obtain⟨t',rfl⟩:=(show ∃t,u=Value.str ⟨#[c]⟩ t from ru)
 have sl:z.length+1≤sizeLine:=Nat.le_trans (Nat.succ_le_succ hz) (by decide)
 have one:(⟨#[c]⟩:Str).length=1:=rfl
 have itself:splS c z=[z]→EP X pins σ Q (.ref s.heap.objs.size) { s with heap:=s.heap.push { cls:=.type "list",data:=.seq [Value.str z t].toArray } }:=fun e=>by
  refine⟨.ref _,_,I.laid (a:=s.heap.objs.size) (o:=.lst ((splS c z).map V.str)) (fun _ _ e=>Heap.get?_push_of_some _ e) (Nat.le_refl _) ⟨by rw[e];show 1≤sizeLine;decide,[Value.str z t],0,by rw[e];exact .cons ⟨t,rfl⟩ .nil,Heap.get?_push_size _ rfl⟩,rfl,q _ I.fresh⟩
 by_cases h1:(decide (z.length<(⟨#[c]⟩:Str).length)||decide (PySem.Builtin.Str.strKind z<PySem.Builtin.Str.strKind ⟨#[c]⟩))=true
 ·have e:splS c z=[z]:=by
   have k1:PySem.Builtin.Str.strKind (⟨#[c]⟩:Str)=1:=by
    unfold PySem.Builtin.Str.strKind
    simp[hc]
   have k0:1≤PySem.Builtin.Str.strKind z:=by
    unfold PySem.Builtin.Str.strKind
    repeat' split
    all_goals omega
   rw[k1,one,decide_eq_false (show ¬PySem.Builtin.Str.strKind z<1 by omega),Bool.or_false,decide_eq_true_eq] at h1
   refine splS_single ?_
   have:cps z=[]:=List.length_eq_zero_iff.mp (by rw[cps_len];omega)
   rw[this]
   rfl
  exact call_meets F.slot_str_split (typeIs_str _ _ _) F.entry_str_split (F.args_str_split_2 _ _) (meets_str_split_cannot_occur z ⟨#[c]⟩ t t' h1) (itself e)
 ·have h1':=(Bool.not_eq_true _).mp h1
  by_cases h2:(occurrences z ⟨#[c]⟩ 0 z.length (z.length+1)).isEmpty=true
  ·have e:splS c z=[z]:=by
    rw[occ_plc,List.isEmpty_iff] at h2
    exact splS_single h2
   exact call_meets F.slot_str_split (typeIs_str _ _ _) F.entry_str_split (F.args_str_split_2 _ _) (meets_str_split_not_found z ⟨#[c]⟩ t t' h1' rfl h2) (itself e)
  ·have h2':=(Bool.not_eq_true _).mp h2
   have ep:partsBetween z (occurrences z ⟨#[c]⟩ 0 z.length (z.length+1)) (⟨#[c]⟩:Str).length=splS c z:=by rw[occ_plc];exact parts_eq z c
   refine call_meets F.slot_str_split (typeIs_str _ _ _) F.entry_str_split (F.args_str_split_2 _ _) (meets_str_split_sep z ⟨#[c]⟩ t t' h1' rfl h2' (by omega) (by rw[ep];exact Nat.le_trans (splS_len c z) sl)) ?_
   rw[ep]
   exact⟨.ref _,_,I.laid (a:=s.heap.objs.size) (o:=.lst ((splS c z).map V.str)) (fun _ _ e=>Heap.get?_push_of_some _ e) (Nat.le_refl _) ⟨by rw[List.length_map];exact Nat.le_trans (splS_len c z) sl,strsFrom s.toks (splS c z),0,strs_of _ _,Heap.get?_push_size _ rfl⟩,rfl,q _ I.fresh⟩
def rJoin(K:PySem.W.Frag):V→List V→Hp→VK→Prop:=fun x xs H Q=>∃z l zs,x=.str z∧xs=[.ref l]∧SqL K H l (zs.map V.str)∧(zs.map (·.length)).sum+zs.length*z.length≤16777216∧Q (.str (Txt.join z zs)) H
theorem mt_join:MtR X "str.join" (rJoin X.K):=by
 intro pins s σ H x xs v us Q I rx rs h
 obtain⟨z,l,zs,rfl,rfl,hl,hz,q⟩:=h
 obtain⟨t,rfl⟩:=(show ∃t,v=Value.str z t from rx)
 obtain⟨u,rfl,ru⟩:=vals1 rs
 obtain rfl:u=Value.ref l:=ru
 obtain⟨its,r,pl,_⟩:=I.list hl
 exact join_list pl.isList (by simpa using strsAre_of r) hz fun t' k=>⟨.str _,H,I.tok _,⟨_,rfl⟩,q⟩
theorem mt_zfill:MtR X "str.zfill" (fun x xs H Q=>∃z n,x=.str z∧xs=[.int n]∧0≤n∧n≤1000∧(¬n≤(z.length:Int)→(zfilled z (n.toNat-z.length)).length≤sizeLine)∧Q (.str (if n≤(z.length:Int) then z else zfilled z (n.toNat-z.length))) H):=by
 intro pins s σ H x xs v us Q I rx rs h
 obtain⟨z,n,rfl,rfl,n0,n1,hz,q⟩:=h
 obtain⟨t,rfl⟩:=(show ∃t,v=Value.str z t from rx)
 obtain⟨u,rfl,ru⟩:=vals1 rs
 obtain⟨t',rfl⟩:=(show ∃t,u=Value.int n t from ru)
 have hr:(decide (n< -(2^63:Int))||decide (n≥2^63))=false:=by
  rw[Bool.or_eq_false_iff]
  exact⟨decide_eq_false (by omega),decide_eq_false (by omega)⟩
 have hl:tooLong n.toNat=false:=by
  have:(1000:Nat)<sizeLine:=by decide
  unfold tooLong
  exact decide_eq_false (by omega)
 refine call_gives F.slot_str_zfill (typeIs_str _ _ _) F.entry_str_zfill (F.args_str_zfill_2 _ _) (gives_str_zfill z n t t' hr hl) ?_
 by_cases c:n≤(z.length:Int)
 ·rw[if_pos c] at q ⊢
  exact⟨.str _,H,I,⟨_,rfl⟩,q⟩
 ·rw[if_neg c] at q ⊢
  exact⟨hz c,.str _,H,I.tok _,⟨_,rfl⟩,q⟩
end
end L2
set_option Elab.async false
set_option linter.all false
set_option maxRecDepth 100000
set_option maxHeartbeats 4000000
namespace L2
open PySem PySem.Spec PyProof.Rows
section
variable{s:Shared}{A:Around}{w:World}{prog:Program}
theorem lr_ext{R:Result→Shared→Prop}{g:Addr}{x y d:Int}{t1 t2 t3:Tok}{k:Nat}(ha:A.handled=none)(hg:IsRange s.heap g x y d t1 t2 t3)(big:Builtin.Range.small x y d=false)(ek:Builtin.Range.rangeSize x y d=k)(fits:k≤2^24)(L:Addr)(res:Value)(m0:Nat)
 (hL:s.heap.get? L=some { cls:=.type "list",data:=.seq #[] m0 })
 (fin:∀hp tk ys m,(∀e o,e≠L→s.heap.get? e=some o→hp.get? e=some o)→hp.get? L=some { cls:=.type "list",dict:=none,data:=.seq ys m,slots:= #[] }→ItemsOf (fun i v=>∃t,v=.int (x+i*d) t) ys k→R (.ok (.ret res)) { s with heap:=hp,toks:=tk }):
 wpAny (model prog w) A.in1 (Builtin.List.listExtendWith (.ref L) (.ref g) res)
  (fun z s'=>match z with | .done f=>R (.ok f) s' | .again m=>m.quiet=true∧codeAny (model prog w) A m R s') (fun e s'=>R (.error e) s') s:=by
 have Lg:L≠g:=fun z=>by rw[z,hg] at hL;simp at hL
 have Ll:L<s.heap.objs.size:=Heap.lt_size hL
 have Ln:L≠s.heap.objs.size:=Nat.ne_of_lt Ll
 have Lm:L∉[s.heap.objs.size]:=fun z=>Ln (List.mem_singleton.mp z)
 have Wl:=(Walks.longrange (prog:=prog) (w:=w) (A:=A.in1) ha s.heap.objs.size x d k).toS
 have loop:∀(hp:Heap) (m tk:Nat),IsLongIter hp s.heap.objs.size (x+((0:Nat):Int)*d) ((k:Int)-((0:Nat):Int)) d→(∀e o,e≠L→s.heap.get? e=some o→hp.get? e=some o)→hp.get? L=some { cls:=.type "list",data:=.seq #[] m }→
  codeAny (model prog w) A (.builtin "list.extend.loop" ⟨[.ref L,.ref s.heap.objs.size,res],[]⟩) R { s with heap:=hp,toks:=tk }:=fun hp m tk it keep hL1=>by
  refine codeAny_extend_loopS Wl (by rw[sizeLine_eq];omega) L Lm res k 0 _ #[] m rfl (Nat.zero_le _) it hL1 (ItemsOf.nil _) fun s2 ys m2 mv hL2 hy=>?_
  rw[Moved.eq_with mv]
  refine fin s2.heap s2.toks ys m2 (fun e o ne he=>mv.heap e o (fun z=>?_) (keep e o ne he)) hL2 hy
  have el:=Heap.lt_size he
  rcases List.mem_cons.mp z with z1 | z1
  ·exact ne z1
  ·exact absurd el (by rw[List.mem_singleton.mp z1];exact Nat.lt_irrefl _)
 unfold Builtin.List.listExtendWith;refine wpAny_bind (wpAny_typeOf (T:="range") ⟨_,hg,rfl⟩ ?_)
 have q1:Builtin.List.listSameRef (.ref L) (.ref g)=false:=by unfold Builtin.List.listSameRef;simp[Lg]
 simp only[q1,show(Value.type "range"==Value.type "list")=false by decide,show(Value.type "range"==Value.type "tuple")=false by decide,Bool.or_false,Bool.false_eq_true,if_false]
 refine wpAny_bind (wpAny_pyIter_longrange hg big ?_)
 refine wpAny_bind (wpAny_holding (wpAny_hint_range (n:=k) (Heap.get?_push_of_some _ hg) ek fits ?_))
 have it1:IsLongIter (s.heap.push { cls:=.type "longrange_iterator",data:=.fields #[rawInt x,rawInt (Builtin.Range.rangeSize x y d),rawInt d] }) s.heap.objs.size (x+((0:Nat):Int)*d) ((k:Int)-((0:Nat):Int)) d:=by
  rw[ek]
  show Heap.get? _ _=_
  simpa using Heap.get?_push_size s.heap rfl
 have L1:=Heap.get?_push_of_some { cls:=.type "longrange_iterator",data:=.fields #[rawInt x,rawInt (Builtin.Range.rangeSize x y d),rawInt d] } hL
 refine wpAny_ite_split (fun _=>?_) (fun _=>wpAny_pure ⟨plainId_quiet F.plain_extend_loop _,loop _ m0 _ it1 (fun e o _ he=>Heap.get?_push_of_some _ he) L1⟩)
 refine wpAny_bind (wpAny_rule (wpAny_bind ?_))
 show wpAny _ _ (updateSeq L (·.push .none) >>= fun _=>updateSeq L (·.pop)) _ _ _
 refine wpAny_bind (wpAny_updateSeq L1 rfl ?_)
 have L2':=Heap.get?_update_self (Obj.mapSeq (·.push Value.none)) L1 rfl
 refine wpAny_updateSeq (hz:=by seq_fits) L2' rfl ?_
 have L3:=Heap.get?_update_self (Obj.mapSeq (·.pop)) L2' rfl
 refine wpAny_pure ⟨plainId_quiet F.plain_extend_loop _,loop _ _ _ ?_ (fun e o ne he=>?_) L3⟩
 ·exact(Heap.get?_update_other _ _ Ln).trans ((Heap.get?_update_other _ _ Ln).trans it1)
 ·rw[Heap.get?_update_other _ _ (Ne.symm ne),Heap.get?_update_other _ _ (Ne.symm ne)]
  exact Heap.get?_push_of_some _ he
theorem lr_init{R:Result→Shared→Prop}{g:Addr}{x y d:Int}{t1 t2 t3:Tok}{k:Nat}(ha:A.handled=none)(hg:IsRange s.heap g x y d t1 t2 t3)(big:Builtin.Range.small x y d=false)(ek:Builtin.Range.rangeSize x y d=k)(fits:k≤2^24)(L:Addr)
 (hL:s.heap.get? L=some { cls:=.type "list",data:=.seq #[] })
 (fin:∀hp tk ys m,(∀e o,e≠L→s.heap.get? e=some o→hp.get? e=some o)→hp.get? L=some { cls:=.type "list",dict:=none,data:=.seq ys m,slots:= #[] }→ItemsOf (fun i v=>∃t,v=.int (x+i*d) t) ys k→R (.ok (.ret .none)) { s with heap:=hp,toks:=tk }):
 wpAny (model prog w) A.in1 (Builtin.«list.__init__» ⟨[.ref L,.ref g],[]⟩)
  (fun z s'=>match z with | .done f=>R (.ok f) s' | .again m=>m.quiet=true∧codeAny (model prog w) A m R s') (fun e s'=>R (.error e) s') s:=by
 have Lg:L≠g:=fun z=>by rw[z,hg] at hL;simp at hL
 show wpAny _ _ (Builtin.List.listItems (.ref L) >>= fun old=>Builtin.List.listUpdate (.ref L) (fun _=> #[]) >>= fun _=>letGo old.toList.reverse >>= fun _=>Builtin.List.listExtendWith (.ref L) (.ref g) .none) _ _ s
 refine wpAny_bind ?_
 unfold Builtin.List.listItems
 refine wpAny_bind (wpAny_seqItems hL rfl (wpAny_pure ?_))
 show wpAny _ _ (updateSeq L (fun _=> #[]) >>= fun _=>letGo (#[]:Array Value).toList.reverse >>= fun _=>Builtin.List.listExtendWith (.ref L) (.ref g) .none) _ _ s
 refine wpAny_bind (wpAny_updateSeq hL rfl ?_)
 have L1:=Heap.get?_update_self (Obj.mapSeq (fun _=>(#[]:Array Value))) hL rfl
 have keep:∀e o,e≠L→s.heap.get? e=some o→(s.heap.update L (Obj.mapSeq (fun _=>(#[]:Array Value)))).get? e=some o:=fun e o ne he=>by
  rw[Heap.get?_update_other _ _ (Ne.symm ne)]
  exact he
 refine wpAny_bind (wpAny_letGo (lr_ext ha (keep g _ (Ne.symm Lg) hg) big ek fits L .none _ L1 fun hp tk ys m k1 k2 k3=>?_))
 exact fin hp tk ys m (fun e o ne he=>k1 e o ne (keep e o ne he)) k2 k3
theorem lr_call{E:Value→Shared→Prop}{Q:Value→Shared→Prop}{g:Addr}{x y d:Int}{t1 t2 t3:Tok}{k:Nat}(ha:A.handled=none)(hg:IsRange s.heap g x y d t1 t2 t3)(ek:Builtin.Range.rangeSize x y d=k)(fits:k≤2^24)
 (fin:∀hp tk ys m,(∀e o,s.heap.get? e=some o→hp.get? e=some o)→hp.get? s.heap.objs.size=some { cls:=.type "list",dict:=none,data:=.seq ys m,slots:= #[] }→ItemsOf (fun i v=>∃t,v=.int (x+i*d) t) ys k→Q (.ref s.heap.objs.size) { s with heap:=hp,toks:=tk }):
 wpAny (model prog w) A (call (.type "list") [.ref g]) Q E s:=by
 by_cases sm:Builtin.Range.small x y d=true
 ·exact call_list_range ha hg sm ek fits fin
 have big:Builtin.Range.small x y d=false:=by simpa using sm
 refine callType_codes (Q₁:=fun u s2=>u=.ref s.heap.objs.size∧s2={ s with heap:=s.heap.push { cls:=.type "list",data:=.seq #[] } }) F.called_list (F.typeCall_list_1 _) F.entry_list_init (code_list_new _ ⟨rfl,rfl⟩) fun u s2 z=>?_
 obtain⟨rfl,rfl⟩:=z
 have L0:(s.heap.push { cls:=.type "list",data:=.seq #[] }).get? s.heap.objs.size=some { cls:=.type "list",data:=.seq #[] }:=Heap.get?_push_size _ rfl
 refine⟨⟨_,L0,rfl⟩,F.args_list_init_2 _ _,lr_init (A:=A.in1) ha (Heap.get?_push_of_some _ hg) big ek fits _ L0 fun hp tk ys m k1 k2 k3=>⟨rfl,?_⟩⟩
 refine fin hp tk ys m (fun e o he=>k1 e o ?_ (Heap.get?_push_of_some _ he)) k2 k3
 exact Nat.ne_of_lt (Heap.lt_size he)
end
section
variable{X:Cx}
def tLRA(ta:TA):TE:=fun σ H Q=>ta σ H fun vs H1=>∃(i j:Int),vs=[.int i,.int j]∧i≤j∧j-i≤1000000∧
 ∀l,H1 l=none→Q (.ref l) (upd H1 l (.lst ((List.range (j-i).toNat).map fun(k:Nat)=>V.int (i+(k:Int)))))
theorem rd_lra{ta:TA}{σ:St}{H:Hp}{Q:VK}(h:ta σ H fun vs H1=>∃(i j:Int),vs=[.int i,.int j]∧i≤j∧j-i≤1000000∧
 ∀l,H1 l=none→Q (.ref l) (upd H1 l (.lst ((List.range (j-i).toNat).map fun(k:Nat)=>V.int (i+(k:Int)))))):tLRA ta σ H Q:=h
theorem pe_lrangeA{a b:Expr}{ta:TA}{p p2 pos pos2:Pos}(hc:X.calm=true)(hgl:Gl X "list")(hml:X.mg "list"=none)(hgr:Gl X "range")(hmr:X.mg "range"=none)(ha:PA X [a,b] ta)
 (hs:starEach [a,b] X.env=(false,eval a X.env)::starEach [b] X.env:=by rfl)(hpl:(backTo pos2 (starEach [b] X.env)).any (·.1)=false:=by rfl)
 (hs1:starEach [.Call (.Name "range" p2) [a,b] [] pos2] X.env=(false,eval (.Call (.Name "range" p2) [a,b] [] pos2) X.env)::starEach [] X.env:=by rfl):
 PE X (.Call (.Name "list" p) [.Call (.Name "range" p2) [a,b] [] pos2] [] pos) (tLRA ta):=by
 intro pins s σ H Q I h
 refine wpAny_Call_Name_kw (ld_blt I hgl hml boot_list ?_ (by decide) (by decide))
 refine PyProof.Rows.callWith_type1 ?_ hs1 rfl
 rw[hs1]
 show wpAny _ _ (spliced ((false,eval _ X.env)::backTo pos (starEach [] X.env))) _ _ s
 refine Calls.spliced_cons ?_
 refine Call_ (ld_blt I hgr hmr boot_range (PyProof.Rows.callWith_type1 (thn (ha pos2 pins s σ H _ I h) fun us s1 ⟨vs,H1,I1,r1,q1⟩=>?_) hs hpl))
 obtain⟨i,j,rfl,ij,hz,q⟩:=q1
 cases r1 with
 | cons r rr=>
  cases rr with
  | cons r' rr=>
   cases rr
   obtain⟨t,rfl⟩:=r
   obtain⟨t',rfl⟩:=r'
   refine call_range_2 (Calls.spliced_nil ?_)
   have I2:Inv X pins σ H1 { s1 with heap:=s1.heap.push { cls:=.type "range",data:=.fields #[.int i t,.int j t',.int 1 s1.toks] },toks:=s1.toks+1 }:=I1.kept fun b o e=>Heap.get?_push_of_some _ e
   have en:Builtin.Range.rangeSize i j 1=(((j-i).toNat:Nat):Int):=by rw[rangeSize_one];split<;>omega
   refine lr_call (I2.ok.hd hc) (IsRange.new ..) en (by omega) fun h' tk acc' c' hk hS' hacc=>?_
   have hl:acc'.toList.length=(j-i).toNat:=by simpa using hacc.1
   have ef:(fun (k:Nat)=>V.int (i+(k:Int)))=fun(k:Nat)=>V.int (i+(k:Int)*1):=by funext k;rw[Int.mul_one]
   rw[ef] at q
   refine⟨.ref _,_,I2.laid (o:=.lst ((List.range (j-i).toNat).map fun(k:Nat)=>V.int (i+(k:Int)*1))) hk (Nat.le_refl _) ⟨?_,acc'.toList,c',?_,by simpa using hS'⟩,rfl,q _ I2.fresh⟩
   ·rw[List.length_map,List.length_range,sizeLine_eq]
    omega
   ·have:=vals_of_itemsS (lo:=i) (c:=1) acc'.toList 0 fun j v hv=>by rw[Nat.zero_add];exact hacc.2 j v (by simpa using hv)
    rw[hl,←List.range_eq_range'] at this
    exact this
end
end L2
set_option Elab.async false
set_option linter.all false
set_option maxRecDepth 100000
set_option maxHeartbeats 4000000
namespace L2
open PySem PySem.Spec PyProof.Rows
section
variable{X:Cx}
end
end L2
set_option Elab.async false
set_option linter.all false
set_option maxRecDepth 100000
set_option maxHeartbeats 4000000
namespace L2
open PySem PySem.Spec PyProof.Rows
section
variable{M:Model}{A:Around}{E:Value→Shared→Prop}{s:Shared}{base:Heap}{env:Env}{outer l:List Env}{L e:Addr}{cls:Value}{dd:Option Addr}{fl:Value}
theorem note_any{Q:Unit→Shared→Prop}(hfr:A.frames=some (env::outer))(hf:env.frame=some L)(S:Sea base (env::outer) e s.heap)(O:XTr s.heap base e cls dd fl)
 (k:∀h',Sea base (env::outer) e h'→XTr h' base e cls dd (rawInt L)→s.heap.UpToSlots h'→Q () { s with heap:=h' }):wpAny M A (noteFrame (.ref e) env) Q E s:=by
 by_cases z:(fl==rawInt L)=true
 ·have e1:fl=rawInt L:=by simpa using z
  subst e1
  exact note_again hf O (k s.heap S O fun b o q _=>⟨o.slots,q⟩)
 obtain⟨T,⟨vs,sl,he,h1⟩,tb,ne,oT,ts,hT,dT,h3⟩:=O
 unfold noteFrame
 simp only[hf]
 refine wpAny_bind (wpAny_field he rfl h1 ?_)
 rw[if_pos (show (Value.ref T != Value.none)=true by simp)]
 refine wpAny_bind (wpAny_field hT dT h3 ?_)
 rw[if_neg z]
 refine wpAny_bind (wpAny_setField hT dT (Array.getElem?_eq_some_iff.mp h3).1 ?_)
 have oth:∀b,b≠T→(s.heap.update T (Obj.mapFields (·.setIfInBounds 3 Value.none))).get? b=s.heap.get? b:=fun b hb=>Heap.get?_update_other _ _ (Ne.symm hb)
 have nT:∀b o,s.heap.get? b=some o→(∀ws,o.data≠.fields ws)→b≠T:=fun b o q hn z=>by
  rw[z,hT] at q
  cases q
  exact hn ts dT
 refine entry_x (hd0:=.ref T) (s:={ s with heap:=s.heap.update T (Obj.mapFields (·.setIfInBounds 3 Value.none)) }) hfr hf ⟨fun b o q=>?_,S.new,?_⟩ ⟨vs,sl,(oth e (Ne.symm ne)).trans he,h1⟩ fun h' a b c=>k h' a b fun x o q hn=>?_
 ·exact(oth b fun z=>by rw[z,tb] at q;cases q).trans (S.stays b o q)
 ·exact S.frames.of_keeps fun b o q hn=>⟨o,(oth b (nT b o q hn)).trans q,rfl⟩
 ·exact c x o ((oth x (nT x o q hn)).trans q) hn
theorem leave_any{Q:Unit→Shared→Prop}(hfr:A.frames=some (env::outer))(hf:env.frame=some L)(S:Sea base (env::outer) e s.heap)(O:XTr s.heap base e cls dd fl)
 (k:∀h',Sea base outer e h'→XTr h' base e cls dd .none→s.heap.UpToSlots h'→Q () { s with heap:=h' }):wpAny M A (leaving env (.ref e)) Q E s:=by
 unfold leaving
 refine wpAny_bind (note_any hfr hf S O fun h1 S1 O1 u1=>?_)
 exact flight_off (s:={ s with heap:=h1 }) S1 O1 fun h2 S2 O2 u2=>k h2 (Sea.tail (s:={ s with heap:=h2 }) S2) O2 (u1.trans u2)
theorem flight_set{Q:Unit→Shared→Prop}(f:Option Addr)(S:Sea base l e s.heap)(O:XTr s.heap base e cls dd fl)
 (k:∀h' fl',Sea base l e h'→XTr h' base e cls dd fl'→s.heap.UpToSlots h'→Q () { s with heap:=h' }):wpAny M A (setFlight (.ref e) f) Q E s:=by
 obtain⟨T,⟨vs,sl,he,h1⟩,tb,ne,oT,ts,hT,dT,h3⟩:=O
 have sz:3<ts.size:=(Array.getElem?_eq_some_iff.mp h3).1
 unfold setFlight
 refine wpAny_bind (wpAny_field he rfl h1 ?_)
 rw[if_pos (show (Value.ref T != Value.none)=true by simp)]
 have oth:∀b,b≠T→(s.heap.update T (Obj.mapFields (·.setIfInBounds 3 (f.elim Value.none fun g=>rawInt g)))).get? b=s.heap.get? b:=fun b hb=>Heap.get?_update_other _ _ (Ne.symm hb)
 have nT:∀b o,s.heap.get? b=some o→(∀ws,o.data≠.fields ws)→b≠T:=fun b o q hn z=>by
  rw[z,hT] at q
  cases q
  exact hn ts dT
 refine wpAny_setField hT dT sz (k _ (f.elim Value.none fun g=>rawInt g) ⟨fun b o q=>?_,S.new,?_⟩ ⟨T,⟨vs,sl,(oth e (Ne.symm ne)).trans he,h1⟩,tb,ne,_,ts.setIfInBounds 3 (f.elim Value.none fun g=>rawInt g),Heap.get?_update_self _ hT ?_,?_,?_⟩ fun b o q hn=>⟨o.slots,(oth b (nT b o q hn)).trans q⟩)
 ·exact(oth b fun z=>by rw[z,tb] at q;cases q).trans (S.stays b o q)
 ·exact S.frames.of_keeps fun b o q hn=>⟨o,(oth b (nT b o q hn)).trans q,rfl⟩
 ·(rw [fields_set dT];try rfl)
 ·(rw [fields_set dT];try rfl)
 ·rw[Array.getElem?_setIfInBounds_self_of_lt sz]
theorem pass_any{α:Type}{Q:α→Shared→Prop}(what:String)(cenv:Env)(S:Sea base l e s.heap)(O:XTr s.heap base e cls dd fl)
 (k:∀h' fl',Sea base l e h'→XTr h' base e cls dd fl'→s.heap.UpToSlots h'→E (.ref e) { s with heap:=h' }):wpAny M A (PySem.passOn what (.ref e) cenv:Sem α) Q E s:=by
 have O':=O
 obtain⟨T,⟨vs,sl,he,h1⟩,tb,ne,oT,ts,hT,dT,h3⟩:=O
 unfold PySem.passOn
 refine wpAny_bind (wpAny_field he rfl h1 ?_)
 rw[if_neg (show ¬((Value.ref T==Value.none)=true) by simp)]
 refine wpAny_bind (flight_set _ S O' fun h' fl' a b c=>?_)
 exact wpAny_throw (k h' fl' a b c)
end
def CXA(P:Program)(w:World):CXT:=fun outer H s E e s'=>∃(ea:Addr) (cls:Value) (dx:Option Addr) (fl:Value) (B:Heap) (H':Hp),e=.ref ea∧s'.os=s.os∧AllBare s'.gens∧Un (frs outer) [] H H' s.heap s'.heap∧
 HOk P w H' s'.heap∧Sea B outer ea s'.heap∧XTr s'.heap B ea cls dx fl∧Old (frs outer) H s.heap B∧Tra H' s'.heap B∧E cls dx H'
structure ThrN(X:Cx)(E:XK):Prop where
 fr:X.env.frame=some X.env.locals
 st:X.stack=X.env::X.outer
 noted:∀(pins:List (Addr×Obj)) (σ:St) (H:Hp) (s:Shared) (e:Value) (s':Shared),Inv X pins σ H s→CXA X.prog X.w X.stack H s E e s'→X.xe e s'
theorem thrN_fn{P:Program}{w:World}{K:PySem.W.Frag}{mg:Str→Option Value}{base:Heap}{N:List Str}{qual:Str}{scope:Scope}{f:Addr}{cd:Value}{A:Around}{outer:List Env}{s₀:Shared}{H₀:Hp}{E:XK}:
 ThrN (cxOf (CX1 P w) P w K mg base N qual scope f cd A outer s₀ H₀ E) E where
 fr:=rfl
 st:=rfl
 noted:=by
  rintro pins σ H s e s' I ⟨ea,cls,dx,fl,B,H',rfl,os,bare,un,hok,sea,tr,old,tra,q⟩
  refine leave_any (A:=(cxOf (CX1 P w) P w K mg base N qual scope f cd A outer s₀ H₀ E).A) I.ok.frames rfl sea tr fun h2 S2 O2 u2=>?_
  refine⟨ea,cls,dx,B,H',rfl,os.trans I.os,bare,?_,hok_flown hok tra S2.stays,S2,O2,old_out I rfl old,tra.later S2.stays,q⟩
  exact un_out I rfl rfl rfl (un_flown un old S2.stays u2 (frames_are I un))
theorem note_comp(e:Value)(scope:Scope)(cl:List (Str×Addr))(C:Addr)(env:Env):noteFrame e (compEnvC scope cl C env)=noteFrame e env:=by
 unfold noteFrame PySem.frameOf
 rfl
section
variable{X:Cx}{pins:List (Addr×Obj)}{σ:St}{H H':Hp}{s:Shared}{C ea:Addr}{cls:Value}{dx:Option Addr}{B h1 h2 h3:Heap}{fl:Value}
theorem un_hide(un:Un (frs X.stack) [] H H' s.heap h1):Un (frs X.stack) [] H H' (PySem.W.hideAll s.heap [C]) (PySem.W.hideAll h1 [C]) where
 keep:=fun b o q n hb hx=>by
  have hC:b∉[C]:=fun z=>by rw[PySem.W.hideAll_none _ z] at q;cases q
  exact PySem.W.hideAll_get _ (un.keep b o (PySem.W.of_hideAll _ q) n hb hx) hC
 slot:=fun b o q n hb hx=>by
  have hC:b∉[C]:=fun z=>by rw[PySem.W.hideAll_none _ z] at q;cases q
  obtain⟨sl,e⟩:=un.slot b o (PySem.W.of_hideAll _ q) n hb hx
  exact⟨sl,PySem.W.hideAll_get _ e hC⟩
 free:=fun b o q n hx=>un.free b o (PySem.W.of_hideAll _ q) n hx
 there:=fun b o q hx=>by
  have hC:b∉[C]:=fun z=>by rw[PySem.W.hideAll_none _ z] at q;cases q
  obtain⟨o',e⟩:=un.there b o (PySem.W.of_hideAll _ q) hx
  exact⟨o',PySem.W.hideAll_get _ e hC⟩
 tups:=un.tups
 frzs:=un.frzs
 tbls:=un.tbls
theorem cx_hide{s':Shared}{E:XK}(I:Inv X pins σ H s)(hC:H C=none)(hCs:∃o,s.heap.get? C=some o)(nf:C∉frs X.stack)(nfe:∀env∈X.stack,∀a∈[C],env.frame≠some a)
 (os:s'.os=s.os)(bare:AllBare s'.gens)(un:Un (frs X.stack) [] H H' s.heap s'.heap)(hok:HOk X.prog X.w H' s'.heap)(old:Old (frs X.stack) H s.heap B)(tra:Tra H' s'.heap B)
 (S1:Sea B X.stack ea h1)(u1:s'.heap.UpToSlots h1)(sb:Heap.SameBut C h1 h2)(q:E cls dx H')
 (S3:Sea (PySem.W.hideAll B [C]) X.stack ea h3)(O3:XTr h3 (PySem.W.hideAll B [C]) ea cls dx fl)(u3:h2.UpToSlots h3):
 CXA X.prog X.w X.stack H { s with heap:=PySem.W.hideAll s.heap [C] } E (.ref ea) { s' with heap:=h3 }:=by
 have ne:∀{h:Heap} {b:Addr} {o:Obj},(PySem.W.hideAll h [C]).get? b=some o→b∉[C]:=fun{h b o} q z=>by rw[PySem.W.hideAll_none _ z] at q;cases q
 have old':Old (frs X.stack) H (PySem.W.hideAll s.heap [C]) (PySem.W.hideAll B [C]):=fun b u e hb=>by
  obtain⟨u',e1,z⟩:=old b u (PySem.W.of_hideAll _ e) hb
  exact⟨u',PySem.W.hideAll_get _ e1 (ne e),z⟩
 have C':H' C=none:=by
  obtain⟨o,ho⟩:=hCs
  exact un.free C o ho hC (by simp)
 have tra':Tra H' s'.heap (PySem.W.hideAll B [C]):=fun b o e=>by
  obtain⟨u,e1,e2⟩:=tra b o e
  exact⟨u,e1,PySem.W.hideAll_get _ e2 fun z=>by rw[List.mem_singleton.mp z,C'] at e;cases e⟩
 have up:(PySem.W.hideAll s'.heap [C]).UpToSlots h3:=fun b o e hn=>by
  have nC:=ne e
  obtain⟨sl,e1⟩:=u1 b o (PySem.W.of_hideAll _ e) hn
  have e2:h2.get? b=some { o with slots:=sl }:=(sb.2 b fun z=>nC (by rw[z];exact List.mem_singleton.mpr rfl)).trans e1
  obtain⟨sl',e3⟩:=u3 b _ e2 hn
  exact⟨sl',e3⟩
 refine⟨ea,cls,dx,fl,PySem.W.hideAll B [C],H',rfl,os,bare,?_,hok_flown hok tra' S3.stays,S3,O3,old',tra'.later S3.stays,q⟩
 refine un_flown (un_hide (C:=C) un) old' S3.stays up fun b hb=>?_
 obtain⟨o,e,hn⟩:=frames_are I un b hb
 exact⟨o,PySem.W.hideAll_get _ e (fun z=>nf (by rw[←List.mem_singleton.mp z];exact hb)),hn⟩
end
section
variable{X:Cx}{pins:List (Addr×Obj)}{σ:St}{H2:Hp}{s2:Shared}{M:List Str}{x:Str}{scope:Scope}{cl:List (Str×Addr)}{C:Addr}{fp:List Addr}{E:XK}{Qe:Value→Shared→Prop}{acc:Value}
theorem thr_comp(I2:Inv X pins σ H2 s2)(TN:ThrN X E)(hCle:s2.heap.objs.size≤C)(f2:∀b∈fp,FpOk X pins H2 b):
 Thr ((compCx X M x scope cl C s2 H2 fp).wish (notedBy (model X.prog X.w) X.A (compEnvC scope cl C X.env) fun e s'=>compPost (model X.prog X.w) X.A X.xe none Qe acc C (.error e) s')) (fun c d _ H'=>E c d H'):=by
 have nf:C∉frs X.stack:=fun z=>by
  obtain⟨_,o,ho,_⟩:=I2.stack.mem z
  exact Nat.lt_irrefl _ (Nat.lt_of_lt_of_le (Heap.lt_size ho) hCle)
 have nfe:∀env∈X.stack,∀a∈[C],env.frame≠some a:=fun env he a ha z=>nf (by rw[←List.mem_singleton.mp ha];exact List.mem_filterMap.mpr ⟨env,he,z⟩)
 have hfr:X.A.frames=some (X.env::X.outer):=by rw[I2.ok.frames,TN.st]
 have core:∀{pins':List (Addr×Obj)} {σ':St} {H H':Hp} {s s':Shared} {ea:Addr} {cls:Value} {dx:Option Addr} {B h1:Heap},
  Inv (compCx X M x scope cl C s2 H2 fp) pins' σ' H s→s'.os=s.os→AllBare s'.gens→Un (frs X.stack) [] H H' s.heap s'.heap→HOk X.prog X.w H' s'.heap→Old (frs X.stack) H s.heap B→Tra H' s'.heap B→E cls dx H'→
  Sea B X.stack ea h1→XTr h1 B ea cls dx (rawInt X.env.locals)→s'.heap.UpToSlots h1→compPost (model X.prog X.w) X.A X.xe none Qe acc C (.error (.ref ea)) { s' with heap:=h1 }:=by
  intro pins' σ' H H' s s' ea cls dx B h1 I' os bare un hok old tra q S1 O1 u1
  have IO:Inv X pins σ H s:=I2.call' (ch:=fp) I'.os I'.base I'.hok I'.bare fun b hb=>⟨(f2 b hb).2.2.2.1,(f2 b hb).2.1,(f2 b hb).2.2.2.2.1,(f2 b hb).2.2.2.2.2⟩
  have hC:H C=none:=I'.free
  have fC:=I2.fpOk hCle (show H C=none from hC)
  obtain⟨m,⟨o,es,ep,ho,hd,sk,fd⟩,_⟩:=I'.loc
  have ho:s.heap.get? C=some o:=ho
  have e1:=un.keep C o ho hC nf (by simp)
  obtain⟨sl,e2⟩:=u1 C o e1 (fun vs z=>by rw[hd] at z;cases z)
  refine⟨m,⟨{ o with slots:=sl },es,ep,e2,hd,sk,fd⟩,fun h2 sb cenv hcenv=>?_⟩
  have ne:∀{h:Heap} {b:Addr} {o:Obj},(PySem.W.hideAll h [C]).get? b=some o→b≠C:=fun{h b o} q z=>by rw[PySem.W.hideAll_none _ (List.mem_singleton.mpr z)] at q;cases q
  have dC:∀{b:Addr} {ob:Obj} {vs:Array Value},h1.get? b=some ob→ob.data=.fields vs→b≠C:=fun{b ob vs} q z y=>by
   rw[y,e2] at q
   cases q
   rw[show ({ o with slots:=sl }:Obj).data=o.data from rfl,hd] at z
   cases z
  have S2:Sea (PySem.W.hideAll B [C]) X.stack ea h2:=by
   refine⟨fun b ob q=>(sb.2 b (ne q)).trans (S1.stays b ob (PySem.W.of_hideAll _ q)),?_,?_⟩
   ·cases hh:(PySem.W.hideAll B [C]).get? ea with
    | none=>rfl
    | some u=>
     have:=PySem.W.of_hideAll _ hh
     rw[S1.new] at this
     cases this
   ·refine PySem.W.funFrames_base (B:=B) (fun b ob q=>PySem.W.of_hideAll _ q) ?_
    exact(PySem.W.funFrames_hideAll S1.frames nfe).of_keeps fun b ob q hn=>⟨ob,(sb.2 b (ne q)).trans (PySem.W.of_hideAll _ q),rfl⟩
  have O2:XTr h2 (PySem.W.hideAll B [C]) ea cls dx (rawInt X.env.locals):=by
   obtain⟨T,⟨vs,sl',he,hv⟩,tb,nT,oT,ts,hT,dT,h3⟩:=O1
   refine⟨T,⟨vs,sl',(sb.2 ea (dC he rfl)).trans he,hv⟩,?_,nT,oT,ts,(sb.2 T (dC hT dT)).trans hT,dT,h3⟩
   cases hh:(PySem.W.hideAll B [C]).get? T with
   | none=>rfl
   | some u=>
    have:=PySem.W.of_hideAll _ hh
    rw[tb] at this
    cases this
  refine pass_any (s:={ s' with heap:=h2 }) _ cenv S2 O2 fun h3 fl' S3 O3 u3=>?_
  refine TN.noted pins σ H { s with heap:=PySem.W.hideAll s.heap [C] } _ _ ?_ (cx_hide (s':=s') IO hC ⟨o,ho⟩ nf nfe os bare un hok old tra S1 u1 sb q S3 O3 u3)
  exact IO.turned (t':=s.toks) (fun b ob hb e=>PySem.W.hideAll_get _ e fun z=>hb (List.mem_singleton.mp z)) fC.1 fC.2.1 fC.2.2.2.1 fC.2.2.2.2.1 fC.2.2.2.2.2
 refine⟨fun pins' σ' H s e s' I' h=>?_,fun pins' σ' H s e s' I' h=>?_⟩
 ·obtain⟨ea,cls,dx,B,H',rfl,os,bare,un,hok,sea,tr,old,tra,q⟩:=h
  show wpAny _ _ (noteFrame (.ref ea) (compEnvC scope cl C X.env)) _ _ s'
  rw[note_comp]
  refine note_any hfr TN.fr (by rw[←TN.st];exact sea) tr fun h1 S1 O1 u1=>?_
  rw[←TN.st] at S1
  exact core (I'.wish _) os bare un hok old tra q S1 O1 u1
 ·obtain⟨ea,cls,dx,B,H',rfl,os,bare,un,hok,sea,tr,old,tra,q⟩:=h
  show wpAny _ _ (noteFrame (.ref ea) (compEnvC scope cl C X.env)) _ _ s'
  rw[note_comp]
  refine note_new hfr TN.fr (by rw[←TN.st];exact sea) tr fun h1 S1 O1 u1=>?_
  rw[←TN.st] at S1
  exact core (I'.wish _) os bare un hok old tra q S1 O1 u1
end
section
variable{X:Cx}
theorem comp_coreE{E:XK}(TN:ThrN X E){M:List Str}{elt iter:Expr}{x:Str}{px pos:Pos}{ifs:List Expr}{scope:Scope}{cl:List (Str×Addr)}{tt:TT}{te:TE}(hc:X.calm=true)(ok:CompOk X M x scope cl)
 (ht:∀C s₀ H₀ fp,PIfs (compCx X M x scope cl C s₀ H₀ fp) ifs tt)(he:∀C s₀ H₀ fp xe,Thr ((compCx X M x scope cl C s₀ H₀ fp).wish xe) (fun c d _ H'=>E c d H')→PE ((compCx X M x scope cl C s₀ H₀ fp).wish xe) elt te)
 {pins:List (Addr×Obj)}{σ:St}{H2:Hp}{s2:Shared}{it:Addr}{fp:List Addr}{tn:Nat→Heap→Prop}{J:It}{Q:VK}(I2:Inv X pins σ H2 s2)(T:Turn X.prog X.w X.K (.Name x px) J fp it tn)(st2:tn 0 s2.heap)(f2:∀b∈fp,FpOk X pins H2 b)
 (hW:CompR tt te σ Q J H2)(Qe:Value→Shared→Prop)
 (fin:∀D C H3 s4,Inv X pins σ H3 s4→(∃m,s4.heap.Ns C m)→FpOk X pins H3 C→Q (.ref D) H3→compPost (model X.prog X.w) X.A X.xe none Qe (.ref D) C (.ok .next) s4):
 wpAny (model X.prog X.w) X.A (newList []) (fun acc s₃=>wpAny (model X.prog X.w) X.A (newFunctionEnv scope X.env.globals cl [] X.env.qual none .none (some X.env)) (fun cenv s₄=>
  codeAny (model X.prog X.w) X.A (.compStart (.ListComp elt [⟨.Name x px,iter,ifs,0⟩] scope pos) 0 (.ref it) acc { cenv with scope:=relabel scope X.env }) (compPost (model X.prog X.w) X.A X.xe none Qe acc cenv.locals) s₄) X.xe s₃) X.xe s2:=by
 refine wpAny_newObj_type (wpAny_newFunctionEnv ok.cell (by intro y hy;simp at hy) (fun h₁ hns₁ hsb₁=>?_) ok.kind)
 dsimp only at hns₁ hsb₁ ⊢
 generalize hH2:s2.heap.push { cls:=.type "list",dict:=none,data:=.seq ([]:List Value).toArray }=G2 at hns₁ hsb₁ ⊢
 have hC:G2.objs.size=s2.heap.objs.size+1:=by rw[←hH2,Heap.size_push]
 have hDC:s2.heap.objs.size≠G2.objs.size:=by rw[hC];exact Nat.ne_of_lt (Nat.lt_succ_self _)
 have hCle:s2.heap.objs.size≤G2.objs.size:=by rw[hC];exact Nat.le_succ _
 have below:∀b,b<s2.heap.objs.size→b≠G2.objs.size∧b≠s2.heap.objs.size:=fun b hb=>⟨by rw[hC];exact Nat.ne_of_lt (Nat.lt_succ_of_lt hb),Nat.ne_of_lt hb⟩
 have old:∀b o,s2.heap.get? b=some o→h₁.get? b=some o:=fun b o e=>hsb₁.extBut b o (below b (Heap.lt_size e)).1 (Heap.get?_push_of_some _ (hH2 ▸ Heap.get?_push_of_some _ e))
 have hacc:h₁.get? s2.heap.objs.size=some { cls:=.type "list",data:=.seq ([]:List Value).toArray }:=hsb₁.extBut _ _ hDC (Heap.get?_push_of_some _ (hH2 ▸ Heap.get?_push_size _ rfl))
 have fpb:∀b∈fp,b<s2.heap.objs.size:=fun b hb=>by
  obtain⟨o,e,_⟩:=T.obj _ _ st2 b hb
  exact Heap.lt_size e
 have hD0:H2 s2.heap.objs.size=none:=I2.hok.fresh (Nat.le_refl _)
 have hC0:H2 G2.objs.size=none:=I2.hok.fresh hCle
 generalize hDD:s2.heap.objs.size=D at*
 generalize hCC:G2.objs.size=C at*
 obtain⟨W,⟨m0,w0⟩,turn⟩:=hW D hD0
 have okX:(compCx X M x scope cl C s2 H2 fp).Ok:=comp_ok I2 ok (by rw[hDD];exact hCle) f2 (by rw[hDD];exact fpb)
 have lenN:(none::σ:St).length=(compCx X M x scope cl C s2 H2 fp).N.length:=by
  show(none::σ).length=(x::M).length
  rw[List.length_cons,List.length_cons,I2.len,ok.len]
 have locs:∀(h':Heap) (m:Str→Option Value) (w':Option V),(∀y c,X.env.cells.lookup y=some c→∀v,s2.heap.IsCell c v→h'.IsCell c v)→w'=none→
  ∀(i:Nat) (y:Str) (v:V),(x::M)[i]?=some y→(w'::σ:St)[i]?=some (some v)→Vis (relabel scope X.env) y→∃u,RelV v u∧Look (compEnvC scope cl C X.env) h' m y u:=by
  intro h' m w' hcell hw i y v e1 e2 e3
  subst hw
  cases i with
  | zero=>simp at e2
  | succ i=>
   have e0:M[i]?=some y:=by simpa using e1
   have e2':σ[i]?=some (some v):=by simpa using e2
   obtain⟨e1',k1,k2⟩:=ok.vis i y e0 e3
   obtain⟨m2,_,hl⟩:=I2.loc
   obtain⟨u,r,l⟩:=hl i y v e1' e2' (k2.elim (fun z=>.inr (.inl z)) fun z=>.inr (.inr z))
   obtain⟨c',hc'⟩:=ok.has y k1
   rcases l with ⟨z,_⟩ | ⟨_,c,hcc,z⟩
   ·have z':X.env.scope.names.lookup y=some .local:=z
    rcases k2 with q | q<;>(rw [q] at z';cases z')
   ·have q:=ok.sub y c' hc'
    rw[hcc] at q
    cases q
    exact⟨u,r,.inr ⟨k1,c',hc',hcell y c' hcc _ z⟩⟩
 have I0:Inv (compCx X M x scope cl C s2 H2 fp) [] (none::σ) (upd H2 D (.lst [])) { s2 with heap:=h₁,toks:=s2.toks+([]:List (Str×Value)).length }:=by
  refine⟨okX,rfl,I2.bare,?_,⟨_,hns₁,locs h₁ _ none (fun y c e v z=>?_) rfl⟩,fun y c e=>?_,?_,fun y c e=>?_,fun p hp=>?_,?_,lenN⟩
  ·exact Un.laid old (Nat.le_of_eq hDD) hD0
  ·obtain⟨o,ho,hd⟩:=z
   exact⟨o,old c o ho,hd⟩
  ·obtain⟨v,o,ho,hd⟩:=I2.cell y c (ok.sub y c e)
   exact⟨v,o,old c o ho,hd⟩
  ·show upd H2 D (.lst []) C=none
   rw[upd_ne (Ne.symm hDC)]
   exact hC0
  ·have hn:=I2.freeC y c (ok.sub y c e)
   obtain⟨v,o,ho,hd⟩:=I2.cell y c (ok.sub y c e)
   rw[upd_ne (fun z=>by have:=Heap.lt_size ho;rw[hDD,z] at this;exact Nat.lt_irrefl _ this)]
   exact hn
  ·exact absurd hp (by show p∉([]++[]:List (Addr×Obj));simp)
  ·refine I2.hok.laid old (Nat.le_of_eq hDD) ⟨Nat.zero_le _,[],_,.nil,hacc⟩
 have fpk:∀{H':Hp},(∀b∈fp,H' b=none)→∀b∈fp,FpOk (compCx X M x scope cl C s2 H2 fp) [] H' b:=fun hn b hb=>by
  refine⟨hn b hb,(below b (fpb b hb)).1,okX.exfs b hb,.inl hb,fun y c e=>(f2 b hb).2.2.2.2.1 y c (ok.sub y c e),fun p hp=>?_⟩
  exact absurd hp (by show p∉([]++[]:List (Addr×Obj));simp)
 have loop:∀s₃:Shared,s₃={ s2 with heap:=h₁,toks:=s2.toks+([]:List (Str×Value)).length }→
  codeAny (model X.prog X.w) X.A (.compLoop (.ListComp elt [⟨.Name x px,iter,ifs,0⟩] scope pos) 0 (.ref it) (.ref D) (compEnvC scope cl C X.env))
   (compPost (model X.prog X.w) X.A X.xe none Qe (.ref D) C) s₃:=by
  rintro s₃ rfl
  refine codeAny_compLoop_tests (fun n s'=>∃i ys w' H',Inv (compCx X M x scope cl C s2 H2 fp) [] (w'::σ) H' s'∧tn i s'.heap∧(∀b∈fp,H' b=none)∧W i n ys H') ?_ m0
   ⟨0,[],none,_,I0,T.keep _ _ _ st2 (fun b _ o e=>old b o e),fun b hb=>by rw[upd_ne (below b (fpb b hb)).2];exact(f2 b hb).1,w0⟩
  rintro n s3 ⟨i,ys,w3,H3,I3,st3,fr3,wt⟩
  obtain⟨hD3,hh⟩:=turn i n ys H3 wt
  rcases hh with ⟨stop,q⟩ | ⟨go,hlen,m',hm,step⟩
  ·refine thn (T.done (compCx X M x scope cl C s2 H2 fp) rfl rfl rfl hc i [] s3 (w3::σ) H3 _ I3 (fpk fr3) st3 stop) fun r s4 ⟨hr,I4⟩=>?_
   subst hr
   obtain⟨m4,hn4,_⟩:=id I4.loc
   have hC4:H3 C=none:=I4.free
   exact fin D C H3 s4 (I2.call' (ch:=fp) I4.os I4.base I4.hok I4.bare fun b hb=>⟨(f2 b hb).2.2.2.1,(f2 b hb).2.1,(f2 b hb).2.2.2.2.1,(f2 b hb).2.2.2.2.2⟩) ⟨m4,hn4⟩ (I2.fpOk (by rw[hDD];exact hCle) hC4) q
  ·refine wpAny_mono (T.item (compCx X M x scope cl C s2 H2 fp) rfl rfl rfl hc i [] s3 (w3::σ) H3 (fun _ _=>False) I3 (fpk fr3) st3 go) (fun r s4 h4=>?_) (fun _ _ z=>z.elim)
   obtain⟨u,hr,h4⟩:=h4
   subst hr
   refine(show wpAny (model X.prog X.w) X.A (letOwnedTupleGo (.Name x px) (.ref it) u >>= fun _=>assign (.Name x px) (compEnvC scope cl C X.env) u) _ _ _ from wpAny_bind (wpAny_mono h4 (fun _ s4 h4=>?_) (fun _ _ z=>z.elim)))
   obtain⟨x',H5,I5,r5,y5,st5,fr5⟩:=h4
   have I5':=I5.pinned (fpk fr5) (T.obj _ _ st5)
   refine wpAny_assign_Name (store_ok (X:=compCx X M x scope cl C s2 H2 fp) (i:=0) I5' ok.nd rfl (.inl (lookup_relabel_local ok.xl)) r5 (fun s6 I6=>?_) (.inr (lookup_relabel_local ok.xl)))
   have I6':Inv (compCx X M x scope cl C s2 H2 fp) ([]++pinsAt fp s4.heap) (some x'::σ) H5 s6:=I6
   have back:∀{s7:Shared} {H7:Hp} {w7:Option V},Inv (compCx X M x scope cl C s2 H2 fp) ([]++pinsAt fp s4.heap) (w7::σ) H7 s7→tn (i+1) s7.heap∧(∀b∈fp,H7 b=none)∧Inv (compCx X M x scope cl C s2 H2 fp) [] (w7::σ) H7 s7:=fun{s7 H7 w7} I7=>by
    refine⟨T.keep _ _ _ st5 fun b hb o e=>(I7.pin (b,o) (List.mem_append_right _ (List.mem_append_right _ (mem_pinsAt hb e)))).1,fun b hb=>?_,I7.unpinned⟩
    obtain⟨o,e,d⟩:=T.obj _ _ st5 b hb
    exact(I7.pin (b,o) (List.mem_append_right _ (List.mem_append_right _ (mem_pinsAt hb e)))).2.1
   refine wpAny_mono (ht C s2 H2 fp _ s6 _ H5 _ I6' (step x' H5 y5)) (fun ok' s7 h7=>?_) (fun _ _ z=>z.elim)
   obtain⟨H7,I7,q7⟩:=h7
   cases ok' with
   | false=>
    have q7':W (i+1) m' ys H7:=by simpa using q7
    rw[if_neg Bool.false_ne_true]
    obtain⟨b1,b2,b3⟩:=back I7
    exact⟨m',hm,i+1,ys,_,H7,b3,b1,b2,q7'⟩
   | true=>
    rw[if_pos rfl] at q7 ⊢
    refine wpAny_mono (he C s2 H2 fp _ (thr_comp (Qe:=Qe) (acc:=.ref D) I2 TN (by rw[hDD];exact hCle) f2) _ s7 _ H7 _ (I7.wish _) q7) (fun y s8 h8=>?_) (fun _ _ z=>z)
    obtain⟨v8,H8,I8w,r8,hD8,w8⟩:=h8
    have I8:=I8w.unwish
    refine wpAny_mono (mt_append (X:=compCx X M x scope cl C s2 H2 fp) _ s8 _ H8 (.ref D) [v8] (.ref D) [y] (fun _ H9=>H9=upd H8 D (.lst (ys++[v8]))) I8 rfl (.cons r8 .nil) ⟨D,ys,v8,rfl,rfl,hD8,hlen,rfl⟩) (fun _ s9 h9=>?_) (fun _ _ z=>z.elim)
    obtain⟨v9,H9,I9,_,e9⟩:=h9
    subst e9
    obtain⟨b1,b2,b3⟩:=back I9
    exact⟨m',hm,i+1,_,_,_,b3,b1,b2,w8⟩
 exact codeAny_compStart_list (loop _ rfl) (T.self _ 0 _ _ _ (T.keep _ _ _ st2 (fun b _ o e=>old b o e)) (loop _ rfl))
theorem pe_compE{E:XK}(TN:ThrN X E){M:List Str}{elt iter:Expr}{x:Str}{px pos:Pos}{ifs:List Expr}{scope:Scope}{cl:List (Str×Addr)}{wi:TI}{tt:TT}{te:TE}(hc:X.calm=true)(ok:CompOk X M x scope cl)(hi:PI X (.Name x px) iter wi)
 (ht:∀C s₀ H₀ fp,PIfs (compCx X M x scope cl C s₀ H₀ fp) ifs tt)(he:∀C s₀ H₀ fp xe,Thr ((compCx X M x scope cl C s₀ H₀ fp).wish xe) (fun c d _ H'=>E c d H')→PE ((compCx X M x scope cl C s₀ H₀ fp).wish xe) elt te)
 (hs:∀x,foldedSetIterable iter X.env x=pure x:=by intro _;rfl):
 PE X (.ListComp elt [⟨.Name x px,iter,ifs,0⟩] scope pos) (tComp wi tt te):=by
 intro pins s σ H Q I h
 rw[eval_ListComp]
 refine wpAny_comprehension_free (use:=none) rfl hs ok.clos ok.kind ok.names (thn (hi pins s σ H _ I h) fun xv s1 h1=>thn h1 fun itv s2 h2=>?_)
 obtain⟨it,fp,tn,J,H2,e,I2,T,st2,f2,hW⟩:=h2
 subst e
 refine comp_coreE TN hc ok ht he I2 T st2 f2 hW (EP X pins σ Q) fun D C H3 s4 I4 hm fC q=>?_
 obtain⟨m,hn⟩:=hm
 exact⟨m,hn,fun h' hsb=>⟨.ref D,H3,I4.turned (t':=s4.toks) (fun b o hb e=>hsb.extBut b o hb e) fC.1 fC.2.1 fC.2.2.2.1 fC.2.2.2.2.1 fC.2.2.2.2.2,rfl,q⟩⟩
end
end L2
set_option Elab.async false
set_option linter.all false
set_option maxRecDepth 100000
set_option maxHeartbeats 4000000
namespace L2
open PySem PySem.Spec PyProof.Rows Builtin.Str
section
variable{X:Cx}
theorem mt_rjust:MtR X "str.rjust" (fun x xs H Q=>∃z n,x=.str z∧xs=[.int n]∧0≤n∧n≤100000∧Q (.str (if n≤(z.length:Int) then z else padded z (n.toNat-z.length) 0 32)) H):=by
 intro pins s σ H x xs v us Q I rx rs h
 obtain⟨z,n,rfl,rfl,n0,n1,q⟩:=h
 obtain⟨t,rfl⟩:=(show ∃t,v=Value.str z t from rx)
 obtain⟨u,rfl,ru⟩:=vals1 rs
 obtain⟨t',rfl⟩:=(show ∃t,u=Value.int n t from ru)
 have hr:(decide (n< -(2^63:Int))||decide (n≥2^63))=false:=by
  rw[Bool.or_eq_false_iff]
  exact⟨decide_eq_false (by omega),decide_eq_false (by omega)⟩
 have hl:tooLong n.toNat=false:=by
  have:(100000:Nat)<sizeLine:=by decide
  unfold tooLong
  exact decide_eq_false (by omega)
 refine call_gives F.slot_str_rjust (typeIs_str _ _ _) F.entry_str_rjust (F.args_str_rjust_2 _ _) (gives_str_rjust z n t t' hr hl) ?_
 by_cases c:n≤(z.length:Int)
 ·rw[if_pos c] at q ⊢
  exact⟨.str _,H,I,⟨_,rfl⟩,q⟩
 ·rw[if_neg c] at q ⊢
  exact⟨fits_padL 32 hl c,.str _,H,I.tok _,⟨_,rfl⟩,q⟩
theorem mt_ljust:MtR X "str.ljust" (fun x xs H Q=>∃z n,x=.str z∧xs=[.int n]∧0≤n∧n≤100000∧Q (.str (if n≤(z.length:Int) then z else padded z 0 (n.toNat-z.length) 32)) H):=by
 intro pins s σ H x xs v us Q I rx rs h
 obtain⟨z,n,rfl,rfl,n0,n1,q⟩:=h
 obtain⟨t,rfl⟩:=(show ∃t,v=Value.str z t from rx)
 obtain⟨u,rfl,ru⟩:=vals1 rs
 obtain⟨t',rfl⟩:=(show ∃t,u=Value.int n t from ru)
 have hr:(decide (n< -(2^63:Int))||decide (n≥2^63))=false:=by
  rw[Bool.or_eq_false_iff]
  exact⟨decide_eq_false (by omega),decide_eq_false (by omega)⟩
 have hl:tooLong n.toNat=false:=by
  have:(100000:Nat)<sizeLine:=by decide
  unfold tooLong
  exact decide_eq_false (by omega)
 refine call_gives F.slot_str_ljust (typeIs_str _ _ _) F.entry_str_ljust (F.args_str_ljust_2 _ _) (gives_str_ljust z n t t' hr hl) ?_
 by_cases c:n≤(z.length:Int)
 ·rw[if_pos c] at q ⊢
  exact⟨.str _,H,I,⟨_,rfl⟩,q⟩
 ·rw[if_neg c] at q ⊢
  exact⟨fits_padR 32 hl c,.str _,H,I.tok _,⟨_,rfl⟩,q⟩
theorem mt_rstrip:MtR X "str.rstrip" (fun x xs H Q=>∃z y,x=.str z∧xs=[.str y]∧z.length≤sizeLine∧Q (.str (if stripSame y.cps.contains false true z then z else stripped y.cps.contains false true z)) H):=by
 intro pins s σ H x xs v us Q I rx rs h
 obtain⟨z,y,rfl,rfl,hz,q⟩:=h
 obtain⟨t,rfl⟩:=(show ∃t,v=Value.str z t from rx)
 obtain⟨u,rfl,ru⟩:=vals1 rs
 obtain⟨t',rfl⟩:=(show ∃t,u=Value.str y t from ru)
 refine call_gives F.slot_str_rstrip (typeIs_str _ _ _) F.entry_str_rstrip (F.args_str_rstrip_2 _ _) (gives_str_rstrip_chars z y t t') ?_
 by_cases c:stripSame y.cps.contains false true z=true
 ·rw[if_pos c] at q ⊢
  exact⟨.str _,H,I,⟨_,rfl⟩,q⟩
 ·rw[if_neg c] at q ⊢
  exact⟨fits_stripped _ _ _ hz,.str _,H,I.tok _,⟨_,rfl⟩,q⟩
end
end L2
set_option Elab.async false
set_option linter.all false
set_option maxRecDepth 100000
set_option maxHeartbeats 4000000
namespace L2
open PySem PySem.Spec PyProof.Rows
section
variable{prog:Program}{w:World}{A:Around}{R:Result→Shared→Prop}{I:Addr}{fp wr:List Addr}{n:Nat}{P:Nat→Value→Prop}{St:Nat→Heap→Prop}
theorem maxd_name:(toString "max"++toString ".loop":String)="max.loop":=by decide
theorem maxd_go(kw:List (Str×Value))(W:Walks prog w A.in1 I fp wr n P St)(bt:Nat→Nat→Bool)(cm:CmpOf prog w A.in1 .Gt P bt)(S:Addr)(nf:S∉fp):∀(k j:Nat) (s:Shared) (vb:Value) (c:Nat),n-(j+1)=k→j+1≤n→St (j+1) s.heap→P (argBest bt j) vb→
 s.heap.get? S=some { cls:=.type "list",dict:=none,data:=.seq #[vb,vb] c,slots:= #[] }→(∀v h' tk,P (argBest bt (n-1)) v→(∀b o,b∉wr→b≠S→s.heap.get? b=some o→h'.get? b=some o)→R (.ok (.ret v)) { s with heap:=h',toks:=tk })→
 codeAny (model prog w) A (.builtin "max.loop" ⟨[.ref I,.none,.ref S],kw⟩) R s:=by
 have nw:S∉wr:=fun h=>nf (W.sub _ h)
 intro k
 induction k with
 | zero=>
  intro j s vb c ek jn st pb at0 fin
  have en:j+1=n:=by omega
  refine codeAny_builtin F.entry_max_loop (?_:_)
  rw[Around.under_plainId (F.plain_max_loop) _]
  show wpAny _ (Around.in1 A) (seqItems? (Value.ref S) >>= _) _ _ s
  refine wpAny_bind (wpAny_seqItems at0 rfl ?_)
  show wpAny _ (Around.in1 A) (tryCatch (pyNext (Value.ref I)) _ >>= _) _ _ s
  refine wpAny_bind (wpAny_tryCatch (W.done s _ _ (en ▸ st) fun h1 t1 k1=>?_))
  have at1:=k1 S _ nw at0
  show wpAny _ (Around.in1 A) (updateSeq S (fun _=>(#[]:Array Value)) >>= _) _ _ _
  refine wpAny_bind (wpAny_updateSeq at1 rfl (wpAny_bind (wpAny_letGo (wpAny_pure ?_))))
  exact fin vb _ t1 (by rw[←en];exact pb) fun b o nb nS e=>(Heap.get?_update_other _ _ (Ne.symm nS)).trans (k1 b o nb e)
 | succ k ih=>
  intro j s vb c ek jn st pb at0 fin
  have jl:j+1<n:=by omega
  refine codeAny_builtin F.entry_max_loop (?_:_)
  rw[Around.under_plainId (F.plain_max_loop) _]
  show wpAny _ (Around.in1 A) (seqItems? (Value.ref S) >>= _) _ _ s
  refine wpAny_bind (wpAny_seqItems at0 rfl ?_)
  show wpAny _ (Around.in1 A) (tryCatch (pyNext (Value.ref I)) _ >>= _) _ _ s
  refine wpAny_bind (wpAny_tryCatch (W.item (j+1) s _ _ jl st fun v h1 t1 pv st1 k1=>?_))
  have at1:=k1 S _ nw at0
  show wpAny _ (Around.in1 A) (tryCatch (holding [v,v] (richCompare .Gt v vb >>= _)) _ >>= _) _ _ _
  refine wpAny_bind (wpAny_tryCatch (wpAny_holding (wpAny_bind (cm (j+1) (argBest bt j) v vb _ _ _ pv pb ?_))))
  refine wpAny_bind (wpAny_holding (wpAny_truthy_bool (wpAny_bind (wpAny_letGo (wpAny_pure ?_)))))
  cases eb:bt (j+1) (argBest bt j) with
  | true=>
   rw[if_pos rfl]
   refine wpAny_bind (wpAny_updateSeq at1 rfl (wpAny_bind (wpAny_letGo ?_)))
   rw[maxd_name]
   refine wpAny_pure ⟨plainId_quiet F.plain_max_loop _,ih (j+1) _ v _ (by omega) jl (W.frame _ _ _ st1 fun b nb o e=>?_) (by rw[show argBest bt (j+1)=j+1 by simp only[argBest,eb,if_true]];exact pv) (Heap.get?_update_self _ at1 rfl) fun v2 h2 t2 p2 k2=>?_⟩
   ·exact(Heap.get?_update_other _ _ (fun h:S=b=>nf (by rw[h];exact nb))).trans e
   ·exact fin v2 h2 t2 p2 fun b o nb nS e=>k2 b o nb nS ((Heap.get?_update_other _ _ (Ne.symm nS)).trans (k1 b o nb e))
  | false=>
   rw[if_neg Bool.false_ne_true]
   refine wpAny_bind (wpAny_letGo ?_)
   rw[maxd_name]
   exact wpAny_pure ⟨plainId_quiet F.plain_max_loop _,ih (j+1) _ vb c (by omega) jl st1 (by rw[show argBest bt (j+1)=argBest bt j by simp only[argBest,eb,Bool.false_eq_true,if_false]];exact pb) at1 fun v2 h2 t2 p2 k2=>fin v2 h2 t2 p2 fun b o nb nS e=>k2 b o nb nS (k1 b o nb e)⟩
theorem maxd_all(nm:Str)(d:Value)(W:Walks prog w A.in1 I fp wr n P St)(bt:Nat→Nat→Bool)(cm:CmpOf prog w A.in1 .Gt P bt)(S:Addr)(nf:S∉fp){s:Shared}{c:Nat}(st:St 0 s.heap)
 (at0:s.heap.get? S=some { cls:=.type "list",dict:=none,data:=.seq #[] c,slots:= #[] })
 (fin:0<n→∀v h' tk,P (argBest bt (n-1)) v→(∀b o,b∉wr→b≠S→s.heap.get? b=some o→h'.get? b=some o)→R (.ok (.ret v)) { s with heap:=h',toks:=tk })
 (non:n=0→∀h' tk,(∀b o,b∉wr→b≠S→s.heap.get? b=some o→h'.get? b=some o)→R (.ok (.ret d)) { s with heap:=h',toks:=tk }):
 codeAny (model prog w) A (.builtin "max.loop" ⟨[.ref I,.none,.ref S],[(nm,d)]⟩) R s:=by
 have nw:S∉wr:=fun h=>nf (W.sub _ h)
 refine codeAny_builtin F.entry_max_loop (?_:_)
 rw[Around.under_plainId (F.plain_max_loop) _]
 show wpAny _ (Around.in1 A) (seqItems? (Value.ref S) >>= _) _ _ s
 refine wpAny_bind (wpAny_seqItems at0 rfl ?_)
 show wpAny _ (Around.in1 A) (tryCatch (pyNext (Value.ref I)) _ >>= _) _ _ s
 by_cases z:n=0
 ·refine wpAny_bind (wpAny_tryCatch (W.done s _ _ (by rw[z];exact st) fun h1 t1 k1=>?_))
  refine wpAny_bind (wpAny_rule (wpAny_pure ?_))
  exact non z h1 t1 fun b o nb _ e=>k1 b o nb e
 ·have pos:0<n:=by omega
  refine wpAny_bind (wpAny_tryCatch (W.item 0 s _ _ pos st fun v h1 t1 pv st1 k1=>?_))
  have at1:=k1 S _ nw at0
  show wpAny _ (Around.in1 A) (updateSeq S (fun _=>(#[v,v]:Array Value)) >>= _) _ _ _
  refine wpAny_bind (wpAny_updateSeq at1 rfl ?_)
  rw[maxd_name]
  refine wpAny_pure ⟨plainId_quiet F.plain_max_loop _,maxd_go [(nm,d)] W bt cm S nf _ 0 _ v _ rfl pos (W.frame _ _ _ st1 fun b nb o e=>?_) pv (Heap.get?_update_self _ at1 rfl) fun v2 h2 t2 p2 k2=>?_⟩
  ·exact(Heap.get?_update_other _ _ (fun h:S=b=>nf (by rw[h];exact nb))).trans e
  ·exact fin pos v2 h2 t2 p2 fun b o nb nS e=>k2 b o nb nS ((Heap.get?_update_other _ _ (Ne.symm nS)).trans (k1 b o nb e))
end
section
variable{prog:Program}{w:World}{A:Around}{E:Value→Shared→Prop}{s:Shared}
theorem maxd_args(a d:Value):argsOk "max" ⟨[a],[(Str.ofString "default",d)]⟩:=by
 unfold argsOk
 kernel_rfl
theorem maxd_bind(d:Value):Builtin.Builtins.bindParams "max" ["key","default"] 0 ⟨[],[(Str.ofString "default",d)]⟩=pure [none,some d]:=by rfl
theorem maxd_call{l:Addr}{xs:Array (Int×Tok)}{d:Value}{Q:Value→Shared→Prop}(hh:A.handled=none)(hl:s.heap.IsList l (intItems xs))
 (fin:0<xs.size→∀v h' tk,(intItems xs)[argBest (fun i j=>decide (numAt xs i>numAt xs j)) (xs.size-1)]?=some v→(∀b o,s.heap.get? b=some o→h'.get? b=some o)→Q v { s with heap:=h',toks:=tk })
 (non:xs.size=0→∀h' tk,(∀b o,s.heap.get? b=some o→h'.get? b=some o)→Q d { s with heap:=h',toks:=tk }):
 wpAny (model prog w) A (call (.builtin "max") [.ref l] [(Str.ofString "default",d)]) Q E s:=by
 refine wpAny_call (codeAny_call_builtin F.plain_max F.entry_max (?_:_))
 have core:wpAny (model prog w) A.in1 (Builtin.«max» ⟨[.ref l],[(Str.ofString "default",d)]⟩) (fun z s'=>match z with
  | .done f=>(match (Except.ok f:Result) with | .ok (.ret v)=>Q v s' | .ok _=>False | .error e=>E e s')
  | .again m=>m.quiet=true∧codeAny (model prog w) A m (fun r s'=>match r with | .ok (.ret v)=>Q v s' | .ok _=>False | .error e=>E e s') s') E s:=by
  show wpAny _ (Around.in1 A) (Builtin.Builtins.bindParams "max" ["key","default"] 0 ⟨[],[(Str.ofString "default",d)]⟩ >>= _) _ _ s
  rw[maxd_bind]
  refine wpAny_bind (wpAny_pure (wpAny_bind (wpAny_pure ?_)))
  refine wpAny_bind (iter_intList hl fun s2 e st fp ne=>?_)
  subst e
  refine wpAny_bind (wpAny_newObj_type ?_)
  rw[maxd_name]
  have nf:(s.heap.push { cls:=.type "list_iterator",data:=.fields #[.ref l,.int 0 0] }).objs.size∉[s.heap.objs.size,l]:=fun h=>Nat.lt_irrefl _ (fp _ h)
  have W:=Walks.list (prog:=prog) (w:=w) (A:=A.in1) hh s.heap.objs.size l ne (intItems xs)
  refine wpAny_pure ⟨plainId_quiet F.plain_max_loop _,maxd_all _ d W _ (CmpOf.ints_gt (numAt xs) (fun _ _=>intItems_at)) _ nf (W.frame _ _ _ st fun b _ o e=>Heap.get?_push_of_some _ e) (Heap.get?_push_size _ rfl) (fun pos v h' tk hP hk=>?_) (fun zero h' tk hk=>?_)⟩
  ·exact fin (by simpa [intItems] using pos) v h' tk (by simpa [intItems] using hP) (old_kept fun b o nb e=>hk b o nb (Nat.ne_of_lt (Heap.lt_size e)) (Heap.get?_push_of_some _ e))
  ·exact non (by simpa [intItems] using zero) h' tk (old_kept fun b o nb e=>hk b o nb (Nat.ne_of_lt (Heap.lt_size e)) (Heap.get?_push_of_some _ e))
 simp only[checkBuiltinCall,F.kind_max]
 cases hs:Manifest.signature? "max" with
 | none=>exact wpAny_pure core
 | some sig=>
  have ha:=maxd_args (.ref l) d
  simp only[argsOk,hs] at ha
  have h2:Bind.checkArgs "max" sig ⟨[.ref l],[(Str.ofString "default",d)]⟩=pure ():=ha
  show wpAny _ (Around.in1 A) (Bind.checkArgs "max" sig ⟨[Value.ref l],[(Str.ofString "default",d)]⟩) _ _ s
  rw[h2]
  exact wpAny_pure core
end
section
variable{X:Cx}
def tMaxD(K:PySem.W.Frag)(d:Int)(t:TA):TE:=fun σ H Q=>t σ H fun vs H1=>∃(l:Addr) (ns:List Int),vs=[.ref l]∧SqL K H1 l (ns.map V.int)∧(ns=[]→Q (.int d) H1)∧(ns≠[]→∀m,m∈ns→(∀a∈ns,a≤m)→Q (.int m) H1)
theorem rd_maxD{K:PySem.W.Frag}{d:Int}{t:TA}{σ:St}{H:Hp}{Q:VK}(h:t σ H fun vs H1=>∃(l:Addr) (ns:List Int),vs=[.ref l]∧SqL K H1 l (ns.map V.int)∧(ns=[]→Q (.int d) H1)∧(ns≠[]→∀m,m∈ns→(∀a∈ns,a≤m)→Q (.int m) H1)):tMaxD K d t σ H Q:=h
theorem pe_maxD{e:Expr}{t:TA}{d:Int}{j:Nat}{p pos q1 q2:Pos}(hc:X.calm=true)(hg:Gl X "max")(hm:X.mg "max"=none)(ha:PA X [e] t)
 (he:backTo pos (starEach [e] X.env)=(false,eval e X.env)::backTo pos (starEach [] X.env):=by rfl)(hpl:(backTo pos (starEach [e] X.env)).any (·.1)=false:=by rfl):
 PE X (.Call (.Name "max" p) [e] [⟨some "default",.Constant (.int d) j q1,q2⟩] pos) (tMaxD X.K d t):=by
 intro pins s σ H Q I h
 refine wpAny_Call_Name_kw (ld_blt I hg hm boot_max ?_ (by decide) (by decide))
 refine PyProof.Rows.callWith_kw (thn (ha pos pins s σ H _ I h) fun us s1 ⟨vs,H1,I1,r1,q1⟩=>?_) he hpl
 obtain⟨l,ns,rfl,hl,non,fin⟩:=q1
 obtain⟨u,rfl,ru⟩:=vals1 r1
 cases (show u=Value.ref l from ru)
 refine wpAny_bind (wpAny_bind (wpAny_Constant_int (wpAny_bind (wpAny_standAt (wpAny_pure ?_)))))
 refine wpAny_bind (wpAny_holding (wpAny_pure (wpAny_pure ?_)))
 have I2:=I1.tok (s1.toks+1)
 obtain⟨its,rv,pl,_⟩:=I2.list hl
 have hi:=intsAre_of rv
 obtain⟨xs,e⟩:=hi.allInts.items
 have hns:ns=xs.toList.map (·.1):=by
  rw[←nums_intItems,←e]
  exact(show numsOf its.toArray.toList=ns from hi.numsOf).symm
 have hlen:ns.length=xs.size:=by rw[hns,List.length_map,Array.length_toList]
 refine maxd_call (I2.ok.hd hc) (xs:=xs) (e ▸ pl.isList) (fun pos v h' tk hv hk=>?_) (fun zero h' tk hk=>?_)
 ·obtain⟨t,rfl⟩:=intItems_at hv
  obtain⟨h1,h2⟩:=argBest_gt (numAt xs) (xs.size-1)
  refine⟨.int _,H1,I2.kept hk,⟨_,rfl⟩,fin (fun z=>by rw[z] at hlen;simp at hlen;omega) _ ?_ fun a ha=>?_⟩
  ·rw[hns,numAt_eq];exact getD_mem (by rw[←hns,hlen];omega)
  ·rw[hns] at ha
   obtain⟨j,hj,rfl⟩:=mem_getD ha
   rw[←hns,hlen] at hj
   rw[←numAt_eq];exact h2 j (by omega)
 ·exact⟨.int _,H1,I2.kept hk,⟨_,rfl⟩,non (List.length_eq_zero_iff.mp (by omega))⟩
end
end L2
set_option Elab.async false
set_option linter.all false
namespace L2
open PySem
@[elab_as_elim] theorem fresh{P:Hp→Prop}{H:Hp}{l:Addr}{o:HO}(h:H l=none)(q:∀H',Same H H'→H' l=some o→P H'):P (upd H l o):=q _ (same_new h o) upd_same
example {Q:V→Hp→Prop} {H:Hp} (q:∀l H',Same H H'→H' l=some (.lst [.int 1])→Q (.ref l) H'):∀l,H l=none→Q (.ref l) (upd H l (.lst [.int 1])):=fun l hl=>by
 refine fresh hl fun H1 s1 t1=>?_
 exact q l H1 s1 t1
end L2
set_option Elab.async false
set_option linter.all false
set_option maxRecDepth 100000
set_option maxHeartbeats 4000000
namespace L2
open PySem PySem.Spec PyProof.Rows
section
variable{X:Cx}
def isNonV(v:Value):Bool:=match v with | .none=>true | _=>false
def isNonW(v:V):Bool:=match v with | .non=>true | _=>false
def rInO(K:PySem.W.Frag):R2:=fun x y H Q=>∃(p:Addr) (xs:List V),x=.non∧y=.ref p∧SqL K H p xs∧(∀v∈xs,v=.non∨∃a ys,v=.ref a∧SqT K H a ys)∧Q (.bl (xs.any isNonW)) H
theorem vals_mem:∀{xs:List V} {us:List Value} {u:Value},Vals xs us→u∈us→∃x∈xs,RelV x u
 | _,_,u,.nil,h=>nomatch h
 | _,_,u,.cons r rs,h=>by
  rcases List.mem_cons.mp h with e | e
  ·exact⟨_,List.mem_cons_self,by rw[e];exact r⟩
  ·obtain⟨x,hx,rx⟩:=vals_mem rs e
   exact⟨x,List.mem_cons_of_mem _ hx,rx⟩
theorem any_non{K:PySem.W.Frag}{H:Hp}:∀{xs:List V} {us:List Value},Vals xs us→(∀v∈xs,v=.non∨∃a ys,v=.ref a∧SqT K H a ys)→us.any isNonV=xs.any isNonW
 | _,_,.nil,_=>rfl
 | _,_,.cons r rs,h=>by
  rw[List.any_cons,List.any_cons,any_non rs fun v hv=>h v (List.mem_cons_of_mem _ hv)]
  congr 1
  rcases h _ List.mem_cons_self with e | ⟨a,ys,e,_⟩
  ·subst e
   cases r
   rfl
  ·subst e
   cases r
   rfl
theorem op_inO(hu:X.A.units+64<cLine):OpR X (compareOp .In) (rInO X.K):=by
 intro pins s σ H x y v u Q I rx ry h
 obtain⟨p,xs,rfl,rfl,hq,hi,q⟩:=h
 cases ry
 cases rx
 obtain⟨its,r,pl,hz⟩:=I.list hq
 refine SeqAt.in_listAt isNonV pl.isList (fun w hw=>?_) ⟨.bl _,H,I,rfl,?_⟩
 ·obtain⟨x,hx,rx⟩:=vals_mem r (by simpa using hw)
  rcases hi x hx with e | ⟨a,ys,e,ht⟩
  ·subst e
   cases rx
   exact SeqAt.EqAt.same _
  ·subst e
   cases rx
   obtain⟨its2,r2,pl2,_⟩:=I.tuple ht
   exact SeqAt.EqAt.tuple_none pl2 (by first | omega | (show Around.units _<cLine;simp only[Around.in1];omega))
 ·rw[show its.toArray.any isNonV=its.any isNonV by simp,any_non r hi]
  exact q
def rEqW(K:PySem.W.Frag):R2:=fun x y H Q=>(x=.non∧y=.non∧Q (.bl true) H)∨rEqV K x y H Q
theorem op_eqW(hu:X.A.units+64<cLine):OpR X (compareOp .Eq) (rEqW X.K):=by
 intro pins s σ H x y v u Q I rx ry h
 rcases h with ⟨rfl,rfl,q⟩ | h
 ·exact op_eq (X:=X) pins s σ H .non .non v u Q I rx ry ⟨rfl,q⟩
 ·exact op_eqV hu pins s σ H x y v u Q I rx ry h
end
section
variable{X:Cx}{M:List Str}{x:Str}{scope:Scope}{cl:List (Str×Addr)}{C:Addr}{s₀:Shared}{H₀:Hp}{fp:List Addr}
theorem call_isi_c:CallR (compCx X M x scope cl C s₀ H₀ fp) (.builtin "isinstance") (rIsi X.K):=call_isi
end
end L2
set_option Elab.async false
set_option linter.all false
set_option maxRecDepth 100000
set_option maxHeartbeats 4000000
namespace L2
open PySem PySem.Spec PyProof.Rows
def FnG(K:PySem.W.Frag)(g n q:Str)(st:Stmt):Prop:=∃f fd,PySem.W.nsIn K mainGlobals g=some (some (.ref f))∧Fun K n q st f fd
def FnM(K:PySem.W.Frag)(C:Addr)(x n q:Str)(st:Stmt):Prop:=∃f fd,PySem.W.findIn K (.ref C) x=some (some (.ref f))∧Fun K n q st f fd∧PySem.W.typeIn K (.ref f)=some (.type "function")
def BindsA(n q:Str)(st:Stmt)(ps:List Str):Prop:=∀(kV doc pm:Value) (an:Option Addr) (cdv ct:Value) (us:List Value),us.length=ps.length→bindArgs (PySem.W.fnOf n q (defArgs st) (defBody st) (defScope st) .none kV doc pm an cdv ct) ⟨us,[]⟩=pure (ps.zip us)
theorem fnG_mk{K:PySem.W.Frag}{g n q:Str}{st:Stmt}{f:Addr}{oc:Value}{od an:Option Addr}{osl:Array (Option Value)}{kV doc pm cdv ct:Value}(a:PySem.W.nsIn K mainGlobals g=some (some (.ref f)))(l:K.lookup f=some ⟨oc,od,.func (PySem.W.fnOf n q (defArgs st) (defBody st) (defScope st) .none kV doc pm an cdv ct),osl⟩)
 (c:PySem.W.codeIn K cdv q=true)(k:PySem.W.keepIn K (.ref f)=true):FnG K g n q st:=⟨f,_,a,fun_mk l c k⟩
theorem fnM_mk{K:PySem.W.Frag}{C:Addr}{x n q:Str}{st:Stmt}{f:Addr}{oc:Value}{od an:Option Addr}{osl:Array (Option Value)}{kV doc pm cdv ct:Value}(a:PySem.W.findIn K (.ref C) x=some (some (.ref f)))(l:K.lookup f=some ⟨oc,od,.func (PySem.W.fnOf n q (defArgs st) (defBody st) (defScope st) .none kV doc pm an cdv ct),osl⟩)
 (c:PySem.W.codeIn K cdv q=true)(k:PySem.W.keepIn K (.ref f)=true)(u:PySem.W.typeIn K (.ref f)=some (.type "function")):FnM K C x n q st:=⟨f,_,a,fun_mk l c k,u⟩
section
variable{P:Program}{w:World}{K:PySem.W.Frag}{h:Heap}{mg:Str→Option Value}{base:Heap}{g n q:Str}{st:Stmt}{ps:List Str}{k:Nat}{sp:Sp}
theorem cal_of(X:K.In h)(G:h.Ns mainGlobals mg)(Q:FnG K g n q st)(b:BindsA n q st ps)(ok:∀{f:Addr} {fd:FuncData},Fun K n q st f fd→FnOk P w K mg base CX0 k f fd ps sp):Cal P w K mg base k g ps sp:=by
 obtain⟨f,fd,a,F⟩:=Q
 exact⟨⟨f,fd,ok F,F.binds b,F.kp,PySem.W.mg_of X G a⟩⟩
theorem calE_of(X:K.In h)(G:h.Ns mainGlobals mg)(Q:FnG K g n q st)(b:BindsA n q st ps)(ok:∀{f:Addr} {fd:FuncData},Fun K n q st f fd→FnOk P w K mg base (CX1 P w) k f fd ps sp):CalE P w K mg base k g ps sp:=by
 obtain⟨f,fd,a,F⟩:=Q
 exact⟨⟨f,fd,ok F,F.binds b,F.kp,PySem.W.mg_of X G a⟩⟩
theorem calM_of{CX:CXT}{C:Addr}(Q:FnM K C g n q st)(b:BindsA n q st ps)(ok:∀{f:Addr} {fd:FuncData},Fun K n q st f fd→FnOk P w K mg base CX k f fd ps sp):CalM P w K mg base CX k C g ps sp:=by
 obtain⟨f,fd,a,F,u⟩:=Q
 exact⟨⟨f,fd,ok F,F.binds b,⟨a,beq_iff_eq.mpr u,F.kp⟩⟩⟩
theorem calI_of{CX:CXT}{x:Str}{C:Addr}(X:K.In h)(G:h.Ns mainGlobals mg)(mk:PySem.W.makesIn K C=true)(kp:PySem.W.keepIn K (.ref C)=true)(nC:PySem.W.nsIn K mainGlobals x=some (some (.ref C)))(Q:FnM K C "__init__" n q st)(b:BindsA n q st ps)(ok:∀{f:Addr} {fd:FuncData},Fun K n q st f fd→FnOk P w K mg base CX k f fd ps sp):CalI P w K mg base CX k x C ps sp:=by
 obtain⟨f,fd,a,F,u⟩:=Q
 exact⟨⟨f,fd,ok F,F.binds b,⟨mk,a,beq_iff_eq.mpr u,kp⟩,PySem.W.mg_of X G nC⟩⟩
end
end L2
set_option Elab.async false
set_option linter.all false
set_option maxRecDepth 100000
set_option maxHeartbeats 4000000
local macro_rules | `(tactic| walk_at "rd1")=> `(tactic| first
 | with_reducible refine L2.rd_seq ?_ | with_reducible refine L2.rd_ret ?_ | with_reducible refine L2.rd_asg ?_ | with_reducible refine L2.rd_ifS ?_ | with_reducible refine L2.rd_next ?_ | with_reducible refine L2.rd_drop ?_
 | with_reducible refine L2.rd_op ?_ | ((with_reducible refine' L2.rd_var ?ev ?_);(case ev=>exact rfl)) | with_reducible refine L2.rd_c ?_ | with_reducible refine L2.rd_un ?_ | with_reducible refine L2.rd_test ?_ | with_reducible refine L2.rd_b ?_
 | with_reducible refine L2.rd_i0 ?_ | with_reducible refine L2.rd_u ?_ | ((with_reducible refine' L2.rd_eq ?es ?_);(case es=>exact rfl)) | ((with_reducible refine' L2.rd_ne ?es ?_);(case es=>exact rfl))
 | with_reducible refine L2.rd_bl ?_ | with_reducible refine L2.rd_not ?_ | with_reducible refine L2.rd_and ?_ | with_reducible refine L2.rd_or ?_ | with_reducible refine L2.rd_andV ?_ | with_reducible refine L2.rd_orV ?_ | with_reducible refine L2.rd_notV ?_ | with_reducible refine L2.rd_chain ?_
 | with_reducible refine L2.rd_call ?_ | with_reducible refine L2.rd_cb ?_ | with_reducible refine L2.rd_nil ?_ | with_reducible refine L2.rd_cons ?_ | with_reducible refine L2.rd_tup ?_ | with_reducible refine L2.rd_lst ?_
 | with_reducible refine L2.rd_bm0 ?_ | with_reducible refine L2.rd_makeD ?_ | with_reducible refine L2.rd_fld ?_ | with_reducible refine L2.rd_sfld ?_ | with_reducible refine L2.rd_meth ?_ | with_reducible refine L2.rd_methL ?_ | with_reducible refine L2.rd_lr ?_ | with_reducible refine L2.rd_lra ?_ | with_reducible refine L2.rd_slice ?_ | with_reducible refine L2.rd_part ?_ | with_reducible refine L2.rd_exI ?_ | with_reducible refine L2.rd_noPart ?_ | with_reducible refine L2.rd_tru ?_ | with_reducible refine L2.rd_truI ?_ | with_reducible refine L2.rd_gsub ?_ | with_reducible refine L2.rd_bitsV ?_
 | with_reducible refine L2.rd_par ?_ | with_reducible refine L2.rd_gname ?_ | with_reducible refine L2.rd_gcons ?_ | with_reducible refine L2.rd_gnil ?_
 | ((with_reducible refine' L2.rd_i ?ec ?_);(case ec=>first | ((with_reducible show L2.CPow _ _);exact⟨by decide,by decide,by decide⟩) | ((with_reducible show L2.CDivB _ _);exact L2.cdiv_small (by decide) (by decide)) | (show (0:Int)<_;first | decide | omega | exact L2.pow2_pos _))))
local macro_rules | `(tactic| walk_at "rd")=> `(tactic| repeat walk_at "rd1")
local macro_rules | `(tactic| walk_at "fm")=> `(tactic| (repeat (first | exact List.forall_mem_nil _ | refine List.forall_mem_cons.mpr ⟨by with_unfolding_all rfl,?_⟩)))
local macro_rules | `(tactic| walk_at "rdi")=> `(tactic| ((with_reducible refine' L2.rd_ixT ?hs1 ?he1 ?_);(case hs1=>first | assumption | exact L2.SqT.of (by assumption));(case he1=>exact rfl)))
local macro_rules | `(tactic| walk_at "rdf")=> `(tactic| ((with_reducible refine L2.rd_for ?_);(first | with_reducible refine L2.rd_iL ?_ | with_reducible refine L2.rd_iT ?_ | with_reducible refine L2.rd_rng1 ?_ | with_reducible refine L2.rd_rng2 ?_ | with_reducible refine L2.rd_rng3 ?_ | with_reducible refine L2.rd_rng2A ?_)))
local macro_rules | `(tactic| walk_at "rdx")=> `(tactic| (repeat (first | walk_at "rd1" | with_reducible refine L2.rd_callE ?_ | with_reducible refine L2.rd_makeE ?_ | with_reducible refine L2.rd_methE ?_ | with_reducible refine L2.rd_methLE ?_ | with_reducible refine L2.rd_raise ?_ | with_reducible refine L2.rd_try ?_ | with_reducible refine L2.rd_xinit ?_ | with_reducible refine L2.rd_xf1 ?_ | with_reducible refine L2.rd_xf2 ?_ | with_reducible refine L2.rd_join ?_ | with_reducible refine L2.rd_xget ?_ | with_reducible refine L2.rd_ifE ?_)))
local macro_rules | `(tactic| walk_at "b0")=> `(tactic| (intro _ _ _ _ _ _ us hl;have h:us=[]:=List.length_eq_zero_iff.mp hl;subst h;rfl))
local macro_rules | `(tactic| walk_at "b1")=> `(tactic| (intro _ _ _ _ _ _ us hl;obtain⟨_,h⟩:=L2.len1 hl;subst h;rfl))
local macro_rules | `(tactic| walk_at "b2")=> `(tactic| (intro _ _ _ _ _ _ us hl;obtain⟨_,_,h⟩:=L2.len2 hl;subst h;rfl))
local macro_rules | `(tactic| walk_at "b3")=> `(tactic| (intro _ _ _ _ _ _ us hl;obtain⟨_,_,_,h⟩:=L2.len3 hl;subst h;rfl))
local macro_rules | `(tactic| walk_at "b4")=> `(tactic| (intro _ _ _ _ _ _ us hl;obtain⟨_,_,_,_,h⟩:=L2.len4 hl;subst h;rfl))
local macro_rules | `(tactic| walk_at "b5")=> `(tactic| (intro _ _ _ _ _ _ us hl;obtain⟨_,_,_,_,_,h⟩:=L2.len5 hl;subst h;rfl))
local macro_rules | `(tactic| walk_at "b6")=> `(tactic| (intro _ _ _ _ _ _ us hl;obtain⟨_,_,_,_,_,_,h⟩:=L2.len6 hl;subst h;rfl))
local macro_rules | `(tactic| walk_at "b7")=> `(tactic| (intro _ _ _ _ _ _ us hl;obtain⟨_,_,_,_,_,_,_,h⟩:=L2.len7 hl;subst h;rfl))
local macro_rules | `(tactic| walk_at "b8")=> `(tactic| (intro _ _ _ _ _ _ us hl;obtain⟨_,_,_,_,_,_,_,_,h⟩:=L2.len8 hl;subst h;rfl))
namespace Fw
theorem fmod_small(r d:Int)(hd:d≠0):0≤r.fmod d*d∧(r.fmod d).natAbs<d.natAbs:=by
 rcases(by omega:0<d∨d<0) with h | h
 ·have a:=Int.fmod_nonneg_of_pos r h
  have b:=Int.fmod_lt_of_pos r h
  exact⟨Int.mul_nonneg a (Int.le_of_lt h),by omega⟩
 ·have e:r.fmod d= -((-r).fmod (-d)):=by
   rw[Int.fmod_def,Int.fmod_def,Int.neg_fdiv_neg,Int.neg_mul];omega
  have a:=Int.fmod_nonneg_of_pos (-r) (b:= -d) (by omega)
  have b:=Int.fmod_lt_of_pos (-r) (b:= -d) (by omega)
  rw[e]
  generalize (-r).fmod (-d)=z at*
  refine⟨?_,by omega⟩
  have:=Int.mul_nonneg a (show 0≤ -d by omega)
  rw[Int.neg_mul];rw[Int.mul_neg] at this;omega
structure EqI(a b u v r u' v' r':Int):Prop where
 e1:u*a+v*b=r
 e2:u'*a+v'*b=r'
 g:Int.gcd r r'=Int.gcd a b
 ph:(u=1∧v=0∧r=a∧u'=0∧v'=1∧r'=b)∨
  (b≠0∧r≠0∧0≤r'*r∧r.natAbs≤b.natAbs∧r'.natAbs≤b.natAbs∧u'.natAbs*r.natAbs+u.natAbs*r'.natAbs≤b.natAbs∧u.natAbs≤b.natAbs+1)
theorem EqI.start(a b:Int):EqI a b 1 0 a 0 1 b:=⟨by omega,by omega,rfl,.inl ⟨rfl,rfl,rfl,rfl,rfl,rfl⟩⟩
theorem natAbs_sub_mul(u q x:Int):(u-q*x).natAbs≤u.natAbs+q.natAbs*x.natAbs:=by
 have h:=Int.natAbs_sub_le u (q*x)
 rw[Int.natAbs_mul] at h
 exact h
theorem same_sign_quot{r d:Int}(hd:d≠0)(hs:0≤d*r):(r-r.fdiv d*d).natAbs+(r.fdiv d).natAbs*d.natAbs=r.natAbs:=by
 have e:r.fmod d+r.fdiv d*d=r:=Int.fmod_add_fdiv_mul r d
 have e2:r-r.fdiv d*d=r.fmod d:=by omega
 rw[e2,←Int.natAbs_mul]
 have fs:=fmod_small r d hd
 rcases(by omega:0<d∨d<0) with h | h
 ·have r0:0≤r:=by
   rcases(by omega:0≤r∨r<0) with z | z
   ·exact z
   ·have:=Int.mul_neg_of_pos_of_neg h z;omega
  have q0:0≤r.fdiv d:=Int.fdiv_nonneg r0 (Int.le_of_lt h)
  have a:=Int.fmod_nonneg_of_pos r h
  have p:=Int.mul_nonneg q0 (Int.le_of_lt h)
  omega
 ·have r0:r≤0:=by
   rcases(by omega:r≤0∨0<r) with z | z
   ·exact z
   ·have:=Int.mul_neg_of_neg_of_pos h z;omega
  have q0:0≤r.fdiv d:=Int.fdiv_nonneg_of_nonpos_of_nonpos r0 (Int.le_of_lt h)
  have a:r.fmod d≤0:=by
   rcases(by omega:r.fmod d≤0∨0<r.fmod d) with z | z
   ·exact z
   ·have:=Int.mul_neg_of_pos_of_neg z h;omega
  have p:=Int.mul_nonneg q0 (show 0≤ -d by omega)
  rw[Int.mul_neg] at p
  omega
theorem EqI.step{a b u v r u' v' r':Int}(I:EqI a b u v r u' v' r')(h:r'≠0):
 EqI a b u' v' r' (u-r.fdiv r'*u') (v-r.fdiv r'*v') (r-r.fdiv r'*r')∧(r-r.fdiv r'*r').natAbs<r'.natAbs:=by
 have e:r.fmod r'+r.fdiv r'*r'=r:=Int.fmod_add_fdiv_mul r r'
 have e2:r-r.fdiv r'*r'=r.fmod r':=by omega
 have fs:=fmod_small r r' h
 refine⟨⟨I.e2,?_,?_,?_⟩,by rw[e2];exact fs.2⟩
 ·have:=I.e1
  have:=I.e2
  grind
 ·rw[Int.gcd_sub_mul_right_right,Int.gcd_comm]
  exact I.g
 ·right
  rcases I.ph with ⟨h1,h2,h3,h4,h5,h6⟩ | ⟨hb,hr,hs,l1,l2,l3,l4⟩
  ·subst h1 h2 h3 h4 h5 h6
   refine⟨h,h,by rw[e2];exact fs.1,Nat.le_refl _,by rw[e2];omega,?_,by simp⟩
   simp
  ·have q:=same_sign_quot h hs
   refine⟨hb,h,by rw[e2];exact fs.1,l2,by rw[e2];omega,?_,?_⟩
   ·have m:=natAbs_sub_mul u (r.fdiv r') u'
    generalize (r-r.fdiv r'*r').natAbs=A at*
    generalize (u-r.fdiv r'*u').natAbs=B at*
    generalize (r.fdiv r').natAbs=C at*
    have k1:B*r'.natAbs≤(u.natAbs+C*u'.natAbs)*r'.natAbs:=Nat.mul_le_mul_right _ m
    have k2:(u.natAbs+C*u'.natAbs)*r'.natAbs+u'.natAbs*A=u.natAbs*r'.natAbs+u'.natAbs*(A+C*r'.natAbs):=by grind
    rw[q] at k2
    omega
   ·have:u'.natAbs*1≤u'.natAbs*r.natAbs:=Nat.mul_le_mul_left _ (by omega)
    omega
theorem v_bound{a b u v r:Int}(hb:b≠0)(e:u*a+v*b=r)(l1:r.natAbs≤b.natAbs)(l4:u.natAbs≤b.natAbs+1):v.natAbs≤1+2*a.natAbs:=by
 have e1:v*b=r-u*a:=by omega
 have h:=natAbs_sub_mul r u a
 rw[←e1,Int.natAbs_mul] at h
 have hb':0<b.natAbs:=by omega
 have k:u.natAbs*a.natAbs≤(b.natAbs+1)*a.natAbs:=Nat.mul_le_mul_right _ l4
 have k2:a.natAbs*1≤a.natAbs*b.natAbs:=Nat.mul_le_mul_left _ hb'
 have k3:v.natAbs*b.natAbs≤(1+2*a.natAbs)*b.natAbs:=by grind
 exact Nat.le_of_mul_le_mul_right k3 hb'
theorem EqI.bounds{a b u v r u' v' r':Int}(I:EqI a b u v r u' v' r'):
 u.natAbs≤b.natAbs+1∧v.natAbs≤1+2*a.natAbs∧u'.natAbs≤b.natAbs+1∧v'.natAbs≤1+2*a.natAbs∧r.natAbs≤a.natAbs+b.natAbs∧r'.natAbs≤b.natAbs:=by
 rcases I.ph with ⟨h1,h2,h3,h4,h5,h6⟩ | ⟨hb,hr,hs,l1,l2,l3,l4⟩
 ·subst h1 h2 h3 h4 h5 h6
  refine⟨by simp,by simp,by simp,by simp,by omega,by omega⟩
 ·have:u'.natAbs*1≤u'.natAbs*r.natAbs:=Nat.mul_le_mul_left _ (by omega)
  have lu:u'.natAbs≤b.natAbs+1:=by omega
  exact⟨l4,v_bound hb I.e1 l1 l4,lu,v_bound hb I.e2 l2 lu,by omega,l2⟩
theorem quot_bound{r d:Int}(hd:d≠0):(r.fdiv d).natAbs≤r.natAbs+1:=by
 have e:r.fmod d+r.fdiv d*d=r:=Int.fmod_add_fdiv_mul r d
 have fs:=(fmod_small r d hd).2
 have h:(r.fdiv d*d).natAbs≤r.natAbs+(r.fmod d).natAbs:=by omega
 rw[Int.natAbs_mul] at h
 have d1:1≤d.natAbs:=by omega
 generalize (r.fdiv d).natAbs=x at*
 generalize d.natAbs=y at*
 generalize r.natAbs=z at*
 rcases(by omega:x≤1∨2≤x) with c | c
 ·omega
 ·obtain⟨k,rfl⟩:∃k,x=k+1:=⟨x-1,by omega⟩
  have:(k+1)*y=k*y+y:=Nat.succ_mul k y
  have:k*1≤k*y:=Nat.mul_le_mul_left k d1
  omega
structure Eqn(a b u v g:Int):Prop where
 eq:u*a+v*b=g
 gd:g=(Int.gcd a b:Int)
 bu:u.natAbs≤b.natAbs+1
 bv:v.natAbs≤1+2*a.natAbs
theorem EqI.done{a b u v r u' v':Int}(I:EqI a b u v r u' v' 0):(r<0→Eqn a b (-u) (-v) (-r))∧(¬r<0→Eqn a b u v r):=by
 have g:=I.g
 rw[Int.gcd_zero_right] at g
 have B:=I.bounds
 refine⟨fun h=>⟨?_,by omega,by omega,by omega⟩,fun h=>⟨I.e1,by omega,B.1,B.2.1⟩⟩
 have:=I.e1
 rw[Int.neg_mul,Int.neg_mul];omega
end Fw
namespace Fw
theorem gcd_pos{a b:Int}(ha:0<a):0<(Int.gcd a b:Int):=by
 have:Int.gcd a b≠0:=fun z=>by
  have:=Int.eq_zero_of_gcd_eq_zero_left z
  omega
 omega
theorem gcd_le{a b:Int}(ha:0<a):(Int.gcd a b:Int)≤a:=Int.le_of_dvd ha (Int.gcd_dvd_left ..)
def lcmI(a b:Int):Int:=a/(Int.gcd a b:Int)*b
theorem lcmI_facts{a b:Int}(ha:0<a)(hb:0<b):
 0<lcmI a b∧a∣lcmI a b∧b∣lcmI a b∧lcmI a b*(Int.gcd a b:Int)=a*b∧(∀t,a∣t→b∣t→lcmI a b∣t)∧lcmI a b=(Int.lcm a b:Int):=by
 have gp:=gcd_pos (b:=b) ha
 obtain⟨x,hx⟩:(Int.gcd a b:Int)∣a:=Int.gcd_dvd_left ..
 obtain⟨y,hy⟩:(Int.gcd a b:Int)∣b:=Int.gcd_dvd_right ..
 have e1:a/(Int.gcd a b:Int)=x:=by
  have gne:(Int.gcd a b:Int)≠0:=by omega
  generalize hg:(Int.gcd a b:Int)=g at*
  rw[hx]
  exact Int.mul_ediv_cancel_left x gne
 have e:lcmI a b=x*b:=by unfold lcmI;rw[e1]
 have pr:lcmI a b*(Int.gcd a b:Int)=a*b:=by rw[e];conv=>rhs;rw[hx]
                                            grind
 have pl:(Int.lcm a b:Int)*(Int.gcd a b:Int)=a*b:=by
  have h:=Int.gcd_mul_lcm a b
  have h2:((Int.gcd a b*Int.lcm a b:Nat):Int)=((a.natAbs*b.natAbs:Nat):Int):=by rw[h]
  rw[Int.natCast_mul,Int.natCast_mul,Int.natAbs_of_nonneg (Int.le_of_lt ha),Int.natAbs_of_nonneg (Int.le_of_lt hb)] at h2
  rw[Int.mul_comm];exact h2
 have el:lcmI a b=(Int.lcm a b:Int):=Int.eq_of_mul_eq_mul_right (by omega:(Int.gcd a b:Int)≠0) (pr.trans pl.symm)
 refine⟨?_,?_,?_,pr,?_,el⟩
 ·have:0<lcmI a b*(Int.gcd a b:Int):=by rw[pr];exact Int.mul_pos ha hb
  exact Int.pos_of_mul_pos_left this gp
 ·rw[el];exact Int.dvd_lcm_left ..
 ·rw[el];exact Int.dvd_lcm_right ..
 ·intro t h1 h2;rw[el];exact Int.coe_lcm_dvd h1 h2
theorem lcmI_le{a b:Int}(ha:0<a)(hb:0<b):lcmI a b≤a*b:=by
 have f:=lcmI_facts ha hb
 have gp:=gcd_pos (b:=b) ha
 have h:lcmI a b*1≤lcmI a b*(Int.gcd a b:Int):=Int.mul_le_mul_of_nonneg_left (by omega) (Int.le_of_lt f.1)
 rw[f.2.2.2.1] at h;omega
end Fw
namespace Fw
def On(n:Int)(b:Nat)(d:Int):Bool:=b.testBit (d%n).toNat
theorem on_eq(b k:Nat):decide (((b:Nat):Int)/2^k%2=1)=b.testBit k:=by
 rw[Nat.testBit_eq_decide_div_mod_eq]
 have e:((b:Nat):Int)/2^k%2=((b/2^k%2:Nat):Int):=by
  rw[Int.natCast_emod,Int.natCast_ediv,Int.natCast_pow];rfl
 rw[e,Bool.eq_iff_iff]
 simp only[decide_eq_true_eq]
 omega
theorem shr_cast(b k:Nat):((b:Nat):Int)/2^k=((b >>> k:Nat):Int):=by
 rw[Nat.shiftRight_eq_div_pow,Int.natCast_ediv,Int.natCast_pow];rfl
theorem shl_cast(b k:Nat):((b:Nat):Int)*2^k=((b <<< k:Nat):Int):=by
 rw[Nat.shiftLeft_eq,Int.natCast_mul,Int.natCast_pow];rfl
theorem pow_cast(k:Nat):(1:Int)*2^k=((2^k:Nat):Int):=by
 rw[Int.natCast_pow];simp
structure Strt(n b w c:Nat):Prop where
 lt:c<2^w
 bit:∀i,i<w→c.testBit i=b.testBit (i%n)
theorem Strt.start{n b:Nat}(h:b<2^n):Strt n b n b:=⟨h,fun i hi=>by rw[Nat.mod_eq_of_lt hi]⟩
theorem Strt.on{n m:Int}{b c:Nat}(hn:0<n)(hm:0<m)(hd:n∣m)(S:Strt n.toNat b m.toNat c)(d:Int):On m c d=On n b d:=by
 unfold On
 have h1:=Int.emod_nonneg d (show m≠0 by omega)
 have h2:=Int.emod_lt_of_pos d hm
 rw[S.bit _ (by omega)]
 congr 1
 have e:(d%m)%n=d%n:=Int.emod_emod_of_dvd d hd
 have h3:=Int.emod_nonneg d (show n≠0 by omega)
 have k:(((d%m).toNat%n.toNat:Nat):Int)=d%m%n:=by
  rw[Int.natCast_emod]
  have a1:((d%m).toNat:Int)=d%m:=by omega
  have a2:(n.toNat:Int)=n:=by omega
  rw[a1,a2]
 rw[e] at k
 omega
end Fw
namespace Fw
abbrev Tm:=Int×Int×Int×Int
structure OkT(t:Tm):Prop where
 sg:t.1=1∨t.1= -1
 n0:1≤t.2.2.2
 n1:t.2.2.2≤1000
 a0:0≤t.2.1
 a1:t.2.1≤t.2.2.2
 b0:0≤t.2.2.1
 b1:t.2.2.1<t.2.2.2
def onT(t:Tm)(k:Int):Bool:=decide (t.2.2.2≤(t.2.1*k+t.2.2.1)%t.2.2.2+t.2.1)
def ctT(t:Tm)(k:Int):Int:=(t.2.1*k+t.2.2.1)/t.2.2.2
def SU(ts:List Tm)(k:Int):Int:=(ts.map fun t=>t.1*ctT t k).sum
def UP(base:Int)(ts:List Tm)(k:Int):Int:=base*k+SU ts k
def ONS(ts:List Tm)(k:Int):Int:=((ts.filter fun t=>onT t k).map fun t=>t.1).sum
def AT(base:Int)(ts:List Tm)(k:Int):Int:=base+ONS ts k
def falls(ts:List Tm):Int:=((ts.filter fun t=>decide (t.1= -1)).length:Int)
theorem ct_step{t:Tm}(h:OkT t)(k:Int):ctT t (k+1)=ctT t k+(if onT t k=true then 1 else 0):=by
 unfold ctT onT
 obtain⟨s,a,b,n⟩:=t
 have n0:=h.n0
 have a0:=h.a0
 have a1:=h.a1
 dsimp only at n0 a0 a1 ⊢
 have e:a*(k+1)+b=a*k+b+a:=by rw[Int.mul_add,Int.mul_one];omega
 rw[e]
 generalize a*k+b=y
 have q:=Int.mul_ediv_add_emod y n
 have r0:=Int.emod_nonneg y (show n≠0 by omega)
 have r1:=Int.emod_lt_of_pos y (show 0<n by omega)
 by_cases c:n≤y%n+a
 ·rw[decide_eq_true c,if_pos rfl]
  have h:y+a=n*(y/n+1)+(y%n+a-n):=by rw[Int.mul_add,Int.mul_one];omega
  conv=>lhs;rw[h]
  rw[Int.mul_add_ediv_left _ _ (by omega),Int.ediv_eq_zero_of_lt (a:=y%n+a-n) (b:=n) (by omega) (by omega)]
  omega
 ·rw[decide_eq_false c,if_neg Bool.false_ne_true]
  have h:y+a=n*(y/n)+(y%n+a):=by omega
  conv=>lhs;rw[h]
  rw[Int.mul_add_ediv_left _ _ (by omega),Int.ediv_eq_zero_of_lt (a:=y%n+a) (b:=n) (by omega) (by omega)]
theorem ct_zero{t:Tm}(h:OkT t):ctT t 0=0:=by
 unfold ctT
 rw[Int.mul_zero,Int.zero_add]
 exact Int.ediv_eq_zero_of_lt h.b0 h.b1
theorem SU_step:∀{ts:List Tm} (_:∀t∈ts,OkT t) (k:Int),SU ts (k+1)=SU ts k+ONS ts k
 | [],_,k=>rfl
 | t::ts,h,k=>by
  have ih:=SU_step (ts:=ts) (fun x hx=>h x (List.mem_cons_of_mem _ hx)) k
  have s:=ct_step (h t List.mem_cons_self) k
  unfold SU ONS at*
  rw[List.map_cons,List.map_cons,List.sum_cons,List.sum_cons,ih,s,List.filter_cons]
  by_cases c:onT t k=true
  ·rw[if_pos c,if_pos c,List.map_cons,List.sum_cons,Int.mul_add,Int.mul_one]
   omega
  ·rw[if_neg c,if_neg c,Int.add_zero]
   omega
theorem SU_zero:∀{ts:List Tm} (_:∀t∈ts,OkT t),SU ts 0=0
 | [],_=>rfl
 | t::ts,h=>by
  have ih:=SU_zero (ts:=ts) (fun x hx=>h x (List.mem_cons_of_mem _ hx))
  unfold SU at*
  rw[List.map_cons,List.sum_cons,ih,ct_zero (h t List.mem_cons_self)]
  simp
theorem ONS_low:∀{ts:List Tm} (_:∀t∈ts,OkT t) (k:Int),-falls ts≤ONS ts k
 | [],_,k=>by show(-((0:Nat):Int))≤0;omega
 | t::ts,h,k=>by
  have ih:=ONS_low (ts:=ts) (fun x hx=>h x (List.mem_cons_of_mem _ hx)) k
  have sg:=(h t List.mem_cons_self).sg
  unfold falls ONS at*
  rw[List.filter_cons,List.filter_cons]
  by_cases c:onT t k=true
  ·rw[if_pos c,List.map_cons,List.sum_cons]
   rcases sg with z | z
   ·rw[if_neg (by rw[decide_eq_true_eq];omega)]
    omega
   ·rw[if_pos (decide_eq_true z),List.length_cons]
    omega
  ·rw[if_neg c]
   split
   ·rw[List.length_cons]
    omega
   ·omega
theorem UP_step{base:Int}{ts:List Tm}(h:∀t∈ts,OkT t)(k:Int):UP base ts (k+1)=UP base ts k+AT base ts k:=by
 unfold UP AT
 rw[SU_step h,Int.mul_add,Int.mul_one]
 omega
theorem UP_zero{base:Int}{ts:List Tm}(h:∀t∈ts,OkT t):UP base ts 0=0:=by
 unfold UP
 rw[SU_zero h,Int.mul_zero]
 rfl
theorem UP_mono{base:Int}{ts:List Tm}(h:∀t∈ts,OkT t)(hf:falls ts≤base){j k:Int}(jk:j≤k):UP base ts j≤UP base ts k:=by
 have:∀m:Nat,UP base ts j≤UP base ts (j+(m:Int)):=by
  intro m
  induction m with
  | zero=>simp
  | succ m ih=>
   have e:=UP_step (base:=base) h (j+(m:Int))
   have l:=ONS_low h (j+(m:Int))
   unfold AT at e
   rw[show j+((m+1:Nat):Int)=j+(m:Int)+1 by omega,e]
   omega
 have:=this (k-j).toNat
 rwa [show j+((k-j).toNat:Int)=k by omega] at this
theorem ct_per{t:Tm}(h:OkT t){P:Int}(hd:t.2.2.2∣P)(k q:Int):ctT t (k+P*q)=ctT t k+q*ctT t P:=by
 have n0:=h.n0
 obtain⟨c,rfl⟩:=hd
 unfold ctT
 obtain⟨s,a,b,n⟩:=t
 dsimp only at n0 ⊢
 have b0:=h.b0
 have b1:=h.b1
 dsimp only at b0 b1
 have e1:a*(k+n*c*q)+b=a*k+b+n*(a*(c*q)):=by
  rw[Int.mul_add,show a*(n*c*q)=n*(a*(c*q)) by rw[Int.mul_assoc,Int.mul_left_comm]]
  omega
 have e2:a*(n*c)+b=b+n*(a*c):=by rw[Int.mul_left_comm];omega
 rw[e1,e2,Int.add_mul_ediv_left _ _ (by omega),Int.add_mul_ediv_left _ _ (by omega),Int.ediv_eq_zero_of_lt b0 b1,Int.zero_add]
 congr 1
 rw[Int.mul_left_comm q a c,Int.mul_comm q c]
theorem SU_per:∀{ts:List Tm} (_:∀t∈ts,OkT t) {P:Int} (_:∀t∈ts,t.2.2.2∣P) (k q:Int),SU ts (k+P*q)=SU ts k+q*SU ts P
 | [],_,P,_,k,q=>by unfold SU;simp
 | t::ts,h,P,hd,k,q=>by
  have ih:=SU_per (ts:=ts) (fun x hx=>h x (List.mem_cons_of_mem _ hx)) (P:=P) (fun x hx=>hd x (List.mem_cons_of_mem _ hx)) k q
  have s:=ct_per (h t List.mem_cons_self) (hd t List.mem_cons_self) k q
  unfold SU at*
  rw[List.map_cons,List.map_cons,List.map_cons,List.sum_cons,List.sum_cons,List.sum_cons,ih,s,Int.mul_add,Int.mul_add,Int.mul_left_comm t.1 q]
  omega
theorem UP_per{base:Int}{ts:List Tm}(h:∀t∈ts,OkT t){P:Int}(hd:∀t∈ts,t.2.2.2∣P)(k q:Int):UP base ts (k+P*q)=UP base ts k+q*UP base ts P:=by
 unfold UP
 rw[SU_per h hd,Int.mul_add,Int.mul_add,show base*(P*q)=q*(base*P) by rw[←Int.mul_assoc,Int.mul_comm]]
 omega
theorem ct_le{t:Tm}(h:OkT t){k:Int}(k0:0≤k):0≤ctT t k∧ctT t k≤k:=by
 have n0:=h.n0
 have a0:=h.a0
 have b0:=h.b0
 have b1:=h.b1
 have p0:0≤t.2.1*k:=Int.mul_nonneg a0 k0
 have p1:t.2.1*k≤t.2.2.2*k:=Int.mul_le_mul_of_nonneg_right h.a1 k0
 unfold ctT
 refine⟨Int.ediv_nonneg (by omega) (by omega),?_⟩
 have:(t.2.1*k+t.2.2.1)/t.2.2.2<k+1:=by
  rw[Int.ediv_lt_iff_lt_mul (by omega),Int.add_mul,Int.one_mul,Int.mul_comm k]
  omega
 omega
theorem SU_le:∀{ts:List Tm} (_:∀t∈ts,OkT t) {k:Int} (_:0≤k),-((ts.length:Int)*k)≤SU ts k∧SU ts k≤(ts.length:Int)*k
 | [],_,k,_=>by unfold SU;simp
 | t::ts,h,k,k0=>by
  have ih:=SU_le (ts:=ts) (fun x hx=>h x (List.mem_cons_of_mem _ hx)) k0
  have c:=ct_le (h t List.mem_cons_self) k0
  have sg:=(h t List.mem_cons_self).sg
  unfold SU at*
  rw[List.map_cons,List.sum_cons,List.length_cons,Int.natCast_add,Int.add_mul]
  have e1:((1:Nat):Int)*k=k:=by simp
  rcases sg with z | z
  ·rw[z,Int.one_mul]
   omega
  ·rw[z,show(-1:Int)*ctT t k= -ctT t k by omega]
   omega
def PER(ts:List Tm):Int:=ts.foldl (fun p t=>lcmI p t.2.2.2) 1
end Fw
namespace Fw
theorem UP_pos{base:Int}{ts:List Tm}(h:∀t∈ts,OkT t)(hf:falls ts<base){P:Int}(P0:0<P):0<UP base ts P:=by
 have m:=UP_mono h (Int.le_refl (falls ts)) (show (0:Int)≤P by omega)
 rw[UP_zero h] at m
 unfold UP at*
 have:(falls ts+1)*P≤base*P:=Int.mul_le_mul_of_nonneg_right (by omega) (by omega)
 rw[Int.add_mul,Int.one_mul] at this
 omega
end Fw
namespace Fw
theorem AT_high{ts:List Tm}(h:∀t∈ts,OkT t)(k:Int):ONS ts k≤(ts.length:Int):=by
 unfold ONS
 induction ts with
 | nil=>exact Int.le_refl 0
 | cons t ts ih=>
  have i:=ih fun x hx=>h x (List.mem_cons_of_mem _ hx)
  have sg:=(h t List.mem_cons_self).sg
  rw[List.filter_cons,List.length_cons]
  split
  ·rw[List.map_cons,List.sum_cons]
   omega
  ·omega
end Fw
namespace Fw
theorem sum_le:∀{ls:List Int},(∀n∈ls,0≤n∧n≤1000)→0≤ls.sum∧ls.sum≤1000*(ls.length:Int)
 | [],_=>by simp
 | a::ls,h=>by
  have i:=sum_le (ls:=ls) fun n hn=>h n (List.mem_cons_of_mem _ hn)
  have:=h a List.mem_cons_self
  rw[List.sum_cons,List.length_cons]
  omega
theorem sum_set:∀{ls:List Int} {i:Nat} {e:Int},i<ls.length→(ls.set i (ls.getD i 0+e)).sum=ls.sum+e
 | [],i,e,h=>by simp at h
 | a::ls,0,e,_=>by
  show(a+e)+ls.sum=(a::ls).sum+e
  rw[List.sum_cons]
  omega
 | a::ls,i+1,e,h=>by
  have ih:=sum_set (ls:=ls) (i:=i) (e:=e) (by simpa using h)
  show a+(ls.set i (ls.getD i 0+e)).sum=(a::ls).sum+e
  rw[ih,List.sum_cons]
  omega
def LENS(ls:List Int)(lp:Int)(ts:List Tm)(y:Int):List Int:=ls.set (lp-1).toNat (ls.getD (lp-1).toNat 0+ONS ts y)
structure GoodS(ls:List Int)(lp:Int)(ts:List Tm):Prop where
 l0:1≤ls.length
 l1:ls.length≤20
 m:∀n∈ls,0≤n∧n≤1000
 p0:1≤lp
 p1:lp≤(ls.length:Int)
 f0:falls ts≤ls.getD (lp-1).toNat 0
 f1:falls ts<ls.sum
 ok:∀t∈ts,OkT t
 few:ts.length≤6
theorem GoodS.sum{ls:List Int}{lp:Int}{ts:List Tm}(g:GoodS ls lp ts):0≤ls.sum∧ls.sum≤20000:=by
 have:=sum_le g.m
 have:=g.l1
 omega
theorem LENS_sum{ls:List Int}{lp:Int}{ts:List Tm}(g:GoodS ls lp ts)(y:Int):(LENS ls lp ts y).sum=AT ls.sum ts y:=by
 have p0:=g.p0
 have p1:=g.p1
 unfold LENS AT
 exact sum_set (by omega)
theorem getD_mem'{ls:List Int}{i:Nat}(h:i<ls.length):ls.getD i 0∈ls:=by
 rw[List.getD_eq_getElem?_getD,List.getElem?_eq_getElem h]
 exact List.getElem_mem h
theorem LENS_mem{ls:List Int}{lp:Int}{ts:List Tm}(g:GoodS ls lp ts)(y:Int):∀n∈LENS ls lp ts y,0≤n∧n≤1006:=by
 intro n hn
 have p0:=g.p0
 have p1:=g.p1
 unfold LENS at hn
 rcases List.mem_or_eq_of_mem_set hn with z | z
 ·have:=g.m n z
  omega
 ·have:=g.m _ (getD_mem' (ls:=ls) (i:=(lp-1).toNat) (by omega))
  have l:=ONS_low g.ok y
  have u:=AT_high g.ok y
  have:=g.few
  have:=g.f0
  omega
theorem LENS_len{ls:List Int}{lp:Int}{ts:List Tm}{y:Int}:(LENS ls lp ts y).length=ls.length:=by
 unfold LENS
 rw[List.length_set]
end Fw
namespace Fw
theorem UP_less{b:Int}{ts:List Tm}{k:Int}:UP b ts k=UP (b-1) ts k+k:=by
 unfold UP
 rw[Int.sub_mul,Int.one_mul]
 omega
theorem UP_lt{b:Int}{ts:List Tm}(h:∀t∈ts,OkT t)(hf:falls ts<b){j k:Int}(jk:j<k):UP b ts j<UP b ts k:=by
 have:=UP_mono h (show falls ts≤b-1 by omega) (Int.le_of_lt jk)
 rw[UP_less (b:=b),UP_less (b:=b) (k:=k)]
 omega
theorem seek_small{b:Int}{ts:List Tm}(h:∀t∈ts,OkT t)(hf:falls ts<b){n k:Int}(u1:UP b ts k≤n)(u2:n<UP b ts (k+1)):k.natAbs≤n.natAbs:=by
 have z:=UP_zero (base:=b-1) h
 rw[UP_less] at u1 u2
 rcases Int.lt_or_le k 0 with c | c
 ·have:=UP_mono h (show falls ts≤b-1 by omega) (show k+1≤0 by omega)
  omega
 ·have:=UP_mono h (show falls ts≤b-1 by omega) c
  omega
structure GoodMo(bd:Int)(td:List Tm)(bm:Int)(tm:List Tm):Prop where
 fd:falls td<bd
 gd:bd≤1000
 fm:falls tm<bm
 gm:bm≤20
 okd:∀t∈td,OkT t
 okm:∀t∈tm,OkT t
 fwd:td.length≤6
 fwm:tm.length≤6
def MYS(s bd:Int)(td:List Tm)(bm:Int)(tm:List Tm)(y:Int):Int:=s+UP bd td (UP bm tm y)
def MLEN(bd:Int)(td:List Tm)(bm:Int)(tm:List Tm)(y:Int):List Int:=(List.range (AT bm tm y).toNat).map fun i:Nat=>AT bd td (UP bm tm y+(i:Int))
theorem at_sum{b:Int}{ts:List Tm}(h:∀t∈ts,OkT t)(f:Int):∀n:Nat,((List.range n).map fun i:Nat=>AT b ts (f+(i:Int))).sum=UP b ts (f+(n:Int))-UP b ts f
 | 0=>by simp
 | n+1=>by
  have s:=UP_step (base:=b) h (f+(n:Int))
  rw[List.range_succ,List.map_append,List.sum_append,at_sum h f n,show f+((n+1:Nat):Int)=f+(n:Int)+1 by omega,s]
  simp
  omega
theorem AT_pos{b:Int}{ts:List Tm}(h:∀t∈ts,OkT t)(hf:falls ts<b)(k:Int):1≤AT b ts k:=by
 have:=ONS_low h k
 unfold AT
 omega
theorem AT_le{b:Int}{ts:List Tm}(h:∀t∈ts,OkT t)(few:ts.length≤6)(k:Int):AT b ts k≤b+6:=by
 have:=AT_high h k
 unfold AT
 omega
theorem MLEN_sum{s bd:Int}{td:List Tm}{bm:Int}{tm:List Tm}(g:GoodMo bd td bm tm)(y:Int):(MLEN bd td bm tm y).sum=MYS s bd td bm tm (y+1)-MYS s bd td bm tm y:=by
 unfold MLEN MYS
 have p:=AT_pos g.okm g.fm y
 rw[at_sum g.okd,show((AT bm tm y).toNat:Int)=AT bm tm y by omega,←UP_step g.okm]
 omega
theorem MLEN_mem{bd:Int}{td:List Tm}{bm:Int}{tm:List Tm}(g:GoodMo bd td bm tm)(y:Int):∀n∈MLEN bd td bm tm y,0≤n∧n≤1006:=by
 intro n hn
 unfold MLEN at hn
 obtain⟨i,_,rfl⟩:=List.mem_map.mp hn
 have:=AT_pos g.okd g.fd (UP bm tm y+(i:Int))
 have:=AT_le g.okd g.fwd (b:=bd) (UP bm tm y+(i:Int))
 have:=g.gd
 omega
theorem MLEN_len{bd:Int}{td:List Tm}{bm:Int}{tm:List Tm}(g:GoodMo bd td bm tm)(y:Int):1≤(MLEN bd td bm tm y).length∧(MLEN bd td bm tm y).length≤26:=by
 unfold MLEN
 rw[List.length_map,List.length_range]
 have:=AT_pos g.okm g.fm y
 have:=AT_le g.okm g.fwm (b:=bm) y
 have:=g.gm
 omega
end Fw
namespace Fw
inductive CalD where
 | sun (s:Int) (ls:List Int) (lp:Int) (ts:List Tm)
 | moon (s bd:Int) (td:List Tm) (bm:Int) (tm:List Tm)
def CalD.Y:CalD→Int→Int
 | .sun s ls _ ts,y=>s+UP ls.sum ts y
 | .moon s bd td bm tm,y=>MYS s bd td bm tm y
def CalD.L:CalD→Int→List Int
 | .sun _ ls lp ts,y=>LENS ls lp ts y
 | .moon _ bd td bm tm,y=>MLEN bd td bm tm y
def CalD.good:CalD→Prop
 | .sun _ ls lp ts=>GoodS ls lp ts
 | .moon _ bd td bm tm=>GoodMo bd td bm tm
def CalD.st:CalD→Int
 | .sun s _ _ _=>s
 | .moon s _ _ _ _=>s
def PS(l:List Int)(j:Nat):Int:=(l.take j).sum
theorem PS_zero{l:List Int}:PS l 0=0:=rfl
theorem PS_succ{l:List Int}{j:Nat}(h:j<l.length):PS l (j+1)=PS l j+l.getD j 0:=by
 unfold PS
 rw[List.take_add_one,List.getD_eq_getElem?_getD,List.getElem?_eq_getElem h,List.sum_append]
 simp
theorem PS_mono{l:List Int}(h:∀n∈l,0≤n){i:Nat}:∀{j:Nat},i≤j→j≤l.length→PS l i≤PS l j
 | 0,hij,_=>by
  have:i=0:=by omega
  subst this
  exact Int.le_refl _
 | j+1,hij,hj=>by
  rcases Nat.lt_or_eq_of_le hij with c | c
  ·have:=PS_mono (i:=i) h (show i≤j by omega) (by omega)
   have e:=PS_succ (l:=l) (j:=j) (by omega)
   have:=h _ (getD_mem' (ls:=l) (i:=j) (by omega))
   omega
  ·subst c
   exact Int.le_refl _
theorem PS_len{l:List Int}:PS l l.length=l.sum:=by
 unfold PS
 rw[List.take_length]
theorem CalD.step{d:CalD}(g:d.good)(y:Int):d.Y (y+1)=d.Y y+(d.L y).sum:=by
 cases d with
 | sun s ls lp ts=>
  show s+UP ls.sum ts (y+1)=s+UP ls.sum ts y+(LENS ls lp ts y).sum
  rw[LENS_sum g y,UP_step (GoodS.ok g)]
  omega
 | moon s bd td bm tm=>
  show MYS s bd td bm tm (y+1)=MYS s bd td bm tm y+(MLEN bd td bm tm y).sum
  rw[MLEN_sum (s:=s) g y]
  omega
theorem CalD.mem{d:CalD}(g:d.good)(y:Int):∀n∈d.L y,0≤n∧n≤1006:=by
 cases d with
 | sun s ls lp ts=>exact LENS_mem g y
 | moon s bd td bm tm=>exact MLEN_mem g y
theorem CalD.len{d:CalD}(g:d.good)(y:Int):1≤(d.L y).length∧(d.L y).length≤26:=by
 cases d with
 | sun s ls lp ts=>
  show 1≤(LENS ls lp ts y).length∧(LENS ls lp ts y).length≤26
  rw[LENS_len]
  have:=GoodS.l0 g
  have:=GoodS.l1 g
  omega
 | moon s bd td bm tm=>exact MLEN_len g y
theorem CalD.lt{d:CalD}(g:d.good){j k:Int}(h:j<k):d.Y j<d.Y k:=by
 cases d with
 | sun s ls lp ts=>
  have:=UP_lt (GoodS.ok g) (GoodS.f1 g) h
  show s+UP ls.sum ts j<s+UP ls.sum ts k
  omega
 | moon s bd td bm tm=>
  have:=UP_lt (GoodMo.okd g) (GoodMo.fd g) (UP_lt (GoodMo.okm g) (GoodMo.fm g) h)
  show s+UP bd td (UP bm tm j)<s+UP bd td (UP bm tm k)
  omega
theorem CalD.uniq{d:CalD}(g:d.good){n j k:Int}(h1:d.Y j≤n)(h2:n<d.Y (j+1))(h3:d.Y k≤n)(h4:n<d.Y (k+1)):j=k:=by
 rcases Int.lt_trichotomy j k with c | c | c
 ·rcases Int.lt_or_eq_of_le (show j+1≤k by omega) with z | z
  ·have:=CalD.lt g z
   omega
  ·rw[z] at h2
   omega
 ·exact c
 ·rcases Int.lt_or_eq_of_le (show k+1≤j by omega) with z | z
  ·have:=CalD.lt g z
   omega
  ·rw[z] at h4
   omega
structure IsD(d:CalD)(y m r:Int):Prop where
 m0:1≤m
 m1:m≤((d.L y).length:Int)
 r0:1≤r
 r1:r≤(d.L y).getD (m-1).toNat 0
def DayOf(d:CalD)(y m r:Int):Int:=d.Y y+PS (d.L y) (m-1).toNat+r-1
theorem IsD.year{d:CalD}(g:d.good){y m r:Int}(h:IsD d y m r):d.Y y≤DayOf d y m r∧DayOf d y m r<d.Y (y+1):=by
 have m0:=h.m0
 have m1:=h.m1
 have r0:=h.r0
 have r1:=h.r1
 have nn:∀n∈d.L y,0≤n:=fun n hn=>(CalD.mem g y n hn).1
 have a:=PS_mono nn (i:=0) (j:=(m-1).toNat) (by omega) (by omega)
 have b:=PS_succ (l:=d.L y) (j:=(m-1).toNat) (by omega)
 have c:=PS_mono nn (i:=(m-1).toNat+1) (j:=(d.L y).length) (by omega) (Nat.le_refl _)
 rw[PS_len] at c
 rw[PS_zero] at a
 rw[CalD.step g]
 unfold DayOf
 omega
theorem IsD.uniq{d:CalD}(g:d.good){y m r y' m' r':Int}(h:IsD d y m r)(h':IsD d y' m' r')(e:DayOf d y m r=DayOf d y' m' r'):y=y'∧m=m'∧r=r':=by
 have e1:=h.year g
 have e2:=h'.year g
 rw[←e] at e2
 have ey:=CalD.uniq g e1.1 e1.2 e2.1 e2.2
 subst ey
 have m0:=h.m0
 have m1:=h.m1
 have r0:=h.r0
 have r1:=h.r1
 have m0':=h'.m0
 have m1':=h'.m1
 have r0':=h'.r0
 have r1':=h'.r1
 have nn:∀n∈d.L y,0≤n:=fun n hn=>(CalD.mem g y n hn).1
 have b:=PS_succ (l:=d.L y) (j:=(m-1).toNat) (by omega)
 have b':=PS_succ (l:=d.L y) (j:=(m'-1).toNat) (by omega)
 unfold DayOf at e
 have em:m=m':=by
  rcases Int.lt_trichotomy m m' with c | c | c
  ·have:=PS_mono nn (i:=(m-1).toNat+1) (j:=(m'-1).toNat) (by omega) (by omega)
   omega
  ·exact c
  ·have:=PS_mono nn (i:=(m'-1).toNat+1) (j:=(m-1).toNat) (by omega) (by omega)
   omega
 subst em
 exact⟨rfl,rfl,by omega⟩
end Fw
namespace Fw
def moT(td:List Tm)(bm:Int)(tm:List Tm):Int:=PER td/(Int.gcd (PER td) (UP bm tm (PER tm)):Int)
def CalD.cy:CalD→Int×Int
 | .sun _ ls _ ts=>(PER ts,UP ls.sum ts (PER ts))
 | .moon _ bd td bm tm=>(PER tm*moT td bm tm,UP bd td (UP bm tm (PER tm)*moT td bm tm))
end Fw
namespace Fw
end Fw
namespace Fw
def hit(n:Int)(ds:List Int)(d:Int):Bool:=ds.any fun x=>decide ((d-x)%n=0)
structure RB(n:Int)(ds:List Int)(b:Nat):Prop where
 lt:b<2^n.toNat
 bit:∀d,On n b d=hit n ds d
theorem RB.nil(n:Int):RB n [] 0:=⟨Nat.two_pow_pos _,fun d=>by unfold On hit;simp⟩
theorem sub_mod_zero{n d x:Int}(hn:0<n):(d-x)%n=0↔d%n=x%n:=by
 rw[Int.sub_emod]
 have h1:=Int.emod_nonneg d (show n≠0 by omega)
 have h2:=Int.emod_lt_of_pos d hn
 have h3:=Int.emod_nonneg x (show n≠0 by omega)
 have h4:=Int.emod_lt_of_pos x hn
 constructor
 ·intro h
  have:=Int.dvd_of_emod_eq_zero h
  obtain⟨k,hk⟩:=this
  have:k=0:=by
   rcases Int.lt_trichotomy k 0 with z | z | z
   ·have:n*k≤n*(-1):=Int.mul_le_mul_of_nonneg_left (by omega) (by omega)
    omega
   ·exact z
   ·have:n*1≤n*k:=Int.mul_le_mul_of_nonneg_left (by omega) (by omega)
    omega
  subst this
  omega
 ·intro h
  rw[h]
  simp
theorem RB.snoc{n:Int}{ds:List Int}{b:Nat}{x:Int}(hn:0<n)(h:RB n ds b):RB n (ds++[x]) (b ||| 2^(x%n).toNat):=by
 have h3:=Int.emod_nonneg x (show n≠0 by omega)
 have h4:=Int.emod_lt_of_pos x hn
 refine⟨Nat.or_lt_two_pow h.lt (Nat.pow_lt_pow_right (by decide) (by omega)),fun d=>?_⟩
 have h1:=Int.emod_nonneg d (show n≠0 by omega)
 have hb:=h.bit d
 unfold On hit at*
 rw[Nat.testBit_or,hb,List.any_append,Nat.testBit_two_pow]
 congr 1
 rw[List.any_cons,List.any_nil,Bool.or_false,Bool.eq_iff_iff,decide_eq_true_eq,decide_eq_true_eq,sub_mod_zero hn]
 omega
end Fw
namespace Fw
def pc(b j:Nat):Nat:=b/2^(256*j)%2^256
theorem pc_bit(b j i:Nat):(pc b j).testBit i=(decide (i<256)&&b.testBit (256*j+i)):=by
 unfold pc
 rw[Nat.testBit_mod_two_pow,←Nat.shiftRight_eq_div_pow,Nat.testBit_shiftRight]
theorem pc_lt(b j:Nat):pc b j<2^256:=Nat.mod_lt _ (Nat.two_pow_pos _)
theorem pc_or_at(b p:Nat):pc (b ||| 2^p) (p/256)=pc b (p/256) ||| 2^(p%256):=by
 refine Nat.eq_of_testBit_eq fun i=>?_
 rw[pc_bit,Nat.testBit_or,Nat.testBit_or,pc_bit,Nat.testBit_two_pow,Nat.testBit_two_pow]
 by_cases c:i<256
 ·have:(p=256*(p/256)+i)=(p%256=i):=propext ⟨fun h=>by omega,fun h=>by omega⟩
  simp[c,this]
 ·have:¬p%256=i:=by omega
  simp[c,this]
theorem pc_or_ne{b p j:Nat}(h:j≠p/256):pc (b ||| 2^p) j=pc b j:=by
 refine Nat.eq_of_testBit_eq fun i=>?_
 rw[pc_bit,Nat.testBit_or,pc_bit,Nat.testBit_two_pow]
 by_cases c:i<256
 ·have:¬p=256*j+i:=by omega
  simp[c,this]
 ·simp[c]
theorem pc_join(b m:Nat):b%2^(256*m) ||| (pc b m <<< (256*m))=b%2^(256*(m+1)):=by
 refine Nat.eq_of_testBit_eq fun i=>?_
 rw[Nat.testBit_or,Nat.testBit_shiftLeft,Nat.testBit_mod_two_pow,Nat.testBit_mod_two_pow,pc_bit]
 by_cases c:i<256*m
 ·simp[c,show ¬256*m≤i by omega,show i<256*(m+1) by omega]
 ·by_cases c2:i<256*(m+1)
  ·simp[c,c2,show 256*m≤i by omega,show i-256*m<256 by omega,show 256*m+(i-256*m)=i by omega]
  ·simp[c,c2,show ¬i-256*m<256 by omega]
end Fw
namespace Fw
open PySem L2 PyProof.Rows
def top(i:Nat):Stmt:=PySem.Challenge.pw_feastwheel_k82_almanacs_read.main.body.getD i (.Pass ⟨0,0,0,0⟩)
abbrev s_is_name:Stmt:=top 12
abbrev s_is_number:Stmt:=top 13
abbrev s_read_number:Stmt:=top 14
abbrev s_read_place:Stmt:=top 15
abbrev s_read_date:Stmt:=top 16
abbrev s_place_text:Stmt:=top 17
abbrev s_date_text:Stmt:=top 18
abbrev s_widest:Stmt:=top 21
abbrev s_names_on:Stmt:=top 22
abbrev s_almanac:Stmt:=top 23
abbrev s_read_names:Stmt:=top 24
abbrev s_read_row:Stmt:=top 25
abbrev s_read_almanac:Stmt:=top 26
abbrev s_refuse_below_one:Stmt:=top 28
abbrev s_divisor:Stmt:=top 29
abbrev s_equation:Stmt:=top 30
abbrev s_common:Stmt:=top 31
abbrev s_term_on:Stmt:=top 36
abbrev s_signs_upto:Stmt:=top 37
abbrev s_is_term:Stmt:=top 38
abbrev s_least_length:Stmt:=top 39
abbrev s_refuse_measure:Stmt:=top 40
abbrev s_period_of:Stmt:=top 41
abbrev s_Measure___init__:Stmt:=inClass (top 42) 0
abbrev s_Measure_at:Stmt:=inClass (top 42) 1
abbrev s_Measure_upto:Stmt:=inClass (top 42) 2
abbrev s_Measure_seek:Stmt:=inClass (top 42) 4
abbrev s_refuse_months:Stmt:=top 47
abbrev s_Sun___init__:Stmt:=inClass (top 48) 0
abbrev s_Sun_year_start:Stmt:=inClass (top 48) 1
abbrev s_Sun_year_at:Stmt:=inClass (top 48) 2
abbrev s_Sun_lengths:Stmt:=inClass (top 48) 3
abbrev s_refuse_too_long:Stmt:=top 52
abbrev s_round_by:Stmt:=top 53
abbrev s_on:Stmt:=top 54
abbrev s_Rule___init__:Stmt:=inClass (top 57) 0
abbrev s_Rule_on:Stmt:=inClass (top 57) 1
abbrev s_each_text:Stmt:=top 58
abbrev s_Each___init__:Stmt:=inClass (top 59) 0
abbrev s_law_cell_at:Stmt:=top 61
abbrev s_law_whole:Stmt:=top 62
abbrev s_law_number:Stmt:=top 63
abbrev s_law_mixed:Stmt:=top 64
abbrev s_law_name:Stmt:=top 65
abbrev s_law_row:Stmt:=top 66
abbrev s_law_free:Stmt:=top 67
abbrev s_law_changed:Stmt:=top 68
abbrev s_law_value:Stmt:=top 69
abbrev s_law_part:Stmt:=top 70
abbrev s_law_names:Stmt:=top 71
abbrev s_law_due:Stmt:=top 72
abbrev s_law_read:Stmt:=top 73
abbrev s_law_kinds:Stmt:=top 74
abbrev s_law_refused:Stmt:=top 75
abbrev s_law_again:Stmt:=top 76
abbrev s_law:Stmt:=top 77
abbrev s_Sun_date_of:Stmt:=inClass (top 46) 0
def spCell(K:PySem.W.Frag):Sp:=fun vs H Q _=>∃(a:Addr) (ns:List Int) (k:Int),vs=[.ref a,.int k]∧SqL K H a (ns.map V.int)∧0≤k∧ns.length≤63∧Q (.int (ns.getD k.toNat 0)) H
def spWhole:Sp:=fun vs H Q _=>∃i:Int,vs=[.int i]∧Q (.bl true) H
theorem rd_cell{K:PySem.W.Frag}{a:Addr}{ns:List Int}{k:Int}{H:Hp}{Q:VK}{E:XK}(hS:SqL K H a (ns.map V.int))(hl:ns.length≤63)(hk:0≤k)(h:Q (.int (ns.getD k.toNat 0)) H):spCell K ([.ref a,.int k]++[]) H Q E:=⟨a,ns,k,rfl,hS,hk,hl,h⟩
theorem rd_whole{i:Int}{H:Hp}{Q:VK}{E:XK}(h:Q (.bl true) H):spWhole ([.int i]++[]) H Q E:=⟨i,rfl,h⟩
theorem kit_ib(K:PySem.W.Frag):PySem.W.kitOne K (.type "int") (.type "bool")=some false:=by first | rfl | decide +kernel | with_unfolding_all rfl
theorem at_ints{ns:List Int}{k:Int}(h0:0≤k)(h:k<(ns.length:Int)):atI (ns.map V.int) k=some (.int (ns.getD k.toNat 0)):=by
 have hk:k.toNat<ns.length:=by omega
 have ek:k=((k.toNat:Nat):Int):=by omega
 have q:atI (ns.map V.int) ((k.toNat:Nat):Int)=some (.int ns[k.toNat]):=atI_nat (by rw[List.getElem?_map,List.getElem?_eq_getElem hk]<;>rfl)
 rw[←ek] at q
 rw[q]
 simp[List.getD,hk]
theorem p40:(10:Int)^(40:Int).toNat=10000000000000000000000000000000000000000:=by decide
theorem bt_of{x:Int}(h1: -1000000000000000000000000000000000000000000000000000000000000≤x)(h2:x≤1000000000000000000000000000000000000000000000000000000000000):Bt 200 x:=by
 unfold Bt
 have:(2:Nat)^200=1606938044258990275541962092341162602522202993782792835301376:=by decide
 omega
theorem two'{a b:V}:([a,b]:List V).length≤sizeLine:=by show 2≤sizeLine;decide
theorem at0{x y:V}:atI [x,y] 0=some x:=rfl
theorem at1{x y:V}:atI [x,y] 1=some y:=rfl
local macro_rules | `(tactic| walk_at "rdc")=> `(tactic| (repeat (first | walk_at "rd1" | ((with_reducible refine' Fw.rd_cell ?hc1 ?hc2 ?hc3 ?_);(case hc1=>assumption);(case hc2=>assumption);(case hc3=>decide)) | with_reducible refine Fw.rd_whole ?_)))
local macro_rules | `(tactic| walk_at "rdy")=> `(tactic| (repeat (first | walk_at "rd1" | ((with_reducible refine' Fw.rd_cell ?hc1 ?hc2 ?hc3 ?_);(case hc1=>assumption);(case hc2=>assumption);(case hc3=>decide)) | with_reducible refine Fw.rd_whole ?_ | with_reducible refine L2.rd_callE ?_ | with_reducible refine L2.rd_raise ?_ | with_reducible refine L2.rd_try ?_ | with_reducible refine L2.rd_xget ?_ | with_reducible refine L2.rd_ifE ?_)))
def spRefuse:Sp:=fun vs H Q _=>∃n:Int,vs=[.int n]∧1≤n∧Q .non H
def spEq:Sp:=fun vs H Q _=>∃a b:Int,vs=[.int a,.int b]∧Bt 500 a∧Bt 500 b∧∀(p:Addr) (u v g:Int) (H':Hp),Same H H'→H' p=some (.tup [.int u,.int v,.int g])→Eqn a b u v g→Q (.ref p) H'
def spDivisor:Sp:=fun vs H Q _=>∃a b:Int,vs=[.int a,.int b]∧Bt 500 a∧Bt 500 b∧∀H',Same H H'→Q (.int (Int.gcd a b:Int)) H'
def spCommon:Sp:=fun vs H Q _=>∃a b:Int,vs=[.int a,.int b]∧0<a∧0<b∧Bt 500 a∧Bt 500 b∧∀H',Same H H'→Q (.int (lcmI a b)) H'
theorem at30{x y z:V}:atI [x,y,z] 0=some x:=rfl
theorem at31{x y z:V}:atI [x,y,z] 1=some y:=rfl
theorem at32{x y z:V}:atI [x,y,z] 2=some z:=rfl
theorem three{a b c:V}:([a,b,c]:List V).length≤sizeLine:=by show 3≤sizeLine;decide
theorem two{a b:V}:([a,b]:List V).length≤sizeLine:=by show 2≤sizeLine;decide
theorem bt_le{k m:Nat}{x y:Int}(h:Bt k y)(l:x.natAbs≤4*y.natAbs+4)(hk:k+4≤m):Bt m x:=by
 unfold Bt at*
 have p:2^(k+4)≤2^m:=Nat.pow_le_pow_right (by decide) hk
 have e:2^(k+4)=2^k*16:=by rw[Nat.pow_add]
 omega
theorem bt_le2{k m:Nat}{x y z:Int}(h:Bt k y)(h':Bt k z)(l:x.natAbs≤y.natAbs+z.natAbs+4)(hk:k+4≤m):Bt m x:=by
 unfold Bt at*
 have p:2^(k+4)≤2^m:=Nat.pow_le_pow_right (by decide) hk
 have e:2^(k+4)=2^k*16:=by rw[Nat.pow_add]
 omega
theorem bt_small{k:Nat}{x:Int}(h0:0≤x)(h1:x<18446744073709551616)(hk:64≤k):Bt k x:=Bt.mono (k:=64) (by unfold Bt;omega) hk
def spOn(K:PySem.W.Frag):Sp:=fun vs H Q _=>∃(a:Addr) (n d:Int) (b:Nat),vs=[.ref a,.int d]∧SqT K H a [.int n,.int (b:Int)]∧0<n∧Q (.bl (On n b d)) H
theorem bt_nat{b n:Nat}(h:b<2^n):Bt n (b:Int):=by unfold Bt;rw[Int.natAbs_natCast];exact h
theorem on_dec(b k:Nat):decide (V.int (((b:Nat):Int)/2^k%2)=V.int 1)=b.testBit k:=by
 rw[←on_eq,Bool.eq_iff_iff]
 simp
theorem bt1:Bt 1 1:=by unfold Bt;decide
theorem bt_div{k:Nat}{d n:Int}(h:Bt k d)(hn:0<n):Bt k (d/n):=by
 refine h.le ?_
 rcases Int.lt_or_le d 0 with c | c
 ·have h1:d/n<0:=Int.ediv_neg_of_neg_of_pos c hn
  have h2:d≤d/n:=(Int.le_ediv_iff_mul_le hn).mpr (by
   have:=Int.mul_le_mul_of_nonpos_left (show d≤0 by omega) (show 1≤n by omega)
   omega)
  omega
 ·have h1:0≤d/n:=Int.ediv_nonneg c (by omega)
  have h2:d/n≤d:=Int.ediv_le_self n c
  omega
theorem _root_.L2.Bt.sub{k:Nat}{x y:Int}(h:Bt k x)(g:Bt k y):Bt (k+1) (x-y):=by
 have:=h.add g.neg
 rwa [←Int.sub_eq_add_neg] at this
def tmV(t:Tm):List V:=[.int t.1,.int t.2.1,.int t.2.2.1,.int t.2.2.2]
inductive Tms(H:Hp):List V→List Tm→Prop
 | nil:Tms H [] []
 | cons {p:Addr} {t:Tm} {vs:List V} {ts:List Tm}:H p=some (.tup (tmV t))→Tms H vs ts→Tms H (.ref p::vs) (t::ts)
theorem Tms.same{H H':Hp}(s:Same H H'):∀{vs:List V} {ts:List Tm},Tms H vs ts→Tms H' vs ts
 | _,_,.nil=>.nil
 | _,_,.cons h t=>.cons (s _ _ h) (Tms.same s t)
theorem Tms.len{H:Hp}:∀{vs:List V} {ts:List Tm},Tms H vs ts→vs.length=ts.length
 | _,_,.nil=>rfl
 | _,_,.cons _ t=>by rw[List.length_cons,List.length_cons,Tms.len t]
theorem Tms.mem{H:Hp}{x:V}:∀{vs:List V} {ts:List Tm},Tms H vs ts→x∈vs→∃p t,x=.ref p∧t∈ts∧H p=some (.tup (tmV t))
 | _,_,.nil,h=>nomatch h
 | _,_,.cons g r,h=>by
  rcases List.mem_cons.mp h with e | e
  ·exact⟨_,_,e,List.mem_cons_self,g⟩
  ·obtain⟨p,t,e1,e2,e3⟩:=Tms.mem r e
   exact⟨p,t,e1,List.mem_cons_of_mem _ e2,e3⟩
theorem Tms.at{H:Hp}:∀{vs:List V} {ts:List Tm},Tms H vs ts→∀{i:Nat} {x:V},vs[i]?=some x→∃p t,x=.ref p∧ts[i]?=some t∧H p=some (.tup (tmV t))
 | _,_,.nil,i,x,h=>by simp at h
 | _,_,.cons g r,0,x,h=>by
  injection h with h
  exact⟨_,_,h.symm,rfl,g⟩
 | _,_,.cons g r,i+1,x,h=>Tms.at r (i:=i) h
def tmAt(H:Hp)(v:V):Option Tm:=match v with
 | .ref p=>match H p with
  | some (.tup [.int s,.int a,.int b,.int n])=>some (s,a,b,n)
  | _=>none
 | _=>none
theorem tmAt_eq{H:Hp}{p:Addr}{t:Tm}(h:H p=some (.tup (tmV t))):tmAt H (.ref p)=some t:=by
 unfold tmAt tmV at*
 simp only[h]
theorem Tms.fm{H:Hp}(g:Tm→Bool)(f:Tm→V):∀{vs:List V} {ts:List Tm},Tms H vs ts→(vs.filter fun v=>((tmAt H v).map g).getD false).map (fun v=>((tmAt H v).map f).getD .non)=(ts.filter g).map f
 | _,_,.nil=>rfl
 | _,_,.cons (p:=p) (t:=t) h r=>by
  rw[List.filter_cons,List.filter_cons,tmAt_eq h]
  show(if g t=true then _ else _:List V).map _=_
  by_cases c:g t=true
  ·rw[if_pos c,if_pos c,List.map_cons,List.map_cons,Tms.fm g f r,tmAt_eq h]
   rfl
  ·rw[if_neg c,if_neg c,Tms.fm g f r]
theorem at40{t:Tm}:atI (tmV t) 0=some (V.int t.1):=rfl
theorem at41{t:Tm}:atI (tmV t) 1=some (V.int t.2.1):=rfl
theorem at42{t:Tm}:atI (tmV t) 2=some (V.int t.2.2.1):=rfl
theorem at43{t:Tm}:atI (tmV t) 3=some (V.int t.2.2.2):=rfl
structure TmT(K:PySem.W.Frag)(H:Hp)(p:Addr)(ts:List Tm):Prop where
 ex:∃vs,SqT K H p vs∧Tms H vs ts
 ok:∀t∈ts,OkT t
 few:ts.length≤6
theorem TmT.same{K:PySem.W.Frag}{H H':Hp}{p:Addr}{ts:List Tm}(T:TmT K H p ts)(s:Same H H'):TmT K H' p ts:=by
 obtain⟨vs,h1,h2⟩:=T.ex
 exact⟨⟨vs,s.tup h1,h2.same s⟩,T.ok,T.few⟩
def spTermOn:Sp:=fun vs H Q _=>∃(p:Addr) (k:Int) (t:Tm),vs=[.ref p,.int k]∧H p=some (.tup (tmV t))∧OkT t∧Bt 400 k∧Q (.bl (onT t k)) H
def spSigns(K:PySem.W.Frag):Sp:=fun vs H Q _=>∃(p:Addr) (k:Int) (ts:List Tm),vs=[.ref p,.int k]∧TmT K H p ts∧Bt 400 k∧∀H',Same H H'→Q (.int (SU ts k)) H'
def spIsTerm:Sp:=fun vs H Q _=>∃(p:Addr) (t:Tm),vs=[.ref p]∧H p=some (.tup (tmV t))∧OkT t∧Q (.bl true) H
def spLeast(K:PySem.W.Frag):Sp:=fun vs H Q _=>∃(p:Addr) (b:Int) (ts:List Tm),vs=[.int b,.ref p]∧TmT K H p ts∧∀H',Same H H'→Q (.int (b-falls ts)) H'
structure GoodM(b:Int)(ts:List Tm):Prop where
 b0:0≤b
 b1:b≤20000
 fl:falls ts≤b
def spRefuseM(K:PySem.W.Frag):Sp:=fun vs H Q _=>∃(p:Addr) (b:Int) (ts:List Tm),vs=[.int b,.ref p]∧TmT K H p ts∧GoodM b ts∧∀H',Same H H'→Q .non H'
def spPeriod(K:PySem.W.Frag):Sp:=fun vs H Q _=>∃(p:Addr) (ts:List Tm),vs=[.ref p]∧TmT K H p ts∧∀H',Same H H'→Q (.int (PER ts)) H'
theorem per_pow{ts:List Tm}(h:∀t∈ts,OkT t):∀(i:Nat),i≤6→0<PER (ts.take i)∧PER (ts.take i)≤1000^i
 | 0,_=>⟨(show (0:Int)<1 by decide),(show (1:Int)≤1 by decide)⟩
 | i+1,hi=>by
  obtain⟨h1,h2⟩:=per_pow h i (by omega)
  rw[List.take_add_one]
  cases e:ts[i]? with
  | none=>
   simp only[Option.toList_none,List.append_nil]
   refine⟨h1,Int.le_trans h2 ?_⟩
   rw[Int.pow_succ]
   have:(0:Int)<1000^i:=Int.pow_pos (by decide)
   omega
  | some t=>
   have ok:=h t (List.mem_of_getElem? e)
   have e2:PER (ts.take i++(some t).toList)=lcmI (PER (ts.take i)) t.2.2.2:=by
    unfold PER
    rw[Option.toList_some,List.foldl_append]
    rfl
   rw[e2]
   have n0:=ok.n0
   refine⟨(lcmI_facts h1 (by omega)).1,Int.le_trans (lcmI_le h1 (by omega)) ?_⟩
   rw[Int.pow_succ]
   exact Int.mul_le_mul h2 ok.n1 (by omega) (Int.le_of_lt (Int.pow_pos (by decide)))
theorem pow6{i:Nat}(h:i≤6):(1000:Int)^i≤1000000000000000000:=by
 rcases(by omega:i=0∨i=1∨i=2∨i=3∨i=4∨i=5∨i=6) with e | e | e | e | e | e | e<;>subst e<;>decide
theorem per_dvd{ts:List Tm}(h:∀t∈ts,OkT t):∀(i:Nat),i≤6→∀t∈ts.take i,t.2.2.2∣PER (ts.take i)
 | 0,_=>fun t ht=>by simp at ht
 | i+1,hi=>by
  obtain⟨h1,_⟩:=per_pow h i (by omega)
  have ih:=per_dvd h i (by omega)
  rw[List.take_add_one]
  cases e:ts[i]? with
  | none=>
   simp only[Option.toList_none,List.append_nil]
   exact ih
  | some u=>
   have ok:=h u (List.mem_of_getElem? e)
   have e2:PER (ts.take i++(some u).toList)=lcmI (PER (ts.take i)) u.2.2.2:=by
    unfold PER
    rw[Option.toList_some,List.foldl_append]
    rfl
   have n0:=ok.n0
   have f:=lcmI_facts h1 (show 0<u.2.2.2 by omega)
   rw[e2]
   intro t ht
   rcases List.mem_append.mp ht with z | z
   ·exact Int.dvd_trans (ih t z) f.2.1
   ·rw[Option.toList_some,List.mem_singleton] at z
    subst z
    exact f.2.2.1
def mF(b:Int)(p:Addr)(c s:Int):List (Str×V):=[("base",.int b),("terms",.ref p),("full_count",.int c),("full_sum",.int s)]
structure Me(K:PySem.W.Frag)(C:Addr)(H:Hp)(x:Addr)(b:Int)(ts:List Tm):Prop where
 ex:∃dx p,H x=some (.ins C dx (mF b p (PER ts) (UP b ts (PER ts))))∧TmT K H p ts
 gd:GoodM b ts
 po:0<UP b ts (PER ts)
def spUpto(K:PySem.W.Frag)(C:Addr):Sp:=fun vs H Q _=>∃(x p dx:Addr) (k b:Int) (ts:List Tm) (fs:List (Str×V)),vs=[.ref x,.int k]∧H x=some (.ins C dx fs)∧fs.lookup (Str.ofString "base")=some (V.int b)∧fs.lookup (Str.ofString "terms")=some (V.ref p)∧TmT K H p ts∧0≤b∧b≤20000∧Bt 400 k∧∀H',Same H H'→Q (.int (UP b ts k)) H'
def spSeek(K:PySem.W.Frag)(C:Addr):Sp:=fun vs H Q _=>∃(x:Addr) (n b:Int) (ts:List Tm),vs=[.ref x,.int n]∧Me K C H x b ts∧Bt 300 n∧∀(k:Int) H',Same H H'→UP b ts k≤n→n<UP b ts (k+1)→Bt 370 k→Q (.int k) H'
def spInitM(K:PySem.W.Frag)(C:Addr):Sp:=fun vs H Q _=>∃(x dx:Addr) (b:Int) (v:V) (us:List V) (ts:List Tm),vs=[.ref x,.int b,v]∧H x=some (.ins C dx [])∧Tms H us ts∧((v=.non∧us=[])∨∃l,v=.ref l∧H l=some (.lst us))∧(∀t∈ts,OkT t)∧ts.length≤6∧GoodM b ts∧0<UP b ts (PER ts)∧
 ∀H',(∀y o,y≠x→H y=some o→H' y=some o)→Me K C H' x b ts→Q .non H'
theorem Me.same{K:PySem.W.Frag}{C:Addr}{H H':Hp}{x:Addr}{b:Int}{ts:List Tm}(M:Me K C H x b ts)(s:Same H H'):Me K C H' x b ts:=by
 obtain⟨dx,p,e,T⟩:=M.ex
 exact⟨⟨dx,p,s _ _ e,T.same s⟩,M.gd,M.po⟩
theorem Me.meth{K:PySem.W.Frag}{C:Addr}{H:Hp}{x:Addr}{b:Int}{ts:List Tm}(M:Me K C H x b ts):∃dx fs,H x=some (.ins C dx fs)∧fs.lookup (Str.ofString "seek")=none∧fs.lookup (Str.ofString "at")=none∧fs.lookup (Str.ofString "upto")=none∧fs.lookup (Str.ofString "period")=none:=by
 obtain⟨dx,p,e,T⟩:=M.ex
 exact⟨dx,_,e,rfl,rfl,rfl,rfl⟩
def spAt(K:PySem.W.Frag)(C:Addr):Sp:=fun vs H Q _=>∃(x:Addr) (k b:Int) (ts:List Tm),vs=[.ref x,.int k]∧Me K C H x b ts∧Bt 400 k∧∀H',Same H H'→Q (.int (AT b ts k)) H'
theorem init_me{K:PySem.W.Frag}{C:Addr}{H1:Hp}{x dx:Addr}{b:Int}{v:V}{us:List V}{ts:List Tm}{Q:VK}{E:XK}(hx:H1 x=none)(hdx:H1 dx=none)(ne:dx≠x)(hT:Tms H1 us ts)(hv:(v=.non∧us=[])∨∃l,v=.ref l∧H1 l=some (.lst us))(ok:∀t∈ts,OkT t)(few:ts.length≤6)(g:GoodM b ts)(po:0<UP b ts (PER ts))
 (q:∀H',Same H1 H'→Me K C H' x b ts→Q .non H'):spInitM K C [.ref x,.int b,v] (upd (upd H1 dx (.own x)) x (.ins C dx [])) Q E:=by
 have k4:Same H1 (upd (upd H1 dx (.own x)) x (.ins C dx [])):=(same_new hdx _).trans (same_new (by rw[upd_ne (Ne.symm ne)];exact hx) _)
 have x4:upd (upd H1 dx (.own x)) x (.ins C dx []) x=some (.ins C dx []):=upd_same
 refine⟨x,dx,b,v,us,ts,rfl,x4,hT.same k4,?_,ok,few,g,po,fun H5 k5 M=>q _ (fun y o h=>k5 y o (fun e=>by subst e;rw[hx] at h;cases h) (k4 y o h)) M⟩
 rcases hv with z | ⟨l,z,e⟩
 ·exact .inl z
 ·exact .inr ⟨l,z,k4 _ _ e⟩
def But(l:Addr)(H H':Hp):Prop:=∀y o,y≠l→H y=some o→H' y=some o
theorem But.upd{l:Addr}{H:Hp}{o:HO}:But l H (L2.upd H l o):=fun y o hy h=>by rw[upd_ne hy];exact h
structure NoT(o:HO):Prop where
 t:∀vs,o≠.tup vs
 f:∀ob u,o≠.frz ob u
theorem NoT.lst{xs:List V}:NoT (.lst xs):=⟨fun _ z=>(nomatch z),fun _ _ z=>(nomatch z)⟩
theorem NoT.ins{C d:Addr}{fs:List (Str×V)}:NoT (.ins C d fs):=⟨fun _ z=>(nomatch z),fun _ _ z=>(nomatch z)⟩
theorem Tms.but{l:Addr}{H H':Hp}{o:HO}(hl:H l=some o)(no:NoT o)(k:But l H H'):∀{vs:List V} {ts:List Tm},Tms H vs ts→Tms H' vs ts
 | _,_,.nil=>.nil
 | _,_,.cons g r=>.cons (k _ _ (ne_of g hl (Ne.symm (no.t _))) g) (Tms.but hl no k r)
theorem sqT_but{K:PySem.W.Frag}{l p:Addr}{H H':Hp}{o:HO}{vs:List V}(hl:H l=some o)(no:NoT o)(k:But l H H')(h:SqT K H p vs):SqT K H' p vs:=by
 rcases h with (h | ⟨o,h⟩) | h
 ·exact .inl (.inl (k _ _ (ne_of h hl (Ne.symm (no.t _))) h))
 ·exact .inl (.inr ⟨o,k _ _ (ne_of h hl (Ne.symm (no.f _ _))) h⟩)
 ·exact .inr h
theorem TmT.but{K:PySem.W.Frag}{l p:Addr}{H H':Hp}{o:HO}{ts:List Tm}(hl:H l=some o)(no:NoT o)(k:But l H H')(T:TmT K H p ts):TmT K H' p ts:=by
 obtain⟨vs,h1,h2⟩:=T.ex
 exact⟨⟨vs,sqT_but hl no k h1,h2.but hl no k⟩,T.ok,T.few⟩
theorem Me.butX{K:PySem.W.Frag}{C l:Addr}{H H':Hp}{o:HO}{x:Addr}{b:Int}{ts:List Tm}(M:Me K C H x b ts)(hl:H l=some o)(no:NoT o)(ne:x≠l)(k:But l H H'):Me K C H' x b ts:=by
 obtain⟨dx,p,e,T⟩:=M.ex
 exact⟨⟨dx,p,k _ _ ne e,T.but hl no k⟩,M.gd,M.po⟩
theorem Tms.upd{H:Hp}{l:Addr}{xs:List V}{o:HO}(h:H l=some (.lst xs)):∀{vs:List V} {ts:List Tm},Tms H vs ts→Tms (L2.upd H l o) vs ts
 | _,_,.nil=>.nil
 | _,_,.cons g r=>.cons (by rw[upd_ne (ne_of g h (by intro z;cases z))];exact g) (Tms.upd h r)
def spNumB:Sp:=fun vs H Q _=>∃c:Int,vs=[.int c]∧∀(k:Int) (H':Hp),Same H H'→ -10000000000000000000000000000000000000000≤k→k≤10000000000000000000000000000000000000000→Q (.int k) H'
structure TmL(K:PySem.W.Frag)(H:Hp)(l:Addr)(us:List V)(ts:List Tm):Prop where
 li:H l=some (.lst us)
 tm:Tms H us ts
 ok:∀t∈ts,OkT t
 few:ts.length≤6
theorem TmL.same{K:PySem.W.Frag}{H H':Hp}{l:Addr}{us:List V}{ts:List Tm}(T:TmL K H l us ts)(s:Same H H'):TmL K H' l us ts:=⟨s _ _ T.li,T.tm.same s,T.ok,T.few⟩
theorem GoodS.gm{ls:List Int}{lp:Int}{ts:List Tm}(g:GoodS ls lp ts):GoodM ls.sum ts:=⟨g.sum.1,g.sum.2,Int.le_of_lt g.f1⟩
theorem per_pos{ts:List Tm}(ok:∀t∈ts,OkT t)(few:ts.length≤6):0<PER ts∧PER ts≤1000000000000000000∧∀t∈ts,t.2.2.2∣PER ts:=by
 obtain⟨h1,h2⟩:=per_pow ok 6 (by decide)
 have hd:=per_dvd ok 6 (by decide)
 rw[List.take_of_length_le few] at h1 h2 hd
 exact⟨h1,Int.le_trans h2 (pow6 (by decide)),hd⟩
theorem GoodS.po{ls:List Int}{lp:Int}{ts:List Tm}(g:GoodS ls lp ts):0<UP ls.sum ts (PER ts):=UP_pos g.ok g.f1 (per_pos g.ok g.few).1
def sF(s lp:Int)(p y:Addr):List (Str×V):=[("start",.int s),("months",.ref p),("leap",.int lp),("years",.ref y)]
structure SunO(K:PySem.W.Frag)(CS CM:Addr)(H:Hp)(x:Addr)(s:Int)(ls:List Int)(lp:Int)(ts:List Tm):Prop where
 ex:∃dx p y,H x=some (.ins CS dx (sF s lp p y))∧SqT K H p (ls.map V.int)∧Me K CM H y ls.sum ts
 gd:GoodS ls lp ts
 bs:Bt 290 s
section
variable{K:PySem.W.Frag}{CS CM:Addr}{H H':Hp}{x:Addr}{s:Int}{ls:List Int}{lp:Int}{ts:List Tm}
theorem SunO.same(S:SunO K CS CM H x s ls lp ts)(e:Same H H'):SunO K CS CM H' x s ls lp ts:=by
 obtain⟨dx,p,y,h1,h2,h3⟩:=S.ex
 exact⟨⟨dx,p,y,e _ _ h1,e.tup h2,h3.same e⟩,S.gd,S.bs⟩
theorem SunO.meth(S:SunO K CS CM H x s ls lp ts):∃dx fs,H x=some (.ins CS dx fs)∧fs.lookup (Str.ofString "year_start")=none∧fs.lookup (Str.ofString "year_at")=none∧fs.lookup (Str.ofString "lengths")=none∧fs.lookup (Str.ofString "cycle")=none∧fs.lookup (Str.ofString "date_of")=none∧fs.lookup (Str.ofString "day_of")=none:=by
 obtain⟨dx,p,y,e,_⟩:=S.ex
 exact⟨dx,_,e,rfl,rfl,rfl,rfl,rfl,rfl⟩
end
def spRefMo(K:PySem.W.Frag):Sp:=fun vs H Q _=>∃(l:Addr) (lp:Int) (ls:List Int) (ts:List Tm),vs=[.ref l,.int lp]∧SqL K H l (ls.map V.int)∧GoodS ls lp ts∧Q .non H
def spInitS(K:PySem.W.Frag)(CS CM:Addr):Sp:=fun vs H Q _=>∃(x dx ll:Addr) (s lp:Int) (v:V) (us:List V) (ls:List Int) (ts:List Tm),vs=[.ref x,.int s,.ref ll,.int lp,v]∧H x=some (.ins CS dx [])∧H ll=some (.lst (ls.map V.int))∧Tms H us ts∧((v=.non∧us=[])∨∃l,v=.ref l∧H l=some (.lst us))∧GoodS ls lp ts∧Bt 290 s∧
 ∀H',(∀y o,y≠x→H y=some o→H' y=some o)→SunO K CS CM H' x s ls lp ts→Q .non H'
theorem init_sun{K:PySem.W.Frag}{CS CM:Addr}{H1:Hp}{x dx ll:Addr}{s lp:Int}{v:V}{us:List V}{ls:List Int}{ts:List Tm}{Q:VK}{E:XK}(hx:H1 x=none)(hdx:H1 dx=none)(ne:dx≠x)(hl:H1 ll=some (.lst (ls.map V.int)))(hT:Tms H1 us ts)(hv:(v=.non∧us=[])∨∃l,v=.ref l∧H1 l=some (.lst us))(g:GoodS ls lp ts)(bs:Bt 290 s)
 (q:∀H',Same H1 H'→SunO K CS CM H' x s ls lp ts→Q .non H'):spInitS K CS CM [.ref x,.int s,.ref ll,.int lp,v] (upd (upd H1 dx (.own x)) x (.ins CS dx [])) Q E:=by
 have k4:Same H1 (upd (upd H1 dx (.own x)) x (.ins CS dx [])):=(same_new hdx _).trans (same_new (by rw[upd_ne (Ne.symm ne)];exact hx) _)
 have x4:upd (upd H1 dx (.own x)) x (.ins CS dx []) x=some (.ins CS dx []):=upd_same
 refine⟨x,dx,ll,s,lp,v,us,ls,ts,rfl,x4,k4 _ _ hl,hT.same k4,?_,g,bs,fun H5 k5 M=>q _ (fun y o h=>k5 y o (fun e=>by subst e;rw[hx] at h;cases h) (k4 y o h)) M⟩
 rcases hv with z | ⟨l,z,e⟩
 ·exact .inl z
 ·exact .inr ⟨l,z,k4 _ _ e⟩
def spYS(K:PySem.W.Frag)(CS CM:Addr):Sp:=fun vs H Q _=>∃(x:Addr) (n s:Int) (ls:List Int) (lp:Int) (ts:List Tm),vs=[.ref x,.int n]∧SunO K CS CM H x s ls lp ts∧Bt 390 n∧∀H',Same H H'→Q (.int (s+UP ls.sum ts n)) H'
def spYA(K:PySem.W.Frag)(CS CM:Addr):Sp:=fun vs H Q _=>∃(x:Addr) (n s:Int) (ls:List Int) (lp:Int) (ts:List Tm),vs=[.ref x,.int n]∧SunO K CS CM H x s ls lp ts∧Bt 290 n∧∀(k:Int) H',Same H H'→s+UP ls.sum ts k≤n→n<s+UP ls.sum ts (k+1)→Bt 300 k→Q (.int k) H'
def spLens(K:PySem.W.Frag)(CS CM:Addr):Sp:=fun vs H Q _=>∃(x:Addr) (n s:Int) (ls:List Int) (lp:Int) (ts:List Tm),vs=[.ref x,.int n]∧SunO K CS CM H x s ls lp ts∧Bt 390 n∧∀(p:Addr) H',H p=none→Same H H'→H' p=some (.lst ((LENS ls lp ts n).map V.int))→Q (.ref p) H'
def moF(s:Int)(d m:Addr):List (Str×V):=[("start",.int s),("days",.ref d),("many",.ref m)]
structure MoonO(K:PySem.W.Frag)(CO CM:Addr)(H:Hp)(x:Addr)(s bd:Int)(td:List Tm)(bm:Int)(tm:List Tm):Prop where
 ex:∃dx d m,H x=some (.ins CO dx (moF s d m))∧Me K CM H d bd td∧Me K CM H m bm tm
 gd:GoodMo bd td bm tm
 bs:Bt 290 s
section
variable{K:PySem.W.Frag}{CO CM:Addr}{H H':Hp}{x:Addr}{s bd:Int}{td:List Tm}{bm:Int}{tm:List Tm}
theorem MoonO.same(S:MoonO K CO CM H x s bd td bm tm)(e:Same H H'):MoonO K CO CM H' x s bd td bm tm:=by
 obtain⟨dx,d,m,h1,h2,h3⟩:=S.ex
 exact⟨⟨dx,d,m,e _ _ h1,h2.same e,h3.same e⟩,S.gd,S.bs⟩
theorem MoonO.meth(S:MoonO K CO CM H x s bd td bm tm):∃dx fs,H x=some (.ins CO dx fs)∧fs.lookup (Str.ofString "year_start")=none∧fs.lookup (Str.ofString "year_at")=none∧fs.lookup (Str.ofString "lengths")=none∧fs.lookup (Str.ofString "cycle")=none∧fs.lookup (Str.ofString "date_of")=none∧fs.lookup (Str.ofString "day_of")=none:=by
 obtain⟨dx,d,m,e,_⟩:=S.ex
 exact⟨dx,_,e,rfl,rfl,rfl,rfl,rfl,rfl⟩
end
def spMYS(K:PySem.W.Frag)(CO CM:Addr):Sp:=fun vs H Q _=>∃(x:Addr) (n s bd bm:Int) (td tm:List Tm),vs=[.ref x,.int n]∧MoonO K CO CM H x s bd td bm tm∧Bt 370 n∧∀H',Same H H'→Q (.int (MYS s bd td bm tm n)) H'
theorem rd_brk{D:Ends}{σ:L2.St}{H:Hp}(h:D.bk σ H):tBreak D σ H:=h
def CalO(K:PySem.W.Frag)(CS CO CM:Addr)(H:Hp)(x:Addr):CalD→Prop
 | .sun s ls lp ts=>SunO K CS CM H x s ls lp ts
 | .moon s bd td bm tm=>MoonO K CO CM H x s bd td bm tm
def isSun:CalD→Bool
 | .sun .. =>true
 | .moon .. =>false
section
variable{K:PySem.W.Frag}{CS CO CM:Addr}{H H':Hp}{x:Addr}{d:CalD}
theorem CalO.same(S:CalO K CS CO CM H x d)(e:Same H H'):CalO K CS CO CM H' x d:=by
 cases d with
 | sun s ls lp ts=>exact SunO.same S e
 | moon s bd td bm tm=>exact MoonO.same S e
theorem CalO.good(S:CalO K CS CO CM H x d):d.good:=by
 cases d with
 | sun s ls lp ts=>exact SunO.gd S
 | moon s bd td bm tm=>exact MoonO.gd S
theorem CalO.ys(S:CalO K CS CO CM H x d):∃C dx fs sp,(C,sp)∈[(CS,spYS K CS CM),(CO,spMYS K CO CM)]∧H x=some (.ins C dx fs)∧fs.lookup (Str.ofString "year_start")=none∧
 ∀{H2:Hp} {n:Int} {Q:VK} {E:XK},CalO K CS CO CM H2 x d→Bt 370 n→(∀H',Same H2 H'→Q (.int (d.Y n)) H')→sp [.ref x,.int n] H2 Q E:=by
 cases d with
 | sun s ls lp ts=>
  obtain⟨dx,fs,e,m⟩:=SunO.meth S
  exact⟨CS,dx,fs,_,List.mem_cons_self,e,m.1,fun S2 bn q=>⟨x,_,s,ls,lp,ts,rfl,S2,bn.mono (by decide),q⟩⟩
 | moon s bd td bm tm=>
  obtain⟨dx,fs,e,m⟩:=MoonO.meth S
  exact⟨CO,dx,fs,_,List.mem_cons_of_mem _ List.mem_cons_self,e,m.1,fun S2 bn q=>⟨x,_,s,bd,bm,td,tm,rfl,S2,bn,q⟩⟩
end
def spDate(K:PySem.W.Frag)(CS CO CM:Addr)(b:Bool):Sp:=fun vs H Q _=>∃(x:Addr) (n:Int) (d:CalD),vs=[.ref x,.int n]∧isSun d=b∧CalO K CS CO CM H x d∧Bt 290 n∧∀(p:Addr) (y m r:Int) H',Same H H'→H' p=some (.tup [.int y,.int m,.int r])→IsD d y m r→DayOf d y m r=n→Bt 300 y→Q (.ref p) H'
section
variable{K:PySem.W.Frag}{CS CO CM:Addr}{H H':Hp}{x:Addr}{d:CalD}
end
def cpl(z:Str):List Nat:=z.cps.toList
theorem str_ext{y z:Str}(h:cpl y=cpl z):y=z:=by
 cases y
 cases z
 simp only[cpl] at h
 exact congrArg Str.mk (Array.toList_inj.mp h)
def figs(cs:List Nat):List Nat:=if cs.head?=some 45 then cs.drop 1 else cs
structure IsNum(cs:List Nat):Prop where
 lo:1≤(figs cs).length
 hi:(figs cs).length≤60
 dg:∀c∈figs cs,48≤c∧c≤57
 z0:(figs cs).head?=some 48→cs=[48]
def numVal(cs:List Nat):Int:=if cs.head?=some 45 then -((PySem.NumText.digitsVal (figs cs):Nat):Int) else ((PySem.NumText.digitsVal (figs cs):Nat):Int)
theorem len_cpl(z:Str):(cpl z).length=z.length:=Array.length_toList
theorem int_reads{z:Str}(h:IsNum (cpl z)):PySem.intText? z=some (numVal (cpl z)):=by
 have hl:z.length≤4300:=by
  have:=h.hi
  rw[←len_cpl]
  unfold figs at this
  split at this
  ·rw[List.length_drop] at this;omega
  ·omega
 unfold numVal
 by_cases e:(cpl z).head?=some 45
 ·rw[if_pos e]
  have ef:figs (cpl z)=(cpl z).drop 1:=by unfold figs;rw[if_pos e]
  have hz:z.cps.toList=45::(cpl z).drop 1:=by
   show cpl z=_
   generalize cpl z=cs at e
   cases cs with
   | nil=>cases e
   | cons a r=>
    injection e with e
    rw[e]
    rfl
  rw[ef]
  refine PySem.intText_neg hz (fun c hc=>h.dg c (by rw[ef];exact hc)) (fun z0=>?_) hl
  have:=h.lo
  rw[ef,z0] at this
  simp at this
 ·rw[if_neg e]
  have ef:figs (cpl z)=cpl z:=by unfold figs;rw[if_neg e]
  rw[ef]
  refine PySem.intText_digits (fun c hc=>h.dg c (by rw[ef];exact hc)) (fun z0=>?_) hl
  have:=h.lo
  rw[ef] at this
  have z1:cpl z=[]:=z0
  rw[z1] at this
  simp at this
theorem slice_from1{z:Str}(h:1≤z.length):cpl (Txt.slice z (some 1) none)=(cpl z).drop 1:=by
 rw[slice_from_eq (b:=(z.length:Int)) (by decide) (by omega) rfl]
 show((List.drop 1 z.cps.toList).take ((z.length:Int)-1).toNat)=_
 rw[List.take_of_length_le]
 ·rfl
 ·rw[List.length_drop]
  have:z.cps.toList.length=z.length:=len_cpl z
  omega
theorem slice_to1(z:Str):cpl (Txt.slice z none (some 1))=(cpl z).take 1:=by
 by_cases h:1≤z.length
 ·have e:=slice_closes_toL (x:=z) (j:=1) (by decide) (by omega)
  rw[eq_of_beq e]
  rfl
 ·have e0:(cpl z).length=0:=by rw[len_cpl];omega
  have e1:(cpl (Txt.slice z none (some 1))).length=0:=by
   have:=Txt.slice_le z none (some 1)
   rw[len_cpl]
   omega
  rw[List.length_eq_zero_iff.mp e0,List.length_eq_zero_iff.mp e1]
  rfl
theorem slice_mem{z:Str}{lo hi:Option Int}{c:Nat}(h:c∈cpl (Txt.slice z lo hi)):c∈cpl z:=by
 unfold Txt.slice at h
 split at h
 ·exact h
 ·simp only[cpl] at h
  obtain⟨i,_,hi⟩:=List.mem_filterMap.mp h
  have hi':z.cps.toList[i]?=some c:=by rw[Array.getElem?_toList];exact hi
  exact List.mem_of_getElem? hi'
theorem asc_iff{z:Str}:asc z=true↔∀c∈cpl z,c<128:=by
 unfold asc cpl
 rw[Array.all_eq_true']
 simp[Array.mem_toList_iff]
theorem starts_minus{z:Str}(h:1≤z.length∨True):Txt.startswith z "-"=decide ((cpl z).head?=some 45):=by
 have ey:(Str.ofString "-")=⟨#[45]⟩:=by decide +kernel
 rw[ey]
 unfold Txt.startswith Builtin.Str.subAt
 show(decide (0+1≤z.length)&&(z.cps.extract 0 (0+1)== #[45]))=_
 rw[Bool.eq_iff_iff,Bool.and_eq_true,decide_eq_true_eq,decide_eq_true_eq,beq_iff_eq]
 have el:(cpl z).length=z.length:=len_cpl z
 have ex:(z.cps.extract 0 (0+1)).toList=(cpl z).take 1:=by
  rw[Array.toList_extract]
  simp[cpl,List.extract_eq_drop_take]
 constructor
 ·rintro⟨_,e⟩
  rw[e] at ex
  generalize cpl z=cs at ex
  cases cs with
  | nil=>cases ex
  | cons a r=>
   injection ex with e1 _
   rw[e1]
   rfl
 ·intro e
  cases hc:cpl z with
  | nil=>rw[hc] at e;cases e
  | cons a r=>
   rw[hc] at e ex el
   injection e with e
   rw[List.length_cons] at el
   refine⟨by omega,Array.toList_inj.mp ?_⟩
   rw[ex,e]
   rfl
theorem dig_mem(c:Nat):c∈cpl (Str.ofString "0123456789")↔48≤c∧c≤57:=by
 have e:cpl (Str.ofString "0123456789")=[48,49,50,51,52,53,54,55,56,57]:=by decide +kernel
 rw[e]
 simp only[List.mem_cons,List.not_mem_nil,or_false]
 omega
theorem in_dig(c:Nat):(!(Builtin.Str.occurrences (Str.ofString "0123456789") ⟨#[c]⟩ 0 (Str.ofString "0123456789").length 1).isEmpty)=decide (48≤c∧c≤57):=by
 rw[StrLaws.found_one,Bool.eq_iff_iff,decide_eq_true_eq,decide_eq_true_eq]
 exact dig_mem c
structure TOk(z:Str):Prop where
 asc:asc z=true
 len:z.length≤1000000
theorem TOk.fit{z:Str}(h:TOk z):z.length≤sizeLine:=Nat.le_trans h.len (by decide)
theorem TOk.slice{z:Str}(h:TOk z)(lo hi:Option Int):TOk (Txt.slice z lo hi):=⟨asc_iff.mpr fun c hc=>asc_iff.mp h.asc c (slice_mem hc),Nat.le_trans (Txt.slice_le z lo hi) h.len⟩
inductive Hnd(H:Hp):V→Prop
 | txt (z:Str):TOk z→Hnd H (.str z)
 | non:Hnd H .non
 | int (i:Int):Hnd H (.int i)
 | tup (a:Addr) (xs:List V):H a=some (.tup xs)→Hnd H (.ref a)
 | lst (a:Addr) (xs:List V):H a=some (.lst xs)→Hnd H (.ref a)
theorem Hnd.keep{H H':Hp}{v:V}(h:Hnd H v)(s:Same H H'):Hnd H' v:=by
 cases h with
 | txt z hz=>exact .txt z hz
 | non=>exact .non
 | int i=>exact .int i
 | tup a xs e=>exact .tup a xs (s _ _ e)
 | lst a xs e=>exact .lst a xs (s _ _ e)
def isT(v:V):Bool:=match v with | .str _=>true | _=>false
theorem kit_ss(K:PySem.W.Frag):PySem.W.kitOne K (.type "str") (.type "str")=some true:=by unfold PySem.W.kitOne;rw[if_pos (by simp)]
theorem kit_ns(K:PySem.W.Frag):PySem.W.kitOne K (.type "NoneType") (.type "str")=some false:=by first | rfl | decide +kernel | with_unfolding_all rfl
theorem kit_is'(K:PySem.W.Frag):PySem.W.kitOne K (.type "int") (.type "str")=some false:=by first | rfl | decide +kernel | with_unfolding_all rfl
theorem kit_ts(K:PySem.W.Frag):PySem.W.kitOne K (.type "tuple") (.type "str")=some false:=by first | rfl | decide +kernel | with_unfolding_all rfl
theorem kit_ls(K:PySem.W.Frag):PySem.W.kitOne K (.type "list") (.type "str")=some false:=by first | rfl | decide +kernel | with_unfolding_all rfl
theorem rd_isS{K:PySem.W.Frag}{H:Hp}{v:V}{Q:VK}(h:Hnd H v)(q:Q (.bl (isT v)) H):rIsi K [v,.ty "str"] H Q:=by
 cases h with
 | txt z hz=>exact rd_isi (.str z) (kit_ss K) q
 | non=>exact rd_isi .non (kit_ns K) q
 | int i=>exact rd_isi (.int i) (kit_is' K) q
 | tup a xs e=>exact rd_isi (.tup e) (kit_ts K) q
 | lst a xs e=>exact rd_isi (.lst e) (kit_ls K) q
def spIsNum:Sp:=fun vs H Q _=>∃z:Str,vs=[.str z]∧TOk z∧∀(v:Bool) (H':Hp),Same H H'→(v=true↔IsNum (cpl z))→Q (.bl v) H'
def isN(v:V):Prop:=∃z,v=.str z∧IsNum (cpl z)
def ENum(cN:Addr)(H:Hp)(E:XK):Prop:=∀H',Same H H'→E (.ref cN) none H'
def spReadN(cT:Addr):Sp:=fun vs H Q E=>∃v:V,vs=[v]∧Hnd H v∧(∀(z:Str) (H':Hp),Same H H'→v=.str z→IsNum (cpl z)→Q (.int (numVal (cpl z))) H')∧(¬isN v→ENum cT H E)
theorem cpl_app(a b:Str):cpl (a++b)=cpl a++cpl b:=by
 show(a.cps++b.cps).toList=_
 rw[Array.toList_append]
 rfl
theorem asc_app{a b:Str}(h1:asc a=true)(h2:asc b=true):asc (a++b)=true:=asc_iff.mpr fun c hc=>by
 rw[cpl_app] at hc
 rcases List.mem_append.mp hc with h | h
 ·exact asc_iff.mp h1 c h
 ·exact asc_iff.mp h2 c h
theorem len_app(a b:Str):(a++b).length=a.length+b.length:=by
 rw[←len_cpl,cpl_app,List.length_append,len_cpl,len_cpl]
structure TL(k:Nat)(z:Str):Prop where
 asc:asc z=true
 len:z.length≤k
theorem TL.app{k m:Nat}{a b:Str}(h1:TL k a)(h2:TL m b):TL (k+m) (a++b):=⟨asc_app h1.asc h2.asc,by rw[len_app];have:=h1.len;have:=h2.len;omega⟩
theorem TL.mono{k m:Nat}{a:Str}(h1:TL k a)(h:k≤m):TL m a:=⟨h1.asc,Nat.le_trans h1.len h⟩
theorem TL.ok{k:Nat}{a:Str}(h1:TL k a)(h:k≤1000000):TOk a:=⟨h1.asc,Nat.le_trans h1.len h⟩
theorem TL.slice{k:Nat}{z:Str}(h:TL k z)(lo hi:Option Int):TL k (Txt.slice z lo hi):=⟨asc_iff.mpr fun c hc=>asc_iff.mp h.asc c (slice_mem hc),Nat.le_trans (Txt.slice_le z lo hi) h.len⟩
theorem TL.sign{c:Nat}(h:c<128):TL 1 ⟨#[c]⟩:=⟨asc_iff.mpr fun d hd=>by
 have:d=c:=by simpa [cpl] using hd
 omega,Nat.le_refl _⟩
theorem digs_asc(m:Nat):∀c∈(Nat.toDigits 10 m).map Char.toNat,c<128:=fun c hc=>by
 obtain⟨ch,hch,e⟩:=List.mem_map.mp hc
 have r:=digit_range (Nat.isDigit_of_mem_toDigits (by decide) (by decide) hch)
 omega
theorem TL.int{i:Int}(h:i.natAbs.log2<1920):TL 1921 (intT i):=by
 refine⟨asc_iff.mpr fun c hc=>?_,intT_len h⟩
 unfold intT cpl at hc
 rw[signs_ofString] at hc
 cases i with
 | ofNat m=>
  have e:(toString (Int.ofNat m)).toList=Nat.toDigits 10 m:=by
   show(Nat.repr m).toList=_
   rw[Nat.toList_repr]
  rw[e] at hc
  exact digs_asc m c hc
 | negSucc m=>
  have e:(toString (Int.negSucc m)).toList='-'::Nat.toDigits 10 (m+1):=by
   show("-"++Nat.repr (m+1)).toList=_
   rw[String.toList_append,Nat.toList_repr]
   rfl
  rw[e,List.map_cons] at hc
  rcases List.mem_cons.mp hc with h | h
  ·have:('-':Char).toNat=45:=by decide
   omega
  ·exact digs_asc (m+1) c h
theorem log_small{i:Int}(h1: -1000000000000000000000000000000000000000000000000000000000000≤i)(h2:i≤1000000000000000000000000000000000000000000000000000000000000):i.natAbs.log2<1920:=by
 have b:Bt 200 i:=bt_of h1 h2
 unfold Bt at b
 by_cases z:i.natAbs=0
 ·rw[z];decide
 ·exact Nat.lt_of_lt_of_le ((Nat.log2_lt z).mpr b) (by decide)
theorem mem_at{xs:List V}{i:Int}(h0:0≤i)(h1:i<(xs.length:Int)):∃v,atI xs i=some v∧v∈xs:=by
 have hk:i.toNat<xs.length:=by omega
 refine⟨xs[i.toNat],?_,List.getElem_mem hk⟩
 have:=atI_nat (xs:=xs) (j:=i.toNat) (v:=xs[i.toNat]) (by simp[hk])
 rwa [show ((i.toNat:Nat):Int)=i by omega] at this
def isTL(k:Nat)(v:V):Bool:=match v with | .str z=>asc z&&decide (z.length≤k) | _=>false
theorem isTL_iff{k:Nat}{v:V}(h:isTL k v=true):∃z,v=.str z∧TL k z:=by
 cases v with
 | str z=>
  have h':(asc z&&decide (z.length≤k))=true:=h
  rw[Bool.and_eq_true,decide_eq_true_eq] at h'
  exact⟨z,rfl,h'.1,h'.2⟩
 | _=>cases h
theorem at_texts{k:Nat}{xs:List V}{i:Int}(hx:xs.all (isTL k)=true)(h0:0≤i)(h1:i<(xs.length:Int)):∃z,atI xs i=some (.str z)∧TL k z:=by
 obtain⟨v,hv,hm⟩:=mem_at h0 h1
 obtain⟨z,rfl,hz⟩:=isTL_iff (List.all_eq_true.mp hx v hm)
 exact⟨z,hv,hz⟩
def spFreeT:Sp:=fun vs H Q _=>∃(x:Int) (z:Str),vs=[.int x,.str z]∧TL 1000 z∧1≤z.length∧∀y,TL 1000 y→Q (.str y) H
theorem mul_mem{z:Str}{n:Int}{c:Nat}(h:c∈cpl (Txt.mul z n)):c∈cpl z:=by
 unfold Txt.mul at h
 split at h
 ·have:cpl Str.empty=[]:=by decide
  rw[this] at h
  cases h
 ·split at h
  ·exact h
  ·have gen:∀(k:Nat) (acc:Array Nat),(∀c∈acc.toList,c∈cpl z)→∀c∈((List.replicate k z.cps).foldl (· ++ ·) acc).toList,c∈cpl z:=by
    intro k
    induction k with
    | zero=>intro acc ha c hc;exact ha c hc
    | succ k ih=>
     intro acc ha c hc
     rw[List.replicate_succ,List.foldl_cons] at hc
     refine ih _ (fun d hd=>?_) c hc
     rw[Array.toList_append] at hd
     rcases List.mem_append.mp hd with x | x
     ·exact ha d x
     ·exact x
   exact gen n.toNat #[] (by simp) c h
theorem mul_len(z:Str)(k:Nat):∀acc:Array Nat,((List.replicate k z.cps).foldl (· ++ ·) acc).size=acc.size+k*z.length:=by
 induction k with
 | zero=>intro acc;simp
 | succ k ih=>
  intro acc
  rw[List.replicate_succ,List.foldl_cons,ih,Array.size_append,Nat.succ_mul]
  show acc.size+z.length+_=_
  omega
theorem TL.mul{k:Nat}{z:Str}{n:Int}(h:TL k z)(hn:n≤10):TL (10*k) (Txt.mul z n):=by
 refine⟨asc_iff.mpr fun c hc=>asc_iff.mp h.asc c (mul_mem hc),?_⟩
 have hl:=h.len
 unfold Txt.mul
 split
 ·show 0≤_
  omega
 ·split
  ·omega
  ·show((List.replicate n.toNat z.cps).foldl (· ++ ·) #[]).size≤_
   rw[mul_len]
   have:n.toNat*z.length≤10*k:=Nat.mul_le_mul (by omega) hl
   simpa using this
theorem mul_ok{z:Str}{n:Int}(h0:1≤n)(h1:n≤3)(hz:z.length≤100):MulOk z n:=by
 refine⟨?_,fun a b=>?_,fun a b=>?_⟩
 ·rw[decide_eq_false (by omega),decide_eq_false (by omega)]
  rfl
 ·have e1:(2^63-1:Int)/1=9223372036854775807:=by decide
  have e2:(2^63-1:Int)/2=4611686018427387903:=by decide
  have e3:(2^63-1:Int)/3=3074457345618258602:=by decide
  rcases(by omega:n=1∨n=2∨n=3) with rfl | rfl | rfl
  ·rw[e1];omega
  ·rw[e2];omega
  ·rw[e3];omega
 ·have:z.length*n.toNat≤100*10:=Nat.mul_le_mul hz (by omega)
  unfold Builtin.Str.tooLong
  rw[decide_eq_false_iff_not,sizeLine_eq]
  omega
theorem four{a b c d:V}:([a,b,c,d]:List V).length≤sizeLine:=by show 4≤sizeLine;decide
theorem dT(n:Nat):cpl (intT (n:Int))=(Nat.toDigits 10 n).map Char.toNat:=by
 unfold intT cpl
 rw[signs_ofString]
 have e:(toString (Int.ofNat n)).toList=Nat.toDigits 10 n:=by
  show(Nat.repr n).toList=_
  rw[Nat.toList_repr]
 exact congrArg (List.map Char.toNat) e
theorem ofNat_toNat{cs:List Nat}(h:∀c∈cs,48≤c∧c≤57):(cs.map Char.ofNat).map Char.toNat=cs:=by
 rw[List.map_map]
 conv=>rhs;rw[←List.map_id cs]
 refine List.map_congr_left fun c hc=>?_
 have:=h c hc
 rcases(by omega:c=48∨c=49∨c=50∨c=51∨c=52∨c=53∨c=54∨c=55∨c=56∨c=57) with e | e | e | e | e | e | e | e | e | e<;>subst e<;>rfl
theorem canon{cs:List Nat}(h:∀c∈cs,48≤c∧c≤57)(ne:cs≠[])(z:cs.head?=some 48→cs=[48]):cpl (intT ((PySem.NumText.digitsVal cs:Nat):Int))=cs:=by
 rw[dT]
 obtain⟨c,r,rfl⟩:∃c r,cs=c::r:=by
  cases cs with
  | nil=>exact absurd rfl ne
  | cons c r=>exact⟨c,r,rfl⟩
 have hc:=h c List.mem_cons_self
 rw[PySem.NumText.toDigits_digitsVal r.length (c::r) (by simp) h (by
  by_cases e:c=48
  ·have:=z (by rw[e];rfl)
   injection this with _ e2
   exact .inl (by rw[e2];rfl)
  ·exact .inr ⟨c,r,rfl,by omega⟩)]
 exact ofNat_toNat h
theorem canon_iff{cs:List Nat}(h:∀c∈cs,48≤c∧c≤57)(ne:cs≠[]):cpl (intT ((PySem.NumText.digitsVal cs:Nat):Int))=cs↔(cs.head?=some 48→cs=[48]):=by
 refine⟨fun e z=>?_,canon h ne⟩
 refine Classical.byContradiction fun hn=>?_
 obtain⟨r,rfl⟩:∃r,cs=48::r:=by
  cases cs with
  | nil=>exact absurd rfl ne
  | cons c r=>
   injection z with z
   exact⟨r,by rw[z]⟩
 have rn:r≠[]:=fun y=>hn (by rw[y])
 have dr:∀c∈r,48≤c∧c≤57:=fun c hc=>h c (List.mem_cons_of_mem _ hc)
 have ev:PySem.NumText.digitsVal (48::r)=PySem.NumText.digitsVal r:=rfl
 rw[dT,ev,PySem.NumText.toDigits_all r dr] at e
 have l:r.length+1=(match r.dropWhile (· ==48) with | []=>['0'] | c::r=>(c::r).map Char.ofNat).length:=by
  have:=congrArg List.length e
  rw[List.length_map,List.length_cons] at this
  exact this.symm
 have d:(r.dropWhile (· ==48)).length≤r.length:=(List.dropWhile_sublist _).length_le
 have r1:1≤r.length:=by
  cases r with
  | nil=>exact absurd rfl rn
  | cons _ _=>simp
 cases hd:r.dropWhile (· ==48) with
 | nil=>
  rw[hd] at l
  have l':r.length+1=1:=l
  omega
 | cons a b=>
  rw[hd] at l d
  have l':r.length+1=((a::b).map Char.ofNat).length:=l
  rw[List.length_map] at l'
  omega
theorem int_digits(n:Nat):(∀c∈cpl (intT (n:Int)),48≤c∧c≤57)∧cpl (intT (n:Int))≠[]∧PySem.NumText.digitsVal (cpl (intT (n:Int)))=n:=by
 rw[dT]
 refine⟨fun c hc=>?_,fun e=>?_,PySem.W.KIN.val_back n⟩
 ·obtain⟨ch,hch,e⟩:=List.mem_map.mp hc
  have r:=digit_range (Nat.isDigit_of_mem_toDigits (by decide) (by decide) hch)
  omega
 ·have:=congrArg List.length e
  rw[List.length_map] at this
  have p:=Nat.length_toDigits_pos (b:=10) (n:=n)
  rw[List.length_nil] at this
  omega
def Two(w:List Nat):Prop:=w.length=2∧w.head?=some 48
instance (w:List Nat):Decidable (Two w):=by unfold Two;infer_instance
structure PlcT(w:List Nat):Prop where
 num:IsNum (if Two w then w.drop 1 else w)
 low:(if Two w then 1 else 10)≤numVal (if Two w then w.drop 1 else w)
def plcVal(w:List Nat):Int:=numVal (if Two w then w.drop 1 else w)
structure Figs(w:List Nat):Prop where
 lo:1≤w.length
 hi:w.length≤60
 dg:∀c∈w,48≤c∧c≤57
def twoT(n:Nat):List Nat:=if (cpl (intT (n:Int))).length<2 then 48::cpl (intT (n:Int)) else cpl (intT (n:Int))
theorem figs_pos{cs:List Nat}(h:cs.head?≠some 45):figs cs=cs:=by unfold figs;rw[if_neg h]
theorem val_pos{cs:List Nat}(h:cs.head?≠some 45):numVal cs=((PySem.NumText.digitsVal cs:Nat):Int):=by unfold numVal;rw[if_neg h,figs_pos h]
theorem dg_head{cs:List Nat}(h:∀c∈cs,48≤c∧c≤57):cs.head?≠some 45:=by
 cases cs with
 | nil=>exact fun z=>nomatch z
 | cons a r=>
  intro z
  injection z with z
  have:=h a List.mem_cons_self
  omega
theorem val_lt10{c:Nat}(h:48≤c∧c≤57):PySem.NumText.digitsVal [c]=c-48:=by
 show 0*10+(c-48)=c-48
 omega
theorem len_small{n:Nat}:(cpl (intT (n:Int))).length<2↔n<10:=by
 rw[dT,List.length_map]
 constructor
 ·intro h
  refine Classical.byContradiction fun z=>?_
  have p:=Nat.toDigits_append_toDigits (b:=10) (n:=n/10) (d:=n%10) (by decide) (by omega) (Nat.mod_lt _ (by decide))
  rw[Nat.div_add_mod] at p
  have q:=congrArg List.length p
  rw[List.length_append] at q
  have a:=Nat.length_toDigits_pos (b:=10) (n:=n/10)
  have b:=Nat.length_toDigits_pos (b:=10) (n:=n%10)
  omega
 ·intro h
  rw[Nat.toDigits_of_lt_base h]
  show 1<2
  decide
theorem plc_iff(w:List Nat):PlcT w↔Figs w∧1≤PySem.NumText.digitsVal w∧w=twoT (PySem.NumText.digitsVal w):=by
 constructor
 ·intro p
  by_cases t:Two w
  ·have num:=p.num
   have low:=p.low
   rw[if_pos t] at num low
   rw[if_pos t] at low
   obtain⟨a,d,rfl⟩:∃a d,w=[a,d]:=by
    match w,t.1 with
    | [a,d],_=>exact⟨a,d,rfl⟩
   obtain rfl:a=48:=by
    have:=t.2
    injection this
   have num':IsNum [d]:=num
   have low':1≤numVal [d]:=low
   have h45:([d]:List Nat).head?≠some 45:=by
    intro z
    injection z with z
    subst z
    have:=num'.lo
    simp[figs] at this
   have dd:=num'.dg d (by rw[figs_pos h45];exact List.mem_singleton.mpr rfl)
   rw[val_pos h45,val_lt10 dd] at low'
   have ev:PySem.NumText.digitsVal [48,d]=d-48:=val_lt10 dd
   refine⟨⟨by show 1≤2;decide,by show 2≤60;decide,fun c hc=>?_⟩,by rw[ev];omega,?_⟩
   ·rcases List.mem_cons.mp hc with e | e
    ·rw[e];decide
    ·cases List.mem_singleton.mp e
     exact dd
   ·rw[ev]
    unfold twoT
    rw[if_pos (len_small.mpr (by omega))]
    have c1:=canon (cs:=[d]) (fun c hc=>by cases List.mem_singleton.mp hc;exact dd) (by simp) (fun z=>by injection z with z;rw[z])
    rw[val_lt10 dd] at c1
    rw[c1]
  ·have num:=p.num
   have low:=p.low
   rw[if_neg t] at num low
   rw[if_neg t] at low
   have h45:w.head?≠some 45:=by
    intro z
    unfold numVal at low
    rw[if_pos z] at low
    omega
   have f:=figs_pos h45
   have lo:=num.lo
   have hi:=num.hi
   have dg:=num.dg
   rw[f] at lo hi dg
   rw[val_pos h45] at low
   refine⟨⟨lo,hi,dg⟩,by omega,?_⟩
   unfold twoT
   rw[if_neg (fun z=>by have:=len_small.mp z;omega)]
   have ne:w≠[]:=fun z=>by rw[z] at lo;simp at lo
   exact(canon dg ne fun z=>num.z0 (by rw[f];exact z)).symm
 ·rintro⟨fg,v1,e⟩
  have ne:w≠[]:=fun z=>by have:=fg.lo;rw[z] at this;simp at this
  have id:=int_digits (PySem.NumText.digitsVal w)
  unfold twoT at e
  by_cases s:(cpl (intT ((PySem.NumText.digitsVal w:Nat):Int))).length<2
  ·rw[if_pos s] at e
   have s10:=len_small.mp s
   obtain⟨d,hd⟩:∃d,cpl (intT ((PySem.NumText.digitsVal w:Nat):Int))=[d]:=by
    have ne':=id.2.1
    match hh:cpl (intT ((PySem.NumText.digitsVal w:Nat):Int)) with
    | []=>exact absurd hh ne'
    | [d]=>exact⟨d,rfl⟩
    | a::b::r=>rw[hh] at s;simp at s;omega
   rw[hd] at e
   have dd:48≤d∧d≤57:=id.1 d (by rw[hd];exact List.mem_singleton.mpr rfl)
   have t:Two w:=by rw[e];exact⟨rfl,rfl⟩
   have ed:w.drop 1=[d]:=by rw[e];rfl
   have vd:PySem.NumText.digitsVal [d]=PySem.NumText.digitsVal w:=by
    have:=id.2.2
    rw[hd] at this
    exact this
   have h45:([d]:List Nat).head?≠some 45:=dg_head (fun c hc=>by cases List.mem_singleton.mp hc;exact dd)
   refine⟨?_,?_⟩
   ·rw[if_pos t,ed]
    refine⟨by rw[figs_pos h45];show 1≤1;decide,by rw[figs_pos h45];show 1≤60;decide,fun c hc=>?_,fun z=>?_⟩
    ·rw[figs_pos h45] at hc
     cases List.mem_singleton.mp hc
     exact dd
    ·rw[figs_pos h45] at z
     injection z with z
     rw[z]
   ·rw[if_pos t,if_pos t,ed,val_pos h45,vd]
    omega
  ·rw[if_neg s] at e
   have h45:=dg_head fg.dg
   have c:=(canon_iff fg.dg ne).mp e.symm
   have s10:¬PySem.NumText.digitsVal w<10:=fun z=>s (len_small.mpr z)
   have t:¬Two w:=fun z=>by
    have:=c z.2
    rw[this] at s10
    exact s10 (by decide)
   refine⟨?_,?_⟩
   ·rw[if_neg t]
    exact⟨by rw[figs_pos h45];exact fg.lo,by rw[figs_pos h45];exact fg.hi,by rw[figs_pos h45];exact fg.dg,fun z=>c (by rw[figs_pos h45] at z;exact z)⟩
   ·rw[if_neg t,if_neg t,val_pos h45]
    omega
theorem plc_val{w:List Nat}(p:PlcT w):plcVal w=((PySem.NumText.digitsVal w:Nat):Int):=by
 unfold plcVal
 by_cases t:Two w
 ·rw[if_pos t]
  have num:=p.num
  rw[if_pos t] at num
  obtain⟨a,d,rfl⟩:∃a d,w=[a,d]:=by
   match w,t.1 with
   | [a,d],_=>exact⟨a,d,rfl⟩
  obtain rfl:a=48:=by
   have:=t.2
   injection this
  have h45:([d]:List Nat).head?≠some 45:=by
   intro z
   injection z with z
   subst z
   have:=(show IsNum [45] from num).lo
   simp[figs] at this
  exact val_pos h45
 ·rw[if_neg t]
  exact val_pos (dg_head ((plc_iff w).mp p).1.dg)
structure DateT(cs:List Nat)(a b c:List Nat):Prop where
 cut:spl 47 cs=[a,b,c]
 y:IsNum a
 m:PlcT b
 d:PlcT c
theorem TOk.part{z:Str}(h:TOk z){c:Nat}{p:List Nat}(hp:p∈spl c (cpl z))(hs:∀a∈p,a∈cpl z):TOk (⟨p.toArray⟩:Str):=by
 refine⟨asc_iff.mpr fun a ha=>asc_iff.mp h.asc a (hs a ha),?_⟩
 have l:=spl_len c (cpl z) p hp
 rw[len_cpl] at l
 have:(⟨p.toArray⟩:Str).length=p.length:=by rw[←len_cpl];rfl
 have:=h.len
 omega
theorem spl_mem(c:Nat):∀(l p:List Nat),p∈spl c l→∀a∈p,a∈l
 | [],p,hp,a,ha=>by
  cases List.mem_singleton.mp hp
  cases ha
 | x::l,p,hp,a,ha=>by
  have ih:=spl_mem c l
  by_cases h:x=c
  ·subst h
   rw[spl_at] at hp
   rcases List.mem_cons.mp hp with e | e
   ·rw[e] at ha;cases ha
   ·exact List.mem_cons_of_mem _ (ih p e a ha)
  ·rw[spl_not _ h] at hp
   rw[spl_eta c l] at ih
   rcases List.mem_cons.mp hp with e | e
   ·rw[e] at ha
    rcases List.mem_cons.mp ha with y | y
    ·rw[y];exact List.mem_cons_self
    ·exact List.mem_cons_of_mem _ (ih _ List.mem_cons_self a y)
   ·exact List.mem_cons_of_mem _ (ih p (List.mem_cons_of_mem _ e) a ha)
def spReadPl(cT:Addr):Sp:=fun vs H Q E=>∃z:Str,vs=[.str z]∧TOk z∧(PlcT (cpl z)→∀H',Same H H'→Q (.int (plcVal (cpl z))) H')∧(¬PlcT (cpl z)→ENum cT H E)
def isDT(v:V):Prop:=∃z a b c,v=.str z∧DateT (cpl z) a b c
def spReadD(cT:Addr):Sp:=fun vs H Q E=>∃v:V,vs=[v]∧Hnd H v∧(∀(z:Str) (a b c:List Nat) (p:Addr) (H':Hp),v=.str z→DateT (cpl z) a b c→Same H H'→H' p=some (.tup [.int (numVal a),.int (plcVal b),.int (plcVal c)])→Q (.ref p) H')∧(¬isDT v→ENum cT H E)
def spPlText:Sp:=fun vs H Q _=>∃n:Nat,vs=[.int (n:Int)]∧n<10^60∧∀z:Str,cpl z=twoT n→TL 61 z→Q (.str z) H
theorem log60{n:Nat}(h:n<10^60):((n:Int)).natAbs.log2<1920:=log_small (by omega) (by have:(10:Nat)^60=1000000000000000000000000000000000000000000000000000000000000:=(by decide);omega)
theorem dT_len{n:Nat}(h:n<10^60):(cpl (intT (n:Int))).length≤60:=by
 rw[dT,List.length_map]
 exact(Nat.length_toDigits_le_iff (by decide) (by decide)).mpr h
theorem zfill_one:∀d:Nat,48≤d→d≤57→cpl (zfilled ⟨#[d]⟩ 1)=[48,d]:=by
 intro d h1 h2
 rcases(by omega:d=48∨d=49∨d=50∨d=51∨d=52∨d=53∨d=54∨d=55∨d=56∨d=57) with e | e | e | e | e | e | e | e | e | e<;>subst e<;>decide +kernel
theorem e47:cpl (Str.ofString "/")=[47]:=by decide +kernel
def spDateT(K:PySem.W.Frag):Sp:=fun vs H Q _=>∃(p:Addr) (y:Int) (m r:Nat),vs=[.ref p]∧SqT K H p [.int y,.int (m:Int),.int (r:Int)]∧y.natAbs.log2<1920∧m<10^60∧r<10^60∧∀z:Str,cpl z=cpl (intT y)++47::(twoT m++47::twoT r)→Q (.str z) H
theorem figs_int{y:Int}(h:y.natAbs<10^60):IsNum (cpl (intT y))∧numVal (cpl (intT y))=y∧47∉cpl (intT y):=by
 have id:=int_digits y.natAbs
 have dl:=dT_len h
 have z0:(cpl (intT ((y.natAbs:Nat):Int))).head?=some 48→cpl (intT ((y.natAbs:Nat):Int))=[48]:=by
  have c:=(canon_iff id.1 id.2.1).mp (by rw[id.2.2])
  exact c
 have l1:1≤(cpl (intT ((y.natAbs:Nat):Int))).length:=by
  cases hh:cpl (intT ((y.natAbs:Nat):Int)) with
  | nil=>exact absurd hh id.2.1
  | cons a r=>simp
 rcases Int.lt_or_le y 0 with c | c
 ·have e:cpl (intT y)=45::cpl (intT ((y.natAbs:Nat):Int)):=by
   cases y with
   | ofNat k=>exact absurd c (by simp)
   | negSucc k=>
    show cpl (intT (Int.negSucc k))=45::cpl (intT (((k+1:Nat)):Int))
    rw[dT]
    unfold intT cpl
    rw[signs_ofString]
    show(("-"++Nat.repr (k+1)).toList).map Char.toNat=_
    rw[String.toList_append,List.map_append,Nat.toList_repr]
    rfl
  have hh:(cpl (intT y)).head?=some 45:=by rw[e];rfl
  have ef:figs (cpl (intT y))=cpl (intT ((y.natAbs:Nat):Int)):=by unfold figs;rw[if_pos hh,e];rfl
  refine⟨⟨by rw[ef];exact l1,by rw[ef];exact dl,by rw[ef];exact id.1,fun z=>?_⟩,?_,?_⟩
  ·rw[ef] at z
   have:=z0 z
   have v:=id.2.2
   rw[this] at v
   have:PySem.NumText.digitsVal [48]=0:=rfl
   omega
  ·unfold numVal
   rw[if_pos hh,ef,id.2.2]
   omega
  ·rw[e]
   intro z
   rcases List.mem_cons.mp z with z | z
   ·omega
   ·have:=id.1 47 z
    omega
 ·have e:intT y=intT ((y.natAbs:Nat):Int):=by congr 1;omega
  rw[e]
  have h45:=dg_head id.1
  refine⟨⟨by rw[figs_pos h45];exact l1,by rw[figs_pos h45];exact dl,by rw[figs_pos h45];exact id.1,fun z=>z0 (by rw[figs_pos h45] at z;exact z)⟩,?_,fun z=>by have:=id.1 47 z;omega⟩
  rw[val_pos h45,id.2.2]
  omega
theorem two_plc{n:Nat}(h1:1≤n)(h:n<10^60):PlcT (twoT n)∧plcVal (twoT n)=(n:Int)∧47∉twoT n:=by
 have id:=int_digits n
 have dl:=dT_len h
 have dv:PySem.NumText.digitsVal (twoT n)=n:=by
  unfold twoT
  split
  ·exact id.2.2
  ·exact id.2.2
 have dg:∀c∈twoT n,48≤c∧c≤57:=by
  unfold twoT
  split
  ·intro c hc
   rcases List.mem_cons.mp hc with e | e
   ·rw[e];decide
   ·exact id.1 c e
  ·exact id.1
 have p:PlcT (twoT n):=by
  refine(plc_iff _).mpr ⟨⟨?_,?_,dg⟩,by rw[dv];exact h1,by rw[dv]⟩
  ·unfold twoT
   split
   ·simp
   ·omega
  ·unfold twoT
   split
   ·rw[List.length_cons];omega
   ·exact dl
 exact⟨p,by rw[plc_val p,dv],fun z=>by have:=dg 47 z;omega⟩
theorem date_t{y:Int}{m r:Nat}(hy:y.natAbs<10^60)(m1:1≤m)(hm:m<10^60)(r1:1≤r)(hr:r<10^60):DateT (cpl (intT y)++47::(twoT m++47::twoT r)) (cpl (intT y)) (twoT m) (twoT r):=by
 have a:=figs_int hy
 have b:=two_plc m1 hm
 have c:=two_plc r1 hr
 exact⟨by rw[spl_cut 47 _ _ a.2.2,spl_cut 47 _ _ b.2.2,spl_one 47 _ c.2.2],a.1,b.1,c.1⟩
theorem int_figs{z:Str}(h:Figs (cpl z)):PySem.intText? z=some ((PySem.NumText.digitsVal (cpl z):Nat):Int):=by
 refine PySem.intText_digits (fun c hc=>h.dg c hc) (fun z0=>?_) (by have:=h.hi;have:=len_cpl z;omega)
 have:=h.lo
 have z1:cpl z=[]:=z0
 rw[z1] at this
 simp at this
def numT(i:Int):List Nat:=cpl (intT i)
def txt(p:List Nat):Str:=⟨p.toArray⟩
theorem cpl_txt(p:List Nat):cpl (txt p)=p:=rfl
def joinC(c:Nat):List (List Nat)→List Nat
 | []=>[]
 | w::ws=>w++(ws.map (c:: ·)).flatten
theorem joinC_cons(c:Nat)(w y:List Nat)(ws:List (List Nat)):joinC c (w::y::ws)=w++c::joinC c (y::ws):=by
 show w++((c::y)++(ws.map (c:: ·)).flatten)=w++c::(y++(ws.map (c:: ·)).flatten)
 rfl
theorem spl_joinC(c:Nat):∀(w:List Nat) (ws:List (List Nat)),(∀x∈w::ws,c∉x)→spl c (joinC c (w::ws))=w::ws
 | w,[],h=>by
  show spl c (w++[])=[w]
  rw[List.append_nil]
  exact spl_one c w (h w List.mem_cons_self)
 | w,y::ws,h=>by
  rw[joinC_cons,spl_cut c w _ (h w List.mem_cons_self),spl_joinC c y ws fun x hx=>h x (List.mem_cons_of_mem _ hx)]
theorem glue_fold(c:Nat):∀(zs:List Str) (acc:Array Nat),(zs.foldl (fun acc (p:Str)=>acc++(⟨#[c]⟩:Str).cps++p.cps) acc).toList=acc.toList++((zs.map cpl).map (c:: ·)).flatten
 | [],acc=>by simp
 | z::zs,acc=>by
  rw[List.foldl_cons,glue_fold c zs,Array.toList_append,Array.toList_append,List.map_cons,List.map_cons,List.flatten_cons]
  show(acc.toList++[c]++cpl z)++_=acc.toList++((c::cpl z)++_)
  simp
theorem join_cpl(c:Nat)(zs:List Str):cpl (Txt.join ⟨#[c]⟩ zs)=joinC c (zs.map cpl):=by
 cases zs with
 | nil=>rfl
 | cons z zs=>
  show((zs.foldl (fun acc (p:Str)=>acc++(⟨#[c]⟩:Str).cps++p.cps) z.cps)).toList=_
  rw[glue_fold]
  rfl
theorem e44:Str.ofString ","=⟨#[44]⟩:=by decide +kernel
theorem e32:Str.ofString " "=⟨#[32]⟩:=by decide +kernel
theorem eNo:Str.ofString ""=⟨#[]⟩:=by decide +kernel
def Sm(i:Int):Prop:=i.natAbs<10^60
theorem num_ok{i:Int}(h:Sm i):IsNum (numT i)∧numVal (numT i)=i:=⟨(figs_int h).1,(figs_int h).2.1⟩
theorem num_ch{i:Int}(h:Sm i):∀c∈numT i,c=45∨48≤c∧c≤57:=fun c hc=>by
 have N:=(num_ok h).1
 have hd:=N.dg
 by_cases e:(numT i).head?=some 45
 ·have ef:figs (numT i)=(numT i).drop 1:=by unfold figs;rw[if_pos e]
  rw[ef] at hd
  cases hn:numT i with
  | nil=>rw[hn] at hc;cases hc
  | cons a r=>
   rw[hn] at hc e hd
   injection e with e
   rcases List.mem_cons.mp hc with z | z
   ·exact .inl (by rw[z,e])
   ·exact .inr (hd c z)
 ·rw[figs_pos e] at hd
  exact .inr (hd c hc)
def tmW(t:Tm):List Nat:=(if t.1=1 then 43 else 45)::joinC 44 [numT t.2.1,numT t.2.2.1,numT t.2.2.2]
def sunWs(s:Int)(ls:List Int)(lp:Int)(ts:List Tm):List (List Nat):=numT s::joinC 44 (ls.map numT)::(if ts=[] then [] else [108,101,97,112]::numT lp::ts.map tmW)
def moonWs(s bd:Int)(td:List Tm)(bm:Int)(tm:List Tm):List (List Nat):=numT s::numT bd::(td.map tmW++[47]::numT bm::tm.map tmW)
def calW:CalD→List (List Nat)
 | .sun s ls lp ts=>[115,117,110]::sunWs s ls lp ts
 | .moon s bd td bm tm=>[109,111,111,110]::moonWs s bd td bm tm
def calT(d:CalD):List Nat:=joinC 32 (calW d)
structure Like(d e:CalD):Prop where
 L:∀y,d.L y=e.L y
 Y:∀y,d.Y y=e.Y y
 cy:d.cy=e.cy
theorem Like.day{d e:CalD}(h:Like d e)(y m r:Int):DayOf d y m r=DayOf e y m r:=by
 unfold DayOf
 rw[h.L,h.Y]
theorem joinC_ch{c:Nat}{P:Nat→Prop}(hc:P c):∀{ws:List (List Nat)},(∀w∈ws,∀a∈w,P a)→∀a∈joinC c ws,P a
 | [],_,a,ha=>by cases ha
 | w::ws,h,a,ha=>by
  rcases List.mem_append.mp ha with z | z
  ·exact h w List.mem_cons_self a z
  ·obtain⟨x,hx,hz⟩:=List.mem_flatten.mp z
   obtain⟨y,hy,rfl⟩:=List.mem_map.mp hx
   rcases List.mem_cons.mp hz with e | e
   ·rw[e];exact hc
   ·exact h y (List.mem_cons_of_mem _ hy) a e
theorem cut_from'(xs:List V)(k:Nat):cutV xs (some (k:Int)) none=xs.drop k:=by
 unfold cutV
 rw[HT.sIx_nat,HT.sIx_none]
 by_cases h:k≤xs.length
 ·rw[Nat.min_eq_left h,List.take_of_length_le (by rw[List.length_drop];exact Nat.le_refl _)]
 ·rw[Nat.min_eq_right (by omega),List.drop_of_length_le (Nat.le_refl _),List.drop_of_length_le (by omega),List.take_nil]
theorem sum_lens{k:Nat}:∀{zs:List Str},(∀z∈zs,z.length≤k)→(zs.map (·.length)).sum≤zs.length*k
 | [],_=>Nat.zero_le _
 | z::zs,h=>by
  have:=sum_lens (zs:=zs) fun y hy=>h y (List.mem_cons_of_mem _ hy)
  have:=h z List.mem_cons_self
  rw[List.map_cons,List.sum_cons,List.length_cons,Nat.succ_mul]
  omega
theorem txt_len(p:List Nat):(txt p).length=p.length:=by rw[←len_cpl];rfl
theorem sm_log{i:Int}(h:Sm i):i.natAbs.log2<1920:=by
 refine log_small ?_ ?_
 ·unfold Sm at h
  have:(10:Nat)^60=1000000000000000000000000000000000000000000000000000000000000:=by decide
  omega
 ·unfold Sm at h
  have:(10:Nat)^60=1000000000000000000000000000000000000000000000000000000000000:=by decide
  omega
def wV(ws:List (List Nat)):List V:=(ws.map txt).map V.str
theorem wV_app(a b:List (List Nat)):wV (a++b)=wV a++wV b:=by unfold wV;rw[List.map_append,List.map_append]
theorem wV_len(a:List (List Nat)):(wV a).length=a.length:=by unfold wV;rw[List.length_map,List.length_map]
theorem eSlash:Str.ofString "/"=txt [47]:=by decide +kernel
def spShowS(K:PySem.W.Frag)(CS CM:Addr):Sp:=fun vs H Q _=>∃(x:Addr) (s:Int) (ls:List Int) (lp:Int) (ts:List Tm),vs=[.ref x]∧SunO K CS CM H x s ls lp ts∧Sm s∧∀H',Same H H'→Q (.str (txt (calT (.sun s ls lp ts)))) H'
def spShowM(K:PySem.W.Frag)(CO CM:Addr):Sp:=fun vs H Q _=>∃(x:Addr) (s bd:Int) (td:List Tm) (bm:Int) (tm:List Tm),vs=[.ref x]∧MoonO K CO CM H x s bd td bm tm∧Sm s∧∀H',Same H H'→Q (.str (txt (calT (.moon s bd td bm tm)))) H'
theorem at_n0{α:Type}{a:α}{l:List α}:atI (a::l) 0=some a:=atI_nat (j:=0) rfl
theorem at_n1{α:Type}{a b:α}{l:List α}:atI (a::b::l) 1=some b:=atI_nat (j:=1) rfl
theorem at_n2{α:Type}{a b c:α}{l:List α}:atI (a::b::c::l) 2=some c:=atI_nat (j:=2) rfl
theorem at_n3{α:Type}{a b c d:α}{l:List α}:atI (a::b::c::d::l) 3=some d:=atI_nat (j:=3) rfl
structure TmU(K:PySem.W.Frag)(H:Hp)(p:Addr)(ts:List Tm):Prop where
 ex:∃vs,SqT K H p vs∧Tms H vs ts
 few:ts.length≤5000
theorem TmU.same{K:PySem.W.Frag}{H H':Hp}{p:Addr}{ts:List Tm}(T:TmU K H p ts)(s:Same H H'):TmU K H' p ts:=by
 obtain⟨vs,h1,h2⟩:=T.ex
 exact⟨⟨vs,s.tup h1,h2.same s⟩,T.few⟩
def Hdt(H:Hp)(v:V)(us:List V):Prop:=(v=.non∧us=[])∨∃l,v=.ref l∧H l=some (.lst us)
theorem Hdt.same{H H':Hp}{v:V}{us:List V}(h:Hdt H v us)(s:Same H H'):Hdt H' v us:=by
 rcases h with z | ⟨l,z,e⟩
 ·exact .inl z
 ·exact .inr ⟨l,z,s _ _ e⟩
structure TermT(w:List Nat):Prop where
 hd:w.head?=some 43∨w.head?=some 45
 num:∀p∈spl 44 (w.drop 1),IsNum p
 len:(spl 44 (w.drop 1)).length=3
def tmOf(w:List Nat):Tm:=(if w.head?=some 43 then 1 else -1,numVal ((spl 44 (w.drop 1)).getD 0 []),numVal ((spl 44 (w.drop 1)).getD 1 []),numVal ((spl 44 (w.drop 1)).getD 2 []))
theorem head_take(w:List Nat)(c:Nat):w.take 1=[c]↔w.head?=some c:=by
 cases w with
 | nil=>simp
 | cons a r=>simp
theorem str1_eq{y:Str}{c:Nat}:y=⟨#[c]⟩↔cpl y=[c]:=⟨fun h=>by rw[h];rfl,fun h=>str_ext h⟩
def numsOf(p:List Nat):List Int:=(spl 44 p).map numVal
def AllT(ws:List (List Nat)):Prop:=∀t∈ws,TermT t
def Wds(us:List (List Nat)):Prop:=us.length≤5000∧∀w∈us,TOk (txt w)
theorem Wds.of{us vs:List (List Nat)}(h:Wds us)(l:vs.length≤us.length)(m:∀w∈vs,w∈us):Wds vs:=⟨Nat.le_trans l h.1,fun w hw=>h.2 w (m w hw)⟩
theorem Wds.drop{us:List (List Nat)}(h:Wds us)(k:Nat):Wds (us.drop k):=h.of (by rw[List.length_drop];omega) fun w hw=>List.mem_of_mem_drop hw
theorem Wds.take{us:List (List Nat)}(h:Wds us)(k:Nat):Wds (us.take k):=h.of (by rw[List.length_take];omega) fun w hw=>List.mem_of_mem_take hw
theorem txt_inj{a b:List Nat}(h:txt a=txt b):a=b:=by
 have:=congrArg cpl h
 rwa [cpl_txt,cpl_txt] at this
theorem cutN(xs:List V)(i j:Nat):cutV xs (some (i:Int)) (some (j:Int))=(xs.take j).drop i:=by
 unfold cutV
 rw[HT.sIx_nat,HT.sIx_nat,List.drop_take]
 by_cases h:i≤xs.length
 ·rw[Nat.min_eq_left h]
  by_cases g:j≤xs.length
  ·rw[Nat.min_eq_left g]
  ·rw[Nat.min_eq_right (by omega),List.take_of_length_le (by rw[List.length_drop];omega),List.take_of_length_le (by rw[List.length_drop];omega)]
 ·rw[List.drop_of_length_le (show xs.length≤i by omega),List.drop_of_length_le (by omega),List.take_nil,List.take_nil]
theorem wV_drop(ws:List (List Nat))(k:Nat):(wV ws).drop k=wV (ws.drop k):=by unfold wV;rw[List.map_drop,List.map_drop]
theorem cutWf(ws:List (List Nat))(i:Nat):cutV (wV ws) (some (i:Int)) none=wV (ws.drop i):=by rw[cut_from',wV_drop]
def wt(zs:List Str):Nat:=(zs.map fun z=>z.length+1).sum
structure WL(k:Nat)(zs:List Str):Prop where
 asc:∀z∈zs,asc z=true
 len:wt zs≤k
theorem wt_app(a b:List Str):wt (a++b)=wt a+wt b:=by unfold wt;rw[List.map_append,List.sum_append]
theorem wt_cons(z:Str)(b:List Str):wt (z::b)=z.length+1+wt b:=by unfold wt;rw[List.map_cons,List.sum_cons]
theorem wt_len:∀zs:List Str,zs.length≤wt zs
 | []=>Nat.zero_le _
 | z::zs=>by
  have:=wt_len zs
  rw[wt_cons,List.length_cons]
  omega
theorem wt_mem:∀{zs:List Str} {z:Str},z∈zs→z.length+1≤wt zs
 | y::zs,z,h=>by
  rw[wt_cons]
  rcases List.mem_cons.mp h with e | e
  ·rw[e];omega
  ·have:=wt_mem e
   omega
theorem wt_sub{a b:List Str}(h:a.Sublist b):wt a≤wt b:=by
 induction h with
 | slnil=>exact Nat.le_refl _
 | cons x _ ih=>rw[wt_cons];omega
 | cons_cons x _ ih=>rw[wt_cons,wt_cons];omega
theorem WL.mono{k m:Nat}{zs:List Str}(h:WL k zs)(l:k≤m):WL m zs:=⟨h.asc,Nat.le_trans h.len l⟩
theorem WL.nil(k:Nat):WL k []:=⟨(fun z h=>by cases h),Nat.zero_le _⟩
theorem WL.app{k m:Nat}{a b:List Str}(h:WL k a)(g:WL m b):WL (k+m) (a++b):=⟨fun z hz=>by
 rcases List.mem_append.mp hz with e | e
 ·exact h.asc z e
 ·exact g.asc z e,by rw[wt_app];exact Nat.add_le_add h.len g.len⟩
theorem WL.one{k:Nat}{z:Str}(h:TL k z):WL (k+1) [z]:=⟨fun y hy=>by rw[List.mem_singleton.mp hy];exact h.asc,by rw[wt_cons];show z.length+1+0≤k+1;have:=h.len;omega⟩
theorem WL.cons{k m:Nat}{z:Str}{b:List Str}(h:TL k z)(g:WL m b):WL (k+1+m) (z::b):=WL.app (WL.one h) g
theorem WL.sub{k:Nat}{a b:List Str}(h:WL k b)(s:a.Sublist b):WL k a:=⟨fun z hz=>h.asc z (s.subset hz),Nat.le_trans (wt_sub s) h.len⟩
theorem WL.cut{k:Nat}{zs:List Str}(h:WL k zs)(lo hi:Option Int):∃ys:List Str,cutV (zs.map V.str) lo hi=ys.map V.str∧WL k ys:=by
 unfold cutV
 rw[←List.map_drop,←List.map_take]
 exact⟨_,rfl,h.sub ((List.take_sublist _ _).trans (List.drop_sublist _ _))⟩
theorem WL.mem{k:Nat}{zs:List Str}(h:WL k zs){z:Str}(m:z∈zs):TL k z:=⟨h.asc z m,by have:=wt_mem m;have:=h.len;omega⟩
theorem WL.at{k:Nat}{zs:List Str}(h:WL k zs){i:Int}(h0:0≤i)(h1:i<(zs.length:Int)):∃z,atI (zs.map V.str) i=some (.str z)∧TL k z:=by
 obtain⟨v,hv,hm⟩:=mem_at (xs:=zs.map V.str) h0 (by rw[List.length_map];exact h1)
 obtain⟨z,hz,rfl⟩:=List.mem_map.mp hm
 exact⟨z,hv,h.mem hz⟩
theorem WL.fit{k:Nat}{zs:List Str}(h:WL k zs):(zs.map V.str).length≤k:=by rw[List.length_map];exact Nat.le_trans (wt_len zs) h.len
theorem flat_wt(c:Nat):∀ws:List (List Nat),((ws.map (c:: ·)).flatten).length=(ws.map fun w=>w.length+1).sum
 | []=>rfl
 | w::ws=>by rw[List.map_cons,List.flatten_cons,List.length_append,flat_wt c ws,List.map_cons,List.sum_cons,List.length_cons]
theorem joinC_wt(c:Nat)(ws:List (List Nat)):(joinC c ws).length≤(ws.map fun w=>w.length+1).sum:=by
 cases ws with
 | nil=>exact Nat.zero_le _
 | cons w ws=>
  show(w++(ws.map (c:: ·)).flatten).length≤_
  rw[List.length_append,flat_wt,List.map_cons,List.sum_cons]
  omega
theorem wt_cpl(zs:List Str):wt zs=((zs.map cpl).map fun w=>w.length+1).sum:=by
 unfold wt
 rw[List.map_map]
 exact congrArg List.sum (List.map_congr_left fun z _=>by show z.length+1=(cpl z).length+1;rw[len_cpl])
theorem WL.join{k c:Nat}{zs:List Str}(h:WL k zs)(hc:c<128):TL k (Txt.join ⟨#[c]⟩ zs):=by
 refine⟨asc_iff.mpr fun a ha=>?_,?_⟩
 ·rw[join_cpl] at ha
  refine joinC_ch (P:=fun a=>a<128) hc (fun w hw a ha=>?_) a ha
  obtain⟨z,hz,rfl⟩:=List.mem_map.mp hw
  exact asc_iff.mp (h.asc z hz) a ha
 ·rw[←len_cpl,join_cpl]
  have:=joinC_wt c (zs.map cpl)
  rw[←wt_cpl] at this
  exact Nat.le_trans this h.len
theorem WL.sum{k c:Nat}{zs:List Str}(h:WL k zs)(l:k≤16777216):(zs.map (·.length)).sum+zs.length*(⟨#[c]⟩:Str).length≤16777216:=by
 have e:∀ys:List Str,(ys.map (·.length)).sum+ys.length*(⟨#[c]⟩:Str).length=wt ys:=fun ys=>by
  have e1:(⟨#[c]⟩:Str).length=1:=rfl
  rw[e1,Nat.mul_one]
  induction ys with
  | nil=>rfl
  | cons y ys ih=>rw[wt_cons,List.map_cons,List.sum_cons,List.length_cons,←ih];omega
 rw[e]
 exact Nat.le_trans h.len l
theorem spl_wt(c:Nat):∀l:List Nat,((spl c l).map fun w=>w.length+1).sum=l.length+1
 | []=>rfl
 | a::l=>by
  have ih:=spl_wt c l
  by_cases h:a=c
  ·subst h
   rw[spl_at,List.map_cons,List.sum_cons,ih,List.length_cons]
   show 0+1+_=_
   omega
  ·have eta:=spl_eta c l
   rw[eta,List.map_cons,List.sum_cons] at ih
   rw[spl_not l h,List.map_cons,List.sum_cons,List.length_cons,List.length_cons]
   omega
theorem WL.spl{k c:Nat}{z:Str}(h:TL k z):WL (k+1) (splS c z):=by
 have e:(splS c z).map cpl=L2.spl c (cpl z):=by
  unfold splS
  rw[List.map_map]
  exact List.map_id' _
 refine⟨fun y hy=>asc_iff.mpr fun a ha=>?_,?_⟩
 ·have m:cpl y∈L2.spl c (cpl z):=by rw[←e];exact List.mem_map.mpr ⟨y,hy,rfl⟩
  exact asc_iff.mp h.asc a (spl_mem c (cpl z) (cpl y) m a ha)
 ·rw[wt_cpl,e,spl_wt,len_cpl]
  have:=h.len
  omega
noncomputable def oNum(w:List Nat):V:=by
 classical exact if IsNum w then .int (numVal w) else .non
theorem oNum_y{w:List Nat}(h:IsNum w):oNum w=.int (numVal w):=by unfold oNum;rw[if_pos h]
theorem oNum_n{w:List Nat}(h:¬IsNum w):oNum w=.non:=by unfold oNum;rw[if_neg h]
theorem oNum_flat(w:List Nat):flatV (oNum w)=true:=by
 by_cases h:IsNum w
 ·rw[oNum_y h];rfl
 ·rw[oNum_n h];rfl
def spVal73:Sp:=fun vs H Q _=>∃z:Str,vs=[.str z]∧TOk z∧∀H',Same H H'→Q (oNum (cpl z)) H'
theorem CalO.show{K:PySem.W.Frag}{CS CO CM:Addr}{H:Hp}{x:Addr}{d:CalD}(S:CalO K CS CO CM H x d)(sm:Sm d.st):∃C dx fs sp,(C,sp)∈[(CS,spShowS K CS CM),(CO,spShowM K CO CM)]∧H x=some (.ins C dx fs)∧fs.lookup (Str.ofString "shown")=none∧
 ∀{H2:Hp} {Q:VK} {E:XK},CalO K CS CO CM H2 x d→(∀H',Same H2 H'→Q (.str (txt (calT d))) H')→sp [.ref x] H2 Q E:=by
 cases d with
 | sun s ls lp ts=>
  obtain⟨dx,p,y,e,_⟩:=SunO.ex S
  exact⟨CS,dx,_,_,List.mem_cons_self,e,rfl,fun S2 q=>⟨x,s,ls,lp,ts,rfl,S2,sm,q⟩⟩
 | moon s bd td bm tm=>
  obtain⟨dx,p,y,e,_⟩:=MoonO.ex S
  exact⟨CO,dx,_,_,List.mem_cons_of_mem _ List.mem_cons_self,e,rfl,fun S2 q=>⟨x,s,bd,td,bm,tm,rfl,S2,sm,q⟩⟩
theorem rd_slW{K:PySem.W.Frag}{a:Addr}{zs:List Str}{k:Nat}{lo hi:Option Int}{H:Hp}{Q:VK}(h:H a=some (.lst (zs.map V.str)))(W:WL k zs)(q:∀(p:Addr) (H':Hp) (ys:List Str),Same H H'→H' p=some (.lst (ys.map V.str))→WL k ys→Q (.ref p) H'):rSlL K (.ref a) lo hi H Q:=by
 obtain⟨ys,e,V⟩:=W.cut lo hi
 refine rd_slL (SqL.of h) fun p hp=>?_
 rw[e]
 exact q p _ ys (same_new hp _) upd_same V
theorem rd_catW{l b:Addr}{xs zs:List Str}{k m:Nat}{H:Hp}{Q:VK}(h:H l=some (.lst (xs.map V.str)))(W:WL k xs)(g:H b=some (.lst (zs.map V.str)))(Y:WL m zs)(hz:k+m≤16777216)(q:∀(p:Addr) (H':Hp) (ys:List Str),Same H H'→H' p=some (.lst (ys.map V.str))→WL (k+m) ys→Q (.ref p) H'):rCat (.ref l) (.ref b) H Q:=by
 refine rd_cat h g (by have:=W.fit;have:=Y.fit;rw[sizeLine_eq];omega) fun p hp=>?_
 rw[←List.map_append]
 exact q p _ _ (same_new hp _) upd_same (W.app Y)
theorem rd_joinW{K:PySem.W.Frag}{l:Addr}{zs:List Str}{k:Nat}{H:Hp}{Q:VK}(h:H l=some (.lst (zs.map V.str)))(W:WL k zs)(hz:k≤16777216)(q:∀y,TL k y→Q (.str y) H):rJoin K (.str (Str.ofString " ")) [.ref l] H Q:=by
 refine⟨_,l,zs,rfl,rfl,SqL.of h,(by rw[e32];exact W.sum hz),?_⟩
 rw[e32]
 exact q _ (W.join (by decide))
def TmsV(H:Hp)(ws:List (List Nat))(v:V):Prop:=(AllT ws∧∃(l:Addr) (us:List V),v=.ref l∧H l=some (.lst us)∧Tms H us (ws.map tmOf))∨(¬AllT ws∧v=.non)
theorem TmsV.same{H H':Hp}{ws:List (List Nat)}{v:V}(h:TmsV H ws v)(s:Same H H'):TmsV H' ws v:=by
 rcases h with ⟨h,l,us,e,g,t⟩ | h
 ·exact .inl ⟨h,l,us,e,s _ _ g,t.same s⟩
 ·exact .inr h
def spTooLong:Sp:=fun vs H Q _=>∃n:Int,vs=[.int n]∧n≤150000∧Q .non H
theorem and_one(b k:Nat):decide (V.int (Builtin.bitAnd ((b:Int)/2^k) 1)=V.int 1)=b.testBit k:=by
 rw[shr_cast,show(1:Int)=((1:Nat):Int) from rfl,bitAnd_nat,Nat.and_one_is_mod,←on_dec]
 congr 1
 rw[shr_cast]
 have e:(((b >>> k:Nat):Int)%2)=((b >>> k%2:Nat):Int):=by omega
 rw[e]
 rfl
def pcsV(b k:Nat):List V:=(List.range k).map fun j=>V.int ((pc b j:Nat):Int)
theorem pcsV_len(b k:Nat):(pcsV b k).length=k:=by unfold pcsV;simp
theorem pcsV_at{b k j:Nat}(h:j<k):(pcsV b k)[j]?=some (V.int ((pc b j:Nat):Int)):=by
 unfold pcsV
 rw[List.getElem?_map,List.getElem?_range h]
 rfl
theorem pcsV_zero(k:Nat):(List.replicate k [V.int 0]).flatten=pcsV 0 k:=by
 unfold pcsV
 have:(fun j=>V.int ((pc 0 j:Nat):Int))=fun _=>V.int 0:=by
  funext j
  unfold pc
  simp
 rw[this,List.map_const',List.length_range]
 induction k with
 | zero=>rfl
 | succ k ih=>rw[List.replicate_succ,List.flatten_cons,ih,List.replicate_succ];rfl
theorem pcsV_set{b k p:Nat}(h:p/256<k):(pcsV b k).set (p/256) (V.int ((pc b (p/256) ||| 2^(p%256):Nat):Int))=pcsV (b ||| 2^p) k:=by
 refine List.ext_getElem? fun j=>?_
 rw[List.getElem?_set]
 by_cases hj:j<k
 ·rw[pcsV_at hj]
  by_cases c:p/256=j
  ·rw[if_pos c,if_pos (by rw[pcsV_len];omega)]
   subst c
   rw[pcsV_at hj,pc_or_at]
  ·rw[if_neg c,pcsV_at hj,pc_or_ne (Ne.symm c)]
 ·have e:∀b,(pcsV b k)[j]?=none:=fun b=>List.getElem?_eq_none (by rw[pcsV_len];omega)
  rw[if_neg (by omega),e,e]
def spRoundBy(K:PySem.W.Frag):Sp:=fun vs H Q _=>∃(a:Addr) (ds:List Int) (n:Int),vs=[.int n,.ref a]∧SqL K H a (ds.map V.int)∧0<n∧n≤150000∧
 ∀(p:Addr) (b:Nat) (H':Hp),Same H H'→H' p=some (.tup [.int n,.int (b:Int)])→RB n ds b→Q (.ref p) H'
theorem rb_bits{n:Int}{b:Nat}(hn:0<n)(hb:b<2^n.toNat):b%2^(256*((n/256+1).toNat))=b:=
 Nat.mod_eq_of_lt (Nat.lt_of_lt_of_le hb (Nat.pow_le_pow_right (by decide) (by omega)))
theorem bt_log{k:Nat}{x:Int}(h:Bt k x)(hk:k≤1920)(h0:0<k):x.natAbs.log2<1920:=by
 unfold Bt at h
 by_cases z:x.natAbs=0
 ·rw[z];decide
 ·exact Nat.lt_of_lt_of_le ((Nat.log2_lt z).mpr h) hk
structure RC(K:PySem.W.Frag)(CR C:Addr):Prop where
 cl:Cls K C
 k:NoAttr K C "kept"
 m:NoAttr K C "made_of"
 w:NoAttr K C "words"
 ca:PySem.W.findIn K (.ref C) "__class__"=some (some (.builtin "object.__class__"))
 ob:PySem.W.mroIn K C (.type "object")=some true
 isr:PySem.W.kitOne K (.ref C) (.ref CR)=some true
def rF(p pm pw:Addr):List (Str×V):=[("kept",.ref p),("made_of",.ref pm),("words",.ref pw)]
structure RuleO(K:PySem.W.Frag)(CR:Addr)(CL:List Addr)(H:Hp)(x:Addr)(n:Int)(b:Nat):Prop where
 ex:∃C dx p pm pw,C∈CL∧RC K CR C∧H x=some (.ins C dx (rF p pm pw))∧H p=some (.tup [.int n,.int (b:Int)])
 n0:0<n
 n1:n≤150000
 lt:b<2^n.toNat
theorem RuleO.same{K:PySem.W.Frag}{CR:Addr}{CL:List Addr}{H H':Hp}{x:Addr}{n:Int}{b:Nat}(R:RuleO K CR CL H x n b)(s:Same H H'):RuleO K CR CL H' x n b:=by
 obtain⟨C,dx,p,pm,pw,h1,h2,h3,h4⟩:=R.ex
 exact⟨⟨C,dx,p,pm,pw,h1,h2,s _ _ h3,s _ _ h4⟩,R.n0,R.n1,R.lt⟩
def KB(x:Addr)(H H':Hp):Prop:=∀y o,y≠x→H y=some o→H' y=some o
theorem KB.pre{x:Addr}{H H1 H':Hp}(s:Same H H1)(k:KB x H1 H'):KB x H H':=fun y o h e=>k y o h (s _ _ e)
theorem made_same{H1 H':Hp}{x dx:Addr}{o o':HO}(hx:H1 x=none)(hd:H1 dx=none)(ne:dx≠x)(k:KB x (upd (upd H1 dx o) x o') H'):Same H1 H':=fun y u e=>by
 have y1:y≠x:=ne_of_none e hx
 have y2:y≠dx:=ne_of_none e hd
 exact k y u y1 (by rw[upd_ne y1,upd_ne y2];exact e)
def spRInit(K:PySem.W.Frag)(CR:Addr):Sp:=fun vs H Q _=>∃(x p pm pw C dx:Addr),vs=[.ref x,.ref p,.ref pm,.ref pw]∧H x=some (.ins C dx [])∧RC K CR C∧
 ∀H',KB x H H'→H' x=some (.ins C dx (rF p pm pw))→Q .non H'
def MadeR(K:PySem.W.Frag)(CR:Addr)(CL:List Addr)(C:Addr)(H:Hp)(x:Addr)(Q:VK)(n:Int)(G:Nat→Prop):Prop:=(∃dx,H x=some (.ins C dx []))∧∀(b:Nat) H',KB x H H'→RuleO K CR CL H' x n b→G b→Q .non H'
def spIEach(K:PySem.W.Frag)(CR:Addr)(CL:List Addr)(C:Addr):Sp:=fun vs H Q _=>∃(x:Addr) (n r:Int),vs=[.ref x,.int n,.int r]∧1≤n∧n≤1000∧Bt 400 r∧MadeR K CR CL C H x Q n (fun b=>RB n [r] b)
def spOnM(K:PySem.W.Frag)(CR:Addr)(CL:List Addr):Sp:=fun vs H Q _=>∃(x:Addr) (n d:Int) (b:Nat),vs=[.ref x,.int d]∧RuleO K CR CL H x n b∧Q (.bl (On n b d)) H
def spEachT:Sp:=fun vs H Q _=>∃n r:Int,vs=[.int n,.int r]∧1≤n∧n≤1000∧Bt 400 r∧∀z H',Same H H'→Q (.str z) H'
theorem made_rule{K:PySem.W.Frag}{CR:Addr}{CL:List Addr}{C x dx p pm pw:Addr}{H2 H':Hp}{n:Int}{b:Nat}(hC:C∈CL)(R:RC K CR C)(hx:H2 x=some (.ins C dx []))(hp:H2 p=some (.tup [.int n,.int (b:Int)]))(k:KB x H2 H')(e:H' x=some (.ins C dx (rF p pm pw)))(n0:0<n)(n1:n≤150000)(lt:b<2^n.toNat):RuleO K CR CL H' x n b:=
 ⟨⟨C,dx,p,pm,pw,hC,R,e,k _ _ (ne_of hp hx (fun z=>nomatch z)) hp⟩,n0,n1,lt⟩
structure IsNm(cs:List Nat):Prop where
 lo:1≤cs.length
 hi:cs.length≤8
 ch:∀c∈cs,97≤c∧c≤122
theorem let_mem(c:Nat):c∈cpl (Str.ofString "abcdefghijklmnopqrstuvwxyz")↔97≤c∧c≤122:=by
 have e:cpl (Str.ofString "abcdefghijklmnopqrstuvwxyz")=(List.range 26).map (97+ ·):=by decide +kernel
 rw[e,List.mem_map]
 constructor
 ·rintro⟨k,hk,rfl⟩
  have:=List.mem_range.mp hk
  omega
 ·intro h
  exact⟨c-97,List.mem_range.mpr (by omega),by omega⟩
theorem in_let(c:Nat):(!(Builtin.Str.occurrences (Str.ofString "abcdefghijklmnopqrstuvwxyz") ⟨#[c]⟩ 0 (Str.ofString "abcdefghijklmnopqrstuvwxyz").length 1).isEmpty)=decide (97≤c∧c≤122):=by
 rw[StrLaws.found_one,Bool.eq_iff_iff,decide_eq_true_eq,decide_eq_true_eq]
 exact let_mem c
def spIsNm:Sp:=fun vs H Q _=>∃z:Str,vs=[.str z]∧TOk z∧∀(v:Bool) (H':Hp),Same H H'→(v=true↔IsNm (cpl z))→Q (.bl v) H'
def NmsT(p:List Nat):Prop:=∀q∈spl 44 p,IsNm q
def spReadNmsE(cT:Addr):Sp:=fun vs H Q E=>∃z:Str,vs=[.str z]∧TOk z∧(NmsT (cpl z)→∀(l:Addr) H',H l=none→Same H H'→H' l=some (.lst (wV (spl 44 (cpl z))))→Q (.ref l) H')∧(¬NmsT (cpl z)→ENum cT H E)
def wdsOf(p:List Nat):List (List Nat):=(spl 32 p).filter fun w=>decide (w≠[])
inductive RowF(p:List Nat):List Nat→List Nat→List Nat→List Nat→List (List Nat)→Prop
 | two {a b y m d:List Nat}:wdsOf p=[a,b]→IsNum a→DateT b y m d→RowF p a y m d []
 | three {a b c y m d:List Nat}:wdsOf p=[a,b,c]→IsNum a→DateT b y m d→NmsT c→RowF p a y m d (spl 44 c)
def isRow(v:V):Prop:=∃z a y m d ns,v=.str z∧RowF (cpl z) a y m d ns
structure RowO(H:Hp)(u:V)(a y m d:List Nat)(ns:List (List Nat))(l:Addr):Prop where
 ex:∃p q:Addr,u=.ref p∧H p=some (.tup [.int (numVal a),.ref q,.ref l])∧H q=some (.tup [.int (numVal y),.int (plcVal m),.int (plcVal d)])
 nm:H l=some (.lst (wV ns))
def spReadRowE(cT:Addr):Sp:=fun vs H Q E=>∃v:V,vs=[v]∧Hnd H v∧(∀z a y m d ns,v=.str z→RowF (cpl z) a y m d ns→∀(u:V) (l:Addr) H',Same H H'→H l=none→RowO H' u a y m d ns l→Q u H')∧(¬isRow v→ENum cT H E)
theorem wds_mem{p w:List Nat}(h:w∈wdsOf p):w∈spl 32 p:=(List.mem_filter.mp h).1
def RowV(H:Hp)(u v:V)(l:Addr):Prop:=∃z a y m d ns,v=.str z∧RowF (cpl z) a y m d ns∧RowO H u a y m d ns l
inductive Rws(H:Hp):List V→List V→List Addr→Prop
 | nil:Rws H [] [] []
 | cons {u v:V} {l:Addr} {us vs:List V} {ls:List Addr}:RowV H u v l→Rws H us vs ls→Rws H (u::us) (v::vs) (l::ls)
theorem RowO.keep{H H':Hp}{u:V}{a y m d:List Nat}{ns:List (List Nat)}{l:Addr}(h:RowO H u a y m d ns l)(k:∀b o,(∃xs,o=.tup xs)∨b=l→H b=some o→H' b=some o):RowO H' u a y m d ns l:=by
 obtain⟨p,q,e,h1,h2⟩:=h.ex
 exact⟨⟨p,q,e,k _ _ (.inl ⟨_,rfl⟩) h1,k _ _ (.inl ⟨_,rfl⟩) h2⟩,k _ _ (.inr rfl) h.nm⟩
theorem RowV.same{H H':Hp}{u v:V}{l:Addr}(h:RowV H u v l)(s:Same H H'):RowV H' u v l:=by
 obtain⟨z,a,y,m,d,ns,e,F,O⟩:=h
 exact⟨z,a,y,m,d,ns,e,F,O.keep fun b o _ g=>s b o g⟩
theorem RowV.upd{H:Hp}{u v:V}{l D:Addr}{xs:List V}{o:HO}(h:RowV H u v l)(ne:l≠D)(hD:H D=some (.lst xs)):RowV (L2.upd H D o) u v l:=by
 obtain⟨z,a,y,m,d,ns,e,F,O⟩:=h
 refine⟨z,a,y,m,d,ns,e,F,O.keep fun b o' hb g=>?_⟩
 have:b≠D:=by
  rcases hb with ⟨ys,rfl⟩ | rfl
  ·exact ne_of g hD (by intro z;cases z)
  ·exact ne
 rw[upd_ne this]
 exact g
theorem Rws.same{H H':Hp}(s:Same H H'):∀{us vs:List V} {ls:List Addr},Rws H us vs ls→Rws H' us vs ls
 | _,_,_,.nil=>.nil
 | _,_,_,.cons h r=>.cons (h.same s) (Rws.same s r)
theorem Rws.upd{H:Hp}{D:Addr}{xs:List V}{o:HO}(hD:H D=some (.lst xs)):∀{us vs:List V} {ls:List Addr},Rws H us vs ls→(∀l∈ls,l≠D)→Rws (L2.upd H D o) us vs ls
 | _,_,_,.nil,_=>.nil
 | _,_,_,.cons h r,n=>.cons (h.upd (n _ List.mem_cons_self) hD) (Rws.upd hD r fun l hl=>n l (List.mem_cons_of_mem _ hl))
theorem Rws.snoc{H:Hp}{u v:V}{l:Addr}(h:RowV H u v l):∀{us vs:List V} {ls:List Addr},Rws H us vs ls→Rws H (us++[u]) (vs++[v]) (ls++[l])
 | _,_,_,.nil=>.cons h .nil
 | _,_,_,.cons g r=>.cons g (Rws.snoc h r)
theorem Rws.len{H:Hp}:∀{us vs:List V} {ls:List Addr},Rws H us vs ls→us.length=vs.length∧ls.length=vs.length
 | _,_,_,.nil=>⟨rfl,rfl⟩
 | _,_,_,.cons _ r=>by
  have:=Rws.len r
  simp only[List.length_cons]
  omega
theorem Rws.lists{H:Hp}{l:Addr}:∀{us vs:List V} {ls:List Addr},Rws H us vs ls→l∈ls→H l≠none
 | _,_,_,.nil,h=>nomatch h
 | _,_,_,.cons g r,h=>by
  rcases List.mem_cons.mp h with e | e
  ·obtain⟨_,_,_,_,_,_,_,_,O⟩:=g
   rw[e,O.nm]
   exact fun z=>nomatch z
  ·exact Rws.lists r e
def spReadAlmE(K:PySem.W.Frag)(cT:Addr):Sp:=fun vs H Q E=>∃(l:Addr) (ws:List V),vs=[.ref l]∧H l=some (.lst ws)∧ws.length≤1000∧(∀v∈ws,Hnd H v)∧
 ((∀v∈ws,isRow v)→∀(D:Addr) (us:List V) (ls:List Addr) H',Same H H'→H D=none→H' D=some (.lst us)→Rws H' us ws ls→ls.Nodup→(∀x∈ls,H x=none∧x≠D)→Q (.ref D) H')∧(¬(∀v∈ws,isRow v)→ENum cT H E)
structure PartT(w:List Nat):Prop where
 lo:2≤w.length
 hi:w.length≤60
 dg:∀c∈w,48≤c∧c≤57
 z0:w.head?=some 48→w.length=2∧w.getD 1 0≠48
theorem part_iff(w:List Nat):PartT w↔PlcT w:=by
 rw[plc_iff]
 constructor
 ·intro p
  have fg:Figs w:=⟨by have:=p.lo;omega,p.hi,p.dg⟩
  have ne:w≠[]:=fun z=>by have:=p.lo;rw[z] at this;simp at this
  by_cases h:w.head?=some 48
  ·obtain⟨l2,n1⟩:=p.z0 h
   obtain⟨a,d,rfl⟩:∃a d,w=[a,d]:=by
    match w,l2 with
    | [a,d],_=>exact⟨a,d,rfl⟩
   injection h with h
   subst h
   have dd:=p.dg d (by simp)
   have nd:d≠48:=n1
   have ev:PySem.NumText.digitsVal [48,d]=d-48:=val_lt10 dd
   refine⟨fg,by rw[ev];omega,?_⟩
   rw[ev]
   unfold twoT
   rw[if_pos (len_small.mpr (by omega))]
   have c1:=canon (cs:=[d]) (fun c hc=>by cases List.mem_singleton.mp hc;exact dd) (by simp) (fun z=>by injection z with z;rw[z])
   rw[val_lt10 dd] at c1
   rw[c1]
  ·have c:=canon p.dg ne fun z=>absurd z h
   have lo:=p.lo
   refine⟨fg,?_,?_⟩
   ·refine Nat.one_le_iff_ne_zero.mpr fun z=>?_
    rw[z] at c
    have e0:cpl (intT ((0:Nat):Int))=[48]:=by decide +kernel
    rw[e0] at c
    rw[←c] at lo
    simp at lo
   ·unfold twoT
    rw[if_neg (by rw[c];omega),c]
 ·rintro⟨fg,v1,e⟩
  have id:=int_digits (PySem.NumText.digitsVal w)
  unfold twoT at e
  by_cases s:(cpl (intT ((PySem.NumText.digitsVal w:Nat):Int))).length<2
  ·rw[if_pos s] at e
   obtain⟨d,hd⟩:∃d,cpl (intT ((PySem.NumText.digitsVal w:Nat):Int))=[d]:=by
    have ne':=id.2.1
    match hh:cpl (intT ((PySem.NumText.digitsVal w:Nat):Int)) with
    | []=>exact absurd hh ne'
    | [d]=>exact⟨d,rfl⟩
    | a::b::r=>rw[hh] at s;simp at s;omega
   have dd:48≤d∧d≤57:=id.1 d (by rw[hd];exact List.mem_singleton.mpr rfl)
   have vd:PySem.NumText.digitsVal [d]=PySem.NumText.digitsVal w:=by
    have:=id.2.2
    rw[hd] at this
    exact this
   rw[hd] at e
   have dg:=fg.dg
   have hi:=fg.hi
   rw[val_lt10 dd] at vd
   generalize PySem.NumText.digitsVal w=n at*
   subst e
   exact⟨by simp,by simp,dg,fun _=>⟨rfl,fun(z:d=48)=>by omega⟩⟩
  ·rw[if_neg s] at e
   have ne:w≠[]:=fun z=>by have:=fg.lo;rw[z] at this;simp at this
   have lo:2≤w.length:=by rw[←e] at s;omega
   exact⟨lo,fg.hi,fg.dg,fun z=>by
    have:=(canon_iff fg.dg ne).mp e.symm z
    rw[this] at lo
    simp at lo⟩
noncomputable def oPlc(w:List Nat):V:=by
 classical exact if PlcT w then .int (plcVal w) else .non
theorem oPlc_y{w:List Nat}(h:PlcT w):oPlc w=.int (plcVal w):=by unfold oPlc;rw[if_pos h]
theorem oPlc_n{w:List Nat}(h:¬PlcT w):oPlc w=.non:=by unfold oPlc;rw[if_neg h]
def spPart82:Sp:=fun vs H Q _=>∃z:Str,vs=[.str z]∧TOk z∧∀H',Same H H'→Q (oPlc (cpl z)) H'
def spNames82:Sp:=fun vs H Q _=>∃(l:Addr) (ws:List (List Nat)),vs=[.ref l]∧H l=some (.lst (wV ws))∧(∀w∈ws,TOk (txt w))∧ws.length≤1∧
 ((∀w∈ws,NmsT w)→∀(l':Addr) (ns:List (List Nat)) H',H l'=none→Same H H'→H' l'=some (.lst (wV ns))→ns=(ws.map fun w=>spl 44 w).flatten→Q (.ref l') H')∧(¬(∀w∈ws,NmsT w)→∀H',Same H H'→Q .non H')
def spDue82:Sp:=fun vs H Q _=>∃v:V,vs=[v]∧Hnd H v∧(∀z a y m d ns,v=.str z→RowF (cpl z) a y m d ns→∀(u:V) (l:Addr) H',Same H H'→H l=none→RowO H' u a y m d ns l→Q u H')∧(¬isRow v→∀H',Same H H'→Q .non H')
theorem oPlc_flat(w:List Nat):flatV (oPlc w)=true:=by
 by_cases h:PlcT w
 ·rw[oPlc_y h];rfl
 ·rw[oPlc_n h];rfl
theorem date_flat(y m d:List Nat):[oNum y,oPlc m,oPlc d].all flatV=true:=by
 show(flatV (oNum y)&&(flatV (oPlc m)&&(flatV (oPlc d)&&true)))=true
 rw[oNum_flat,oPlc_flat,oPlc_flat]
 rfl
theorem date_in(y m d:List Nat):inV .non [oNum y,oPlc m,oPlc d]=true↔¬(IsNum y∧PlcT m∧PlcT d):=by
 by_cases h1:IsNum y
 ·rw[oNum_y h1]
  by_cases h2:PlcT m
  ·rw[oPlc_y h2]
   by_cases h3:PlcT d
   ·rw[oPlc_y h3]
    exact⟨fun z=>absurd (show false=true from z) Bool.false_ne_true,fun z=>absurd ⟨h1,h2,h3⟩ z⟩
   ·rw[oPlc_n h3]
    exact⟨fun _ z=>h3 z.2.2,fun _=>rfl⟩
  ·rw[oPlc_n h2]
   exact⟨fun _ z=>h2 z.2.1,fun _=>rfl⟩
 ·rw[oNum_n h1]
  exact⟨fun _ z=>h1 z.1,fun _=>rfl⟩
theorem wds_filter(p:List Nat):((wV (spl 32 p)).filter fun v=>!decide (v=.str (Str.ofString ""))).map (fun v=>v)=wV (wdsOf p):=by
 rw[List.map_id']
 unfold wV wdsOf
 rw[List.filter_map,List.filter_map]
 congr 2
 refine List.filter_congr fun w _=>?_
 show(!decide (V.str (txt w)=V.str (Str.ofString "")))=decide (w≠[])
 have e0:Str.ofString ""=txt []:=eNo
 rw[e0]
 by_cases c:w=[]
 ·subst c
  rfl
 ·rw[decide_eq_false (fun z=>c (txt_inj (V.str.inj z))),decide_eq_true c]
  rfl
theorem row_cases{p a y m d:List Nat}{ns:List (List Nat)}(F:RowF p a y m d ns):∃b r,wdsOf p=a::b::r∧r.length≤1∧IsNum a∧DateT b y m d∧(∀w∈r,NmsT w)∧ns=(r.map fun w=>spl 44 w).flatten:=by
 cases F with
 | two h1 h2 h3=>exact⟨_,[],h1,by decide,h2,h3,(fun w h=>nomatch h),rfl⟩
 | three h1 h2 h3 h4=>exact⟨_,[_],h1,Nat.le_refl _,h2,h3,fun w h=>by rw[List.mem_singleton.mp h];exact h4,by simp⟩
theorem row_make{p a b y m d:List Nat}{r:List (List Nat)}(h:wdsOf p=a::b::r)(l:r.length≤1)(ha:IsNum a)(hd:DateT b y m d)(hr:∀w∈r,NmsT w):RowF p a y m d (r.map fun w=>spl 44 w).flatten:=by
 cases r with
 | nil=>exact .two h ha hd
 | cons c r=>
  obtain rfl:r=[]:=List.length_eq_zero_iff.mp (by rw[List.length_cons] at l;omega)
  have e:(([c]:List (List Nat)).map fun w=>spl 44 w).flatten=spl 44 c:=by simp
  rw[e]
  exact .three h ha hd (hr c (by simp))
theorem tw_mem{g:Nat→Bool}:∀{l:List Nat} {c:Nat},c∈l.takeWhile g→g c=true
 | [],c,h=>by simp at h
 | a::l,c,h=>by
  rw[List.takeWhile_cons] at h
  split at h
  ·rcases List.mem_cons.mp h with e | e
   ·rw[e];assumption
   ·exact tw_mem e
  ·cases h
theorem rst{L:List Nat}{g:Nat→Bool}(hg:∀c,g c=true→c=32):∃k,L=L.take (L.length-(L.reverse.takeWhile g).length)++List.replicate k 32:=by
 have hp:L.reverse.takeWhile g=L.reverse.take (L.reverse.takeWhile g).length:=(List.prefix_iff_eq_take.mp (List.takeWhile_prefix g))
 have hr:L.drop (L.length-(L.reverse.takeWhile g).length)=(L.reverse.takeWhile g).reverse:=by
  conv=>rhs;rw[hp,List.reverse_take,List.reverse_reverse,List.length_reverse]
 refine⟨(L.reverse.takeWhile g).length,?_⟩
 conv=>lhs;rw[←List.take_append_drop (L.length-(L.reverse.takeWhile g).length) L,hr]
 congr 1
 rw[List.eq_replicate_iff]
 exact⟨List.length_reverse,fun b hb=>hg b (tw_mem (List.mem_reverse.mp hb))⟩
theorem spl_app(c:Nat):∀p q:List Nat,spl c (p++c::q)=spl c p++spl c q
 | [],q=>by rw[List.nil_append,spl_at];rfl
 | a::p,q=>by
  have ih:=spl_app c p q
  by_cases h:a=c
  ·subst h
   rw[List.cons_append,spl_at,spl_at,ih]
   rfl
  ·rw[List.cons_append,spl_not _ h,spl_not _ h,ih,spl_eta c p]
   rfl
theorem wds_app(p q:List Nat):wdsOf (p++32::q)=wdsOf p++wdsOf q:=by
 unfold wdsOf
 rw[spl_app,List.filter_append]
theorem wds_nil:wdsOf []=[]:=rfl
theorem wds_lead(w:List Nat):∀k:Nat,wdsOf (List.replicate k 32++w)=wdsOf w
 | 0=>rfl
 | k+1=>by
  have e:List.replicate (k+1) 32++w=[]++32::(List.replicate k 32++w):=by rw[List.replicate_succ];rfl
  rw[e,wds_app,wds_nil,wds_lead w k]
  rfl
theorem wds_blank(k:Nat):wdsOf (List.replicate k 32)=[]:=by
 have:=wds_lead [] k
 rwa [List.append_nil] at this
theorem wds_trail(w:List Nat):∀k:Nat,wdsOf (w++List.replicate k 32)=wdsOf w
 | 0=>by rw[List.replicate_zero,List.append_nil]
 | k+1=>by rw[List.replicate_succ,wds_app,wds_blank,List.append_nil]
theorem wds_one{w:List Nat}(h:32∉w)(n:w≠[]):wdsOf w=[w]:=by
 unfold wdsOf
 rw[spl_one 32 w h]
 exact List.filter_eq_self.mpr fun x hx=>by rw[List.mem_singleton.mp hx];exact decide_eq_true n
theorem cpl_pad(z:Str)(l r:Nat):cpl (Builtin.Str.padded z l r 32)=List.replicate l 32++cpl z++List.replicate r 32:=by
 show(Array.replicate l 32++z.cps++Array.replicate r 32).toList=_
 simp[cpl]
def rstT(z:Str):Str:=if stripSame (Str.ofString " ").cps.contains false true z then z else stripped (Str.ofString " ").cps.contains false true z
theorem rst_cpl(z:Str):∃k,cpl z=cpl (rstT z)++List.replicate k 32:=by
 unfold rstT
 split
 ·exact⟨0,by simp⟩
 ·have g:∀c,(Str.ofString " ").cps.contains c=true→c=32:=fun c h=>by
   rw[e32] at h
   simpa using h
  obtain⟨k,hk⟩:=rst (L:=cpl z) (g:=(Str.ofString " ").cps.contains) g
  refine⟨k,hk.trans (congrArg (· ++List.replicate k 32) ?_)⟩
  unfold stripped
  show _=(Builtin.Str.strSub z 0 (stripHi (Str.ofString " ").cps.contains true z 0)).cps.toList
  rw[StrLaws.strSub_toList]
  show _=(cpl z).take (z.length-((cpl z).reverse.takeWhile (Str.ofString " ").cps.contains).length-0)
  rw[Nat.sub_zero,len_cpl]
theorem wds_rst(z:Str):wdsOf (cpl (rstT z))=wdsOf (cpl z):=by
 obtain⟨k,hk⟩:=rst_cpl z
 rw[hk,wds_trail]
def spWidest(K:PySem.W.Frag):Sp:=fun vs H Q _=>∃(l:Addr) (zs:List Str),vs=[.ref l]∧H l=some (.lst (zs.map V.str))∧zs.length≤400∧(∀z∈zs,TL 200 z)∧∀(m:Int) H',Same H H'→0≤m→m≤200→Q (.int m) H'
inductive Prs82(K:PySem.W.Frag)(CR:Addr)(CL:List Addr)(H:Hp):List V→List (List Nat×Int×Nat)→Prop
 | nil:Prs82 K CR CL H [] []
 | cons {p x:Addr} {w:List Nat} {n:Int} {b:Nat} {us:List V} {rs:List (List Nat×Int×Nat)}:H p=some (.tup [.str (txt w),.ref x])→RuleO K CR CL H x n b→Prs82 K CR CL H us rs→Prs82 K CR CL H (.ref p::us) ((w,n,b)::rs)
theorem Prs82.same{K:PySem.W.Frag}{CR:Addr}{CL:List Addr}{H H':Hp}(s:Same H H'):∀{us:List V} {rs:List (List Nat×Int×Nat)},Prs82 K CR CL H us rs→Prs82 K CR CL H' us rs
 | _,_,.nil=>.nil
 | _,_,.cons h r t=>.cons (s _ _ h) (r.same s) (Prs82.same s t)
theorem Prs82.len{K:PySem.W.Frag}{CR:Addr}{CL:List Addr}{H:Hp}:∀{us:List V} {rs:List (List Nat×Int×Nat)},Prs82 K CR CL H us rs→us.length=rs.length
 | _,_,.nil=>rfl
 | _,_,.cons _ _ t=>by rw[List.length_cons,List.length_cons,Prs82.len t]
theorem Prs82.at{K:PySem.W.Frag}{CR:Addr}{CL:List Addr}{H:Hp}:∀{us:List V} {rs:List (List Nat×Int×Nat)},Prs82 K CR CL H us rs→∀{i:Nat} {u:V},us[i]?=some u→∃(p x:Addr) (w:List Nat) (n:Int) (b:Nat),u=.ref p∧rs[i]?=some (w,n,b)∧H p=some (.tup [.str (txt w),.ref x])∧RuleO K CR CL H x n b
 | _,_,.nil,i,u,h=>by simp at h
 | _,_,.cons hp r t,0,u,h=>by
  injection h with h
  exact⟨_,_,_,_,_,h.symm,rfl,hp,r⟩
 | _,_,.cons _ _ t,i+1,u,h=>Prs82.at t (i:=i) h
def nmsOn(rs:List (List Nat×Int×Nat))(d:Int):List (List Nat):=(rs.filter fun r=>On r.2.1 r.2.2 d).map fun r=>r.1
def spNamesOn(K:PySem.W.Frag)(CR:Addr)(CL:List Addr):Sp:=fun vs H Q _=>∃(l:Addr) (us:List V) (rs:List (List Nat×Int×Nat)) (d:Int),vs=[.ref l,.int d]∧H l=some (.lst us)∧Prs82 K CR CL H us rs∧rs.length≤10∧(∀r∈rs,r.1.length≤8)∧∀H',Same H H'→Q (.str (txt (joinC 44 (nmsOn rs d)))) H'
theorem join_comma(ws:List (List Nat)):Txt.join (Str.ofString ",") (ws.map txt)=txt (joinC 44 ws):=by
 rw[e44]
 exact str_ext (by rw[join_cpl,List.map_map];exact congrArg (joinC 44) (List.map_id' ws))
theorem nmsOn_snoc(rs:List (List Nat×Int×Nat))(r:List Nat×Int×Nat)(d:Int):nmsOn (rs++[r]) d=nmsOn rs d++(if On r.2.1 r.2.2 d=true then [r.1] else []):=by
 unfold nmsOn
 rw[List.filter_append,List.map_append]
 congr 1
 rw[List.filter_cons]
 split<;>rfl
def spName82:Sp:=fun vs H Q _=>∃x:Int,vs=[.int x]∧∀(z:Str) (H':Hp),Same H H'→TL 8 z→Q (.str z) H'
def spRead82:Sp:=fun vs H Q _=>∃(l:Addr) (ws:List V),vs=[.ref l]∧H l=some (.lst ws)∧ws.length≤1000∧(∀v∈ws,Hnd H v)∧
 ((∀v∈ws,isRow v)→∀(D:Addr) (us:List V) (ls:List Addr) H',Same H H'→H D=none→H' D=some (.lst us)→Rws H' us ws ls→ls.Nodup→(∀x∈ls,H x=none∧x≠D)→Q (.ref D) H')∧(¬(∀v∈ws,isRow v)→∀H',Same H H'→Q .non H')
def spMixed82:Sp:=fun vs H Q _=>∃c k:Int,vs=[.int c,.int k]∧0≤k∧k≤100∧∀m:Int,0≤m→m≤2199023255551→Q (.int m) H
theorem wds_ne:∀{p:List Nat},(∃c∈p,c≠32)→wdsOf p≠[]
 | [],h=>by obtain⟨c,hc,_⟩:=h;cases hc
 | a::p,h=>by
  by_cases e:a=32
  ·have e1:wdsOf (a::p)=wdsOf p:=by
    rw[e]
    exact(wds_app [] p).trans rfl
   rw[e1]
   obtain⟨c,hc,n⟩:=h
   rcases List.mem_cons.mp hc with z | z
   ·exact absurd (z.trans e) n
   ·exact wds_ne ⟨c,z,n⟩
  ·unfold wdsOf
   rw[spl_not p e,List.filter_cons]
   rw[if_pos (decide_eq_true (List.cons_ne_nil _ _))]
   exact List.cons_ne_nil _ _
structure RowX(k:Nat)(z:Str):Prop where
 tl:TL k z
 ne:∃c∈cpl z,c≠32
def spRow82:Sp:=fun vs H Q _=>∃x:Int,vs=[.int x]∧Bt 1048600 x∧∀(z:Str) (H':Hp),Same H H'→RowX 100000 z→Q (.str z) H'
def spChanged82:Sp:=fun vs H Q _=>∃(z:Str) (x:Int),vs=[.str z,.int x]∧RowX 100000 z∧∀(v:V) (H':Hp),Same H H'→Hnd H' v→Q v H'
theorem zf_two{i:Int}(h0:0≤i)(h1:i<1000000){H:Hp}{Q:VK}(q:∀z,TL 61 z→Q (.str z) H):∃(z:Str) (k:Int),V.str (intT i)=.str z∧[V.int 2]=[.int k]∧0≤k∧k≤1000∧(¬k≤(z.length:Int)→(zfilled z (k.toNat-z.length)).length≤sizeLine)∧Q (.str (if k≤(z.length:Int) then z else zfilled z (k.toNat-z.length))) H:=by
 obtain⟨n,rfl⟩:∃n:Nat,i=(n:Int):=⟨i.toNat,by omega⟩
 have hn:n<10^60:=Nat.lt_of_lt_of_le (show n<1000000 by omega) (by decide)
 have tl:TL 1921 (intT (n:Int)):=TL.int (log60 hn)
 have dl:=dT_len hn
 have id:=int_digits n
 have zl:=len_cpl (intT (n:Int))
 by_cases s2:(2:Int)≤((intT (n:Int)).length:Int)
 ·refine⟨_,2,rfl,rfl,by decide,by decide,fun z=>absurd s2 z,?_⟩
  rw[if_pos s2]
  exact q _ ⟨tl.asc,by omega⟩
 ·obtain⟨d,hd⟩:∃d,cpl (intT (n:Int))=[d]:=by
   match hh:cpl (intT (n:Int)) with
   | []=>exact absurd hh id.2.1
   | [d]=>exact⟨d,rfl⟩
   | a::b::r=>rw[hh] at zl;simp at zl;omega
  have dd:=id.1 d (by rw[hd];exact List.mem_singleton.mpr rfl)
  have ei:intT (n:Int)=⟨#[d]⟩:=str_ext (by rw[hd];rfl)
  have zf:=zfill_one d dd.1 dd.2
  have zfl:(zfilled ⟨#[d]⟩ 1).length=2:=by rw[←len_cpl,zf];rfl
  rw[ei]
  have s2':¬(2:Int)≤(((⟨#[d]⟩:Str).length:Nat):Int):=by show ¬(2:Int)≤((1:Nat):Int);decide
  refine⟨_,2,rfl,rfl,by decide,by decide,fun _=>by show(zfilled ⟨#[d]⟩ 1).length≤sizeLine;rw[zfl];decide,?_⟩
  rw[if_neg s2']
  refine q (zfilled ⟨#[d]⟩ 1) ⟨asc_iff.mpr fun c hc=>?_,by rw[zfl];decide⟩
  rw[zf] at hc
  rcases List.mem_cons.mp hc with e | e
  ·rw[e];decide
  ·cases List.mem_singleton.mp e
   omega
theorem zf_tell{i:Int}(h0:0≤i)(h1:i<1000000):∃y:Str,TL 61 y∧(¬(2:Int)≤((intT i).length:Int)→(zfilled (intT i) ((2:Int).toNat-(intT i).length)).length≤sizeLine)∧(if (2:Int)≤((intT i).length:Int) then intT i else zfilled (intT i) ((2:Int).toNat-(intT i).length))=y:=by
 obtain⟨z,k,e1,e2,_,_,hf,y,ey,ty⟩:=zf_two h0 h1 (H:=fun _=>none) (Q:=fun v _=>∃y,v=.str y∧TL 61 y) (fun z t=>⟨z,rfl,t⟩)
 cases e1
 cases e2
 exact⟨y,ty,hf,V.str.inj ey⟩
theorem Rws.at{H:Hp}:∀{us vs:List V} {ls:List Addr},Rws H us vs ls→∀{i:Nat} {u:V},us[i]?=some u→∃v l,RowV H u v l∧vs[i]?=some v∧ls[i]?=some l
 | _,_,_,.nil,i,u,h=>by simp at h
 | _,_,_,.cons g r,0,u,h=>by
  injection h with h
  subst h
  exact⟨_,_,g,rfl,rfl⟩
 | _,_,_,.cons _ r,i+1,u,h=>Rws.at r (i:=i) h
theorem kitLL(K:PySem.W.Frag):PySem.W.kitOne K (.type "list") (.type "list")=some true:=by unfold PySem.W.kitOne;rw[if_pos (by simp)]
theorem kitTT(K:PySem.W.Frag):PySem.W.kitOne K (.type "tuple") (.type "tuple")=some true:=by unfold PySem.W.kitOne;rw[if_pos (by simp)]
def spKinds82(K:PySem.W.Frag):Sp:=fun vs H Q _=>∃(D:Addr) (us ws:List V) (ls:List Addr),vs=[.ref D]∧H D=some (.lst us)∧us.length≤1000∧Rws H us ws ls∧(∀z:Str,V.str z∈ws→TOk z)∧∀H',Same H H'→Q (.bl true) H'
theorem row_few{z:Str}{a y m d:List Nat}{ns:List (List Nat)}(F:RowF (cpl z) a y m d ns)(hz:TOk z):ns.length<sizeLine:=by
 cases F with
 | two=>show 0<sizeLine;decide
 | three h=>
  rename_i c _ _ _
  have hc:=wds_mem (p:=cpl z) (w:=c) (by rw[h];simp)
  have t:=hz.part hc (spl_mem 32 _ c hc)
  have l:=splS_len 44 (⟨c.toArray⟩:Str)
  unfold splS at l
  rw[List.length_map] at l
  have:=t.len
  have e:spl 44 c=spl 44 (cps (⟨c.toArray⟩:Str)):=rfl
  rw[e,sizeLine_eq]
  omega
theorem num_no32{i:Int}(h:Sm i):32∉numT i∧numT i≠[]:=by
 refine⟨fun z=>?_,fun z=>?_⟩
 ·have:=num_ch h 32 z
  omega
 ·have:=(num_ok h).1.lo
  rw[z] at this
  exact absurd this (by decide)
theorem two_no32{n:Nat}(h1:1≤n)(h:n<10^60):32∉twoT n:=fun z=>by
 have:=((plc_iff _).mp (two_plc h1 h).1).1.dg 32 z
 omega
def dtT(y:Int)(m r:Nat):List Nat:=numT y++47::(twoT m++47::twoT r)
theorem alm_row{z:Str}{k y:Int}{m r i j:Nat}{ns:List (List Nat)}(hk:Sm k)(hy:Sm y)(m1:1≤m)(hm:m<10^60)(r1:1≤r)(hr:r<10^60)(hn:∀w∈ns,IsNm w)
 (e:cpl z=(List.replicate i 32++numT k)++32::((dtT y m r++List.replicate j 32)++32::joinC 44 ns)):RowF (cpl (rstT z)) (numT k) (numT y) (twoT m) (twoT r) ns:=by
 have nk:=num_no32 hk
 have ny:=num_no32 hy
 have n1:=two_no32 m1 hm
 have n2:=two_no32 r1 hr
 have d32:32∉dtT y m r:=by
  unfold dtT
  simp only[List.mem_append,List.mem_cons,not_or]
  exact⟨ny.1,by decide,n1,by decide,n2⟩
 have dne:dtT y m r≠[]:=by
  unfold dtT
  simp
 have w:wdsOf (cpl (rstT z))=numT k::dtT y m r::wdsOf (joinC 44 ns):=by
  rw[wds_rst,e,wds_app,wds_lead,wds_one nk.1 nk.2,wds_app,wds_trail,wds_one d32 dne]
  rfl
 have D:DateT (dtT y m r) (numT y) (twoT m) (twoT r):=date_t hy m1 hm r1 hr
 cases ns with
 | nil=>exact .two w (num_ok hk).1 D
 | cons a rest=>
  have let44:∀w∈a::rest,44∉w:=fun w hw z=>by have:=(hn w hw).ch 44 z;omega
  have sj:=spl_joinC 44 a rest let44
  have j32:32∉joinC 44 (a::rest):=fun z=>by
   obtain⟨w,hw,e⟩:∃w∈a::rest,32∈w:=by
    rcases List.mem_append.mp z with h | h
    ·exact⟨a,List.mem_cons_self,h⟩
    ·obtain⟨w,hw,h2⟩:=List.mem_flatten.mp h
     obtain⟨v,hv,rfl⟩:=List.mem_map.mp hw
     rcases List.mem_cons.mp h2 with e | e
     ·exact absurd e (by decide)
     ·exact⟨v,List.mem_cons_of_mem _ hv,e⟩
   have:=(hn w hw).ch 32 e
   omega
  have jne:joinC 44 (a::rest)≠[]:=by
   have:=(hn a List.mem_cons_self).lo
   cases a with
   | nil=>exact absurd this (by decide)
   | cons b l=>exact fun z=>nomatch z
  rw[wds_one j32 jne] at w
  have N:NmsT (joinC 44 (a::rest)):=by
   unfold NmsT
   rw[sj]
   exact hn
  have F:=RowF.three w (num_ok hk).1 D N
  rwa [sj] at F
theorem num_tl{i:Int}(h:Sm i):TL 61 (intT i):=by
 have ch:=num_ch h
 have hi:=(num_ok h).1.hi
 refine⟨asc_iff.mpr fun c hc=>by have:=ch c hc;omega,?_⟩
 rw[←len_cpl]
 show(numT i).length≤61
 unfold figs at hi
 split at hi
 ·rw[List.length_drop] at hi
  omega
 ·omega
theorem two_ok{n:Nat}(h1:1≤n)(h:n<10^60):(twoT n).length≤60∧∀c∈twoT n,48≤c∧c≤57:=
 have F:=((plc_iff _).mp (two_plc h1 h).1).1
 ⟨F.hi,F.dg⟩
structure DtR(c:CalD)(k:Int)(z:Str):Prop where
 ex:∃(y:Int) (m r:Nat),IsD c y m r∧DayOf c y m r=k∧Sm y∧m<10^60∧r<10^60∧cpl z=dtT y m r
theorem DtR.tl{c:CalD}{k:Int}{z:Str}(h:DtR c k z):TL 200 z:=by
 obtain⟨y,m,r,I,_,hy,hm,hr,e⟩:=h.ex
 have m0:=I.m0
 have r0:=I.r0
 have ty:=num_tl hy
 have tm:=two_ok (n:=m) (by omega) hm
 have tr:=two_ok (n:=r) (by omega) hr
 have yl:=ty.len
 rw[←len_cpl] at yl
 refine⟨asc_iff.mpr fun a ha=>?_,?_⟩
 ·have ha:a∈cpl z:=ha
  rw[e] at ha
  unfold dtT at ha
  simp only[List.mem_append,List.mem_cons] at ha
  rcases ha with h | h | h | h | h
  ·exact asc_iff.mp ty.asc a h
  ·omega
  ·have:=tm.2 a h
   omega
  ·omega
  ·have:=tr.2 a h
   omega
 ·rw[←len_cpl,e]
  unfold dtT numT
  simp only[List.length_append,List.length_cons]
  omega
theorem pad_l(z:Str){w:Int}(h:w≤1000):∃i:Nat,i≤1000∧cpl (if w≤(z.length:Int) then z else Builtin.Str.padded z (w.toNat-z.length) 0 32)=List.replicate i 32++cpl z:=by
 split
 ·exact⟨0,by decide,rfl⟩
 ·refine⟨w.toNat-z.length,by omega,?_⟩
  rw[cpl_pad,List.replicate_zero,List.append_nil]
theorem pad_r(z:Str){w:Int}(h:w≤1000):∃i:Nat,i≤1000∧cpl (if w≤(z.length:Int) then z else Builtin.Str.padded z 0 (w.toNat-z.length) 32)=cpl z++List.replicate i 32:=by
 split
 ·exact⟨0,by decide,by rw[List.replicate_zero,List.append_nil]⟩
 ·refine⟨w.toNat-z.length,by omega,?_⟩
  rw[cpl_pad,List.replicate_zero,List.nil_append]
theorem tl_pad{k i j:Nat}{z y:Str}(h:TL k z)(hi:i≤1000)(hj:j≤1000)(e:cpl y=List.replicate i 32++cpl z++List.replicate j 32):TL (k+2000) y:=by
 refine⟨asc_iff.mpr fun c hc=>?_,?_⟩
 ·have hc:c∈cpl y:=hc
  rw[e] at hc
  simp only[List.mem_append,List.mem_replicate] at hc
  rcases hc with (h1 | h1) | h1
  ·omega
  ·exact asc_iff.mp h.asc c h1
  ·omega
 ·have:=h.len
  rw[←len_cpl] at this
  rw[←len_cpl,e]
  simp only[List.length_append,List.length_replicate]
  omega
theorem TL.rst{k:Nat}{z:Str}(h:TL k z):TL k (rstT z):=by
 obtain⟨j,e⟩:=rst_cpl z
 refine⟨asc_iff.mpr fun c hc=>asc_iff.mp h.asc c ?_,?_⟩
 ·show c∈cpl z
  rw[e]
  exact List.mem_append.mpr (.inl hc)
 ·have:=h.len
  rw[←len_cpl,e,List.length_append] at this
  rw[←len_cpl]
  omega
theorem nms_tl{rs:List (List Nat×Int×Nat)}(few:rs.length≤10)(nms:∀r∈rs,IsNm r.1)(d:Int):TL 200 (txt (joinC 44 (nmsOn rs d)))∧∀w∈nmsOn rs d,IsNm w:=by
 have nl:(nmsOn rs d).length≤10:=by unfold nmsOn;rw[List.length_map];exact Nat.le_trans (List.length_filter_le _ _) few
 have ns:∀w∈nmsOn rs d,IsNm w:=fun w hw=>by
  unfold nmsOn at hw
  obtain⟨r,hr',rfl⟩:=List.mem_map.mp hw
  exact nms r (List.mem_filter.mp hr').1
 refine⟨?_,ns⟩
 have W:WL (10*9) ((nmsOn rs d).map txt):=by
  refine⟨fun z hz=>?_,?_⟩
  ·obtain⟨w,hw,rfl⟩:=List.mem_map.mp hz
   exact asc_iff.mpr fun c hc=>by have:=(ns w hw).ch c hc;omega
  ·have:=sum_lens (k:=8) (zs:=(nmsOn rs d).map txt) fun z hz=>by
    obtain⟨w,hw,rfl⟩:=List.mem_map.mp hz
    rw[txt_len]
    exact(ns w hw).hi
   rw[List.length_map] at this
   have e:∀zs:List Str,wt zs=(zs.map (·.length)).sum+zs.length:=fun zs=>by
    induction zs with
    | nil=>rfl
    | cons z zs ih=>rw[wt_cons,ih];simp only[List.map_cons,List.sum_cons,List.length_cons];omega
   rw[e,List.length_map]
   omega
 have J:=W.join (c:=44) (by decide)
 have ej:Txt.join ⟨#[44]⟩ ((nmsOn rs d).map txt)=txt (joinC 44 (nmsOn rs d)):=by
  rw[←e44]
  exact join_comma _
 rw[ej] at J
 exact J.mono (by decide)
structure AlmR(c:CalD)(rs:List (List Nat×Int×Nat))(k:Int)(z:Str):Prop where
 ok:TOk z
 ex:∃(y:Int) (m r:Nat),IsD c y m r∧DayOf c y m r=k∧Sm y∧m<10^60∧r<10^60∧RowF (cpl z) (numT k) (numT y) (twoT m) (twoT r) (nmsOn rs k)
def spAlm(K:PySem.W.Frag)(cN CS CM CR:Addr)(CL:List Addr):Sp:=fun vs H Q E=>∃(x l:Addr) (us:List V) (rs:List (List Nat×Int×Nat)) (c:CalD) (d n:Int),vs=[.ref x,.ref l,.int d,.int n]∧isSun c=true∧CalO K CS CS CM H x c∧H l=some (.lst us)∧Prs82 K CR CL H us rs∧rs.length≤10∧(∀r∈rs,IsNm r.1)∧d.natAbs≤10^41∧
 (∀y m r,n≤400→IsD c y m r→d≤DayOf c y m r→DayOf c y m r<d+n→Sm y)∧
 (0≤n→n≤400→∀(D:Addr) (zs:List Str) H',Same H H'→H D=none→H' D=some (.lst (zs.map V.str))→(zs.length:Int)=n→(∀(i:Nat) z,zs[i]?=some z→AlmR c rs (d+i) z)→Q (.ref D) H')∧(¬(0≤n∧n≤400)→ENum cN H E)
def spRefused82:Sp:=fun vs H Q _=>∃n:Int,vs=[.int n]∧∀H',Same H H'→Q (.bl (!decide (0≤n∧n≤400))) H'
def spAgain82:Sp:=fun vs H Q _=>∃x:Int,vs=[.int x]∧∀H',Same H H'→Q (.bl true) H'
theorem RowO.eqv{K:PySem.W.Frag}{H:Hp}{u u':V}{a y m d:List Nat}{ns:List (List Nat)}{l l':Addr}(O:RowO H u a y m d ns l)(O':RowO H u' a y m d ns l'):EqV K H 8 u u':=by
 obtain⟨p,q,rfl,hp,hq⟩:=O.ex
 obtain⟨p',q',rfl,hp',hq'⟩:=O'.ex
 refine .tup (n:=7) (SqT.of hp) (SqT.of hp') rfl fun i x z hx hz=>?_
 match i,hx,hz with
 | 0,hx,hz=>cases hx;cases hz;exact .same rfl
 | 1,hx,hz=>
  cases hx
  cases hz
  refine .tup (n:=6) (SqT.of hq) (SqT.of hq') rfl fun i x z hx hz=>?_
  rw[hx] at hz
  cases hz
  match i,hx with
  | 0,hx=>cases hx;exact .same rfl
  | 1,hx=>cases hx;exact .same rfl
  | 2,hx=>cases hx;exact .same rfl
  | i+3,hx=>simp at hx
 | 2,hx,hz=>
  cases hx
  cases hz
  refine .lst (n:=6) (SqL.of O.nm) (SqL.of O'.nm) rfl fun i x z hx hz=>?_
  rw[hx] at hz
  cases hz
  obtain⟨w,_,rfl⟩:=List.mem_map.mp (List.mem_of_getElem? hx)
  exact .same rfl
 | i+3,hx,hz=>simp at hx
theorem rowF_uniq{p a y m d a' y' m' d':List Nat}{ns ns':List (List Nat)}(F:RowF p a y m d ns)(F':RowF p a' y' m' d' ns'):a=a'∧y=y'∧m=m'∧d=d'∧ns=ns':=by
 obtain⟨b,r,e,_,_,D,_,hn⟩:=row_cases F
 obtain⟨b',r',e',_,_,D',_,hn'⟩:=row_cases F'
 rw[e] at e'
 cases e'
 have c:=D.cut
 rw[D'.cut] at c
 cases c
 exact⟨rfl,rfl,rfl,rfl,hn.trans hn'.symm⟩
theorem RowV.eqv{K:PySem.W.Frag}{H:Hp}{u u' v:V}{l l':Addr}(h:RowV H u v l)(h':RowV H u' v l'):EqV K H 8 u u':=by
 obtain⟨z,a,y,m,d,ns,e,F,O⟩:=h
 obtain⟨z',a',y',m',d',ns',e',F',O'⟩:=h'
 rw[e] at e'
 cases e'
 obtain⟨rfl,rfl,rfl,rfl,rfl⟩:=rowF_uniq F F'
 exact O.eqv O'
theorem Rws.eqv{K:PySem.W.Frag}{H:Hp}{us us' vs:List V}{ls ls':List Addr}(h:Rws H us vs ls)(h':Rws H us' vs ls'):us.length=us'.length∧∀(i:Nat) x y,us[i]?=some x→us'[i]?=some y→EqV K H 8 x y:=by
 refine⟨by rw[h.len.1,h'.len.1],fun i x y hx hy=>?_⟩
 obtain⟨v,l,R,e,_⟩:=h.at hx
 obtain⟨v',l',R',e',_⟩:=h'.at hy
 rw[e] at e'
 cases e'
 exact R.eqv R'
inductive Dues(P:Addr→Prop)(H:Hp):List V→List V→Prop
 | nil:Dues P H [] []
 | row {u v:V} {l:Addr} {us vs:List V}:RowV H u v l→P l→Dues P H us vs→Dues P H (u::us) (v::vs)
 | non {v:V} {us vs:List V}:¬isRow v→Dues P H us vs→Dues P H (.non::us) (v::vs)
theorem Dues.same{P:Addr→Prop}{H H':Hp}(s:Same H H'):∀{us vs:List V},Dues P H us vs→Dues P H' us vs
 | _,_,.nil=>.nil
 | _,_,.row h p r=>.row (h.same s) p (Dues.same s r)
 | _,_,.non n r=>.non n (Dues.same s r)
theorem Dues.upd{P:Addr→Prop}{H:Hp}{D:Addr}{xs:List V}{o:HO}(hD:H D=some (.lst xs))(hP:∀l,P l→l≠D):∀{us vs:List V},Dues P H us vs→Dues P (L2.upd H D o) us vs
 | _,_,.nil=>.nil
 | _,_,.row h p r=>.row (h.upd (hP _ p) hD) p (Dues.upd hD hP r)
 | _,_,.non n r=>.non n (Dues.upd hD hP r)
theorem Dues.app{P:Addr→Prop}{H:Hp}{us' vs':List V}(t:Dues P H us' vs'):∀{us vs:List V},Dues P H us vs→Dues P H (us++us') (vs++vs')
 | _,_,.nil=>t
 | _,_,.row h p r=>.row h p (Dues.app t r)
 | _,_,.non n r=>.non n (Dues.app t r)
theorem Dues.len{P:Addr→Prop}{H:Hp}:∀{us vs:List V},Dues P H us vs→us.length=vs.length
 | _,_,.nil=>rfl
 | _,_,.row _ _ r=>by rw[List.length_cons,List.length_cons,Dues.len r]
 | _,_,.non _ r=>by rw[List.length_cons,List.length_cons,Dues.len r]
theorem Dues.rws{P:Addr→Prop}{H:Hp}:∀{us vs:List V},Dues P H us vs→(∀v∈vs,isRow v)→∃ls,Rws H us vs ls∧∀l∈ls,P l
 | _,_,.nil,_=>⟨[],.nil,fun l h=>nomatch h⟩
 | _,_,.row h p r,a=>by
  obtain⟨ls,R,q⟩:=Dues.rws r fun v hv=>a v (List.mem_cons_of_mem _ hv)
  exact⟨_::ls,.cons h R,fun l hl=>by
   rcases List.mem_cons.mp hl with e | e
   ·rw[e];exact p
   ·exact q l e⟩
 | _,_,.non n r,a=>absurd (a _ List.mem_cons_self) n
theorem Dues.kind{P:Addr→Prop}{H:Hp}{K:PySem.W.Frag}:∀{us vs:List V},Dues P H us vs→∀u∈us,u=.non∨∃a ys,u=.ref a∧SqT K H a ys
 | _,_,.nil,u,h=>nomatch h
 | _,_,.row h p r,u,hu=>by
  rcases List.mem_cons.mp hu with e | e
  ·obtain⟨z,a,y,m,d,ns,_,_,O⟩:=h
   obtain⟨p',q',eu,hp,_⟩:=O.ex
   exact .inr ⟨p',_,e.trans eu,SqT.of hp⟩
  ·exact Dues.kind r u e
 | _,_,.non n r,u,hu=>by
  rcases List.mem_cons.mp hu with e | e
  ·exact .inl e
  ·exact Dues.kind r u e
theorem Dues.any{P:Addr→Prop}{H:Hp}:∀{us vs:List V},Dues P H us vs→(us.any isNonW=true↔¬∀v∈vs,isRow v)
 | _,_,.nil=>⟨fun z=>(nomatch z),fun z=>absurd (fun v h=>nomatch h) z⟩
 | _,_,.row (u:=u) (v:=v) h p r=>by
  have ih:=Dues.any r
  obtain⟨z,a,y,m,d,ns,ez,F,O⟩:=h
  obtain⟨p',q',eu,hp,_⟩:=O.ex
  have hr:isRow v:=⟨z,a,y,m,d,ns,ez,F⟩
  rw[List.any_cons,eu,show isNonW (.ref p')=false from rfl,Bool.false_or,ih]
  refine not_congr ⟨fun a' v' hv=>?_,fun a' v' hv=>a' v' (List.mem_cons_of_mem _ hv)⟩
  rcases List.mem_cons.mp hv with e | e
  ·rw[e];exact hr
  ·exact a' v' e
 | _,_,.non n r=>by
  rw[List.any_cons]
  exact⟨fun _ a=>n (a _ List.mem_cons_self),fun _=>rfl⟩
theorem Hnd.set{H:Hp}{v:V}{l:Addr}{ys xs:List V}(h:Hnd H v)(hl:H l=some (.lst ys)):Hnd (L2.upd H l (.lst xs)) v:=by
 cases h with
 | txt z hz=>exact .txt z hz
 | non=>exact .non
 | int i=>exact .int i
 | tup a zs e=>exact .tup a zs (by rw[upd_ne (ne_of e hl (by intro z;cases z))];exact e)
 | lst a zs e=>
  by_cases c:a=l
  ·subst c
   exact .lst _ _ upd_same
  ·exact .lst a zs (by rw[upd_ne c];exact e)
theorem Hnd.plain{H:Hp}{v:V}(h:Hnd H v):plainV v=true:=by
 cases h<;>rfl
theorem hnd_plain{H:Hp}{vs:List V}(h:∀v∈vs,Hnd H v):vs.all plainV=true:=by
 rw[List.all_eq_true]
 exact fun v hv=>(h v hv).plain
theorem row_tok{H:Hp}{v:V}(h:Hnd H v)(r:isRow v):∃z,v=.str z∧TOk z:=by
 obtain⟨z,_,_,_,_,_,rfl,_⟩:=r
 cases h with
 | txt _ hz=>exact⟨z,rfl,hz⟩
theorem Dues.head{P:Addr→Prop}{H:Hp}{du vs:List V}(h:Dues P H du vs):vs=[]∨(∃u v l du' vs',du=u::du'∧vs=v::vs'∧RowV H u v l)∨∃v du' vs',du=.non::du'∧vs=v::vs'∧¬isRow v:=by
 cases h with
 | nil=>exact .inl rfl
 | row r _ _=>exact .inr (.inl ⟨_,_,_,_,_,rfl,rfl,r⟩)
 | non n _=>exact .inr (.inr ⟨_,_,_,rfl,rfl,n⟩)
theorem Rws.head{H:Hp}{u:V}{us vs:List V}{ls:List Addr}(h:Rws H (u::us) vs ls):∃v l vs' ls',vs=v::vs'∧ls=l::ls'∧RowV H u v l∧Rws H us vs' ls':=by
 cases h with
 | cons r t=>exact⟨_,_,_,_,rfl,rfl,r,t⟩
theorem Rws.headv{H:Hp}{v:V}{us vs:List V}{ls:List Addr}(h:Rws H us (v::vs) ls):∃u l us' ls',us=u::us'∧ls=l::ls'∧RowV H u v l∧Rws H us' vs ls':=by
 cases h with
 | cons r t=>exact⟨_,_,_,_,rfl,rfl,r,t⟩
theorem RowV.row{H:Hp}{u v:V}{l:Addr}(h:RowV H u v l):isRow v:=by
 obtain⟨z,a,y,m,d,ns,e,F,_⟩:=h
 exact⟨z,a,y,m,d,ns,e,F⟩
theorem RowV.ref{H:Hp}{u v:V}{l:Addr}(h:RowV H u v l):∃p:Addr,u=.ref p:=by
 obtain⟨z,a,y,m,d,ns,e,F,O⟩:=h
 obtain⟨p,_,e,_⟩:=O.ex
 exact⟨p,e⟩
theorem cut_one(xs:List V):cutV xs (some 1) none=xs.drop 1:=by
 unfold cutV
 have e0:HT.sIx xs.length xs.length none=xs.length:=rfl
 have e1:HT.sIx xs.length 0 (some 1)=min 1 xs.length:=by
  show HT.sIx xs.length 0 (some ((1:Nat):Int))=_
  unfold HT.sIx
  simp
 rw[e0,e1]
 cases xs with
 | nil=>rfl
 | cons x xs=>simp
structure Errs(K:PySem.W.Frag)(mg:Str→Option Value)(c_FeastError c_NoNumber c_TooLong c_NoMeasure c_NoText c_Measure c_Calendar c_Sun c_Rule c_Each:Addr):Prop where
 m_FeastError:mg "FeastError"=some (.ref c_FeastError)
 m_NoNumber:mg "NoNumber"=some (.ref c_NoNumber)
 h_NoNumber:HCls K mg "NoNumber" c_NoNumber
 m_NoText:mg "NoText"=some (.ref c_NoText)
 h_NoText:HCls K mg "NoText" c_NoText
 x_NoText:XCls K mg "NoText" c_NoText
 g_NoText:XGet K c_NoText
 i_NoText_FeastError:PySem.W.kitOne K (.ref c_NoText) (.ref c_FeastError)=some true
 i_NoText_NoNumber:PySem.W.kitOne K (.ref c_NoText) (.ref c_NoNumber)=some false
 r_NoText_NoText:PySem.W.mroIn K c_NoText (.ref c_NoText)=some true
 x_NoNumber:XCls K mg "NoNumber" c_NoNumber
 g_NoNumber:XGet K c_NoNumber
 i_NoNumber_FeastError:PySem.W.kitOne K (.ref c_NoNumber) (.ref c_FeastError)=some true
 r_NoNumber_NoNumber:PySem.W.mroIn K c_NoNumber (.ref c_NoNumber)=some true
 i_NoNumber_NoText:PySem.W.kitOne K (.ref c_NoNumber) (.ref c_NoText)=some false
 cl_Each:Cls K c_Each
 rc_Each:RC K c_Rule c_Each
 cl_Measure:Cls K c_Measure
 na_Measure_base:NoAttr K c_Measure "base"
 na_Measure_terms:NoAttr K c_Measure "terms"
 na_Measure_full_count:NoAttr K c_Measure "full_count"
 na_Measure_full_sum:NoAttr K c_Measure "full_sum"
 cl_Sun:Cls K c_Sun
 na_Sun_start:NoAttr K c_Sun "start"
 na_Sun_months:NoAttr K c_Sun "months"
 na_Sun_leap:NoAttr K c_Sun "leap"
 na_Sun_years:NoAttr K c_Sun "years"
section
variable{P:Program}{w:World}{K:PySem.W.Frag}{mg:Str→Option Value}{base:Heap}
variable{c_FeastError c_NoNumber c_TooLong c_NoMeasure c_NoText c_Measure c_Calendar c_Sun c_Rule c_Each:Addr}
theorem sc_refuse_below_one:FnScope ["number"] ["number"] (defScope s_refuse_below_one):=⟨rfl,rfl,rfl,by decide +kernel,rfl,by decide +kernel,by decide +kernel⟩
theorem ok_refuse_below_one{f:Addr}{fd:FuncData}(F:Fun K "refuse_below_one" "refuse_below_one" s_refuse_below_one f fd):FnOk P w K mg base CX0 1 f fd ["number"] spRefuse:=by
 refine F.ok (k:=0) sc_refuse_below_one (fun vs H Q E h=>?_) (fun cdv A outer s H vs Q E hr h=>?_)
 ·obtain⟨n,rfl,_⟩:=h
  rfl
 obtain⟨n,rfl,hn,q⟩:=h
 refine⟨_,(pss_one (ps_if (pt_cmpR op_lt (pv 0) pe_int (nomark _))
  (pss_one ps_never)
  pss_nil)),?_⟩
 walk_at "rd"
 refine iteN (by omega) ?_
 walk_at "rd"
 exact q
theorem sc_refuse_too_long:FnScope ["size"] ["size"] (defScope s_refuse_too_long):=⟨rfl,rfl,rfl,by decide +kernel,rfl,by decide +kernel,by decide +kernel⟩
theorem ok_refuse_too_long{f:Addr}{fd:FuncData}(F:Fun K "refuse_too_long" "refuse_too_long" s_refuse_too_long f fd){tk_LONGEST:Tok}(m_LONGEST:mg "LONGEST"=some (.int 150000 tk_LONGEST)):FnOk P w K mg base CX0 1 f fd ["size"] spTooLong:=by
 refine F.ok (k:=0) sc_refuse_too_long (fun vs H Q E h=>?_) (fun cdv A outer s H vs Q E hr h=>?_)
 ·obtain⟨n,rfl,_⟩:=h
  rfl
 obtain⟨n,rfl,hn,q⟩:=h
 refine⟨_,(pss_one (ps_if (pt_cmpR op_gt (pv 0) (pe_glob rfl m_LONGEST (rel_int _ _)) (nomark _))
  (pss_one ps_never)
  pss_nil)),?_⟩
 walk_at "rd"
 refine iteN (by omega) ?_
 walk_at "rd"
 exact q
theorem sc_round_by:FnScope ["size","days","pieces","day","bits","number","place"] ["size","days"] (defScope s_round_by):=⟨rfl,rfl,rfl,by decide +kernel,rfl,by decide +kernel,by decide +kernel⟩
theorem ok_round_by{f:Addr}{fd:FuncData}(F:Fun K "round_by" "round_by" s_round_by f fd)(c_refuse_below_one:Cal P w K mg base 1 "refuse_below_one" ["number"] spRefuse)(c_refuse_too_long:Cal P w K mg base 1 "refuse_too_long" ["size"] spTooLong)(z_range:mg "range"=none)(z_len:mg "len"=none){tk_PIECE:Tok}(m_PIECE:mg "PIECE"=some (.int 256 tk_PIECE)):FnOk P w K mg base CX0 2 f fd ["size","days"] (spRoundBy K):=by
 refine F.ok (k:=1) sc_round_by (fun vs H Q E h=>?_) (fun cdv A outer s H vs Q E hr h=>?_)
 ·obtain⟨a,ds,n,rfl,_⟩:=h
  rfl
 obtain⟨a,ds,n,rfl,hS,n0,n1,fin⟩:=h
 refine⟨_,(pss_cons (ps_expr (pe_cal c_refuse_below_one (hr.mono (by decide)) rfl (pa_cons (pv 0) pa_nil)))
  (pss_cons (ps_expr (pe_cal c_refuse_too_long (hr.mono (by decide)) rfl (pa_cons (pv 0) pa_nil)))
  (pss_cons (ps_set (i:=2) sc_round_by.nd rfl (by first | exact Or.inl rfl | exact Or.inr rfl) (pe_op op_rep (pe_lst (pa_cons pe_int pa_nil)) (pe_op op_add (pe_op op_fdivB (pv 0) (pe_glob rfl m_PIECE (rel_int _ _))) pe_int)))
  (pss_cons (ps_for PassesOwn.never rfl (pi_list (pv 1)) (pg_name (i:=3) sc_round_by.nd rfl (by first | exact Or.inl rfl | exact Or.inr rfl))
   (pss_cons (ps_set (i:=6) sc_round_by.nd rfl (by first | exact Or.inl rfl | exact Or.inr rfl) (pe_op op_mod (pv 3) (pv 0)))
  (pss_one (ps_asg (pe_op op_or (pe_ix ix_list (pv 2) (pe_op op_fdivB (pv 6) (pe_glob rfl m_PIECE (rel_int _ _))) (fun _ _=>rfl)) (pe_op op_shlB pe_int (pe_op op_mod (pv 6) (pe_glob rfl m_PIECE (rel_int _ _))))) (pg_sub (pv 2) (pe_op op_fdivB (pv 6) (pe_glob rfl m_PIECE (rel_int _ _))) set_list)))))
  (pss_cons (ps_set (i:=4) sc_round_by.nd rfl (by first | exact Or.inl rfl | exact Or.inr rfl) pe_int)
  (pss_cons (ps_for PassesOwn.never rfl (pi_range1 rfl z_range (pa_cons (pe_callB call_len_seq rfl z_len PySem.boot_len (pa_cons (pv 2) pa_nil)) pa_nil)) (pg_name (i:=5) sc_round_by.nd rfl (by first | exact Or.inl rfl | exact Or.inr rfl))
   (pss_one (ps_set (i:=4) sc_round_by.nd rfl (by first | exact Or.inl rfl | exact Or.inr rfl) (pe_op op_or (pv 4) (pe_op op_shlB (pe_ix ix_list (pv 2) (pv 5) (fun _ _=>rfl)) (pe_op op_mulB (pv 5) (pe_glob rfl m_PIECE (rel_int _ _))))))))
  (pss_one (ps_ret (pe_tup (pa_cons (pv 0) (pa_cons (pv 4) pa_nil))))))))))),?_⟩
 walk_at "rdx"
 refine⟨n,rfl,by omega,?_⟩
 walk_at "rdx"
 refine⟨n,rfl,n1,?_⟩
 walk_at "rdx"
 refine⟨(by show 1≤sizeLine;decide),fun l0 hl0=>?_⟩
 walk_at "rdx"
 refine rd_rep upd_same (by omega) (by omega) (by show 1*_≤sizeLine;unfold sizeLine;omega) (fun l hl=>?_)
 have s0:=same_new hl0 (.lst [.int 0])
 have s1:=s0.trans (same_new hl (.lst (List.replicate (n/256+1).toNat [V.int 0]).flatten))
 have t1:upd (upd H l0 (.lst [.int 0])) l (.lst (List.replicate (n/256+1).toNat [V.int 0]).flatten) l=some (.lst (pcsV 0 (n/256+1).toNat)):=by rw[upd_same,pcsV_zero]
 have hl':H l=none:=s0.free hl
 generalize upd (upd H l0 (.lst [.int 0])) l (.lst (List.replicate (n/256+1).toNat [V.int 0]).flatten)=H1 at s1 t1 ⊢
 generalize hk:(n/256+1).toNat=k at t1
 walk_at "rdx"
 refine⟨_,rfl,a,rfl,⟨_,s1.seq hS⟩,for_list (xs:=ds.map V.int) (fun i σ' H'=>Same H H'∧∃(b:Nat) (c c':Option V),H' l=some (.lst (pcsV b k))∧σ'=[some (.int n),some (.ref a),some (.ref l),c,none,none,c']∧RB n (ds.take i) b) ⟨s1,0,none,none,t1,rfl,?_⟩ ?_ ?_ ?_⟩
 ·simpa using RB.nil n
 ·rintro i σ' H' _ ⟨s,_⟩
  exact s.seq hS
 ·rintro i x σ' H' hx ⟨s,b,c,c',t,rfl,B⟩
  rw[List.getElem?_map] at hx
  obtain⟨d,hd,rfl⟩:=Option.map_eq_some_iff.mp hx
  have m0:=Int.emod_nonneg d (show n≠0 by omega)
  have m1:=Int.emod_lt_of_pos d (show 0<n by omega)
  walk_at "rdx"
  have B':=B.snoc (x:=d) (by omega)
  obtain⟨p,hp⟩:∃p:Nat,d%n=(p:Int):=⟨(d%n).toNat,by omega⟩
  rw[hp,Int.toNat_natCast] at B'
  rw[hp] at m1 ⊢
  have e1:(p:Int)/256=((p/256:Nat):Int):=by omega
  have e2:(p:Int)%256=((p%256:Nat):Int):=by omega
  rw[e1]
  have pk:p/256<k:=by omega
  refine rd_ixL (SqL.of t) (atI_nat (pcsV_at pk)) ?_
  walk_at "rdx"
  rw[e2]
  refine rd_i ⟨by omega,1,bt1,by omega⟩ ?_
  walk_at "rdx"
  rw[Int.toNat_natCast,pow_cast,bitOr_nat]
  try rw[e1]
  refine rd_setL t (by rw[pcsV_len];exact pk) ?_
  rw[pcsV_set pk]
  refine⟨same_app hl' s,_,_,_,upd_same,rfl,?_⟩
  rw[List.take_add_one,hd]
  exact B'
 ·rintro σ' H2 ⟨s2,b,c,c',t2,rfl,B⟩
  rw[List.length_map,List.take_length] at B
  walk_at "rdx"
  walk_at "rdf"
  walk_at "rdx"
  refine⟨l,_,rfl,.inl (SqL.of t2),?_⟩
  walk_at "rdx"
  rw[pcsV_len]
  refine⟨(k:Int),rfl,by omega,by omega,for_range (n:=((k:Int)).toNat) (fun i σ' H'=>H'=H2∧∃(c1:Option V),σ'=[some (.int n),some (.ref a),some (.ref l),c,some (.int ((b%2^(256*i):Nat):Int)),c1,c']∧i≤k) ⟨rfl,none,?_,by omega⟩ ?_ ?_⟩
  ·rw[Nat.mul_zero,Nat.pow_zero,Nat.mod_one]
   rfl
  ·rintro i σ' H' hi ⟨rfl,c1,rfl,_⟩
   have ik:i<k:=by omega
   walk_at "rdx"
   rw[Int.zero_add]
   refine rd_ixL (SqL.of t2) (atI_nat (pcsV_at ik)) ?_
   walk_at "rdx"
   refine rd_i ⟨20,10,bt_nat (by omega),(by unfold Bt;decide),by decide⟩ ?_
   walk_at "rdx"
   refine rd_i ⟨by omega,256,bt_nat (pc_lt _ _),by omega⟩ ?_
   walk_at "rdx"
   rw[show ((i:Int)*256).toNat=256*i by omega,shl_cast,bitOr_nat,pc_join]
   exact⟨rfl,_,rfl,by omega⟩
  ·rintro σ' H' ⟨rfl,c1,rfl,_⟩
   walk_at "rdx"
   have e:256*((k:Int)).toNat=256*(n/256+1).toNat:=by omega
   rw[e,rb_bits (by omega) B.lt]
   refine⟨two',fun p hp=>?_⟩
   exact fin p b _ (s2.trans (same_new hp _)) upd_same B
theorem sc_on:FnScope ["turn","day"] ["turn","day"] (defScope s_on):=⟨rfl,rfl,rfl,by decide +kernel,rfl,by decide +kernel,by decide +kernel⟩
theorem ok_on{f:Addr}{fd:FuncData}(F:Fun K "on" "on" s_on f fd):FnOk P w K mg base CX0 1 f fd ["turn","day"] (spOn K):=by
 refine F.ok (k:=0) sc_on (fun vs H Q E h=>?_) (fun cdv A outer s H vs Q E hr h=>?_)
 ·obtain⟨a,n,d,b,rfl,_⟩:=h
  rfl
 obtain⟨a,n,d,b,rfl,hS,h0,q⟩:=h
 refine⟨_,(pss_one (ps_ret (pe_cmpR op_eq (pe_op op_and (pe_op op_shr (pe_ix ix_tup (pv 0) pe_int (fun _ _=>rfl)) (pe_op op_mod (pv 1) (pe_ix ix_tup (pv 0) pe_int (fun _ _=>rfl)))) pe_int) pe_int (nomark _)))),?_⟩
 walk_at "rd"
 refine rd_ixT hS at1 ?_
 walk_at "rd"
 refine rd_ixT hS at0 ?_
 refine rd_i h0 ?_
 walk_at "rd"
 refine rd_i (show (0:Int)≤d%n from Int.emod_nonneg d (by omega)) ?_
 walk_at "rd"
 rw[and_one]
 exact q
theorem sc_Rule___init__:FnScope ["self","kept","made_of","words"] ["self","kept","made_of","words"] (defScope s_Rule___init__):=⟨rfl,rfl,rfl,by decide +kernel,rfl,by decide +kernel,by decide +kernel⟩
theorem ok_Rule___init__{f:Addr}{fd:FuncData}{ds:Array Value}(F:FunD K "__init__" "Rule.__init__" s_Rule___init__ f fd ds)(er:Errs K mg c_FeastError c_NoNumber c_TooLong c_NoMeasure c_NoText c_Measure c_Calendar c_Sun c_Rule c_Each):FnOk P w K mg base CX0 1 f fd ["self","kept","made_of","words"] (spRInit K c_Rule):=by
 refine F.ok (k:=0) sc_Rule___init__ (fun vs H Q E h=>?_) (fun cdv A outer s H vs Q E hr h=>?_)
 ·obtain⟨x,p,pm,pw,C,dx,rfl,_⟩:=h
  rfl
 obtain⟨x,p,pm,pw,C,dx,rfl,hx,R,q⟩:=h
 refine⟨_,(pss_cons (ps_fld (pv 0) (pe_ifExp (pt_cmpR op_isN (pv 1) pe_non (nomark _)) (pe_tup (pa_cons pe_int (pa_cons pe_int pa_nil))) (pv 1)) (by rfl))
  (pss_cons (ps_fld (pv 0) (pe_ifExp (pt_cmpR op_isN (pv 2) pe_non (nomark _)) (pe_tup pa_nil) (pv 2)) (by rfl))
  (pss_one (ps_fld (pv 0) (pe_ifExp (pt_cmpR op_isN (pv 3) pe_non (nomark _)) (pe_tup (pa_cons pe_str pa_nil)) (pv 3)) (by rfl))))),?_⟩
 walk_at "rd"
 refine rd_ifE ?_
 walk_at "rd"
 refine⟨rfl,rd_bl (iteN (fun e=>nomatch e) ?_)⟩
 walk_at "rd"
 refine⟨x,C,dx,[],rfl,hx,R.cl,R.k,by decide,?_⟩
 walk_at "rd"
 refine rd_ifE ?_
 walk_at "rd"
 refine⟨rfl,rd_bl (iteN (fun e=>nomatch e) ?_)⟩
 walk_at "rd"
 refine⟨x,C,dx,_,rfl,upd_same,R.cl,R.m,(show 1<1000 by decide),?_⟩
 walk_at "rd"
 refine rd_ifE ?_
 walk_at "rd"
 refine⟨rfl,rd_bl (iteN (fun e=>nomatch e) ?_)⟩
 walk_at "rd"
 refine⟨x,C,dx,_,rfl,upd_same,R.cl,R.w,(show 2<1000 by decide),?_⟩
 walk_at "rd"
 refine q _ (fun y o ne e=>?_) upd_same
 rw[upd_ne ne,upd_ne ne,upd_ne ne]
 exact e
theorem sc_Rule_on:FnScope ["self","day"] ["self","day"] (defScope s_Rule_on):=⟨rfl,rfl,rfl,by decide +kernel,rfl,by decide +kernel,by decide +kernel⟩
theorem ok_Rule_on{f:Addr}{fd:FuncData}(F:Fun K "on" "Rule.on" s_Rule_on f fd)(er:Errs K mg c_FeastError c_NoNumber c_TooLong c_NoMeasure c_NoText c_Measure c_Calendar c_Sun c_Rule c_Each)(c_on_rounds:Cal P w K mg base 1 "on_rounds" ["turn","day"] (spOn K)):FnOk P w K mg base CX0 2 f fd ["self","day"] (spOnM K c_Rule [c_Each]):=by
 refine F.ok (k:=1) sc_Rule_on (fun vs H Q E h=>?_) (fun cdv A outer s H vs Q E hr h=>?_)
 ·obtain⟨x,n,d,b,rfl,_⟩:=h
  rfl
 obtain⟨x,n,d,b,rfl,R,q⟩:=h
 obtain⟨C,dx,p,pm,pw,hC,rc,hx,hp⟩:=R.ex
 refine⟨_,(pss_one (ps_ret (pe_cal c_on_rounds (hr.mono (by decide)) rfl (pa_cons (pe_fld (pv 0) (by rfl)) (pa_cons (pv 1) pa_nil))))),?_⟩
 walk_at "rd"
 refine⟨x,C,dx,_,_,rfl,hx,rc.cl,rc.k,rfl,?_⟩
 walk_at "rd"
 exact⟨p,n,d,b,rfl,SqT.of hp,R.n0,q⟩
theorem sc_each_text:FnScope ["step","rest","least_rest"] ["step","rest"] (defScope s_each_text):=⟨rfl,rfl,rfl,by decide +kernel,rfl,by decide +kernel,by decide +kernel⟩
theorem ok_each_text{f:Addr}{fd:FuncData}(F:Fun K "each_text" "each_text" s_each_text f fd):FnOk P w K mg base CX0 1 f fd ["step","rest"] spEachT:=by
 refine F.ok (k:=0) sc_each_text (fun vs H Q E h=>?_) (fun cdv A outer s H vs Q E hr h=>?_)
 ·obtain⟨n,r,rfl,_⟩:=h
  rfl
 obtain⟨n,r,rfl,n0,n1,br,q⟩:=h
 refine⟨_,(pss_cons (ps_set (i:=2) sc_each_text.nd rfl (by first | exact Or.inl rfl | exact Or.inr rfl) (pe_op op_mod (pv 1) (pv 0)))
  (pss_one (ps_ret (pe_join (pj_cons pe_str (pj_cons (pe_fmt hr.toN (pv 0)) (pj_cons pe_str (pj_cons (pe_fmt hr.toN (pv 2)) pj_nil)))))))),?_⟩
 walk_at "rd"
 refine rd_join ?_
 have m0:=Int.emod_nonneg r (show n≠0 by omega)
 have m1:=Int.emod_lt_of_pos r (show 0<n by omega)
 refine rd_jc 0 (by decide) (by decide) fun l1=>rd_ji _ l1 (by decide) rfl (bt_log (bt_small (by omega) (by omega) (by decide):Bt 1900 n) (by decide) (by decide)) fun l2=>rd_jc _ l2 (by decide) fun l3=>rd_ji _ l3 (by decide) rfl (bt_log (bt_small (by omega) (by omega) (by decide):Bt 1900 (r%n)) (by decide) (by decide)) fun l4=>rd_jnil (fits l4 (by decide)) ?_
 exact q _ _ (Same.refl _)
theorem sc_Each___init__:FnScope ["self","size","rest","kept"] ["self","size","rest"] (defScope s_Each___init__):=⟨rfl,rfl,rfl,by decide +kernel,rfl,by decide +kernel,by decide +kernel⟩
theorem ok_Each___init__{f:Addr}{fd:FuncData}(F:Fun K "__init__" "Each.__init__" s_Each___init__ f fd)(er:Errs K mg c_FeastError c_NoNumber c_TooLong c_NoMeasure c_NoText c_Measure c_Calendar c_Sun c_Rule c_Each)(c_round_by:Cal P w K mg base 2 "round_by" ["size","days"] (spRoundBy K))(c_Rule___init__:CalB P w K mg base 1 "Rule" ["self","kept","made_of","words"] (spRInit K c_Rule))(c_each_text:Cal P w K mg base 1 "each_text" ["step","rest"] spEachT):FnOk P w K mg base CX0 3 f fd ["self","size","rest"] (spIEach K c_Rule [c_Each] c_Each):=by
 refine F.ok (k:=2) sc_Each___init__ (fun vs H Q E h=>?_) (fun cdv A outer s H vs Q E hr h=>?_)
 ·obtain⟨x,n,r,rfl,_⟩:=h
  rfl
 obtain⟨x,n,r,rfl,n0,n1,br,⟨dx,hx⟩,q⟩:=h
 refine⟨_,(pss_cons (ps_set (i:=3) sc_Each___init__.nd rfl (by first | exact Or.inl rfl | exact Or.inr rfl) (pe_cal c_round_by (hr.mono (by decide)) rfl (pa_cons (pv 1) (pa_cons (pe_lst (pa_cons (pv 2) pa_nil)) pa_nil))))
  (pss_one (ps_expr (pe_binit c_Rule___init__ (hr.mono (by decide)) rfl (pa_cons (pv 0) (pa_cons (pv 3) (pa_cons (pe_tup pa_nil) (pa_cons (pe_tup (pa_cons (pe_cal c_each_text (hr.mono (by decide)) rfl (pa_cons (pv 1) (pa_cons (pv 2) pa_nil))) pa_nil)) pa_nil)))))))),?_⟩
 walk_at "rd"
 refine⟨(by show 1≤sizeLine;decide),fun l hl=>?_⟩
 have s1:=same_new hl (.lst [.int r])
 have t1:upd H l (.lst [.int r]) l=some (.lst ([r].map V.int)):=upd_same
 generalize upd H l (.lst [.int r])=H1 at s1 t1 ⊢
 walk_at "rd"
 refine⟨l,[r],n,rfl,SqL.of t1,by omega,by omega,fun p b H2 s2 t2 B=>?_⟩
 walk_at "rd"
 refine⟨(by show 0≤sizeLine;decide),fun pm hpm=>?_⟩
 have s3:=same_new hpm (.tup [])
 generalize upd H2 pm (.tup [])=H3 at s3 ⊢
 walk_at "rd"
 refine⟨n,r,rfl,n0,n1,br,fun z H4 s4=>?_⟩
 walk_at "rd"
 refine⟨(by show 1≤sizeLine;decide),fun pw hpw=>?_⟩
 have s5:=s3.trans (s4.trans (same_new hpw (.tup [.str z])))
 have hx5:=(s1.trans (s2.trans s5)) _ _ hx
 walk_at "rd"
 exact⟨x,p,pm,pw,c_Each,dx,rfl,hx5,er.rc_Each,fun H' k e=>q b H' (k.pre (s1.trans (s2.trans s5))) (made_rule (List.mem_of_getElem? (i:=0) rfl) er.rc_Each hx5 (s5 _ _ t2) k e (by omega) (by omega) B.lt) B⟩
theorem sc_equation:FnScope ["one","other","row","below","times","rest"] ["one","other"] (defScope s_equation):=⟨rfl,rfl,rfl,by decide +kernel,rfl,by decide +kernel,by decide +kernel⟩
theorem ok_equation{f:Addr}{fd:FuncData}(F:Fun K "equation" "equation" s_equation f fd):FnOk P w K mg base CX0 1 f fd ["one","other"] spEq:=by
 refine F.ok (k:=0) sc_equation (fun vs H Q E h=>?_) (fun cdv A outer s H vs Q E hr h=>?_)
 ·obtain⟨a,b,rfl,_⟩:=h
  rfl
 obtain⟨a,b,rfl,ha,hb,q⟩:=h
 refine⟨_,(pss_cons (ps_set (i:=2) sc_equation.nd rfl (by first | exact Or.inl rfl | exact Or.inr rfl) (pe_tup (pa_cons pe_int (pa_cons pe_int (pa_cons (pv 0) pa_nil)))))
  (pss_cons (ps_set (i:=3) sc_equation.nd rfl (by first | exact Or.inl rfl | exact Or.inr rfl) (pe_tup (pa_cons pe_int (pa_cons pe_int (pa_cons (pv 1) pa_nil)))))
  (pss_cons (ps_while PassesOwn.never (pt_cmpR op_ne (pe_ix ix_tup (pv 3) pe_int (fun _ _=>rfl)) pe_int (nomark _))
   (pss_cons (ps_set (i:=4) sc_equation.nd rfl (by first | exact Or.inl rfl | exact Or.inr rfl) (pe_op op_fdivF (pe_ix ix_tup (pv 2) pe_int (fun _ _=>rfl)) (pe_ix ix_tup (pv 3) pe_int (fun _ _=>rfl))))
  (pss_cons (ps_set (i:=5) sc_equation.nd rfl (by first | exact Or.inl rfl | exact Or.inr rfl) (pe_tup (pa_cons (pe_op op_sub (pe_ix ix_tup (pv 2) pe_int (fun _ _=>rfl)) (pe_op op_mulB (pv 4) (pe_ix ix_tup (pv 3) pe_int (fun _ _=>rfl)))) (pa_cons (pe_op op_sub (pe_ix ix_tup (pv 2) pe_int (fun _ _=>rfl)) (pe_op op_mulB (pv 4) (pe_ix ix_tup (pv 3) pe_int (fun _ _=>rfl)))) (pa_cons (pe_op op_sub (pe_ix ix_tup (pv 2) pe_int (fun _ _=>rfl)) (pe_op op_mulB (pv 4) (pe_ix ix_tup (pv 3) pe_int (fun _ _=>rfl)))) pa_nil)))))
  (pss_cons (ps_set (i:=2) sc_equation.nd rfl (by first | exact Or.inl rfl | exact Or.inr rfl) (pv 3))
  (pss_one (ps_set (i:=3) sc_equation.nd rfl (by first | exact Or.inl rfl | exact Or.inr rfl) (pv 5)))))))
  (pss_cons (ps_if (pt_cmpR op_lt (pe_ix ix_tup (pv 2) pe_int (fun _ _=>rfl)) pe_int (nomark _))
   (pss_one (ps_ret (pe_tup (pa_cons (pe_un un_neg (pe_ix ix_tup (pv 2) pe_int (fun _ _=>rfl))) (pa_cons (pe_un un_neg (pe_ix ix_tup (pv 2) pe_int (fun _ _=>rfl))) (pa_cons (pe_un un_neg (pe_ix ix_tup (pv 2) pe_int (fun _ _=>rfl))) pa_nil))))))
   pss_nil)
  (pss_one (ps_ret (pv 2))))))),?_⟩
 walk_at "rd"
 refine⟨three,fun p1 hp1=>?_⟩
 walk_at "rd"
 refine⟨three,fun p2 hp2=>?_⟩
 walk_at "rd"
 have n12:p1≠p2:=fun z=>by rw[←z,upd_same] at hp2;cases hp2
 refine⟨fun m σ' H'=>∃(pr pb:Addr) (u v r u' v' r':Int) (t1 t2:Option V),σ'=[some (.int a),some (.int b),some (.ref pr),some (.ref pb),t1,t2]∧Same H H'∧
  H' pr=some (.tup [.int u,.int v,.int r])∧H' pb=some (.tup [.int u',.int v',.int r'])∧EqI a b u v r u' v' r'∧m=r'.natAbs,
  ⟨_,p1,p2,1,0,a,0,1,b,none,none,rfl,(same_new hp1 _).trans (same_new hp2 _),by rw[upd_ne n12];exact upd_same,upd_same,EqI.start a b,rfl⟩,?_⟩
 rintro m σ' H' ⟨pr,pb,u,v,r,u',v',r',t1,t2,rfl,sm,hpr,hpb,I,rfl⟩
 have B:=I.bounds
 have br:=bt_le2 (m:=510) ha hb (show r.natAbs≤a.natAbs+b.natAbs+4 by omega) (by decide)
 have br':=bt_le (m:=510) hb (show r'.natAbs≤4*b.natAbs+4 by omega) (by decide)
 have bu':=bt_le (m:=510) hb (show u'.natAbs≤4*b.natAbs+4 by omega) (by decide)
 have bv':=bt_le (m:=510) ha (show v'.natAbs≤4*a.natAbs+4 by omega) (by decide)
 walk_at "rd"
 refine rd_ixT (SqT.of hpb) at32 ?_
 walk_at "rd"
 by_cases hz:r'=0
 ·subst hz
  refine iteNS rfl ?_
  have D:=I.done
  walk_at "rd"
  refine rd_ixT (SqT.of hpr) at32 ?_
  walk_at "rd"
  refine ite2d (fun c=>?_) (fun c=>?_)
  ·walk_at "rd"
   refine rd_ixT (SqT.of hpr) at30 ?_
   walk_at "rd"
   refine rd_ixT (SqT.of hpr) at31 ?_
   walk_at "rd"
   refine rd_ixT (SqT.of hpr) at32 ?_
   walk_at "rd"
   refine⟨three,fun p hp=>?_⟩
   exact q p _ _ _ _ (sm.trans (same_new hp _)) upd_same (D.1 c)
  ·walk_at "rd"
   exact q pr _ _ _ _ sm hpr (D.2 c)
 ·refine iteNN (fun z=>hz (V.int.inj z)) ?_
  refine⟨_,fun σ' H' hh=>hh,?_⟩
  have St:=I.step hz
  have bq:=bt_le (m:=520) br (show (r.fdiv r').natAbs≤4*r.natAbs+4 by have:=quot_bound (r:=r) hz;omega) (by decide)
  walk_at "rd"
  refine rd_ixT (SqT.of hpr) at32 ?_
  walk_at "rd"
  refine rd_ixT (SqT.of hpb) at32 ?_
  refine rd_i ⟨hz,br'.mono (by decide)⟩ ?_
  walk_at "rd"
  refine rd_ixT (SqT.of hpr) at30 ?_
  walk_at "rd"
  refine rd_ixT (SqT.of hpb) at30 ?_
  refine rd_i ⟨520,510,bq,bu',by decide⟩ ?_
  walk_at "rd"
  refine rd_ixT (SqT.of hpr) at31 ?_
  walk_at "rd"
  refine rd_ixT (SqT.of hpb) at31 ?_
  refine rd_i ⟨520,510,bq,bv',by decide⟩ ?_
  walk_at "rd"
  refine rd_ixT (SqT.of hpr) at32 ?_
  walk_at "rd"
  refine rd_ixT (SqT.of hpb) at32 ?_
  refine rd_i ⟨520,510,bq,br',by decide⟩ ?_
  walk_at "rd"
  refine⟨three,fun p hp=>?_⟩
  walk_at "rd"
  exact⟨_,St.2,pb,p,u',v',r',_,_,_,_,_,rfl,sm.trans (same_new hp _),(same_new hp _) _ _ hpb,upd_same,St.1,rfl⟩
theorem sc_divisor:FnScope ["one","other"] ["one","other"] (defScope s_divisor):=⟨rfl,rfl,rfl,by decide +kernel,rfl,by decide +kernel,by decide +kernel⟩
theorem ok_divisor{f:Addr}{fd:FuncData}(F:Fun K "divisor" "divisor" s_divisor f fd)(c_equation:Cal P w K mg base 1 "equation" ["one","other"] spEq):FnOk P w K mg base CX0 2 f fd ["one","other"] spDivisor:=by
 refine F.ok (k:=1) sc_divisor (fun vs H Q E h=>?_) (fun cdv A outer s H vs Q E hr h=>?_)
 ·obtain⟨a,b,rfl,_⟩:=h
  rfl
 obtain⟨a,b,rfl,ha,hb,q⟩:=h
 refine⟨_,(pss_one (ps_ret (pe_ix ix_tup (pe_cal c_equation (hr.mono (by decide)) rfl (pa_cons (pv 0) (pa_cons (pv 1) pa_nil))) pe_int (fun _ _=>rfl)))),?_⟩
 walk_at "rd"
 refine⟨a,b,rfl,ha,hb,fun p u v g H' sm hp e=>?_⟩
 walk_at "rd"
 refine rd_ixT (SqT.of hp) at32 ?_
 rw[e.gd]
 exact q _ sm
theorem sc_common:FnScope ["one","other"] ["one","other"] (defScope s_common):=⟨rfl,rfl,rfl,by decide +kernel,rfl,by decide +kernel,by decide +kernel⟩
theorem ok_common{f:Addr}{fd:FuncData}(F:Fun K "common" "common" s_common f fd)(c_refuse_below_one:Cal P w K mg base 1 "refuse_below_one" ["number"] spRefuse)(c_divisor:Cal P w K mg base 2 "divisor" ["one","other"] spDivisor):FnOk P w K mg base CX0 3 f fd ["one","other"] spCommon:=by
 refine F.ok (k:=2) sc_common (fun vs H Q E h=>?_) (fun cdv A outer s H vs Q E hr h=>?_)
 ·obtain⟨a,b,rfl,_⟩:=h
  rfl
 obtain⟨a,b,rfl,a0,b0,ha,hb,q⟩:=h
 refine⟨_,(pss_cons (ps_expr (pe_cal c_refuse_below_one (hr.mono (by decide)) rfl (pa_cons (pv 0) pa_nil)))
  (pss_cons (ps_expr (pe_cal c_refuse_below_one (hr.mono (by decide)) rfl (pa_cons (pv 1) pa_nil)))
  (pss_one (ps_ret (pe_op op_mulB (pe_op op_fdivB (pv 0) (pe_cal c_divisor (hr.mono (by decide)) rfl (pa_cons (pv 0) (pa_cons (pv 1) pa_nil)))) (pv 1)))))),?_⟩
 walk_at "rd"
 refine⟨a,rfl,by omega,?_⟩
 walk_at "rd"
 refine⟨b,rfl,by omega,?_⟩
 walk_at "rd"
 refine⟨a,b,rfl,ha,hb,fun H' sm=>?_⟩
 have g0:=gcd_pos (b:=b) a0
 have g1:=gcd_le (b:=b) a0
 refine rd_i ⟨g0,(ha.le (x:=(Int.gcd a b:Int)) (by omega)).mono (by decide)⟩ ?_
 walk_at "rd"
 have d0:0≤a/(Int.gcd a b:Int):=Int.ediv_nonneg (by omega) (by omega)
 have d1:a/(Int.gcd a b:Int)≤a:=Int.ediv_le_self _ (by omega)
 refine rd_i ⟨500,500,ha.le (by omega),hb,by decide⟩ ?_
 exact q _ sm
theorem sc_term_on:FnScope ["term","k"] ["term","k"] (defScope s_term_on):=⟨rfl,rfl,rfl,by decide +kernel,rfl,by decide +kernel,by decide +kernel⟩
theorem ok_term_on{f:Addr}{fd:FuncData}(F:Fun K "term_on" "term_on" s_term_on f fd):FnOk P w K mg base CX0 1 f fd ["term","k"] spTermOn:=by
 refine F.ok (k:=0) sc_term_on (fun vs H Q E h=>?_) (fun cdv A outer s H vs Q E hr h=>?_)
 ·obtain⟨p,k,t,rfl,_⟩:=h
  rfl
 obtain⟨p,k,t,rfl,hp,ok,bk,q⟩:=h
 have n0:=ok.n0
 have n1:=ok.n1
 have a0:=ok.a0
 have a1:=ok.a1
 refine⟨_,(pss_one (ps_ret (pe_cmpR op_ge (pe_op op_add (pe_op op_mod (pe_op op_add (pe_op op_mulB (pe_ix ix_tup (pv 0) pe_int (fun _ _=>rfl)) (pv 1)) (pe_ix ix_tup (pv 0) pe_int (fun _ _=>rfl))) (pe_ix ix_tup (pv 0) pe_int (fun _ _=>rfl))) (pe_ix ix_tup (pv 0) pe_int (fun _ _=>rfl))) (pe_ix ix_tup (pv 0) pe_int (fun _ _=>rfl)) (nomark _)))),?_⟩
 walk_at "rd"
 refine rd_ixT (SqT.of hp) at41 ?_
 walk_at "rd"
 refine rd_i ⟨64,400,bt_small (by omega) (by omega) (by decide),bk,by decide⟩ ?_
 walk_at "rd"
 refine rd_ixT (SqT.of hp) at42 ?_
 walk_at "rd"
 refine rd_ixT (SqT.of hp) at43 ?_
 walk_at "rd"
 refine rd_ixT (SqT.of hp) at41 ?_
 walk_at "rd"
 refine rd_ixT (SqT.of hp) at43 ?_
 walk_at "rd"
 exact q
theorem sc_signs_upto:FnScope ["terms","k"] ["terms","k"] (defScope s_signs_upto):=⟨rfl,rfl,rfl,by decide +kernel,rfl,by decide +kernel,by decide +kernel⟩
theorem ok_signs_upto{f:Addr}{fd:FuncData}(F:Fun K "signs_upto" "signs_upto" s_signs_upto f fd)(z_sum:mg "sum"=none):FnOk P w K mg base CX0 1 f fd ["terms","k"] (spSigns K):=by
 refine F.ok (k:=0) sc_signs_upto (fun vs H Q E h=>?_) (fun cdv A outer s H vs Q E hr h=>?_)
 ·obtain⟨p,k,ts,rfl,_⟩:=h
  rfl
 obtain⟨p,k,ts,rfl,T,bk,q⟩:=h
 obtain⟨us,hS,hT⟩:=T.ex
 refine⟨_,(pss_one (ps_ret (pe_callB (call_sum rfl) rfl z_sum PyProof.Rows.boot_sum (pa_cons (pe_comp rfl (compOk_freeM ["terms","k"] ["terms","k"] rfl rfl (by with_unfolding_all rfl) (by decide +kernel) rfl (by decide +kernel) rfl (by decide +kernel) (by walk_at "fm") (by with_unfolding_all rfl) (by with_unfolding_all rfl)) (pi_tup (pv 0)) (fun _ _ _ _=>pifs_nil) (fun _ _ _ _=>(pe_op op_mulB (pe_ix ix_tup_c (pv 0) pe_int (fun _ _=>rfl)) (pe_op op_fdivB (pe_op op_add (pe_op op_mulB (pe_ix ix_tup_c (pv 0) pe_int (fun _ _=>rfl)) (pv 2)) (pe_ix ix_tup_c (pv 0) pe_int (fun _ _=>rfl))) (pe_ix ix_tup_c (pv 0) pe_int (fun _ _=>rfl)))))) pa_nil)))),?_⟩
 walk_at "rd"
 refine comp_t rfl hS (by rw[hT.len];exact small1000 (by have:=T.few;omega)) (fun v=>((tmAt H v).map fun _=>true).getD false) (fun v=>((tmAt H v).map fun t=>V.int (t.1*ctT t k)).getD .non) (fun x hx D ys Q' hD h=>?_) (fun x hx _ D ys Q' hD h=>?_) (fun D hD=>?_)
 ·obtain⟨a,t,rfl,ht,ha⟩:=hT.mem hx
  rw[tmAt_eq ha] at h
  exact h
 ·obtain⟨a,t,rfl,ht,ha⟩:=hT.mem hx
  rw[tmAt_eq ha] at h
  have ok:=T.ok t ht
  have n0:=ok.n0
  have n1:=ok.n1
  have a0:=ok.a0
  have a1:=ok.a1
  have sg:=ok.sg
  have b0:=ok.b0
  have b1:=ok.b1
  have ha':=same_new hD (.lst ys) _ _ ha
  walk_at "rd"
  refine rd_ixT (SqT.of ha') at40 ?_
  walk_at "rd"
  refine rd_ixT (SqT.of ha') at41 ?_
  walk_at "rd"
  refine rd_i ⟨64,400,bt_small (by omega) (by omega) (by decide),bk,by decide⟩ ?_
  walk_at "rd"
  refine rd_ixT (SqT.of ha') at42 ?_
  walk_at "rd"
  refine rd_ixT (SqT.of ha') at43 ?_
  refine rd_i (cdiv_small (by omega) (by omega)) ?_
  have bb:Bt 465 (t.2.1*k+t.2.2.1):=((show Bt 64 t.2.1 from bt_small (by omega) (by omega) (by decide)).mul bk).add ((show Bt 64 t.2.2.1 from bt_small (by omega) (by omega) (by decide)).mono (by decide))
  refine rd_i ⟨200,465,bt_of (by omega) (by omega),bt_div bb (by omega),by decide⟩ ?_
  exact h
 rw[hT.fm (fun _=>true) fun t=>V.int (t.1*ctT t k),List.filter_eq_self.mpr (fun _ _=>rfl)]
 have e:(ts.map fun t=>V.int (t.1*ctT t k))=(ts.map fun t=>t.1*ctT t k).map V.int:=by rw[List.map_map];rfl
 rw[e]
 walk_at "rd"
 refine⟨D,_,rfl,SqL.of upd_same,?_⟩
 exact q _ (same_new hD _)
theorem sc_is_term:FnScope ["term"] ["term"] (defScope s_is_term):=⟨rfl,rfl,rfl,by decide +kernel,rfl,by decide +kernel,by decide +kernel⟩
theorem ok_is_term{f:Addr}{fd:FuncData}(F:Fun K "is_term" "is_term" s_is_term f fd){tk_GREATEST_N:Tok}(m_GREATEST_N:mg "GREATEST_N"=some (.int 1000 tk_GREATEST_N)):FnOk P w K mg base CX0 1 f fd ["term"] spIsTerm:=by
 refine F.ok (k:=0) sc_is_term (fun vs H Q E h=>?_) (fun cdv A outer s H vs Q E hr h=>?_)
 ·obtain⟨p,t,rfl,_⟩:=h
  rfl
 obtain⟨p,t,rfl,hp,ok,q⟩:=h
 have n0:=ok.n0
 have n1:=ok.n1
 have a0:=ok.a0
 have a1:=ok.a1
 have sg:=ok.sg
 have b0:=ok.b0
 have b1:=ok.b1
 refine⟨_,(pss_cons (ps_if (PW.pt (pw_and (pt_cmpR op_ne (pe_ix ix_tup (pv 0) pe_int (fun _ _=>rfl)) pe_int (nomark _)) (pw_and1 (pt_cmpR op_ne (pe_ix ix_tup (pv 0) pe_int (fun _ _=>rfl)) (pe_un un_neg pe_int) (nomark _)))))
  (pss_one (ps_ret pe_bl))
  pss_nil)
  (pss_one (ps_ret (pe_and (pe_chain op_le op_le pe_int (pe_ix ix_tup (pv 0) pe_int (fun _ _=>rfl)) (pe_glob rfl m_GREATEST_N (rel_int _ _))) (pe_and (pe_chain op_le op_le pe_int (pe_ix ix_tup (pv 0) pe_int (fun _ _=>rfl)) (pe_ix ix_tup (pv 0) pe_int (fun _ _=>rfl))) (pe_one (pe_chain op_le op_lt pe_int (pe_ix ix_tup (pv 0) pe_int (fun _ _=>rfl)) (pe_ix ix_tup (pv 0) pe_int (fun _ _=>rfl))))))))),?_⟩
 walk_at "rd"
 refine rd_ixT (SqT.of hp) at40 ?_
 walk_at "rd"
 have rest:True:=trivial
 rcases sg with e | e
 ·refine iteNS (congrArg V.int e) (iteF ?_)
  walk_at "rd"
  refine rd_ixT (SqT.of hp) at43 ?_
  walk_at "rd"
  refine iteD n0 ?_
  walk_at "rd"
  rw[decide_eq_true n1]
  refine iteT ?_
  walk_at "rd"
  refine rd_ixT (SqT.of hp) at41 ?_
  walk_at "rd"
  refine iteD a0 ?_
  walk_at "rd"
  refine rd_ixT (SqT.of hp) at43 ?_
  walk_at "rd"
  rw[decide_eq_true a1]
  refine iteT ?_
  walk_at "rd"
  refine rd_ixT (SqT.of hp) at42 ?_
  walk_at "rd"
  refine iteD b0 ?_
  walk_at "rd"
  refine rd_ixT (SqT.of hp) at43 ?_
  walk_at "rd"
  rw[decide_eq_true b1]
  exact q
 ·refine iteNN (fun z=>by have:=V.int.inj z;omega) ?_
  walk_at "rd"
  refine rd_ixT (SqT.of hp) at40 ?_
  walk_at "rd"
  refine iteNS (congrArg V.int e) ?_
  walk_at "rd"
  refine rd_ixT (SqT.of hp) at43 ?_
  walk_at "rd"
  refine iteD n0 ?_
  walk_at "rd"
  rw[decide_eq_true n1]
  refine iteT ?_
  walk_at "rd"
  refine rd_ixT (SqT.of hp) at41 ?_
  walk_at "rd"
  refine iteD a0 ?_
  walk_at "rd"
  refine rd_ixT (SqT.of hp) at43 ?_
  walk_at "rd"
  rw[decide_eq_true a1]
  refine iteT ?_
  walk_at "rd"
  refine rd_ixT (SqT.of hp) at42 ?_
  walk_at "rd"
  refine iteD b0 ?_
  walk_at "rd"
  refine rd_ixT (SqT.of hp) at43 ?_
  walk_at "rd"
  rw[decide_eq_true b1]
  exact q
theorem sc_least_length:FnScope ["base","terms"] ["base","terms"] (defScope s_least_length):=⟨rfl,rfl,rfl,by decide +kernel,rfl,by decide +kernel,by decide +kernel⟩
theorem ok_least_length{f:Addr}{fd:FuncData}(F:Fun K "least_length" "least_length" s_least_length f fd)(z_len:mg "len"=none):FnOk P w K mg base CX0 1 f fd ["base","terms"] (spLeast K):=by
 refine F.ok (k:=0) sc_least_length (fun vs H Q E h=>?_) (fun cdv A outer s H vs Q E hr h=>?_)
 ·obtain⟨p,b,ts,rfl,_⟩:=h
  rfl
 obtain⟨p,b,ts,rfl,T,q⟩:=h
 obtain⟨us,hS,hT⟩:=T.ex
 refine⟨_,(pss_one (ps_ret (pe_op op_sub (pv 0) (pe_callB call_len_seq rfl z_len PySem.boot_len (pa_cons (pe_comp rfl (compOk_nil ["base","terms"] rfl (by decide +kernel) rfl (by decide +kernel) rfl (by decide +kernel) (by decide +kernel)) (pi_tup (pv 1)) (fun _ _ _ _=>(pifs_one (pt_cmpR op_eq (pe_ix ix_tup_c (pv 0) pe_int (fun _ _=>rfl)) (pe_un un_neg pe_int) (nomark _)))) (fun _ _ _ _=>(pv 0))) pa_nil))))),?_⟩
 walk_at "rd"
 refine comp_t rfl hS (by rw[hT.len];exact small1000 (by have:=T.few;omega)) (fun v=>((tmAt H v).map fun t=>decide (t.1= -1)).getD false) (fun v=>v) (fun x hx D ys Q' hD h=>?_) (fun x hx _ D ys Q' hD h=>⟨_,rfl,h⟩) (fun D hD=>?_)
 ·obtain⟨a,t,rfl,ht,ha⟩:=hT.mem hx
  rw[tmAt_eq ha] at h
  walk_at "rd"
  refine rd_ixT (SqT.of (same_new hD _ _ _ ha)) at40 ?_
  walk_at "rd"
  rw[dec_int0]
  exact h
 walk_at "rd"
 refine⟨D,_,rfl,.inl (SqL.of upd_same),?_⟩
 walk_at "rd"
 have e:((us.filter fun v=>((tmAt H v).map fun t=>decide (t.1= -1)).getD false).map fun v=>v).length=(ts.filter fun t=>decide (t.1= -1)).length:=by
  have:=congrArg List.length (hT.fm (fun t=>decide (t.1= -1)) (fun _=>V.non))
  rw[List.length_map,List.length_map] at this
  rw[List.length_map]
  exact this
 rw[e]
 exact q _ (same_new hD _)
theorem sc_refuse_measure:FnScope ["base","terms"] ["base","terms"] (defScope s_refuse_measure):=⟨rfl,rfl,rfl,by decide +kernel,rfl,by decide +kernel,by decide +kernel⟩
theorem ok_refuse_measure{f:Addr}{fd:FuncData}(F:Fun K "refuse_measure" "refuse_measure" s_refuse_measure f fd)(c_is_term:Cal P w K mg base 1 "is_term" ["term"] spIsTerm)(c_least_length:Cal P w K mg base 1 "least_length" ["base","terms"] (spLeast K))(z_len:mg "len"=none)(z_all:mg "all"=none){tk_GREATEST_BASE:Tok}(m_GREATEST_BASE:mg "GREATEST_BASE"=some (.int 20000 tk_GREATEST_BASE)){tk_MOST_TERMS:Tok}(m_MOST_TERMS:mg "MOST_TERMS"=some (.int 6 tk_MOST_TERMS)):FnOk P w K mg base CX0 2 f fd ["base","terms"] (spRefuseM K):=by
 refine F.ok (k:=1) sc_refuse_measure (fun vs H Q E h=>?_) (fun cdv A outer s H vs Q E hr h=>?_)
 ·obtain⟨p,b,ts,rfl,_⟩:=h
  rfl
 obtain⟨p,b,ts,rfl,T,g,q⟩:=h
 obtain⟨us,hS,hT⟩:=T.ex
 have b0:=g.b0
 have b1:=g.b1
 have fl:=g.fl
 have few:=T.few
 refine⟨_,(pss_cons (ps_if (PW.pt (pw_or (pt_cmpR op_lt (pv 0) pe_int (nomark _)) (pw_or1 (pt_cmpR op_gt (pv 0) (pe_glob rfl m_GREATEST_BASE (rel_int _ _)) (nomark _)))))
  (pss_one ps_never)
  pss_nil)
  (pss_cons (ps_if (pt_cmpR op_gt (pe_callB call_len_seq rfl z_len PySem.boot_len (pa_cons (pv 1) pa_nil)) (pe_glob rfl m_MOST_TERMS (rel_int _ _)) (nomark _))
   (pss_one ps_never)
   pss_nil)
  (pss_cons (ps_if (pt_not (pt_val (pe_callB (call_all rfl) rfl z_all PyProof.Rows.boot_all (pa_cons (pe_comp rfl (compOk_nil ["base","terms"] rfl (by decide +kernel) rfl (by decide +kernel) rfl (by decide +kernel) (by decide +kernel)) (pi_tup (pv 1)) (fun _ _ _ _=>pifs_nil) (fun _ _ _ _=>(pe_cal c_is_term (hr.mono (by decide)) rfl (pa_cons (pv 0) pa_nil)))) pa_nil))))
   (pss_one ps_never)
   pss_nil)
  (pss_one (ps_if (pt_cmpR op_lt (pe_cal c_least_length (hr.mono (by decide)) rfl (pa_cons (pv 0) (pa_cons (pv 1) pa_nil))) pe_int (nomark _))
   (pss_one ps_never)
   pss_nil))))),?_⟩
 walk_at "rd"
 refine iteN (by omega) ?_
 walk_at "rd"
 refine iteN (by omega) ?_
 walk_at "rd"
 refine⟨p,us,rfl,.inr hS,?_⟩
 walk_at "rd"
 refine iteN (by rw[hT.len];omega) ?_
 walk_at "rd"
 refine comp_t rfl hS (by rw[hT.len];exact small1000 (by omega)) (fun _=>true) (fun _=>.bl true) (fun x hx D ys Q' hD h=>h) (fun x hx _ D ys Q' hD h=>?_) (fun D hD=>?_)
 ·obtain⟨a,t,rfl,ht,ha⟩:=hT.mem hx
  walk_at "rd"
  exact⟨a,t,rfl,same_new hD _ _ _ ha,T.ok t ht,h⟩
 have s1:=same_new hD (.lst ((us.filter fun _=>true).map fun _=>V.bl true))
 have e:((us.filter fun _=>true).map fun _=>V.bl true)=(us.map fun _=>true).map V.bl:=by
  rw[List.filter_eq_self.mpr (fun _ _=>rfl),List.map_map]
  rfl
 walk_at "rd"
 refine⟨D,us.map (fun _=>true),rfl,SqL.of (by rw[upd_same,e]),?_⟩
 walk_at "rd"
 rw[show ((us.map fun _=>true).all id)=true from List.all_eq_true.mpr (fun x hx=>by obtain⟨_,_,rfl⟩:=List.mem_map.mp hx;rfl)]
 refine iteF ?_
 walk_at "rd"
 refine⟨p,b,ts,rfl,T.same s1,fun H2 s2=>?_⟩
 walk_at "rd"
 refine iteN (by omega) ?_
 walk_at "rd"
 exact q _ (s1.trans s2)
theorem sc_period_of:FnScope ["terms","told","term"] ["terms"] (defScope s_period_of):=⟨rfl,rfl,rfl,by decide +kernel,rfl,by decide +kernel,by decide +kernel⟩
theorem ok_period_of{f:Addr}{fd:FuncData}(F:Fun K "period_of" "period_of" s_period_of f fd)(c_common:Cal P w K mg base 3 "common" ["one","other"] spCommon):FnOk P w K mg base CX0 4 f fd ["terms"] (spPeriod K):=by
 refine F.ok (k:=3) sc_period_of (fun vs H Q E h=>?_) (fun cdv A outer s H vs Q E hr h=>?_)
 ·obtain⟨p,ts,rfl,_⟩:=h
  rfl
 obtain⟨p,ts,rfl,T,q⟩:=h
 obtain⟨us,hS,hT⟩:=T.ex
 have few:=T.few
 have ulen:=hT.len
 refine⟨_,(pss_cons (ps_set (i:=1) sc_period_of.nd rfl (by first | exact Or.inl rfl | exact Or.inr rfl) pe_int)
  (pss_cons (ps_for PassesOwn.never rfl (pi_tup (pv 0)) (pg_name (i:=2) sc_period_of.nd rfl (by first | exact Or.inl rfl | exact Or.inr rfl))
   (pss_one (ps_set (i:=1) sc_period_of.nd rfl (by first | exact Or.inl rfl | exact Or.inr rfl) (pe_cal c_common (hr.mono (by decide)) rfl (pa_cons (pv 1) (pa_cons (pe_ix ix_tup (pv 2) pe_int (fun _ _=>rfl)) pa_nil))))))
  (pss_one (ps_ret (pv 1))))),?_⟩
 walk_at "rd"
 walk_at "rdf"
 walk_at "rd"
 refine⟨p,rfl,⟨us,hS⟩,for_tup (xs:=us) (fun i σ' H'=>Same H H'∧∃c:Option V,σ'=[some (.ref p),some (.int (PER (ts.take i))),c]) ⟨Same.refl _,none,rfl⟩ ?_ ?_ ?_⟩
 ·rintro i σ' H' _ ⟨s,_⟩
  exact s.tup hS
 ·rintro i x σ' H' hx ⟨s,c,rfl⟩
  obtain⟨a,t,rfl,ht,ha⟩:=hT.at hx
  have i6:i<6:=by
   have:=(List.getElem?_eq_some_iff.mp ht).1
   omega
  obtain⟨h1,h2⟩:=per_pow T.ok i (by omega)
  have h3:=pow6 (show i≤6 by omega)
  have ok:=T.ok t (List.mem_of_getElem? ht)
  have n0:=ok.n0
  have n1:=ok.n1
  walk_at "rd"
  refine rd_ixT (SqT.of (s _ _ ha)) at43 ?_
  walk_at "rd"
  refine⟨_,_,rfl,h1,by omega,bt_small (by omega) (by omega) (by decide),bt_small (by omega) (by omega) (by decide),fun H2 s2=>?_⟩
  walk_at "rd"
  refine⟨s.trans s2,some (.ref a),?_⟩
  have e2:PER (ts.take (i+1))=lcmI (PER (ts.take i)) t.2.2.2:=by
   unfold PER
   rw[List.take_add_one,ht,Option.toList_some,List.foldl_append]
   rfl
  rw[e2]
  rfl
 ·rintro σ' H' ⟨s,c,rfl⟩
  walk_at "rd"
  rw[ulen,List.take_length]
  exact q _ s
theorem sc_Measure_upto:FnScope ["self","k"] ["self","k"] (defScope s_Measure_upto):=⟨rfl,rfl,rfl,by decide +kernel,rfl,by decide +kernel,by decide +kernel⟩
theorem ok_Measure_upto{f:Addr}{fd:FuncData}(F:Fun K "upto" "Measure.upto" s_Measure_upto f fd)(er:Errs K mg c_FeastError c_NoNumber c_TooLong c_NoMeasure c_NoText c_Measure c_Calendar c_Sun c_Rule c_Each)(c_signs_upto:Cal P w K mg base 1 "signs_upto" ["terms","k"] (spSigns K)):FnOk P w K mg base CX0 2 f fd ["self","k"] (spUpto K c_Measure):=by
 refine F.ok (k:=1) sc_Measure_upto (fun vs H Q E h=>?_) (fun cdv A outer s H vs Q E hr h=>?_)
 ·obtain⟨x,p,dx,k,b,ts,fs,rfl,_⟩:=h
  rfl
 obtain⟨x,p,dx,k,b,ts,fs,rfl,hx,fb,ft,T,b0,b1,bk,q⟩:=h
 refine⟨_,(pss_one (ps_ret (pe_op op_add (pe_op op_mulB (pe_fld (pv 0) (by rfl)) (pv 1)) (pe_cal c_signs_upto (hr.mono (by decide)) rfl (pa_cons (pe_fld (pv 0) (by rfl)) (pa_cons (pv 1) pa_nil)))))),?_⟩
 walk_at "rd"
 refine⟨x,c_Measure,dx,fs,_,rfl,hx,er.cl_Measure,er.na_Measure_base,fb,?_⟩
 walk_at "rd"
 refine rd_i ⟨64,400,bt_small (by omega) (by omega) (by decide),bk,by decide⟩ ?_
 walk_at "rd"
 refine⟨x,c_Measure,dx,fs,_,rfl,hx,er.cl_Measure,er.na_Measure_terms,ft,?_⟩
 walk_at "rd"
 refine⟨p,k,ts,rfl,T,bk,fun H' s=>?_⟩
 walk_at "rd"
 exact q _ s
theorem sc_Measure___init__:FnScope ["self","base","terms"] ["self","base","terms"] (defScope s_Measure___init__):=⟨rfl,rfl,rfl,by decide +kernel,rfl,by decide +kernel,by decide +kernel⟩
theorem ok_Measure___init__{f:Addr}{fd:FuncData}{ds:Array Value}(F:FunD K "__init__" "Measure.__init__" s_Measure___init__ f fd ds)(er:Errs K mg c_FeastError c_NoNumber c_TooLong c_NoMeasure c_NoText c_Measure c_Calendar c_Sun c_Rule c_Each)(c_refuse_measure:Cal P w K mg base 2 "refuse_measure" ["base","terms"] (spRefuseM K))(c_period_of:Cal P w K mg base 4 "period_of" ["terms"] (spPeriod K))(c_Measure_upto:CalM P w K mg base CX0 2 c_Measure "upto" ["self","k"] (spUpto K c_Measure))(z_tuple:mg "tuple"=none):FnOk P w K mg base CX0 5 f fd ["self","base","terms"] (spInitM K c_Measure):=by
 refine F.ok (k:=4) sc_Measure___init__ (fun vs H Q E h=>?_) (fun cdv A outer s H vs Q E hr h=>?_)
 ·obtain⟨x,dx,b,v,us,ts,rfl,_⟩:=h
  rfl
 obtain⟨x,dx,b,v,us,ts,rfl,hx,hT,hv,ok,few,g,po,q⟩:=h
 refine⟨_,(pss_cons (ps_fld (pv 0) (pv 1) (by rfl))
  (pss_cons (ps_fld (pv 0) (pe_ifExp (pt_cmpR op_isN (pv 2) pe_non (nomark _)) (pe_tup pa_nil) (pe_callTy call_tuple_of rfl z_tuple PyProof.Rows.boot_tuple (pa_cons (pv 2) pa_nil))) (by rfl))
  (pss_cons (ps_expr (pe_cal c_refuse_measure (hr.mono (by decide)) rfl (pa_cons (pe_fld (pv 0) (by rfl)) (pa_cons (pe_fld (pv 0) (by rfl)) pa_nil))))
  (pss_cons (ps_fld (pv 0) (pe_cal c_period_of (hr.mono (by decide)) rfl (pa_cons (pe_fld (pv 0) (by rfl)) pa_nil)) (by rfl))
  (pss_cons (ps_fld (pv 0) (pe_mcal c_Measure_upto er.cl_Measure (hr.mono (by decide)) (pv 0) (pa_cons (pe_fld (pv 0) (by rfl)) pa_nil)) (by rfl))
  (pss_one (ps_if (pt_cmpR op_eq (pe_fld (pv 0) (by rfl)) pe_int (nomark _))
   (pss_one ps_never)
   pss_nil))))))),?_⟩
 walk_at "rdx"
 refine⟨x,c_Measure,dx,[],rfl,hx,er.cl_Measure,er.na_Measure_base,by decide,?_⟩
 have k1:∀y o,y≠x→H y=some o→upd H x (.ins c_Measure dx (putF (Str.ofString "base") (.int b) [])) y=some o:=fun y o hy h=>by rw[upd_ne hy];exact h
 have x1:upd H x (.ins c_Measure dx (putF (Str.ofString "base") (.int b) [])) x=some (.ins c_Measure dx [(Str.ofString "base",.int b)]):=upd_same
 generalize upd H x (.ins c_Measure dx (putF (Str.ofString "base") (.int b) []))=H1 at k1 x1 ⊢
 have tmk:∀{H':Hp},(∀y o,y≠x→H y=some o→H' y=some o)→Tms H' us ts:=fun{H'} k=>by
  have:∀{vs:List V} {ts:List Tm},Tms H vs ts→Tms H' vs ts:=fun{vs ts} h=>by
   induction h with
   | nil=>exact .nil
   | cons h _ ih=>exact .cons (k _ _ (fun e=>by subst e;rw[hx] at h;cases h) h) ih
  exact this hT
 walk_at "rdx"
 rcases hv with ⟨rfl,eu⟩ | ⟨l,rfl,hl⟩
 all_goals refine⟨rfl,?_⟩
 all_goals walk_at "rdx"
 all_goals first | refine iteD rfl ?_ | refine iteN (fun z=>by cases z) ?_
 all_goals walk_at "rdx"
 all_goals first
  | refine⟨l,us,rfl,.inl ⟨SqL.of (k1 _ _ (ne_of hl hx (by intro z;cases z)) hl),fun p hp=>?_⟩⟩
  | (refine ⟨Nat.zero_le _,fun p hp=>?_⟩
     rw[show upd H1 p (.tup [])=upd H1 p (.tup us) by rw[eu]])
 all_goals
  have px:x≠p:=ne_of_none x1 hp
  walk_at "rdx"
  refine⟨x,c_Measure,dx,_,rfl,by rw[upd_ne px];exact x1,er.cl_Measure,er.na_Measure_terms,(by show 1<1000;decide),?_⟩
  have k2:∀y o,y≠x→H1 y=some o→upd (upd H1 p (.tup us)) x (.ins c_Measure dx (putF (Str.ofString "terms") (.ref p) [(Str.ofString "base",.int b)])) y=some o:=fun y o hy h=>by
   rw[upd_ne hy]
   exact same_new hp _ _ _ h
  have x2:upd (upd H1 p (.tup us)) x (.ins c_Measure dx (putF (Str.ofString "terms") (.ref p) [(Str.ofString "base",.int b)])) x=some (.ins c_Measure dx [(Str.ofString "base",.int b),(Str.ofString "terms",.ref p)]):=upd_same
  have p2:upd (upd H1 p (.tup us)) x (.ins c_Measure dx (putF (Str.ofString "terms") (.ref p) [(Str.ofString "base",.int b)])) p=some (.tup us):=by rw[upd_ne (Ne.symm px),upd_same]
  generalize upd (upd H1 p (.tup us)) x (.ins c_Measure dx (putF (Str.ofString "terms") (.ref p) [(Str.ofString "base",.int b)]))=H2 at k2 x2 p2 ⊢
  have k02:∀y o,y≠x→H y=some o→H2 y=some o:=fun y o hy h=>k2 y o hy (k1 y o hy h)
  have T2:TmT K H2 p ts:=⟨⟨us,SqT.of p2,tmk k02⟩,ok,few⟩
  walk_at "rdx"
  refine⟨x,c_Measure,dx,_,_,rfl,x2,er.cl_Measure,er.na_Measure_base,rfl,?_⟩
  walk_at "rdx"
  refine⟨x,c_Measure,dx,_,_,rfl,x2,er.cl_Measure,er.na_Measure_terms,rfl,?_⟩
  walk_at "rdx"
  refine⟨p,b,ts,rfl,T2,g,fun H3 s3=>?_⟩
  have x3:=s3 _ _ x2
  walk_at "rdx"
  refine⟨x,c_Measure,dx,_,_,rfl,x3,er.cl_Measure,er.na_Measure_terms,rfl,?_⟩
  walk_at "rdx"
  refine⟨p,ts,rfl,T2.same s3,fun H4 s4=>?_⟩
  have x4:=s4 _ _ x3
  have p4:=(s3.trans s4) _ _ p2
  walk_at "rdx"
  refine⟨x,c_Measure,dx,_,rfl,x4,er.cl_Measure,er.na_Measure_full_count,(by show 2<1000;decide),?_⟩
  have pne:p≠x:=Ne.symm px
  have k5:∀y o,y≠x→H4 y=some o→upd H4 x (.ins c_Measure dx (putF (Str.ofString "full_count") (.int (PER ts)) [(Str.ofString "base",.int b),(Str.ofString "terms",.ref p)])) y=some o:=fun y o hy h=>by rw[upd_ne hy];exact h
  have x5:upd H4 x (.ins c_Measure dx (putF (Str.ofString "full_count") (.int (PER ts)) [(Str.ofString "base",.int b),(Str.ofString "terms",.ref p)])) x=some (.ins c_Measure dx [(Str.ofString "base",.int b),(Str.ofString "terms",.ref p),(Str.ofString "full_count",.int (PER ts))]):=upd_same
  generalize upd H4 x (.ins c_Measure dx (putF (Str.ofString "full_count") (.int (PER ts)) [(Str.ofString "base",.int b),(Str.ofString "terms",.ref p)]))=H5 at k5 x5 ⊢
  have k05:∀y o,y≠x→H y=some o→H5 y=some o:=fun y o hy h=>k5 y o hy ((s3.trans s4) _ _ (k02 y o hy h))
  have T5:TmT K H5 p ts:=⟨⟨us,SqT.of (k5 _ _ pne p4),tmk k05⟩,ok,few⟩
  obtain⟨h1,h2⟩:=per_pow ok 6 (by decide)
  rw[List.take_of_length_le few] at h1 h2
  have h3:=pow6 (show 6≤6 by decide)
  walk_at "rdx"
  refine⟨x,dx,_,rfl,x5,rfl,?_⟩
  walk_at "rdx"
  refine⟨x,c_Measure,dx,_,_,rfl,x5,er.cl_Measure,er.na_Measure_full_count,rfl,?_⟩
  walk_at "rdx"
  refine⟨x,p,dx,PER ts,b,ts,_,rfl,x5,rfl,rfl,T5,g.b0,g.b1,bt_small (by omega) (by omega) (by decide),fun H6 s6=>?_⟩
  have x6:=s6 _ _ x5
  walk_at "rdx"
  refine⟨x,c_Measure,dx,_,rfl,x6,er.cl_Measure,er.na_Measure_full_sum,(by show 3<1000;decide),?_⟩
  have k7:∀y o,y≠x→H6 y=some o→upd H6 x (.ins c_Measure dx (putF (Str.ofString "full_sum") (.int (UP b ts (PER ts))) [(Str.ofString "base",.int b),(Str.ofString "terms",.ref p),(Str.ofString "full_count",.int (PER ts))])) y=some o:=fun y o hy h=>by rw[upd_ne hy];exact h
  have x7:upd H6 x (.ins c_Measure dx (putF (Str.ofString "full_sum") (.int (UP b ts (PER ts))) [(Str.ofString "base",.int b),(Str.ofString "terms",.ref p),(Str.ofString "full_count",.int (PER ts))])) x=some (.ins c_Measure dx (mF b p (PER ts) (UP b ts (PER ts)))):=upd_same
  generalize upd H6 x (.ins c_Measure dx (putF (Str.ofString "full_sum") (.int (UP b ts (PER ts))) [(Str.ofString "base",.int b),(Str.ofString "terms",.ref p),(Str.ofString "full_count",.int (PER ts))]))=H7 at k7 x7 ⊢
  have k07:∀y o,y≠x→H y=some o→H7 y=some o:=fun y o hy h=>k7 y o hy (s6 _ _ (k05 y o hy h))
  walk_at "rdx"
  refine⟨x,c_Measure,dx,_,_,rfl,x7,er.cl_Measure,er.na_Measure_full_sum,rfl,?_⟩
  walk_at "rdx"
  refine iteN (fun z=>by have:=V.int.inj z;omega) ?_
  walk_at "rdx"
  refine q _ k07 ⟨⟨dx,p,x7,⟨us,SqT.of (k7 _ _ pne (s6 _ _ (k5 _ _ pne p4))),tmk k07⟩,ok,few⟩,g,po⟩
theorem sc_Measure_at:FnScope ["self","k"] ["self","k"] (defScope s_Measure_at):=⟨rfl,rfl,rfl,by decide +kernel,rfl,by decide +kernel,by decide +kernel⟩
theorem ok_Measure_at{f:Addr}{fd:FuncData}(F:Fun K "at" "Measure.at" s_Measure_at f fd)(er:Errs K mg c_FeastError c_NoNumber c_TooLong c_NoMeasure c_NoText c_Measure c_Calendar c_Sun c_Rule c_Each)(c_term_on:Cal P w K mg base 1 "term_on" ["term","k"] spTermOn)(z_sum:mg "sum"=none):FnOk P w K mg base CX0 2 f fd ["self","k"] (spAt K c_Measure):=by
 refine F.ok (k:=1) sc_Measure_at (fun vs H Q E h=>?_) (fun cdv A outer s H vs Q E hr h=>?_)
 ·obtain⟨x,k,b,ts,rfl,_⟩:=h
  rfl
 obtain⟨x,k,b,ts,rfl,M,bk,q⟩:=h
 obtain⟨dx,p,hx,T⟩:=M.ex
 obtain⟨us,hS,hT⟩:=T.ex
 refine⟨_,(pss_one (ps_ret (pe_op op_add (pe_fld (pv 0) (by rfl)) (pe_callB (call_sum rfl) rfl z_sum PyProof.Rows.boot_sum (pa_cons (pe_comp rfl (compOk_freeM ["self","k"] ["self","k"] rfl rfl (by with_unfolding_all rfl) (by decide +kernel) rfl (by decide +kernel) rfl (by decide +kernel) (by walk_at "fm") (by with_unfolding_all rfl) (by with_unfolding_all rfl)) (pi_tup (pe_fld (pv 0) (by rfl))) (fun _ _ _ _=>(pifs_one (pt_val (pe_cal c_term_on (hr.mono (by decide)) rfl (pa_cons (pv 0) (pa_cons (pv 2) pa_nil)))))) (fun _ _ _ _=>(pe_ix ix_tup_c (pv 0) pe_int (fun _ _=>rfl)))) pa_nil))))),?_⟩
 walk_at "rdx"
 refine⟨x,c_Measure,dx,_,_,rfl,hx,er.cl_Measure,er.na_Measure_base,rfl,?_⟩
 walk_at "rdx"
 refine rd_comp (rd_iT ?_)
 walk_at "rdx"
 refine⟨x,c_Measure,dx,_,_,rfl,hx,er.cl_Measure,er.na_Measure_terms,rfl,?_⟩
 refine⟨p,rfl,⟨_,hS⟩,comp_go walk_t (by rw[hT.len];exact small1000 (by have:=T.few;omega)) (fun D ys hD=>(same_new hD _).tup hS) (fun v=>((tmAt H v).map fun t=>onT t k).getD false) (fun v=>((tmAt H v).map fun t=>V.int t.1).getD .non) (fun y hy D ys Q' hD h=>?_) (fun y hy _ D ys Q' hD h=>?_) (fun D hD=>?_)⟩
 ·obtain⟨a,t,rfl,ht,ha⟩:=hT.mem hy
  rw[tmAt_eq ha] at h
  walk_at "rdx"
  exact⟨a,k,t,rfl,same_new hD _ _ _ ha,T.ok t ht,bk,⟨_,rfl,h⟩⟩
 ·obtain⟨a,t,rfl,ht,ha⟩:=hT.mem hy
  rw[tmAt_eq ha] at h
  walk_at "rdx"
  refine rd_ixT (SqT.of (same_new hD _ _ _ ha)) at40 ?_
  exact h
 rw[hT.fm (fun t=>onT t k) fun t=>V.int t.1]
 have e:((ts.filter fun t=>onT t k).map fun t=>V.int t.1)=((ts.filter fun t=>onT t k).map fun t=>t.1).map V.int:=by rw[List.map_map];rfl
 rw[e]
 walk_at "rdx"
 refine⟨D,_,rfl,SqL.of upd_same,?_⟩
 walk_at "rdx"
 exact q _ (same_new hD _)
theorem sc_Measure_seek:FnScope ["self","total","rest","low","high","middle"] ["self","total"] (defScope s_Measure_seek):=⟨rfl,rfl,rfl,by decide +kernel,rfl,by decide +kernel,by decide +kernel⟩
theorem ok_Measure_seek{f:Addr}{fd:FuncData}(F:Fun K "seek" "Measure.seek" s_Measure_seek f fd)(er:Errs K mg c_FeastError c_NoNumber c_TooLong c_NoMeasure c_NoText c_Measure c_Calendar c_Sun c_Rule c_Each)(c_Measure_upto:CalM P w K mg base CX0 2 c_Measure "upto" ["self","k"] (spUpto K c_Measure)):FnOk P w K mg base CX0 3 f fd ["self","total"] (spSeek K c_Measure):=by
 refine F.ok (k:=2) sc_Measure_seek (fun vs H Q E h=>?_) (fun cdv A outer s H vs Q E hr h=>?_)
 ·obtain⟨x,n,b,ts,rfl,_⟩:=h
  rfl
 obtain⟨x,n,b,ts,rfl,M,bn,q⟩:=h
 obtain⟨dx,p,hx,T⟩:=M.ex
 have po:=M.po
 have g:=M.gd
 have hb0:=g.b0
 have hb1:=g.b1
 have up:=UP_step (base:=b) T.ok
 have mono:=fun{j k:Int} (h:j≤k)=>UP_mono T.ok g.fl h
 have per:=UP_per (base:=b) T.ok (P:=PER ts) (fun t ht=>by
  have:=per_dvd T.ok 6 (by decide)
  rw[List.take_of_length_le T.few] at this
  exact this t ht)
 obtain⟨h1,h2⟩:=per_pow T.ok 6 (by decide)
 rw[List.take_of_length_le T.few] at h1 h2
 have h3:=pow6 (show 6≤6 by decide)
 have uz:=UP_zero (base:=b) T.ok
 have sl:=SU_le T.ok (Int.le_of_lt h1)
 have ln:(ts.length:Int)*PER ts≤6*PER ts:=Int.mul_le_mul_of_nonneg_right (by have:=T.few;omega) (Int.le_of_lt h1)
 have bm:b*PER ts≤20000*PER ts:=Int.mul_le_mul_of_nonneg_right hb1 (Int.le_of_lt h1)
 have us:UP b ts (PER ts)=b*PER ts+SU ts (PER ts):=rfl
 have bS:Bt 500 (UP b ts (PER ts)):=(bt_of (by omega) (by omega)).mono (by decide)
 clear us bm ln sl
 generalize hP:PER ts=P at*
 generalize hS:UP b ts P=S at*
 have m0:=Int.emod_nonneg n (show S≠0 by omega)
 have m1:=Int.emod_lt_of_pos n po
 have md:=Int.mul_ediv_add_emod n S
 refine⟨_,(pss_cons (ps_set (i:=2) sc_Measure_seek.nd rfl (by first | exact Or.inl rfl | exact Or.inr rfl) (pe_op op_mod (pv 1) (pe_fld (pv 0) (by rfl))))
  (pss_cons (ps_set (i:=3) sc_Measure_seek.nd rfl (by first | exact Or.inl rfl | exact Or.inr rfl) pe_int)
  (pss_cons (ps_set (i:=4) sc_Measure_seek.nd rfl (by first | exact Or.inl rfl | exact Or.inr rfl) (pe_fld (pv 0) (by rfl)))
  (pss_cons (ps_while PassesOwn.never (pt_cmpR op_gt (pe_op op_sub (pv 4) (pv 3)) pe_int (nomark _))
   (pss_cons (ps_set (i:=5) sc_Measure_seek.nd rfl (by first | exact Or.inl rfl | exact Or.inr rfl) (pe_op op_fdivB (pe_op op_add (pv 3) (pv 4)) pe_int))
  (pss_one (ps_cut (ps_if (pt_cmpR op_le (pe_mcal c_Measure_upto er.cl_Measure (hr.mono (by decide)) (pv 0) (pa_cons (pv 5) pa_nil)) (pv 2) (nomark _))
   (pss_one (ps_set (i:=3) sc_Measure_seek.nd rfl (by first | exact Or.inl rfl | exact Or.inr rfl) (pv 5)))
   (pss_one (ps_set (i:=4) sc_Measure_seek.nd rfl (by first | exact Or.inl rfl | exact Or.inr rfl) (pv 5))))))))
  (pss_one (ps_ret (pe_op op_add (pe_op op_mulB (pe_op op_fdivB (pv 1) (pe_fld (pv 0) (by rfl))) (pe_fld (pv 0) (by rfl))) (pv 3)))))))),?_⟩
 walk_at "rdx"
 refine⟨x,c_Measure,dx,_,_,rfl,hx,er.cl_Measure,er.na_Measure_full_sum,rfl,?_⟩
 walk_at "rdx"
 refine⟨x,c_Measure,dx,_,_,rfl,hx,er.cl_Measure,er.na_Measure_full_count,rfl,?_⟩
 walk_at "rdx"
 refine⟨fun m σ' H'=>Same H H'∧∃(lo hi:Int) (c:Option V),σ'=[some (.ref x),some (.int n),some (.int (n%S)),some (.int lo),some (.int hi),c]∧0≤lo∧lo<hi∧hi≤P∧UP b ts lo≤n%S∧n%S<UP b ts hi∧m=(hi-lo).toNat,
  ⟨_,Same.refl _,0,P,none,rfl,by decide,h1,Int.le_refl _,by rw[uz];exact m0,by rw[hS];exact m1,rfl⟩,?_⟩
 rintro m σ' H1 ⟨s1,lo,hi,c,rfl,l0,lh,hP',u1,u2,rfl⟩
 walk_at "rdx"
 refine ite2d (fun cc=>?_) (fun cc=>?_)
 ·refine⟨_,fun σ' H' hh=>hh,?_⟩
  walk_at "rdx"
  generalize hm:(lo+hi)/2=mi
  refine rd_cut (fun σ' H'=>∃i,i<(hi-lo).toNat∧Same H H'∧∃(lo hi:Int) (c:Option V),σ'=[some (.ref x),some (.int n),some (.int (n%S)),some (.int lo),some (.int hi),c]∧0≤lo∧lo<hi∧hi≤P∧UP b ts lo≤n%S∧n%S<UP b ts hi∧i=(hi-lo).toNat) ?_ (fun _ _ h=>h)
  walk_at "rdx"
  refine⟨x,dx,_,rfl,s1 _ _ hx,rfl,?_⟩
  walk_at "rdx"
  refine⟨x,p,dx,mi,b,ts,_,rfl,s1 _ _ hx,rfl,rfl,T.same s1,hb0,hb1,bt_small (by omega) (by omega) (by decide),fun H2 s2=>?_⟩
  walk_at "rdx"
  refine ite2d (fun c2=>?_) (fun c2=>?_)
  ·walk_at "rdx"
   exact⟨(hi-mi).toNat,by omega,s1.trans s2,mi,hi,_,rfl,by omega,by omega,hP',c2,u2,rfl⟩
  ·walk_at "rdx"
   exact⟨(mi-lo).toNat,by omega,s1.trans s2,lo,mi,_,rfl,l0,by omega,by omega,u1,by omega,rfl⟩
 ·have e:hi=lo+1:=by omega
  subst e
  walk_at "rdx"
  refine⟨x,c_Measure,dx,_,_,rfl,s1 _ _ hx,er.cl_Measure,er.na_Measure_full_sum,rfl,?_⟩
  walk_at "rdx"
  refine rd_i ⟨po,bS.mono (by decide)⟩ ?_
  walk_at "rdx"
  refine⟨x,c_Measure,dx,_,_,rfl,s1 _ _ hx,er.cl_Measure,er.na_Measure_full_count,rfl,?_⟩
  have bP:Bt 64 P:=bt_small (by omega) (by omega) (by decide)
  refine rd_i ⟨300,64,bt_div bn po,bP,by decide⟩ ?_
  walk_at "rdx"
  have e:=per lo (n/S)
  have e':=per (lo+1) (n/S)
  rw[show n/S*P+lo=lo+P*(n/S) by rw[Int.mul_comm];omega]
  refine q _ _ s1 ?_ ?_ ?_
  ·rw[e,Int.mul_comm (n/S) S]
   omega
  ·rw[show lo+P*(n/S)+1=lo+1+P*(n/S) by omega,e',Int.mul_comm (n/S) S]
   omega
  ·have:=(bP.mul (bt_div bn po)).add ((show Bt 64 lo from bt_small (by omega) (by omega) (by decide)).mono (show 64≤64+300 by decide))
   rw[Int.add_comm]
   exact this.mono (by decide)
theorem sc_refuse_months:FnScope ["lengths","leap"] ["lengths","leap"] (defScope s_refuse_months):=⟨rfl,rfl,rfl,by decide +kernel,rfl,by decide +kernel,by decide +kernel⟩
theorem ok_refuse_months{f:Addr}{fd:FuncData}(F:Fun K "refuse_months" "refuse_months" s_refuse_months f fd)(z_len:mg "len"=none)(z_min:mg "min"=none)(z_max:mg "max"=none){tk_MOST_MONTHS:Tok}(m_MOST_MONTHS:mg "MOST_MONTHS"=some (.int 20 tk_MOST_MONTHS)){tk_LONGEST_MONTH:Tok}(m_LONGEST_MONTH:mg "LONGEST_MONTH"=some (.int 1000 tk_LONGEST_MONTH)):FnOk P w K mg base CX0 1 f fd ["lengths","leap"] (spRefMo K):=by
 refine F.ok (k:=0) sc_refuse_months (fun vs H Q E h=>?_) (fun cdv A outer s H vs Q E hr h=>?_)
 ·obtain⟨l,lp,ls,ts,rfl,_⟩:=h
  rfl
 obtain⟨l,lp,ls,ts,rfl,hS,g,q⟩:=h
 have l0:=g.l0
 have l1:=g.l1
 have p0:=g.p0
 have p1:=g.p1
 have ne:ls≠[]:=fun z=>by rw[z] at l0;simp at l0
 refine⟨_,(pss_cons (ps_if (PW.pt (pw_or (pt_cmpR op_lt (pe_callB call_len_seq rfl z_len PySem.boot_len (pa_cons (pv 0) pa_nil)) pe_int (nomark _)) (pw_or1 (pt_cmpR op_gt (pe_callB call_len_seq rfl z_len PySem.boot_len (pa_cons (pv 0) pa_nil)) (pe_glob rfl m_MOST_MONTHS (rel_int _ _)) (nomark _)))))
  (pss_one ps_never)
  pss_nil)
  (pss_cons (ps_if (PW.pt (pw_or (pt_cmpR op_lt (pe_callB (call_minL rfl) rfl z_min PyProof.Rows.boot_min (pa_cons (pv 0) pa_nil)) pe_int (nomark _)) (pw_or1 (pt_cmpR op_gt (pe_callB (call_maxL rfl) rfl z_max PyProof.Rows.boot_max (pa_cons (pv 0) pa_nil)) (pe_glob rfl m_LONGEST_MONTH (rel_int _ _)) (nomark _)))))
   (pss_one ps_never)
   pss_nil)
  (pss_one (ps_if (PW.pt (pw_or (pt_cmpR op_lt (pv 1) pe_int (nomark _)) (pw_or1 (pt_cmpR op_gt (pv 1) (pe_callB call_len_seq rfl z_len PySem.boot_len (pa_cons (pv 0) pa_nil)) (nomark _)))))
   (pss_one ps_never)
   pss_nil)))),?_⟩
 walk_at "rdx"
 refine⟨l,_,rfl,.inl hS,?_⟩
 rw[List.length_map]
 walk_at "rdx"
 refine iteN (by omega) ?_
 walk_at "rdx"
 refine⟨l,_,rfl,.inl hS,?_⟩
 rw[List.length_map]
 walk_at "rdx"
 refine iteN (by omega) ?_
 walk_at "rdx"
 refine⟨l,ls,rfl,hS,ne,fun m hm _=>?_⟩
 have:=g.m m hm
 walk_at "rdx"
 refine iteN (by omega) ?_
 walk_at "rdx"
 refine⟨l,ls,rfl,hS,ne,fun m hm _=>?_⟩
 have:=g.m m hm
 walk_at "rdx"
 refine iteN (by omega) ?_
 walk_at "rdx"
 refine iteN (by omega) ?_
 walk_at "rdx"
 refine⟨l,_,rfl,.inl hS,?_⟩
 rw[List.length_map]
 walk_at "rdx"
 refine iteN (by omega) ?_
 walk_at "rdx"
 exact q
theorem sc_Sun___init__:FnScope ["self","start","lengths","leap","terms"] ["self","start","lengths","leap","terms"] (defScope s_Sun___init__):=⟨rfl,rfl,rfl,by decide +kernel,rfl,by decide +kernel,by decide +kernel⟩
theorem ok_Sun___init__{f:Addr}{fd:FuncData}{ds:Array Value}(F:FunD K "__init__" "Sun.__init__" s_Sun___init__ f fd ds)(er:Errs K mg c_FeastError c_NoNumber c_TooLong c_NoMeasure c_NoText c_Measure c_Calendar c_Sun c_Rule c_Each)(c_refuse_months:Cal P w K mg base 1 "refuse_months" ["lengths","leap"] (spRefMo K))(c_Measure___init__:CalI P w K mg base CX0 5 "Measure" c_Measure ["self","base","terms"] (spInitM K c_Measure))(c_least_length:Cal P w K mg base 1 "least_length" ["base","terms"] (spLeast K))(z_tuple:mg "tuple"=none)(z_sum:mg "sum"=none):FnOk P w K mg base CX0 7 f fd ["self","start","lengths","leap","terms"] (spInitS K c_Sun c_Measure):=by
 refine F.ok (k:=6) sc_Sun___init__ (fun vs H Q E h=>?_) (fun cdv A outer s H vs Q E hr h=>?_)
 ·obtain⟨x,dx,ll,s,lp,v,us,ls,ts,rfl,_⟩:=h
  rfl
 obtain⟨x,dx,ll,s,lp,v,us,ls,ts,rfl,hx,hl,hT,hv,g,bs,q⟩:=h
 have lx:ll≠x:=ne_of hl hx (by intro z;cases z)
 have l0:=g.l0
 have l1:=g.l1
 have p0:=g.p0
 have p1:=g.p1
 have f0:=g.f0
 have f1:=g.f1
 refine⟨_,(pss_cons (ps_expr (pe_cal c_refuse_months (hr.mono (by decide)) rfl (pa_cons (pv 2) (pa_cons (pv 3) pa_nil))))
  (pss_cons (ps_fld (pv 0) (pv 1) (by rfl))
  (pss_cons (ps_fld (pv 0) (pe_callTy call_tuple_of rfl z_tuple PyProof.Rows.boot_tuple (pa_cons (pv 2) pa_nil)) (by rfl))
  (pss_cons (ps_fld (pv 0) (pv 3) (by rfl))
  (pss_cons (ps_fld (pv 0) (pe_mk c_Measure___init__ (hr.mono (by decide)) rfl (pa_cons (pe_callB (call_sum rfl) rfl z_sum PyProof.Rows.boot_sum (pa_cons (pv 2) pa_nil)) (pa_cons (pv 4) pa_nil))) (by rfl))
  (pss_cons (ps_if (pt_cmpR op_lt (pe_cal c_least_length (hr.mono (by decide)) rfl (pa_cons (pe_ix ix_list (pv 2) (pe_op op_sub (pv 3) pe_int) (fun _ _=>rfl)) (pa_cons (pe_fld (pe_fld (pv 0) (by rfl)) (by rfl)) pa_nil))) pe_int (nomark _))
   (pss_one ps_never)
   pss_nil)
  (pss_one (ps_if (pt_cmpR op_lt (pe_cal c_least_length (hr.mono (by decide)) rfl (pa_cons (pe_fld (pe_fld (pv 0) (by rfl)) (by rfl)) (pa_cons (pe_fld (pe_fld (pv 0) (by rfl)) (by rfl)) pa_nil))) pe_int (nomark _))
   (pss_one ps_never)
   pss_nil)))))))),?_⟩
 walk_at "rdx"
 refine⟨ll,lp,ls,ts,rfl,SqL.of hl,g,?_⟩
 walk_at "rdx"
 refine⟨x,c_Sun,dx,[],rfl,hx,er.cl_Sun,er.na_Sun_start,by decide,?_⟩
 have k1:But x H (upd H x (.ins c_Sun dx (putF (Str.ofString "start") (.int s) []))):=But.upd
 have x1:upd H x (.ins c_Sun dx (putF (Str.ofString "start") (.int s) [])) x=some (.ins c_Sun dx [(Str.ofString "start",.int s)]):=upd_same
 generalize upd H x (.ins c_Sun dx (putF (Str.ofString "start") (.int s) []))=H1 at k1 x1 ⊢
 walk_at "rdx"
 refine⟨ll,_,rfl,.inl ⟨SqL.of (k1 _ _ lx hl),fun p hp=>?_⟩⟩
 have px:x≠p:=ne_of_none x1 hp
 walk_at "rdx"
 refine⟨x,c_Sun,dx,_,rfl,by rw[upd_ne px];exact x1,er.cl_Sun,er.na_Sun_months,(by show 1<1000;decide),?_⟩
 have k2:But x H1 (upd (upd H1 p (.tup (ls.map V.int))) x (.ins c_Sun dx (putF (Str.ofString "months") (.ref p) [(Str.ofString "start",.int s)]))):=fun y o hy h=>by
  rw[upd_ne hy]
  exact same_new hp _ _ _ h
 have x2:upd (upd H1 p (.tup (ls.map V.int))) x (.ins c_Sun dx (putF (Str.ofString "months") (.ref p) [(Str.ofString "start",.int s)])) x=some (.ins c_Sun dx [(Str.ofString "start",.int s),(Str.ofString "months",.ref p)]):=upd_same
 have t2:upd (upd H1 p (.tup (ls.map V.int))) x (.ins c_Sun dx (putF (Str.ofString "months") (.ref p) [(Str.ofString "start",.int s)])) p=some (.tup (ls.map V.int)):=by rw[upd_ne (Ne.symm px),upd_same]
 generalize upd (upd H1 p (.tup (ls.map V.int))) x (.ins c_Sun dx (putF (Str.ofString "months") (.ref p) [(Str.ofString "start",.int s)]))=H2 at k2 x2 t2 ⊢
 walk_at "rdx"
 refine⟨x,c_Sun,dx,_,rfl,x2,er.cl_Sun,er.na_Sun_leap,(by show 2<1000;decide),?_⟩
 have k3:But x H2 (upd H2 x (.ins c_Sun dx (putF (Str.ofString "leap") (.int lp) [(Str.ofString "start",.int s),(Str.ofString "months",.ref p)]))):=But.upd
 have x3:upd H2 x (.ins c_Sun dx (putF (Str.ofString "leap") (.int lp) [(Str.ofString "start",.int s),(Str.ofString "months",.ref p)])) x=some (.ins c_Sun dx [(Str.ofString "start",.int s),(Str.ofString "months",.ref p),(Str.ofString "leap",.int lp)]):=upd_same
 generalize upd H2 x (.ins c_Sun dx (putF (Str.ofString "leap") (.int lp) [(Str.ofString "start",.int s),(Str.ofString "months",.ref p)]))=H3 at k3 x3 ⊢
 have k03:But x H H3:=fun y o hy h=>k3 y o hy (k2 y o hy (k1 y o hy h))
 have l3:=k03 _ _ lx hl
 have t3:=k3 _ _ (Ne.symm px) t2
 walk_at "rdx"
 refine⟨ll,ls,rfl,SqL.of l3,?_⟩
 walk_at "rdx"
 refine fun y dy hy hdy ne=>init_me hy hdy ne (hT.but hx .ins k03) ?_ g.ok g.few g.gm g.po fun H4 s4 M4=>⟨rfl,?_⟩
 ·rcases hv with z | ⟨l,z,e⟩
  ·exact .inl z
  ·exact .inr ⟨l,z,k03 _ _ (ne_of e hx (by intro z;cases z)) e⟩
 have x4:=s4 _ _ x3
 have yx:y≠x:=fun e=>by subst e;rw[x3] at hy;cases hy
 walk_at "rdx"
 refine⟨x,c_Sun,dx,_,rfl,x4,er.cl_Sun,er.na_Sun_years,(by show 3<1000;decide),?_⟩
 have k5:But x H4 (upd H4 x (.ins c_Sun dx (putF (Str.ofString "years") (.ref y) [(Str.ofString "start",.int s),(Str.ofString "months",.ref p),(Str.ofString "leap",.int lp)]))):=But.upd
 have x5:upd H4 x (.ins c_Sun dx (putF (Str.ofString "years") (.ref y) [(Str.ofString "start",.int s),(Str.ofString "months",.ref p),(Str.ofString "leap",.int lp)])) x=some (.ins c_Sun dx (sF s lp p y)):=upd_same
 generalize upd H4 x (.ins c_Sun dx (putF (Str.ofString "years") (.ref y) [(Str.ofString "start",.int s),(Str.ofString "months",.ref p),(Str.ofString "leap",.int lp)]))=H5 at k5 x5 ⊢
 have M5:=M4.butX x4 .ins yx k5
 have t5:=k5 _ _ (Ne.symm px) (s4 _ _ t3)
 have l5:=k5 _ _ lx (s4 _ _ l3)
 have k05:∀y o,y≠x→H y=some o→H5 y=some o:=fun y o hy h=>k5 y o hy (s4 _ _ (k03 y o hy h))
 obtain⟨d5,tp,e5,T5⟩:=M5.ex
 have elp:lp-1=(((lp-1).toNat:Nat):Int):=by omega
 have hat:atI (ls.map V.int) (lp-1)=some (V.int (ls.getD (lp-1).toNat 0)):=by
  conv=>lhs;rw[elp]
  refine atI_nat ?_
  rw[List.getElem?_map,List.getD_eq_getElem?_getD,List.getElem?_eq_getElem (by omega)]
  rfl
 walk_at "rdx"
 refine rd_ixL (SqL.of l5) hat ?_
 walk_at "rdx"
 refine⟨x,c_Sun,dx,_,_,rfl,x5,er.cl_Sun,er.na_Sun_years,rfl,?_⟩
 walk_at "rdx"
 refine⟨y,c_Measure,d5,_,_,rfl,e5,er.cl_Measure,er.na_Measure_terms,rfl,?_⟩
 walk_at "rdx"
 refine⟨tp,_,ts,rfl,T5,fun H6 s6=>?_⟩
 walk_at "rdx"
 refine iteN (by omega) ?_
 walk_at "rdx"
 have x6:=s6 _ _ x5
 have e6:=s6 _ _ e5
 refine⟨x,c_Sun,dx,_,_,rfl,x6,er.cl_Sun,er.na_Sun_years,rfl,?_⟩
 walk_at "rdx"
 refine⟨y,c_Measure,d5,_,_,rfl,e6,er.cl_Measure,er.na_Measure_base,rfl,?_⟩
 walk_at "rdx"
 refine⟨x,c_Sun,dx,_,_,rfl,x6,er.cl_Sun,er.na_Sun_years,rfl,?_⟩
 walk_at "rdx"
 refine⟨y,c_Measure,d5,_,_,rfl,e6,er.cl_Measure,er.na_Measure_terms,rfl,?_⟩
 walk_at "rdx"
 refine⟨tp,_,ts,rfl,T5.same s6,fun H7 s7=>?_⟩
 walk_at "rdx"
 refine iteN (by omega) ?_
 walk_at "rdx"
 refine q _ (fun y o hy h=>s7 _ _ (s6 _ _ (k05 y o hy h))) ⟨⟨dx,p,y,s7 _ _ x6,SqT.of (s7 _ _ (s6 _ _ t5)),(M5.same s6).same s7⟩,g,bs⟩
theorem sc_Sun_year_start:FnScope ["self","year"] ["self","year"] (defScope s_Sun_year_start):=⟨rfl,rfl,rfl,by decide +kernel,rfl,by decide +kernel,by decide +kernel⟩
theorem ok_Sun_year_start{f:Addr}{fd:FuncData}(F:Fun K "year_start" "Sun.year_start" s_Sun_year_start f fd)(er:Errs K mg c_FeastError c_NoNumber c_TooLong c_NoMeasure c_NoText c_Measure c_Calendar c_Sun c_Rule c_Each)(c_Measure_upto:CalM P w K mg base CX0 2 c_Measure "upto" ["self","k"] (spUpto K c_Measure)):FnOk P w K mg base CX0 3 f fd ["self","year"] (spYS K c_Sun c_Measure):=by
 refine F.ok (k:=2) sc_Sun_year_start (fun vs H Q E h=>?_) (fun cdv A outer s H vs Q E hr h=>?_)
 ·obtain⟨x,n,s,ls,lp,ts,rfl,_⟩:=h
  rfl
 obtain⟨x,n,s,ls,lp,ts,rfl,S,bn,q⟩:=h
 obtain⟨dx,p,y,hx,hp,M⟩:=S.ex
 obtain⟨d,fs,ey,ly⟩:=M.meth
 obtain⟨d2,tp,e2,T2⟩:=M.ex
 refine⟨_,(pss_one (ps_ret (pe_op op_add (pe_fld (pv 0) (by rfl)) (pe_mcal c_Measure_upto er.cl_Measure (hr.mono (by decide)) (pe_fld (pv 0) (by rfl)) (pa_cons (pv 1) pa_nil))))),?_⟩
 walk_at "rdx"
 refine⟨x,c_Sun,dx,_,_,rfl,hx,er.cl_Sun,er.na_Sun_start,rfl,?_⟩
 walk_at "rdx"
 refine⟨x,c_Sun,dx,_,_,rfl,hx,er.cl_Sun,er.na_Sun_years,rfl,?_⟩
 walk_at "rdx"
 refine⟨y,d,fs,rfl,ey,ly.2.2.1,?_⟩
 walk_at "rdx"
 refine⟨y,tp,d2,n,_,ts,_,rfl,e2,rfl,rfl,T2,M.gd.b0,M.gd.b1,bn.mono (by decide),fun H' s'=>?_⟩
 walk_at "rdx"
 exact q _ s'
theorem sc_Sun_year_at:FnScope ["self","day"] ["self","day"] (defScope s_Sun_year_at):=⟨rfl,rfl,rfl,by decide +kernel,rfl,by decide +kernel,by decide +kernel⟩
theorem ok_Sun_year_at{f:Addr}{fd:FuncData}(F:Fun K "year_at" "Sun.year_at" s_Sun_year_at f fd)(er:Errs K mg c_FeastError c_NoNumber c_TooLong c_NoMeasure c_NoText c_Measure c_Calendar c_Sun c_Rule c_Each)(c_Measure_seek:CalM P w K mg base CX0 3 c_Measure "seek" ["self","total"] (spSeek K c_Measure)):FnOk P w K mg base CX0 4 f fd ["self","day"] (spYA K c_Sun c_Measure):=by
 refine F.ok (k:=3) sc_Sun_year_at (fun vs H Q E h=>?_) (fun cdv A outer s H vs Q E hr h=>?_)
 ·obtain⟨x,n,s,ls,lp,ts,rfl,_⟩:=h
  rfl
 obtain⟨x,n,s,ls,lp,ts,rfl,S,bn,q⟩:=h
 obtain⟨dx,p,y,hx,hp,M⟩:=S.ex
 obtain⟨d,fs,ey,ly⟩:=M.meth
 refine⟨_,(pss_one (ps_ret (pe_mcal c_Measure_seek er.cl_Measure (hr.mono (by decide)) (pe_fld (pv 0) (by rfl)) (pa_cons (pe_op op_sub (pv 1) (pe_fld (pv 0) (by rfl))) pa_nil)))),?_⟩
 walk_at "rdx"
 refine⟨x,c_Sun,dx,_,_,rfl,hx,er.cl_Sun,er.na_Sun_years,rfl,?_⟩
 walk_at "rdx"
 refine⟨y,d,fs,rfl,ey,ly.1,?_⟩
 walk_at "rdx"
 refine⟨x,c_Sun,dx,_,_,rfl,hx,er.cl_Sun,er.na_Sun_start,rfl,?_⟩
 walk_at "rdx"
 refine⟨y,n-s,_,ts,rfl,M,(bn.sub S.bs).mono (by decide),fun k H' s' u1 u2 bk=>?_⟩
 exact q _ _ s' (by omega) (by omega) (((bn.sub S.bs).le (seek_small S.gd.ok S.gd.f1 u1 u2)).mono (by decide))
theorem sc_Sun_lengths:FnScope ["self","year","told"] ["self","year"] (defScope s_Sun_lengths):=⟨rfl,rfl,rfl,by decide +kernel,rfl,by decide +kernel,by decide +kernel⟩
theorem ok_Sun_lengths{f:Addr}{fd:FuncData}(F:Fun K "lengths" "Sun.lengths" s_Sun_lengths f fd)(er:Errs K mg c_FeastError c_NoNumber c_TooLong c_NoMeasure c_NoText c_Measure c_Calendar c_Sun c_Rule c_Each)(c_Measure_at:CalM P w K mg base CX0 2 c_Measure "at" ["self","k"] (spAt K c_Measure))(z_list:mg "list"=none):FnOk P w K mg base CX0 3 f fd ["self","year"] (spLens K c_Sun c_Measure):=by
 refine F.ok (k:=2) sc_Sun_lengths (fun vs H Q E h=>?_) (fun cdv A outer s H vs Q E hr h=>?_)
 ·obtain⟨x,n,s,ls,lp,ts,rfl,_⟩:=h
  rfl
 obtain⟨x,n,s,ls,lp,ts,rfl,S,bn,q⟩:=h
 obtain⟨dx,p,y,hx,hp,M⟩:=S.ex
 have g:=S.gd
 have p0:=g.p0
 have p1:=g.p1
 have elp:lp-1=(((lp-1).toNat:Nat):Int):=by omega
 generalize hi:(lp-1).toNat=i at elp
 have il:i<ls.length:=by omega
 refine⟨_,(pss_cons (ps_set (i:=2) sc_Sun_lengths.nd rfl (by first | exact Or.inl rfl | exact Or.inr rfl) (pe_callTy call_list_of rfl z_list PyProof.Rows.boot_list (pa_cons (pe_fld (pv 0) (by rfl)) pa_nil)))
  (pss_cons (ps_asg (pe_op op_sub (pe_op op_add (pe_ix ix_list (pv 2) (pe_op op_sub (pe_fld (pv 0) (by rfl)) pe_int) (fun _ _=>rfl)) (pe_mcal c_Measure_at er.cl_Measure (hr.mono (by decide)) (pe_fld (pv 0) (by rfl)) (pa_cons (pv 1) pa_nil))) (pe_fld (pe_fld (pv 0) (by rfl)) (by rfl))) (pg_sub (pv 2) (pe_op op_sub (pe_fld (pv 0) (by rfl)) pe_int) set_list))
  (pss_one (ps_ret (pv 2))))),?_⟩
 walk_at "rdx"
 refine⟨x,c_Sun,dx,_,_,rfl,hx,er.cl_Sun,er.na_Sun_months,rfl,?_⟩
 walk_at "rdx"
 refine⟨p,_,rfl,.inr hp,fun l hl=>?_⟩
 have s1:=same_new hl (.lst (ls.map V.int))
 have t1:upd H l (.lst (ls.map V.int)) l=some (.lst (ls.map V.int)):=upd_same
 generalize upd H l (.lst (ls.map V.int))=H1 at s1 t1 ⊢
 have M1:=M.same s1
 obtain⟨d1,fs,e1,l1⟩:=M1.meth
 obtain⟨d2,tp,e2,T2⟩:=M1.ex
 have x1:=s1 _ _ hx
 walk_at "rdx"
 refine⟨x,c_Sun,dx,_,_,rfl,x1,er.cl_Sun,er.na_Sun_leap,rfl,?_⟩
 walk_at "rdx"
 rw[elp]
 have hat:atI (ls.map V.int) (i:Int)=some (V.int (ls.getD i 0)):=by
  refine atI_nat ?_
  rw[List.getElem?_map,List.getD_eq_getElem?_getD,List.getElem?_eq_getElem il]
  rfl
 refine rd_ixL (SqL.of t1) hat ?_
 walk_at "rdx"
 refine⟨x,c_Sun,dx,_,_,rfl,x1,er.cl_Sun,er.na_Sun_years,rfl,?_⟩
 walk_at "rdx"
 refine⟨y,d1,fs,rfl,e1,l1.2.1,?_⟩
 walk_at "rdx"
 refine⟨y,n,_,ts,rfl,M1,bn.mono (by decide),fun H2 s2=>?_⟩
 have x2:=s2 _ _ x1
 walk_at "rdx"
 refine⟨x,c_Sun,dx,_,_,rfl,x2,er.cl_Sun,er.na_Sun_years,rfl,?_⟩
 walk_at "rdx"
 refine⟨y,c_Measure,d2,_,_,rfl,s2 _ _ e2,er.cl_Measure,er.na_Measure_base,rfl,?_⟩
 walk_at "rdx"
 refine⟨x,c_Sun,dx,_,_,rfl,x2,er.cl_Sun,er.na_Sun_leap,rfl,?_⟩
 walk_at "rdx"
 rw[elp]
 have t2:=s2 _ _ t1
 refine rd_setL t2 (by rw[List.length_map];exact il) ?_
 walk_at "rdx"
 have ev:ls.getD i 0+AT ls.sum ts n-ls.sum=ls.getD i 0+ONS ts n:=by
  unfold AT
  omega
 rw[ev]
 have el:(ls.map V.int).set i (V.int (ls.getD i 0+ONS ts n))=(LENS ls lp ts n).map V.int:=by
  unfold LENS
  rw[hi,List.map_set]
 rw[el]
 refine q l _ hl (fun b o h=>?_) upd_same
 rw[upd_ne (ne_of_none h hl)]
 exact s2 _ _ (s1 _ _ h)
theorem sc_Sun_date_of:FnScope ["self","day","year","rest","month","length"] ["self","day"] (defScope s_Sun_date_of):=⟨rfl,rfl,rfl,by decide +kernel,rfl,by decide +kernel,by decide +kernel⟩
theorem ok_Sun_date_of{f:Addr}{fd:FuncData}(F:Fun K "date_of" "Calendar.date_of" s_Sun_date_of f fd)(er:Errs K mg c_FeastError c_NoNumber c_TooLong c_NoMeasure c_NoText c_Measure c_Calendar c_Sun c_Rule c_Each)(c_Sun_year_at:CalM P w K mg base CX0 4 c_Sun "year_at" ["self","day"] (spYA K c_Sun c_Measure))(c_Sun_year_start:CalM P w K mg base CX0 3 c_Sun "year_start" ["self","year"] (spYS K c_Sun c_Measure))(c_Sun_lengths:CalM P w K mg base CX0 3 c_Sun "lengths" ["self","year"] (spLens K c_Sun c_Measure)):FnOk P w K mg base CX0 5 f fd ["self","day"] (spDate K c_Sun c_Sun c_Measure true):=by
 refine F.ok (k:=4) sc_Sun_date_of (fun vs H Q E h=>?_) (fun cdv A outer s H vs Q E hr h=>?_)
 ·obtain⟨x,n,d,rfl,_⟩:=h
  rfl
 obtain⟨x,n,d,rfl,hb,S,bn,q⟩:=h
 obtain⟨s,ls,lp,ts,rfl⟩:∃s ls lp ts,d=.sun s ls lp ts:=by
  cases d with
  | sun s ls lp ts=>first | exact⟨s,ls,lp,ts,rfl⟩ | cases hb
  | moon s bd td bm tm=>first | exact(Bool.noConfusion hb) | cases hb
 have g:=CalO.good S
 refine⟨_,(pss_cons (ps_set (i:=2) sc_Sun_date_of.nd rfl (by first | exact Or.inl rfl | exact Or.inr rfl) (pe_mcal c_Sun_year_at er.cl_Sun (hr.mono (by decide)) (pv 0) (pa_cons (pv 1) pa_nil)))
  (pss_cons (ps_set (i:=3) sc_Sun_date_of.nd rfl (by first | exact Or.inl rfl | exact Or.inr rfl) (pe_op op_sub (pv 1) (pe_mcal c_Sun_year_start er.cl_Sun (hr.mono (by decide)) (pv 0) (pa_cons (pv 2) pa_nil))))
  (pss_cons (ps_set (i:=4) sc_Sun_date_of.nd rfl (by first | exact Or.inl rfl | exact Or.inr rfl) pe_int)
  (pss_cons (ps_for PassesOwn.never rfl (pi_list (pe_mcal c_Sun_lengths er.cl_Sun (hr.mono (by decide)) (pv 0) (pa_cons (pv 2) pa_nil))) (pg_name (i:=5) sc_Sun_date_of.nd rfl (by first | exact Or.inl rfl | exact Or.inr rfl))
   (pss_cons (ps_if (pt_cmpR op_lt (pv 3) (pv 5) (nomark _))
   (pss_one ps_break)
   pss_nil)
  (pss_cons (ps_set (i:=3) sc_Sun_date_of.nd rfl (by first | exact Or.inl rfl | exact Or.inr rfl) (pe_op op_sub (pv 3) (pv 5)))
  (pss_one (ps_set (i:=4) sc_Sun_date_of.nd rfl (by first | exact Or.inl rfl | exact Or.inr rfl) (pe_op op_add (pv 4) pe_int))))))
  (pss_one (ps_ret (pe_tup (pa_cons (pv 2) (pa_cons (pv 4) (pa_cons (pe_op op_add (pv 3) pe_int) pa_nil)))))))))),?_⟩
 walk_at "rdx"
 obtain⟨dx,fs,e,ml⟩:=SunO.meth S
 refine⟨x,dx,fs,rfl,e,ml.2.1,?_⟩
 walk_at "rdx"
 refine⟨x,n,s,ls,lp,ts,rfl,S,bn,fun y H1 s1 y0 y1 by'=>?_⟩
 have S1:=CalO.same S s1
 walk_at "rdx"
 obtain⟨dx1,fs1,e1,ml1⟩:=SunO.meth S1
 refine⟨x,dx1,fs1,rfl,e1,ml1.1,?_⟩
 walk_at "rdx"
 refine⟨x,y,s,ls,lp,ts,rfl,S1,by'.mono (by decide),fun H2 s2=>?_⟩
 have S2:=CalO.same S1 s2
 walk_at "rdx"
 walk_at "rdf"
 walk_at "rdx"
 obtain⟨dx2,fs2,e2,ml2⟩:=SunO.meth S2
 refine⟨x,dx2,fs2,rfl,e2,ml2.2.2.1,?_⟩
 walk_at "rdx"
 refine⟨x,y,s,ls,lp,ts,rfl,S2,by'.mono (by decide),fun l H3 hl s3 t3=>?_⟩
 have st:=CalD.step g y
 have nn:=CalD.mem g y
 have ln:=CalD.len g y
 generalize hD:CalD.sun s ls lp ts=d at*
 replace y0:d.Y y≤n:=by rw[←hD];exact y0
 replace y1:n<d.Y (y+1):=by rw[←hD];exact y1
 replace t3:H3 l=some (.lst ((d.L y).map V.int)):=by rw[←hD];exact t3
 have eY:s+UP ls.sum ts y=d.Y y:=by rw[←hD];rfl
 rw[eY]
 refine⟨l,rfl,⟨_,SqL.of t3⟩,for_list (xs:=(d.L y).map V.int) (fun i σ' H'=>H3=H'∧i≤(d.L y).length∧PS (d.L y) i≤n-d.Y y∧∃c:Option V,σ'=[some (.ref x),some (.int n),some (.int y),some (.int (n-d.Y y-PS (d.L y) i)),some (.int ((i:Int)+1)),c]) ⟨rfl,Nat.zero_le _,by rw[PS_zero];omega,none,?_⟩ ?_ ?_ ?_⟩
 ·rw[PS_zero,Int.sub_zero]
  rfl
 ·rintro i σ' H' _ ⟨rfl,_⟩
  exact SqL.of t3
 ·rintro i v σ' H' hv ⟨rfl,hi,hp,c,rfl⟩
  rw[List.getElem?_map] at hv
  obtain⟨z,hz,rfl⟩:=Option.map_eq_some_iff.mp hv
  have il:i<(d.L y).length:=(List.getElem?_eq_some_iff.mp hz).1
  have ez:(d.L y).getD i 0=z:=by
   rw[List.getD_eq_getElem?_getD,hz]
   rfl
  have ps:=PS_succ il
  rw[ez] at ps
  walk_at "rdx"
  refine ite2d (fun c1=>?_) (fun c1=>?_)
  ·walk_at "rdx"
   refine rd_brk ?_
   walk_at "rdx"
   refine⟨three,fun p hp'=>?_⟩
   refine q p y ((i:Int)+1) _ _ ((s1.trans s2).trans (s3.trans (same_new hp' _))) upd_same ⟨by omega,by omega,by omega,?_⟩ ?_ by'
   ·rw[show ((i:Int)+1-1).toNat=i by omega,ez]
    omega
   ·unfold DayOf
    rw[show ((i:Int)+1-1).toNat=i by omega]
    omega
  ·walk_at "rdx"
   refine⟨rfl,by omega,by omega,some (.int z),?_⟩
   rw[ps,show n-d.Y y-(PS (d.L y) i+z)=n-d.Y y-PS (d.L y) i-z by omega,show((i+1:Nat):Int)+1=(i:Int)+1+1 by omega]
   rfl
 ·rintro σ' H' ⟨rfl,_,hp,c,rfl⟩
  rw[List.length_map,PS_len] at hp
  omega
theorem sc_place_text:FnScope ["number"] ["number"] (defScope s_place_text):=⟨rfl,rfl,rfl,by decide +kernel,rfl,by decide +kernel,by decide +kernel⟩
theorem ok_place_text{f:Addr}{fd:FuncData}(F:Fun K "place_text" "place_text" s_place_text f fd)(z_str:mg "str"=none):FnOk P w K mg base CX0 1 f fd ["number"] spPlText:=by
 refine F.ok (k:=0) sc_place_text (fun vs H Q E h=>?_) (fun cdv A outer s H vs Q E hr h=>?_)
 ·obtain⟨n,rfl,_⟩:=h
  rfl
 obtain⟨n,rfl,hn,q⟩:=h
 have tl:TL 1921 (intT (n:Int)):=TL.int (log60 hn)
 have dl:=dT_len hn
 have id:=int_digits n
 have zl:=len_cpl (intT (n:Int))
 refine⟨_,(pss_one (ps_ret (pe_bm PySem.F.plainAttrs_str PySem.F.slot_str_zfill PySem.F.type_str_zfill mt_zfill (pe_callTy call_str_int rfl z_str PyProof.Rows.boot_str (pa_cons (pv 0) pa_nil)) (pa_cons pe_int pa_nil)))),?_⟩
 walk_at "rdx"
 refine rd_bm ?_
 walk_at "rdx"
 refine⟨_,rfl,log60 hn,?_⟩
 refine⟨rfl,?_⟩
 walk_at "rdx"
 have et:(Str.ofString (toString (n:Int)))=intT (n:Int):=rfl
 rw[et]
 by_cases s2:(2:Int)≤((intT (n:Int)).length:Int)
 ·refine⟨_,2,rfl,rfl,by decide,by decide,fun z=>absurd s2 z,?_⟩
  rw[if_pos s2]
  refine q _ ?_ ⟨tl.asc,by omega⟩
  unfold twoT
  rw[if_neg (by omega)]
 ·obtain⟨d,hd⟩:∃d,cpl (intT (n:Int))=[d]:=by
   match hh:cpl (intT (n:Int)) with
   | []=>exact absurd hh id.2.1
   | [d]=>exact⟨d,rfl⟩
   | a::b::r=>rw[hh] at zl;simp at zl;omega
  have dd:=id.1 d (by rw[hd];exact List.mem_singleton.mpr rfl)
  have ei:intT (n:Int)=⟨#[d]⟩:=str_ext (by rw[hd];rfl)
  have zf:=zfill_one d dd.1 dd.2
  have zfl:(zfilled ⟨#[d]⟩ 1).length=2:=by rw[←len_cpl,zf];rfl
  rw[ei]
  have s2':¬(2:Int)≤(((⟨#[d]⟩:Str).length:Nat):Int):=by show ¬(2:Int)≤((1:Nat):Int);decide
  refine⟨_,2,rfl,rfl,by decide,by decide,fun _=>by show(zfilled ⟨#[d]⟩ 1).length≤sizeLine;rw[zfl];decide,?_⟩
  rw[if_neg s2']
  refine q (zfilled ⟨#[d]⟩ 1) ?_ ⟨asc_iff.mpr fun c hc=>?_,by rw[zfl];decide⟩
  ·rw[zf]
   unfold twoT
   rw[hd]
   rfl
  ·rw[zf] at hc
   rcases List.mem_cons.mp hc with e | e
   ·rw[e];decide
   ·cases List.mem_singleton.mp e
    omega
theorem sc_date_text:FnScope ["date","year","month","day"] ["date"] (defScope s_date_text):=⟨rfl,rfl,rfl,by decide +kernel,rfl,by decide +kernel,by decide +kernel⟩
theorem ok_date_text{f:Addr}{fd:FuncData}(F:Fun K "date_text" "date_text" s_date_text f fd)(c_place_text:Cal P w K mg base 1 "place_text" ["number"] spPlText):FnOk P w K mg base CX0 2 f fd ["date"] (spDateT K):=by
 refine F.ok (k:=1) sc_date_text (fun vs H Q E h=>?_) (fun cdv A outer s H vs Q E hr h=>?_)
 ·obtain⟨p,y,m,r,rfl,_⟩:=h
  rfl
 obtain⟨p,y,m,r,rfl,hp,hy,hm,hr',q⟩:=h
 refine⟨_,(pss_cons (ps_set (i:=1) sc_date_text.nd rfl (by first | exact Or.inl rfl | exact Or.inr rfl) (pe_ix ix_tup (pv 0) pe_int (fun _ _=>rfl)))
  (pss_cons (ps_set (i:=2) sc_date_text.nd rfl (by first | exact Or.inl rfl | exact Or.inr rfl) (pe_cal c_place_text (hr.mono (by decide)) rfl (pa_cons (pe_ix ix_tup (pv 0) pe_int (fun _ _=>rfl)) pa_nil)))
  (pss_cons (ps_set (i:=3) sc_date_text.nd rfl (by first | exact Or.inl rfl | exact Or.inr rfl) (pe_cal c_place_text (hr.mono (by decide)) rfl (pa_cons (pe_ix ix_tup (pv 0) pe_int (fun _ _=>rfl)) pa_nil)))
  (pss_one (ps_ret (pe_join (pj_cons (pe_fmt hr.toN (pv 1)) (pj_cons pe_str (pj_cons (pe_fmt hr.toN (pv 2)) (pj_cons pe_str (pj_cons (pe_fmt hr.toN (pv 3)) pj_nil))))))))))),?_⟩
 walk_at "rdx"
 refine rd_ixT hp (v:=.int y) rfl ?_
 walk_at "rdx"
 refine rd_ixT hp (v:=.int (m:Int)) rfl ?_
 walk_at "rdx"
 refine⟨m,rfl,hm,fun z1 e1 t1=>?_⟩
 walk_at "rdx"
 refine rd_ixT hp (v:=.int (r:Int)) rfl ?_
 walk_at "rdx"
 refine⟨r,rfl,hr',fun z2 e2 t2=>?_⟩
 walk_at "rdx"
 refine rd_ji 0 (by decide) (by decide) rfl hy fun l1=>rd_jc _ l1 (by decide) fun l2=>rd_js _ 61 l2 t1.len (by decide) rfl fun l3=>rd_jc _ l3 (by decide) fun l4=>rd_js _ 61 l4 t2.len (by decide) rfl fun l5=>rd_jnil (fits l5 (by decide)) ?_
 refine q _ ?_
 rw[cpl_app,cpl_app,cpl_app,cpl_app,cpl_app,e1,e2,e47]
 have e0:cpl Str.empty=[]:=rfl
 rw[e0,List.nil_append,List.append_assoc,List.append_assoc,List.append_assoc]
 rfl
theorem sc_is_name:FnScope ["text"] ["text"] (defScope s_is_name):=⟨rfl,rfl,rfl,by decide +kernel,rfl,by decide +kernel,by decide +kernel⟩
theorem ok_is_name{f:Addr}{fd:FuncData}(F:Fun K "is_name" "is_name" s_is_name f fd)(z_len:mg "len"=none)(z_all:mg "all"=none){tk_MOST_LETTERS:Tok}(m_MOST_LETTERS:mg "MOST_LETTERS"=some (.int 8 tk_MOST_LETTERS)){tk_LETTERS:Tok}(m_LETTERS:mg "LETTERS"=some (.str "abcdefghijklmnopqrstuvwxyz" tk_LETTERS)):FnOk P w K mg base CX0 1 f fd ["text"] spIsNm:=by
 refine F.ok (k:=0) sc_is_name (fun vs H Q E h=>?_) (fun cdv A outer s H vs Q E hr h=>?_)
 ·obtain⟨z,rfl,_⟩:=h
  rfl
 obtain⟨z,rfl,hz,q⟩:=h
 refine⟨_,(pss_one (ps_ret (pe_and (pe_chain op_le op_le pe_int (pe_callB call_len_str rfl z_len PySem.boot_len (pa_cons (pv 0) pa_nil)) (pe_glob rfl m_MOST_LETTERS (rel_int _ _))) (pe_one (pe_callB (call_all rfl) rfl z_all PyProof.Rows.boot_all (pa_cons (pe_comp rfl (compOk_nil ["text"] rfl (by decide +kernel) rfl (by decide +kernel) rfl (by decide +kernel) (by decide +kernel)) (pi_str (pv 0)) (fun _ _ _ _=>pifs_nil) (fun _ _ _ _=>(pe_cmpR op_in_str (pv 0) (pe_glob rfl m_LETTERS (rel_str _ _)) (by rfl)))) pa_nil)))))),?_⟩
 have zl:(cpl z).length=z.length:=len_cpl _
 walk_at "rdx"
 refine⟨z,rfl,hz.fit,?_⟩
 walk_at "rdx"
 have no:¬IsNm (cpl z)→∀H',Same H H'→Q (.bl false) H':=fun n H' s'=>q false H' s' ⟨fun z=>(nomatch z),fun z=>absurd z n⟩
 by_cases c1:1≤((z.length:Nat):Int)
 rotate_left
 ·refine iteN c1 ?_
  refine⟨_,rfl,iteF ?_⟩
  exact no (fun N=>by have:=N.lo;omega) _ (Same.refl _)
 refine iteD c1 ?_
 walk_at "rdx"
 by_cases c2:((z.length:Nat):Int)≤8
 rotate_left
 ·rw[decide_eq_false c2]
  refine iteF ?_
  exact no (fun N=>by have:=N.hi;omega) _ (Same.refl _)
 rw[decide_eq_true c2]
 refine iteT ?_
 walk_at "rdx"
 refine rd_comp (rd_iS ?_)
 walk_at "rdx"
 refine⟨_,rfl,hz.asc,?_⟩
 refine comp_go walk_s ?_ (fun _ _ _=>trivial) (fun _=>true) (fun v=>match v with | .str y=>.bl (decide (97≤(cpl y).headD 0∧(cpl y).headD 0≤122)) | _=>.non) (fun x hx D ys Q' hD h=>h) (fun x hx _ D ys Q' hD h=>?_) (fun D hD=>?_)
 ·rw[List.length_map]
  exact small1000 (by have:z.cps.toList.length=z.length:=zl;omega)
 ·obtain⟨c,hc,rfl⟩:=List.mem_map.mp hx
  walk_at "rdx"
  refine⟨_,_,rfl,rfl,?_⟩
  rw[in_let]
  exact h
 have e:((z.cps.toList.map signV).filter fun _=>true).map (fun v=>match v with | .str y=>V.bl (decide (97≤(cpl y).headD 0∧(cpl y).headD 0≤122)) | _=>.non)=((cpl z).map fun c=>decide (97≤c∧c≤122)).map V.bl:=by
  rw[List.filter_eq_self.mpr (fun _ _=>rfl),List.map_map,List.map_map]
  rfl
 rw[e]
 refine fresh hD fun H1 s1 t1=>?_
 walk_at "rdx"
 refine⟨D,_,rfl,SqL.of t1,?_⟩
 refine q _ _ s1 ?_
 rw[List.all_map,List.all_eq_true]
 exact⟨fun h=>⟨by omega,by omega,fun c hc=>by simpa using h c hc⟩,fun N c hc=>by simpa using N.ch c hc⟩
theorem sc_is_number:FnScope ["text","figures"] ["text"] (defScope s_is_number):=⟨rfl,rfl,rfl,by decide +kernel,rfl,by decide +kernel,by decide +kernel⟩
theorem ok_is_number{f:Addr}{fd:FuncData}(F:Fun K "is_number" "is_number" s_is_number f fd)(z_len:mg "len"=none)(z_all:mg "all"=none){tk_MOST_FIGURES:Tok}(m_MOST_FIGURES:mg "MOST_FIGURES"=some (.int 60 tk_MOST_FIGURES)){tk_FIGURES:Tok}(m_FIGURES:mg "FIGURES"=some (.str "0123456789" tk_FIGURES)):FnOk P w K mg base CX0 1 f fd ["text"] spIsNum:=by
 refine F.ok (k:=0) sc_is_number (fun vs H Q E h=>?_) (fun cdv A outer s H vs Q E hr h=>?_)
 ·obtain⟨z,rfl,_⟩:=h
  rfl
 obtain⟨z,rfl,hz,q⟩:=h
 refine⟨_,(pss_cons (ps_set (i:=1) sc_is_number.nd rfl (by first | exact Or.inl rfl | exact Or.inr rfl) (pe_ifExp (pt_val (pe_bm PySem.F.plainAttrs_str PySem.F.slot_str_startswith PySem.F.type_str_startswith mt_startswith (pv 0) (pa_cons pe_str pa_nil))) (pe_slice sl_str (pv 0) (po_some pe_int) po_none) (pv 0)))
  (pss_cons (ps_if (PW.pt (pw_or (pt_cmpR op_lt (pe_callB call_len_str rfl z_len PySem.boot_len (pa_cons (pv 1) pa_nil)) pe_int (nomark _)) (pw_or1 (pt_cmpR op_gt (pe_callB call_len_str rfl z_len PySem.boot_len (pa_cons (pv 1) pa_nil)) (pe_glob rfl m_MOST_FIGURES (rel_int _ _)) (nomark _)))))
   (pss_one (ps_ret pe_bl))
   pss_nil)
  (pss_cons (ps_if (pt_cmpR op_eq (pe_ix ix_str (pv 1) pe_int (fun _ _=>rfl)) pe_str (nomark _))
   (pss_one (ps_ret (pe_cmpR op_eq (pv 0) pe_str (nomark _))))
   pss_nil)
  (pss_one (ps_ret (pe_callB (call_all rfl) rfl z_all PyProof.Rows.boot_all (pa_cons (pe_comp rfl (compOk_nil ["text","figures"] rfl (by decide +kernel) rfl (by decide +kernel) rfl (by decide +kernel) (by decide +kernel)) (pi_str (pv 1)) (fun _ _ _ _=>pifs_nil) (fun _ _ _ _=>(pe_cmpR op_in_str (pv 0) (pe_glob rfl m_FIGURES (rel_str _ _)) (by rfl)))) pa_nil))))))),?_⟩
 walk_at "rdx"
 refine⟨_,rfl,rfl,?_⟩
 walk_at "rdx"
 refine⟨z,_,rfl,rfl,?_⟩
 rw[starts_minus (.inr trivial)]
 walk_at "rdx"
 refine ite2d (fun hm=>?_) (fun hm=>?_)
 ·walk_at "rdx"
  have l1:1≤z.length:=by
   rw[←len_cpl]
   cases h:cpl z with
   | nil=>rw[h] at hm;cases hm
   | cons a r=>simp
  refine⟨z,rfl,hz.fit,?_⟩
  have hy:TOk (Txt.slice z (some 1) none):=hz.slice _ _
  have ey:cpl (Txt.slice z (some 1) none)=figs (cpl z):=by
   rw[slice_from1 l1]
   unfold figs
   rw[if_pos hm]
  generalize Txt.slice z (some 1) none=y at hy ey ⊢
  walk_at "rdx"
  have fy:=hy.fit
  have yl:(cpl y).length=y.length:=len_cpl _
  refine⟨_,rfl,fy,?_⟩
  walk_at "rdx"
  refine ite2d (fun l1=>iteT ?_) (fun l1=>?_)
  ·walk_at "rdx"
   refine q _ _ (Same.refl _) ⟨(fun e=>nomatch e),fun N=>?_⟩
   have:=N.lo
   rw[←ey] at this
   omega
  walk_at "rdx"
  refine⟨_,rfl,fy,?_⟩
  walk_at "rdx"
  refine ite2d (fun l2=>?_) (fun l2=>?_)
  ·walk_at "rdx"
   refine q _ _ (Same.refl _) ⟨(fun e=>nomatch e),fun N=>?_⟩
   have:=N.hi
   rw[←ey] at this
   omega
  walk_at "rdx"
  obtain⟨c0,r0,ec⟩:∃c r,cpl y=c::r:=by
   cases h:cpl y with
   | nil=>rw[h] at yl;simp at yl;omega
   | cons c r=>exact⟨c,r,rfl⟩
  refine⟨_,0,c0,rfl,rfl,fy,by rw[show y.cps.toList=c0::r0 from ec];exact atI_nat (j:=0) rfl,?_⟩
  walk_at "rdx"
  refine ite2d (fun e0=>?_) (fun e0=>?_)
  ·walk_at "rdx"
   have c48:c0=48:=by
    have e1:(⟨#[c0]⟩:Str)=Str.ofString "0":=V.str.inj e0
    have e2:cpl (⟨#[c0]⟩:Str)=cpl (Str.ofString "0"):=congrArg cpl e1
    have e3:cpl (Str.ofString "0")=[48]:=by decide +kernel
    rw[e3] at e2
    injection e2
   refine q _ _ (Same.refl _) ?_
   rw[decide_eq_true_eq]
   have e3:cpl (Str.ofString "0")=[48]:=by decide +kernel
   constructor
   ·intro e
    have ez:cpl z=[48]:=by rw[V.str.inj e,e3]
    refine⟨?_,?_,?_,?_⟩<;>rw[ez]<;>simp[figs]
   ·intro N
    have:=N.z0 (by rw[←ey,ec,c48];rfl)
    exact congrArg V.str (str_ext (by rw[this,e3]))
  walk_at "rdx"
  refine rd_comp (rd_iS ?_)
  walk_at "rdx"
  refine⟨_,rfl,hy.asc,?_⟩
  refine comp_go walk_s ?_ (fun _ _ _=>trivial) (fun _=>true) (fun v=>match v with | .str y=>.bl (decide (48≤(cpl y).headD 0∧(cpl y).headD 0≤57)) | _=>.non) (fun x hx D ys Q' hD h=>h) (fun x hx _ D ys Q' hD h=>?_) (fun D hD=>?_)
  ·rw[List.length_map]
   exact small1000 (by have:y.cps.toList.length=y.length:=yl;omega)
  ·obtain⟨c,hc,rfl⟩:=List.mem_map.mp hx
   walk_at "rdx"
   refine⟨_,_,rfl,rfl,?_⟩
   rw[in_dig]
   exact h
  have e:((y.cps.toList.map signV).filter fun _=>true).map (fun v=>match v with | .str y=>V.bl (decide (48≤(cpl y).headD 0∧(cpl y).headD 0≤57)) | _=>.non)=((cpl y).map fun c=>decide (48≤c∧c≤57)).map V.bl:=by
   rw[List.filter_eq_self.mpr (fun _ _=>rfl),List.map_map,List.map_map]
   rfl
  rw[e]
  walk_at "rdx"
  refine⟨D,_,rfl,SqL.of upd_same,?_⟩
  refine q _ _ (same_new hD _) ?_
  rw[List.all_map,List.all_eq_true]
  constructor
  ·intro h
   refine⟨by rw[←ey];omega,by rw[←ey];omega,fun c hc=>?_,fun h0=>?_⟩
   ·rw[←ey] at hc
    simpa using h c hc
   ·rw[←ey,ec] at h0
    injection h0 with h0
    subst h0
    exact absurd (by congr) e0
  ·intro N c hc
   have:=N.dg c (by rw[←ey];exact hc)
   simpa using this
 ·walk_at "rdx"
  have hy:=hz
  have ey:cpl z=figs (cpl z):=by
   unfold figs
   rw[if_neg hm]
  have fy:=hy.fit
  have yl:(cpl z).length=z.length:=len_cpl _
  refine⟨_,rfl,fy,?_⟩
  walk_at "rdx"
  refine ite2d (fun l1=>iteT ?_) (fun l1=>?_)
  ·walk_at "rdx"
   refine q _ _ (Same.refl _) ⟨(fun e=>nomatch e),fun N=>?_⟩
   have:=N.lo
   rw[←ey] at this
   omega
  walk_at "rdx"
  refine⟨_,rfl,fy,?_⟩
  walk_at "rdx"
  refine ite2d (fun l2=>?_) (fun l2=>?_)
  ·walk_at "rdx"
   refine q _ _ (Same.refl _) ⟨(fun e=>nomatch e),fun N=>?_⟩
   have:=N.hi
   rw[←ey] at this
   omega
  walk_at "rdx"
  obtain⟨c0,r0,ec⟩:∃c r,cpl z=c::r:=by
   cases h:cpl z with
   | nil=>rw[h] at yl;simp at yl;omega
   | cons c r=>exact⟨c,r,rfl⟩
  refine⟨_,0,c0,rfl,rfl,fy,by rw[show z.cps.toList=c0::r0 from ec];exact atI_nat (j:=0) rfl,?_⟩
  walk_at "rdx"
  refine ite2d (fun e0=>?_) (fun e0=>?_)
  ·walk_at "rdx"
   have c48:c0=48:=by
    have e1:(⟨#[c0]⟩:Str)=Str.ofString "0":=V.str.inj e0
    have e2:cpl (⟨#[c0]⟩:Str)=cpl (Str.ofString "0"):=congrArg cpl e1
    have e3:cpl (Str.ofString "0")=[48]:=by decide +kernel
    rw[e3] at e2
    injection e2
   refine q _ _ (Same.refl _) ?_
   rw[decide_eq_true_eq]
   have e3:cpl (Str.ofString "0")=[48]:=by decide +kernel
   constructor
   ·intro e
    have ez:cpl z=[48]:=by rw[V.str.inj e,e3]
    refine⟨?_,?_,?_,?_⟩<;>rw[ez]<;>simp[figs]
   ·intro N
    have:=N.z0 (by rw[←ey,ec,c48];rfl)
    exact congrArg V.str (str_ext (by rw[this,e3]))
  walk_at "rdx"
  refine rd_comp (rd_iS ?_)
  walk_at "rdx"
  refine⟨_,rfl,hy.asc,?_⟩
  refine comp_go walk_s ?_ (fun _ _ _=>trivial) (fun _=>true) (fun v=>match v with | .str y=>.bl (decide (48≤(cpl y).headD 0∧(cpl y).headD 0≤57)) | _=>.non) (fun x hx D ys Q' hD h=>h) (fun x hx _ D ys Q' hD h=>?_) (fun D hD=>?_)
  ·rw[List.length_map]
   exact small1000 (by have:z.cps.toList.length=z.length:=yl;omega)
  ·obtain⟨c,hc,rfl⟩:=List.mem_map.mp hx
   walk_at "rdx"
   refine⟨_,_,rfl,rfl,?_⟩
   rw[in_dig]
   exact h
  have e:((z.cps.toList.map signV).filter fun _=>true).map (fun v=>match v with | .str y=>V.bl (decide (48≤(cpl y).headD 0∧(cpl y).headD 0≤57)) | _=>.non)=((cpl z).map fun c=>decide (48≤c∧c≤57)).map V.bl:=by
   rw[List.filter_eq_self.mpr (fun _ _=>rfl),List.map_map,List.map_map]
   rfl
  rw[e]
  walk_at "rdx"
  refine⟨D,_,rfl,SqL.of upd_same,?_⟩
  refine q _ _ (same_new hD _) ?_
  rw[List.all_map,List.all_eq_true]
  constructor
  ·intro h
   refine⟨by rw[←ey];omega,by rw[←ey];omega,fun c hc=>?_,fun h0=>?_⟩
   ·rw[←ey] at hc
    simpa using h c hc
   ·rw[←ey,ec] at h0
    injection h0 with h0
    subst h0
    exact absurd (by congr) e0
  ·intro N c hc
   have:=N.dg c (by rw[←ey];exact hc)
   simpa using this
theorem sc_read_number:FnScope ["text"] ["text"] (defScope s_read_number):=⟨rfl,rfl,rfl,by decide +kernel,rfl,by decide +kernel,by decide +kernel⟩
theorem ok_read_number{f:Addr}{fd:FuncData}(F:Fun K "read_number" "read_number" s_read_number f fd)(er:Errs K mg c_FeastError c_NoNumber c_TooLong c_NoMeasure c_NoText c_Measure c_Calendar c_Sun c_Rule c_Each)(c_is_number:Cal P w K mg base 1 "is_number" ["text"] spIsNum)(z_isinstance:mg "isinstance"=none)(z_str:mg "str"=none)(z_int:mg "int"=none):FnOk P w K mg base (CX1 P w) 2 f fd ["text"] (spReadN c_NoText):=by
 refine F.okE (k:=1) sc_read_number (fun vs H Q E h=>?_) (fun cdv A outer s H vs Q E hr h T=>?_)
 ·obtain⟨v,rfl,_⟩:=h
  rfl
 obtain⟨v,rfl,hv,q,qe⟩:=h
 refine⟨_,(pss_cons (ps_if (PW.pt (pw_or (pt_not (pt_val (pe_callB call_isi rfl z_isinstance PyProof.Rows.boot_isinstance (pa_cons (pv 0) (pa_cons (pe_bltn rfl z_str PyProof.Rows.boot_str (rel_ty _)) pa_nil))))) (pw_or1 (pt_not (pt_val (pe_cal c_is_number (hr.mono (by decide)) rfl (pa_cons (pv 0) pa_nil)))))))
  (pss_one (ps_raise T rfl er.x_NoText rfl (pa_cons pe_str pa_nil)))
  pss_nil)
  (pss_one (ps_ret (pe_callTy call_int_text rfl z_int PyProof.Rows.boot_int (pa_cons (pv 0) pa_nil))))),?_⟩
 walk_at "rdx"
 refine rd_isS hv ?_
 walk_at "rdx"
 cases hv with
 | txt z hz=>
  refine iteF ?_
  walk_at "rdx"
  refine⟨z,rfl,hz,fun b H1 s1 hb=>?_⟩
  walk_at "rdx"
  cases b with
  | true=>
   refine iteF ?_
   have N:=hb.mp rfl
   walk_at "rdx"
   refine⟨z,_,rfl,?_,int_reads N,q z _ s1 rfl N⟩
   have:=N.hi
   unfold figs at this
   rw[←len_cpl]
   split at this
   ·rw[List.length_drop] at this;omega
   ·omega
  | false=>
   refine iteT ?_
   walk_at "rdx"
   exact⟨(by show 1≤sizeLine;decide),qe (fun ⟨y,e,N⟩=>by cases e;exact nomatch (hb.mpr N)) _ s1⟩
 | non=>
  refine iteT ?_
  walk_at "rdx"
  exact⟨(by show 1≤sizeLine;decide),qe (fun ⟨y,e,_⟩=>nomatch e) _ (Same.refl _)⟩
 | int i=>
  refine iteT ?_
  walk_at "rdx"
  exact⟨(by show 1≤sizeLine;decide),qe (fun ⟨y,e,_⟩=>nomatch e) _ (Same.refl _)⟩
 | tup a xs e0=>
  refine iteT ?_
  walk_at "rdx"
  exact⟨(by show 1≤sizeLine;decide),qe (fun ⟨y,e,_⟩=>nomatch e) _ (Same.refl _)⟩
 | lst a xs e0=>
  refine iteT ?_
  walk_at "rdx"
  exact⟨(by show 1≤sizeLine;decide),qe (fun ⟨y,e,_⟩=>nomatch e) _ (Same.refl _)⟩
theorem sc_read_place:FnScope ["text","number","least"] ["text"] (defScope s_read_place):=⟨rfl,rfl,rfl,by decide +kernel,rfl,by decide +kernel,by decide +kernel⟩
theorem ok_read_place{f:Addr}{fd:FuncData}(F:Fun K "read_place" "read_place" s_read_place f fd)(er:Errs K mg c_FeastError c_NoNumber c_TooLong c_NoMeasure c_NoText c_Measure c_Calendar c_Sun c_Rule c_Each)(c_read_number:CalE P w K mg base 2 "read_number" ["text"] (spReadN c_NoText))(z_len:mg "len"=none):FnOk P w K mg base (CX1 P w) 3 f fd ["text"] (spReadPl c_NoText):=by
 refine F.okE (k:=2) sc_read_place (fun vs H Q E h=>?_) (fun cdv A outer s H vs Q E hr h T=>?_)
 ·obtain⟨z,rfl,_⟩:=h
  rfl
 obtain⟨z,rfl,hz,q,qe⟩:=h
 have e48:cpl (Str.ofString "0")=[48]:=by decide +kernel
 have zl:(cpl z).length=z.length:=len_cpl z
 refine⟨_,(pss_cons (ps_cut (ps_if (PW.pt (pw_and (pt_cmpR op_eq (pe_callB call_len_str rfl z_len PySem.boot_len (pa_cons (pv 0) pa_nil)) pe_int (nomark _)) (pw_and1 (pt_cmpR op_eq (pe_ix ix_str (pv 0) pe_int (fun _ _=>rfl)) pe_str (nomark _)))))
  (pss_cons (ps_set (i:=1) sc_read_place.nd rfl (by first | exact Or.inl rfl | exact Or.inr rfl) (pe_calE T c_read_number (hr.mono (by decide)) rfl (pa_cons (pe_ix ix_str (pv 0) pe_int (fun _ _=>rfl)) pa_nil)))
  (pss_one (ps_set (i:=2) sc_read_place.nd rfl (by first | exact Or.inl rfl | exact Or.inr rfl) pe_int)))
   (pss_cons (ps_set (i:=1) sc_read_place.nd rfl (by first | exact Or.inl rfl | exact Or.inr rfl) (pe_calE T c_read_number (hr.mono (by decide)) rfl (pa_cons (pv 0) pa_nil)))
  (pss_one (ps_set (i:=2) sc_read_place.nd rfl (by first | exact Or.inl rfl | exact Or.inr rfl) pe_int)))))
  (pss_cons (ps_if (pt_cmpR op_lt (pv 1) (pv 2) (nomark _))
   (pss_one (ps_raise T rfl er.x_NoText rfl (pa_cons pe_str pa_nil)))
   pss_nil)
  (pss_one (ps_ret (pv 1))))),?_⟩
 walk_at "rdx"
 refine rd_cut (fun σ' H'=>Same H H'∧∃(n k:Int),σ'=[some (.str z),some (.int n),some (.int k)]∧k=(if Two (cpl z) then 1 else 10)∧IsNum (if Two (cpl z) then (cpl z).drop 1 else cpl z)∧n=plcVal (cpl z)) ?_ ?_
 ·walk_at "rdx"
  refine⟨z,rfl,hz.fit,?_⟩
  walk_at "rdx"
  by_cases l2:(z.length:Int)=2
  rotate_left
  ·have ht:¬Two (cpl z):=fun t=>by have:=t.1;omega
   refine iteN (fun y=>l2 (V.int.inj y)) (iteF ?_)
   walk_at "rdx"
   refine⟨_,rfl,.txt z hz,fun y H1 s1 e N=>?_,fun hn H1 s1=>qe (fun p=>hn ⟨z,rfl,by have:=p.num;rw[if_neg ht] at this;exact this⟩) H1 s1⟩
   cases e
   walk_at "rdx"
   exact⟨s1,_,_,rfl,by rw[if_neg ht],by rw[if_neg ht];exact N,by unfold plcVal;rw[if_neg ht]⟩
  refine iteD (congrArg V.int l2) ?_
  obtain⟨a,d,ez⟩:∃a d,cpl z=[a,d]:=by
   match hh:cpl z with
   | []=>rw[hh] at zl;simp at zl;omega
   | [a]=>rw[hh] at zl;simp at zl;omega
   | [a,d]=>exact⟨a,d,rfl⟩
   | a::b::c::r=>rw[hh] at zl;simp at zl;omega
  have c48:V.str ⟨#[a]⟩=V.str (Str.ofString "0")↔a=48:=by
   constructor
   ·intro e
    have e2:cpl (⟨#[a]⟩:Str)=cpl (Str.ofString "0"):=congrArg cpl (V.str.inj e)
    rw[e48] at e2
    injection e2
   ·intro e
    refine congrArg V.str (str_ext ?_)
    rw[e48,e]
    rfl
  have td:Two (cpl z)↔a=48:=by
   rw[ez]
   exact⟨fun t=>by have:=t.2;injection this,fun e=>⟨rfl,by rw[e];rfl⟩⟩
  walk_at "rdx"
  refine⟨_,0,a,rfl,rfl,hz.fit,by rw[show z.cps.toList=[a,d] from ez];exact atI_nat (j:=0) rfl,?_⟩
  walk_at "rdx"
  by_cases a48:a=48
  rotate_left
  ·have ht:¬Two (cpl z):=fun t=>a48 (td.mp t)
   refine iteN (fun y=>a48 (c48.mp y)) ?_
   walk_at "rdx"
   refine⟨_,rfl,.txt z hz,fun y H1 s1 e N=>?_,fun hn H1 s1=>qe (fun p=>hn ⟨z,rfl,by have:=p.num;rw[if_neg ht] at this;exact this⟩) H1 s1⟩
   cases e
   walk_at "rdx"
   exact⟨s1,_,_,rfl,by rw[if_neg ht],by rw[if_neg ht];exact N,by unfold plcVal;rw[if_neg ht]⟩
  have ht:=td.mpr a48
  have ed:(cpl z).drop 1=cpl (⟨#[d]⟩:Str):=by rw[ez];rfl
  have d1:d<128:=asc_iff.mp hz.asc d (by rw[ez];simp)
  refine iteD (c48.mpr a48) ?_
  walk_at "rdx"
  refine⟨_,1,d,rfl,rfl,hz.fit,by rw[show z.cps.toList=[a,d] from ez];exact atI_nat (j:=1) rfl,?_⟩
  walk_at "rdx"
  refine⟨_,rfl,.txt _ ((TL.sign d1).ok (by decide)),fun y H1 s1 e N=>?_,fun hn H1 s1=>qe (fun p=>hn ⟨_,rfl,by have:=p.num;rw[if_pos ht,ed] at this;exact this⟩) H1 s1⟩
  cases e
  walk_at "rdx"
  exact⟨s1,_,_,rfl,by rw[if_pos ht],by rw[if_pos ht,ed];exact N,by unfold plcVal;rw[if_pos ht,ed]⟩
 rintro σ' H1 ⟨s1,n,k,rfl,hk,N,hn⟩
 walk_at "rdx"
 by_cases c:n<k
 ·refine iteD c ?_
  walk_at "rdx"
  refine⟨(by show 1≤sizeLine;decide),qe (fun p=>?_) _ s1⟩
  have:=p.low
  rw[←hk] at this
  unfold plcVal at hn
  omega
 ·refine iteN c ?_
  walk_at "rdx"
  rw[hn]
  refine q ⟨N,?_⟩ _ s1
  rw[←hk]
  unfold plcVal at hn
  omega
theorem sc_read_date:FnScope ["text","words"] ["text"] (defScope s_read_date):=⟨rfl,rfl,rfl,by decide +kernel,rfl,by decide +kernel,by decide +kernel⟩
theorem ok_read_date{f:Addr}{fd:FuncData}(F:Fun K "read_date" "read_date" s_read_date f fd)(er:Errs K mg c_FeastError c_NoNumber c_TooLong c_NoMeasure c_NoText c_Measure c_Calendar c_Sun c_Rule c_Each)(c_read_number:CalE P w K mg base 2 "read_number" ["text"] (spReadN c_NoText))(c_read_place:CalE P w K mg base 3 "read_place" ["text"] (spReadPl c_NoText))(z_isinstance:mg "isinstance"=none)(z_str:mg "str"=none)(z_len:mg "len"=none):FnOk P w K mg base (CX1 P w) 4 f fd ["text"] (spReadD c_NoText):=by
 refine F.okE (k:=3) sc_read_date (fun vs H Q E h=>?_) (fun cdv A outer s H vs Q E hr h T=>?_)
 ·obtain⟨v,rfl,_⟩:=h
  rfl
 obtain⟨v,rfl,hv,q,qe⟩:=h
 have no:¬isDT v→∀{H'},Same H H'→1≤sizeLine∧E (.ref c_NoText) none H':=fun hn {H'} s=>⟨by decide,qe hn H' s⟩
 refine⟨_,(pss_cons (ps_if (pt_not (pt_val (pe_callB call_isi rfl z_isinstance PyProof.Rows.boot_isinstance (pa_cons (pv 0) (pa_cons (pe_bltn rfl z_str PyProof.Rows.boot_str (rel_ty _)) pa_nil)))))
  (pss_one (ps_raise T rfl er.x_NoText rfl (pa_cons pe_str pa_nil)))
  pss_nil)
  (pss_cons (ps_set (i:=1) sc_read_date.nd rfl (by first | exact Or.inl rfl | exact Or.inr rfl) (pe_bm PySem.F.plainAttrs_str PySem.F.slot_str_split PySem.F.type_str_split mt_split (pv 0) (pa_cons pe_str pa_nil)))
  (pss_cons (ps_if (pt_cmpR op_ne (pe_callB call_len_seq rfl z_len PySem.boot_len (pa_cons (pv 1) pa_nil)) pe_int (nomark _))
   (pss_one (ps_raise T rfl er.x_NoText rfl (pa_cons pe_str pa_nil)))
   pss_nil)
  (pss_one (ps_ret (pe_tup (pa_cons (pe_calE T c_read_number (hr.mono (by decide)) rfl (pa_cons (pe_ix ix_list (pv 1) pe_int (fun _ _=>rfl)) pa_nil)) (pa_cons (pe_calE T c_read_place (hr.mono (by decide)) rfl (pa_cons (pe_ix ix_list (pv 1) pe_int (fun _ _=>rfl)) pa_nil)) (pa_cons (pe_calE T c_read_place (hr.mono (by decide)) rfl (pa_cons (pe_ix ix_list (pv 1) pe_int (fun _ _=>rfl)) pa_nil)) pa_nil))))))))),?_⟩
 walk_at "rdx"
 refine rd_isS hv ?_
 walk_at "rdx"
 cases hv with
 | non=>
  refine iteT ?_
  walk_at "rdx"
  exact no (fun ⟨_,_,_,_,e,_⟩=>nomatch e) (Same.refl _)
 | int i=>
  refine iteT ?_
  walk_at "rdx"
  exact no (fun ⟨_,_,_,_,e,_⟩=>nomatch e) (Same.refl _)
 | tup a xs e0=>
  refine iteT ?_
  walk_at "rdx"
  exact no (fun ⟨_,_,_,_,e,_⟩=>nomatch e) (Same.refl _)
 | lst a xs e0=>
  refine iteT ?_
  walk_at "rdx"
  exact no (fun ⟨_,_,_,_,e,_⟩=>nomatch e) (Same.refl _)
 | txt z hz=>
  refine iteF ?_
  walk_at "rdx"
  refine rd_bm ?_
  walk_at "rdx"
  refine⟨rfl,?_⟩
  walk_at "rdx"
  refine⟨z,47,rfl,rfl,by decide,hz.len,fun l hl=>?_⟩
  have s1:=same_new hl (.lst ((splS 47 z).map V.str))
  have t1:upd H l (.lst ((splS 47 z).map V.str)) l=some (.lst ((splS 47 z).map V.str)):=upd_same
  generalize upd H l (.lst ((splS 47 z).map V.str))=H1 at s1 t1 ⊢
  walk_at "rdx"
  refine⟨l,_,rfl,.inl (SqL.of t1),?_⟩
  walk_at "rdx"
  have el:(splS 47 z).length=(spl 47 (cpl z)).length:=List.length_map _
  rw[List.length_map,el]
  by_cases l3:(spl 47 (cpl z)).length=3
  rotate_left
  ·refine iteNN (fun y=>l3 (by have:=V.int.inj y;omega)) ?_
   walk_at "rdx"
   refine no (fun ⟨y,a,b,c,e,D⟩=>?_) s1
   cases e
   exact l3 (by rw[D.cut];rfl)
  refine iteNS (congrArg V.int (by omega)) ?_
  obtain⟨a,b,c,ec⟩:∃a b c,spl 47 (cpl z)=[a,b,c]:=by
   match spl 47 (cpl z),l3 with
   | [a,b,c],_=>exact⟨a,b,c,rfl⟩
  have es:(splS 47 z).map V.str=[.str ⟨a.toArray⟩,.str ⟨b.toArray⟩,.str ⟨c.toArray⟩]:=by
   unfold splS
   rw[show spl 47 (cps z)=[a,b,c] from ec]
   rfl
  rw[es] at t1
  have tk:∀p∈spl 47 (cpl z),TOk (⟨p.toArray⟩:Str):=fun p hp=>hz.part hp (spl_mem 47 _ p hp)
  rw[ec] at tk
  have ta:=tk a (by simp)
  have tb:=tk b (by simp)
  have tc:=tk c (by simp)
  have noD:¬(IsNum a∧PlcT b∧PlcT c)→¬isDT (.str z):=fun hn ⟨y,a',b',c',e,D⟩=>by
   cases e
   have:=D.cut
   rw[ec] at this
   injection this with e1 this
   injection this with e2 this
   injection this with e3 _
   subst e1 e2 e3
   exact hn ⟨D.y,D.m,D.d⟩
  walk_at "rdx"
  refine rd_ixL (SqL.of t1) (v:=.str ⟨a.toArray⟩) rfl ?_
  walk_at "rdx"
  refine⟨_,rfl,.txt _ ta,fun y H2 s2 e N=>?_,fun hn H2 s2=>qe (noD fun h=>hn ⟨_,rfl,h.1⟩) H2 (s1.trans s2)⟩
  cases e
  have t2:=s2 _ _ t1
  walk_at "rdx"
  refine rd_ixL (SqL.of t2) (v:=.str ⟨b.toArray⟩) rfl ?_
  walk_at "rdx"
  refine⟨_,rfl,tb,fun pb H3 s3=>?_,fun hn H3 s3=>qe (noD fun h=>hn h.2.1) H3 ((s1.trans s2).trans s3)⟩
  have t3:=s3 _ _ t2
  walk_at "rdx"
  refine rd_ixL (SqL.of t3) (v:=.str ⟨c.toArray⟩) rfl ?_
  walk_at "rdx"
  refine⟨_,rfl,tc,fun pc H4 s4=>?_,fun hn H4 s4=>qe (noD fun h=>hn h.2.2) H4 (((s1.trans s2).trans s3).trans s4)⟩
  walk_at "rdx"
  refine⟨(by show 3≤sizeLine;decide),fun p hp=>?_⟩
  exact q z a b c p _ rfl ⟨ec,N,pb,pc⟩ ((((s1.trans s2).trans s3).trans s4).trans (same_new hp _)) upd_same
theorem sc_read_names:FnScope ["word","names"] ["word"] (defScope s_read_names):=⟨rfl,rfl,rfl,by decide +kernel,rfl,by decide +kernel,by decide +kernel⟩
theorem ok_read_names{f:Addr}{fd:FuncData}(F:Fun K "read_names" "read_names" s_read_names f fd)(er:Errs K mg c_FeastError c_NoNumber c_TooLong c_NoMeasure c_NoText c_Measure c_Calendar c_Sun c_Rule c_Each)(c_is_name:Cal P w K mg base 1 "is_name" ["text"] spIsNm)(z_all:mg "all"=none):FnOk P w K mg base (CX1 P w) 2 f fd ["word"] (spReadNmsE c_NoText):=by
 refine F.okE (k:=1) sc_read_names (fun vs H Q E h=>?_) (fun cdv A outer s H vs Q E hr h T=>?_)
 ·obtain⟨z,rfl,_⟩:=h
  rfl
 obtain⟨z,rfl,hz,q,qe⟩:=h
 have one:1≤sizeLine:=by decide
 refine⟨_,(pss_cons (ps_set (i:=1) sc_read_names.nd rfl (by first | exact Or.inl rfl | exact Or.inr rfl) (pe_bm PySem.F.plainAttrs_str PySem.F.slot_str_split PySem.F.type_str_split mt_split (pv 0) (pa_cons pe_str pa_nil)))
  (pss_cons (ps_if (pt_not (pt_val (pe_callB (call_all rfl) rfl z_all PyProof.Rows.boot_all (pa_cons (pe_comp rfl (compOk_nil ["word","names"] rfl (by decide +kernel) rfl (by decide +kernel) rfl (by decide +kernel) (by decide +kernel)) (pi_list (pv 1)) (fun _ _ _ _=>pifs_nil) (fun _ _ _ _=>(pe_cal c_is_name (hr.mono (by decide)) rfl (pa_cons (pv 0) pa_nil)))) pa_nil))))
   (pss_one (ps_raise T rfl er.x_NoText rfl (pa_cons pe_str pa_nil)))
   pss_nil)
  (pss_one (ps_ret (pv 1))))),?_⟩
 walk_at "rdx"
 refine rd_bm ?_
 walk_at "rdx"
 refine⟨rfl,?_⟩
 walk_at "rdx"
 refine⟨_,44,rfl,by rw[e44],by decide,hz.len,fun l hl=>?_⟩
 have eV:(splS 44 z).map V.str=wV (spl 44 (cpl z)):=rfl
 rw[eV]
 have sl:(spl 44 (cpl z)).length≤z.length+1:=by have:=splS_len 44 z;unfold splS at this;rw[List.length_map] at this;exact this
 have zl:=hz.len
 have tk:∀w∈spl 44 (cpl z),TOk (txt w):=fun w hw=>hz.part hw (spl_mem 44 _ w hw)
 have eN:NmsT (cpl z)↔∀w∈spl 44 (cpl z),IsNm w:=Iff.rfl
 generalize spl 44 (cpl z)=ws at*
 refine fresh hl fun H1 s1 t1=>?_
 walk_at "rdx"
 refine rd_comp (rd_iL ?_)
 walk_at "rdx"
 refine⟨l,rfl,⟨_,SqL.of t1⟩,?_⟩
 refine comp_inv walk_l (by rw[wV_len,sizeLine_eq];omega) (fun D i ys H2=>H2 D=some (.lst ys)∧Same H1 H2∧∃bs:List Bool,ys=bs.map V.bl∧bs.length=i∧(bs.all id=true↔∀w∈ws.take i,IsNm w)) (fun D hD=>⟨upd_same,same_new hD _,[],rfl,rfl,by simp⟩)
  (fun D i ys H2 _ ⟨h1,h2,bs,h3,h4,_⟩=>⟨h1,by rw[h3,List.length_map,h4];exact Nat.le_refl _,SqL.of (h2 _ _ t1)⟩) (fun D i x ys H2 hD hx ⟨h1,h2,bs,h3,h4,h5⟩=>?_) (fun D ys H2 hD ⟨h1,h2,bs,h3,h4,h5⟩=>?_)
 ·unfold wV at hx
  rw[List.getElem?_map,List.getElem?_map] at hx
  obtain⟨y,hy,rfl⟩:=Option.map_eq_some_iff.mp hx
  obtain⟨w',hw,rfl⟩:=Option.map_eq_some_iff.mp hy
  refine rd_true (iteT ?_)
  walk_at "rdx"
  refine⟨txt w',rfl,tk w' (List.mem_of_getElem? hw),fun v H3 s3 hv=>⟨s3 _ _ h1,upd_same,same_app hD (h2.trans s3),bs++[v],?_,?_,?_⟩⟩
  ·rw[h3,List.map_append]
   rfl
  ·rw[List.length_append,h4]
   rfl
  ·rw[List.all_append,Bool.and_eq_true,h5,List.take_add_one,hw,Option.toList_some]
   rw[cpl_txt] at hv
   constructor
   ·rintro⟨a,b⟩ p hp
    rcases List.mem_append.mp hp with e | e
    ·exact a p e
    ·rw[List.mem_singleton.mp e]
     exact hv.mp (by simpa using b)
   ·intro h
    exact⟨fun p hp=>h p (List.mem_append_left _ hp),by simpa using hv.mpr (h w' (by simp))⟩
 rw[wV_len,List.take_length] at h5
 subst h3
 walk_at "rdx"
 refine⟨D,bs,rfl,SqL.of h1,?_⟩
 walk_at "rdx"
 by_cases c:bs.all id=true
 ·rw[c]
  refine iteF ?_
  walk_at "rdx"
  exact q (eN.mpr (h5.mp c)) l H2 hl (s1.trans h2) (h2 _ _ t1)
 ·rw[(Bool.not_eq_true _).mp c]
  refine iteT ?_
  walk_at "rdx"
  exact⟨one,qe (fun h=>c (h5.mpr (eN.mp h))) _ (s1.trans h2)⟩
theorem sc_read_row:FnScope ["row","words","names"] ["row"] (defScope s_read_row):=⟨rfl,rfl,rfl,by decide +kernel,rfl,by decide +kernel,by decide +kernel⟩
theorem ok_read_row{f:Addr}{fd:FuncData}(F:Fun K "read_row" "read_row" s_read_row f fd)(er:Errs K mg c_FeastError c_NoNumber c_TooLong c_NoMeasure c_NoText c_Measure c_Calendar c_Sun c_Rule c_Each)(c_read_names:CalE P w K mg base 2 "read_names" ["word"] (spReadNmsE c_NoText))(c_read_number:CalE P w K mg base 2 "read_number" ["text"] (spReadN c_NoText))(c_read_date:CalE P w K mg base 4 "read_date" ["text"] (spReadD c_NoText))(z_isinstance:mg "isinstance"=none)(z_str:mg "str"=none)(z_len:mg "len"=none):FnOk P w K mg base (CX1 P w) 5 f fd ["row"] (spReadRowE c_NoText):=by
 refine F.okE (k:=4) sc_read_row (fun vs H Q E h=>?_) (fun cdv A outer s H vs Q E hr h T=>?_)
 ·obtain⟨v,rfl,_⟩:=h
  rfl
 obtain⟨v,rfl,hv,q,qe⟩:=h
 have one:1≤sizeLine:=by decide
 refine⟨_,(pss_cons (ps_if (pt_not (pt_val (pe_callB call_isi rfl z_isinstance PyProof.Rows.boot_isinstance (pa_cons (pv 0) (pa_cons (pe_bltn rfl z_str PyProof.Rows.boot_str (rel_ty _)) pa_nil)))))
  (pss_one (ps_raise T rfl er.x_NoText rfl (pa_cons pe_str pa_nil)))
  pss_nil)
  (pss_cons (ps_setComp (i:=1) sc_read_row.nd rfl (by first | exact Or.inl rfl | exact Or.inr rfl) rfl (compOk_nil ["row","words","names"] rfl (by decide +kernel) rfl (by decide +kernel) rfl (by decide +kernel) (by decide +kernel)) (pi_list (pe_bm PySem.F.plainAttrs_str PySem.F.slot_str_split PySem.F.type_str_split mt_split (pv 0) (pa_cons pe_str pa_nil))) (fun _ _ _ _=>(pifs_one (pt_cmpR op_ne (pv 0) pe_str (nomark _)))) (fun _ _ _ _=>(pv 0)))
  (pss_cons (ps_cut (ps_if (PW.pt (pw_and (pt_cmpR op_ne (pe_callB call_len_seq rfl z_len PySem.boot_len (pa_cons (pv 1) pa_nil)) pe_int (nomark _)) (pw_and1 (pt_cmpR op_ne (pe_callB call_len_seq rfl z_len PySem.boot_len (pa_cons (pv 1) pa_nil)) pe_int (nomark _)))))
   (pss_one (ps_raise T rfl er.x_NoText rfl (pa_cons pe_str pa_nil)))
   pss_nil))
  (pss_cons (ps_cut (ps_set (i:=2) sc_read_row.nd rfl (by first | exact Or.inl rfl | exact Or.inr rfl) (pe_ifExp (pt_cmpR op_eq (pe_callB call_len_seq rfl z_len PySem.boot_len (pa_cons (pv 1) pa_nil)) pe_int (nomark _)) (pe_calE T c_read_names (hr.mono (by decide)) rfl (pa_cons (pe_ix ix_list (pv 1) pe_int (fun _ _=>rfl)) pa_nil)) (pe_lst pa_nil))))
  (pss_one (ps_ret (pe_tup (pa_cons (pe_calE T c_read_number (hr.mono (by decide)) rfl (pa_cons (pe_ix ix_list (pv 1) pe_int (fun _ _=>rfl)) pa_nil)) (pa_cons (pe_calE T c_read_date (hr.mono (by decide)) rfl (pa_cons (pe_ix ix_list (pv 1) pe_int (fun _ _=>rfl)) pa_nil)) (pa_cons (pv 2) pa_nil)))))))))),?_⟩
 walk_at "rdx"
 refine rd_isS hv ?_
 walk_at "rdx"
 by_cases ht:isT v=true
 rotate_left
 ·rw[(Bool.not_eq_true _).mp ht]
  refine iteT ?_
  walk_at "rdx"
  exact⟨one,qe (fun ⟨z,_,_,_,_,_,e,_⟩=>ht (by rw[e];rfl)) _ (Same.refl _)⟩
 rw[ht]
 obtain⟨z,rfl,hz⟩:∃z,v=.str z∧TOk z:=by
  cases hv with
  | txt z h=>exact⟨z,rfl,h⟩
  | non=>cases ht
  | int i=>cases ht
  | tup a xs e=>cases ht
  | lst a xs e=>cases ht
 refine iteF ?_
 walk_at "rdx"
 refine rd_comp (rd_iL ?_)
 walk_at "rdx"
 refine rd_bm ?_
 walk_at "rdx"
 refine⟨rfl,?_⟩
 walk_at "rdx"
 refine⟨_,32,rfl,by rw[e32],by decide,hz.len,fun l hl=>?_⟩
 have eV:(splS 32 z).map V.str=wV (spl 32 (cpl z)):=rfl
 rw[eV]
 refine fresh hl fun H1 s1 t1=>?_
 have sl:(spl 32 (cpl z)).length≤z.length+1:=by have:=splS_len 32 z;unfold splS at this;rw[List.length_map] at this;exact this
 have zl:=hz.len
 refine⟨l,rfl,⟨_,SqL.of t1⟩,?_⟩
 refine comp_go walk_l (by rw[wV_len,sizeLine_eq];omega) (fun D ys hD=>SqL.of (same_new hD _ _ _ t1)) (fun v=>!decide (v=.str (Str.ofString ""))) (fun v=>v) (fun x hx D ys Q' hD h=>?_) (fun x hx _ D ys Q' hD h=>⟨_,rfl,h⟩) (fun D hD=>?_)
 ·obtain⟨y,hy,rfl⟩:=List.mem_map.mp hx
  walk_at "rdx"
  exact h
 have eF:((wV (spl 32 (cpl z))).filter fun v=>!decide (v=.str (Str.ofString ""))).map (fun v=>v)=wV (wdsOf (cpl z)):=by
  rw[List.map_id']
  unfold wV wdsOf
  rw[List.filter_map,List.filter_map]
  congr 2
  refine List.filter_congr fun w _=>?_
  show(!decide (V.str (txt w)=V.str (Str.ofString "")))=decide (w≠[])
  have e0:Str.ofString ""=txt []:=eNo
  rw[e0]
  by_cases c:w=[]
  ·subst c
   rfl
  ·rw[decide_eq_false (fun z=>c (txt_inj (V.str.inj z))),decide_eq_true c]
   rfl
 rw[eF]
 have tk:∀w∈wdsOf (cpl z),TOk (txt w):=fun w hw=>hz.part (wds_mem hw) (spl_mem 32 _ w (wds_mem hw))
 have rows:∀{a y m d:List Nat} {ns:List (List Nat)},RowF (cpl z) a y m d ns→(∃b,wdsOf (cpl z)=[a,b]∧IsNum a∧DateT b y m d∧ns=[])∨(∃b c,wdsOf (cpl z)=[a,b,c]∧IsNum a∧DateT b y m d∧NmsT c∧ns=spl 44 c):=fun F=>by
  cases F with
  | two h1 h2 h3=>exact .inl ⟨_,h1,h2,h3,rfl⟩
  | three h1 h2 h3 h4=>exact .inr ⟨_,_,h1,h2,h3,h4,rfl⟩
 refine fresh hD fun H2 s2 t2=>?_
 have s02:=s1.trans s2
 have two:=@RowF.two (cpl z)
 have three:=@RowF.three (cpl z)
 generalize wdsOf (cpl z)=ws at*
 have bad:(¬∃a y m d ns,RowF (cpl z) a y m d ns)→∀H',Same H H'→E (.ref c_NoText) none H':=fun n=>qe fun⟨y',a,y,m,d,ns,e,F⟩=>by
  cases e
  exact n ⟨a,y,m,d,ns,F⟩
 walk_at "rdx"
 refine rd_cut (fun σ' H'=>H'=H2∧σ'=[some (.str z),some (.ref D),none]∧(ws.length=2∨ws.length=3)) ?_ ?_
 ·walk_at "rdx"
  refine⟨D,_,rfl,.inl (SqL.of t2),?_⟩
  walk_at "rdx"
  rw[wV_len]
  by_cases c2:ws.length=2
  ·refine iteNS (congrArg V.int (by rw[c2];rfl)) (iteF ?_)
   walk_at "rdx"
   exact⟨rfl,rfl,.inl c2⟩
  refine iteNN (fun y=>c2 (by have:=V.int.inj y;omega)) ?_
  walk_at "rdx"
  refine⟨D,_,rfl,.inl (SqL.of t2),?_⟩
  walk_at "rdx"
  rw[wV_len]
  by_cases c3:ws.length=3
  ·refine iteNS (congrArg V.int (by rw[c3];rfl)) ?_
   walk_at "rdx"
   exact⟨rfl,rfl,.inr c3⟩
  refine iteNN (fun y=>c3 (by have:=V.int.inj y;omega)) ?_
  walk_at "rdx"
  refine⟨one,bad (fun ⟨_,_,_,_,_,F⟩=>?_) _ s02⟩
  rcases rows F with ⟨b,e,_⟩ | ⟨b,c,e,_⟩
  ·exact c2 (by rw[e];rfl)
  ·exact c3 (by rw[e];rfl)
 rintro σ' H2 ⟨rfl,rfl,hlen⟩
 obtain⟨a,b,r,rfl⟩:∃a b r,ws=a::b::r:=by
  match ws,hlen with
  | [],h=>rcases h with h | h<;>cases h
  | [a],h=>rcases h with h | h<;>cases h
  | a::b::r,_=>exact⟨a,b,r,rfl⟩
 walk_at "rdx"
 refine rd_cut (fun σ' H'=>Same H2 H'∧∃(l3:Addr) (ns:List (List Nat)),σ'=[some (.str z),some (.ref D),some (.ref l3)]∧H2 l3=none∧H' l3=some (.lst (wV ns))∧∀y m d,IsNum a→DateT b y m d→RowF (cpl z) a y m d ns) ?_ ?_
 ·walk_at "rdx"
  refine⟨D,_,rfl,.inl (SqL.of t2),?_⟩
  walk_at "rdx"
  rw[wV_len]
  cases r with
  | nil=>
   refine iteN (fun z=>by cases z) ?_
   walk_at "rdx"
   refine⟨Nat.zero_le _,fun l3 hl3=>?_⟩
   refine fresh hl3 fun H3 s3 t3=>?_
   walk_at "rdx"
   exact⟨s3,l3,[],rfl,hl3,t3,fun y m d ha hd=>two rfl ha hd⟩
  | cons c r=>
   obtain rfl:r=[]:=by
    rcases hlen with h | h
    ·simp only[List.length_cons] at h
     omega
    ·exact List.length_eq_zero_iff.mp (by simp only[List.length_cons] at h;omega)
   refine iteD rfl ?_
   walk_at "rdx"
   refine rd_ixL (SqL.of t2) at_n2 ?_
   refine rd_nil ?_
   refine⟨_,rfl,tk c (by simp),fun Nc l3 H3 hl3 s3 t3=>?_,fun nn H3 s3=>bad (fun ⟨_,_,_,_,_,F⟩=>?_) H3 (s02.trans s3)⟩
   ·rw[cpl_txt] at Nc t3
    walk_at "rdx"
    exact⟨s3,l3,_,rfl,hl3,t3,fun y m d ha hd=>three rfl ha hd Nc⟩
   ·rcases rows F with ⟨b',e,_⟩ | ⟨b',c',e,_,_,h,_⟩
    ·cases e
    ·cases e
     exact nn h
 rintro σ' H3 ⟨s3,l3,ns,rfl,hl3,t3,mk⟩
 have s03:=s02.trans s3
 have d3:=s3 _ _ t2
 walk_at "rdx"
 refine rd_ixL (SqL.of d3) at_n0 ?_
 refine rd_nil ?_
 refine⟨_,rfl,.txt _ (tk a (by simp)),fun y H4 s4 ey Na=>?_,fun nn H4 s4=>bad (fun ⟨_,_,_,_,_,F⟩=>?_) H4 (s03.trans s4)⟩
 rotate_left
 ·refine nn ⟨_,rfl,?_⟩
  rcases rows F with ⟨b,e,h,_⟩ | ⟨b,c,e,h,_⟩
  ·cases e
   exact h
  ·cases e
   exact h
 cases ey
 rw[cpl_txt] at Na ⊢
 have d4:=s4 _ _ d3
 walk_at "rdx"
 refine rd_ixL (SqL.of d4) at_n1 ?_
 refine rd_nil ?_
 refine⟨_,rfl,.txt _ (tk b (by simp)),fun y' ya ym yd p5 H5 ey DT s5 t5=>?_,fun nn H5 s5=>bad (fun ⟨_,_,_,_,_,F⟩=>?_) H5 ((s03.trans s4).trans s5)⟩
 rotate_left
 ·rcases rows F with ⟨b',e,_,h,_⟩ | ⟨b',c,e,_,h,_⟩
  ·cases e
   exact nn ⟨_,_,_,_,rfl,h⟩
  ·cases e
   exact nn ⟨_,_,_,_,rfl,h⟩
 cases ey
 walk_at "rdx"
 refine⟨(by show 3≤sizeLine;decide),fun p6 hp6=>?_⟩
 refine fresh hp6 fun H6 s6 t6=>?_
 have s36:=(s4.trans s5).trans s6
 exact q z a ya ym yd ns rfl (mk _ _ _ Na DT) _ l3 H6 (s03.trans s36) (s02.free hl3) ⟨⟨p6,p5,rfl,t6,s6 _ _ t5⟩,s36 _ _ t3⟩
theorem sc_read_almanac:FnScope ["rows"] ["rows"] (defScope s_read_almanac):=⟨rfl,rfl,rfl,by decide +kernel,rfl,by decide +kernel,by decide +kernel⟩
theorem ok_read_almanac{f:Addr}{fd:FuncData}(F:Fun K "read_almanac" "read_almanac" s_read_almanac f fd)(c_read_row:CalE P w K mg base 5 "read_row" ["row"] (spReadRowE c_NoText)):FnOk P w K mg base (CX1 P w) 6 f fd ["rows"] (spReadAlmE K c_NoText):=by
 refine F.okE (k:=5) sc_read_almanac (fun vs H Q E h=>?_) (fun cdv A outer s H vs Q E hr h T=>?_)
 ·obtain⟨l,ws,rfl,_⟩:=h
  rfl
 obtain⟨l,ws,rfl,hl,hn,hw,q,qe⟩:=h
 refine⟨_,(pss_one (ps_ret (pe_compE thrN_fn rfl (compOk_nil ["rows"] rfl (by decide +kernel) rfl (by decide +kernel) rfl (by decide +kernel) (by decide +kernel)) (pi_list (pv 0)) (fun _ _ _ _=>pifs_nil) (fun _ _ _ _ _ T=>(pe_calE T c_read_row (hr.mono (by decide)) rfl (pa_cons (pv 0) pa_nil)))))),?_⟩
 walk_at "rdx"
 refine rd_comp (rd_iL ?_)
 walk_at "rdx"
 refine⟨l,rfl,⟨_,SqL.of hl⟩,?_⟩
 refine comp_inv walk_l (small1000 hn) (fun D i ys H2=>H2 D=some (.lst ys)∧Same H H2∧∃ls:List Addr,Rws H2 ys (ws.take i) ls∧ls.Nodup∧(∀x∈ls,H x=none∧x≠D)∧∀v∈ws.take i,isRow v) (fun D hD=>⟨upd_same,same_new hD _,[],.nil,List.nodup_nil,(fun x h=>nomatch h),(fun x h=>nomatch h)⟩)
  (fun D i ys H2 _ ⟨h1,h2,ls,h3,_⟩=>⟨h1,by rw[h3.len.1];exact List.length_take_le _ _,SqL.of (h2 _ _ hl)⟩) (fun D i x ys H2 hD hx ⟨h1,h2,ls,h3,h4,h5,h6⟩=>?_) (fun D ys H2 hD ⟨h1,h2,ls,h3,h4,h5,h6⟩=>?_)
 ·have mem:=List.mem_of_getElem? hx
  refine rd_true (iteT ?_)
  walk_at "rdx"
  refine⟨x,rfl,(hw x mem).keep h2,fun z a y m d ns ez F u l3 H3 s3 hl3 O=>?_,fun nr H3 s3=>qe (fun all=>nr (all x mem)) H3 (h2.trans s3)⟩
  have lD:l3≠D:=fun e=>by rw[e,h1] at hl3;cases hl3
  refine⟨s3 _ _ h1,upd_same,same_app hD (h2.trans s3),ls++[l3],?_,?_,fun x hx'=>?_,fun v hv=>?_⟩
  ·rw[List.take_add_one,hx,Option.toList_some]
   exact Rws.snoc ((show RowV H3 u x l3 from ⟨z,a,y,m,d,ns,ez,F,O⟩).upd lD (s3 _ _ h1)) (Rws.upd (s3 _ _ h1) (h3.same s3) fun l hl=>(h5 l hl).2)
  ·rw[List.nodup_append]
   refine⟨h4,by simp,fun b hb c hc=>?_⟩
   rw[List.mem_singleton.mp hc]
   exact fun e=>h3.lists hb (by rw[e];exact hl3)
  ·rcases List.mem_append.mp hx' with e | e
   ·exact h5 x e
   ·rw[List.mem_singleton.mp e]
    exact⟨h2.free hl3,lD⟩
  ·rw[List.take_add_one,hx,Option.toList_some] at hv
   rcases List.mem_append.mp hv with e | e
   ·exact h6 v e
   ·rw[List.mem_singleton.mp e]
    exact⟨z,a,y,m,d,ns,ez,F⟩
 ·rw[List.take_length] at h3 h6
  exact q h6 D ys ls H2 h2 hD h1 h3 h4 h5
theorem sc_widest:FnScope ["words"] ["words"] (defScope s_widest):=⟨rfl,rfl,rfl,by decide +kernel,rfl,by decide +kernel,by decide +kernel⟩
theorem ok_widest{f:Addr}{fd:FuncData}(F:Fun K "widest" "widest" s_widest f fd)(z_max:mg "max"=none)(z_len:mg "len"=none):FnOk P w K mg base CX0 1 f fd ["words"] (spWidest K):=by
 refine F.ok (k:=0) sc_widest (fun vs H Q E h=>?_) (fun cdv A outer s H vs Q E hr h=>?_)
 ·obtain⟨l,zs,rfl,_⟩:=h
  rfl
 obtain⟨l,zs,rfl,hl,hn,tk,q⟩:=h
 refine⟨_,(pss_one (ps_ret (pe_maxD rfl rfl z_max (pa_cons (pe_comp rfl (compOk_nil ["words"] rfl (by decide +kernel) rfl (by decide +kernel) rfl (by decide +kernel) (by decide +kernel)) (pi_list (pv 0)) (fun _ _ _ _=>pifs_nil) (fun _ _ _ _=>(pe_callB call_len_str rfl z_len PySem.boot_len (pa_cons (pv 0) pa_nil)))) pa_nil)))),?_⟩
 walk_at "rd"
 refine rd_maxD ?_
 walk_at "rd"
 refine rd_comp (rd_iL ?_)
 walk_at "rd"
 refine⟨l,rfl,⟨_,SqL.of hl⟩,?_⟩
 refine comp_go walk_l (by rw[List.length_map];exact small1000 (by omega)) (fun D ys hD=>SqL.of (same_new hD _ _ _ hl)) (fun _=>true) (fun v=>match v with | .str y=>.int (y.length:Int) | _=>.non) (fun x hx D ys Q' hD h=>h) (fun x hx _ D ys Q' hD h=>?_) (fun D hD=>?_)
 ·obtain⟨z,hz,rfl⟩:=List.mem_map.mp hx
  walk_at "rd"
  exact⟨z,rfl,((tk z hz).ok (by decide)).fit,h⟩
 have e:((zs.map V.str).filter fun _=>true).map (fun v=>match v with | .str y=>V.int (y.length:Int) | _=>.non)=(zs.map fun z=>(z.length:Int)).map V.int:=by
  rw[List.filter_eq_self.mpr (fun _ _=>rfl),List.map_map,List.map_map]
  rfl
 rw[e]
 refine fresh hD fun H1 s1 t1=>?_
 walk_at "rd"
 refine⟨D,_,rfl,SqL.of t1,fun z=>?_,fun z m hm hge=>?_⟩
 ·have:zs=[]:=List.map_eq_nil_iff.mp z
  subst this
  exact q 0 _ s1 (by decide) (by decide)
 ·obtain⟨y,hy,rfl⟩:=List.mem_map.mp hm
  have:=(tk y hy).len
  exact q _ _ s1 (by omega) (by omega)
theorem sc_names_on:FnScope ["rules","day"] ["rules","day"] (defScope s_names_on):=⟨rfl,rfl,rfl,by decide +kernel,rfl,by decide +kernel,by decide +kernel⟩
theorem ok_names_on{f:Addr}{fd:FuncData}(F:Fun K "names_on" "names_on" s_names_on f fd)(er:Errs K mg c_FeastError c_NoNumber c_TooLong c_NoMeasure c_NoText c_Measure c_Calendar c_Sun c_Rule c_Each)(c_Each_on:CalM P w K mg base CX0 2 c_Each "on" ["self","day"] (spOnM K c_Rule [c_Each])):FnOk P w K mg base CX0 3 f fd ["rules","day"] (spNamesOn K c_Rule [c_Each]):=by
 refine F.ok (k:=2) sc_names_on (fun vs H Q E h=>?_) (fun cdv A outer s H vs Q E hr h=>?_)
 ·obtain⟨l,us,rs,d,rfl,_⟩:=h
  rfl
 obtain⟨l,us,rs,d,rfl,hl,P0,few,sh,q⟩:=h
 have ul:=P0.len
 refine⟨_,(pss_one (ps_ret (pe_bm PySem.F.plainAttrs_str PySem.F.slot_str_join PySem.F.type_str_join mt_join pe_str (pa_cons (pe_comp rfl (compOk_freeM ["rules","day"] ["rules","day"] rfl rfl (by with_unfolding_all rfl) (by decide +kernel) rfl (by decide +kernel) rfl (by decide +kernel) (by walk_at "fm") (by with_unfolding_all rfl) (by with_unfolding_all rfl)) (pi_list (pv 0)) (fun _ _ _ _=>(pifs_one (pt_val (pe_mcal c_Each_on er.cl_Each (hr.mono (by decide)) (pe_ix ix_tup_c (pv 0) pe_int (fun _ _=>rfl)) (pa_cons (pv 2) pa_nil))))) (fun _ _ _ _=>(pe_ix ix_tup_c (pv 0) pe_int (fun _ _=>rfl)))) pa_nil)))),?_⟩
 walk_at "rd"
 refine rd_bm ?_
 walk_at "rd"
 refine⟨rfl,?_⟩
 walk_at "rd"
 refine rd_comp (rd_iL ?_)
 walk_at "rd"
 refine⟨l,rfl,⟨_,SqL.of hl⟩,?_⟩
 refine comp_inv walk_l (by rw[ul];exact small1000 (by omega)) (fun D i ys H2=>H2 D=some (.lst ys)∧Same H H2∧ys=wV (nmsOn (rs.take i) d)) (fun D hD=>⟨upd_same,same_new hD _,rfl⟩)
  (fun D i ys H2 _ ⟨h1,h2,h3⟩=>⟨h1,by rw[h3,wV_len];unfold nmsOn;rw[List.length_map];exact Nat.le_trans (List.length_filter_le _ _) (List.length_take_le _ _),SqL.of (h2 _ _ hl)⟩) (fun D i x ys H2 hD hx ⟨h1,h2,h3⟩=>?_) (fun D ys H2 hD ⟨h1,h2,h3⟩=>?_)
 ·obtain⟨p,x,w',n,b,rfl,hr',hp,R⟩:=P0.at hx
  walk_at "rd"
  refine rd_ixT (SqT.of (h2 _ _ hp)) at_n1 ?_
  have R2:=R.same h2
  obtain⟨C,dx,pk,pm,pw,hC,rc,hx2,hpk⟩:=R2.ex
  have eC:C=c_Each:=List.mem_singleton.mp hC
  rw[eC] at hx2
  refine⟨x,dx,_,rfl,hx2,rfl,?_⟩
  walk_at "rd"
  refine⟨x,n,d,b,rfl,R2,?_⟩
  refine⟨_,rfl,?_⟩
  have et:rs.take (i+1)=rs.take i++[(w',n,b)]:=by rw[List.take_add_one,hr'];rfl
  by_cases c:On n b d=true
  ·rw[c]
   refine iteT ?_
   walk_at "rd"
   refine rd_ixT (SqT.of (h2 _ _ hp)) at_n0 ?_
   refine⟨h1,upd_same,same_app hD h2,?_⟩
   rw[et,nmsOn_snoc,if_pos c,wV_app,h3]
   rfl
  ·rw[(Bool.not_eq_true _).mp c]
   refine iteF ?_
   refine⟨h1,h2,?_⟩
   rw[et,nmsOn_snoc,if_neg c,List.append_nil]
   exact h3
 ·rw[ul,List.take_length] at h3
  subst h3
  have nl:(nmsOn rs d).length≤10:=by unfold nmsOn;rw[List.length_map];exact Nat.le_trans (List.length_filter_le _ _) few
  have ns:∀w∈nmsOn rs d,w.length≤8:=fun w hw=>by
   unfold nmsOn at hw
   obtain⟨r,hr',rfl⟩:=List.mem_map.mp hw
   exact sh r (List.mem_filter.mp hr').1
  have sl:=sum_lens (k:=8) (zs:=(nmsOn rs d).map txt) fun z hz=>by
   obtain⟨w,hw,rfl⟩:=List.mem_map.mp hz
   rw[txt_len]
   exact ns w hw
  rw[List.length_map] at sl
  walk_at "rd"
  refine⟨_,D,(nmsOn rs d).map txt,rfl,rfl,SqL.of h1,?_,?_⟩
  ·have e1:(Str.ofString ",").length=1:=by decide +kernel
   rw[e1,List.length_map]
   omega
  rw[join_comma]
  exact q _ h2
theorem sc_almanac:FnScope ["calendar","rules","day","many","days","numbers","dates","names","width","date_width","rows","place","words"] ["calendar","rules","day","many"] (defScope s_almanac):=⟨rfl,rfl,rfl,by decide +kernel,rfl,by decide +kernel,by decide +kernel⟩
theorem ok_almanac{f:Addr}{fd:FuncData}(F:Fun K "almanac" "almanac" s_almanac f fd)(er:Errs K mg c_FeastError c_NoNumber c_TooLong c_NoMeasure c_NoText c_Measure c_Calendar c_Sun c_Rule c_Each)(c_date_text:Cal P w K mg base 2 "date_text" ["date"] (spDateT K))(c_Sun_date_of:CalM P w K mg base CX0 5 c_Sun "date_of" ["self","day"] (spDate K c_Sun c_Sun c_Measure true))(c_names_on:Cal P w K mg base 3 "names_on" ["rules","day"] (spNamesOn K c_Rule [c_Each]))(c_widest:Cal P w K mg base 1 "widest" ["words"] (spWidest K))(z_list:mg "list"=none)(z_range:mg "range"=none)(z_str:mg "str"=none){tk_MOST_ROWS:Tok}(m_MOST_ROWS:mg "MOST_ROWS"=some (.int 400 tk_MOST_ROWS)):FnOk P w K mg base (CX1 P w) 6 f fd ["calendar","rules","day","many"] (spAlm K c_NoNumber c_Sun c_Measure c_Rule [c_Each]):=by
 refine F.okE (k:=5) sc_almanac (fun vs H Q E h=>?_) (fun cdv A outer s H vs Q E hr h T=>?_)
 ·obtain⟨x,l,us,rs,c,d,n,rfl,_⟩:=h
  rfl
 obtain⟨x,l,us,rs,c,d,n,rfl,hsun,S,hl,P0,few,nms,hd,hy,q,qe⟩:=h
 have g:=CalO.good S
 refine⟨_,(pss_cons (ps_if (PW.pt (pw_or (pt_cmpR op_lt (pv 3) pe_int (nomark _)) (pw_or1 (pt_cmpR op_gt (pv 3) (pe_glob rfl m_MOST_ROWS (rel_int _ _)) (nomark _)))))
  (pss_one (ps_raise T rfl er.x_NoNumber rfl (pa_cons pe_str pa_nil)))
  pss_nil)
  (pss_cons (ps_set (i:=4) sc_almanac.nd rfl (by first | exact Or.inl rfl | exact Or.inr rfl) (pe_lrangeA rfl rfl z_list rfl z_range (pa_cons (pv 2) (pa_cons (pe_op op_add (pv 2) (pv 3)) pa_nil))))
  (pss_cons (ps_setComp (i:=5) sc_almanac.nd rfl (by first | exact Or.inl rfl | exact Or.inr rfl) rfl (compOk_nil ["calendar","rules","day","many","days","numbers","dates","names","width","date_width","rows","place","words"] rfl (by decide +kernel) rfl (by decide +kernel) rfl (by decide +kernel) (by decide +kernel)) (pi_list (pv 4)) (fun _ _ _ _=>pifs_nil) (fun _ _ _ _=>(pe_callTy call_str_int rfl z_str PyProof.Rows.boot_str (pa_cons (pv 0) pa_nil))))
  (pss_cons (ps_setComp (i:=6) sc_almanac.nd rfl (by first | exact Or.inl rfl | exact Or.inr rfl) rfl (compOk_freeM ["calendar","rules","day","many","days","numbers","dates","names","width","date_width","rows","place","words"] ["calendar","rules","day","many","days","numbers","dates","names","width","date_width","rows","place","words"] rfl rfl (by with_unfolding_all rfl) (by decide +kernel) rfl (by decide +kernel) rfl (by decide +kernel) (by walk_at "fm") (by with_unfolding_all rfl) (by with_unfolding_all rfl)) (pi_list (pv 4)) (fun _ _ _ _=>pifs_nil) (fun _ _ _ _=>(pe_cal c_date_text (hr.mono (by decide)) rfl (pa_cons (pe_mcal (ta:=tVar 1) c_Sun_date_of er.cl_Sun (hr.mono (by decide)) (pv 1) (pa_cons (pv 0) pa_nil)) pa_nil))))
  (pss_cons (ps_setComp (i:=7) sc_almanac.nd rfl (by first | exact Or.inl rfl | exact Or.inr rfl) rfl (compOk_freeM ["calendar","rules","day","many","days","numbers","dates","names","width","date_width","rows","place","words"] ["calendar","rules","day","many","days","numbers","dates","names","width","date_width","rows","place","words"] rfl rfl (by with_unfolding_all rfl) (by decide +kernel) rfl (by decide +kernel) rfl (by decide +kernel) (by walk_at "fm") (by with_unfolding_all rfl) (by with_unfolding_all rfl)) (pi_list (pv 4)) (fun _ _ _ _=>pifs_nil) (fun _ _ _ _=>(pe_cal c_names_on (hr.mono (by decide)) rfl (pa_cons (pv 2) (pa_cons (pv 0) pa_nil)))))
  (pss_cons (ps_set (i:=8) sc_almanac.nd rfl (by first | exact Or.inl rfl | exact Or.inr rfl) (pe_cal c_widest (hr.mono (by decide)) rfl (pa_cons (pv 5) pa_nil)))
  (pss_cons (ps_set (i:=9) sc_almanac.nd rfl (by first | exact Or.inl rfl | exact Or.inr rfl) (pe_cal c_widest (hr.mono (by decide)) rfl (pa_cons (pv 6) pa_nil)))
  (pss_cons (ps_set (i:=10) sc_almanac.nd rfl (by first | exact Or.inl rfl | exact Or.inr rfl) (pe_lst pa_nil))
  (pss_cons (ps_for (by first | exact PassesOwn.leaving | exact PassesOwn.looking | with_unfolding_all passes_own) rfl (pi_range1 rfl z_range (pa_cons (pv 3) pa_nil)) (pg_name (i:=11) sc_almanac.nd rfl (by first | exact Or.inl rfl | exact Or.inr rfl))
   (pss_cons (ps_set (i:=12) sc_almanac.nd rfl (by first | exact Or.inl rfl | exact Or.inr rfl) (pe_lst (pa_cons (pe_bm PySem.F.plainAttrs_str PySem.F.slot_str_rjust PySem.F.type_str_rjust mt_rjust (pe_ix ix_list (pv 5) (pv 11) (fun _ _=>rfl)) (pa_cons (pv 8) pa_nil)) (pa_cons (pe_bm PySem.F.plainAttrs_str PySem.F.slot_str_ljust PySem.F.type_str_ljust mt_ljust (pe_ix ix_list (pv 6) (pv 11) (fun _ _=>rfl)) (pa_cons (pv 9) pa_nil)) (pa_cons (pe_ix ix_list (pv 7) (pv 11) (fun _ _=>rfl)) pa_nil)))))
  (pss_one (ps_expr (pe_bm PySem.F.plainAttrs_list PySem.F.slot_list_append PySem.F.type_list_append mt_append (pv 10) (pa_cons (pe_bm PySem.F.plainAttrs_str PySem.F.slot_str_rstrip PySem.F.type_str_rstrip mt_rstrip (pe_bm PySem.F.plainAttrs_str PySem.F.slot_str_join PySem.F.type_str_join mt_join pe_str (pa_cons (pv 12) pa_nil)) (pa_cons pe_str pa_nil)) pa_nil))))))
  (pss_one (ps_ret (pv 10)))))))))))),?_⟩
 walk_at "rdx"
 by_cases c0:n<0
 ·refine iteD c0 (iteT ?_)
  walk_at "rdx"
  exact⟨(by show 1≤sizeLine;decide),qe (by omega) _ (Same.refl _)⟩
 refine iteN c0 ?_
 walk_at "rdx"
 by_cases c1:400<n
 ·refine iteD c1 ?_
  walk_at "rdx"
  exact⟨(by show 1≤sizeLine;decide),qe (by omega) _ (Same.refl _)⟩
 refine iteN c1 ?_
 have q:=q (by omega) (by omega)
 walk_at "rdx"
 refine⟨_,_,rfl,by omega,by omega,fun ld hld=>?_⟩
 obtain⟨N,eN⟩:∃N:Nat,n=(N:Int):=⟨n.toNat,by omega⟩
 have eN2:(d+n-d).toNat=N:=by omega
 rw[eN2]
 have hN:N≤400:=by omega
 have smk:∀k:Nat,k<N→Sm (d+(k:Int)):=fun k hk=>by
  unfold Sm
  have:(10:Nat)^60=1000000000000000000000000000000000000000000000000000000000000:=by decide
  have:(10:Nat)^41=100000000000000000000000000000000000000000:=by decide
  omega
 refine fresh hld fun H1 s1 t1=>?_
 have dl:((List.range N).map fun(k:Nat)=>V.int (d+(k:Int))).length<sizeLine:=by rw[List.length_map,List.length_range];exact small1000 (by omega)
 have at':∀{i:Nat} {v:V},((List.range N).map fun(k:Nat)=>V.int (d+(k:Int)))[i]?=some v→i<N∧v=.int (d+(i:Int)):=fun{i v} hv=>by
  rw[List.getElem?_map] at hv
  obtain⟨k,hk,rfl⟩:=Option.map_eq_some_iff.mp hv
  obtain⟨h1,h2⟩:=List.getElem?_eq_some_iff.mp hk
  rw[List.length_range] at h1
  rw[List.getElem_range] at h2
  exact⟨h1,by rw[←h2]⟩
 walk_at "rdx"
 refine rd_comp (rd_iL ?_)
 walk_at "rdx"
 refine⟨ld,rfl,⟨_,SqL.of t1⟩,?_⟩
 refine comp_go walk_l dl (fun D ys hD=>SqL.of (same_new hD _ _ _ t1)) (fun _=>true) (fun v=>match v with | .int i=>.str (intT i) | _=>.non) (fun x hx D ys Q' hD h=>h) (fun x hx _ D ys Q' hD h=>?_) (fun ln hln=>?_)
 ·obtain⟨k,hk,rfl⟩:=List.mem_map.mp hx
  walk_at "rdx"
  exact⟨_,rfl,sm_log (smk k (List.mem_range.mp hk)),h⟩
 have e1:(((List.range N).map fun(k:Nat)=>V.int (d+(k:Int))).filter fun _=>true).map (fun v=>match v with | .int i=>V.str (intT i) | _=>.non)=((List.range N).map fun(k:Nat)=>intT (d+(k:Int))).map V.str:=by
  rw[List.filter_eq_self.mpr (fun _ _=>rfl),List.map_map,List.map_map]
  rfl
 rw[e1]
 refine fresh hln fun H2 s2 t2=>?_
 have s02:=s1.trans s2
 have d2:=s2 _ _ t1
 walk_at "rdx"
 refine rd_comp (rd_iL ?_)
 walk_at "rdx"
 refine⟨ld,rfl,⟨_,SqL.of d2⟩,?_⟩
 refine comp_inv walk_l dl (fun D i ys H3=>H3 D=some (.lst ys)∧Same H2 H3∧∃zs:List Str,ys=zs.map V.str∧zs.length=i∧∀(j:Nat) z,zs[j]?=some z→DtR c (d+(j:Int)) z) (fun D hD=>⟨upd_same,same_new hD _,[],rfl,rfl,fun j z h=>by simp at h⟩)
  (fun D i ys H3 _ ⟨h1,h2,zs,h3,h4,_⟩=>⟨h1,by rw[h3,List.length_map,h4];exact Nat.le_refl _,SqL.of (h2 _ _ d2)⟩) (fun D i v ys H3 hD hv ⟨h1,h2,zs,h3,h4,h5⟩=>?_) (fun ldt ys H3 hldt ⟨h1,h2,zs,h3,h4,h5⟩=>?_)
 ·obtain⟨hi,rfl⟩:=at' hv
  refine rd_true (iteT ?_)
  walk_at "rdx"
  have S3:=CalO.same S (s02.trans h2)
  obtain⟨s',ls',lp',ts',ec⟩:∃s' ls' lp' ts',c=.sun s' ls' lp' ts':=by
   cases c with
   | sun s' ls' lp' ts'=>exact⟨s',ls',lp',ts',rfl⟩
   | moon=>cases hsun
  have M3:=S3
  rw[ec] at M3
  obtain⟨dx,fs,e,ml⟩:=SunO.meth M3
  refine⟨x,dx,fs,rfl,e,ml.2.2.2.2.1,?_⟩
  walk_at "rdx"
  refine⟨x,d+(i:Int),c,rfl,hsun,S3,(bt_of (by omega) (by omega)).mono (by decide),fun p y m r H4 s4 tp ID DO _=>?_⟩
  have m0:=ID.m0
  have m1:=ID.m1
  have r0:=ID.r0
  have r1:=ID.r1
  have hsy:=hy y m r (by omega) ID (by omega) (by omega)
  have ll:=CalD.len g y
  have lm:=CalD.mem g y ((c.L y).getD (m-1).toNat 0) (by
   rw[List.getD_eq_getElem?_getD,List.getElem?_eq_getElem (by omega)]
   exact List.getElem_mem _)
  obtain⟨m',rfl⟩:∃m':Nat,m=(m':Int):=⟨m.toNat,by omega⟩
  obtain⟨r',rfl⟩:∃r':Nat,r=(r':Int):=⟨r.toNat,by omega⟩
  have hm':m'<10^60:=Nat.lt_of_lt_of_le (show m'<1000000 by omega) (by decide)
  have hr':r'<10^60:=Nat.lt_of_lt_of_le (show r'<1000000 by omega) (by decide)
  refine⟨p,y,m',r',rfl,SqT.of tp,sm_log hsy,hm',hr',fun z ez=>?_⟩
  refine⟨s4 _ _ h1,upd_same,same_app hD (h2.trans s4),zs++[z],by rw[h3,List.map_append];rfl,by rw[List.length_append,h4];rfl,fun j z' hz'=>?_⟩
  by_cases cj:j<zs.length
  ·rw[List.getElem?_append_left cj] at hz'
   exact h5 j z' hz'
  ·rw[List.getElem?_append_right (by omega)] at hz'
   have ej:j-zs.length=0:=by
    by_cases z0:j-zs.length=0
    ·exact z0
    ·rw[List.getElem?_eq_none (by show 1≤_;omega)] at hz'
     cases hz'
   rw[ej] at hz'
   cases hz'
   have:j=i:=by omega
   subst this
   exact⟨y,m',r',ID,DO,hsy,hm',hr',ez⟩
 rw[List.length_map,List.length_range] at h4
 have s03:=s02.trans h2
 have d3:=h2 _ _ d2
 have t23:=h2 _ _ t2
 subst h3
 walk_at "rdx"
 refine rd_comp (rd_iL ?_)
 walk_at "rdx"
 refine⟨ld,rfl,⟨_,SqL.of d3⟩,?_⟩
 refine comp_inv walk_l dl (fun D i ys H4=>H4 D=some (.lst ys)∧Same H3 H4∧ys=((List.range i).map fun(k:Nat)=>txt (joinC 44 (nmsOn rs (d+(k:Int))))).map V.str) (fun D hD=>⟨upd_same,same_new hD _,rfl⟩)
  (fun D i ys H4 _ ⟨g1,g2,g3⟩=>⟨g1,by rw[g3,List.length_map,List.length_map,List.length_range];exact Nat.le_refl _,SqL.of (g2 _ _ d3)⟩) (fun D i v ys H4 hD hv ⟨g1,g2,g3⟩=>?_) (fun lnm ys H4 hlnm ⟨g1,g2,g3⟩=>?_)
 ·obtain⟨hi,rfl⟩:=at' hv
  refine rd_true (iteT ?_)
  walk_at "rdx"
  refine⟨l,us,rs,_,rfl,(s03.trans g2) _ _ hl,P0.same (s03.trans g2),few,fun r hr=>(nms r hr).hi,fun H5 s5=>?_⟩
  refine⟨s5 _ _ g1,upd_same,same_app hD (g2.trans s5),?_⟩
  rw[g3,List.range_succ,List.map_append,List.map_append]
  rfl
 rw[List.length_map,List.length_range] at g3
 subst g3
 have s04:=s03.trans g2
 have t24:=g2 _ _ t23
 have t34:=g2 _ _ h1
 walk_at "rdx"
 refine⟨ln,_,rfl,t24,by rw[List.length_map,List.length_range];exact hN,fun z hz=>?_,fun wd H5 s5 w0 w1=>?_⟩
 ·obtain⟨k,hk,rfl⟩:=List.mem_map.mp hz
  exact(num_tl (smk k (List.mem_range.mp hk))).mono (by decide)
 walk_at "rdx"
 refine⟨ldt,zs,rfl,s5 _ _ t34,by omega,fun z hz=>?_,fun dw H6 s6 v0 v1=>?_⟩
 ·obtain⟨j,hj⟩:=List.mem_iff_getElem?.mp hz
  exact(h5 j z hj).tl
 have s46:=s5.trans s6
 have s06:=s04.trans s46
 walk_at "rdx"
 refine⟨(by show 0≤sizeLine;decide),fun D hD=>?_⟩
 walk_at "rdx"
 walk_at "rdf"
 walk_at "rdx"
 refine⟨_,rfl,by omega,by omega,for_range (fun i σ' H'=>∃(zr:List Str) (v1 v2:Option V),σ'=[some (.ref x),some (.ref l),some (.int d),some (.int n),some (.ref ld),some (.ref ln),some (.ref ldt),some (.ref lnm),some (.int wd),some (.int dw),some (.ref D),v1,v2]∧H' D=some (.lst (zr.map V.str))∧Same H6 H'∧zr.length=i∧∀(j:Nat) z,zr[j]?=some z→AlmR c rs (d+(j:Int)) z) ⟨[],_,_,rfl,upd_same,same_new hD _,rfl,fun j z h=>by simp at h⟩ ?_ ?_⟩
 ·rintro i σ' H7 hi ⟨zr,v1,v2,rfl,tD,s7,lz,az⟩
  rw[Int.zero_add]
  have hiN:i<N:=by omega
  have s47:=s46.trans s7
  have n7:=s47 _ _ t24
  have dt7:=s47 _ _ t34
  have nm7:=s47 _ _ g1
  obtain⟨zd,hzd⟩:∃zd,zs[i]?=some zd:=⟨_,List.getElem?_eq_getElem (by omega)⟩
  have Z:=h5 i zd hzd
  have Nm:=nms_tl few nms (d+(i:Int))
  have smi:=smk i hiN
  walk_at "rdx"
  refine rd_bm ?_
  walk_at "rdx"
  refine rd_ixL (v:=.str (intT (d+(i:Int)))) (SqL.of n7) (atI_nat (by rw[List.getElem?_map,List.getElem?_map,List.getElem?_range hiN];rfl)) ?_
  refine⟨rfl,?_⟩
  walk_at "rdx"
  refine⟨_,_,rfl,rfl,w0,by omega,?_⟩
  obtain⟨i1,hi1,e1⟩:=pad_l (intT (d+(i:Int))) (w:=wd) (by omega)
  generalize (if wd≤((intT (d+(i:Int))).length:Int) then intT (d+(i:Int)) else Builtin.Str.padded (intT (d+(i:Int))) (wd.toNat-(intT (d+(i:Int))).length) 0 32)=z1 at e1 ⊢
  have T1:=tl_pad (num_tl smi) hi1 (Nat.zero_le 1000) (by rw[e1,List.replicate_zero,List.append_nil])
  walk_at "rdx"
  refine rd_bm ?_
  walk_at "rdx"
  refine rd_ixL (v:=.str zd) (SqL.of dt7) (atI_nat (by rw[List.getElem?_map,hzd];rfl)) ?_
  refine⟨rfl,?_⟩
  walk_at "rdx"
  refine⟨_,_,rfl,rfl,v0,by omega,?_⟩
  obtain⟨i2,hi2,e2⟩:=pad_r zd (w:=dw) (by omega)
  generalize (if dw≤(zd.length:Int) then zd else Builtin.Str.padded zd 0 (dw.toNat-zd.length) 32)=z2 at e2 ⊢
  have T2:=tl_pad Z.tl (Nat.zero_le 1000) hi2 (by rw[e2,List.replicate_zero,List.nil_append])
  walk_at "rdx"
  refine rd_ixL (v:=.str (txt (joinC 44 (nmsOn rs (d+(i:Int)))))) (SqL.of nm7) (atI_nat (by rw[List.getElem?_map,List.getElem?_map,List.getElem?_range hiN];rfl)) ?_
  walk_at "rdx"
  refine⟨three,fun lw hlw=>?_⟩
  refine fresh hlw fun H8 s8 t8=>?_
  have t8:H8 lw=some (.lst (([z1,z2,txt (joinC 44 (nmsOn rs (d+(i:Int))))]:List Str).map V.str)):=t8
  have W:WL ((61+2000+1)+((200+2000+1)+(200+1))) [z1,z2,txt (joinC 44 (nmsOn rs (d+(i:Int))))]:=WL.cons T1 (WL.cons T2 (WL.one Nm.1))
  walk_at "rdx"
  refine rd_append rfl (s8 _ _ tD) ?_
  walk_at "rdx"
  refine rd_bm ?_
  walk_at "rdx"
  refine rd_bm ?_
  walk_at "rdx"
  refine⟨rfl,?_⟩
  walk_at "rdx"
  refine⟨_,lw,_,rfl,rfl,SqL.of t8,(by rw[e32];exact W.sum (by decide)),?_⟩
  have TJ:=W.join (c:=32) (by decide)
  have eJ:=join_cpl 32 [z1,z2,txt (joinC 44 (nmsOn rs (d+(i:Int))))]
  rw[e32]
  generalize Txt.join ⟨#[32]⟩ [z1,z2,txt (joinC 44 (nmsOn rs (d+(i:Int))))]=zj at TJ eJ ⊢
  have jl:=TJ.len
  refine⟨rfl,?_⟩
  walk_at "rdx"
  refine⟨zj,_,rfl,rfl,by rw[sizeLine_eq];omega,?_⟩
  refine rd_nil ?_
  refine rd_app (s8 _ _ tD) (by rw[List.length_map,lz];exact small1000 (by omega)) ?_
  walk_at "rdx"
  refine⟨zr++[rstT zj],_,_,rfl,?_,same_app hD (s7.trans s8),by rw[List.length_append,lz];rfl,fun j z hz=>?_⟩
  ·rw[List.map_append]
   exact upd_same
  by_cases cj:j<zr.length
  ·rw[List.getElem?_append_left cj] at hz
   exact az j z hz
  ·rw[List.getElem?_append_right (by omega)] at hz
   have ej:j-zr.length=0:=by
    by_cases z0:j-zr.length=0
    ·exact z0
    ·rw[List.getElem?_eq_none (by show 1≤_;omega)] at hz
     cases hz
   rw[ej] at hz
   cases hz
   obtain rfl:j=i:=by omega
   obtain⟨y,m,r,ID,DO,hsy,hm,hr',ez⟩:=Z.ex
   have m0:=ID.m0
   have r0:=ID.r0
   refine⟨(TL.rst TJ).ok (by decide),y,m,r,ID,DO,hsy,hm,hr',alm_row (i:=i1) (j:=i2) smi hsy (by omega) hm (by omega) hr' Nm.2 ?_⟩
   rw[eJ]
   show joinC 32 [cpl z1,cpl z2,joinC 44 (nmsOn rs (d+(j:Int)))]=_
   rw[joinC_cons,joinC_cons,e1,e2,ez]
   show _++32::(_++32::(joinC 44 (nmsOn rs (d+(j:Int)))++[]))=_
   rw[List.append_nil]
   rfl
 ·rintro σ' H7 ⟨zr,v1,v2,rfl,tD,s7,lz,az⟩
  walk_at "rdx"
  exact q D zr H7 (s06.trans s7) (s06.free hD) tD (by omega) az
theorem sc_law_cell_at:FnScope ["_law_script","_law_k"] ["_law_script","_law_k"] (defScope s_law_cell_at):=⟨rfl,rfl,rfl,by decide +kernel,rfl,by decide +kernel,by decide +kernel⟩
theorem ok_law_cell_at{f:Addr}{fd:FuncData}(F:Fun K "_law_cell_at" "_law_cell_at" s_law_cell_at f fd)(z_len:mg "len"=none):FnOk P w K mg base CX0 1 f fd ["_law_script","_law_k"] (spCell K):=by
 refine F.ok (k:=0) sc_law_cell_at (fun vs H Q E h=>?_) (fun cdv A outer s H vs Q E hr h=>?_)
 ·obtain⟨a,ns,k,rfl,_⟩:=h
  rfl
 obtain⟨a,ns,k,rfl,hS,h0,hl,q⟩:=h
 refine⟨_,(pss_cons (ps_if (pt_cmpR op_lt (pv 1) (pe_callB call_len_seq rfl z_len PySem.boot_len (pa_cons (pv 0) pa_nil)) (nomark _))
  (pss_one (ps_ret (pe_ix ix_list (pv 0) (pv 1) (fun _ _=>rfl))))
  pss_nil)
  (pss_one (ps_ret pe_int))),?_⟩
 walk_at "rd"
 refine⟨a,_,rfl,.inl hS,?_⟩
 walk_at "rd"
 rw[List.length_map]
 refine ite2d (fun c=>?_) (fun c=>?_)
 ·walk_at "rd"
  refine rd_ixL hS (at_ints h0 c) ?_
  exact q
 ·walk_at "rd"
  have e:ns.getD k.toNat 0=0:=by
   simp[List.getD,List.getElem?_eq_none (show ns.length≤k.toNat by omega)]
  rw[e] at q
  exact q
theorem sc_law_whole:FnScope ["_law_found"] ["_law_found"] (defScope s_law_whole):=⟨rfl,rfl,rfl,by decide +kernel,rfl,by decide +kernel,by decide +kernel⟩
theorem ok_law_whole{f:Addr}{fd:FuncData}(F:Fun K "_law_whole" "_law_whole" s_law_whole f fd)(z_isinstance:mg "isinstance"=none)(z_int:mg "int"=none)(z_bool:mg "bool"=none):FnOk P w K mg base CX0 1 f fd ["_law_found"] spWhole:=by
 refine F.ok (k:=0) sc_law_whole (fun vs H Q E h=>?_) (fun cdv A outer s H vs Q E hr h=>?_)
 ·obtain⟨i,rfl,_⟩:=h
  rfl
 obtain⟨i,rfl,q⟩:=h
 refine⟨_,(pss_one (ps_ret (pe_and (pe_callB call_isi rfl z_isinstance PyProof.Rows.boot_isinstance (pa_cons (pv 0) (pa_cons (pe_bltn rfl z_int PyProof.Rows.boot_int (rel_ty _)) pa_nil))) (pe_one (pe_not (pe_callB call_isi rfl z_isinstance PyProof.Rows.boot_isinstance (pa_cons (pv 0) (pa_cons (pe_bltn rfl z_bool PyProof.Rows.boot_bool (rel_ty _)) pa_nil)))))))),?_⟩
 walk_at "rd"
 refine rd_isi (.int i) (kit_int_int K) ?_
 walk_at "rd"
 refine iteT ?_
 walk_at "rd"
 refine rd_isi (.int i) (kit_ib K) ?_
 walk_at "rd"
 exact q
theorem sc_law_number:FnScope ["_law_cell","_law_part_here"] ["_law_cell"] (defScope s_law_number):=⟨rfl,rfl,rfl,by decide +kernel,rfl,by decide +kernel,by decide +kernel⟩
theorem ok_law_number{f:Addr}{fd:FuncData}(F:Fun K "_law_number" "_law_number" s_law_number f fd):FnOk P w K mg base CX0 1 f fd ["_law_cell"] spNumB:=by
 refine F.ok (k:=0) sc_law_number (fun vs H Q E h=>?_) (fun cdv A outer s H vs Q E hr h=>?_)
 ·obtain⟨c,rfl,_⟩:=h
  rfl
 obtain⟨c,rfl,q⟩:=h
 refine⟨_,(pss_cons (ps_set (i:=1) sc_law_number.nd rfl (by first | exact Or.inl rfl | exact Or.inr rfl) (pe_op op_mod (pe_op op_fdivB (pv 0) pe_int) (pe_op op_pow pe_int pe_int)))
  (pss_one (ps_ret (pe_ix ix_list (pe_lst (pa_cons (pv 1) (pa_cons (pe_un un_neg (pv 1)) (pa_cons (pe_op op_sub (pe_op op_mod (pv 1) pe_int) pe_int) pa_nil)))) (pe_op op_mod (pv 0) pe_int) (fun _ _=>rfl))))),?_⟩
 walk_at "rd"
 rw[p40]
 generalize hp:c/3%10000000000000000000000000000000000000000=pt
 refine⟨(by show 3≤sizeLine;decide),fun l hl=>?_⟩
 walk_at "rd"
 have fin:∀k:Int,-10000000000000000000000000000000000000000≤k→k≤10000000000000000000000000000000000000000→atI [V.int pt,V.int (-pt),V.int (pt%1000-500)] (c%3)=some (V.int k)→rIxL K (.ref l) (.int (c%3)) (upd H l (.lst [V.int pt,V.int (-pt),V.int (pt%1000-500)])) Q:=fun k k0 k1 e=>
  rd_ixL (SqL.of upd_same) e (q k _ (same_new hl _) k0 k1)
 rcases(by omega:c%3=0∨c%3=1∨c%3=2) with e | e | e
 ·exact fin pt (by omega) (by omega) (by rw[e];rfl)
 ·exact fin (-pt) (by omega) (by omega) (by rw[e];rfl)
 ·exact fin (pt%1000-500) (by omega) (by omega) (by rw[e];rfl)
theorem sc_law_mixed:FnScope ["_law_cell","_law_k","_law_number_here"] ["_law_cell","_law_k"] (defScope s_law_mixed):=⟨rfl,rfl,rfl,by decide +kernel,rfl,by decide +kernel,by decide +kernel⟩
theorem ok_law_mixed{f:Addr}{fd:FuncData}(F:Fun K "_law_mixed" "_law_mixed" s_law_mixed f fd):FnOk P w K mg base CX0 1 f fd ["_law_cell","_law_k"] spMixed82:=by
 refine F.ok (k:=0) sc_law_mixed (fun vs H Q E h=>?_) (fun cdv A outer s H vs Q E hr h=>?_)
 ·obtain⟨c,k,rfl,_⟩:=h
  rfl
 obtain⟨c,k,rfl,k0,k1,q⟩:=h
 refine⟨_,(pss_cons (ps_if (pt_cmpR op_eq (pe_op op_mod (pv 0) pe_int) pe_int (nomark _))
  (pss_one (ps_ret (pe_op op_and (pe_op op_shr (pe_op op_fdivB (pv 0) pe_int) (pe_op op_mulB pe_int (pv 1))) pe_int)))
  pss_nil)
  (pss_cons (ps_set (i:=2) sc_law_mixed.nd rfl (by first | exact Or.inl rfl | exact Or.inr rfl) (pe_op op_mod (pe_op op_mulB (pe_op op_add (pe_op op_add (pe_op op_mod (pv 0) pe_int) (pe_op op_mulB pe_int (pv 1))) pe_int) pe_int) pe_int))
  (pss_cons (ps_set (i:=2) sc_law_mixed.nd rfl (by first | exact Or.inl rfl | exact Or.inr rfl) (pe_op op_mod (pe_op op_mulB (pv 2) (pe_op op_add (pe_op op_fdivB (pv 2) pe_int) pe_int)) pe_int))
  (pss_one (ps_ret (pe_op op_mod (pe_op op_mulB (pv 2) (pe_op op_add (pe_op op_add (pe_op op_fdivB (pv 2) pe_int) pe_int) (pv 1))) pe_int)))))),?_⟩
 walk_at "rd"
 refine ite2d (fun _=>?_) (fun _=>?_)
 ·walk_at "rd"
  refine rd_i ⟨64,64,by unfold Bt;omega,by unfold Bt;omega,by decide⟩ ?_
  walk_at "rd"
  refine rd_i (show (0:Int)≤41*k by omega) ?_
  walk_at "rd"
  exact q _ (bitAnd_mask _ 2199023255551).1 (bitAnd_mask _ 2199023255551).2
 walk_at "rd"
 refine rd_i ⟨64,64,by unfold Bt;omega,by unfold Bt;omega,by decide⟩ ?_
 walk_at "rd"
 refine rd_i ⟨64,64,by unfold Bt;omega,by unfold Bt;omega,by decide⟩ ?_
 walk_at "rd"
 generalize h1:(c%2147483647+7919*k+1)*48271%2147483647=x
 have x0:0≤x:=by rw[←h1];exact Int.emod_nonneg _ (by decide)
 have x1:x<2147483647:=by rw[←h1];exact Int.emod_lt_of_pos _ (by decide)
 refine rd_i ⟨64,64,by unfold Bt;omega,by unfold Bt;omega,by decide⟩ ?_
 walk_at "rd"
 generalize h2:x*(x/1009+69621)%2147483647=y
 have y0:0≤y:=by rw[←h2];exact Int.emod_nonneg _ (by decide)
 have y1:y<2147483647:=by rw[←h2];exact Int.emod_lt_of_pos _ (by decide)
 refine rd_i ⟨64,64,by unfold Bt;omega,by unfold Bt;omega,by decide⟩ ?_
 walk_at "rd"
 exact q _ (Int.emod_nonneg _ (by decide)) (Int.le_trans (Int.le_of_lt (Int.emod_lt_of_pos _ (by decide))) (by decide))
theorem sc_law_name:FnScope ["_law_cell","_law_word","_law_k"] ["_law_cell"] (defScope s_law_name):=⟨rfl,rfl,rfl,by decide +kernel,rfl,by decide +kernel,by decide +kernel⟩
theorem ok_law_name{f:Addr}{fd:FuncData}(F:Fun K "_law_name" "_law_name" s_law_name f fd)(c__law_mixed:Cal P w K mg base 1 "_law_mixed" ["_law_cell","_law_k"] spMixed82)(z_range:mg "range"=none):FnOk P w K mg base CX0 2 f fd ["_law_cell"] spName82:=by
 refine F.ok (k:=1) sc_law_name (fun vs H Q E h=>?_) (fun cdv A outer s H vs Q E hr h=>?_)
 ·obtain⟨x,rfl,_⟩:=h
  rfl
 obtain⟨x,rfl,q⟩:=h
 refine⟨_,(pss_cons (ps_set (i:=1) sc_law_name.nd rfl (by first | exact Or.inl rfl | exact Or.inr rfl) pe_str)
  (pss_cons (ps_for PassesOwn.never rfl (pi_range1 rfl z_range (pa_cons (pe_op op_add pe_int (pe_op op_mod (pv 0) pe_int)) pa_nil)) (pg_name (i:=2) sc_law_name.nd rfl (by first | exact Or.inl rfl | exact Or.inr rfl))
   (pss_one (ps_set (i:=1) sc_law_name.nd rfl (by first | exact Or.inl rfl | exact Or.inr rfl) (pe_op op_add_str (pv 1) (pe_ix ix_str pe_str (pe_op op_mod (pe_cal c__law_mixed (hr.mono (by decide)) rfl (pa_cons (pe_op op_fdivB (pv 0) pe_int) (pa_cons (pv 2) pa_nil))) pe_int) (fun _ _=>rfl))))))
  (pss_one (ps_ret (pv 1))))),?_⟩
 walk_at "rdc"
 walk_at "rdf"
 walk_at "rdc"
 refine⟨_,rfl,by omega,by omega,for_range (fun i σ' H'=>H'=H∧∃(y:Str) (v:Option V),TL i y∧σ'=[some (.int x),some (.str y),v]) ⟨rfl,_,_,⟨by decide +kernel,by decide +kernel⟩,rfl⟩ ?_ ?_⟩
 ·rintro i σ' H' hi ⟨rfl,y,v,hy,rfl⟩
  rw[Int.zero_add]
  walk_at "rdc"
  refine⟨_,_,rfl,by omega,by omega,fun m m0 m1=>?_⟩
  walk_at "rdc"
  have el:(cpl (Str.ofString "abcdefghijklmnopqrstuvwxyz")).length=26:=by decide +kernel
  have hk:(m%26).toNat<(cpl (Str.ofString "abcdefghijklmnopqrstuvwxyz")).length:=by omega
  have hall:∀c∈cpl (Str.ofString "abcdefghijklmnopqrstuvwxyz"),c<128:=by decide +kernel
  have c1:=hall _ (List.getElem_mem hk)
  have hat:atI (Str.ofString "abcdefghijklmnopqrstuvwxyz").cps.toList (m%26)=some (cpl (Str.ofString "abcdefghijklmnopqrstuvwxyz"))[(m%26).toNat]:=by
   have:=atI_nat (xs:=cpl (Str.ofString "abcdefghijklmnopqrstuvwxyz")) (j:=(m%26).toNat) (v:=(cpl (Str.ofString "abcdefghijklmnopqrstuvwxyz"))[(m%26).toNat]) (by simp[hk])
   rwa [show (((m%26).toNat:Nat):Int)=m%26 by omega] at this
  generalize (cpl (Str.ofString "abcdefghijklmnopqrstuvwxyz"))[(m%26).toNat]=c at c1 hat
  refine⟨_,_,c,rfl,rfl,(by decide +kernel),hat,?_⟩
  have hyl:=hy.len
  refine⟨y,_,rfl,rfl,(by show y.length+1≤sizeLine;rw[sizeLine_eq];omega),?_⟩
  walk_at "rdc"
  exact⟨rfl,_,_,hy.app (TL.sign c1),rfl⟩
 ·rintro σ' H' ⟨rfl,y,v,hy,rfl⟩
  walk_at "rdc"
  exact q y _ (Same.refl _) (hy.mono (by omega))
theorem sc_law_row:FnScope ["_law_cell","_law_day","_law_parts","_law_names_here","_law_words","_law_row_here","_law_word"] ["_law_cell"] (defScope s_law_row):=⟨rfl,rfl,rfl,by decide +kernel,rfl,by decide +kernel,by decide +kernel⟩
theorem ok_law_row{f:Addr}{fd:FuncData}(F:Fun K "_law_row" "_law_row" s_law_row f fd)(c__law_number:Cal P w K mg base 1 "_law_number" ["_law_cell"] spNumB)(c__law_mixed:Cal P w K mg base 1 "_law_mixed" ["_law_cell","_law_k"] spMixed82)(c__law_name:Cal P w K mg base 2 "_law_name" ["_law_cell"] spName82)(z_str:mg "str"=none)(z_range:mg "range"=none):FnOk P w K mg base CX0 3 f fd ["_law_cell"] spRow82:=by
 refine F.ok (k:=2) sc_law_row (fun vs H Q E h=>?_) (fun cdv A outer s H vs Q E hr h=>?_)
 ·obtain⟨x,rfl,_⟩:=h
  rfl
 obtain⟨x,rfl,bx,q⟩:=h
 refine⟨_,(pss_cons (ps_set (i:=1) sc_law_row.nd rfl (by first | exact Or.inl rfl | exact Or.inr rfl) (pe_callTy call_str_int rfl z_str PyProof.Rows.boot_str (pa_cons (pe_cal c__law_number (hr.mono (by decide)) rfl (pa_cons (pe_op op_fdivB (pv 0) pe_int) pa_nil)) pa_nil)))
  (pss_cons (ps_set (i:=2) sc_law_row.nd rfl (by first | exact Or.inl rfl | exact Or.inr rfl) (pe_lst (pa_cons (pe_callTy call_str_int rfl z_str PyProof.Rows.boot_str (pa_cons (pe_cal c__law_number (hr.mono (by decide)) rfl (pa_cons (pe_op op_mulB (pe_cal c__law_mixed (hr.mono (by decide)) rfl (pa_cons (pv 0) (pa_cons pe_int pa_nil))) (pe_op op_fdivB (pv 0) pe_int)) pa_nil)) pa_nil)) (pa_cons (pe_bm PySem.F.plainAttrs_str PySem.F.slot_str_zfill PySem.F.type_str_zfill mt_zfill (pe_callTy call_str_int rfl z_str PyProof.Rows.boot_str (pa_cons (pe_op op_add pe_int (pe_op op_mod (pe_cal c__law_mixed (hr.mono (by decide)) rfl (pa_cons (pv 0) (pa_cons pe_int pa_nil))) pe_int)) pa_nil)) (pa_cons pe_int pa_nil)) pa_nil))))
  (pss_cons (ps_expr (pe_bm PySem.F.plainAttrs_list PySem.F.slot_list_append PySem.F.type_list_append mt_append (pv 2) (pa_cons (pe_bm PySem.F.plainAttrs_str PySem.F.slot_str_zfill PySem.F.type_str_zfill mt_zfill (pe_callTy call_str_int rfl z_str PyProof.Rows.boot_str (pa_cons (pe_op op_add pe_int (pe_op op_mod (pe_cal c__law_mixed (hr.mono (by decide)) rfl (pa_cons (pv 0) (pa_cons pe_int pa_nil))) (pe_ix ix_list (pe_lst (pa_cons pe_int (pa_cons pe_int pa_nil))) (pe_op op_mod (pv 0) pe_int) (fun _ _=>rfl)))) pa_nil)) (pa_cons pe_int pa_nil)) pa_nil)))
  (pss_cons (ps_setComp (i:=3) sc_law_row.nd rfl (by first | exact Or.inl rfl | exact Or.inr rfl) rfl (compOk_freeM ["_law_cell","_law_day","_law_parts","_law_names_here","_law_words","_law_row_here","_law_word"] ["_law_cell","_law_day","_law_parts","_law_names_here","_law_words","_law_row_here","_law_word"] rfl rfl (by with_unfolding_all rfl) (by decide +kernel) rfl (by decide +kernel) rfl (by decide +kernel) (by walk_at "fm") (by with_unfolding_all rfl) (by with_unfolding_all rfl)) (pi_range1 rfl z_range (pa_cons (pe_op op_mod (pe_cal c__law_mixed (hr.mono (by decide)) rfl (pa_cons (pv 0) (pa_cons pe_int pa_nil))) pe_int) pa_nil)) (fun _ _ _ _=>pifs_nil) (fun _ _ _ _=>(pe_cal c__law_name (hr.mono (by decide)) rfl (pa_cons (pe_cal c__law_mixed (hr.mono (by decide)) rfl (pa_cons (pv 1) (pa_cons (pe_op op_add pe_int (pv 0)) pa_nil))) pa_nil))))
  (pss_cons (ps_set (i:=4) sc_law_row.nd rfl (by first | exact Or.inl rfl | exact Or.inr rfl) (pe_lst (pa_cons (pv 1) (pa_cons (pe_bm PySem.F.plainAttrs_str PySem.F.slot_str_join PySem.F.type_str_join mt_join pe_str (pa_cons (pv 2) pa_nil)) pa_nil))))
  (pss_cons (ps_cut (ps_if (pt_cmpR (op_neNil hr.units) (pv 3) (pe_lst pa_nil) (nomark _))
   (pss_one (ps_expr (pe_bm PySem.F.plainAttrs_list PySem.F.slot_list_append PySem.F.type_list_append mt_append (pv 4) (pa_cons (pe_bm PySem.F.plainAttrs_str PySem.F.slot_str_join PySem.F.type_str_join mt_join pe_str (pa_cons (pv 3) pa_nil)) pa_nil))))
   pss_nil))
  (pss_cons (ps_set (i:=5) sc_law_row.nd rfl (by first | exact Or.inl rfl | exact Or.inr rfl) (pe_op op_mulS pe_str (pe_op op_mod (pe_cal c__law_mixed (hr.mono (by decide)) rfl (pa_cons (pv 0) (pa_cons pe_int pa_nil))) pe_int)))
  (pss_cons (ps_for PassesOwn.never rfl (pi_list (pv 4)) (pg_name (i:=6) sc_law_row.nd rfl (by first | exact Or.inl rfl | exact Or.inr rfl))
   (pss_one (ps_set (i:=5) sc_law_row.nd rfl (by first | exact Or.inl rfl | exact Or.inr rfl) (pe_op op_add_str (pe_op op_add_str (pv 5) (pv 6)) (pe_op op_mulS pe_str (pe_op op_add pe_int (pe_op op_mod (pe_cal c__law_mixed (hr.mono (by decide)) rfl (pa_cons (pv 0) (pa_cons pe_int pa_nil))) pe_int)))))))
  (pss_cons (ps_cut (ps_if (pt_cmpR op_eq (pe_op op_mod (pv 0) pe_int) pe_int (nomark _))
   (pss_one (ps_set (i:=5) sc_law_row.nd rfl (by first | exact Or.inl rfl | exact Or.inr rfl) (pe_bm PySem.F.plainAttrs_str PySem.F.slot_str_rstrip PySem.F.type_str_rstrip mt_rstrip (pv 5) (pa_cons pe_str pa_nil))))
   pss_nil))
  (pss_one (ps_ret (pv 5)))))))))))),?_⟩
 walk_at "rdc"
 refine⟨_,rfl,fun dn H1 s1 dn0 dn1=>?_⟩
 have ld:dn.natAbs.log2<1920:=log_small (by omega) (by omega)
 have smd:Sm dn:=by
  unfold Sm
  have:(10:Nat)^60=1000000000000000000000000000000000000000000000000000000000000:=by decide
  omega
 refine⟨_,rfl,ld,?_⟩
 have ed:Str.ofString (toString dn)=intT dn:=rfl
 rw[ed]
 walk_at "rdc"
 refine⟨_,_,rfl,by decide,by decide,fun m1 m10 m11=>?_⟩
 walk_at "rdc"
 refine rd_i ⟨64,1048600,bt_small m10 (by omega) (Nat.le_refl _),bt_div bx (by decide),by decide⟩ ?_
 refine rd_nil ?_
 refine⟨_,rfl,fun yn H2 s2 yn0 yn1=>?_⟩
 walk_at "rdc"
 refine⟨_,rfl,log_small (by omega) (by omega),?_⟩
 have ty:TL 1921 (intT yn):=TL.int (log_small (by omega) (by omega))
 have ey:Str.ofString (toString yn)=intT yn:=rfl
 rw[ey]
 walk_at "rdc"
 refine rd_bm ?_
 walk_at "rdc"
 refine⟨_,_,rfl,by decide,by decide,fun m2 m20 m21=>?_⟩
 walk_at "rdc"
 refine⟨_,rfl,log_small (by omega) (by omega),?_⟩
 refine⟨rfl,?_⟩
 walk_at "rdc"
 have e2:Str.ofString (toString (1+m2%20))=intT (1+m2%20):=rfl
 rw[e2]
 obtain⟨z2,t2,f2,y2⟩:=zf_tell (i:=1+m2%20) (by omega) (by omega)
 refine⟨_,_,rfl,rfl,by decide,by decide,f2,?_⟩
 rw[y2]
 walk_at "rdc"
 refine⟨two,fun l hl=>?_⟩
 refine fresh hl fun H3 s3 t3=>?_
 walk_at "rdc"
 refine rd_append rfl t3 ?_
 walk_at "rdc"
 refine rd_bm ?_
 walk_at "rdc"
 refine⟨_,_,rfl,by decide,by decide,fun m3 m30 m31=>?_⟩
 walk_at "rdc"
 refine⟨two,fun l2 hl2=>?_⟩
 refine fresh hl2 fun H4 s4 t4=>?_
 walk_at "rdc"
 obtain⟨b,hb,b0,b1⟩:∃b:Int,atI [V.int 31,V.int 1200] (x%2)=some (.int b)∧0<b∧b≤1200:=by
  have c2:x%2=0∨x%2=1:=by omega
  rcases c2 with e | e
  ·rw[e]
   exact⟨_,at_n0,by decide,by decide⟩
  ·rw[e]
   exact⟨_,at_n1,by decide,by decide⟩
 refine rd_ixL (SqL.of t4) hb ?_
 refine rd_i b0 ?_
 have b2:=Int.emod_nonneg m3 (show b≠0 by omega)
 have b3:=Int.emod_lt_of_pos m3 b0
 walk_at "rdc"
 refine⟨_,rfl,log_small (by omega) (by omega),?_⟩
 refine⟨rfl,?_⟩
 walk_at "rdc"
 have e3:Str.ofString (toString (1+m3%b))=intT (1+m3%b):=rfl
 rw[e3]
 obtain⟨z3,u3,f3,y3⟩:=zf_tell (i:=1+m3%b) (by omega) (by omega)
 refine⟨_,_,rfl,rfl,by decide,by decide,f3,?_⟩
 rw[y3]
 refine rd_nil ?_
 refine rd_app (s4 _ _ t3) (by show 2<sizeLine;decide) ?_
 have s5:Same H2 (upd H4 l (.lst ([.str (intT yn),.str z2]++[.str z3]))):=same_app hl (s3.trans s4)
 have t5:upd H4 l (.lst ([.str (intT yn),.str z2]++[.str z3])) l=some (.lst (([intT yn,z2,z3]:List Str).map V.str)):=upd_same
 generalize upd H4 l (.lst ([.str (intT yn),.str z2]++[.str z3]))=H5 at s5 t5 ⊢
 have W5:WL (1921+1+((61+1)+(61+1))) [intT yn,z2,z3]:=WL.cons ty (WL.cons t2 (WL.one u3))
 have s05:=(s1.trans s2).trans s5
 walk_at "rdc"
 refine rd_comp (rd_rng1 ?_)
 walk_at "rdc"
 refine⟨_,_,rfl,by decide,by decide,fun m9 m90 m91=>?_⟩
 walk_at "rdc"
 refine⟨_,rfl,by omega,by omega,?_⟩
 refine comp_inv walk_r (by rw[List.length_map,List.length_range];exact small1000 (by omega)) (fun D i ys H6=>H6 D=some (.lst ys)∧Same H5 H6∧i≤5∧∃zs:List Str,ys=zs.map V.str∧zs.length=i∧WL (i*9) zs) (fun D hD=>⟨upd_same,same_new hD _,by omega,[],rfl,rfl,WL.nil _⟩)
  (fun D i ys H6 _ ⟨h1,_,h4,zs,h3,h5,_⟩=>⟨h1,by rw[h3,List.length_map,h5];exact Nat.le_refl _,trivial⟩) (fun D i v ys H6 hD hv ⟨h1,h2,h4,zs,h3,h5,h6⟩=>?_) (fun D ys H6 hD ⟨h1,h2,h4,zs,h3,h5,h6⟩=>?_)
 ·rw[List.getElem?_map] at hv
  obtain⟨j,hj,rfl⟩:=Option.map_eq_some_iff.mp hv
  obtain⟨jl,ej⟩:=List.getElem?_eq_some_iff.mp hj
  rw[List.getElem_range] at ej
  rw[List.length_range] at jl
  refine rd_true (iteT ?_)
  walk_at "rdc"
  refine⟨_,_,rfl,by omega,by omega,fun m4 m40 m41=>?_⟩
  walk_at "rdc"
  refine⟨_,rfl,fun zn H7 s7 tn=>?_⟩
  refine⟨s7 _ _ h1,upd_same,same_app hD (h2.trans s7),by omega,zs++[zn],by rw[h3,List.map_append];rfl,by rw[List.length_append,h5];rfl,?_⟩
  have:=h6.app (WL.one tn)
  exact this.mono (by omega)
 subst h3
 have s06:=s05.trans h2
 have t6:=h2 _ _ t5
 have W6:=h6.mono (show _*9≤45 by omega)
 walk_at "rdc"
 refine rd_bm ?_
 walk_at "rdc"
 refine⟨rfl,?_⟩
 walk_at "rdc"
 refine⟨_,l,[intT yn,z2,z3],rfl,rfl,SqL.of t6,(by rw[eSlash];exact W5.sum (by decide)),?_⟩
 have J5:=W5.join (c:=47) (by decide)
 have eS:Str.ofString "/"=⟨#[47]⟩:=eSlash
 rw[eS]
 generalize Txt.join ⟨#[47]⟩ [intT yn,z2,z3]=zj at J5 ⊢
 walk_at "rdc"
 refine⟨two,fun lw hlw=>?_⟩
 have td:TL 61 (intT dn):=num_tl smd
 have W7:WL (61+1+(1921+1+((61+1)+(61+1))+1)) [intT dn,zj]:=WL.cons td (WL.one J5)
 refine fresh hlw fun H7 s7 t7=>?_
 have t7:H7 lw=some (.lst (([intT dn,zj]:List Str).map V.str)):=t7
 have s07:=s06.trans s7
 have d7:=s7 _ _ h1
 walk_at "rdc"
 refine rd_cut (fun σ' H'=>Same H6 H'∧∃zs':List Str,σ'=[some (.int x),some (.str (intT dn)),some (.ref l),some (.ref D),some (.ref lw),none,none]∧H' lw=some (.lst ((intT dn::zs').map V.str))∧zs'.length≤2∧WL 3000 (intT dn::zs')) ?_ ?_
 ·walk_at "rdc"
  refine⟨(by show 0≤sizeLine;decide),fun ln hln=>?_⟩
  refine fresh hln fun H8 s8 t8=>?_
  refine rd_neNil (SqL.of (s8 _ _ d7)) (SqL.of t8) ?_
  refine⟨_,rfl,?_⟩
  cases hne:(!(zs.map V.str).isEmpty) with
  | false=>
   refine iteF ?_
   walk_at "rdc"
   exact⟨s7.trans s8,[zj],rfl,s8 _ _ t7,by show 1≤2;decide,W7.mono (by decide)⟩
  | true=>
   refine iteT ?_
   walk_at "rdc"
   refine rd_append rfl (s8 _ _ t7) ?_
   walk_at "rdc"
   refine rd_bm ?_
   walk_at "rdc"
   refine⟨rfl,?_⟩
   walk_at "rdc"
   refine⟨_,D,zs,rfl,rfl,SqL.of (s8 _ _ d7),(by rw[e44];exact W6.sum (by decide)),?_⟩
   have J6:=W6.join (c:=44) (by decide)
   rw[e44]
   generalize Txt.join ⟨#[44]⟩ zs=zn at J6 ⊢
   refine rd_nil ?_
   refine rd_app (s8 _ _ t7) (by show 2<sizeLine;decide) ?_
   walk_at "rdc"
   refine⟨same_app hlw (s7.trans s8),[zj,zn],rfl,upd_same,by show 2≤2;decide,?_⟩
   exact(W7.app (WL.one J6)).mono (by decide)
 rintro σ' H8 ⟨s8,zs',rfl,t8,l8,W8⟩
 have s08:=s06.trans s8
 have bl:TL 1 (Str.ofString " "):=⟨by decide +kernel,by decide +kernel⟩
 have mo:∀n:Int,0≤n→n≤3→MulOk (Str.ofString " ") n:=fun n h0 h3=>by
  rcases(by omega:n=0∨1≤n) with e | e
  ·rw[e]
   exact⟨by decide,by decide +kernel⟩
  ·exact mul_ok e h3 (by decide +kernel)
 walk_at "rdc"
 refine⟨_,_,rfl,by decide,by decide,fun m6 m60 m61=>?_⟩
 walk_at "rdc"
 refine⟨_,_,rfl,rfl,mo _ (by omega) (by omega),?_⟩
 have B0:=bl.mul (n:=m6%4) (by omega)
 generalize Txt.mul (Str.ofString " ") (m6%4)=zb at B0 ⊢
 walk_at "rdc"
 walk_at "rdf"
 walk_at "rdc"
 have wl:(intT dn::zs').length≤3:=by rw[List.length_cons];omega
 refine⟨lw,rfl,⟨_,SqL.of t8⟩,for_list (fun i σ' H'=>H8=H'∧∃(zr:Str) (v:Option V),σ'=[some (.int x),some (.str (intT dn)),some (.ref l),some (.ref D),some (.ref lw),some (.str zr),v]∧TL (10+i*4000) zr∧(0<i→∃c∈cpl zr,c≠32)) ⟨rfl,zb,_,rfl,B0,fun z=>absurd z (by decide)⟩ (fun i σ' H' _ ⟨e,_⟩=>by rw[←e];exact SqL.of t8) ?_ ?_⟩
 ·rintro i v σ' H' hv ⟨rfl,zr,v',rfl,tr,nr⟩
  rw[List.getElem?_map] at hv
  obtain⟨zw,hzw,rfl⟩:=Option.map_eq_some_iff.mp hv
  have il:i<(intT dn::zs').length:=(List.getElem?_eq_some_iff.mp hzw).1
  have tw:=W8.mem (List.mem_of_getElem? hzw)
  have rl:=tr.len
  have wl':=tw.len
  walk_at "rdc"
  refine⟨_,_,rfl,rfl,by rw[sizeLine_eq];omega,?_⟩
  walk_at "rdc"
  refine⟨_,_,rfl,by decide,by decide,fun m7 m70 m71=>?_⟩
  walk_at "rdc"
  refine⟨_,_,rfl,rfl,mo _ (by omega) (by omega),?_⟩
  have B1:=bl.mul (n:=1+m7%3) (by omega)
  generalize Txt.mul (Str.ofString " ") (1+m7%3)=zc at B1 ⊢
  have tt:=(tr.app tw).app B1
  refine⟨_,_,rfl,rfl,by have:=(tr.app tw).len;have:=B1.len;rw[sizeLine_eq];omega,?_⟩
  walk_at "rdc"
  refine⟨rfl,_,_,rfl,tt.mono (by omega),fun _=>?_⟩
  by_cases c0:i=0
  ·subst c0
   cases hzw
   have nd:=num_ch smd
   obtain⟨a,as,ea⟩:∃a as,numT dn=a::as:=by
    cases hh:numT dn with
    | nil=>exact absurd hh (num_no32 smd).2
    | cons a as=>exact⟨a,as,rfl⟩
   have ha:a∈numT dn:=by rw[ea];exact List.mem_cons_self
   refine⟨a,?_,by have:=nd a ha;omega⟩
   rw[cpl_app,cpl_app]
   exact List.mem_append.mpr (.inl (List.mem_append.mpr (.inr ha)))
  ·obtain⟨a,ha,na⟩:=nr (by omega)
   refine⟨a,?_,na⟩
   rw[cpl_app,cpl_app]
   exact List.mem_append.mpr (.inl (List.mem_append.mpr (.inl ha)))
 ·rintro σ' H' ⟨rfl,zr,v',rfl,tr,nr⟩
  rw[List.length_map] at tr nr
  have tr:=tr.mono (show _≤100000 by omega)
  have nr:=nr (by rw[List.length_cons];omega)
  walk_at "rdc"
  refine rd_cut (fun σ' H'=>H8=H'∧∃zr':Str,σ'=[some (.int x),some (.str (intT dn)),some (.ref l),some (.ref D),some (.ref lw),some (.str zr'),v']∧RowX 100000 zr') ?_ ?_
  ·walk_at "rdc"
   refine ite2d (fun _=>?_) (fun _=>?_)
   ·walk_at "rdc"
    refine rd_bm ?_
    walk_at "rdc"
    refine⟨rfl,?_⟩
    walk_at "rdc"
    refine⟨_,_,rfl,rfl,by have:=tr.len;rw[sizeLine_eq];omega,?_⟩
    walk_at "rdc"
    refine⟨rfl,rstT zr,rfl,TL.rst tr,?_⟩
    obtain⟨k,hk⟩:=rst_cpl zr
    obtain⟨a,ha,na⟩:=nr
    rw[hk] at ha
    rcases List.mem_append.mp ha with h | h
    ·exact⟨a,h,na⟩
    ·exact absurd (List.eq_of_mem_replicate h) na
   ·walk_at "rdc"
    exact⟨rfl,zr,rfl,tr,nr⟩
  rintro σ' H' ⟨rfl,zr',rfl,X⟩
  walk_at "rdc"
  exact q zr' _ s08 X
theorem sc_law_free:FnScope ["_law_cell","_law_signs","_law_text","_law_rest","_law_k"] ["_law_cell","_law_signs"] (defScope s_law_free):=⟨rfl,rfl,rfl,by decide +kernel,rfl,by decide +kernel,by decide +kernel⟩
theorem ok_law_free{f:Addr}{fd:FuncData}(F:Fun K "_law_free" "_law_free" s_law_free f fd)(z_range:mg "range"=none)(z_len:mg "len"=none):FnOk P w K mg base CX0 1 f fd ["_law_cell","_law_signs"] spFreeT:=by
 refine F.ok (k:=0) sc_law_free (fun vs H Q E h=>?_) (fun cdv A outer s H vs Q E hr h=>?_)
 ·obtain⟨x,z,rfl,_⟩:=h
  rfl
 obtain⟨x,z,rfl,hz,l1,q⟩:=h
 refine⟨_,(pss_cons (ps_set (i:=2) sc_law_free.nd rfl (by first | exact Or.inl rfl | exact Or.inr rfl) pe_str)
  (pss_cons (ps_set (i:=3) sc_law_free.nd rfl (by first | exact Or.inl rfl | exact Or.inr rfl) (pe_op op_fdivB (pv 0) pe_int))
  (pss_cons (ps_for PassesOwn.never rfl (pi_range1 rfl z_range (pa_cons (pe_op op_mod (pv 0) pe_int) pa_nil)) (pg_name (i:=4) sc_law_free.nd rfl (by first | exact Or.inl rfl | exact Or.inr rfl))
   (pss_cons (ps_set (i:=2) sc_law_free.nd rfl (by first | exact Or.inl rfl | exact Or.inr rfl) (pe_op op_add_str (pv 2) (pe_ix ix_str (pv 1) (pe_op op_mod (pv 3) (pe_callB call_len_str rfl z_len PySem.boot_len (pa_cons (pv 1) pa_nil))) (fun _ _=>rfl))))
  (pss_one (ps_set (i:=3) sc_law_free.nd rfl (by first | exact Or.inl rfl | exact Or.inr rfl) (pe_op op_fdivB (pv 3) (pe_callB call_len_str rfl z_len PySem.boot_len (pa_cons (pv 1) pa_nil)))))))
  (pss_one (ps_ret (pv 2)))))),?_⟩
 have zf:z.length≤sizeLine:=Nat.le_trans hz.len (by decide)
 have zl:=hz.len
 walk_at "rdc"
 walk_at "rdf"
 walk_at "rdc"
 refine⟨_,rfl,by omega,by omega,for_range (fun i σ' H'=>H'=H∧∃(y:Str) (m:Int) (v:Option V),TL i y∧σ'=[some (.int x),some (.str z),some (.str y),some (.int m),v]) ⟨rfl,_,_,_,⟨by decide +kernel,by decide +kernel⟩,rfl⟩ ?_ ?_⟩
 ·rintro i σ' H' hi ⟨rfl,y,m,v,hy,rfl⟩
  rw[Int.zero_add]
  walk_at "rdc"
  refine⟨z,rfl,zf,?_⟩
  refine rd_i (show (0:Int)<(z.length:Int) by omega) ?_
  have k0:=Int.emod_nonneg m (show (z.length:Int)≠0 by omega)
  have k1:=Int.emod_lt_of_pos m (show (0:Int)<(z.length:Int) by omega)
  have el:(cpl z).length=z.length:=len_cpl z
  have hk:(m%(z.length:Int)).toNat<(cpl z).length:=by omega
  have hc:=List.getElem_mem hk
  have hat:atI z.cps.toList (m%(z.length:Int))=some (cpl z)[(m%(z.length:Int)).toNat]:=by
   have:=atI_nat (xs:=cpl z) (j:=(m%(z.length:Int)).toNat) (v:=(cpl z)[(m%(z.length:Int)).toNat]) (by simp[hk])
   rwa [show (((m%(z.length:Int)).toNat:Nat):Int)=m%(z.length:Int) by omega] at this
  generalize (cpl z)[(m%(z.length:Int)).toNat]=c at hc hat
  have c1:=asc_iff.mp hz.asc c hc
  refine⟨z,_,c,rfl,rfl,zf,hat,?_⟩
  walk_at "rdc"
  have hyl:=hy.len
  refine⟨y,_,rfl,rfl,?_,?_⟩
  ·show y.length+1≤sizeLine
   rw[sizeLine_eq]
   omega
  walk_at "rdc"
  refine⟨z,rfl,zf,?_⟩
  refine rd_i (cdiv_small (by omega) (by omega)) ?_
  walk_at "rdc"
  exact⟨rfl,_,_,_,hy.app (TL.sign c1),rfl⟩
 ·rintro σ' H' ⟨rfl,y,m,v,hy,rfl⟩
  walk_at "rdc"
  exact q y (hy.mono (by omega))
theorem sc_law_changed:FnScope ["_law_row_here","_law_cell","_law_way","_law_words","_law_at","_law_gone"] ["_law_row_here","_law_cell"] (defScope s_law_changed):=⟨rfl,rfl,rfl,by decide +kernel,rfl,by decide +kernel,by decide +kernel⟩
theorem ok_law_changed{f:Addr}{fd:FuncData}(F:Fun K "_law_changed" "_law_changed" s_law_changed f fd)(c__law_free:Cal P w K mg base 1 "_law_free" ["_law_cell","_law_signs"] spFreeT)(z_len:mg "len"=none):FnOk P w K mg base CX0 2 f fd ["_law_row_here","_law_cell"] spChanged82:=by
 refine F.ok (k:=1) sc_law_changed (fun vs H Q E h=>?_) (fun cdv A outer s H vs Q E hr h=>?_)
 ·obtain⟨z,x,rfl,_⟩:=h
  rfl
 obtain⟨z,x,rfl,hz0,q⟩:=h
 have hz:=hz0.tl
 refine⟨_,(pss_cons (ps_set (i:=2) sc_law_changed.nd rfl (by first | exact Or.inl rfl | exact Or.inr rfl) (pe_op op_mod (pv 1) pe_int))
  (pss_cons (ps_set (i:=1) sc_law_changed.nd rfl (by first | exact Or.inl rfl | exact Or.inr rfl) (pe_op op_fdivB (pv 1) pe_int))
  (pss_cons (ps_setComp (i:=3) sc_law_changed.nd rfl (by first | exact Or.inl rfl | exact Or.inr rfl) rfl (compOk_nil ["_law_row_here","_law_cell","_law_way","_law_words","_law_at","_law_gone"] rfl (by decide +kernel) rfl (by decide +kernel) rfl (by decide +kernel) (by decide +kernel)) (pi_list (pe_bm PySem.F.plainAttrs_str PySem.F.slot_str_split PySem.F.type_str_split mt_split (pv 0) (pa_cons pe_str pa_nil))) (fun _ _ _ _=>(pifs_one (pt_cmpR op_ne (pv 0) pe_str (nomark _)))) (fun _ _ _ _=>(pv 0)))
  (pss_cons (ps_set (i:=4) sc_law_changed.nd rfl (by first | exact Or.inl rfl | exact Or.inr rfl) (pe_op op_mod (pv 1) (pe_op op_add (pe_callB call_len_str rfl z_len PySem.boot_len (pa_cons (pv 0) pa_nil)) pe_int)))
  (pss_cons (ps_if (pt_cmpR op_eq (pv 2) pe_int (nomark _))
   (pss_one (ps_ret (pe_op op_add_str (pe_op op_add_str (pe_slice sl_str (pv 0) po_none (po_some (pv 4))) (pe_ix ix_str pe_str (pe_op op_mod (pe_op op_fdivB (pv 1) pe_int) pe_int) (fun _ _=>rfl))) (pe_slice sl_str (pv 0) (po_some (pv 4)) po_none))))
   pss_nil)
  (pss_cons (ps_if (pt_cmpR op_eq (pv 2) pe_int (nomark _))
   (pss_one (ps_ret (pe_op op_add_str (pe_slice sl_str (pv 0) po_none (po_some (pv 4))) (pe_slice sl_str (pv 0) (po_some (pe_op op_add (pv 4) pe_int)) po_none))))
   pss_nil)
  (pss_cons (ps_if (pt_cmpR op_eq (pv 2) pe_int (nomark _))
   (pss_cons (ps_set (i:=5) sc_law_changed.nd rfl (by first | exact Or.inl rfl | exact Or.inr rfl) (pe_op op_mod (pv 1) (pe_callB call_len_seq rfl z_len PySem.boot_len (pa_cons (pv 3) pa_nil))))
  (pss_one (ps_ret (pe_bm PySem.F.plainAttrs_str PySem.F.slot_str_join PySem.F.type_str_join mt_join pe_str (pa_cons (pe_op op_cat (pe_slice sl_list (pv 3) po_none (po_some (pv 5))) (pe_slice sl_list (pv 3) (po_some (pe_op op_add (pv 5) pe_int)) po_none)) pa_nil)))))
   pss_nil)
  (pss_cons (ps_if (pt_cmpR op_eq (pv 2) pe_int (nomark _))
   (pss_one (ps_ret (pe_bm PySem.F.plainAttrs_str PySem.F.slot_str_join PySem.F.type_str_join mt_join pe_str (pa_cons (pe_op op_cat (pe_slice sl_list (pv 3) po_none (po_some pe_int)) (pe_lst (pa_cons pe_str (pa_cons pe_str pa_nil)))) pa_nil))))
   pss_nil)
  (pss_cons (ps_if (pt_cmpR op_eq (pv 2) pe_int (nomark _))
   (pss_one (ps_ret (pe_op op_add_str (pe_bm PySem.F.plainAttrs_str PySem.F.slot_str_join PySem.F.type_str_join mt_join pe_str (pa_cons (pe_slice sl_list (pv 3) po_none (po_some pe_int)) pa_nil)) pe_str)))
   pss_nil)
  (pss_cons (ps_if (pt_cmpR op_eq (pv 2) pe_int (nomark _))
   (pss_one (ps_ret (pe_op op_add_str (pe_bm PySem.F.plainAttrs_str PySem.F.slot_str_join PySem.F.type_str_join mt_join pe_str (pa_cons (pe_slice sl_list (pv 3) po_none (po_some pe_int)) pa_nil)) (pe_ix ix_list (pe_lst (pa_cons pe_str (pa_cons pe_str (pa_cons pe_str (pa_cons pe_str pa_nil))))) (pe_op op_mod (pv 1) pe_int) (fun _ _=>rfl)))))
   pss_nil)
  (pss_cons (ps_if (pt_cmpR op_eq (pv 2) pe_int (nomark _))
   (pss_one (ps_ret (pe_op op_add_str (pe_bm PySem.F.plainAttrs_str PySem.F.slot_str_join PySem.F.type_str_join mt_join pe_str (pa_cons (pe_slice sl_list (pv 3) po_none (po_some pe_int)) pa_nil)) (pe_ix ix_list (pe_lst (pa_cons pe_str (pa_cons pe_str (pa_cons pe_str (pa_cons pe_str pa_nil))))) (pe_op op_mod (pv 1) pe_int) (fun _ _=>rfl)))))
   pss_nil)
  (pss_cons (ps_if (pt_cmpR op_eq (pv 2) pe_int (nomark _))
   (pss_one (ps_ret (pe_op op_add_str (pe_ix ix_list (pv 3) pe_int (fun _ _=>rfl)) (pe_ix ix_list (pe_lst (pa_cons pe_str (pa_cons pe_str (pa_cons pe_str (pa_cons pe_str pa_nil))))) (pe_op op_mod (pv 1) pe_int) (fun _ _=>rfl)))))
   pss_nil)
  (pss_cons (ps_if (pt_cmpR op_eq (pv 2) pe_int (nomark _))
   (pss_one (ps_ret (pe_ix ix_list (pe_lst (pa_cons pe_non (pa_cons pe_int (pa_cons (pe_lst (pa_cons (pv 0) pa_nil)) (pa_cons (pe_tup (pa_cons pe_str (pa_cons pe_str pa_nil))) pa_nil))))) (pe_op op_mod (pv 1) pe_int) (fun _ _=>rfl))))
   pss_nil)
  (pss_cons (ps_if (pt_cmpR op_eq (pv 2) pe_int (nomark _))
   (pss_one (ps_ret (pe_op op_add_str (pe_ix ix_list (pv 3) pe_int (fun _ _=>rfl)) pe_str)))
   pss_nil)
  (pss_one (ps_ret (pe_cal c__law_free (hr.mono (by decide)) rfl (pa_cons (pe_op op_fdivB (pv 1) pe_int) (pa_cons (pe_ix ix_list (pe_lst (pa_cons pe_str (pa_cons pe_str pa_nil))) (pe_op op_mod (pv 1) pe_int) (fun _ _=>rfl)) pa_nil))))))))))))))))))),?_⟩
 have zl:=hz.len
 have zf:z.length≤sizeLine:=by rw[sizeLine_eq];omega
 walk_at "rdc"
 refine rd_comp (rd_iL ?_)
 walk_at "rdc"
 refine rd_bm ?_
 walk_at "rdc"
 refine⟨rfl,?_⟩
 walk_at "rdc"
 refine⟨_,32,rfl,by rw[e32],by decide,by omega,fun l hl=>?_⟩
 have eV:(splS 32 z).map V.str=wV (spl 32 (cpl z)):=rfl
 rw[eV]
 refine fresh hl fun H0 s0 t0=>?_
 have sl:(spl 32 (cpl z)).length≤z.length+1:=by have:=splS_len 32 z;unfold splS at this;rw[List.length_map] at this;exact this
 refine⟨l,rfl,⟨_,SqL.of t0⟩,?_⟩
 refine comp_go walk_l (by rw[wV_len,sizeLine_eq];omega) (fun D ys hD=>SqL.of (same_new hD _ _ _ t0)) (fun v=>!decide (v=.str (Str.ofString ""))) (fun v=>v) (fun x hx D ys Q' hD h=>?_) (fun x hx _ D ys Q' hD h=>⟨_,rfl,h⟩) (fun D hD=>?_)
 ·obtain⟨y,hy,rfl⟩:=List.mem_map.mp hx
  walk_at "rdc"
  exact h
 rw[wds_filter]
 have W0:=WL.spl (c:=32) hz
 have W:WL (100000+1) ((wdsOf (cpl z)).map txt):=WL.sub W0 (List.Sublist.map _ List.filter_sublist)
 have pos:0<((wdsOf (cpl z)).map txt).length:=by
  rw[List.length_map]
  exact List.length_pos_iff.mpr (wds_ne hz0.ne)
 have e1:wV (wdsOf (cpl z))=((wdsOf (cpl z)).map txt).map V.str:=by
  unfold wV
  rw[List.map_map]
 rw[e1]
 generalize (wdsOf (cpl z)).map txt=zs at W pos ⊢
 refine fresh hD fun H1 s01 t1=>?_
 have s1:=s0.trans s01
 walk_at "rdc"
 refine⟨_,rfl,zf,?_⟩
 walk_at "rdc"
 generalize x/11=u
 generalize u%(((z.length:Nat):Int)+1)=at'
 have fin:∀{H':Hp} {y:Str} {m:Nat},Same H H'→TL m y→m≤1000000→Q (.str y) H':=fun s t l=>q _ _ s (.txt _ (t.ok l))
 walk_at "rdc"
 refine ite2d (fun _=>?_) (fun _=>?_)
 ·walk_at "rdc"
  refine⟨z,rfl,zf,?_⟩
  walk_at "rdc"
  obtain⟨c,hc,c1⟩:∃c,atI (Str.ofString "0123456789-, /.zA\n").cps.toList (u/7%18)=some c∧c<128:=by
   have el:(cpl (Str.ofString "0123456789-, /.zA\n")).length=18:=by decide +kernel
   have hk:(u/7%18).toNat<(cpl (Str.ofString "0123456789-, /.zA\n")).length:=by omega
   have hall:∀c∈cpl (Str.ofString "0123456789-, /.zA\n"),c<128:=by decide +kernel
   refine⟨_,?_,hall _ (List.getElem_mem hk)⟩
   have:=atI_nat (xs:=cpl (Str.ofString "0123456789-, /.zA\n")) (j:=(u/7%18).toNat) (v:=(cpl (Str.ofString "0123456789-, /.zA\n"))[(u/7%18).toNat]) (by simp[hk])
   rwa [show (((u/7%18).toNat:Nat):Int)=u/7%18 by omega] at this
  refine⟨_,_,c,rfl,rfl,(by decide +kernel),hc,?_⟩
  have t1:=hz.slice none (some at')
  have t2:=t1.app (TL.sign c1)
  have t3:=hz.slice (some at') none
  refine⟨_,_,rfl,rfl,?_,?_⟩
  ·have:=t1.len
   show(Txt.slice z none (some at')).length+1≤sizeLine
   rw[sizeLine_eq]
   omega
  walk_at "rdc"
  refine⟨z,rfl,zf,?_⟩
  walk_at "rdc"
  refine⟨_,_,rfl,rfl,?_,?_⟩
  ·have:=t2.len
   have:=t3.len
   rw[sizeLine_eq]
   omega
  exact fin s1 (t2.app t3) (by omega)
 walk_at "rdc"
 refine ite2d (fun _=>?_) (fun _=>?_)
 ·walk_at "rdc"
  refine⟨z,rfl,zf,?_⟩
  walk_at "rdc"
  refine⟨z,rfl,zf,?_⟩
  walk_at "rdc"
  have t2:=hz.slice none (some at')
  have t3:=hz.slice (some (at'+1)) none
  refine⟨_,_,rfl,rfl,?_,?_⟩
  ·have:=t2.len
   have:=t3.len
   rw[sizeLine_eq]
   omega
  exact fin s1 (t2.app t3) (by omega)
 walk_at "rdc"
 refine ite2d (fun _=>?_) (fun _=>?_)
 ·walk_at "rdc"
  refine⟨D,_,rfl,.inl (SqL.of t1),?_⟩
  rw[List.length_map]
  refine rd_i (show (0:Int)<((zs.length:Nat):Int) by omega) ?_
  generalize u%((zs.length:Nat):Int)=gone
  walk_at "rdc"
  refine rd_bm ?_
  walk_at "rdc"
  refine⟨rfl,?_⟩
  walk_at "rdc"
  refine rd_slW t1 W fun u2 H2 y2 s2 t2 V2=>?_
  walk_at "rdc"
  refine rd_slW (s2 _ _ t1) W fun u3 H3 y3 s3 t3 V3=>?_
  walk_at "rdc"
  refine rd_catW (s3 _ _ t2) V2 t3 V3 (by omega) fun u4 H4 y4 s4 t4 V4=>?_
  walk_at "rdc"
  refine rd_joinW t4 V4 (by omega) fun y ty=>?_
  exact fin (((s1.trans s2).trans (s3.trans s4))) ty (by omega)
 walk_at "rdc"
 refine ite2d (fun _=>?_) (fun _=>?_)
 ·walk_at "rdc"
  refine rd_bm ?_
  walk_at "rdc"
  refine⟨rfl,?_⟩
  walk_at "rdc"
  refine rd_slW t1 W fun u2 H2 y2 s2 t2 V2=>?_
  walk_at "rdc"
  refine⟨(by show 2≤sizeLine;decide),fun u3 hu3=>?_⟩
  refine fresh hu3 fun H3 s3 t3=>?_
  have t3:H3 u3=some (.lst (([Str.ofString "fast",Str.ofString "feast"]:List Str).map V.str)):=t3
  have V3:WL (5+1+(5+1)) [Str.ofString "fast",Str.ofString "feast"]:=WL.cons ⟨by decide +kernel,by decide +kernel⟩ (WL.one ⟨by decide +kernel,by decide +kernel⟩)
  walk_at "rdc"
  refine rd_catW (s3 _ _ t2) V2 t3 V3 (by omega) fun u4 H4 y4 s4 t4 V4=>?_
  walk_at "rdc"
  refine rd_joinW t4 V4 (by omega) fun y ty=>?_
  exact fin (((s1.trans s2).trans (s3.trans s4))) ty (by omega)
 walk_at "rdc"
 refine ite2d (fun _=>?_) (fun _=>?_)
 ·walk_at "rdc"
  refine rd_bm ?_
  walk_at "rdc"
  refine⟨rfl,?_⟩
  walk_at "rdc"
  refine rd_slW t1 W fun u2 H2 y2 s2 t2 V2=>?_
  walk_at "rdc"
  refine rd_joinW t2 V2 (by omega) fun y ty=>?_
  have tw:TL 10 (Str.ofString " abcdefghi"):=⟨by decide +kernel,by decide +kernel⟩
  walk_at "rdc"
  refine⟨_,_,rfl,rfl,(by have:=ty.len;have:=tw.len;rw[sizeLine_eq];omega),?_⟩
  exact fin (s1.trans s2) (ty.app tw) (by omega)
 walk_at "rdc"
 refine ite2d (fun _=>?_) (fun _=>?_)
 ·walk_at "rdc"
  refine rd_bm ?_
  walk_at "rdc"
  refine⟨rfl,?_⟩
  walk_at "rdc"
  refine rd_slW t1 W fun u2 H2 y2 s2 t2 V2=>?_
  walk_at "rdc"
  refine rd_joinW t2 V2 (by omega) fun y ty=>?_
  walk_at "rdc"
  refine⟨four,fun l3 hl3=>?_⟩
  refine fresh hl3 fun H3 s3 t3=>?_
  walk_at "rdc"
  obtain⟨zw,hzw,tzw⟩:=at_texts (k:=6) (xs:=[.str (Str.ofString " a,,b"),.str (Str.ofString " ,a"),.str (Str.ofString " a,"),.str (Str.ofString " ,")]) (i:=u%4) (by decide +kernel) (by omega) (by show u%4<4;omega)
  refine rd_ixL (SqL.of t3) hzw ?_
  refine⟨_,_,rfl,rfl,(by have:=ty.len;have:=tzw.len;rw[sizeLine_eq];omega),?_⟩
  exact fin (s1.trans (s2.trans s3)) (ty.app tzw) (by omega)
 walk_at "rdc"
 refine ite2d (fun _=>?_) (fun _=>?_)
 ·walk_at "rdc"
  refine rd_bm ?_
  walk_at "rdc"
  refine⟨rfl,?_⟩
  walk_at "rdc"
  refine rd_slW t1 W fun u2 H2 y2 s2 t2 V2=>?_
  walk_at "rdc"
  refine rd_joinW t2 V2 (by omega) fun y ty=>?_
  walk_at "rdc"
  refine⟨four,fun l3 hl3=>?_⟩
  refine fresh hl3 fun H3 s3 t3=>?_
  walk_at "rdc"
  obtain⟨zw,hzw,tzw⟩:=at_texts (k:=10) (xs:=[.str (Str.ofString " Fast"),.str (Str.ofString " fast2"),.str (Str.ofString " fa-st"),.str (Str.ofString " fast,Moon")]) (i:=u%4) (by decide +kernel) (by omega) (by show u%4<4;omega)
  refine rd_ixL (SqL.of t3) hzw ?_
  refine⟨_,_,rfl,rfl,(by have:=ty.len;have:=tzw.len;rw[sizeLine_eq];omega),?_⟩
  exact fin (s1.trans (s2.trans s3)) (ty.app tzw) (by omega)
 obtain⟨w0,hw0,tw0⟩:=W.at (i:=0) (by decide) (by omega)
 walk_at "rdc"
 refine ite2d (fun _=>?_) (fun _=>?_)
 ·walk_at "rdc"
  refine rd_ixL (SqL.of t1) hw0 ?_
  walk_at "rdc"
  refine⟨four,fun l3 hl3=>?_⟩
  refine fresh hl3 fun H3 s3 t3=>?_
  walk_at "rdc"
  obtain⟨zw,hzw,tzw⟩:=at_texts (k:=10) (xs:=[.str (Str.ofString " 7/3/04"),.str (Str.ofString " 7/03/4"),.str (Str.ofString " 7/00/04"),.str (Str.ofString " 07/03/04")]) (i:=u%4) (by decide +kernel) (by omega) (by show u%4<4;omega)
  refine rd_ixL (SqL.of t3) hzw ?_
  refine⟨_,_,rfl,rfl,(by have:=tw0.len;have:=tzw.len;rw[sizeLine_eq];omega),?_⟩
  exact fin (s1.trans s3) (tw0.app tzw) (by omega)
 walk_at "rdc"
 refine ite2d (fun _=>?_) (fun _=>?_)
 ·walk_at "rdc"
  refine⟨(by show 1≤sizeLine;decide),fun u3 hu3=>?_⟩
  refine fresh hu3 fun H3 s3 t3=>?_
  walk_at "rdc"
  refine⟨(by show 2≤sizeLine;decide),fun u4 hu4=>?_⟩
  refine fresh hu4 fun H4 s4 t4=>?_
  walk_at "rdc"
  refine⟨four,fun l5 hl5=>?_⟩
  refine fresh hl5 fun H5 s5 t5=>?_
  walk_at "rdc"
  have c4:u%4=0∨u%4=1∨u%4=2∨u%4=3:=by omega
  have s15:=(s1.trans s3).trans (s4.trans s5)
  rcases c4 with e | e | e | e
  ·rw[e]
   exact rd_ixL (SqL.of t5) at_n0 (q _ _ s15 .non)
  ·rw[e]
   exact rd_ixL (SqL.of t5) at_n1 (q _ _ s15 (.int _))
  ·rw[e]
   exact rd_ixL (SqL.of t5) at_n2 (q _ _ s15 (.lst _ _ ((s4.trans s5) _ _ t3)))
  ·rw[e]
   exact rd_ixL (SqL.of t5) at_n3 (q _ _ s15 (.tup _ _ (s5 _ _ t4)))
 walk_at "rdc"
 refine ite2d (fun _=>?_) (fun _=>?_)
 ·walk_at "rdc"
  refine rd_ixL (SqL.of t1) hw0 ?_
  have tw:TL 10 (Str.ofString " 7/ 03/04"):=⟨by decide +kernel,by decide +kernel⟩
  refine⟨_,_,rfl,rfl,(by have:=tw0.len;have:=tw.len;rw[sizeLine_eq];omega),?_⟩
  exact fin s1 (tw0.app tw) (by omega)
 walk_at "rdc"
 refine⟨(by show 2≤sizeLine;decide),fun u3 hu3=>?_⟩
 refine fresh hu3 fun H3 s3 t3=>?_
 walk_at "rdc"
 obtain⟨zw,hzw,tzw,nzw⟩:∃zw,atI [V.str (Str.ofString "0123456789/- "),V.str (Str.ofString "01/ ab,")] (u%2)=some (.str zw)∧TL 1000 zw∧1≤zw.length:=by
  have c2:u%2=0∨u%2=1:=by omega
  rcases c2 with e | e
  ·rw[e]
   exact⟨_,at_n0,⟨by decide +kernel,by decide +kernel⟩,by decide +kernel⟩
  ·rw[e]
   exact⟨_,at_n1,⟨by decide +kernel,by decide +kernel⟩,by decide +kernel⟩
 refine rd_ixL (SqL.of t3) hzw ?_
 refine rd_nil ?_
 refine⟨_,_,rfl,tzw,nzw,fun y ty=>?_⟩
 exact fin (s1.trans s3) ty (by omega)
theorem sc_law_value:FnScope ["_law_text","_law_figures"] ["_law_text"] (defScope s_law_value):=⟨rfl,rfl,rfl,by decide +kernel,rfl,by decide +kernel,by decide +kernel⟩
theorem ok_law_value{f:Addr}{fd:FuncData}(F:Fun K "_law_value" "_law_value" s_law_value f fd)(z_len:mg "len"=none)(z_all:mg "all"=none)(z_int:mg "int"=none):FnOk P w K mg base CX0 1 f fd ["_law_text"] spVal73:=by
 refine F.ok (k:=0) sc_law_value (fun vs H Q E h=>?_) (fun cdv A outer s H vs Q E hr h=>?_)
 ·obtain⟨z,rfl,_⟩:=h
  rfl
 obtain⟨z,rfl,hz,q⟩:=h
 have eMinus:Str.ofString "-"=⟨#[45]⟩:=by decide +kernel
 have hm:Txt.slice z none (some 1)=⟨#[45]⟩↔(cpl z).head?=some 45:=by rw[str1_eq,slice_to1 z,head_take]
 refine⟨_,(pss_cons (ps_set (i:=1) sc_law_value.nd rfl (by first | exact Or.inl rfl | exact Or.inr rfl) (pv 0))
  (pss_cons (ps_cut (ps_if (pt_cmpR op_eq (pe_slice sl_str (pv 0) po_none (po_some pe_int)) pe_str (nomark _))
   (pss_one (ps_set (i:=1) sc_law_value.nd rfl (by first | exact Or.inl rfl | exact Or.inr rfl) (pe_slice sl_str (pv 0) (po_some pe_int) po_none)))
   pss_nil))
  (pss_cons (ps_cut (ps_if (PW.pt (pw_or (pt_cmpR op_lt (pe_callB call_len_str rfl z_len PySem.boot_len (pa_cons (pv 1) pa_nil)) pe_int (nomark _)) (pw_or (pt_cmpR op_gt (pe_callB call_len_str rfl z_len PySem.boot_len (pa_cons (pv 1) pa_nil)) pe_int (nomark _)) (pw_or1 (PW.pt (pw_and (pt_cmpR op_eq (pe_ix ix_str (pv 1) pe_int (fun _ _=>rfl)) pe_str (nomark _)) (pw_and1 (pt_cmpR op_ne (pv 0) pe_str (nomark _)))))))))
   (pss_one (ps_ret pe_non))
   pss_nil))
  (pss_cons (ps_if (pt_not (pt_val (pe_callB (call_all rfl) rfl z_all PyProof.Rows.boot_all (pa_cons (pe_comp rfl (compOk_nil ["_law_text","_law_figures"] rfl (by decide +kernel) rfl (by decide +kernel) rfl (by decide +kernel) (by decide +kernel)) (pi_str (pv 1)) (fun _ _ _ _=>pifs_nil) (fun _ _ _ _=>(pe_cmpR op_in_str (pv 0) pe_str (by rfl)))) pa_nil))))
   (pss_one (ps_ret pe_non))
   pss_nil)
  (pss_one (ps_ret (pe_callTy call_int_text rfl z_int PyProof.Rows.boot_int (pa_cons (pv 0) pa_nil)))))))),?_⟩
 walk_at "rdc"
 refine rd_cut (fun σ' H'=>H'=H∧∃y:Str,TOk y∧cpl y=figs (cpl z)∧σ'=[some (.str z),some (.str y)]) ?_ ?_
 ·walk_at "rdc"
  refine⟨z,rfl,hz.fit,?_⟩
  walk_at "rdc"
  rw[eMinus]
  by_cases c:(cpl z).head?=some 45
  ·refine iteD (congrArg V.str (hm.mpr c)) ?_
   walk_at "rdc"
   have l1:1≤z.length:=by
    rw[←len_cpl]
    cases h:cpl z with
    | nil=>rw[h] at c;cases c
    | cons a r=>simp
   refine⟨z,rfl,hz.fit,?_⟩
   walk_at "rdc"
   refine⟨rfl,_,hz.slice _ _,?_,rfl⟩
   rw[slice_from1 l1]
   unfold figs
   rw[if_pos c]
  ·refine iteN (fun y=>c (hm.mp (V.str.inj y))) ?_
   walk_at "rdc"
   exact⟨rfl,z,hz,(figs_pos c).symm,rfl⟩
 rintro σ' H ⟨rfl,y,hy,ey,rfl⟩
 have fy:=hy.fit
 have yl:(cpl y).length=y.length:=len_cpl _
 have no:¬IsNum (cpl z)→∀H',Same H H'→Q .non H':=fun n H' s=>by
  have:=q H' s
  rwa [oNum_n n] at this
 walk_at "rdc"
 refine rd_cut (fun σ' H'=>H'=H∧1≤y.length∧y.length≤60∧((cpl y).head?=some 48→cpl z=[48])∧σ'=[some (.str z),some (.str y)]) ?_ ?_
 ·walk_at "rdc"
  refine⟨y,rfl,fy,?_⟩
  walk_at "rdc"
  refine ite2d (fun l1=>iteT ?_) (fun l1=>?_)
  ·walk_at "rdc"
   refine no (fun N=>?_) _ (Same.refl _)
   have:=N.lo
   rw[←ey] at this
   omega
  walk_at "rdc"
  refine⟨y,rfl,fy,?_⟩
  walk_at "rdc"
  refine ite2d (fun l2=>iteT ?_) (fun l2=>?_)
  ·walk_at "rdc"
   refine no (fun N=>?_) _ (Same.refl _)
   have:=N.hi
   rw[←ey] at this
   omega
  walk_at "rdc"
  obtain⟨c0,r0,ec⟩:∃c r,cpl y=c::r:=by
   cases h:cpl y with
   | nil=>rw[h] at yl;simp at yl;omega
   | cons c r=>exact⟨c,r,rfl⟩
  refine⟨_,0,c0,rfl,rfl,fy,by rw[show y.cps.toList=c0::r0 from ec];exact atI_nat (j:=0) rfl,?_⟩
  walk_at "rdc"
  have e48:(⟨#[48]⟩:Str)=Str.ofString "0":=by decide +kernel
  have ez0:cpl (Str.ofString "0")=[48]:=by decide +kernel
  by_cases e0:c0=48
  ·subst e0
   refine iteD (congrArg V.str e48) ?_
   walk_at "rdc"
   by_cases e1:z=Str.ofString "0"
   ·refine iteNS (congrArg V.str e1) ?_
    walk_at "rdc"
    exact⟨rfl,by omega,by omega,fun _=>by rw[e1,ez0],rfl⟩
   ·refine iteNN (fun y=>e1 (V.str.inj y)) ?_
    walk_at "rdc"
    exact no (fun N=>e1 (str_ext (by rw[N.z0 (by rw[←ey,ec];rfl),ez0]))) _ (Same.refl _)
  ·refine iteN (fun y=>e0 ?_) ?_
   ·have:=congrArg cpl (V.str.inj y)
    rw[ez0] at this
    exact(List.cons.inj this).1
   refine iteF ?_
   walk_at "rdc"
   exact⟨rfl,by omega,by omega,fun h=>by rw[ec] at h;exact absurd (Option.some.inj h) e0,rfl⟩
 rintro σ' H ⟨rfl,l1,l2,hz0,rfl⟩
 walk_at "rdc"
 refine rd_comp (rd_iS ?_)
 walk_at "rdc"
 refine⟨_,rfl,hy.asc,?_⟩
 refine comp_go walk_s ?_ (fun _ _ _=>trivial) (fun _=>true) (fun v=>match v with | .str y=>.bl (decide (48≤(cpl y).headD 0∧(cpl y).headD 0≤57)) | _=>.non) (fun x hx D ys Q' hD h=>h) (fun x hx _ D ys Q' hD h=>?_) (fun D hD=>?_)
 ·rw[List.length_map]
  exact small1000 (by have:y.cps.toList.length=y.length:=yl;omega)
 ·obtain⟨c,hc,rfl⟩:=List.mem_map.mp hx
  walk_at "rdc"
  refine⟨_,_,rfl,rfl,?_⟩
  rw[in_dig]
  exact h
 have e:((y.cps.toList.map signV).filter fun _=>true).map (fun v=>match v with | .str y=>V.bl (decide (48≤(cpl y).headD 0∧(cpl y).headD 0≤57)) | _=>.non)=((cpl y).map fun c=>decide (48≤c∧c≤57)).map V.bl:=by
  rw[List.filter_eq_self.mpr (fun _ _=>rfl),List.map_map,List.map_map]
  rfl
 rw[e]
 have s1:=same_new hD (.lst (((cpl y).map fun c=>decide (48≤c∧c≤57)).map V.bl))
 have t1:upd H D (.lst (((cpl y).map fun c=>decide (48≤c∧c≤57)).map V.bl)) D=some (.lst (((cpl y).map fun c=>decide (48≤c∧c≤57)).map V.bl)):=upd_same
 generalize upd H D (.lst (((cpl y).map fun c=>decide (48≤c∧c≤57)).map V.bl))=H1 at s1 t1 ⊢
 walk_at "rdc"
 refine⟨D,_,rfl,SqL.of t1,?_⟩
 have ha:(((cpl y).map fun c=>decide (48≤c∧c≤57)).all id=true)↔∀c∈cpl y,48≤c∧c≤57:=by
  rw[List.all_map,List.all_eq_true]
  exact⟨fun h c hc=>by simpa using h c hc,fun h c hc=>by simpa using h c hc⟩
 walk_at "rdc"
 by_cases c:((cpl y).map fun c=>decide (48≤c∧c≤57)).all id=true
 ·rw[c]
  refine iteF ?_
  have N:IsNum (cpl z):=⟨by rw[←ey];omega,by rw[←ey];omega,by rw[←ey];exact ha.mp c,fun h=>hz0 (by rw[ey];exact h)⟩
  walk_at "rdc"
  have zl:z.length≤640:=by
   rw[←len_cpl]
   have:=N.hi
   unfold figs at this
   split at this
   ·rw[List.length_drop] at this
    omega
   ·omega
  refine⟨z,_,rfl,zl,int_reads N,?_⟩
  have:=q _ s1
  rwa [oNum_y N] at this
 ·rw[(Bool.not_eq_true _).mp c]
  refine iteT ?_
  walk_at "rdc"
  exact no (fun N=>c (ha.mpr (by rw[ey];exact N.dg))) _ s1
theorem sc_law_part:FnScope ["_law_text"] ["_law_text"] (defScope s_law_part):=⟨rfl,rfl,rfl,by decide +kernel,rfl,by decide +kernel,by decide +kernel⟩
theorem ok_law_part{f:Addr}{fd:FuncData}(F:Fun K "_law_part" "_law_part" s_law_part f fd)(z_len:mg "len"=none)(z_all:mg "all"=none)(z_int:mg "int"=none):FnOk P w K mg base CX0 1 f fd ["_law_text"] spPart82:=by
 refine F.ok (k:=0) sc_law_part (fun vs H Q E h=>?_) (fun cdv A outer s H vs Q E hr h=>?_)
 ·obtain⟨z,rfl,_⟩:=h
  rfl
 obtain⟨z,rfl,hz,q⟩:=h
 have no:¬PartT (cpl z)→∀H',Same H H'→Q .non H':=fun n H' s'=>by
  have:=q H' s'
  rwa [oPlc_n fun p=>n ((part_iff _).mpr p)] at this
 have zl:(cpl z).length=z.length:=len_cpl _
 refine⟨_,(pss_cons (ps_cut (ps_if (PW.pt (pw_or (pt_cmpR op_lt (pe_callB call_len_str rfl z_len PySem.boot_len (pa_cons (pv 0) pa_nil)) pe_int (nomark _)) (pw_or (pt_cmpR op_gt (pe_callB call_len_str rfl z_len PySem.boot_len (pa_cons (pv 0) pa_nil)) pe_int (nomark _)) (pw_or1 (pt_not (pt_val (pe_callB (call_all rfl) rfl z_all PyProof.Rows.boot_all (pa_cons (pe_comp rfl (compOk_nil ["_law_text"] rfl (by decide +kernel) rfl (by decide +kernel) rfl (by decide +kernel) (by decide +kernel)) (pi_str (pv 0)) (fun _ _ _ _=>pifs_nil) (fun _ _ _ _=>(pe_cmpR op_in_str (pv 0) pe_str (by rfl)))) pa_nil))))))))
  (pss_one (ps_ret pe_non))
  pss_nil))
  (pss_cons (ps_if (PW.pt (pw_and (pt_cmpR op_eq (pe_ix ix_str (pv 0) pe_int (fun _ _=>rfl)) pe_str (nomark _)) (pw_and1 (PW.pt (pw_or (pt_cmpR op_gt (pe_callB call_len_str rfl z_len PySem.boot_len (pa_cons (pv 0) pa_nil)) pe_int (nomark _)) (pw_or1 (pt_cmpR op_eq (pe_ix ix_str (pv 0) pe_int (fun _ _=>rfl)) pe_str (nomark _))))))))
   (pss_one (ps_ret pe_non))
   pss_nil)
  (pss_one (ps_ret (pe_callTy call_int_text rfl z_int PyProof.Rows.boot_int (pa_cons (pv 0) pa_nil)))))),?_⟩
 walk_at "rdc"
 refine rd_cut (fun σ' H'=>Same H H'∧2≤z.length∧z.length≤60∧(∀c∈cpl z,48≤c∧c≤57)∧σ'=[some (.str z)]) ?_ ?_
 ·walk_at "rdc"
  refine⟨z,rfl,hz.fit,?_⟩
  walk_at "rdc"
  refine ite2d (fun l1=>iteT ?_) (fun l1=>?_)
  ·walk_at "rdc"
   exact no (fun N=>by have:=N.lo;omega) _ (Same.refl _)
  walk_at "rdc"
  refine⟨z,rfl,hz.fit,?_⟩
  walk_at "rdc"
  refine ite2d (fun l2=>iteT ?_) (fun l2=>?_)
  ·walk_at "rdc"
   exact no (fun N=>by have:=N.hi;omega) _ (Same.refl _)
  walk_at "rdc"
  refine rd_comp (rd_iS ?_)
  walk_at "rdc"
  refine⟨_,rfl,hz.asc,?_⟩
  refine comp_go walk_s ?_ (fun _ _ _=>trivial) (fun _=>true) (fun v=>match v with | .str y=>.bl (decide (48≤(cpl y).headD 0∧(cpl y).headD 0≤57)) | _=>.non) (fun x hx D ys Q' hD h=>h) (fun x hx _ D ys Q' hD h=>?_) (fun D hD=>?_)
  ·rw[List.length_map]
   exact small1000 (by have:z.cps.toList.length=z.length:=zl;omega)
  ·obtain⟨c,hc,rfl⟩:=List.mem_map.mp hx
   walk_at "rdc"
   refine⟨_,_,rfl,rfl,?_⟩
   rw[in_dig]
   exact h
  have e:((z.cps.toList.map signV).filter fun _=>true).map (fun v=>match v with | .str y=>V.bl (decide (48≤(cpl y).headD 0∧(cpl y).headD 0≤57)) | _=>.non)=((cpl z).map fun c=>decide (48≤c∧c≤57)).map V.bl:=by
   rw[List.filter_eq_self.mpr (fun _ _=>rfl),List.map_map,List.map_map]
   rfl
  rw[e]
  refine fresh hD fun H1 s1 t1=>?_
  walk_at "rdc"
  refine⟨D,_,rfl,SqL.of t1,?_⟩
  have ha:(((cpl z).map fun c=>decide (48≤c∧c≤57)).all id=true)↔∀c∈cpl z,48≤c∧c≤57:=by
   rw[List.all_map,List.all_eq_true]
   exact⟨fun h c hc=>by simpa using h c hc,fun h c hc=>by simpa using h c hc⟩
  walk_at "rdc"
  by_cases c:((cpl z).map fun c=>decide (48≤c∧c≤57)).all id=true
  ·rw[c]
   refine iteF ?_
   walk_at "rdc"
   exact⟨s1,by omega,by omega,ha.mp c,rfl⟩
  ·rw[(Bool.not_eq_true _).mp c]
   refine iteT ?_
   walk_at "rdc"
   exact no (fun N=>c (ha.mpr N.dg)) _ s1
 rintro σ' H1 ⟨s1,l1,l2,dg,rfl⟩
 obtain⟨c0,c1,r,ec⟩:∃a b r,cpl z=a::b::r:=by
  match hh:cpl z with
  | []=>rw[hh] at zl;simp at zl;omega
  | [a]=>rw[hh] at zl;simp at zl;omega
  | a::b::r=>exact⟨a,b,r,rfl⟩
 have fin:PartT (cpl z)→Q (.int ((PySem.NumText.digitsVal (cpl z):Nat):Int)) H1:=fun p=>by
  have P:=(part_iff _).mp p
  have:=q H1 s1
  rwa [oPlc_y P,plc_val P] at this
 have e48:(⟨#[48]⟩:Str)=Str.ofString "0":=by decide +kernel
 have ez0:cpl (Str.ofString "0")=[48]:=by decide +kernel
 have nz:∀{c:Nat},c≠48→V.str (⟨#[c]⟩:Str)≠V.str (Str.ofString "0"):=fun{c} h y=>h (by
  have:=congrArg cpl (V.str.inj y)
  rw[ez0] at this
  exact(List.cons.inj this).1)
 have FG:Figs (cpl z):=⟨by omega,by omega,dg⟩
 walk_at "rdc"
 refine⟨_,0,c0,rfl,rfl,hz.fit,(by show atI (cpl z) 0=some c0;rw[ec];exact at_n0),?_⟩
 walk_at "rdc"
 by_cases e0:c0=48
 ·subst e0
  refine iteD (congrArg V.str e48) ?_
  walk_at "rdc"
  refine⟨z,rfl,hz.fit,?_⟩
  walk_at "rdc"
  by_cases l3:2<((z.length:Nat):Int)
  ·refine iteD l3 (iteT ?_)
   walk_at "rdc"
   exact no (fun N=>by have:=(N.z0 (by rw[ec];rfl)).1;omega) _ s1
  refine iteN l3 ?_
  walk_at "rdc"
  refine⟨_,1,c1,rfl,rfl,hz.fit,(by show atI (cpl z) 1=some c1;rw[ec];exact at_n1),?_⟩
  walk_at "rdc"
  by_cases e1:c1=48
  ·subst e1
   refine iteD (congrArg V.str e48) ?_
   walk_at "rdc"
   exact no (fun N=>(N.z0 (by rw[ec];rfl)).2 (by rw[ec];rfl)) _ s1
  ·refine iteN (nz e1) ?_
   walk_at "rdc"
   refine⟨z,_,rfl,by omega,int_figs FG,?_⟩
   exact fin ⟨by omega,by omega,dg,fun _=>⟨by omega,by rw[ec];exact e1⟩⟩
 ·refine iteN (nz e0) (iteF ?_)
  walk_at "rdc"
  refine⟨z,_,rfl,by omega,int_figs FG,?_⟩
  exact fin ⟨by omega,by omega,dg,fun h=>by rw[ec] at h;exact absurd (Option.some.inj h) e0⟩
theorem sc_law_names:FnScope ["_law_words","_law_names_here","_law_name_here"] ["_law_words"] (defScope s_law_names):=⟨rfl,rfl,rfl,by decide +kernel,rfl,by decide +kernel,by decide +kernel⟩
theorem ok_law_names{f:Addr}{fd:FuncData}(F:Fun K "_law_names" "_law_names" s_law_names f fd)(z_len:mg "len"=none)(z_all:mg "all"=none):FnOk P w K mg base CX0 1 f fd ["_law_words"] spNames82:=by
 refine F.ok (k:=0) sc_law_names (fun vs H Q E h=>?_) (fun cdv A outer s H vs Q E hr h=>?_)
 ·obtain⟨l,ws,rfl,_⟩:=h
  rfl
 obtain⟨l,ws,rfl,hl,tk,len1,q,qn⟩:=h
 refine⟨_,(pss_cons (ps_if (pt_cmpR (op_eqNil hr.units) (pv 0) (pe_lst pa_nil) (nomark _))
  (pss_one (ps_ret (pe_lst pa_nil)))
  pss_nil)
  (pss_cons (ps_set (i:=1) sc_law_names.nd rfl (by first | exact Or.inl rfl | exact Or.inr rfl) (pe_bm PySem.F.plainAttrs_str PySem.F.slot_str_split PySem.F.type_str_split mt_split (pe_ix ix_list (pv 0) pe_int (fun _ _=>rfl)) (pa_cons pe_str pa_nil)))
  (pss_cons (ps_for PassesOwn.never rfl (pi_list (pv 1)) (pg_name (i:=2) sc_law_names.nd rfl (by first | exact Or.inl rfl | exact Or.inr rfl))
   (pss_cons (ps_if (PW.pt (pw_or (pt_cmpR op_lt (pe_callB call_len_str rfl z_len PySem.boot_len (pa_cons (pv 2) pa_nil)) pe_int (nomark _)) (pw_or1 (pt_cmpR op_gt (pe_callB call_len_str rfl z_len PySem.boot_len (pa_cons (pv 2) pa_nil)) pe_int (nomark _)))))
   (pss_one (ps_ret pe_non))
   pss_nil)
  (pss_one (ps_if (pt_not (pt_val (pe_callB (call_all rfl) rfl z_all PyProof.Rows.boot_all (pa_cons (pe_comp rfl (compOk_nil ["_law_words","_law_names_here","_law_name_here"] rfl (by decide +kernel) rfl (by decide +kernel) rfl (by decide +kernel) (by decide +kernel)) (pi_str (pv 2)) (fun _ _ _ _=>pifs_nil) (fun _ _ _ _=>(pe_cmpR op_in_str (pv 0) pe_str (by rfl)))) pa_nil))))
   (pss_one (ps_ret pe_non))
   pss_nil))))
  (pss_one (ps_ret (pv 1)))))),?_⟩
 walk_at "rdc"
 refine⟨Nat.zero_le _,fun p hp=>?_⟩
 refine fresh hp fun H1 s1 t1=>?_
 have h1:=s1 _ _ hl
 refine⟨l,p,wV ws,rfl,rfl,SqL.of h1,SqL.of t1,?_⟩
 cases ws with
 | nil=>
  refine⟨_,rfl,iteT ?_⟩
  walk_at "rdc"
  refine⟨Nat.zero_le _,fun p2 hp2=>?_⟩
  refine fresh hp2 fun H2 s2 t2=>?_
  exact q (fun w h=>(nomatch h)) p2 [] H2 (s1.free hp2) (s1.trans s2) t2 rfl
 | cons c r=>
  obtain rfl:r=[]:=List.length_eq_zero_iff.mp (by rw[List.length_cons] at len1;omega)
  refine⟨_,rfl,iteF ?_⟩
  have tc:=tk c (by simp)
  have no:¬NmsT c→∀H',Same H H'→Q .non H':=fun n=>qn fun all=>n (all c (by simp))
  walk_at "rdc"
  refine rd_bm ?_
  walk_at "rdc"
  refine rd_ixL (SqL.of h1) at_n0 ?_
  refine⟨rfl,?_⟩
  walk_at "rdc"
  refine⟨_,44,rfl,by rw[e44],by decide,tc.len,fun l2 hl2=>?_⟩
  have eV:(splS 44 (txt c)).map V.str=wV (spl 44 c):=rfl
  rw[eV]
  have sl:(spl 44 c).length≤(txt c).length+1:=by have:=splS_len 44 (txt c);unfold splS at this;rw[List.length_map] at this;exact this
  have zl:=tc.len
  have tk2:∀w∈spl 44 c,TOk (txt w):=fun w hw=>tc.part (c:=44) (by rw[cpl_txt];exact hw) (by rw[cpl_txt];exact spl_mem 44 _ w hw)
  refine fresh hl2 fun H2 s2 t2=>?_
  have s02:=s1.trans s2
  walk_at "rdc"
  walk_at "rdf"
  walk_at "rdc"
  refine⟨l2,rfl,⟨_,SqL.of t2⟩,for_list (fun i σ' H'=>Same H2 H'∧(∀w∈(spl 44 c).take i,IsNm w)∧∃v:Option V,σ'=[some (.ref l),some (.ref l2),v]) ⟨Same.refl _,(fun w h=>nomatch h),_,rfl⟩ (fun i σ' H' _ ⟨s,_⟩=>SqL.of (s _ _ t2)) ?_ ?_⟩
  ·rintro i x σ' H3 hx ⟨s3,hA,v,rfl⟩
   unfold wV at hx
   rw[List.getElem?_map,List.getElem?_map] at hx
   obtain⟨y,hy,rfl⟩:=Option.map_eq_some_iff.mp hx
   obtain⟨w',hw',rfl⟩:=Option.map_eq_some_iff.mp hy
   have mem:=List.mem_of_getElem? hw'
   have tok:=tk2 w' mem
   have wl:=txt_len w'
   have s03:=s02.trans s3
   have bad:¬IsNm w'→∀H',Same H H'→Q .non H':=fun n=>no fun all=>n (all w' mem)
   walk_at "rdc"
   refine⟨_,rfl,tok.fit,?_⟩
   walk_at "rdc"
   refine ite2d (fun l1=>iteT ?_) (fun l1=>?_)
   ·walk_at "rdc"
    exact bad (fun N=>by have:=N.lo;omega) _ s03
   walk_at "rdc"
   refine⟨_,rfl,tok.fit,?_⟩
   walk_at "rdc"
   refine ite2d (fun l2'=>?_) (fun l2'=>?_)
   ·walk_at "rdc"
    exact bad (fun N=>by have:=N.hi;omega) _ s03
   walk_at "rdc"
   refine rd_comp (rd_iS ?_)
   walk_at "rdc"
   refine⟨_,rfl,tok.asc,?_⟩
   refine comp_go walk_s ?_ (fun _ _ _=>trivial) (fun _=>true) (fun v=>match v with | .str y=>.bl (decide (97≤(cpl y).headD 0∧(cpl y).headD 0≤122)) | _=>.non) (fun x hx D ys Q' hD h=>h) (fun x hx _ D ys Q' hD h=>?_) (fun D hD=>?_)
   ·rw[List.length_map]
    exact small1000 (by show w'.length≤1000;omega)
   ·obtain⟨c,hc,rfl⟩:=List.mem_map.mp hx
    walk_at "rdc"
    refine⟨_,_,rfl,rfl,?_⟩
    rw[in_let]
    exact h
   have e:(((txt w').cps.toList.map signV).filter fun _=>true).map (fun v=>match v with | .str y=>V.bl (decide (97≤(cpl y).headD 0∧(cpl y).headD 0≤122)) | _=>.non)=(w'.map fun c=>decide (97≤c∧c≤122)).map V.bl:=by
    rw[List.filter_eq_self.mpr (fun _ _=>rfl),List.map_map,List.map_map]
    rfl
   rw[e]
   refine fresh hD fun H4 s4 t4=>?_
   walk_at "rdc"
   refine⟨D,_,rfl,SqL.of t4,?_⟩
   have ha:((w'.map fun c=>decide (97≤c∧c≤122)).all id=true)↔∀c∈w',97≤c∧c≤122:=by
    rw[List.all_map,List.all_eq_true]
    exact⟨fun h c hc=>by simpa using h c hc,fun h c hc=>by simpa using h c hc⟩
   walk_at "rdc"
   by_cases c3:(w'.map fun c=>decide (97≤c∧c≤122)).all id=true
   ·rw[c3]
    refine iteF ?_
    walk_at "rdc"
    refine⟨s3.trans s4,fun u hu=>?_,_,rfl⟩
    rw[List.take_add_one,hw',Option.toList_some] at hu
    rcases List.mem_append.mp hu with e | e
    ·exact hA u e
    ·rw[List.mem_singleton.mp e]
     exact⟨by omega,by omega,ha.mp c3⟩
   ·rw[(Bool.not_eq_true _).mp c3]
    refine iteT ?_
    walk_at "rdc"
    exact bad (fun N=>c3 (ha.mpr N.ch)) _ (s03.trans s4)
  rintro σ' H3 ⟨s3,hA,v,rfl⟩
  rw[wV_len,List.take_length] at hA
  walk_at "rdc"
  exact q (fun w h=>by rw[List.mem_singleton.mp h];exact hA) l2 _ H3 (s1.free hl2) (s02.trans s3) (s3 _ _ t2) (by simp)
theorem sc_law_due:FnScope ["_law_row_here","_law_words","_law_parts","_law_day","_law_date","_law_names_here"] ["_law_row_here"] (defScope s_law_due):=⟨rfl,rfl,rfl,by decide +kernel,rfl,by decide +kernel,by decide +kernel⟩
theorem ok_law_due{f:Addr}{fd:FuncData}(F:Fun K "_law_due" "_law_due" s_law_due f fd)(c__law_value:Cal P w K mg base 1 "_law_value" ["_law_text"] spVal73)(c__law_part:Cal P w K mg base 1 "_law_part" ["_law_text"] spPart82)(c__law_names:Cal P w K mg base 1 "_law_names" ["_law_words"] spNames82)(z_isinstance:mg "isinstance"=none)(z_str:mg "str"=none)(z_len:mg "len"=none):FnOk P w K mg base CX0 2 f fd ["_law_row_here"] spDue82:=by
 refine F.ok (k:=1) sc_law_due (fun vs H Q E h=>?_) (fun cdv A outer s H vs Q E hr h=>?_)
 ·obtain⟨v,rfl,_⟩:=h
  rfl
 obtain⟨v,rfl,hv,q,qn⟩:=h
 refine⟨_,(pss_cons (ps_if (pt_not (pt_val (pe_callB call_isi rfl z_isinstance PyProof.Rows.boot_isinstance (pa_cons (pv 0) (pa_cons (pe_bltn rfl z_str PyProof.Rows.boot_str (rel_ty _)) pa_nil)))))
  (pss_one (ps_ret pe_non))
  pss_nil)
  (pss_cons (ps_setComp (i:=1) sc_law_due.nd rfl (by first | exact Or.inl rfl | exact Or.inr rfl) rfl (compOk_nil ["_law_row_here","_law_words","_law_parts","_law_day","_law_date","_law_names_here"] rfl (by decide +kernel) rfl (by decide +kernel) rfl (by decide +kernel) (by decide +kernel)) (pi_list (pe_bm PySem.F.plainAttrs_str PySem.F.slot_str_split PySem.F.type_str_split mt_split (pv 0) (pa_cons pe_str pa_nil))) (fun _ _ _ _=>(pifs_one (pt_cmpR op_ne (pv 0) pe_str (nomark _)))) (fun _ _ _ _=>(pv 0)))
  (pss_cons (ps_if (PW.pt (pw_or (pt_cmpR op_lt (pe_callB call_len_seq rfl z_len PySem.boot_len (pa_cons (pv 1) pa_nil)) pe_int (nomark _)) (pw_or1 (pt_cmpR op_gt (pe_callB call_len_seq rfl z_len PySem.boot_len (pa_cons (pv 1) pa_nil)) pe_int (nomark _)))))
   (pss_one (ps_ret pe_non))
   pss_nil)
  (pss_cons (ps_set (i:=2) sc_law_due.nd rfl (by first | exact Or.inl rfl | exact Or.inr rfl) (pe_bm PySem.F.plainAttrs_str PySem.F.slot_str_split PySem.F.type_str_split mt_split (pe_ix ix_list (pv 1) pe_int (fun _ _=>rfl)) (pa_cons pe_str pa_nil)))
  (pss_cons (ps_if (pt_cmpR op_ne (pe_callB call_len_seq rfl z_len PySem.boot_len (pa_cons (pv 2) pa_nil)) pe_int (nomark _))
   (pss_one (ps_ret pe_non))
   pss_nil)
  (pss_cons (ps_set (i:=3) sc_law_due.nd rfl (by first | exact Or.inl rfl | exact Or.inr rfl) (pe_cal c__law_value (hr.mono (by decide)) rfl (pa_cons (pe_ix ix_list (pv 1) pe_int (fun _ _=>rfl)) pa_nil)))
  (pss_cons (ps_set (i:=4) sc_law_due.nd rfl (by first | exact Or.inl rfl | exact Or.inr rfl) (pe_tup (pa_cons (pe_cal c__law_value (hr.mono (by decide)) rfl (pa_cons (pe_ix ix_list (pv 2) pe_int (fun _ _=>rfl)) pa_nil)) (pa_cons (pe_cal c__law_part (hr.mono (by decide)) rfl (pa_cons (pe_ix ix_list (pv 2) pe_int (fun _ _=>rfl)) pa_nil)) (pa_cons (pe_cal c__law_part (hr.mono (by decide)) rfl (pa_cons (pe_ix ix_list (pv 2) pe_int (fun _ _=>rfl)) pa_nil)) pa_nil)))))
  (pss_cons (ps_cut (ps_set (i:=5) sc_law_due.nd rfl (by first | exact Or.inl rfl | exact Or.inr rfl) (pe_cal c__law_names (hr.mono (by decide)) rfl (pa_cons (pe_slice sl_list (pv 1) (po_some pe_int) po_none) pa_nil))))
  (pss_cons (ps_if (PW.pt (pw_or (pt_cmpR op_isN (pv 3) pe_non (nomark _)) (pw_or (pt_cmpR op_in_seq pe_non (pv 4) (by rfl)) (pw_or1 (pt_cmpR op_isN (pv 5) pe_non (nomark _))))))
   (pss_one (ps_ret pe_non))
   pss_nil)
  (pss_one (ps_ret (pe_tup (pa_cons (pv 3) (pa_cons (pv 4) (pa_cons (pv 5) pa_nil))))))))))))))),?_⟩
 walk_at "rdc"
 refine rd_isS hv ?_
 walk_at "rdc"
 by_cases ht:isT v=true
 rotate_left
 ·rw[(Bool.not_eq_true _).mp ht]
  refine iteT ?_
  walk_at "rdc"
  exact qn (fun ⟨z,_,_,_,_,_,e,_⟩=>ht (by rw[e];rfl)) _ (Same.refl _)
 rw[ht]
 obtain⟨z,rfl,hz⟩:∃z,v=.str z∧TOk z:=by
  cases hv with
  | txt z h=>exact⟨z,rfl,h⟩
  | non=>cases ht
  | int i=>cases ht
  | tup a xs e=>cases ht
  | lst a xs e=>cases ht
 refine iteF ?_
 walk_at "rdc"
 refine rd_comp (rd_iL ?_)
 walk_at "rdc"
 refine rd_bm ?_
 walk_at "rdc"
 refine⟨rfl,?_⟩
 walk_at "rdc"
 refine⟨_,32,rfl,by rw[e32],by decide,hz.len,fun l hl=>?_⟩
 have eV:(splS 32 z).map V.str=wV (spl 32 (cpl z)):=rfl
 rw[eV]
 refine fresh hl fun H1 s1 t1=>?_
 have sl:(spl 32 (cpl z)).length≤z.length+1:=by have:=splS_len 32 z;unfold splS at this;rw[List.length_map] at this;exact this
 have zl:=hz.len
 refine⟨l,rfl,⟨_,SqL.of t1⟩,?_⟩
 refine comp_go walk_l (by rw[wV_len,sizeLine_eq];omega) (fun D ys hD=>SqL.of (same_new hD _ _ _ t1)) (fun v=>!decide (v=.str (Str.ofString ""))) (fun v=>v) (fun x hx D ys Q' hD h=>?_) (fun x hx _ D ys Q' hD h=>⟨_,rfl,h⟩) (fun D hD=>?_)
 ·obtain⟨y,hy,rfl⟩:=List.mem_map.mp hx
  walk_at "rdc"
  exact h
 rw[wds_filter]
 have tk:∀w∈wdsOf (cpl z),TOk (txt w):=fun w hw=>hz.part (wds_mem hw) (spl_mem 32 _ w (wds_mem hw))
 have bad:(¬∃a y m d ns,RowF (cpl z) a y m d ns)→∀H',Same H H'→Q .non H':=fun n=>qn fun⟨y',a,y,m,d,ns,e,F⟩=>by
  cases e
  exact n ⟨a,y,m,d,ns,F⟩
 have rows:=@row_cases (cpl z)
 have make:=@row_make (cpl z)
 refine fresh hD fun H2 s2 t2=>?_
 have s02:=s1.trans s2
 generalize wdsOf (cpl z)=ws at*
 walk_at "rdc"
 refine⟨D,_,rfl,.inl (SqL.of t2),?_⟩
 walk_at "rdc"
 rw[wV_len]
 by_cases c1:((ws.length:Nat):Int)<2
 ·refine iteD c1 (iteT ?_)
  walk_at "rdc"
  refine bad (fun ⟨_,_,_,_,_,F⟩=>?_) _ s02
  obtain⟨b,r,e,_⟩:=rows F
  rw[e] at c1
  simp only[List.length_cons] at c1
  omega
 refine iteN c1 ?_
 walk_at "rdc"
 refine⟨D,_,rfl,.inl (SqL.of t2),?_⟩
 walk_at "rdc"
 rw[wV_len]
 by_cases c2:3<((ws.length:Nat):Int)
 ·refine iteD c2 ?_
  walk_at "rdc"
  refine bad (fun ⟨_,_,_,_,_,F⟩=>?_) _ s02
  obtain⟨b,r,e,l,_⟩:=rows F
  rw[e] at c2
  simp only[List.length_cons] at c2
  omega
 refine iteN c2 ?_
 obtain⟨a,b,r,rfl⟩:∃a b r,ws=a::b::r:=by
  match ws,c1 with
  | [],h=>exact absurd (by show(0:Int)<2;decide) h
  | [a],h=>exact absurd (by show(1:Int)<2;decide) h
  | a::b::r,_=>exact⟨a,b,r,rfl⟩
 have r1:r.length≤1:=by simp only[List.length_cons] at c2;omega
 have ta:=tk a (by simp)
 have tb:=tk b (by simp)
 walk_at "rdc"
 refine rd_bm ?_
 walk_at "rdc"
 refine rd_ixL (SqL.of t2) at_n1 ?_
 refine⟨rfl,?_⟩
 walk_at "rdc"
 refine⟨_,47,rfl,(by rw[eSlash];rfl),by decide,tb.len,fun l3 hl3=>?_⟩
 have eV2:(splS 47 (txt b)).map V.str=wV (spl 47 b):=rfl
 rw[eV2]
 refine fresh hl3 fun H3 s3 t3=>?_
 have s03:=s02.trans s3
 have d3:=s3 _ _ t2
 walk_at "rdc"
 refine⟨l3,_,rfl,.inl (SqL.of t3),?_⟩
 walk_at "rdc"
 rw[wV_len]
 by_cases c3:(spl 47 b).length=3
 rotate_left
 ·refine iteNN (fun y=>c3 (by have:=V.int.inj y;omega)) ?_
  walk_at "rdc"
  refine bad (fun ⟨_,_,_,_,_,F⟩=>?_) _ s03
  obtain⟨b',r',e,_,_,DT,_⟩:=rows F
  cases e
  exact c3 (by rw[DT.cut];rfl)
 refine iteNS (congrArg V.int (by rw[c3];rfl)) ?_
 obtain⟨y,m,d,ecut⟩:∃y m d,spl 47 b=[y,m,d]:=by
  match spl 47 b,c3 with
  | [y,m,d],_=>exact⟨y,m,d,rfl⟩
 have tk2:∀w∈spl 47 b,TOk (txt w):=fun w hw=>tb.part (c:=47) (by rw[cpl_txt];exact hw) (by rw[cpl_txt];exact spl_mem 47 _ w hw)
 have bad2:¬(IsNum a∧(IsNum y∧PlcT m∧PlcT d)∧∀w∈r,NmsT w)→∀H',Same H H'→Q .non H':=fun n=>bad fun⟨_,_,_,_,_,F⟩=>by
  obtain⟨b',r',e,_,Na,DT,Nr,_⟩:=rows F
  cases e
  have:=DT.cut
  rw[ecut] at this
  cases this
  exact n ⟨Na,⟨DT.y,DT.m,DT.d⟩,Nr⟩
 rw[ecut] at t3 tk2
 walk_at "rdc"
 refine rd_ixL (SqL.of d3) at_n0 ?_
 refine rd_nil ?_
 refine⟨_,rfl,ta,fun H4 s4=>?_⟩
 rw[cpl_txt]
 have p4:=s4 _ _ t3
 walk_at "rdc"
 refine rd_ixL (SqL.of p4) at_n0 ?_
 refine rd_nil ?_
 refine⟨_,rfl,tk2 y (by simp),fun H5 s5=>?_⟩
 rw[cpl_txt]
 have p5:=s5 _ _ p4
 walk_at "rdc"
 refine rd_ixL (SqL.of p5) at_n1 ?_
 refine rd_nil ?_
 refine⟨_,rfl,tk2 m (by simp),fun H6 s6=>?_⟩
 rw[cpl_txt]
 have p6:=s6 _ _ p5
 walk_at "rdc"
 refine rd_ixL (SqL.of p6) at_n2 ?_
 refine rd_nil ?_
 refine⟨_,rfl,tk2 d (by simp),fun H7 s7=>?_⟩
 rw[cpl_txt]
 walk_at "rdc"
 refine⟨(by show 3≤sizeLine;decide),fun q8 hq8=>?_⟩
 refine fresh hq8 fun H8 s8 t8=>?_
 have s38:=((s4.trans s5).trans (s6.trans s7)).trans s8
 have s08:=s03.trans s38
 have d8:=s38 _ _ d3
 walk_at "rdc"
 refine rd_cut (fun σ' H'=>Same H8 H'∧∃vn:V,σ'=[some (.str z),some (.ref D),some (.ref l3),some (oNum a),some (.ref q8),some vn]∧(((∀w∈r,NmsT w)∧∃l9:Addr,vn=.ref l9∧H8 l9=none∧H' l9=some (.lst (wV (r.map fun w=>spl 44 w).flatten)))∨((¬∀w∈r,NmsT w)∧vn=.non))) ?_ ?_
 ·walk_at "rdc"
  refine rd_slL (SqL.of d8) fun u9 hu9=>?_
  rw[show cutV (wV (a::b::r)) (some 2) none=wV r from cutWf _ 2]
  refine fresh hu9 fun H9 s9 t9=>?_
  refine rd_nil ?_
  refine⟨u9,r,rfl,t9,fun w hw=>tk w (by simp[hw]),r1,fun Nr l9 ns H10 hl9 s10 t10 en=>?_,fun nr H10 s10=>?_⟩
  ·walk_at "rdc"
   rw[en] at t10
   exact⟨s9.trans s10,_,rfl,.inl ⟨Nr,l9,rfl,s9.free hl9,t10⟩⟩
  ·walk_at "rdc"
   exact⟨s9.trans s10,_,rfl,.inr ⟨nr,rfl⟩⟩
 rintro σ' H9 ⟨s9,vn,rfl,hvn⟩
 have s09:=s08.trans s9
 have t9:=s9 _ _ t8
 walk_at "rdc"
 refine⟨rfl,?_⟩
 walk_at "rdc"
 by_cases Na:IsNum a
 rotate_left
 ·rw[oNum_n Na]
  refine iteD rfl (iteT ?_)
  walk_at "rdc"
  exact bad2 (fun n=>Na n.1) _ s09
 rw[oNum_y Na]
 refine iteN (fun z=>by cases z) ?_
 walk_at "rdc"
 refine⟨q8,_,rfl,.inr (SqT.of t9),rfl,date_flat y m d,?_⟩
 have di:=date_in y m d
 walk_at "rdc"
 by_cases c4:inV .non [oNum y,oPlc m,oPlc d]=true
 ·rw[c4]
  refine iteT (iteT ?_)
  walk_at "rdc"
  exact bad2 (fun n=>di.mp c4 n.2.1) _ s09
 rw[(Bool.not_eq_true _).mp c4]
 refine iteF ?_
 obtain⟨Ny,Pm,Pd⟩:IsNum y∧PlcT m∧PlcT d:=Classical.byContradiction fun n=>c4 (di.mpr n)
 walk_at "rdc"
 refine⟨rfl,?_⟩
 walk_at "rdc"
 rcases hvn with ⟨Nr,l9,rfl,hl9,e9⟩ | ⟨nr,rfl⟩
 rotate_left
 ·refine iteD rfl ?_
  walk_at "rdc"
  exact bad2 (fun n=>nr n.2.2) _ s09
 refine iteN (fun z=>by cases z) ?_
 walk_at "rdc"
 refine⟨(by show 3≤sizeLine;decide),fun p10 hp10=>?_⟩
 refine fresh hp10 fun H10 s10 t10=>?_
 rw[oNum_y Ny,oPlc_y Pm,oPlc_y Pd] at t9
 exact q z a y m d _ rfl (make rfl r1 Na ⟨ecut,Ny,Pm,Pd⟩ Nr) _ l9 H10 (s09.trans s10) (s08.free hl9) ⟨⟨p10,q8,rfl,t10,s10 _ _ t9⟩,s10 _ _ e9⟩
theorem sc_law_read:FnScope ["_law_rows","_law_found","_law_plain","e"] ["_law_rows"] (defScope s_law_read):=⟨rfl,rfl,rfl,by decide +kernel,rfl,by decide +kernel,by decide +kernel⟩
theorem ok_law_read{f:Addr}{fd:FuncData}(F:Fun K "_law_read" "_law_read" s_law_read f fd)(er:Errs K mg c_FeastError c_NoNumber c_TooLong c_NoMeasure c_NoText c_Measure c_Calendar c_Sun c_Rule c_Each)(c_read_almanac:CalE P w K mg base 6 "read_almanac" ["rows"] (spReadAlmE K c_NoText))(z_isinstance:mg "isinstance"=none):FnOk P w K mg base CX0 7 f fd ["_law_rows"] spRead82:=by
 refine F.ok (k:=6) sc_law_read (fun vs H Q E h=>?_) (fun cdv A outer s H vs Q E hr h=>?_)
 ·obtain⟨l,ws,rfl,_⟩:=h
  rfl
 obtain⟨l,ws,rfl,hl,hn,hw,q,qn⟩:=h
 refine⟨_,(pss_cons (ps_set (i:=1) sc_law_read.nd rfl (by first | exact Or.inl rfl | exact Or.inr rfl) pe_non)
  (pss_cons (ps_set (i:=2) sc_law_read.nd rfl (by first | exact Or.inl rfl | exact Or.inr rfl) pe_bl)
  (pss_cons (ps_cut (ps_try rfl rfl (fun _ _ _ T=>(pss_one (ps_set (i:=1) sc_law_read.nd rfl (by first | exact Or.inl rfl | exact Or.inr rfl) (pe_calE T c_read_almanac (hr.mono (by decide)) rfl (pa_cons (pv 0) pa_nil)))))
   (phs_consA (i:=3) er.h_NoText rfl sc_law_read.nd rfl rfl (fun _=>(pss_one (ps_set (i:=2) sc_law_read.nd rfl (by first | exact Or.inl rfl | exact Or.inr rfl) (pe_and (pe_callB call_isiX rfl z_isinstance PyProof.Rows.boot_isinstance (pa_cons (pv 3) (pa_cons (pe_glob rfl er.m_FeastError (rel_ref _)) pa_nil))) (pe_one (pe_not (pe_callB call_isiX rfl z_isinstance PyProof.Rows.boot_isinstance (pa_cons (pv 3) (pa_cons (pe_glob rfl er.m_NoNumber (rel_ref _)) pa_nil)))))))))
   phs_nil)))
  (pss_cons (ps_if (pt_val (pv 2))
   (pss_one (ps_ret pe_non))
   pss_nil)
  (pss_one (ps_ret (pv 1))))))),?_⟩
 walk_at "rdx"
 by_cases all:∀v∈ws,isRow v
 ·refine rd_cut (fun σ' H'=>∃(D:Addr) (us:List V) (ls:List Addr) (w':Option V),Same H H'∧H D=none∧H' D=some (.lst us)∧Rws H' us ws ls∧ls.Nodup∧(∀x∈ls,H x=none∧x≠D)∧σ'=[some (.ref l),some (.ref D),some (.bl false),w']) ?_ ?_
  ·walk_at "rdx"
   refine⟨l,ws,rfl,hl,hn,hw,fun _ D us ls H3 s3 hD t3 R3 nd fr=>?_,fun n=>absurd all n⟩
   walk_at "rdx"
   exact⟨D,us,ls,_,s3,hD,t3,R3,nd,fr,rfl⟩
  rintro σ' H4 ⟨D,us,ls,w',s4,hD,t4,R4,nd,fr,rfl⟩
  walk_at "rdx"
  refine iteF ?_
  walk_at "rdx"
  exact q all D us ls H4 s4 hD t4 R4 nd fr
 ·refine rd_cut (fun σ' H'=>∃w':Option V,Same H H'∧σ'=[some (.ref l),some .non,some (.bl true),w']) ?_ ?_
  ·walk_at "rdx"
   refine⟨l,ws,rfl,hl,hn,hw,fun a=>absurd a all,fun _ H3 s3 ea hea=>?_⟩
   refine rd_handA er.r_NoText_NoText ?_
   have s4:=same_new hea (ExcO ea (.ref c_NoText) none)
   have t4:upd H3 ea (ExcO ea (.ref c_NoText) none) ea=some (ExcO ea (.ref c_NoText) none):=upd_same
   generalize upd H3 ea (ExcO ea (.ref c_NoText) none)=H4 at t4 s4 ⊢
   walk_at "rdx"
   refine rd_isiX t4 trivial er.g_NoText rfl er.i_NoText_FeastError ?_
   walk_at "rdx"
   refine iteT ?_
   walk_at "rdx"
   refine rd_isiX t4 trivial er.g_NoText rfl er.i_NoText_NoNumber ?_
   walk_at "rdx"
   exact⟨_,s3.trans s4,rfl⟩
  rintro σ' H4 ⟨w',s4,rfl⟩
  walk_at "rdx"
  refine iteT ?_
  walk_at "rdx"
  exact qn all _ s4
theorem sc_law_kinds:FnScope ["_law_found","_law_one"] ["_law_found"] (defScope s_law_kinds):=⟨rfl,rfl,rfl,by decide +kernel,rfl,by decide +kernel,by decide +kernel⟩
theorem ok_law_kinds{f:Addr}{fd:FuncData}(F:Fun K "_law_kinds" "_law_kinds" s_law_kinds f fd)(c__law_whole:Cal P w K mg base 1 "_law_whole" ["_law_found"] spWhole)(z_isinstance:mg "isinstance"=none)(z_list:mg "list"=none)(z_tuple:mg "tuple"=none)(z_len:mg "len"=none)(z_all:mg "all"=none)(z_str:mg "str"=none):FnOk P w K mg base CX0 2 f fd ["_law_found"] (spKinds82 K):=by
 refine F.ok (k:=1) sc_law_kinds (fun vs H Q E h=>?_) (fun cdv A outer s H vs Q E hr h=>?_)
 ·obtain⟨D,us,ws,ls,rfl,_⟩:=h
  rfl
 obtain⟨D,us,ws,ls,rfl,hD,hn,R,nlen,q⟩:=h
 refine⟨_,(pss_cons (ps_if (pt_not (pt_val (pe_callB call_isi rfl z_isinstance PyProof.Rows.boot_isinstance (pa_cons (pv 0) (pa_cons (pe_bltn rfl z_list PyProof.Rows.boot_list (rel_ty _)) pa_nil)))))
  (pss_one (ps_ret pe_bl))
  pss_nil)
  (pss_cons (ps_for PassesOwn.never rfl (pi_list (pv 0)) (pg_name (i:=1) sc_law_kinds.nd rfl (by first | exact Or.inl rfl | exact Or.inr rfl))
   (pss_cons (ps_if (PW.pt (pw_or (pt_not (pt_val (pe_callB call_isi rfl z_isinstance PyProof.Rows.boot_isinstance (pa_cons (pv 1) (pa_cons (pe_bltn rfl z_tuple PyProof.Rows.boot_tuple (rel_ty _)) pa_nil))))) (pw_or (pt_cmpR op_ne (pe_callB call_len_seq rfl z_len PySem.boot_len (pa_cons (pv 1) pa_nil)) pe_int (nomark _)) (pw_or1 (pt_not (pt_val (pe_cal c__law_whole (hr.mono (by decide)) rfl (pa_cons (pe_ix ix_tup (pv 1) pe_int (fun _ _=>rfl)) pa_nil))))))))
   (pss_one (ps_ret pe_bl))
   pss_nil)
  (pss_cons (ps_if (PW.pt (pw_or (pt_not (pt_val (pe_callB call_isi rfl z_isinstance PyProof.Rows.boot_isinstance (pa_cons (pe_ix ix_tup (pv 1) pe_int (fun _ _=>rfl)) (pa_cons (pe_bltn rfl z_tuple PyProof.Rows.boot_tuple (rel_ty _)) pa_nil))))) (pw_or1 (pt_not (pt_val (pe_callB (call_all rfl) rfl z_all PyProof.Rows.boot_all (pa_cons (pe_comp rfl (compOk_nil ["_law_found","_law_one"] rfl (by decide +kernel) rfl (by decide +kernel) rfl (by decide +kernel) (by decide +kernel)) (pi_tup (pe_ix ix_tup (pv 1) pe_int (fun _ _=>rfl))) (fun _ _ _ _=>pifs_nil) (fun _ _ _ _=>(pe_cal c__law_whole (hr.mono (by decide)) rfl (pa_cons (pv 0) pa_nil)))) pa_nil)))))))
   (pss_one (ps_ret pe_bl))
   pss_nil)
  (pss_one (ps_if (PW.pt (pw_or (pt_not (pt_val (pe_callB call_isi rfl z_isinstance PyProof.Rows.boot_isinstance (pa_cons (pe_ix ix_tup (pv 1) pe_int (fun _ _=>rfl)) (pa_cons (pe_bltn rfl z_list PyProof.Rows.boot_list (rel_ty _)) pa_nil))))) (pw_or1 (pt_not (pt_val (pe_callB (call_all rfl) rfl z_all PyProof.Rows.boot_all (pa_cons (pe_comp rfl (compOk_nil ["_law_found","_law_one"] rfl (by decide +kernel) rfl (by decide +kernel) rfl (by decide +kernel) (by decide +kernel)) (pi_list (pe_ix ix_tup (pv 1) pe_int (fun _ _=>rfl))) (fun _ _ _ _=>pifs_nil) (fun _ _ _ _=>(pe_callB call_isi_c rfl z_isinstance PyProof.Rows.boot_isinstance (pa_cons (pv 0) (pa_cons (pe_bltn rfl z_str PyProof.Rows.boot_str (rel_ty _)) pa_nil))))) pa_nil)))))))
   (pss_one (ps_ret pe_bl))
   pss_nil)))))
  (pss_one (ps_ret pe_bl)))),?_⟩
 walk_at "rdc"
 refine rd_isi (.lst hD) (kitLL K) ?_
 walk_at "rdc"
 refine iteF ?_
 walk_at "rdc"
 walk_at "rdf"
 walk_at "rdc"
 refine⟨D,rfl,⟨_,SqL.of hD⟩,for_list (fun i σ' H'=>Same H H'∧∃v:Option V,σ'=[some (.ref D),v]) ⟨Same.refl _,_,rfl⟩ (fun i σ' H' _ ⟨s,_⟩=>SqL.of (s _ _ hD)) ?_ ?_⟩
 ·rintro i x σ' H1 hx ⟨s1,v,rfl⟩
  obtain⟨rv,l,⟨z,a,y,m,d,ns,ez,F,O⟩,ev,_⟩:=R.at hx
  obtain⟨p,p2,rfl,hp,hp2⟩:=O.ex
  have tp:=s1 _ _ hp
  have tq:=s1 _ _ hp2
  have tl:=s1 _ _ O.nm
  walk_at "rdc"
  refine rd_isi (.tup tp) (kitTT K) ?_
  walk_at "rdc"
  refine iteF ?_
  walk_at "rdc"
  refine⟨p,_,rfl,.inr (SqT.of tp),?_⟩
  walk_at "rdc"
  refine iteNS rfl ?_
  walk_at "rdc"
  refine rd_ixT (SqT.of tp) at_n0 ?_
  walk_at "rdc"
  refine⟨_,rfl,?_⟩
  walk_at "rdc"
  refine rd_ixT (SqT.of tp) at_n1 ?_
  walk_at "rdc"
  refine rd_isi (.tup tq) (kitTT K) ?_
  walk_at "rdc"
  refine iteF ?_
  walk_at "rdc"
  refine rd_comp (rd_iT ?_)
  walk_at "rdc"
  refine rd_ixT (SqT.of tp) at_n1 ?_
  refine⟨p2,rfl,⟨_,SqT.of tq⟩,?_⟩
  refine comp_go walk_t (small1000 (by show 3≤1000;decide)) (fun D ys hD=>(same_new hD _).tup (SqT.of tq)) (fun _=>true) (fun _=>.bl true) (fun x hx D ys Q' hD h=>h) (fun x hx _ D ys Q' hD h=>?_) (fun D2 hD2=>?_)
  ·obtain⟨n,rfl⟩:∃n,x=V.int n:=by
    rcases List.mem_cons.mp hx with e | hx
    ·exact⟨_,e⟩
    rcases List.mem_cons.mp hx with e | hx
    ·exact⟨_,e⟩
    ·exact⟨_,List.mem_singleton.mp hx⟩
   walk_at "rdc"
   first | exact h | exact⟨n,rfl,h⟩
  refine fresh hD2 fun H2 s2 t2=>?_
  have t2:H2 D2=some (.lst (([true,true,true]:List Bool).map V.bl)):=t2
  walk_at "rdc"
  refine⟨D2,_,rfl,SqL.of t2,?_⟩
  walk_at "rdc"
  refine iteF ?_
  walk_at "rdc"
  refine rd_ixT (SqT.of (s2 _ _ tp)) at_n2 ?_
  walk_at "rdc"
  have tl2:=s2 _ _ tl
  refine rd_isi (.lst tl2) (kitLL K) ?_
  walk_at "rdc"
  refine iteF ?_
  walk_at "rdc"
  refine rd_comp (rd_iL ?_)
  walk_at "rdc"
  refine rd_ixT (SqT.of (s2 _ _ tp)) at_n2 ?_
  refine⟨l,rfl,⟨_,SqL.of tl2⟩,?_⟩
  refine comp_go walk_l (by rw[wV_len];exact row_few F (nlen z (by rw[←ez];exact List.mem_of_getElem? ev))) (fun D ys hD=>SqL.of (same_new hD _ _ _ tl2)) (fun _=>true) (fun _=>.bl true) (fun x hx D ys Q' hD h=>h) (fun x hx _ D ys Q' hD h=>?_) (fun D3 hD3=>?_)
  ·obtain⟨y',hy',rfl⟩:=List.mem_map.mp hx
   walk_at "rdc"
   exact rd_isi (.str _) (kit_ss K) h
  have e3:((wV ns).filter fun _=>true).map (fun _=>V.bl true)=((wV ns).map fun _=>true).map V.bl:=by
   rw[List.filter_eq_self.mpr (fun _ _=>rfl),List.map_map]
   rfl
  rw[e3]
  refine fresh hD3 fun H3 s3 t3=>?_
  walk_at "rdc"
  refine⟨D3,_,rfl,SqL.of t3,?_⟩
  have e4:((wV ns).map fun _=>true).all id=true:=by rw[List.all_map,List.all_eq_true];exact fun _ _=>rfl
  rw[e4]
  walk_at "rdc"
  refine iteF ?_
  walk_at "rdc"
  exact⟨s1.trans (s2.trans s3),_,rfl⟩
 ·rintro σ' H1 ⟨s1,v,rfl⟩
  walk_at "rdc"
  exact q _ s1
theorem sc_law_refused:FnScope ["_law_many","_law_refused_here","e"] ["_law_many"] (defScope s_law_refused):=⟨rfl,rfl,rfl,by decide +kernel,rfl,by decide +kernel,by decide +kernel⟩
theorem ok_law_refused{f:Addr}{fd:FuncData}(F:Fun K "_law_refused" "_law_refused" s_law_refused f fd)(er:Errs K mg c_FeastError c_NoNumber c_TooLong c_NoMeasure c_NoText c_Measure c_Calendar c_Sun c_Rule c_Each)(c_almanac:CalE P w K mg base 6 "almanac" ["calendar","rules","day","many"] (spAlm K c_NoNumber c_Sun c_Measure c_Rule [c_Each]))(c_Sun___init___d2:CalID P w K mg base CX0 7 "Sun" c_Sun ["self","start","lengths","leap","terms"] [(.int 1),.non] (spInitS K c_Sun c_Measure))(z_isinstance:mg "isinstance"=none):FnOk P w K mg base CX0 9 f fd ["_law_many"] spRefused82:=by
 refine F.ok (k:=8) sc_law_refused (fun vs H Q E h=>?_) (fun cdv A outer s H vs Q E hr h=>?_)
 ·obtain⟨n,rfl,_⟩:=h
  rfl
 obtain⟨n,rfl,q⟩:=h
 refine⟨_,(pss_cons (ps_set (i:=1) sc_law_refused.nd rfl (by first | exact Or.inl rfl | exact Or.inr rfl) pe_bl)
  (pss_cons (ps_cut (ps_try rfl rfl (fun _ _ _ T=>(pss_one (ps_expr (pe_calE T c_almanac (hr.mono (by decide)) rfl (pa_cons (pe_mkD c_Sun___init___d2 (hr.mono (by decide)) rfl (pa_cons pe_int (pa_cons (pe_lst (pa_cons pe_int pa_nil)) pa_nil))) (pa_cons (pe_lst pa_nil) (pa_cons pe_int (pa_cons (pv 0) pa_nil))))))))
   (phs_consA (i:=2) er.h_NoNumber rfl sc_law_refused.nd rfl rfl (fun _=>(pss_one (ps_set (i:=1) sc_law_refused.nd rfl (by first | exact Or.inl rfl | exact Or.inr rfl) (pe_and (pe_callB call_isiX rfl z_isinstance PyProof.Rows.boot_isinstance (pa_cons (pv 2) (pa_cons (pe_glob rfl er.m_FeastError (rel_ref _)) pa_nil))) (pe_one (pe_not (pe_callB call_isiX rfl z_isinstance PyProof.Rows.boot_isinstance (pa_cons (pv 2) (pa_cons (pe_glob rfl er.m_NoText (rel_ref _)) pa_nil)))))))))
   phs_nil)))
  (pss_one (ps_ret (pv 1))))),?_⟩
 walk_at "rdx"
 refine rd_cut (fun σ' H'=>Same H H'∧∃w':Option V,σ'=[some (.int n),some (.bl (!decide (0≤n∧n≤400))),w']) ?_ ?_
 rotate_left
 ·rintro σ' H1 ⟨s1,w',rfl⟩
  walk_at "rdx"
  exact q _ s1
 walk_at "rdx"
 refine⟨(by show 1≤sizeLine;decide),fun l hl=>?_⟩
 refine fresh hl fun H1 s1 t1=>?_
 refine rd_nil ?_
 refine fun x dx hx hdx ne=>?_
 have g:GoodS [30] 1 []:=⟨by decide,by decide,by decide,by decide,by decide,by decide,by decide,(fun t ht=>nomatch ht),by decide⟩
 refine init_sun hx hdx ne (us:=[]) (ls:=[30]) (ts:=[]) t1 .nil (.inl ⟨rfl,rfl⟩) g ((show Bt 290 0 from (bt_of (by decide) (by decide)).mono (by decide))) fun H2 s2 S=>⟨rfl,?_⟩
 walk_at "rdx"
 refine⟨(by show 0≤sizeLine;decide),fun l3 hl3=>?_⟩
 refine fresh hl3 fun H3 s3 t3=>?_
 have s03:=(s1.trans s2).trans s3
 walk_at "rdx"
 have gd:(CalD.sun 0 [30] 1 []).good:=g
 refine⟨x,l3,[],[],.sun 0 [30] 1 [],5,n,rfl,rfl,S.same s3,t3,.nil,by decide,(fun r hr=>nomatch hr),by decide,fun y m r n4 ID h5 hn=>?_,fun n0 n4 D zs H4 s4 _ _ _ _=>?_,fun bad H4 s4=>?_⟩
 ·have yr:=ID.year gd
  have e1:(CalD.sun 0 [30] 1 []).Y y=0+(30*y+0):=rfl
  have e2:(CalD.sun 0 [30] 1 []).Y (y+1)=0+(30*(y+1)+0):=rfl
  rw[e1,e2] at yr
  unfold Sm
  exact Nat.lt_of_lt_of_le (show y.natAbs<1000 by omega) (by decide)
 ·walk_at "rdx"
  rw[decide_eq_true (show 0≤n∧n≤400 from ⟨n0,n4⟩)]
  exact⟨s03.trans s4,_,rfl⟩
 ·intro ea hea
  refine rd_handA er.r_NoNumber_NoNumber ?_
  refine fresh hea fun H5 s5 t5=>?_
  walk_at "rdx"
  refine rd_isiX t5 trivial er.g_NoNumber rfl er.i_NoNumber_FeastError ?_
  walk_at "rdx"
  refine iteT ?_
  walk_at "rdx"
  refine rd_isiX t5 trivial er.g_NoNumber rfl er.i_NoNumber_NoText ?_
  walk_at "rdx"
  rw[decide_eq_false bad]
  exact⟨s03.trans (s4.trans s5),_,rfl⟩
theorem sc_law_again:FnScope ["_law_cell","_law_calendar","_law_day","_law_found","_law_due_here","_law_one","_law_names_here"] ["_law_cell"] (defScope s_law_again):=⟨rfl,rfl,rfl,by decide +kernel,rfl,by decide +kernel,by decide +kernel⟩
theorem ok_law_again{f:Addr}{fd:FuncData}(F:Fun K "_law_again" "_law_again" s_law_again f fd)(er:Errs K mg c_FeastError c_NoNumber c_TooLong c_NoMeasure c_NoText c_Measure c_Calendar c_Sun c_Rule c_Each)(c_Sun___init___d2:CalID P w K mg base CX0 7 "Sun" c_Sun ["self","start","lengths","leap","terms"] [(.int 1),.non] (spInitS K c_Sun c_Measure))(c__law_number:Cal P w K mg base 1 "_law_number" ["_law_cell"] spNumB)(c_read_almanac:CalE P w K mg base 6 "read_almanac" ["rows"] (spReadAlmE K c_NoText))(c_almanac:CalE P w K mg base 6 "almanac" ["calendar","rules","day","many"] (spAlm K c_NoNumber c_Sun c_Measure c_Rule [c_Each]))(c_Each___init__:CalI P w K mg base CX0 3 "Each" c_Each ["self","size","rest"] (spIEach K c_Rule [c_Each] c_Each))(c_Sun_date_of:CalM P w K mg base CX0 5 c_Sun "date_of" ["self","day"] (spDate K c_Sun c_Sun c_Measure true))(c__law_kinds:Cal P w K mg base 2 "_law_kinds" ["_law_found"] (spKinds82 K))(z_range:mg "range"=none):FnOk P w K mg base CX0 9 f fd ["_law_cell"] spAgain82:=by
 refine F.ok (k:=8) sc_law_again (fun vs H Q E h=>?_) (fun cdv A outer s H vs Q E hr h=>?_)
 ·obtain⟨x,rfl,_⟩:=h
  rfl
 obtain⟨x,rfl,q⟩:=h
 refine⟨_,(pss_cons (ps_set (i:=1) sc_law_again.nd rfl (by first | exact Or.inl rfl | exact Or.inr rfl) (pe_mkD c_Sun___init___d2 (hr.mono (by decide)) rfl (pa_cons (pe_op op_mod (pv 0) pe_int) (pa_cons (pe_lst (pa_cons pe_int (pa_cons (pe_op op_add pe_int (pe_op op_mod (pv 0) pe_int)) pa_nil))) pa_nil))))
  (pss_cons (ps_set (i:=2) sc_law_again.nd rfl (by first | exact Or.inl rfl | exact Or.inr rfl) (pe_cal c__law_number (hr.mono (by decide)) rfl (pa_cons (pe_op op_fdivB (pv 0) pe_int) pa_nil)))
  (pss_cons (ps_set (i:=3) sc_law_again.nd rfl (by first | exact Or.inl rfl | exact Or.inr rfl) (pe_calE thr_never c_read_almanac (hr.mono (by decide)) rfl (pa_cons (pe_calE thr_never c_almanac (hr.mono (by decide)) rfl (pa_cons (pv 1) (pa_cons (pe_lst (pa_cons (pe_tup (pa_cons pe_str (pa_cons (pe_mk c_Each___init__ (hr.mono (by decide)) rfl (pa_cons pe_int (pa_cons (pe_op op_mod (pv 0) pe_int) pa_nil))) pa_nil))) (pa_cons (pe_tup (pa_cons pe_str (pa_cons (pe_mk c_Each___init__ (hr.mono (by decide)) rfl (pa_cons pe_int (pa_cons pe_int pa_nil))) pa_nil))) pa_nil))) (pa_cons (pv 2) (pa_cons (pe_op op_mod (pv 0) pe_int) pa_nil))))) pa_nil)))
  (pss_cons (ps_set (i:=4) sc_law_again.nd rfl (by first | exact Or.inl rfl | exact Or.inr rfl) (pe_lst pa_nil))
  (pss_cons (ps_for PassesOwn.never rfl (pi_range2A rfl z_range (pa_cons (pv 2) (pa_cons (pe_op op_add (pv 2) (pe_op op_mod (pv 0) pe_int)) pa_nil))) (pg_name (i:=5) sc_law_again.nd rfl (by first | exact Or.inl rfl | exact Or.inr rfl))
   (pss_cons (ps_setCompT (i:=6) sc_law_again.nd rfl (by first | exact Or.inl rfl | exact Or.inr rfl) (xs:=["_law_name_here","_law_held"]) rfl (compOkT_freeM ["_law_name_here","_law_held"] ["_law_cell","_law_calendar","_law_day","_law_found","_law_due_here","_law_one","_law_names_here"] ["_law_cell","_law_calendar","_law_day","_law_found","_law_due_here","_law_one","_law_names_here"] rfl rfl (by with_unfolding_all rfl) (by decide +kernel) rfl (by decide +kernel) (by decide +kernel) (by decide +kernel) (by walk_at "fm") (by with_unfolding_all rfl) (by with_unfolding_all rfl)) (pi_list (pe_lst (pa_cons (pe_tup (pa_cons pe_str (pa_cons (pe_cmpR op_eq (pe_op op_mod (pe_op op_sub (pv 5) (pv 0)) pe_int) pe_int (nomark _)) pa_nil))) (pa_cons (pe_tup (pa_cons pe_str (pa_cons (pe_cmpR op_eq (pe_op op_mod (pv 5) pe_int) pe_int (nomark _)) pa_nil))) pa_nil)))) (fun _ _ _ _=>(pifs_one (pt_val (pv 1)))) (fun _ _ _ _=>(pg_tup_c (n:=2) rfl (pgs_cons (pg_name (i:=0) (show (["_law_name_here","_law_held","_law_cell","_law_calendar","_law_day","_law_found","_law_due_here","_law_one","_law_names_here"]:List Str).Nodup from by decide +kernel) rfl (by first | exact Or.inl rfl | exact Or.inr rfl)) (pgs_cons (pg_name (i:=1) (show (["_law_name_here","_law_held","_law_cell","_law_calendar","_law_day","_law_found","_law_due_here","_law_one","_law_names_here"]:List Str).Nodup from by decide +kernel) rfl (by first | exact Or.inl rfl | exact Or.inr rfl)) pgs_nil)))) (fun _ _ _ _=>(pv 0)))
  (pss_one (ps_expr (pe_bm PySem.F.plainAttrs_list PySem.F.slot_list_append PySem.F.type_list_append mt_append (pv 4) (pa_cons (pe_tup (pa_cons (pv 5) (pa_cons (pe_mcal c_Sun_date_of er.cl_Sun (hr.mono (by decide)) (pv 1) (pa_cons (pv 5) pa_nil)) (pa_cons (pv 6) pa_nil)))) pa_nil))))))
  (pss_one (ps_ret (pe_and (pe_cal c__law_kinds (hr.mono (by decide)) rfl (pa_cons (pv 3) pa_nil)) (pe_one (pe_cmpR (op_eqV hr.units) (pv 3) (pv 4) (nomark _))))))))))),?_⟩
 walk_at "rdc"
 refine⟨(by show 2≤sizeLine;decide),fun l hl=>?_⟩
 refine fresh hl fun H1 s1 t1=>?_
 refine rd_nil ?_
 refine fun c dx hc hdx ne=>?_
 have g:GoodS [30,25+x%9] 1 []:=⟨by show 1≤2;decide,by show 2≤20;decide,fun n hn=>by
  rcases List.mem_cons.mp hn with e | e
  ·omega
  ·rw[List.mem_singleton.mp e]
   omega,by decide,by show(1:Int)≤2;decide,by show(0:Int)≤30;decide,by show(0:Int)<30+(25+x%9+0);omega,(fun t ht=>nomatch ht),by decide⟩
 refine init_sun hc hdx ne (us:=[]) (ls:=[30,25+x%9]) (ts:=[]) t1 .nil (.inl ⟨rfl,rfl⟩) g (show Bt 290 (x%100) from (bt_of (by omega) (by omega)).mono (by decide)) fun H2 s2 S=>⟨rfl,?_⟩
 have gd:(CalD.sun (x%100) [30,25+x%9] 1 []).good:=g
 have s02:=s1.trans s2
 walk_at "rdc"
 refine⟨_,rfl,fun d H3 s3 d0 d1=>?_⟩
 have S3:=S.same s3
 walk_at "rdy"
 intro r1 dr1 g1 g2 ne1
 refine⟨r1,_,_,rfl,by decide,by decide,(bt_of (by omega) (by omega)).mono (by decide),⟨dr1,upd_same⟩,fun b1 H4 k4 R1 B1=>⟨rfl,?_⟩⟩
 have s4:=made_same g1 g2 ne1 k4
 walk_at "rdy"
 refine⟨two,fun p1 hp1=>?_⟩
 refine fresh hp1 fun H5 s5 t5=>?_
 walk_at "rdy"
 intro r2 dr2 g3 g4 ne2
 refine⟨r2,_,_,rfl,by decide,by decide,(bt_of (by omega) (by omega)).mono (by decide),⟨dr2,upd_same⟩,fun b2 H6 k6 R2 B2=>⟨rfl,?_⟩⟩
 have s6:=made_same g3 g4 ne2 k6
 walk_at "rdy"
 refine⟨two,fun p2 hp2=>?_⟩
 refine fresh hp2 fun H7 s7 t7=>?_
 walk_at "rdy"
 refine⟨two,fun lp hlp=>?_⟩
 refine fresh hlp fun H8 s8 t8=>?_
 have s38:=((s4.trans s5).trans (s6.trans s7)).trans s8
 have S8:=S3.same s38
 have ea:Str.ofString "a"=txt [97]:=by decide +kernel
 have eb:Str.ofString "bc"=txt [98,99]:=by decide +kernel
 rw[ea] at t5
 rw[eb] at t7
 have P8:Prs82 K c_Rule [c_Each] H8 [.ref p1,.ref p2] [([97],3,b1),([98,99],2,b2)]:=.cons (((s6.trans s7).trans s8) _ _ t5) (R1.same ((s5.trans s6).trans (s7.trans s8))) (.cons (s8 _ _ t7) (R2.same (s7.trans s8)) .nil)
 generalize hrs:([([97],3,b1),([98,99],2,b2)]:List (List Nat×Int×Nat))=rs at P8
 have few:rs.length≤10:=by rw[←hrs];show 2≤10;decide
 have nm1:IsNm [97]:=⟨by decide,by decide,by decide⟩
 have nm2:IsNm [98,99]:=⟨by decide,by decide,by decide⟩
 have nms:∀r∈rs,IsNm r.1:=fun r hr=>by
  rw[←hrs] at hr
  rcases List.mem_cons.mp hr with e | e
  ·rw[e];exact nm1
  ·rw[List.mem_singleton.mp e];exact nm2
 have on:∀k:Int,nmsOn rs k=(if (k-x)%3=0 then [[97]] else [])++(if k%2=0 then [[98,99]] else []):=fun k=>by
  have o1:On 3 b1 k=decide ((k-x%3)%3=0):=(B1.bit k).trans (by unfold hit;simp)
  have o2:On 2 b2 k=decide ((k-0)%2=0):=(B2.bit k).trans (by unfold hit;simp)
  have e1:(k-x%3)%3=0↔(k-x)%3=0:=by omega
  have e2:(k-0)%2=0↔k%2=0:=by omega
  rw[←hrs]
  unfold nmsOn
  rw[List.filter_cons,List.filter_cons,List.filter_nil]
  show List.map _ (if On 3 b1 k=true then _::(if On 2 b2 k=true then _ else _) else (if On 2 b2 k=true then _ else _))=_
  rw[o1,o2]
  simp only[decide_eq_true_eq,e1,e2]
  split<;>split<;>rfl
 walk_at "rdy"
 have x6:0≤x%6∧x%6<6:=by omega
 refine⟨c,lp,_,rs,.sun (x%100) [30,25+x%9] 1 [],d,_,rfl,rfl,S8,t8,P8,few,nms,?_,fun y m r n4 ID h5 hn=>?_,fun _ _ D zs H9 s9 hD t9 lz az=>?_,fun bad=>absurd (by omega) bad⟩
 ·have:(10:Nat)^41=100000000000000000000000000000000000000000:=by decide
  omega
 ·have yr:=ID.year gd
  have eY:∀y,(CalD.sun (x%100) [30,25+x%9] 1 []).Y y=x%100+((30+(25+x%9+0))*y+0):=fun _=>rfl
  rw[eY,eY] at yr
  have b1:1≤30+(25+x%9+0):=by omega
  have:(10:Nat)^60=1000000000000000000000000000000000000000000000000000000000000:=by decide
  unfold Sm
  rcases Int.lt_or_le y 0 with c | c
  ·have:=Int.mul_le_mul_of_nonpos_right b1 (show y+1≤0 by omega)
   generalize (30+(25+x%9+0))*(y+1)=w1 at*
   generalize (30+(25+x%9+0))*y=w2 at*
   omega
  ·have:=Int.mul_le_mul_of_nonneg_right b1 c
   generalize (30+(25+x%9+0))*(y+1)=w1 at*
   generalize (30+(25+x%9+0))*y=w2 at*
   omega
 have sm:∀i:Nat,i<400→Sm (d+(i:Int)):=fun i hi=>by
  unfold Sm
  have:(10:Nat)^60=1000000000000000000000000000000000000000000000000000000000000:=by decide
  omega
 have zok:∀z∈zs,TOk z∧∃a y m r ns,RowF (cpl z) a y m r ns:=fun z hz=>by
  obtain⟨j,hj⟩:=List.mem_iff_getElem?.mp hz
  obtain⟨y,m,r,_,_,_,_,_,F⟩:=(az j z hj).ex
  exact⟨(az j z hj).ok,_,_,_,_,_,F⟩
 walk_at "rdy"
 refine⟨D,zs.map V.str,rfl,t9,by rw[List.length_map];omega,fun v hv=>?_,fun _ Df us ls H10 s10 hDf t10 R10 nd fr=>?_,fun bad=>absurd (fun v hv=>?_) bad⟩
 ·obtain⟨z,hz,rfl⟩:=List.mem_map.mp hv
  exact .txt z (zok z hz).1
 rotate_left
 ·obtain⟨z,hz,rfl⟩:=List.mem_map.mp hv
  obtain⟨_,a,y,m,r,ns,F⟩:=zok z hz
  exact⟨z,a,y,m,r,ns,rfl,F⟩
 have S10:=S8.same (s9.trans s10)
 walk_at "rdy"
 refine⟨(by show 0≤sizeLine;decide),fun ld hld=>?_⟩
 walk_at "rdy"
 walk_at "rdf"
 walk_at "rdy"
 refine⟨_,_,rfl,for_range (fun i σ' H'=>∃(ys:List V) (ls':List Addr) (v1 v2:Option V),σ'=[some (.int x),some (.ref c),some (.int d),some (.ref Df),some (.ref ld),v1,v2]∧H' ld=some (.lst ys)∧Same H10 H'∧Rws H' ys ((zs.map V.str).take i) ls'∧∀l∈ls',l≠ld) ⟨[],[],_,_,rfl,upd_same,same_new hld _,.nil,fun l h=>nomatch h⟩ ?_ ?_⟩
 ·rintro i σ' H11 hi ⟨ys,ls',v1,v2,rfl,t11,s11,R11,f11⟩
  have hi6:i<zs.length:=by omega
  obtain⟨z,hz⟩:∃z,zs[i]?=some z:=⟨_,List.getElem?_eq_getElem hi6⟩
  have A:=az i z hz
  have onk:=on (d+(i:Int))
  walk_at "rdy"
  refine rd_compT (rd_iL ?_)
  walk_at "rdy"
  refine⟨two,fun q1 hq1=>?_⟩
  refine fresh hq1 fun H12 s12 t12=>?_
  walk_at "rdy"
  refine⟨two,fun q2 hq2=>?_⟩
  refine fresh hq2 fun H13 s13 t13=>?_
  walk_at "rdy"
  refine⟨two,fun lt hlt=>?_⟩
  refine fresh hlt fun H14 s14 t14=>?_
  rw[ea] at t12
  rw[eb] at t13
  have u12:=(s13.trans s14) _ _ t12
  have u13:=s14 _ _ t13
  refine⟨lt,rfl,⟨_,SqL.of t14⟩,?_⟩
  refine compT_inv walk_l (small1000 (by show 2≤1000;decide)) (fun D j ys H2=>H2 D=some (.lst ys)∧Same H14 H2∧j≤2∧ys.length≤j∧ys=wV ((if 1≤j∧(d+(i:Int)-x)%3=0 then [[97]] else [])++(if 2≤j∧(d+(i:Int))%2=0 then [[98,99]] else []))) (fun D hD=>⟨upd_same,same_new hD _,by decide,by decide,by simp[wV]⟩)
   (fun D j ys H2 _ ⟨g1,g2,g3,g4,_⟩=>⟨g1,g4,SqL.of (g2 _ _ t14)⟩) (fun D j v ys H2 hD hv ⟨g1,g2,g3,g4,g5⟩ ρ hρ W hW=>?_) (fun D ys' H2 hD ⟨g1,g2,g3,g4,g5⟩=>?_)
  ·obtain⟨r0,r1',rfl⟩:∃r0 r1,ρ=[r0,r1]:=by
    match ρ,hρ with
    | [r0,r1],_=>exact⟨r0,r1,rfl⟩
   match j,hv with
   | 0,hv=>
    cases hv
    refine rd_gtup (SqT.of (g2 _ _ u12)) rfl ?_
    refine⟨_,_,rfl,?_⟩
    walk_at "rdy"
    refine⟨[some (.str (txt [97])),some _],rfl,rfl,?_⟩
    walk_at "rdy"
    have g0:ys=[]:=by simpa [wV] using g5
    subst g0
    by_cases c3:(d+(i:Int)-x)%3=0
    ·rw[decide_eq_true (congrArg V.int c3)]
     refine iteT ?_
     walk_at "rdy"
     refine⟨g1,hW _ _ ⟨upd_same,same_app hD g2,by omega,by show 1≤1;decide,?_⟩⟩
     rw[if_pos ⟨Nat.le_refl _,c3⟩,if_neg (fun z=>by omega)]
     rfl
    ·rw[decide_eq_false (fun z=>c3 (V.int.inj z))]
     refine iteF ?_
     refine hW _ _ ⟨g1,g2,by omega,by show 0≤1;decide,?_⟩
     rw[if_neg (fun z=>c3 z.2),if_neg (fun z=>by omega)]
     rfl
   | 1,hv=>
    cases hv
    refine rd_gtup (SqT.of (g2 _ _ u13)) rfl ?_
    refine⟨_,_,rfl,?_⟩
    walk_at "rdy"
    refine⟨[some (.str (txt [98,99])),some _],rfl,rfl,?_⟩
    walk_at "rdy"
    have e1:∀j:Nat,1≤j→(if 1≤j∧(d+(i:Int)-x)%3=0 then [[97]] else [])=(if (d+(i:Int)-x)%3=0 then [[97]] else ([]:List (List Nat))):=fun j hj=>by
     by_cases c3:(d+(i:Int)-x)%3=0
     ·rw[if_pos ⟨hj,c3⟩,if_pos c3]
     ·rw[if_neg (fun z=>c3 z.2),if_neg c3]
    rw[if_neg (c:=2≤1∧_) (fun z=>by omega),List.append_nil,e1 1 (by decide)] at g5
    by_cases c2:(d+(i:Int))%2=0
    ·rw[decide_eq_true (congrArg V.int c2)]
     refine iteT ?_
     walk_at "rdy"
     refine⟨g1,hW _ _ ⟨upd_same,same_app hD g2,by omega,by rw[List.length_append];exact Nat.add_le_add g4 (Nat.le_refl _),?_⟩⟩
     rw[if_pos (c:=2≤1+1∧_) ⟨Nat.le_refl _,c2⟩,wV_app,g5,e1 (1+1) (by decide)]
     rfl
    ·rw[decide_eq_false (fun z=>c2 (V.int.inj z))]
     refine iteF ?_
     refine hW _ _ ⟨g1,g2,by omega,by omega,?_⟩
     rw[if_neg (c:=2≤1+1∧_) (fun z=>c2 z.2),List.append_nil,g5,e1 (1+1) (by decide)]
   | j+2,hv=>simp at hv
  have g6:ys'=wV (nmsOn rs (d+(i:Int))):=by
   rw[g5,onk]
   simp
  subst g6
  have s10':=s11.trans ((s12.trans s13).trans (s14.trans g2))
  have S15:=S10.same s10'
  have tld:=((s12.trans s13).trans (s14.trans g2)) _ _ t11
  walk_at "rdy"
  refine rd_append rfl tld ?_
  walk_at "rdy"
  obtain⟨dx,fs,e,ml⟩:=S15.meth
  refine⟨c,dx,fs,rfl,e,ml.2.2.2.2.1,?_⟩
  walk_at "rdy"
  refine⟨c,d+(i:Int),.sun (x%100) [30,25+x%9] 1 [],rfl,rfl,S15,(bt_of (by omega) (by omega)).mono (by decide),fun p y m r H16 s16 tp ID DO _=>?_⟩
  walk_at "rdy"
  refine⟨three,fun pt hpt=>?_⟩
  refine fresh hpt fun H17 s17 t17=>?_
  have s1217:=((s12.trans s13).trans (s14.trans g2)).trans (s16.trans s17)
  refine rd_nil ?_
  refine rd_app ((s16.trans s17) _ _ tld) (by rw[R11.len.1];exact small1000 (by rw[List.length_take,List.length_map];omega)) ?_
  walk_at "rdy"
  have DD:D≠ld:=fun e=>by
   rw[e] at hD
   have:=((s12.trans s13).trans s14) _ _ t11
   rw[this] at hD
   cases hD
  refine⟨ys++[.ref pt],ls'++[D],_,_,rfl,upd_same,same_app hld (s11.trans s1217),?_,fun l hl=>?_⟩
  ·rw[List.take_add_one,List.getElem?_map,hz]
   refine Rws.snoc ?_ (Rws.upd (s1217 _ _ t11) (R11.same s1217) f11)
   obtain⟨y',m',r',ID',DO',hy',hm',hr',F⟩:=A.ex
   have uq:=ID.uniq gd ID' (DO.trans DO'.symm)
   obtain⟨e1,e2,e3⟩:=uq
   subst e1 e2 e3
   have m0:=ID.m0
   have r0:=ID.r0
   have n1:=(num_ok (show Sm (d+(i:Int)) from sm i (by omega))).2
   refine RowV.upd ⟨z,_,_,_,_,_,rfl,F,⟨pt,p,rfl,?_,?_⟩,(s16.trans s17) _ _ g1⟩ DD (s1217 _ _ t11)
   ·rw[n1]
    exact t17
   ·have:=(num_ok hy').2
    rw[this,(two_plc (n:=m') (by omega) hm').2.1,(two_plc (n:=r') (by omega) hr').2.1]
    exact s17 _ _ tp
  ·rcases List.mem_append.mp hl with e | e
   ·exact f11 l e
   ·rw[List.mem_singleton.mp e]
    exact DD
 ·rintro σ' H11 ⟨ys,ls',v1,v2,rfl,t11,s11,R11,f11⟩
  have e6:(zs.map V.str).take (d+x%6-d).toNat=zs.map V.str:=List.take_of_length_le (by rw[List.length_map];omega)
  rw[e6] at R11
  walk_at "rdy"
  have R10':=R10.same s11
  refine⟨Df,us,_,ls,rfl,s11 _ _ t10,by rw[R10.len.1,List.length_map];omega,R10',fun z hz=>?_,fun H12 s12=>?_⟩
  ·obtain⟨z',hz',e⟩:=List.mem_map.mp hz
   cases e
   exact(zok z hz').1
  walk_at "rdy"
  refine iteT ?_
  walk_at "rdy"
  have E:=(R10'.same s12).eqv (K:=K) (R11.same s12)
  refine⟨Df,ld,us,ys,rfl,rfl,SqL.of (s12 _ _ (s11 _ _ t10)),SqL.of (s12 _ _ t11),E.1,E.2,?_⟩
  exact q _ (((s02.trans s3).trans (s38.trans (s9.trans s10))).trans (s11.trans s12))
theorem sc_law:FnScope ["_law_script","_law_rows","_law_k","_law_handed","_law_found","_law_due_here","_law_cell","_law_far"] ["_law_script"] (defScope s_law):=⟨rfl,rfl,rfl,by decide +kernel,rfl,by decide +kernel,by decide +kernel⟩
theorem ok_law{f:Addr}{fd:FuncData}(F:Fun K "law" "law" s_law f fd)(c__law_row:Cal P w K mg base 3 "_law_row" ["_law_cell"] spRow82)(c__law_changed:Cal P w K mg base 2 "_law_changed" ["_law_row_here","_law_cell"] spChanged82)(c__law_read:Cal P w K mg base 7 "_law_read" ["_law_rows"] spRead82)(c__law_due:Cal P w K mg base 2 "_law_due" ["_law_row_here"] spDue82)(c__law_kinds:Cal P w K mg base 2 "_law_kinds" ["_law_found"] (spKinds82 K))(c__law_cell_at:Cal P w K mg base 1 "_law_cell_at" ["_law_script","_law_k"] (spCell K))(c__law_refused:Cal P w K mg base 9 "_law_refused" ["_law_many"] spRefused82)(c__law_again:Cal P w K mg base 9 "_law_again" ["_law_cell"] spAgain82)(z_range:mg "range"=none)(z_len:mg "len"=none)(z_list:mg "list"=none)(z_int:mg "int"=none):FnOk P w K mg base CX0 10 f fd ["_law_script"] (spLaw K):=by
 refine F.ok (k:=9) sc_law (fun vs H Q E h=>?_) (fun cdv A outer s H vs Q E hr h=>?_)
 ·obtain⟨a,ns,rfl,_⟩:=h
  rfl
 obtain⟨a,ns,rfl,hS,h63,hB,q⟩:=h
 refine⟨_,(pss_cons (ps_setComp (i:=1) sc_law.nd rfl (by first | exact Or.inl rfl | exact Or.inr rfl) rfl (compOk_freeM ["_law_script","_law_rows","_law_k","_law_handed","_law_found","_law_due_here","..","_law_far"] ["_law_script","_law_rows","_law_k","_law_handed","_law_found","_law_due_here","_law_cell","_law_far"] rfl rfl (by with_unfolding_all rfl) (by decide +kernel) rfl (by decide +kernel) rfl (by decide +kernel) (by walk_at "fm") (by with_unfolding_all rfl) (by with_unfolding_all rfl)) (pi_list (pe_slice sl_list (pv 0) (po_some pe_int) (po_some pe_int))) (fun _ _ _ _=>pifs_nil) (fun _ _ _ _=>(pe_cal c__law_row (hr.mono (by decide)) rfl (pa_cons (pe_op op_fdivB (pv 0) pe_int) pa_nil))))
  (pss_cons (ps_for PassesOwn.never rfl (pi_range1 rfl z_range (pa_cons (pe_callB call_len_seq rfl z_len PySem.boot_len (pa_cons (pv 1) pa_nil)) pa_nil)) (pg_name (i:=2) sc_law.nd rfl (by first | exact Or.inl rfl | exact Or.inr rfl))
   (pss_cons (ps_set (i:=6) sc_law.nd rfl (by first | exact Or.inl rfl | exact Or.inr rfl) (pe_ix ix_list (pv 0) (pe_op op_add (pv 2) pe_int) (fun _ _=>rfl)))
  (pss_one (ps_cut (ps_if (pt_cmpR op_eq (pe_op op_mod (pv 6) pe_int) pe_int (nomark _))
   (pss_one (ps_asg (pe_cal c__law_changed (hr.mono (by decide)) rfl (pa_cons (pe_ix ix_list (pv 1) (pv 2) (fun _ _=>rfl)) (pa_cons (pe_op op_fdivB (pv 6) pe_int) pa_nil))) (pg_sub (pv 1) (pv 2) set_list)))
   pss_nil)))))
  (pss_cons (ps_set (i:=3) sc_law.nd rfl (by first | exact Or.inl rfl | exact Or.inr rfl) (pe_callTy call_list_of rfl z_list PyProof.Rows.boot_list (pa_cons (pv 1) pa_nil)))
  (pss_cons (ps_cut (ps_set (i:=4) sc_law.nd rfl (by first | exact Or.inl rfl | exact Or.inr rfl) (pe_cal c__law_read (hr.mono (by decide)) rfl (pa_cons (pv 3) pa_nil))))
  (pss_cons (ps_setComp (i:=5) sc_law.nd rfl (by first | exact Or.inl rfl | exact Or.inr rfl) rfl (compOk_nil ["_law_script","_law_rows","_law_k","_law_handed","_law_found","_law_due_here","_law_cell","_law_far"] rfl (by decide +kernel) rfl (by decide +kernel) rfl (by decide +kernel) (by decide +kernel)) (pi_list (pv 1)) (fun _ _ _ _=>pifs_nil) (fun _ _ _ _=>(pe_cal c__law_due (hr.mono (by decide)) rfl (pa_cons (pv 0) pa_nil))))
  (pss_cons (ps_if (pt_cmpR (op_neV hr.units) (pv 3) (pv 1) (nomark _))
   (pss_one (ps_ret pe_bl))
   pss_nil)
  (pss_cons (ps_if (pt_cmpR (op_inO hr.units) pe_non (pv 5) (by rfl))
   (pss_one (ps_ret (pe_and (pe_cmpR op_isN (pv 4) pe_non (nomark _)) (pe_one (pe_cmpR (op_eqW hr.units) (pe_cal c__law_read (hr.mono (by decide)) rfl (pa_cons (pe_slice sl_list (pv 1) po_none (po_some pe_int)) pa_nil)) (pe_ix ix_list (pe_lst (pa_cons (pe_lst (pa_cons (pe_ix ix_list (pv 5) pe_int (fun _ _=>rfl)) pa_nil)) (pa_cons pe_non pa_nil))) (pe_callTy call_int1 rfl z_int PyProof.Rows.boot_int (pa_cons (pe_cmpR op_isN (pe_ix ix_list (pv 5) pe_int (fun _ _=>rfl)) pe_non (nomark _)) pa_nil)) (fun _ _=>rfl)) (nomark _))))))
   pss_nil)
  (pss_cons (ps_if (PW.pt (pw_or (pt_not (pt_val (pe_cal c__law_kinds (hr.mono (by decide)) rfl (pa_cons (pv 4) pa_nil)))) (pw_or1 (pt_cmpR (op_neV hr.units) (pv 4) (pv 5) (nomark _)))))
   (pss_one (ps_ret pe_bl))
   pss_nil)
  (pss_cons (ps_cut (ps_if (pt_cmpR (op_neNil hr.units) (pv 4) (pe_lst pa_nil) (nomark _))
   (pss_cons (ps_expr (pe_bm PySem.F.plainAttrs_list PySem.F.slot_list_append PySem.F.type_list_append mt_append (pe_ix ix_tup (pe_ix ix_list (pv 4) pe_int (fun _ _=>rfl)) pe_int (fun _ _=>rfl)) (pa_cons pe_str pa_nil)))
  (pss_one (ps_if (PW.pt (pw_or (pt_cmpR (op_neV hr.units) (pe_slice sl_list (pv 4) (po_some pe_int) po_none) (pe_slice sl_list (pv 5) (po_some pe_int) po_none) (nomark _)) (pw_or1 (pt_cmpR (op_neV hr.units) (pe_cal c__law_read (hr.mono (by decide)) rfl (pa_cons (pv 1) pa_nil)) (pv 5) (nomark _)))))
   (pss_one (ps_ret pe_bl))
   pss_nil)))
   pss_nil))
  (pss_cons (ps_set (i:=6) sc_law.nd rfl (by first | exact Or.inl rfl | exact Or.inr rfl) (pe_cal c__law_cell_at (hr.mono (by decide)) rfl (pa_cons (pv 0) (pa_cons pe_int pa_nil))))
  (pss_cons (ps_if (pt_cmpR op_eq (pe_op op_mod (pv 6) pe_int) pe_int (nomark _))
   (pss_cons (ps_set (i:=7) sc_law.nd rfl (by first | exact Or.inl rfl | exact Or.inr rfl) (pe_op op_add pe_int (pe_op op_mod (pe_op op_fdivB (pv 6) pe_int) (pe_op op_pow pe_int pe_int))))
  (pss_one (ps_ret (pe_and (pe_cal c__law_refused (hr.mono (by decide)) rfl (pa_cons (pe_un un_neg (pv 7)) pa_nil)) (pe_and (pe_cal c__law_refused (hr.mono (by decide)) rfl (pa_cons (pe_op op_add pe_int (pv 7)) pa_nil)) (pe_one (pe_not (pe_cal c__law_refused (hr.mono (by decide)) rfl (pa_cons (pe_ix ix_list (pe_lst (pa_cons pe_int (pa_cons pe_int (pa_cons pe_int pa_nil)))) (pe_op op_mod (pe_op op_fdivB (pv 6) pe_int) pe_int) (fun _ _=>rfl)) pa_nil)))))))))
   pss_nil)
  (pss_one (ps_ret (pe_cal c__law_again (hr.mono (by decide)) rfl (pa_cons (pe_op op_fdivB (pv 6) pe_int) pa_nil))))))))))))))),?_⟩
 walk_at "rdc"
 refine rd_comp (rd_iL ?_)
 walk_at "rdc"
 refine rd_slL hS fun u hu=>?_
 have ec:cutV (ns.map V.int) (some 1) (some 7)=((ns.take 7).drop 1).map V.int:=by
  rw[show (some 1:Option Int)=some ((1:Nat):Int) from rfl,show(some 7:Option Int)=some ((7:Nat):Int) from rfl,cutN,←List.map_take,←List.map_drop]
 rw[ec]
 have ml:((ns.take 7).drop 1).length≤6:=by rw[List.length_drop,List.length_take];omega
 have mb:∀n∈(ns.take 7).drop 1,Bt 1048576 n:=fun n hn=>hB n (List.mem_of_mem_take (List.mem_of_mem_drop hn))
 have mn:((ns.take 7).drop 1).length+1≤ns.length∨(ns.take 7).drop 1=[]:=by
  rw[List.length_drop,List.length_take]
  rcases Nat.lt_or_ge 0 ns.length with h | h
  ·left;omega
  ·right
   rw[List.length_eq_zero_iff.mp (show ns.length=0 by omega)]
   rfl
 generalize (ns.take 7).drop 1=ms at ml mb mn ⊢
 refine fresh hu fun H1 s1 t1=>?_
 refine⟨u,rfl,⟨_,SqL.of t1⟩,?_⟩
 refine comp_inv walk_l (by rw[List.length_map];exact small1000 (by omega)) (fun D i ys H2=>H2 D=some (.lst ys)∧Same H1 H2∧∃zs:List Str,ys=zs.map V.str∧zs.length=i∧∀z∈zs,RowX 100000 z) (fun D hD=>⟨upd_same,same_new hD _,[],rfl,rfl,fun z h=>nomatch h⟩)
  (fun D i ys H2 _ ⟨h1,h2,zs,h3,h4,_⟩=>⟨h1,by rw[h3,List.length_map,h4];exact Nat.le_refl _,SqL.of (h2 _ _ t1)⟩) (fun D i v ys H2 hD hv ⟨h1,h2,zs,h3,h4,h5⟩=>?_) (fun lr ys H2 hlr ⟨h1,h2,zs,h3,h4,h5⟩=>?_)
 ·rw[List.getElem?_map] at hv
  obtain⟨n,hn,rfl⟩:=Option.map_eq_some_iff.mp hv
  have bn:=mb n (List.mem_of_getElem? hn)
  refine rd_true (iteT ?_)
  walk_at "rdc"
  refine⟨_,rfl,(bt_div bn (by decide)).mono (by decide),fun z H3 s3 X=>?_⟩
  refine⟨s3 _ _ h1,upd_same,same_app hD (h2.trans s3),zs++[z],by rw[h3,List.map_append];rfl,by rw[List.length_append,h4];rfl,fun y hy=>?_⟩
  rcases List.mem_append.mp hy with e | e
  ·exact h5 y e
  ·rw[List.mem_singleton.mp e]
   exact X
 rw[List.length_map] at h4
 subst h3
 have s02:=s1.trans h2
 have fl:H lr=none:=s1.free hlr
 walk_at "rdc"
 walk_at "rdf"
 walk_at "rdc"
 refine⟨lr,_,rfl,.inl (SqL.of h1),?_⟩
 rw[List.length_map]
 walk_at "rdc"
 refine⟨_,rfl,by omega,by omega,for_range (fun i σ' H'=>∃(vs:List V) (v1 v2:Option V),σ'=[some (.ref a),some (.ref lr),v1,none,none,none,v2,none]∧H' lr=some (.lst vs)∧Same H1 H'∧vs.length=zs.length∧(∀v∈vs,Hnd H' v)∧∀j v,i≤j→vs[j]?=some v→∃z,v=.str z∧RowX 100000 z) ⟨_,_,_,rfl,h1,h2,List.length_map _,fun v hv=>?_,fun j v _ hv=>?_⟩ ?_ ?_⟩
 ·obtain⟨z,hz,rfl⟩:=List.mem_map.mp hv
  exact .txt z ((h5 z hz).tl.ok (by decide))
 ·obtain⟨z,hz,rfl⟩:=List.mem_map.mp (List.mem_of_getElem? hv)
  exact⟨z,rfl,h5 z hz⟩
 ·rintro i σ' H3 hi ⟨vs,v1,v2,rfl,t3,s3,lv,hh,hx⟩
  rw[Int.zero_add]
  have im:i<ms.length:=by omega
  have mn':i+1<ns.length:=by
   rcases mn with h | h
   ·omega
   ·rw[h] at im
    exact absurd im (Nat.not_lt_zero _)
  obtain⟨n,hn⟩:∃n,ns[i+1]?=some n:=⟨_,List.getElem?_eq_getElem mn'⟩
  walk_at "rdc"
  refine rd_ixL (v:=.int n) ((s1.trans s3).seq hS) (by
   have:=atI_nat (xs:=ns.map V.int) (j:=i+1) (v:=.int n) (by rw[List.getElem?_map,hn];rfl)
   rwa [show ((i+1:Nat):Int)=(i:Int)+1 by omega] at this) ?_
  walk_at "rdc"
  refine rd_cut (fun σ' H'=>∃(vs:List V) (v1 v2:Option V),σ'=[some (.ref a),some (.ref lr),v1,none,none,none,v2,none]∧H' lr=some (.lst vs)∧Same H1 H'∧vs.length=zs.length∧(∀v∈vs,Hnd H' v)∧∀j v,i+1≤j→vs[j]?=some v→∃z,v=.str z∧RowX 100000 z) ?_ (fun σ' H' h=>h)
  walk_at "rdc"
  refine ite2d (fun _=>?_) (fun _=>?_)
  ·obtain⟨v,hv⟩:∃v,vs[i]?=some v:=⟨_,List.getElem?_eq_getElem (by omega)⟩
   obtain⟨z,rfl,X⟩:=hx i v (Nat.le_refl _) hv
   walk_at "rdc"
   refine rd_ixL (SqL.of t3) (atI_nat hv) ?_
   walk_at "rdc"
   refine⟨z,_,rfl,X,fun v' H4 s4 hv'=>?_⟩
   walk_at "rdc"
   refine rd_setL (s4 _ _ t3) (by omega) ?_
   refine⟨vs.set i v',_,_,rfl,upd_same,same_app hlr (s3.trans s4),by rw[List.length_set];exact lv,fun v hv=>?_,fun j v hj hv=>?_⟩
   ·rcases List.mem_or_eq_of_mem_set hv with e | e
    ·exact((hh v e).keep s4).set (s4 _ _ t3)
    ·rw[e]
     exact hv'.set (s4 _ _ t3)
   ·rw[List.getElem?_set_ne (by omega)] at hv
    exact hx j v (by omega) hv
  ·walk_at "rdc"
   exact⟨vs,_,_,rfl,t3,s3,lv,hh,fun j v hj hv=>hx j v (by omega) hv⟩
 rintro σ' H3 ⟨vs,v1,v2,rfl,t3,s3,lv,hh,_⟩
 walk_at "rdc"
 refine⟨lr,vs,rfl,.inl (SqL.of t3),fun lh hlh=>?_⟩
 refine fresh hlh fun H4 s4 t4=>?_
 have hh4:∀v∈vs,Hnd H4 v:=fun v hv=>(hh v hv).keep s4
 have r4:=s4 _ _ t3
 have s04:=(s1.trans s3).trans s4
 have few:vs.length≤6:=by omega
 walk_at "rdc"
 refine rd_cut (fun σ' H'=>Same H4 H'∧∃vf:V,σ'=[some (.ref a),some (.ref lr),v1,some (.ref lh),some vf,none,v2,none]∧(((∀v∈vs,isRow v)∧∃(D:Addr) (us:List V) (ls:List Addr),vf=.ref D∧H4 D=none∧H' D=some (.lst us)∧Rws H' us vs ls∧ls.Nodup∧∀x∈ls,H4 x=none∧x≠D)∨((¬∀v∈vs,isRow v)∧vf=.non))) ?_ ?_
 ·walk_at "rdc"
  refine⟨lh,vs,rfl,t4,by omega,hh4,fun al D us ls H5 s5 hD t5 R nd fr=>?_,fun al H5 s5=>?_⟩
  ·walk_at "rdc"
   exact⟨s5,_,rfl,.inl ⟨al,D,us,ls,rfl,hD,t5,R,nd,fr⟩⟩
  ·walk_at "rdc"
   exact⟨s5,_,rfl,.inr ⟨al,rfl⟩⟩
 rintro σ' H5 ⟨s5,vf,rfl,hvf⟩
 have r5:=s5 _ _ r4
 walk_at "rdc"
 refine rd_comp (rd_iL ?_)
 walk_at "rdc"
 refine⟨lr,rfl,⟨_,SqL.of r5⟩,?_⟩
 refine comp_inv walk_l (small1000 (by omega)) (fun D i ys H2=>H2 D=some (.lst ys)∧Same H5 H2∧Dues (fun l=>H5 l=none∧l≠D) H2 ys (vs.take i)) (fun D hD=>⟨upd_same,same_new hD _,.nil⟩)
  (fun D i ys H2 _ ⟨g1,g2,g3⟩=>⟨g1,by rw[g3.len];exact List.length_take_le _ _,SqL.of (g2 _ _ r5)⟩) (fun D i v ys H2 hD hv ⟨g1,g2,g3⟩=>?_) (fun D du H6 hD ⟨t6,s6,Du⟩=>?_)
 ·refine rd_true (iteT ?_)
  walk_at "rdc"
  have et:vs.take (i+1)=vs.take i++[v]:=by rw[List.take_add_one,hv];rfl
  refine⟨v,rfl,(hh4 v (List.mem_of_getElem? hv)).keep (s5.trans g2),fun z a y m d nsx ez F u l H3 s3 hl O=>?_,fun nr H3 s3=>?_⟩
  ·have lD:l≠D:=fun e=>by rw[e,g1] at hl;cases hl
   refine⟨s3 _ _ g1,upd_same,same_app hD (g2.trans s3),?_⟩
   rw[et]
   exact Dues.app (.row (RowV.upd ⟨z,a,y,m,d,nsx,ez,F,O⟩ lD (s3 _ _ g1)) ⟨g2.free hl,lD⟩ .nil) (Dues.upd (s3 _ _ g1) (fun l hl=>hl.2) (g3.same s3))
  ·refine⟨s3 _ _ g1,upd_same,same_app hD (g2.trans s3),?_⟩
   rw[et]
   exact Dues.app (.non nr .nil) (Dues.upd (s3 _ _ g1) (fun l hl=>hl.2) (g3.same s3))
 rw[List.take_length] at Du
 have s46:=s5.trans s6
 have r6:=s6 _ _ r5
 have h6:=s46 _ _ t4
 walk_at "rdc"
 refine⟨lh,lr,vs,vs,rfl,rfl,SqL.of h6,SqL.of r6,rfl,EqV.selfs (hnd_plain hh4),?_⟩
 walk_at "rdc"
 refine iteF ?_
 walk_at "rdc"
 refine⟨D,du,rfl,rfl,SqL.of t6,Du.kind,?_⟩
 walk_at "rdc"
 rcases hvf with ⟨al,Df,us,ls,rfl,hDf,t5,R5,nd,fr⟩ | ⟨nal,rfl⟩
 rotate_left
 ·rw[Du.any.mpr nal]
  refine iteT ?_
  walk_at "rdc"
  refine⟨rfl,?_⟩
  walk_at "rdc"
  refine iteD rfl ?_
  walk_at "rdc"
  refine rd_slL (SqL.of r6) fun u7 hu7=>?_
  rw[show cutV vs none (some 1)=vs.take 1 from cut_upto vs 1]
  refine fresh hu7 fun H7 s7 t7=>?_
  refine rd_nil ?_
  have hn1:∀v∈vs.take 1,Hnd H7 v:=fun v hv=>(hh4 v (List.mem_of_mem_take hv)).keep (s46.trans s7)
  have iN:(if decide (V.non=V.non)=true then (1:Int) else 0)=1:=by simp
  rcases Du.head with e | ⟨u0,v0,l0,du',vs',rfl,rfl,hu0⟩ | ⟨v0,du',vs',rfl,rfl,nr⟩
  ·rw[e] at nal
   exact absurd (fun v hv=>nomatch hv) nal
  ·have al1:∀v∈(v0::vs').take 1,isRow v:=fun v hv=>by rw[List.mem_singleton.mp (show v∈[v0] from hv)];exact hu0.row
   refine⟨u7,_,rfl,t7,by show 1≤1000;decide,hn1,fun _ D1 us1 ls1 H8 s8 hD1 t8 R8 _ _=>?_,fun n=>absurd al1 n⟩
   have t68:=(s7.trans s8) _ _ t6
   have V8:=hu0.same (s7.trans s8)
   obtain⟨p0,eu⟩:=hu0.ref
   have iR:(if decide (V.ref p0=V.non)=true then (1:Int) else 0)=0:=by simp
   subst eu
   walk_at "rdc"
   refine rd_ixL (SqL.of t68) at_n0 ?_
   walk_at "rdc"
   refine⟨(by show 1≤sizeLine;decide),fun q1 hq1=>?_⟩
   refine fresh hq1 fun H9 s9 t9=>?_
   walk_at "rdc"
   refine⟨two,fun q2 hq2=>?_⟩
   refine fresh hq2 fun H10 s10 t10=>?_
   walk_at "rdc"
   refine rd_ixL (SqL.of ((s9.trans s10) _ _ t68)) at_n0 ?_
   walk_at "rdc"
   refine⟨rfl,?_⟩
   refine rd_nil ?_
   refine .inr ⟨_,rfl,?_⟩
   rw[iR]
   refine rd_ixL (SqL.of t10) at_n0 ?_
   have E:=(R8.same (s9.trans s10)).eqv (K:=K) (show Rws H10 [.ref p0] [v0] [l0] from .cons (V8.same (s9.trans s10)) .nil)
   exact .inr ⟨D1,q1,us1,[.ref p0],rfl,rfl,SqL.of ((s9.trans s10) _ _ t8),SqL.of (s10 _ _ t9),E.1,E.2,q _⟩
  ·have nal1:¬∀v∈(v0::vs').take 1,isRow v:=fun h=>nr (h v0 (show v0∈[v0] from List.mem_singleton.mpr rfl))
   refine⟨u7,_,rfl,t7,by show 1≤1000;decide,hn1,fun n=>absurd n nal1,fun _ H8 s8=>?_⟩
   have t68:=(s7.trans s8) _ _ t6
   walk_at "rdc"
   refine rd_ixL (SqL.of t68) at_n0 ?_
   walk_at "rdc"
   refine⟨(by show 1≤sizeLine;decide),fun q1 hq1=>?_⟩
   refine fresh hq1 fun H9 s9 t9=>?_
   walk_at "rdc"
   refine⟨two,fun q2 hq2=>?_⟩
   refine fresh hq2 fun H10 s10 t10=>?_
   walk_at "rdc"
   refine rd_ixL (SqL.of ((s9.trans s10) _ _ t68)) at_n0 ?_
   walk_at "rdc"
   refine⟨rfl,?_⟩
   refine rd_nil ?_
   refine .inr ⟨_,rfl,?_⟩
   rw[iN]
   refine rd_ixL (SqL.of t10) at_n1 ?_
   exact .inl ⟨rfl,rfl,q _⟩
 have na:du.any isNonW=false:=by
  cases h:du.any isNonW with
  | false=>rfl
  | true=>exact absurd al (Du.any.mp h)
 rw[na]
 refine iteF ?_
 have R6:=R5.same s6
 have f6:=s6 _ _ t5
 obtain⟨lsd,Rd,fd'⟩:=Du.rws al
 walk_at "rdc"
 refine⟨Df,us,vs,ls,rfl,f6,by rw[R5.len.1];omega,R6,fun z hz=>?_,fun H7 s7=>?_⟩
 ·obtain⟨z',e,tz⟩:=row_tok (hh4 _ hz) (al _ hz)
  cases e
  exact tz
 have R7:=R6.same s7
 have Rd7:=Rd.same s7
 have f7:=s7 _ _ f6
 have t7:=s7 _ _ t6
 have r7:=s7 _ _ r6
 have s47:=s46.trans s7
 walk_at "rdc"
 refine iteF ?_
 walk_at "rdc"
 have E7:=R7.eqv (K:=K) Rd7
 refine⟨Df,D,us,du,rfl,rfl,SqL.of f7,SqL.of t7,E7.1,E7.2,?_⟩
 walk_at "rdc"
 refine iteF ?_
 walk_at "rdc"
 refine rd_cut (fun σ' H'=>Same H4 H'∧σ'=[some (.ref a),some (.ref lr),v1,some (.ref lh),some (.ref Df),some (.ref D),v2,none]) ?_ ?_
 ·walk_at "rdc"
  refine⟨(by show 0≤sizeLine;decide),fun l8 hl8=>?_⟩
  refine fresh hl8 fun H8 s8 t8=>?_
  refine rd_neNil (SqL.of (s8 _ _ f7)) (SqL.of t8) ?_
  refine⟨_,rfl,?_⟩
  cases us with
  | nil=>
   refine iteF ?_
   walk_at "rdc"
   exact⟨s47.trans s8,rfl⟩
  | cons u0 ur=>
   refine iteT ?_
   obtain⟨v0,l0,vs',ls',rfl,rfl,hv0,R7t⟩:=R7.head
   obtain⟨ud,ld,dr,lsr,rfl,rfl,hd0,Rdt⟩:=Rd7.headv
   obtain⟨z0,a0,y0,m0,d0,n0,ez0,F0,O0⟩:=hv0
   obtain⟨p0,q0,eu,hp0,hq0⟩:=O0.ex
   subst eu
   have l08:=s8 _ _ O0.nm
   have fr0:=fr l0 List.mem_cons_self
   have l05:H5 l0≠none:=R5.lists List.mem_cons_self
   walk_at "rdc"
   refine rd_bm ?_
   walk_at "rdc"
   refine rd_ixL (SqL.of (s8 _ _ f7)) at_n0 ?_
   walk_at "rdc"
   refine rd_ixT (SqT.of (s8 _ _ hp0)) at_n2 ?_
   refine⟨.inl ⟨rfl,_,SqL.of l08⟩,?_⟩
   walk_at "rdc"
   refine rd_app l08 (by rw[wV_len];obtain⟨z',e,tz⟩:=row_tok (hh4 v0 List.mem_cons_self) (al v0 List.mem_cons_self);rw[ez0] at e;cases e;exact row_few F0 tz) ?_
   have s9:Same H4 (upd H8 l0 (.lst (wV n0++[.str (Str.ofString "zz")]))):=same_app fr0.1 (s47.trans s8)
   have Rt9:Rws (upd H8 l0 (.lst (wV n0++[.str (Str.ofString "zz")]))) ur vs' ls':=Rws.upd l08 (R7t.same s8) fun l hl e=>(List.nodup_cons.mp nd).1 (by rw[←e];exact hl)
   have Rd9:Rws (upd H8 l0 (.lst (wV n0++[.str (Str.ofString "zz")]))) (ud::dr) (v0::vs') (ld::lsr):=Rws.upd l08 (Rws.same s8 (.cons hd0 Rdt)) fun l hl e=>l05 (by rw[←e];exact(fd' l hl).1)
   have f9:upd H8 l0 (.lst (wV n0++[.str (Str.ofString "zz")])) Df=some (.lst (.ref p0::ur)):=by
    rw[upd_ne (Ne.symm fr0.2)]
    exact s8 _ _ f7
   have d9:upd H8 l0 (.lst (wV n0++[.str (Str.ofString "zz")])) D=some (.lst (ud::dr)):=by
    rw[upd_ne (fun e=>l05 (by rw[←e];exact hD))]
    exact s8 _ _ t7
   generalize upd H8 l0 (.lst (wV n0++[.str (Str.ofString "zz")]))=H9 at s9 Rt9 Rd9 f9 d9 ⊢
   walk_at "rdc"
   refine rd_slL (SqL.of f9) fun u10 hu10=>?_
   rw[cut_one]
   refine fresh hu10 fun H10 s10 t10=>?_
   walk_at "rdc"
   refine rd_slL (SqL.of (s10 _ _ d9)) fun u11 hu11=>?_
   rw[cut_one]
   refine fresh hu11 fun H11 s11 t11=>?_
   obtain⟨_,_,_,_,e1,e2,_,Rdt9⟩:=Rd9.headv
   cases e1
   cases e2
   have E11:=(Rt9.same (s10.trans s11)).eqv (K:=K) (Rdt9.same (s10.trans s11))
   refine⟨u10,u11,ur,dr,rfl,rfl,SqL.of (s11 _ _ t10),SqL.of t11,E11.1,E11.2,?_⟩
   walk_at "rdc"
   refine iteF ?_
   have s411:=s9.trans (s10.trans s11)
   walk_at "rdc"
   refine⟨lr,_,rfl,s411 _ _ r4,by omega,fun v hv=>(hh4 v hv).keep s411,fun _ D2 us2 ls2 H12 s12 hD2 t12 R12 _ _=>?_,fun n=>absurd al n⟩
   walk_at "rdc"
   have E12:=R12.eqv (K:=K) (Rd9.same ((s10.trans s11).trans s12))
   refine⟨D2,D,us2,_,rfl,rfl,SqL.of t12,SqL.of (((s10.trans s11).trans s12) _ _ d9),E12.1,E12.2,?_⟩
   walk_at "rdc"
   refine iteF ?_
   walk_at "rdc"
   exact⟨s411.trans s12,rfl⟩
 rintro σ' H8 ⟨s8,rfl⟩
 have hS8:=(s04.trans s8).seq hS
 walk_at "rdc"
 generalize ns.getD (Int.toNat 0) 0=c0
 refine ite2d (fun _=>?_) (fun _=>?_)
 ·walk_at "rdc"
  have e40:(10:Int)^Int.toNat 40=10000000000000000000000000000000000000000:=by decide
  rw[e40]
  have w0:0≤c0/8%10000000000000000000000000000000000000000:=by omega
  generalize c0/8%10000000000000000000000000000000000000000=far at w0 ⊢
  refine⟨_,rfl,fun H9 s9=>?_⟩
  rw[decide_eq_false (by omega)]
  walk_at "rdc"
  refine iteT ?_
  walk_at "rdc"
  refine⟨_,rfl,fun H10 s10=>?_⟩
  rw[decide_eq_false (by omega)]
  walk_at "rdc"
  refine iteT ?_
  walk_at "rdc"
  refine⟨three,fun l3 hl3=>?_⟩
  refine fresh hl3 fun H11 s11 t11=>?_
  walk_at "rdc"
  obtain⟨b,hb,b0,b1⟩:∃b:Int,atI [V.int 0,V.int 1,V.int 400] (c0/8%3)=some (.int b)∧0≤b∧b≤400:=by
   have c3:c0/8%3=0∨c0/8%3=1∨c0/8%3=2:=by omega
   rcases c3 with e | e | e
   ·rw[e]
    exact⟨_,at_n0,by decide,by decide⟩
   ·rw[e]
    exact⟨_,at_n1,by decide,by decide⟩
   ·rw[e]
    exact⟨_,at_n2,by decide,by decide⟩
  refine rd_ixL (SqL.of t11) hb ?_
  refine rd_nil ?_
  refine⟨_,rfl,fun H12 s12=>?_⟩
  rw[decide_eq_true (show 0≤b∧b≤400 from ⟨b0,b1⟩)]
  walk_at "rdc"
  exact q _
 ·walk_at "rdc"
  exact⟨_,rfl,fun H9 s9=>q _⟩
end
theorem all_mk{l:PySem.W.OpenLaw}{w:World}{K:PySem.W.Frag}{h:Heap}{mg:Str→Option Value}{fa f5 f20 f24 f58:Addr}{c_FeastError c_NoNumber c_TooLong c_NoMeasure c_NoText c_Measure c_Calendar c_Sun c_Rule c_Each:Addr}(X:K.In h)(G:h.Ns mainGlobals mg)(hfa:mg "law"=some (.ref fa))
 {od5 an5 od20 an20 od24 an24 od58 an58:Option Addr}{sl5 sl20 sl24 sl58:Array (Option Value)}{oc5 kV5 dc5 pm5 cd5 ct5 oc20 kV20 dc20 pm20 cd20 ct20 oc24 kV24 dc24 pm24 cd24 ct24 oc58 kV58 dc58 pm58 cd58 ct58:Value}{tk_LONGEST:Tok}{tk_PIECE:Tok}{tk_GREATEST_N:Tok}{tk_GREATEST_BASE:Tok}{tk_MOST_TERMS:Tok}{tk_MOST_MONTHS:Tok}{tk_LONGEST_MONTH:Tok}{tk_MOST_LETTERS:Tok}{tk_LETTERS:Tok}{tk_MOST_FIGURES:Tok}{tk_FIGURES:Tok}{tk_MOST_ROWS:Tok}
 {T5:Addr}{to5:Value}{td5:Option Addr}{tn5:Nat}{ts5:Array (Option Value)}
 {T20:Addr}{to20:Value}{td20:Option Addr}{tn20:Nat}{ts20:Array (Option Value)}
 {T24:Addr}{to24:Value}{td24:Option Addr}{tn24:Nat}{ts24:Array (Option Value)}{tkd_Sun___init___0:Tok}
 (n_FeastError:PySem.W.nsIn K mainGlobals "FeastError"=some (some (.ref c_FeastError)))
 (n_NoNumber:PySem.W.nsIn K mainGlobals "NoNumber"=some (some (.ref c_NoNumber)))
 (t_NoNumber:PySem.W.typeIn K (.ref c_NoNumber)=some (.type "type"))
 (k_NoNumber:PySem.W.hasDictIn K c_NoNumber=true)
 (b_NoNumber:PySem.W.mroIn K c_NoNumber (.type "BaseException")=some true)
 (n_TooLong:PySem.W.nsIn K mainGlobals "TooLong"=some (some (.ref c_TooLong)))
 (n_NoMeasure:PySem.W.nsIn K mainGlobals "NoMeasure"=some (some (.ref c_NoMeasure)))
 (n_NoText:PySem.W.nsIn K mainGlobals "NoText"=some (some (.ref c_NoText)))
 (t_NoText:PySem.W.typeIn K (.ref c_NoText)=some (.type "type"))
 (k_NoText:PySem.W.hasDictIn K c_NoText=true)
 (b_NoText:PySem.W.mroIn K c_NoText (.type "BaseException")=some true)
 (e_NoText:PySem.W.excIn K c_NoText bmV "ValueError.__new__"=true)
 (ga_NoText:PySem.W.findIn K (.ref c_NoText) "__getattribute__"=some (some (.builtin "BaseException.__getattribute__")))
 (gk_NoText:PySem.W.findIn K (.ref c_NoText) "__getattr__"=some none)
 (ob_NoText:PySem.W.mroIn K c_NoText (.type "object")=some true)
 (ca_NoText:PySem.W.findIn K (.ref c_NoText) "__class__"=some (some (.builtin "object.__class__")))
 (i_NoText_FeastError:PySem.W.kitOne K (.ref c_NoText) (.ref c_FeastError)=some true)
 (i_NoText_NoNumber:PySem.W.kitOne K (.ref c_NoText) (.ref c_NoNumber)=some false)
 (r_NoText_NoText:PySem.W.mroIn K c_NoText (.ref c_NoText)=some true)
 (e_NoNumber:PySem.W.excIn K c_NoNumber bmV "ValueError.__new__"=true)
 (ga_NoNumber:PySem.W.findIn K (.ref c_NoNumber) "__getattribute__"=some (some (.builtin "BaseException.__getattribute__")))
 (gk_NoNumber:PySem.W.findIn K (.ref c_NoNumber) "__getattr__"=some none)
 (ob_NoNumber:PySem.W.mroIn K c_NoNumber (.type "object")=some true)
 (ca_NoNumber:PySem.W.findIn K (.ref c_NoNumber) "__class__"=some (some (.builtin "object.__class__")))
 (i_NoNumber_FeastError:PySem.W.kitOne K (.ref c_NoNumber) (.ref c_FeastError)=some true)
 (r_NoNumber_NoNumber:PySem.W.mroIn K c_NoNumber (.ref c_NoNumber)=some true)
 (i_NoNumber_NoText:PySem.W.kitOne K (.ref c_NoNumber) (.ref c_NoText)=some false)
 (n_Rule:PySem.W.nsIn K mainGlobals "Rule"=some (some (.ref c_Rule)))
 (n_Each:PySem.W.nsIn K mainGlobals "Each"=some (some (.ref c_Each)))
 (pg_Each:PySem.W.plainGet K c_Each Str.empty=true)
 (k_Each:PySem.W.hasDictIn K c_Each=true)
 (po_Each:PySem.W.plainOver K c_Each=true)
 (sa_Each:PySem.W.findIn K (.ref c_Each) "__setattr__"=some (some (.builtin "object.__setattr__")))
 (mk_Each:PySem.W.makesIn K c_Each=true)
 (kp_Each:PySem.W.keepIn K (.ref c_Each)=true)
 (na_Each_kept:PySem.W.findIn K (.ref c_Each) "kept"=some none)
 (na_Each_made_of:PySem.W.findIn K (.ref c_Each) "made_of"=some none)
 (na_Each_words:PySem.W.findIn K (.ref c_Each) "words"=some none)
 (ca_Each:PySem.W.findIn K (.ref c_Each) "__class__"=some (some (.builtin "object.__class__")))
 (ob_Each:PySem.W.mroIn K c_Each (.type "object")=some true)
 (i_Each_Rule:PySem.W.kitOne K (.ref c_Each) (.ref c_Rule)=some true)
 (n_Measure:PySem.W.nsIn K mainGlobals "Measure"=some (some (.ref c_Measure)))
 (pg_Measure:PySem.W.plainGet K c_Measure Str.empty=true)
 (k_Measure:PySem.W.hasDictIn K c_Measure=true)
 (po_Measure:PySem.W.plainOver K c_Measure=true)
 (sa_Measure:PySem.W.findIn K (.ref c_Measure) "__setattr__"=some (some (.builtin "object.__setattr__")))
 (mk_Measure:PySem.W.makesIn K c_Measure=true)
 (kp_Measure:PySem.W.keepIn K (.ref c_Measure)=true)
 (na_Measure_base:PySem.W.findIn K (.ref c_Measure) "base"=some none)
 (na_Measure_terms:PySem.W.findIn K (.ref c_Measure) "terms"=some none)
 (na_Measure_full_count:PySem.W.findIn K (.ref c_Measure) "full_count"=some none)
 (na_Measure_full_sum:PySem.W.findIn K (.ref c_Measure) "full_sum"=some none)
 (n_Sun:PySem.W.nsIn K mainGlobals "Sun"=some (some (.ref c_Sun)))
 (pg_Sun:PySem.W.plainGet K c_Sun Str.empty=true)
 (k_Sun:PySem.W.hasDictIn K c_Sun=true)
 (po_Sun:PySem.W.plainOver K c_Sun=true)
 (sa_Sun:PySem.W.findIn K (.ref c_Sun) "__setattr__"=some (some (.builtin "object.__setattr__")))
 (mk_Sun:PySem.W.makesIn K c_Sun=true)
 (kp_Sun:PySem.W.keepIn K (.ref c_Sun)=true)
 (na_Sun_start:PySem.W.findIn K (.ref c_Sun) "start"=some none)
 (na_Sun_months:PySem.W.findIn K (.ref c_Sun) "months"=some none)
 (na_Sun_leap:PySem.W.findIn K (.ref c_Sun) "leap"=some none)
 (na_Sun_years:PySem.W.findIn K (.ref c_Sun) "years"=some none)
 (n_Calendar:PySem.W.nsIn K mainGlobals "Calendar"=some (some (.ref c_Calendar)))
 (bsp_Rule:PySem.W.specialIn K (.ref c_Rule) "__getattribute__"=some (some (.builtin "type.__getattribute__")))
 (brd_Rule:PySem.W.readsIn K c_Rule (.type "type")=true)
 (xsp:PySem.W.specialIn K (.builtin "object.__class__") "__get__"=some (some (.builtin "getset_descriptor.__get__")))
 (xtk:PySem.W.takesIn K (.builtin "object.__class__")=some true)
 (q0:FnG K "refuse_below_one" "refuse_below_one" "refuse_below_one" s_refuse_below_one)
 (q1:FnG K "refuse_too_long" "refuse_too_long" "refuse_too_long" s_refuse_too_long)
 (q2:FnG K "round_by" "round_by" "round_by" s_round_by)
 (q3:FnG K "on" "on" "on" s_on)
 (q4:FnG K "on_rounds" "on" "on" s_on)
 (a5:PySem.W.findIn K (.ref c_Rule) "__init__"=some (some (.ref f5)))(l5:K.lookup f5=some ⟨oc5,od5,.func (PySem.W.fnOf "__init__" "Rule.__init__" (defArgs s_Rule___init__) (defBody s_Rule___init__) (defScope s_Rule___init__) (.ref T5) kV5 dc5 pm5 an5 cd5 ct5),sl5⟩)(c5:PySem.W.codeIn K cd5 "Rule.__init__"=true)(k5:PySem.W.keepIn K (.ref f5)=true)
 (t5:K.lookup T5=some ⟨to5,td5,.seq #[.none,.none,.none] tn5,ts5⟩)
 (bfc5:PySem.W.findCls K (.ref c_Rule) (.type "type") "__init__"=some (.val (.ref f5)))
 (q6:FnM K c_Rule "on" "on" "Rule.on" s_Rule_on)
 (q7:FnM K c_Each "on" "on" "Rule.on" s_Rule_on)
 (q8:FnG K "each_text" "each_text" "each_text" s_each_text)
 (q9:FnM K c_Each "__init__" "__init__" "Each.__init__" s_Each___init__)
 (q10:FnG K "equation" "equation" "equation" s_equation)
 (q11:FnG K "divisor" "divisor" "divisor" s_divisor)
 (q12:FnG K "common" "common" "common" s_common)
 (q13:FnG K "term_on" "term_on" "term_on" s_term_on)
 (q14:FnG K "signs_upto" "signs_upto" "signs_upto" s_signs_upto)
 (q15:FnG K "is_term" "is_term" "is_term" s_is_term)
 (q16:FnG K "least_length" "least_length" "least_length" s_least_length)
 (q17:FnG K "refuse_measure" "refuse_measure" "refuse_measure" s_refuse_measure)
 (q18:FnG K "period_of" "period_of" "period_of" s_period_of)
 (q19:FnM K c_Measure "upto" "upto" "Measure.upto" s_Measure_upto)
 (a20:PySem.W.findIn K (.ref c_Measure) "__init__"=some (some (.ref f20)))(l20:K.lookup f20=some ⟨oc20,od20,.func (PySem.W.fnOf "__init__" "Measure.__init__" (defArgs s_Measure___init__) (defBody s_Measure___init__) (defScope s_Measure___init__) (.ref T20) kV20 dc20 pm20 an20 cd20 ct20),sl20⟩)(c20:PySem.W.codeIn K cd20 "Measure.__init__"=true)(k20:PySem.W.keepIn K (.ref f20)=true)
 (t20:K.lookup T20=some ⟨to20,td20,.seq #[.none] tn20,ts20⟩)
 (u20:PySem.W.typeIn K (.ref f20)=some (.type "function"))
 (q21:FnM K c_Measure "at" "at" "Measure.at" s_Measure_at)
 (q22:FnM K c_Measure "seek" "seek" "Measure.seek" s_Measure_seek)
 (q23:FnG K "refuse_months" "refuse_months" "refuse_months" s_refuse_months)
 (a24:PySem.W.findIn K (.ref c_Sun) "__init__"=some (some (.ref f24)))(l24:K.lookup f24=some ⟨oc24,od24,.func (PySem.W.fnOf "__init__" "Sun.__init__" (defArgs s_Sun___init__) (defBody s_Sun___init__) (defScope s_Sun___init__) (.ref T24) kV24 dc24 pm24 an24 cd24 ct24),sl24⟩)(c24:PySem.W.codeIn K cd24 "Sun.__init__"=true)(k24:PySem.W.keepIn K (.ref f24)=true)
 (t24:K.lookup T24=some ⟨to24,td24,.seq #[(.int 1 tkd_Sun___init___0),.none] tn24,ts24⟩)
 (u24:PySem.W.typeIn K (.ref f24)=some (.type "function"))
 (q25:FnM K c_Sun "year_start" "year_start" "Sun.year_start" s_Sun_year_start)
 (q26:FnM K c_Sun "year_at" "year_at" "Sun.year_at" s_Sun_year_at)
 (q27:FnM K c_Sun "lengths" "lengths" "Sun.lengths" s_Sun_lengths)
 (q28:FnM K c_Sun "date_of" "date_of" "Calendar.date_of" s_Sun_date_of)
 (q29:FnG K "place_text" "place_text" "place_text" s_place_text)
 (q30:FnG K "date_text" "date_text" "date_text" s_date_text)
 (q31:FnG K "is_name" "is_name" "is_name" s_is_name)
 (q32:FnG K "is_number" "is_number" "is_number" s_is_number)
 (q33:FnG K "read_number" "read_number" "read_number" s_read_number)
 (q34:FnG K "read_place" "read_place" "read_place" s_read_place)
 (q35:FnG K "read_date" "read_date" "read_date" s_read_date)
 (q36:FnG K "read_names" "read_names" "read_names" s_read_names)
 (q37:FnG K "read_row" "read_row" "read_row" s_read_row)
 (q38:FnG K "read_almanac" "read_almanac" "read_almanac" s_read_almanac)
 (q39:FnG K "widest" "widest" "widest" s_widest)
 (q40:FnG K "names_on" "names_on" "names_on" s_names_on)
 (q41:FnG K "almanac" "almanac" "almanac" s_almanac)
 (q42:FnG K "_law_cell_at" "_law_cell_at" "_law_cell_at" s_law_cell_at)
 (q43:FnG K "_law_whole" "_law_whole" "_law_whole" s_law_whole)
 (q44:FnG K "_law_number" "_law_number" "_law_number" s_law_number)
 (q45:FnG K "_law_mixed" "_law_mixed" "_law_mixed" s_law_mixed)
 (q46:FnG K "_law_name" "_law_name" "_law_name" s_law_name)
 (q47:FnG K "_law_row" "_law_row" "_law_row" s_law_row)
 (q48:FnG K "_law_free" "_law_free" "_law_free" s_law_free)
 (q49:FnG K "_law_changed" "_law_changed" "_law_changed" s_law_changed)
 (q50:FnG K "_law_value" "_law_value" "_law_value" s_law_value)
 (q51:FnG K "_law_part" "_law_part" "_law_part" s_law_part)
 (q52:FnG K "_law_names" "_law_names" "_law_names" s_law_names)
 (q53:FnG K "_law_due" "_law_due" "_law_due" s_law_due)
 (q54:FnG K "_law_read" "_law_read" "_law_read" s_law_read)
 (q55:FnG K "_law_kinds" "_law_kinds" "_law_kinds" s_law_kinds)
 (q56:FnG K "_law_refused" "_law_refused" "_law_refused" s_law_refused)
 (q57:FnG K "_law_again" "_law_again" "_law_again" s_law_again)
 (a58:PySem.W.nsIn K mainGlobals "law"=some (some (.ref f58)))(l58:K.lookup f58=some ⟨oc58,od58,.func (PySem.W.fnOf "law" "law" (defArgs s_law) (defBody s_law) (defScope s_law) .none kV58 dc58 pm58 an58 cd58 ct58),sl58⟩)(c58:PySem.W.codeIn K cd58 "law"=true)(k58:PySem.W.keepIn K (.ref f58)=true)
 (z_range:PySem.W.nsIn K mainGlobals "range"=some none)
 (z_len:PySem.W.nsIn K mainGlobals "len"=some none)
 (z_sum:PySem.W.nsIn K mainGlobals "sum"=some none)
 (z_all:PySem.W.nsIn K mainGlobals "all"=some none)
 (z_tuple:PySem.W.nsIn K mainGlobals "tuple"=some none)
 (z_min:PySem.W.nsIn K mainGlobals "min"=some none)
 (z_max:PySem.W.nsIn K mainGlobals "max"=some none)
 (z_list:PySem.W.nsIn K mainGlobals "list"=some none)
 (z_str:PySem.W.nsIn K mainGlobals "str"=some none)
 (z_isinstance:PySem.W.nsIn K mainGlobals "isinstance"=some none)
 (z_int:PySem.W.nsIn K mainGlobals "int"=some none)
 (z_bool:PySem.W.nsIn K mainGlobals "bool"=some none)
 (m_LONGEST:PySem.W.nsIn K mainGlobals "LONGEST"=some (some (.int 150000 tk_LONGEST)))
 (m_PIECE:PySem.W.nsIn K mainGlobals "PIECE"=some (some (.int 256 tk_PIECE)))
 (m_GREATEST_N:PySem.W.nsIn K mainGlobals "GREATEST_N"=some (some (.int 1000 tk_GREATEST_N)))
 (m_GREATEST_BASE:PySem.W.nsIn K mainGlobals "GREATEST_BASE"=some (some (.int 20000 tk_GREATEST_BASE)))
 (m_MOST_TERMS:PySem.W.nsIn K mainGlobals "MOST_TERMS"=some (some (.int 6 tk_MOST_TERMS)))
 (m_MOST_MONTHS:PySem.W.nsIn K mainGlobals "MOST_MONTHS"=some (some (.int 20 tk_MOST_MONTHS)))
 (m_LONGEST_MONTH:PySem.W.nsIn K mainGlobals "LONGEST_MONTH"=some (some (.int 1000 tk_LONGEST_MONTH)))
 (m_MOST_LETTERS:PySem.W.nsIn K mainGlobals "MOST_LETTERS"=some (some (.int 8 tk_MOST_LETTERS)))
 (m_LETTERS:PySem.W.nsIn K mainGlobals "LETTERS"=some (some (.str "abcdefghijklmnopqrstuvwxyz" tk_LETTERS)))
 (m_MOST_FIGURES:PySem.W.nsIn K mainGlobals "MOST_FIGURES"=some (some (.int 60 tk_MOST_FIGURES)))
 (m_FIGURES:PySem.W.nsIn K mainGlobals "FIGURES"=some (some (.str "0123456789" tk_FIGURES)))
 (m_MOST_ROWS:PySem.W.nsIn K mainGlobals "MOST_ROWS"=some (some (.int 400 tk_MOST_ROWS)))
 :∃fd:FuncData,(∀(s:Shared) (v:Value),BindsTo s fd ⟨[v],[]⟩ [("_law_script",v)])∧∀base:Heap,K.In base→base.Ns mainGlobals mg→FnOk l.prog w K mg base CX0 10 fa fd ["_law_script"] (spLaw K):=by
 have e:=hfa.symm.trans (PySem.W.mg_of X G a58)
 cases e
 have F5:=fun_mkD (st:=s_Rule___init__) l5 c5 k5 t5 rfl
 have b5:=FunD.bindsD (ps:=["self","kept","made_of","words"]) (dv:=[]) 4 rfl F5 fun _ _ _ _ _ _ _ us hl=>by obtain⟨_,_,_,_,rfl⟩:=len4 hl;exact⟨_,rfl,rfl⟩
 have F20:=fun_mkD (st:=s_Measure___init__) l20 c20 k20 t20 rfl
 have b20:=FunD.bindsD (ps:=["self","base","terms"]) (dv:=[]) 3 rfl F20 fun _ _ _ _ _ _ _ us hl=>by obtain⟨_,_,_,rfl⟩:=len3 hl;exact⟨_,rfl,rfl⟩
 have F24:=fun_mkD (st:=s_Sun___init__) l24 c24 k24 t24 rfl
 have b24:=FunD.bindsD (ps:=["self","start","lengths","leap","terms"]) (dv:=[]) 5 rfl F24 fun _ _ _ _ _ _ _ us hl=>by obtain⟨_,_,_,_,_,rfl⟩:=len5 hl;exact⟨_,rfl,rfl⟩
 have b24_2:=FunD.bindsD (ps:=["self","start","lengths","leap","terms"]) (dv:=[(.int 1 tkd_Sun___init___0),.none]) 3 rfl F24 fun _ _ _ _ _ _ _ us hl=>by obtain⟨_,_,_,rfl⟩:=len3 hl;exact⟨_,rfl,rfl⟩
 have F58:=fun_mk (st:=s_law) l58 c58 k58
 have y_range:=PySem.W.mg_none_of X G z_range
 have y_len:=PySem.W.mg_none_of X G z_len
 have y_sum:=PySem.W.mg_none_of X G z_sum
 have y_all:=PySem.W.mg_none_of X G z_all
 have y_tuple:=PySem.W.mg_none_of X G z_tuple
 have y_min:=PySem.W.mg_none_of X G z_min
 have y_max:=PySem.W.mg_none_of X G z_max
 have y_list:=PySem.W.mg_none_of X G z_list
 have y_str:=PySem.W.mg_none_of X G z_str
 have y_isinstance:=PySem.W.mg_none_of X G z_isinstance
 have y_int:=PySem.W.mg_none_of X G z_int
 have y_bool:=PySem.W.mg_none_of X G z_bool
 have y_LONGEST:=PySem.W.mg_of X G m_LONGEST
 have y_PIECE:=PySem.W.mg_of X G m_PIECE
 have y_GREATEST_N:=PySem.W.mg_of X G m_GREATEST_N
 have y_GREATEST_BASE:=PySem.W.mg_of X G m_GREATEST_BASE
 have y_MOST_TERMS:=PySem.W.mg_of X G m_MOST_TERMS
 have y_MOST_MONTHS:=PySem.W.mg_of X G m_MOST_MONTHS
 have y_LONGEST_MONTH:=PySem.W.mg_of X G m_LONGEST_MONTH
 have y_MOST_LETTERS:=PySem.W.mg_of X G m_MOST_LETTERS
 have y_LETTERS:=PySem.W.mg_of X G m_LETTERS
 have y_MOST_FIGURES:=PySem.W.mg_of X G m_MOST_FIGURES
 have y_FIGURES:=PySem.W.mg_of X G m_FIGURES
 have y_MOST_ROWS:=PySem.W.mg_of X G m_MOST_ROWS
 refine⟨PySem.W.fnOf "law" "law" (defArgs s_law) (defBody s_law) (defScope s_law) .none kV58 dc58 pm58 an58 cd58 ct58,fun s v=>.of_eq rfl,fun base _ _=>?_⟩
 have er:Errs K mg c_FeastError c_NoNumber c_TooLong c_NoMeasure c_NoText c_Measure c_Calendar c_Sun c_Rule c_Each:=⟨PySem.W.mg_of X G n_FeastError,PySem.W.mg_of X G n_NoNumber,⟨PySem.W.mg_of X G n_NoNumber,t_NoNumber,has_cls k_NoNumber,b_NoNumber⟩,PySem.W.mg_of X G n_NoText,⟨PySem.W.mg_of X G n_NoText,t_NoText,has_cls k_NoText,b_NoText⟩,⟨PySem.W.mg_of X G n_NoText,e_NoText⟩,⟨ga_NoText,gk_NoText,b_NoText,ob_NoText,ca_NoText,has_cls k_NoText,xsp,xtk⟩,i_NoText_FeastError,i_NoText_NoNumber,r_NoText_NoText,⟨PySem.W.mg_of X G n_NoNumber,e_NoNumber⟩,⟨ga_NoNumber,gk_NoNumber,b_NoNumber,ob_NoNumber,ca_NoNumber,has_cls k_NoNumber,xsp,xtk⟩,i_NoNumber_FeastError,r_NoNumber_NoNumber,i_NoNumber_NoText,⟨pg_Each,k_Each,po_Each,sa_Each⟩,⟨⟨pg_Each,k_Each,po_Each,sa_Each⟩,na_Each_kept,na_Each_made_of,na_Each_words,ca_Each,ob_Each,i_Each_Rule⟩,⟨pg_Measure,k_Measure,po_Measure,sa_Measure⟩,na_Measure_base,na_Measure_terms,na_Measure_full_count,na_Measure_full_sum,⟨pg_Sun,k_Sun,po_Sun,sa_Sun⟩,na_Sun_start,na_Sun_months,na_Sun_leap,na_Sun_years⟩
 have C_refuse_below_one:Cal l.prog w K mg base 1 "refuse_below_one" ["number"] spRefuse:=cal_of X G q0 (by walk_at "b1") fun F=>ok_refuse_below_one F
 have C_refuse_too_long:Cal l.prog w K mg base 1 "refuse_too_long" ["size"] spTooLong:=cal_of X G q1 (by walk_at "b1") fun F=>ok_refuse_too_long F y_LONGEST
 have C_round_by:Cal l.prog w K mg base 2 "round_by" ["size","days"] (spRoundBy K):=cal_of X G q2 (by walk_at "b2") fun F=>ok_round_by F C_refuse_below_one C_refuse_too_long y_range y_len y_PIECE
 have C_on:Cal l.prog w K mg base 1 "on" ["turn","day"] (spOn K):=cal_of X G q3 (by walk_at "b2") fun F=>ok_on F
 have C_on_rounds:Cal l.prog w K mg base 1 "on_rounds" ["turn","day"] (spOn K):=cal_of X G q4 (by walk_at "b2") fun F=>ok_on F
 have C_Rule___init__:CalB l.prog w K mg base 1 "Rule" ["self","kept","made_of","words"] (spRInit K c_Rule):=⟨⟨f5,c_Rule,_,ok_Rule___init__ F5 er,b5,⟨PySem.W.mg_of X G n_Rule,bsp_Rule,brd_Rule,bfc5,k5⟩⟩⟩
 have C_Rule_on:CalM l.prog w K mg base CX0 2 c_Rule "on" ["self","day"] (spOnM K c_Rule [c_Each]):=calM_of q6 (by walk_at "b2") fun F=>ok_Rule_on F er C_on_rounds
 have C_Each_on:CalM l.prog w K mg base CX0 2 c_Each "on" ["self","day"] (spOnM K c_Rule [c_Each]):=calM_of q7 (by walk_at "b2") fun F=>ok_Rule_on F er C_on_rounds
 have C_each_text:Cal l.prog w K mg base 1 "each_text" ["step","rest"] spEachT:=cal_of X G q8 (by walk_at "b2") fun F=>ok_each_text F
 have C_Each___init__:CalI l.prog w K mg base CX0 3 "Each" c_Each ["self","size","rest"] (spIEach K c_Rule [c_Each] c_Each):=calI_of X G mk_Each kp_Each n_Each q9 (by walk_at "b3") fun F=>ok_Each___init__ F er C_round_by C_Rule___init__ C_each_text
 have C_equation:Cal l.prog w K mg base 1 "equation" ["one","other"] spEq:=cal_of X G q10 (by walk_at "b2") fun F=>ok_equation F
 have C_divisor:Cal l.prog w K mg base 2 "divisor" ["one","other"] spDivisor:=cal_of X G q11 (by walk_at "b2") fun F=>ok_divisor F C_equation
 have C_common:Cal l.prog w K mg base 3 "common" ["one","other"] spCommon:=cal_of X G q12 (by walk_at "b2") fun F=>ok_common F C_refuse_below_one C_divisor
 have C_term_on:Cal l.prog w K mg base 1 "term_on" ["term","k"] spTermOn:=cal_of X G q13 (by walk_at "b2") fun F=>ok_term_on F
 have C_signs_upto:Cal l.prog w K mg base 1 "signs_upto" ["terms","k"] (spSigns K):=cal_of X G q14 (by walk_at "b2") fun F=>ok_signs_upto F y_sum
 have C_is_term:Cal l.prog w K mg base 1 "is_term" ["term"] spIsTerm:=cal_of X G q15 (by walk_at "b1") fun F=>ok_is_term F y_GREATEST_N
 have C_least_length:Cal l.prog w K mg base 1 "least_length" ["base","terms"] (spLeast K):=cal_of X G q16 (by walk_at "b2") fun F=>ok_least_length F y_len
 have C_refuse_measure:Cal l.prog w K mg base 2 "refuse_measure" ["base","terms"] (spRefuseM K):=cal_of X G q17 (by walk_at "b2") fun F=>ok_refuse_measure F C_is_term C_least_length y_len y_all y_GREATEST_BASE y_MOST_TERMS
 have C_period_of:Cal l.prog w K mg base 4 "period_of" ["terms"] (spPeriod K):=cal_of X G q18 (by walk_at "b1") fun F=>ok_period_of F C_common
 have C_Measure_upto:CalM l.prog w K mg base CX0 2 c_Measure "upto" ["self","k"] (spUpto K c_Measure):=calM_of q19 (by walk_at "b2") fun F=>ok_Measure_upto F er C_signs_upto
 have C_Measure___init__:CalI l.prog w K mg base CX0 5 "Measure" c_Measure ["self","base","terms"] (spInitM K c_Measure):=⟨⟨f20,_,ok_Measure___init__ F20 er C_refuse_measure C_period_of C_Measure_upto y_tuple,b20,⟨mk_Measure,a20,beq_iff_eq.mpr u20,kp_Measure⟩,PySem.W.mg_of X G n_Measure⟩⟩
 have C_Measure_at:CalM l.prog w K mg base CX0 2 c_Measure "at" ["self","k"] (spAt K c_Measure):=calM_of q21 (by walk_at "b2") fun F=>ok_Measure_at F er C_term_on y_sum
 have C_Measure_seek:CalM l.prog w K mg base CX0 3 c_Measure "seek" ["self","total"] (spSeek K c_Measure):=calM_of q22 (by walk_at "b2") fun F=>ok_Measure_seek F er C_Measure_upto
 have C_refuse_months:Cal l.prog w K mg base 1 "refuse_months" ["lengths","leap"] (spRefMo K):=cal_of X G q23 (by walk_at "b2") fun F=>ok_refuse_months F y_len y_min y_max y_MOST_MONTHS y_LONGEST_MONTH
 have C_Sun___init__:CalI l.prog w K mg base CX0 7 "Sun" c_Sun ["self","start","lengths","leap","terms"] (spInitS K c_Sun c_Measure):=⟨⟨f24,_,ok_Sun___init__ F24 er C_refuse_months C_Measure___init__ C_least_length y_tuple y_sum,b24,⟨mk_Sun,a24,beq_iff_eq.mpr u24,kp_Sun⟩,PySem.W.mg_of X G n_Sun⟩⟩
 have C_Sun___init___d2:CalID l.prog w K mg base CX0 7 "Sun" c_Sun ["self","start","lengths","leap","terms"] [(.int 1),.non] (spInitS K c_Sun c_Measure):=⟨⟨f24,_,_,ok_Sun___init__ F24 er C_refuse_months C_Measure___init__ C_least_length y_tuple y_sum,b24_2,(.cons (by first | exact rfl | exact rel_int _ _ | trivial) (.cons (by first | exact rfl | exact rel_int _ _ | trivial) .nil)),⟨mk_Sun,a24,beq_iff_eq.mpr u24,kp_Sun⟩,PySem.W.mg_of X G n_Sun⟩⟩
 have C_Sun_year_start:CalM l.prog w K mg base CX0 3 c_Sun "year_start" ["self","year"] (spYS K c_Sun c_Measure):=calM_of q25 (by walk_at "b2") fun F=>ok_Sun_year_start F er C_Measure_upto
 have C_Sun_year_at:CalM l.prog w K mg base CX0 4 c_Sun "year_at" ["self","day"] (spYA K c_Sun c_Measure):=calM_of q26 (by walk_at "b2") fun F=>ok_Sun_year_at F er C_Measure_seek
 have C_Sun_lengths:CalM l.prog w K mg base CX0 3 c_Sun "lengths" ["self","year"] (spLens K c_Sun c_Measure):=calM_of q27 (by walk_at "b2") fun F=>ok_Sun_lengths F er C_Measure_at y_list
 have C_Sun_date_of:CalM l.prog w K mg base CX0 5 c_Sun "date_of" ["self","day"] (spDate K c_Sun c_Sun c_Measure true):=calM_of q28 (by walk_at "b2") fun F=>ok_Sun_date_of F er C_Sun_year_at C_Sun_year_start C_Sun_lengths
 have C_place_text:Cal l.prog w K mg base 1 "place_text" ["number"] spPlText:=cal_of X G q29 (by walk_at "b1") fun F=>ok_place_text F y_str
 have C_date_text:Cal l.prog w K mg base 2 "date_text" ["date"] (spDateT K):=cal_of X G q30 (by walk_at "b1") fun F=>ok_date_text F C_place_text
 have C_is_name:Cal l.prog w K mg base 1 "is_name" ["text"] spIsNm:=cal_of X G q31 (by walk_at "b1") fun F=>ok_is_name F y_len y_all y_MOST_LETTERS y_LETTERS
 have C_is_number:Cal l.prog w K mg base 1 "is_number" ["text"] spIsNum:=cal_of X G q32 (by walk_at "b1") fun F=>ok_is_number F y_len y_all y_MOST_FIGURES y_FIGURES
 have C_read_number:CalE l.prog w K mg base 2 "read_number" ["text"] (spReadN c_NoText):=calE_of X G q33 (by walk_at "b1") fun F=>ok_read_number F er C_is_number y_isinstance y_str y_int
 have C_read_place:CalE l.prog w K mg base 3 "read_place" ["text"] (spReadPl c_NoText):=calE_of X G q34 (by walk_at "b1") fun F=>ok_read_place F er C_read_number y_len
 have C_read_date:CalE l.prog w K mg base 4 "read_date" ["text"] (spReadD c_NoText):=calE_of X G q35 (by walk_at "b1") fun F=>ok_read_date F er C_read_number C_read_place y_isinstance y_str y_len
 have C_read_names:CalE l.prog w K mg base 2 "read_names" ["word"] (spReadNmsE c_NoText):=calE_of X G q36 (by walk_at "b1") fun F=>ok_read_names F er C_is_name y_all
 have C_read_row:CalE l.prog w K mg base 5 "read_row" ["row"] (spReadRowE c_NoText):=calE_of X G q37 (by walk_at "b1") fun F=>ok_read_row F er C_read_names C_read_number C_read_date y_isinstance y_str y_len
 have C_read_almanac:CalE l.prog w K mg base 6 "read_almanac" ["rows"] (spReadAlmE K c_NoText):=calE_of X G q38 (by walk_at "b1") fun F=>ok_read_almanac F C_read_row
 have C_widest:Cal l.prog w K mg base 1 "widest" ["words"] (spWidest K):=cal_of X G q39 (by walk_at "b1") fun F=>ok_widest F y_max y_len
 have C_names_on:Cal l.prog w K mg base 3 "names_on" ["rules","day"] (spNamesOn K c_Rule [c_Each]):=cal_of X G q40 (by walk_at "b2") fun F=>ok_names_on F er C_Each_on
 have C_almanac:CalE l.prog w K mg base 6 "almanac" ["calendar","rules","day","many"] (spAlm K c_NoNumber c_Sun c_Measure c_Rule [c_Each]):=calE_of X G q41 (by walk_at "b4") fun F=>ok_almanac F er C_date_text C_Sun_date_of C_names_on C_widest y_list y_range y_str y_MOST_ROWS
 have C_law_cell_at:Cal l.prog w K mg base 1 "_law_cell_at" ["_law_script","_law_k"] (spCell K):=cal_of X G q42 (by walk_at "b2") fun F=>ok_law_cell_at F y_len
 have C_law_whole:Cal l.prog w K mg base 1 "_law_whole" ["_law_found"] spWhole:=cal_of X G q43 (by walk_at "b1") fun F=>ok_law_whole F y_isinstance y_int y_bool
 have C_law_number:Cal l.prog w K mg base 1 "_law_number" ["_law_cell"] spNumB:=cal_of X G q44 (by walk_at "b1") fun F=>ok_law_number F
 have C_law_mixed:Cal l.prog w K mg base 1 "_law_mixed" ["_law_cell","_law_k"] spMixed82:=cal_of X G q45 (by walk_at "b2") fun F=>ok_law_mixed F
 have C_law_name:Cal l.prog w K mg base 2 "_law_name" ["_law_cell"] spName82:=cal_of X G q46 (by walk_at "b1") fun F=>ok_law_name F C_law_mixed y_range
 have C_law_row:Cal l.prog w K mg base 3 "_law_row" ["_law_cell"] spRow82:=cal_of X G q47 (by walk_at "b1") fun F=>ok_law_row F C_law_number C_law_mixed C_law_name y_str y_range
 have C_law_free:Cal l.prog w K mg base 1 "_law_free" ["_law_cell","_law_signs"] spFreeT:=cal_of X G q48 (by walk_at "b2") fun F=>ok_law_free F y_range y_len
 have C_law_changed:Cal l.prog w K mg base 2 "_law_changed" ["_law_row_here","_law_cell"] spChanged82:=cal_of X G q49 (by walk_at "b2") fun F=>ok_law_changed F C_law_free y_len
 have C_law_value:Cal l.prog w K mg base 1 "_law_value" ["_law_text"] spVal73:=cal_of X G q50 (by walk_at "b1") fun F=>ok_law_value F y_len y_all y_int
 have C_law_part:Cal l.prog w K mg base 1 "_law_part" ["_law_text"] spPart82:=cal_of X G q51 (by walk_at "b1") fun F=>ok_law_part F y_len y_all y_int
 have C_law_names:Cal l.prog w K mg base 1 "_law_names" ["_law_words"] spNames82:=cal_of X G q52 (by walk_at "b1") fun F=>ok_law_names F y_len y_all
 have C_law_due:Cal l.prog w K mg base 2 "_law_due" ["_law_row_here"] spDue82:=cal_of X G q53 (by walk_at "b1") fun F=>ok_law_due F C_law_value C_law_part C_law_names y_isinstance y_str y_len
 have C_law_read:Cal l.prog w K mg base 7 "_law_read" ["_law_rows"] spRead82:=cal_of X G q54 (by walk_at "b1") fun F=>ok_law_read F er C_read_almanac y_isinstance
 have C_law_kinds:Cal l.prog w K mg base 2 "_law_kinds" ["_law_found"] (spKinds82 K):=cal_of X G q55 (by walk_at "b1") fun F=>ok_law_kinds F C_law_whole y_isinstance y_list y_tuple y_len y_all y_str
 have C_law_refused:Cal l.prog w K mg base 9 "_law_refused" ["_law_many"] spRefused82:=cal_of X G q56 (by walk_at "b1") fun F=>ok_law_refused F er C_almanac C_Sun___init___d2 y_isinstance
 have C_law_again:Cal l.prog w K mg base 9 "_law_again" ["_law_cell"] spAgain82:=cal_of X G q57 (by walk_at "b1") fun F=>ok_law_again F er C_Sun___init___d2 C_law_number C_read_almanac C_almanac C_Each___init__ C_Sun_date_of C_law_kinds y_range
 exact ok_law F58 C_law_row C_law_changed C_law_read C_law_due C_law_kinds C_law_cell_at C_law_refused C_law_again y_range y_len y_list y_int
end Fw
def PySem.W.Fast.tw13825025860597142027:Unit:=()
def PySem.W.Fast.tw5379331736524159550:Unit:=()
def PySem.W.Fast.tw14108165478355263541:Unit:=()
def PySem.W.Fast.tw11057022000547379452:Unit:=()
def PySem.W.Fast.tw14237415537676530568:Unit:=()
def PySem.W.Fast.tw16852802892222960079:Unit:=()
def PySem.W.Fast.tw16202531434941840792:Unit:=()
def PySem.W.Fast.tw9663726442125150152:Unit:=()
def PySem.W.Fast.tw17735986560713838274:Unit:=()
def PySem.W.Fast.tw16624697659755271503:Unit:=()
def PySem.W.Fast.tw1382858497226067082:Unit:=()
def PySem.W.Fast.tw14633912221882818196:Unit:=()
def PySem.W.Fast.tw2774017876986067749:Unit:=()
def PySem.W.Fast.tw13923188846005325796:Unit:=()
def PySem.W.Fast.tw16627415574847146073:Unit:=()
def PySem.W.Fast.tw10869841119055205654:Unit:=()
def PySem.W.Fast.tw7456809307704989460:Unit:=()
def PySem.W.Fast.tw10800921845170229715:Unit:=()
def PySem.W.Fast.tw14350255213327467648:Unit:=()
def PySem.W.Fast.tw15801631784881099318:Unit:=()
def PySem.W.Fast.tw6135906302263396652:Unit:=()
def PySem.W.Fast.tw2454393796563985915:Unit:=()
def PySem.W.Fast.tw1203497346987037747:Unit:=()
def PySem.W.Fast.tw6256691771934345636:Unit:=()
def PySem.W.Fast.tw16996802580164238641:Unit:=()
def PySem.W.Fast.tw2276138201758906472:Unit:=()
def PySem.W.Fast.tw15782808110612051161:Unit:=()
def PySem.W.Fast.tw11566290432669503191:Unit:=()
def PySem.W.Fast.tw16023819789592495182:Unit:=()
def PySem.W.Fast.tw10329463588257823231:Unit:=()
def PySem.W.Fast.tw12003317359213546552:Unit:=()
def PySem.W.Fast.tw16215924123128638103:Unit:=()
def PySem.W.Fast.tw819728698513088423:Unit:=()
def PySem.W.Fast.tw10414863990488298472:Unit:=()
def PySem.W.Fast.tw307533611023556068:Unit:=()
def PySem.W.Fast.tw2547789832120548521:Unit:=()
def PySem.W.Fast.tw14522422619493850413:Unit:=()
def PySem.W.Fast.tw17080704789839318367:Unit:=()
def PySem.W.Fast.tw11767047179913658001:Unit:=()
def PySem.W.Fast.tw12427889378763828534:Unit:=()
def PySem.W.Fast.tw18035844987271287519:Unit:=()
def PySem.W.Fast.tw9376704016386803145:PySem.Program:=PySem.Challenge.pw_feastwheel_k82_almanacs_read
theorem PySem.W.Fast.te9376704016386803145:PySem.Challenge.pw_feastwheel_k82_almanacs_read=PySem.W.Fast.tw9376704016386803145:=rfl
open PySem PySem.W PyProof.Rows
local macro_rules | `(tactic| walk_at "qg")=> `(tactic| (refine' L2.fnG_mk ?_ ?_ ?_ ?_<;>first | k_is | skip))
local macro_rules | `(tactic| walk_at "qm")=> `(tactic| (refine' L2.fnM_mk ?_ ?_ ?_ ?_ ?_<;>first | k_is | skip))
set_option maxRecDepth 100000 in
set_option maxHeartbeats 0 in
theorem PySem.Challenge.cw_feastwheel_k82_almanacs_read_holds : PySem.Challenge.rw_feastwheel_k82_almanacs_read.Holds := by
 w_on;o_law;k_head;(case hw=>w_witness2)
 k_fill
 refine L2.walk_ofB (l:=PySem.Challenge.rw_feastwheel_k82_almanacs_read) (k:=10) rfl rfl ⟨rfl,by decide,by decide,rfl⟩ (fun w h Y=>PySem.W.kIn_of Y) ?F
 case F=>
  intro w mg fa h KX G hmg
  refine' Fw.all_mk KX G hmg ?n_FeastError ?n_NoNumber ?t_NoNumber ?k_NoNumber ?b_NoNumber ?n_TooLong ?n_NoMeasure ?n_NoText ?t_NoText ?k_NoText ?b_NoText ?e_NoText ?ga_NoText ?gk_NoText ?ob_NoText ?ca_NoText ?i_NoText_FeastError ?i_NoText_NoNumber ?r_NoText_NoText ?e_NoNumber ?ga_NoNumber ?gk_NoNumber ?ob_NoNumber ?ca_NoNumber ?i_NoNumber_FeastError ?r_NoNumber_NoNumber ?i_NoNumber_NoText ?n_Rule ?n_Each ?pg_Each ?k_Each ?po_Each ?sa_Each ?mk_Each ?kp_Each ?na_Each_kept ?na_Each_made_of ?na_Each_words ?ca_Each ?ob_Each ?i_Each_Rule ?n_Measure ?pg_Measure ?k_Measure ?po_Measure ?sa_Measure ?mk_Measure ?kp_Measure ?na_Measure_base ?na_Measure_terms ?na_Measure_full_count ?na_Measure_full_sum ?n_Sun ?pg_Sun ?k_Sun ?po_Sun ?sa_Sun ?mk_Sun ?kp_Sun ?na_Sun_start ?na_Sun_months ?na_Sun_leap ?na_Sun_years ?n_Calendar ?bsp_Rule ?brd_Rule ?xsp ?xtk ?q0 ?q1 ?q2 ?q3 ?q4 ?a5 ?l5 ?c5 ?k5 ?t5 ?bfc5 ?q6 ?q7 ?q8 ?q9 ?q10 ?q11 ?q12 ?q13 ?q14 ?q15 ?q16 ?q17 ?q18 ?q19 ?a20 ?l20 ?c20 ?k20 ?t20 ?u20 ?q21 ?q22 ?q23 ?a24 ?l24 ?c24 ?k24 ?t24 ?u24 ?q25 ?q26 ?q27 ?q28 ?q29 ?q30 ?q31 ?q32 ?q33 ?q34 ?q35 ?q36 ?q37 ?q38 ?q39 ?q40 ?q41 ?q42 ?q43 ?q44 ?q45 ?q46 ?q47 ?q48 ?q49 ?q50 ?q51 ?q52 ?q53 ?q54 ?q55 ?q56 ?q57 ?a58 ?l58 ?c58 ?k58 ?z_range ?z_len ?z_sum ?z_all ?z_tuple ?z_min ?z_max ?z_list ?z_str ?z_isinstance ?z_int ?z_bool ?m_LONGEST ?m_PIECE ?m_GREATEST_N ?m_GREATEST_BASE ?m_MOST_TERMS ?m_MOST_MONTHS ?m_LONGEST_MONTH ?m_MOST_LETTERS ?m_LETTERS ?m_MOST_FIGURES ?m_FIGURES ?m_MOST_ROWS
  (case n_FeastError=>k_is)
  (case n_NoNumber=>k_is)
  (case t_NoNumber=>k_is)
  (case k_NoNumber=>k_is)
  (case b_NoNumber=>k_is)
  (case n_TooLong=>k_is)
  (case n_NoMeasure=>k_is)
  (case n_NoText=>k_is)
  (case t_NoText=>k_is)
  (case k_NoText=>k_is)
  (case b_NoText=>k_is)
  (case e_NoText=>k_exc)
  (case ga_NoText=>k_is)
  (case gk_NoText=>k_is)
  (case ob_NoText=>k_is)
  (case ca_NoText=>k_is)
  (case i_NoText_FeastError=>kit_is)
  (case i_NoText_NoNumber=>kit_is)
  (case r_NoText_NoText=>k_is)
  (case e_NoNumber=>k_exc)
  (case ga_NoNumber=>k_is)
  (case gk_NoNumber=>k_is)
  (case ob_NoNumber=>k_is)
  (case ca_NoNumber=>k_is)
  (case i_NoNumber_FeastError=>kit_is)
  (case r_NoNumber_NoNumber=>k_is)
  (case i_NoNumber_NoText=>kit_is)
  (case n_Rule=>k_is)
  (case n_Each=>k_is)
  (case pg_Each=>k_is)
  (case k_Each=>k_is)
  (case po_Each=>k_is)
  (case sa_Each=>k_is)
  (case mk_Each=>k_is)
  (case kp_Each=>k_is)
  (case na_Each_kept=>k_is)
  (case na_Each_made_of=>k_is)
  (case na_Each_words=>k_is)
  (case ca_Each=>k_is)
  (case ob_Each=>k_is)
  (case i_Each_Rule=>kit_is)
  (case n_Measure=>k_is)
  (case pg_Measure=>k_is)
  (case k_Measure=>k_is)
  (case po_Measure=>k_is)
  (case sa_Measure=>k_is)
  (case mk_Measure=>k_is)
  (case kp_Measure=>k_is)
  (case na_Measure_base=>k_is)
  (case na_Measure_terms=>k_is)
  (case na_Measure_full_count=>k_is)
  (case na_Measure_full_sum=>k_is)
  (case n_Sun=>k_is)
  (case pg_Sun=>k_is)
  (case k_Sun=>k_is)
  (case po_Sun=>k_is)
  (case sa_Sun=>k_is)
  (case mk_Sun=>k_is)
  (case kp_Sun=>k_is)
  (case na_Sun_start=>k_is)
  (case na_Sun_months=>k_is)
  (case na_Sun_leap=>k_is)
  (case na_Sun_years=>k_is)
  (case n_Calendar=>k_is)
  (case bsp_Rule=>k_is)
  (case brd_Rule=>k_is)
  (case xsp=>k_is)
  (case xtk=>k_is)
  (case q0=>walk_at "qg")
  (case q1=>walk_at "qg")
  (case q2=>walk_at "qg")
  (case q3=>walk_at "qg")
  (case q4=>walk_at "qg")
  (case a5=>k_is)
  (case l5=>k_is)
  (case c5=>k_is)
  (case k5=>k_is)
  (case t5=>k_is)
  (case bfc5=>k_is)
  (case q6=>walk_at "qm")
  (case q7=>walk_at "qm")
  (case q8=>walk_at "qg")
  (case q9=>walk_at "qm")
  (case q10=>walk_at "qg")
  (case q11=>walk_at "qg")
  (case q12=>walk_at "qg")
  (case q13=>walk_at "qg")
  (case q14=>walk_at "qg")
  (case q15=>walk_at "qg")
  (case q16=>walk_at "qg")
  (case q17=>walk_at "qg")
  (case q18=>walk_at "qg")
  (case q19=>walk_at "qm")
  (case a20=>k_is)
  (case l20=>k_is)
  (case c20=>k_is)
  (case k20=>k_is)
  (case t20=>k_is)
  (case u20=>k_is)
  (case q21=>walk_at "qm")
  (case q22=>walk_at "qm")
  (case q23=>walk_at "qg")
  (case a24=>k_is)
  (case l24=>k_is)
  (case c24=>k_is)
  (case k24=>k_is)
  (case t24=>k_is)
  (case u24=>k_is)
  (case q25=>walk_at "qm")
  (case q26=>walk_at "qm")
  (case q27=>walk_at "qm")
  (case q28=>walk_at "qm")
  (case q29=>walk_at "qg")
  (case q30=>walk_at "qg")
  (case q31=>walk_at "qg")
  (case q32=>walk_at "qg")
  (case q33=>walk_at "qg")
  (case q34=>walk_at "qg")
  (case q35=>walk_at "qg")
  (case q36=>walk_at "qg")
  (case q37=>walk_at "qg")
  (case q38=>walk_at "qg")
  (case q39=>walk_at "qg")
  (case q40=>walk_at "qg")
  (case q41=>walk_at "qg")
  (case q42=>walk_at "qg")
  (case q43=>walk_at "qg")
  (case q44=>walk_at "qg")
  (case q45=>walk_at "qg")
  (case q46=>walk_at "qg")
  (case q47=>walk_at "qg")
  (case q48=>walk_at "qg")
  (case q49=>walk_at "qg")
  (case q50=>walk_at "qg")
  (case q51=>walk_at "qg")
  (case q52=>walk_at "qg")
  (case q53=>walk_at "qg")
  (case q54=>walk_at "qg")
  (case q55=>walk_at "qg")
  (case q56=>walk_at "qg")
  (case q57=>walk_at "qg")
  (case a58=>k_is)
  (case l58=>k_is)
  (case c58=>k_is)
  (case k58=>k_is)
  (case z_range=>k_is)
  (case z_len=>k_is)
  (case z_sum=>k_is)
  (case z_all=>k_is)
  (case z_tuple=>k_is)
  (case z_min=>k_is)
  (case z_max=>k_is)
  (case z_list=>k_is)
  (case z_str=>k_is)
  (case z_isinstance=>k_is)
  (case z_int=>k_is)
  (case z_bool=>k_is)
  (case m_LONGEST=>k_is)
  (case m_PIECE=>k_is)
  (case m_GREATEST_N=>k_is)
  (case m_GREATEST_BASE=>k_is)
  (case m_MOST_TERMS=>k_is)
  (case m_MOST_MONTHS=>k_is)
  (case m_LONGEST_MONTH=>k_is)
  (case m_MOST_LETTERS=>k_is)
  (case m_LETTERS=>k_is)
  (case m_MOST_FIGURES=>k_is)
  (case m_FIGURES=>k_is)
  (case m_MOST_ROWS=>k_is)
#print axioms PySem.Challenge.cw_feastwheel_k82_almanacs_read_holds
