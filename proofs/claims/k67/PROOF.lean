import PyProof.Rows.All
import Wide.All
import OpenK.AllK
import Wide.FinOn
import Lean
import PyProof.EqAt
import PyProof.EqKinds
import PyProof.TupleCall
import PySem.Challenge.RW_feastwheel_k67_put_shorter
set_option Elab.async false
set_option linter.all false
set_option maxRecDepth 100000
namespace L2
open PySem PySem.Spec PyProof.Rows
abbrev Key:=Sum Int Str
def keyIs:Key→Value→Bool
 | .inl k,v=>Value.isInt k v
 | .inr x,v=>Value.isStrOf x v
def keyH(w:World):Key→Int
 | .inl k=>hashInt k
 | .inr x=>hashStr w x
theorem keyIs_shape:∀{k:Key} {v:Value},keyIs k v=true→(∃i t,k=Sum.inl i∧v=Value.int i t)∨(∃x t,k=Sum.inr x∧v=Value.str x t)
 | .inl i,v,h=>by
  obtain⟨t,e⟩:=Value.isInt_shape (k:=i) (v:=v) h
  exact .inl ⟨i,t,rfl,e⟩
 | .inr x,v,h=>by
  obtain⟨t,e⟩:=Value.isStrOf_shape (x:=x) (v:=v) h
  exact .inr ⟨x,t,rfl,e⟩
theorem key_ll(a b:Int):decide ((Sum.inl a:Key)=Sum.inl b)=(a==b):=by
 by_cases e:a=b
 ·subst e;simp
 ·have h:¬(Sum.inl a:Key)=Sum.inl b:=fun q=>e (Sum.inl.inj q)
  rw[decide_eq_false h]
  exact(beq_eq_false_iff_ne.mpr e).symm
theorem key_rr(a b:Str):decide ((Sum.inr a:Key)=Sum.inr b)=decide (a=b):=by
 by_cases e:a=b
 ·subst e;simp
 ·have h:¬(Sum.inr a:Key)=Sum.inr b:=fun q=>e (Sum.inr.inj q)
  rw[decide_eq_false h,decide_eq_false e]
theorem key_lr(a:Int)(b:Str):decide ((Sum.inl a:Key)=Sum.inr b)=false:=decide_eq_false (fun q=>nomatch q)
theorem key_rl(a:Str)(b:Int):decide ((Sum.inr a:Key)=Sum.inl b)=false:=decide_eq_false (fun q=>nomatch q)
def mixKind(prog:Program)(w:World):PySem.KeyKind prog w Key where
 is:=keyIs
 hash:=keyH w
 inj:=fun v a b ha hb=>by
  rcases keyIs_shape ha with ⟨i,t,rfl,rfl⟩ | ⟨x,t,rfl,rfl⟩
  ·rcases keyIs_shape hb with ⟨j,u,rfl,e⟩ | ⟨y,u,rfl,e⟩
   ·injection e with e1 _;rw[e1]
   ·exact nomatch e
  ·rcases keyIs_shape hb with ⟨j,u,rfl,e⟩ | ⟨y,u,rfl,e⟩
   ·exact nomatch e
   ·injection e with e1 _;rw[e1]
 byValue:=fun k v h=>by
  rcases keyIs_shape h with ⟨i,t,rfl,rfl⟩ | ⟨x,t,rfl,rfl⟩<;>rfl
 pyHash:=fun hv h=>by
  rcases keyIs_shape hv with ⟨i,t,rfl,rfl⟩ | ⟨x,t,rfl,rfl⟩
  ·exact wpAny_pyHash_int h
  ·exact wpAny_pyHash_str h
 eqBool:=fun hu hv h=>by
  rcases keyIs_shape hu with ⟨i,t,rfl,rfl⟩ | ⟨x,t,rfl,rfl⟩
  ·rcases keyIs_shape hv with ⟨j,u,rfl,rfl⟩ | ⟨y,u,rfl,rfl⟩
   ·rw[key_ll] at h;exact wpAny_eqBool_int h
   ·rw[key_lr] at h;exact SeqAt.EqAt.int_str i t y u _ _ _ _ h
  ·rcases keyIs_shape hv with ⟨j,u,rfl,rfl⟩ | ⟨y,u,rfl,rfl⟩
   ·rw[key_rl] at h;exact SeqAt.EqAt.str_int x t j u _ _ _ _ h
   ·rw[key_rr] at h;exact wpAny_eqBool_str h
 «strs»:=fun k x t v h=>by
  rcases keyIs_shape h with ⟨i,u,rfl,e⟩ | ⟨y,u,rfl,e⟩
  ·exact nomatch e
  ·injection e with e1 _
   subst e1
   cases v<;>rfl
end L2
namespace L2
open PySem PySem.Spec PyProof.Rows
inductive V where
 | non | bl (b:Bool) | int (i:Int) | str (x:Str) | byt (b:Array UInt8) | flt (b:UInt64) | ref (a:Addr) | ty (n:String)
 deriving DecidableEq
def RelV:V→Value→Prop
 | .non,u=>u=Value.none
 | .bl b,u=>u=Value.bool b
 | .int i,u=>∃t,u=Value.int i t
 | .str x,u=>∃t,u=Value.str x t
 | .byt b,u=>∃t,u=Value.bytes b t
 | .flt b,u=>∃t,u=Value.float b t
 | .ref a,u=>u=Value.ref a
 | .ty n,u=>u=Value.type n
abbrev Vals:List V→List Value→Prop:=Paired RelV
theorem Vals.length{xs:List V}{us:List Value}(r:Vals xs us):xs.length=us.length:=Paired.length r
theorem Vals.get:∀{xs:List V} {us:List Value} {i:Nat} {x:V},Vals xs us→xs[i]?=some x→∃u,us[i]?=some u∧RelV x u
 | _,_,_,_,.nil,e=>by simp at e
 | _,_,0,_,.cons r _,e=>by simp at e;subst e;exact⟨_,rfl,r⟩
 | _,_,i+1,x,.cons _ t,e=>by
  obtain⟨u,h1,h2⟩:=Vals.get (i:=i) (x:=x) t (by simpa using e)
  exact⟨u,by simpa using h1,h2⟩
theorem Vals.set{x:V}{u:Value}(r:RelV x u):∀{xs:List V} {us:List Value} (i:Nat),Vals xs us→Vals (xs.set i x) (us.set i u)
 | _,_,_,.nil=>.nil
 | _,_,0,.cons _ t=>.cons r t
 | _,_,i+1,.cons q t=>.cons q (Vals.set r i t)
theorem Vals.append:∀{xs ys:List V} {us ws:List Value},Vals xs us→Vals ys ws→Vals (xs++ys) (us++ws)
 | _,_,_,_,.nil,s=>s
 | _,_,_,_,.cons r t,s=>.cons r (Vals.append t s)
theorem Vals.take:∀{xs:List V} {us:List Value} (n:Nat),Vals xs us→Vals (xs.take n) (us.take n)
 | _,_,0,_=>.nil
 | _,_,_+1,.nil=>.nil
 | _,_,n+1,.cons r t=>.cons r (Vals.take n t)
theorem Vals.drop:∀{xs:List V} {us:List Value} (n:Nat),Vals xs us→Vals (xs.drop n) (us.drop n)
 | _,_,0,r=>r
 | _,_,_+1,.nil=>.nil
 | _,_,n+1,.cons _ t=>Vals.drop n t
def RelO:Option V→Option Value→Prop
 | some v,some u=>RelV v u
 | none,none=>True
 | _,_=>False
def KV{κ:Type}:List (κ×V)→List (κ×Value)→Prop:=Paired fun(p:κ×V) (q:κ×Value)=>p.1=q.1∧RelV p.2 q.2
def kV:Key→V
 | .inl i=>.int i
 | .inr x=>.str x
inductive HO where
 | lst (xs:List V)
 | tup (xs:List V)
 | dK (kvs:List (Key×V)) | dT (kvs:List (List Key×V))
 | set (S:Int→Bool) (n:Nat)
 | ins (C dx:Addr) (fs:List (Str×V))
 | own (x:Addr)
 | xd (fs:List (Str×V))
 | met (f x:Addr)
 | rng (lo hi:Int)
 | frz (o:Obj) (u:HO)
 | tbl (ps:Array Value)
 | ext (φ:Heap→Prop)
abbrev Hp:=Addr→Option HO
def upd(H:Hp)(a:Addr)(o:HO):Hp:=fun b=>if b=a then some o else H b
theorem upd_same{H:Hp}{a:Addr}{o:HO}:upd H a o a=some o:=by unfold upd;rw[if_pos rfl]
theorem upd_ne{H:Hp}{a b:Addr}{o:HO}(h:b≠a):upd H a o b=H b:=by unfold upd;rw[if_neg h]
theorem upd_upd{H:Hp}{a:Addr}{o u:HO}:upd (upd H a o) a u=upd H a u:=by
 funext b;unfold upd;split<;>rfl
theorem ne_of{H:Hp}{a b:Addr}{o u:HO}(h:H a=some o)(h':H b=some u)(d:o≠u):a≠b:=by
 intro e;subst e;rw[h] at h';exact d (Option.some.inj h')
theorem ne_of_none{H:Hp}{a b:Addr}{o:HO}(h:H a=some o)(h':H b=none):a≠b:=by
 intro e;subst e;rw[h] at h';cases h'
section
variable(P:Program)(w:World)
def ObjOk(H:Hp)(h:Heap)(a:Addr):HO→Prop
 | .lst xs=>xs.length≤sizeLine∧∃(its:List Value) (n:Nat),Vals xs its∧h.get? a=some { cls:=.type "list",data:=.seq its.toArray n }
 | .tup xs=>xs.length≤sizeLine∧∃its:List Value,Vals xs its∧IsTup h a its.toArray
 | .dK kvs=>kvs.length≤sizeLine∧(a==sysModules)=false∧∃vs,KV kvs vs∧h.DictOf (mixKind P w) a vs
 | .dT kvs=>kvs.length≤sizeLine∧(a==sysModules)=false∧∃xs:List (List Key×Addr×Value),
  Paired (fun (p:List Key×V) (q:List Key×Addr×Value)=>p.1=q.1∧H q.2.1=some (.tup (p.1.map kV))∧RelV p.2 q.2.2) kvs xs∧
  ∃o es ep,h.get? a=some o∧o.ExactDict∧o.data=.dict es ep∧es.toList=xs.map (entryOfKey (tupleKind (mixKind P w)))∧(xs.map (·.1)).Nodup
 | .set S n=>h.SetOf (intKind P w) a S n
 | .ins C dx fs=>H dx=some (.own a)∧fs.length≤1000∧dx≠a∧h.get? a=some (PySem.W.instObj C dx)∧
  ∃mA,h.Ns1 dx mA∧(∀f,RelO (fs.lookup f) (mA f))∧PySem.Within mA (fs.map (·.1))
 | .own _=>∃o,h.get? a=some o
 | .xd fs=>∃mA,h.Ns1 a mA∧∀f,RelO (fs.lookup f) (mA f)
 | .rng lo hi=>∃t u v,h.get? a=some { cls:=.type "range",data:=.fields #[.int lo t,.int hi u,.int 1 v] }
 | .frz o u=>h.get? a=some o∧ObjOk H h a u
 | .tbl ps=>h.get? a=some { cls:=.none,data:=.fields ps }
 | .met f x=>h.get? a=some (PySem.W.methodObj (.ref f) (.ref x))
 | .ext φ=>φ h∧(∃o,h.get? a=some o)∧∀h1 h2:Heap,φ h1→(∀o,h1.get? a=some o→h2.get? a=some o)→φ h2
def HOk(H:Hp)(h:Heap):Prop:=∀a o,H a=some o→ObjOk P w H h a o
end
section
variable{P:Program}{w:World}{H H':Hp}{h h':Heap}{a:Addr}{o:HO}
theorem ObjOk.lt(x:ObjOk P w H h a o):a<h.objs.size:=by
 cases o with
 | lst xs=>obtain⟨_,_,_,_,e⟩:=x;exact Heap.lt_size e
 | tup xs=>obtain⟨_,_,_,p⟩:=x;exact p.lt
 | dK kvs=>obtain⟨_,_,_,_,o,_,_,e,_⟩:=x;exact Heap.lt_size e
 | dT kvs=>obtain⟨_,_,_,_,o,_,_,e,_⟩:=x;exact Heap.lt_size e
 | set S n=>obtain⟨o,_,_,_,e,_⟩:=x;exact Heap.lt_size e
 | ins C dx fs=>obtain⟨_,_,_,e,_⟩:=x;exact Heap.lt_size e
 | own y=>obtain⟨_,e⟩:=x;exact Heap.lt_size e
 | xd fs=>obtain⟨_,⟨_,_,_,e,_⟩,_⟩:=x;exact Heap.lt_size e
 | rng lo hi=>obtain⟨_,_,_,e⟩:=x;exact Heap.lt_size e
 | frz ob u=>obtain⟨e,_⟩:=x;exact Heap.lt_size e
 | tbl ps=>exact Heap.lt_size (show h.get? a=some _ from x)
 | met f y=>exact Heap.lt_size (show h.get? a=some _ from x)
 | ext φ=>obtain⟨_,⟨_,e⟩,_⟩:=x;exact Heap.lt_size e
theorem Paired.mapP{α β:Type}{F G:α→β→Prop}:∀{l₁:List α} {l₂:List β},Paired F l₁ l₂→(∀a b,F a b→G a b)→Paired G l₁ l₂
 | _,_,.nil,_=>.nil
 | _,_,.cons r t,f=>.cons (f _ _ r) (Paired.mapP t f)
theorem ObjOk.stay(x:ObjOk P w H h a o)(k:∀b u,(b=a∨H b=some (.own a))→h.get? b=some u→h'.get? b=some u)
 (ho:∀b,H b=some (.own a)→H' b=some (.own a))(ht:∀b xs,H b=some (.tup xs)→H' b=some (.tup xs)):ObjOk P w H' h' a o:=by
 induction o with
 | lst xs=>obtain⟨z,its,n,r,e⟩:=x;exact⟨z,its,n,r,k _ _ (.inl rfl) e⟩
 | tup xs=>obtain⟨z,its,r,ob,e,c⟩:=x;exact⟨z,its,r,ob,k _ _ (.inl rfl) e,c⟩
 | dK kvs=>obtain⟨z,y,vs,r,ob,es,ep,e,c⟩:=x;exact⟨z,y,vs,r,ob,es,ep,k _ _ (.inl rfl) e,c⟩
 | dT kvs=>
  obtain⟨z,y,xs,r,ob,es,ep,e,c⟩:=x
  exact⟨z,y,xs,Paired.mapP r fun p q z=>⟨z.1,ht _ _ z.2.1,z.2.2⟩,ob,es,ep,k _ _ (.inl rfl) e,c⟩
 | set S n=>obtain⟨ob,es,ep,t,e,c⟩:=x;exact⟨ob,es,ep,t,k _ _ (.inl rfl) e,c⟩
 | ins C dx fs=>
  obtain⟨d,z,ne,e,mA,⟨od,es,ep,e2,c⟩,r⟩:=x
  exact⟨ho _ d,z,ne,k _ _ (.inl rfl) e,mA,⟨od,es,ep,k _ _ (.inr d) e2,c⟩,r⟩
 | own y=>obtain⟨ob,e⟩:=x;exact⟨ob,k _ _ (.inl rfl) e⟩
 | xd fs=>obtain⟨mA,⟨od,es,ep,e,c⟩,r⟩:=x;exact⟨mA,⟨od,es,ep,k _ _ (.inl rfl) e,c⟩,r⟩
 | rng lo hi=>obtain⟨t,u,v,e⟩:=x;exact⟨t,u,v,k _ _ (.inl rfl) e⟩
 | frz ob u ih=>obtain⟨e,q⟩:=x;exact⟨k _ _ (.inl rfl) e,ih q⟩
 | tbl ps=>
  have e:h.get? a=some { cls:=.none,data:=.fields ps }:=x
  show h'.get? a=some { cls:=.none,data:=.fields ps }
  exact k a _ (.inl rfl) e
 | met f y=>
  have e:h.get? a=some (PySem.W.methodObj (.ref f) (.ref y)):=x
  show h'.get? a=some (PySem.W.methodObj (.ref f) (.ref y))
  exact k a _ (.inl rfl) e
 | ext φ=>obtain⟨p,⟨o,e⟩,st⟩:=x;exact⟨st _ _ p fun o q=>k _ _ (.inl rfl) q,⟨o,k _ _ (.inl rfl) e⟩,st⟩
theorem HOk.lt(x:HOk P w H h)(e:H a=some o):a<h.objs.size:=(x a o e).lt
theorem HOk.fresh(x:HOk P w H h)(e:h.objs.size≤a):H a=none:=by
 cases q:H a with
 | none=>rfl
 | some u=>exact absurd (Nat.lt_of_lt_of_le (x.lt q) e) (Nat.lt_irrefl _)
theorem HOk.kept(x:HOk P w H h)(k:∀b u,h.get? b=some u→h'.get? b=some u):HOk P w H h':=fun a o e=>
 (x a o e).stay (fun b u _ q=>k b u q) (fun _ q=>q) fun _ _ q=>q
theorem HOk.laid(x:HOk P w H h)(k:∀b u,h.get? b=some u→h'.get? b=some u)(hp:h.objs.size≤a)(new:ObjOk P w (upd H a o) h' a o):HOk P w (upd H a o) h':=fun b u e=>by
 have hn:=x.fresh hp
 by_cases hb:b=a
 ·subst hb;rw[upd_same] at e;cases e;exact new
 ·rw[upd_ne hb] at e
  exact(x b u e).stay (fun c v _ q=>k c v q) (fun c q=>by rw[upd_ne (ne_of_none q hn)];exact q) fun c xs q=>by rw[upd_ne (ne_of_none q hn)];exact q
end
def Rd(H:Hp)(a:Addr)(u:HO):Prop:=H a=some u∨∃o,H a=some (.frz o u)
theorem Rd.of{H:Hp}{a:Addr}{u:HO}(h:H a=some u):Rd H a u:=.inl h
theorem Rd.ok{P:Program}{w:World}{H:Hp}{h:Heap}{a:Addr}{u:HO}(r:Rd H a u)(x:HOk P w H h):ObjOk P w H h a u:=by
 rcases r with r | ⟨o,r⟩
 ·exact x a u r
 ·obtain⟨_,q⟩:=x a _ r
  exact q
def Mut:Option HO→Prop
 | some (.lst _)=>True
 | some (.dK _)=>True
 | some (.dT _)=>True
 | some (.set _ _)=>True
 | some (.ins _ _ _)=>True
 | some (.ext _)=>True
 | _=>False
section
variable{P:Program}{w:World}{H:Hp}{h h':Heap}{x e:Addr}{o':HO}
theorem HOk.write(ok:HOk P w H h)(mu:Mut (H x))(he:e=x∨H e=some (.own x))(k:∀b u,b≠e→h.get? b=some u→h'.get? b=some u)(heo:∃u,h'.get? e=some u)
 (new:ObjOk P w (upd H x o') h' x o'):HOk P w (upd H x o') h':=fun b u q=>by
 have nown:∀c y,H c=some (.own y)→c≠x:=fun c y r z=>by subst z;rw[r] at mu;exact mu
 have ntup:∀c xs,H c=some (.tup xs)→c≠x:=fun c xs r z=>by subst z;rw[r] at mu;exact mu
 by_cases hb:b=x
 ·subst hb;rw[upd_same] at q;cases q;exact new
 ·rw[upd_ne hb] at q
  by_cases hbe:b=e
  ·have q':H b=some (.own x):=by
    rcases he with z | z
    ·exact absurd (hbe.trans z) hb
    ·rw[hbe];exact z
   rw[q] at q';cases q'
   obtain⟨v,hv⟩:=heo
   exact⟨v,by rw[hbe];exact hv⟩
  ·refine(ok b u q).stay (fun c v hc r=>k c v ?_ r) (fun c r=>by rw[upd_ne (nown c b r)];exact r) fun c xs r=>by rw[upd_ne (ntup c xs r)];exact r
   rcases hc with rfl | hc
   ·exact hbe
   ·rintro rfl
    rcases he with z | z
    ·exact nown c b hc z
    ·rw[hc] at z;cases z;exact hb rfl
end
structure Un(fs ex:List Addr)(H H':Hp)(h h':Heap):Prop where
 keep:∀b o,h.get? b=some o→H b=none→b∉fs→b∉ex→h'.get? b=some o
 slot:∀b o,h.get? b=some o→H b=none→b∈fs→b∉ex→∃sl,h'.get? b=some { o with slots:=sl }
 free:∀b o,h.get? b=some o→H b=none→b∉ex→H' b=none
 there:∀b o,h.get? b=some o→b∉ex→∃o',h'.get? b=some o'
 tups:∀b xs,H b=some (.tup xs)→H' b=some (.tup xs)
 frzs:∀b o u,H b=some (.frz o u)→H' b=some (.frz o u)
 tbls:∀b ps,H b=some (.tbl ps)→∃more,H' b=some (.tbl (ps++more))
section
variable{fs fs' ex ex':List Addr}{H H1 H2:Hp}{h h1 h2 h':Heap}{a x e:Addr}{o:HO}
theorem Un.any(u:Un fs ex H H1 h h1){b:Addr}{ob:Obj}(q:h.get? b=some ob)(n:H b=none)(hx:b∉ex):∃sl,h1.get? b=some { ob with slots:=sl }:=by
 by_cases hb:b∈fs
 ·exact u.slot b ob q n hb hx
 ·exact⟨ob.slots,u.keep b ob q n hb hx⟩
theorem Un.trans(a:Un fs ex H H1 h h1)(b:Un fs ex H1 H2 h1 h2):Un fs ex H H2 h h2 where
 keep:=fun c ob q n hc hx=>b.keep c ob (a.keep c ob q n hc hx) (a.free c ob q n hx) hc hx
 slot:=fun c ob q n hc hx=>by
  obtain⟨sl,e1⟩:=a.slot c ob q n hc hx
  obtain⟨sl',e2⟩:=b.slot c _ e1 (a.free c ob q n hx) hc hx
  exact⟨sl',e2⟩
 free:=fun c ob q n hx=>by
  obtain⟨o',e1⟩:=a.there c ob q hx
  exact b.free c o' e1 (a.free c ob q n hx) hx
 there:=fun c ob q hx=>by
  obtain⟨o',e1⟩:=a.there c ob q hx
  exact b.there c o' e1 hx
 tups:=fun c xs q=>b.tups c xs (a.tups c xs q)
 frzs:=fun c ob xs q=>b.frzs c ob xs (a.frzs c ob xs q)
 tbls:=fun c ps q=>by
  obtain⟨m1,e1⟩:=a.tbls c ps q
  obtain⟨m2,e2⟩:=b.tbls c _ e1
  exact⟨m1++m2,by rw[e2,Array.append_assoc]⟩
theorem Un.kept(k:∀b u,h.get? b=some u→h'.get? b=some u):Un fs ex H H h h':=
 ⟨fun b ob q _ _ _=>k b ob q,fun b ob q _ _ _=>⟨ob.slots,k b ob q⟩,fun _ _ _ n _=>n,fun b ob q _=>⟨ob,k b ob q⟩,fun _ _ q=>q,fun _ _ _ q=>q,fun _ ps q=>⟨#[],by rw[q];simp⟩⟩
theorem Un.refl:Un fs ex H H h h:=Un.kept fun _ _ q=>q
theorem Un.laid(k:∀b u,h.get? b=some u→h'.get? b=some u)(hp:h.objs.size≤a)(hn:H a=none):Un fs ex H (upd H a o) h h' where
 keep:=fun b u q _ _ _=>k b u q
 slot:=fun b u q _ _ _=>⟨u.slots,k b u q⟩
 free:=fun b u q n _=>by rw[upd_ne (Nat.ne_of_lt (Nat.lt_of_lt_of_le (Heap.lt_size q) hp))];exact n
 there:=fun b u q _=>⟨u,k b u q⟩
 tups:=fun b xs q=>by rw[upd_ne (ne_of_none q hn)];exact q
 frzs:=fun b u xs q=>by rw[upd_ne (ne_of_none q hn)];exact q
 tbls:=fun b ps q=>⟨#[],by rw[upd_ne (ne_of_none q hn),q];simp⟩
theorem Un.write(mu:Mut (H x))(he:e=x∨H e=some (.own x))(k:∀b u,b≠e→h.get? b=some u→h'.get? b=some u)(heo:∃u,h'.get? e=some u):Un fs ex H (upd H x o) h h':=by
 have hx:∀b,H b=none→b≠x:=fun b n z=>by subst z;rw[n] at mu;exact mu
 have hb:∀b,H b=none→b≠e:=fun b n z=>by
  subst z
  rcases he with r | r
  ·exact hx b n r
  ·rw[n] at r;cases r
 have hm:∀b u,H b=some u→¬Mut (some u)→b≠x:=fun b u q nm z=>by subst z;rw[q] at mu;exact nm mu
 refine⟨fun b u q n _ _=>k b u (hb b n) q,fun b u q n _ _=>⟨u.slots,k b u (hb b n) q⟩,fun b u q n _=>by rw[upd_ne (hx b n)];exact n,fun b u q _=>?_,
  fun b xs q=>by rw[upd_ne (hm b _ q fun z=>z)];exact q,fun b u xs q=>by rw[upd_ne (hm b _ q fun z=>z)];exact q,fun b ps q=>⟨#[],by rw[upd_ne (hm b _ q fun z=>z),q];simp⟩⟩
 by_cases hbe:b=e
 ·subst hbe;exact heo
 ·exact⟨u,k b u hbe q⟩
theorem Un.mono(u:Un fs ex H H1 h h1)(hs:∀b∈fs,b∈fs')(hx:∀b∈ex,b∈ex'):Un fs' ex' H H1 h h1:=
 ⟨fun b ob q n hb he=>u.keep b ob q n (fun z=>hb (hs b z)) fun z=>he (hx b z),fun _ _ q n _ he=>u.any q n fun z=>he (hx _ z),fun b ob q n he=>u.free b ob q n fun z=>he (hx b z),fun b ob q he=>u.there b ob q fun z=>he (hx b z),u.tups,u.frzs,u.tbls⟩
end
def trk(h:Heap)(H:Hp):List Addr:=(List.range h.objs.size).filter fun a=>(H a).isSome
def hidT(h:Heap)(H:Hp):Heap:=PySem.W.hideAll h (trk h H)
theorem hidT_size(h:Heap)(H:Hp):(hidT h H).objs.size=h.objs.size:=PySem.W.hideAll_size _ _
theorem hidT_get{h:Heap}{H:Hp}{b:Addr}{o:Obj}(e:h.get? b=some o)(n:H b=none):(hidT h H).get? b=some o:=
 PySem.W.hideAll_get _ e fun hm=>by
  have q:(H b).isSome=true:=(List.mem_filter.mp hm).2
  rw[n] at q;simp at q
theorem of_hidT{h:Heap}{H:Hp}{b:Addr}{o:Obj}(e:(hidT h H).get? b=some o):h.get? b=some o∧H b=none:=by
 have e':h.get? b=some o:=PySem.W.of_hideAll (trk h H) e
 refine⟨e',?_⟩
 cases q:H b with
 | none=>rfl
 | some x=>
  have hm:b∈trk h H:=List.mem_filter.mpr ⟨List.mem_range.mpr (Heap.lt_size e'),by simp[q]⟩
  have z:(hidT h H).get? b=none:=PySem.W.hideAll_none (trk h H) hm
  rw[z] at e;cases e
def allNews(g h:Heap)(L:Addr):List (Addr×Obj):=(List.range h.objs.size).filterMap fun a=>if a=L∨(g.get? a).isSome=true then none else (h.get? a).map fun o=>(a,o)
def rest(g h:Heap)(L d:Addr):List (Addr×Obj):=(allNews g h L).filter fun p=>decide (p.1≠d)
end L2
namespace L2
open PySem PySem.Spec PyProof.Rows
structure Mod(K:PySem.W.Frag)(mg:Str→Option Value)(base:Heap):Prop where
 kin:K.In base
 glob:base.Ns mainGlobals mg
 blt:∃mb,base.Ns builtinsNs mb∧∀x:Str,x≠"__name__"→mb x=bootBuiltins x
 nolimit:base.NoLimit
structure Cx where
 prog:Program
 w:World
 K:PySem.W.Frag
 mg:Str→Option Value
 base:Heap
 A:Around
 N:List Str
 s₀:Shared
 H₀:Hp
 env:Env
 outer:List Env
 stack:List Env
 ex:List Addr
 fn:Str→Bool
 calm:Bool
 pn:List (Addr×Obj)
 xe:Value→Shared→Prop
def frs(l:List Env):List Addr:=l.filterMap (·.frame)
abbrev Cx.fs(X:Cx):List Addr:=frs X.outer
def Vis(sc:Scope)(x:Str):Prop:=sc.names.lookup x=some .local∨sc.names.lookup x=some .cell∨sc.names.lookup x=some .free
def Loc(sc:Scope)(x:Str):Prop:=sc.names.lookup x=some .local∨sc.names.lookup x=some .cell
def Look(env:Env)(h:Heap)(m:Str→Option Value)(x:Str)(u:Value):Prop:=
 (env.kindOf x=some .local∧m x=some u)∨((env.kindOf x=some .cell∨env.kindOf x=some .free)∧∃c,env.cells.lookup x=some c∧h.IsCell c (some u))
structure Cx.Ok(X:Cx):Prop where
 mod:Mod X.K X.mg X.base
 kind:X.env.scope.kind=.function
 glob:X.env.globals=mainGlobals
 blt:X.env.builtins=builtinsNs
 above:X.s₀.heap.objs.size≤X.env.locals
 inj:∀x y c,X.env.cells.lookup x=some c→X.env.cells.lookup y=some c→x=y
 has:∀x,(X.env.kindOf x=some .cell∨X.env.kindOf x=some .free)→∃c,X.env.cells.lookup x=some c
 cab:∀x c,X.fn x=true→X.env.cells.lookup x=some c→X.s₀.heap.objs.size≤c
 hd:X.calm=true→X.A.handled=none
 frames:X.A.frames=some X.stack
 stk:X.stack=X.outer∨(X.stack=X.env::X.outer∧X.env.frame=some X.env.locals)
 exf:∀b∈X.ex,b≠X.env.locals∧∀x c,X.env.cells.lookup x=some c→c≠b
 bs:∀b o,X.base.get? b=some o→X.s₀.heap.get? b=some o∧X.H₀ b=none
 bsz:X.base.objs.size≤X.s₀.heap.objs.size
 noex:∀b o,X.base.get? b=some o→b∉X.ex
 exfs:∀b∈X.ex,b∉X.fs
 funs:X.s₀.heap.FunFrames X.base X.outer
 frf:∀b∈X.fs,X.H₀ b=none
structure Inv(X:Cx)(pins:List (Addr×Obj))(σ:List (Option V))(H:Hp)(s:Shared):Prop where
 ok:X.Ok
 os:s.os=X.s₀.os
 bare:AllBare s.gens
 base:Un X.fs X.ex X.H₀ H X.s₀.heap s.heap
 loc:∃m,s.heap.Ns X.env.locals m∧∀(i:Nat) (x:Str) (v:V),X.N[i]?=some x→σ[i]?=some (some v)→Vis X.env.scope x→∃u,RelV v u∧Look X.env s.heap m x u
 cell:∀x c,X.env.cells.lookup x=some c→∃v,s.heap.IsCell c v
 free:H X.env.locals=none
 freeC:∀x c,X.env.cells.lookup x=some c→H c=none
 pin:∀p∈X.pn++pins,s.heap.get? p.1=some p.2∧H p.1=none∧p.1≠X.env.locals∧p.1∉X.fs∧∀v,p.2.data≠.cell v
 hok:HOk X.prog X.w H s.heap
 len:σ.length=X.N.length
section
variable{X:Cx}{pins:List (Addr×Obj)}{σ:List (Option V)}{H H':Hp}{s:Shared}{h':Heap}
theorem Cx.Ok.nofr(ok:X.Ok){b:Addr}{o:Obj}(e:X.base.get? b=some o):b∉X.fs:=fun hb=>by
 have:=(ok.funs.mem hb).1
 rw[e] at this;cases this
theorem Inv.bs(I:Inv X pins σ H s):∀b o,X.base.get? b=some o→s.heap.get? b=some o∧H b=none:=fun b o e=>
 ⟨I.base.keep b o (I.ok.bs b o e).1 (I.ok.bs b o e).2 (I.ok.nofr e) (I.ok.noex b o e),I.base.free b o (I.ok.bs b o e).1 (I.ok.bs b o e).2 (I.ok.noex b o e)⟩
theorem Inv.bk(I:Inv X pins σ H s):∀b o,X.base.get? b=some o→s.heap.get? b=some o:=fun b o e=>(I.bs b o e).1
theorem Inv.mod(I:Inv X pins σ H s):Mod X.K X.mg X.base:=I.ok.mod
theorem Inv.kIn(I:Inv X pins σ H s):X.K.In s.heap:=I.ok.mod.kin.keeps I.bk
theorem Inv.lt(I:Inv X pins σ H s):X.env.locals<s.heap.objs.size:=let ⟨_,hn,_⟩:=I.loc;hn.lt
theorem Inv.sz(I:Inv X pins σ H s):X.s₀.heap.objs.size≤s.heap.objs.size:=Nat.le_trans I.ok.above (Nat.le_of_lt I.lt)
theorem Inv.nofs(I:Inv X pins σ H s){a:Addr}(h:s.heap.objs.size≤a):a∉X.fs:=fun hb=>by
 obtain⟨_,o,ho,_⟩:=I.ok.funs.mem hb
 exact absurd (Nat.lt_of_lt_of_le (Heap.lt_size ho) (Nat.le_trans I.sz h)) (Nat.lt_irrefl _)
theorem Inv.cne(I:Inv X pins σ H s):∀x c,X.env.cells.lookup x=some c→c≠X.env.locals:=fun x c e z=>by
 obtain⟨v,o,ho,hd⟩:=I.cell x c e
 obtain⟨m,⟨o',es,ep,ho',hd',_⟩,_⟩:=I.loc
 rw[z,ho'] at ho;cases ho;rw[hd'] at hd;cases hd
theorem Inv.funs(I:Inv X pins σ H s):s.heap.FunFrames X.base X.outer:=by
 have all:∀(l:List Env),(∀b∈frs l,b∈X.fs)→X.s₀.heap.FunFrames X.base l→s.heap.FunFrames X.base l:=by
  intro l
  induction l with
  | nil=>intro _ _;trivial
  | cons env r ih=>
   intro hs hl
   obtain⟨hk,⟨L,o,hf,hn,ho,hd⟩,hr⟩:=hl
   have hL:L∈X.fs:=hs L (by unfold frs;rw[List.filterMap_cons,hf];exact List.mem_cons_self)
   obtain⟨sl,e⟩:=I.base.slot L o ho (I.ok.frf L hL) hL fun z=>I.ok.exfs L z hL
   exact⟨hk,⟨L,_,hf,hn,e,hd⟩,ih (fun b hb=>hs b (by unfold frs;rw[List.filterMap_cons,hf];exact List.mem_cons_of_mem _ hb)) hr⟩
 exact all X.outer (fun _ hb=>hb) I.ok.funs
theorem Inv.stack(I:Inv X pins σ H s):s.heap.FunFrames X.base X.stack:=by
 rcases I.ok.stk with e | ⟨e,hf⟩
 ·rw[e];exact I.funs
 ·rw[e]
  obtain⟨m,hn,_⟩:=I.loc
  refine .cons (by rw[I.ok.kind];decide) hf hn ?_ I.funs
  exact Heap.get?_none_of_le (Nat.le_trans I.ok.bsz I.ok.above)
theorem Inv.stkSub(I:Inv X pins σ H s):∀b∈frs X.stack,b∈X.env.locals::X.fs:=fun b hb=>by
 rcases I.ok.stk with e | ⟨e,hf⟩
 ·rw[e] at hb;exact List.mem_cons_of_mem _ hb
 ·rw[e] at hb
  unfold frs at hb
  rw[List.filterMap_cons,hf] at hb
  exact hb
theorem Inv.stkFree(I:Inv X pins σ H s):∀b∈frs X.stack,H b=none:=fun b hb=>by
 rcases List.mem_cons.mp (I.stkSub b hb) with e | hb
 ·rw[e];exact I.free
 ·obtain⟨_,o,ho,_⟩:=I.ok.funs.mem hb
  exact I.base.free b o ho (I.ok.frf b hb) fun z=>I.ok.exfs b z hb
theorem Inv.step{g':Array GenState}{t':Nat}{d':Drawn}{ch:List Addr}(I:Inv X pins σ H s)
 (hch:∀b∈ch,(b∈X.ex∨X.s₀.heap.objs.size≤b)∧b≠X.env.locals∧(∀x c,X.env.cells.lookup x=some c→c≠b)∧∀p∈X.pn++pins,p.1≠b)
 (keep:∀b o,b≠X.env.locals→b∉X.fs→b∉ch→s.heap.get? b=some o→H b=none→h'.get? b=some o)
 (slot:∀b o,b≠X.env.locals→b∈X.fs→b∉ch→s.heap.get? b=some o→H b=none→∃sl,h'.get? b=some { o with slots:=sl })(free:∀b o,b∉ch→s.heap.get? b=some o→H b=none→H' b=none)
 (there:∀b o,b∉ch→s.heap.get? b=some o→∃o',h'.get? b=some o')
 (tups:∀b xs,H b=some (.tup xs)→H' b=some (.tup xs))(frzs:∀b o u,H b=some (.frz o u)→H' b=some (.frz o u))(tbls:∀b ps,H b=some (.tbl ps)→∃more,H' b=some (.tbl (ps++more)))
 (ns:∀m,s.heap.Ns X.env.locals m→h'.Ns X.env.locals m)(hok:HOk X.prog X.w H' h')(hg:AllBare g'):
 Inv X pins σ H' { s with heap:=h',gens:=g',drawn:=d',toks:=t' }:=by
 have neL:∀b o,X.s₀.heap.get? b=some o→b≠X.env.locals:=fun b o e=>Nat.ne_of_lt (Nat.lt_of_lt_of_le (Heap.lt_size e) I.ok.above)
 have neC:∀b o,X.s₀.heap.get? b=some o→b∉X.ex→b∉ch:=fun b o e hx hb=>by
  rcases(hch b hb).1 with z | z
  ·exact hx z
  ·exact absurd (Nat.lt_of_lt_of_le (Heap.lt_size e) z) (Nat.lt_irrefl _)
 have cellK:∀x c,X.env.cells.lookup x=some c→∀v,s.heap.IsCell c v→h'.IsCell c v:=fun x c e v ⟨o,ho,hd⟩=>by
  have nch:c∉ch:=fun z=>(hch c z).2.2.1 x c e rfl
  by_cases hc:c∈X.fs
  ·obtain⟨sl,q⟩:=slot c o (I.cne x c e) hc nch ho (I.freeC x c e)
   exact⟨_,q,hd⟩
  ·exact⟨o,keep c o (I.cne x c e) hc nch ho (I.freeC x c e),hd⟩
 refine⟨I.ok,I.os,hg,⟨fun b o e n hb hx=>?_,fun b o e n hb hx=>?_,fun b o e n hx=>?_,fun b o e hx=>?_,fun b xs e=>tups b xs (I.base.tups b xs e),fun b o xs e=>frzs b o xs (I.base.frzs b o xs e),fun b ps e=>?_⟩,?_,fun x c e=>?_,?_,fun x c e=>?_,fun p hp=>?_,hok,I.len⟩
 ·exact keep b o (neL b o e) hb (neC b o e hx) (I.base.keep b o e n hb hx) (I.base.free b o e n hx)
 ·obtain⟨sl,e1⟩:=I.base.slot b o e n hb hx
  obtain⟨sl',e2⟩:=slot b _ (neL b o e) hb (neC b o e hx) e1 (I.base.free b o e n hx)
  exact⟨sl',e2⟩
 ·obtain⟨o',e1⟩:=I.base.there b o e hx
  exact free b o' (neC b o e hx) e1 (I.base.free b o e n hx)
 ·obtain⟨o',e1⟩:=I.base.there b o e hx
  exact there b o' (neC b o e hx) e1
 ·obtain⟨m1,e1⟩:=I.base.tbls b ps e
  obtain⟨m2,e2⟩:=tbls b _ e1
  exact⟨m1++m2,by rw[e2,Array.append_assoc]⟩
 ·obtain⟨m,hn,hl⟩:=I.loc
  refine⟨m,ns m hn,fun i x v e1 e2 e3=>?_⟩
  obtain⟨u,r,l⟩:=hl i x v e1 e2 e3
  refine⟨u,r,?_⟩
  rcases l with l | ⟨k,c,e,z⟩
  ·exact .inl l
  ·exact .inr ⟨k,c,e,cellK x c e _ z⟩
 ·obtain⟨v,z⟩:=I.cell x c e
  exact⟨v,cellK x c e v z⟩
 ·obtain⟨m,⟨o,_,_,ho,_⟩,_⟩:=I.loc
  exact free _ o (fun z=>(hch _ z).2.1 rfl) ho I.free
 ·obtain⟨v,o,ho,hd⟩:=I.cell x c e
  exact free c o (fun z=>(hch c z).2.2.1 x c e rfl) ho (I.freeC x c e)
 ·obtain⟨e,n,ne,nf,d⟩:=I.pin p hp
  have nch:p.1∉ch:=fun z=>(hch p.1 z).2.2.2 p hp rfl
  exact⟨keep p.1 p.2 ne nf nch e n,free p.1 p.2 nch e n,ne,nf,d⟩
theorem Inv.un{t':Nat}(I:Inv X pins σ H s)(u:Un X.fs [] H H' s.heap h')(hok:HOk X.prog X.w H' h'):Inv X pins σ H' { s with heap:=h',toks:=t' }:=by
 obtain⟨m,⟨o,es,ep,ho,r⟩,_⟩:=id I.loc
 obtain⟨sl,hL⟩:=u.any ho I.free (by simp)
 exact I.step (g':=s.gens) (d':=s.drawn) (ch:=[]) (fun _ z=>nomatch z) (fun b o _ hb _ e n=>u.keep b o e n hb (by simp)) (fun b o _ hb _ e n=>u.slot b o e n hb (by simp)) (fun b o _ e n=>u.free b o e n (by simp)) (fun b o _ e=>u.there b o e (by simp)) u.tups u.frzs u.tbls (fun m' hm=>by
  obtain⟨o',es',ep',ho',r'⟩:=hm
  rw[ho] at ho';cases ho'
  exact⟨_,es',ep',hL,r'⟩) hok I.bare
theorem Inv.call{g':Array GenState}{t':Nat}{d':Drawn}{ch:List Addr}(I:Inv X pins σ H s)(u:Un (frs X.stack) ch H H' s.heap h')(hok:HOk X.prog X.w H' h')(hg:AllBare g')
 (hch:∀b∈ch,(b∈X.ex∨X.s₀.heap.objs.size≤b)∧b≠X.env.locals∧(∀x c,X.env.cells.lookup x=some c→c≠b)∧∀p∈X.pn++pins,p.1≠b):
 Inv X pins σ H' { s with heap:=h',gens:=g',drawn:=d',toks:=t' }:=by
 obtain⟨m,⟨o,es,ep,ho,r⟩,_⟩:=id I.loc
 obtain⟨sl,hL⟩:=u.any ho I.free fun z=>(hch _ z).2.1 rfl
 exact I.step (ch:=ch) hch (fun b o hL hb hc e n=>u.keep b o e n (fun z=>(List.mem_cons.mp (I.stkSub b z)).elim hL hb) hc) (fun b o _ _ hc e n=>u.any e n hc) (fun b o hc e n=>u.free b o e n hc) (fun b o hc e=>u.there b o e hc) u.tups u.frzs u.tbls (fun m' hm=>by
  obtain⟨o',es',ep',ho',r'⟩:=hm
  rw[ho] at ho';cases ho'
  exact⟨_,es',ep',hL,r'⟩) hok hg
theorem Inv.turned{t':Nat}{it:Addr}(I:Inv X pins σ H s)(k:∀b o,b≠it→s.heap.get? b=some o→h'.get? b=some o)(hn:H it=none)(hL:it≠X.env.locals)
 (h1:it∈X.ex∨X.s₀.heap.objs.size≤it)(h2:∀x c,X.env.cells.lookup x=some c→c≠it)(h3:∀p∈X.pn++pins,p.1≠it):Inv X pins σ H { s with heap:=h',toks:=t' }:=by
 have nit:∀b u,H b=some u→b≠it:=fun b u e z=>by rw[z,hn] at e;cases e
 refine I.step (g':=s.gens) (d':=s.drawn) (ch:=[it]) (fun b hb=>?_) (fun b o _ _ hc e _=>k b o (fun z=>hc (by simp[z])) e) (fun b o _ _ hc e _=>⟨o.slots,k b o (fun z=>hc (by simp[z])) e⟩) (fun _ _ _ _ n=>n)
  (fun b o hc e=>⟨o,k b o (fun z=>hc (by simp[z])) e⟩) (fun _ _ e=>e) (fun _ _ _ e=>e) (fun b ps e=>⟨#[],by rw[e];simp⟩) (fun m hm=>?_) (fun b u e=>?_) I.bare
 ·have e:b=it:=by simpa using hb
  subst e
  exact⟨h1,hL,h2,h3⟩
 ·obtain⟨o,es,ep,ho,r⟩:=hm
  exact⟨o,es,ep,k _ o (Ne.symm hL) ho,r⟩
 ·refine(I.hok b u e).stay (fun c v hc q=>k c v ?_ q) (fun _ q=>q) fun _ _ q=>q
  rcases hc with z | z
  ·rw[z];exact nit b u e
  ·exact nit c _ z
theorem Inv.tok(I:Inv X pins σ H s)(t:Nat):Inv X pins σ H { s with toks:=t }:=I.un (h':=s.heap) (t':=t) Un.refl I.hok
theorem Inv.kept{t':Nat}(I:Inv X pins σ H s)(k:∀b u,s.heap.get? b=some u→h'.get? b=some u):Inv X pins σ H { s with heap:=h',toks:=t' }:=I.un (Un.kept k) (I.hok.kept k)
theorem Inv.laid{a:Addr}{o:HO}{t':Nat}(I:Inv X pins σ H s)(k:∀b u,s.heap.get? b=some u→h'.get? b=some u)(hp:s.heap.objs.size≤a)(new:ObjOk X.prog X.w (upd H a o) h' a o):
 Inv X pins σ (upd H a o) { s with heap:=h',toks:=t' }:=I.un (Un.laid k hp (I.hok.fresh hp)) (I.hok.laid k hp new)
theorem Inv.write{x e:Addr}{o:HO}{t':Nat}(I:Inv X pins σ H s)(mu:Mut (H x))(he:e=x∨H e=some (.own x))(k:∀b u,b≠e→s.heap.get? b=some u→h'.get? b=some u)(heo:∃u,h'.get? e=some u)
 (new:ObjOk X.prog X.w (upd H x o) h' x o):Inv X pins σ (upd H x o) { s with heap:=h',toks:=t' }:=I.un (Un.write mu he k heo) (I.hok.write mu he k heo new)
theorem Inv.pins_of{pins':List (Addr×Obj)}(I:Inv X pins σ H s)(h:∀p∈pins',s.heap.get? p.1=some p.2∧H p.1=none∧p.1≠X.env.locals∧p.1∉X.fs∧∀v,p.2.data≠.cell v):Inv X pins' σ H s:=
 ⟨I.ok,I.os,I.bare,I.base,I.loc,I.cell,I.free,I.freeC,fun p hp=>(List.mem_append.mp hp).elim (fun z=>I.pin p (List.mem_append_left _ z)) (h p),I.hok,I.len⟩
theorem nodup_ix{N:List Str}(hN:N.Nodup){i j:Nat}{x:Str}(a:N[i]?=some x)(b:N[j]?=some x):i=j:=by
 obtain⟨h1,e1⟩:=List.getElem?_eq_some_iff.mp a
 obtain⟨h2,e2⟩:=List.getElem?_eq_some_iff.mp b
 exact(List.getElem_inj hN).mp (e1.trans e2.symm)
theorem store_ok2{M:Model}{A:Around}{E:Value→Shared→Prop}{i:Nat}{x:Str}{v:V}{u:Value}{Q:Unit→Shared→Prop}(I:Inv X pins σ H s)(hN:X.N.Nodup)(hi:X.N[i]?=some x)(hx:Loc X.env.scope x)(r:RelV v u)
 (h:∀s',Inv X pins (σ.set i (some v)) H s'→(∃a,Heap.SameBut a s.heap s'.heap∧(a=X.env.locals∨X.env.cells.lookup x=some a))→Q () s')(hf:X.fn x=true∨X.env.scope.names.lookup x=some .local:=by first | exact .inl rfl | exact .inr rfl | assumption):wpAny M A (storeName X.env x u) Q E s:=by
 obtain⟨m,hn,hl⟩:=id I.loc
 have hcls:(X.env.scope.kind==.class||(X.env.scope.kind==.module&&X.env.locals != X.env.globals))=false:=by rw[I.ok.kind];rfl
 have hiσ:i<σ.length:=by rw[I.len];exact(List.getElem?_eq_some_iff.mp hi).1
 have cne:=I.cne
 have tracked:∀{a:Addr} {h':Heap},(∃o,s.heap.get? a=some o∧H a=none)→Heap.SameBut a s.heap h'→HOk X.prog X.w H h':=fun{a h'} ha hs b ob e=>by
  obtain⟨_,_,hfree⟩:=ha
  refine(I.hok b ob e).stay (fun c w' hc q=>(hs.2 c ?_).trans q) (fun _ q=>q) fun _ _ q=>q
  rintro rfl
  rcases hc with rfl | hc
  ·rw[hfree] at e;cases e
  ·rw[hfree] at hc;cases hc
 rcases hx with hk | hk
 ·refine wpAny_storeName_local hk hn (fun h' hn' hs=>?_) hcls
  obtain⟨oL,_,_,hoL,_⟩:=id hn
  refine h _ ⟨I.ok,I.os,I.bare,⟨fun b o e n hb hx=>?_,fun b o e n hb hx=>?_,I.base.free,fun b o e hx=>?_,I.base.tups,I.base.frzs,I.base.tbls⟩,⟨_,hn',fun j y v' e1 e2 e3=>?_⟩,fun y c e=>?_,I.free,I.freeC,fun p hp=>?_,tracked ⟨oL,hoL,I.free⟩ hs,by simpa using I.len⟩ ⟨_,hs,.inl rfl⟩
  ·exact(hs.2 b (Nat.ne_of_lt (Nat.lt_of_lt_of_le (Heap.lt_size e) I.ok.above))).trans (I.base.keep b o e n hb hx)
  ·obtain⟨sl,e1⟩:=I.base.slot b o e n hb hx
   exact⟨sl,(hs.2 b (Nat.ne_of_lt (Nat.lt_of_lt_of_le (Heap.lt_size e) I.ok.above))).trans e1⟩
  ·obtain⟨o',e1⟩:=I.base.there b o e hx
   exact⟨o',(hs.2 b (Nat.ne_of_lt (Nat.lt_of_lt_of_le (Heap.lt_size e) I.ok.above))).trans e1⟩
  ·by_cases hj:j=i
   ·subst hj
    rw[hi] at e1;cases e1
    rw[List.getElem?_set_self hiσ] at e2
    cases e2
    exact⟨u,r,.inl ⟨hk,by simp⟩⟩
   ·rw[List.getElem?_set_ne (Ne.symm hj)] at e2
    obtain⟨u',r',q⟩:=hl j y v' e1 e2 e3
    refine⟨u',r',?_⟩
    rcases q with ⟨k,e⟩ | ⟨k,c,e,z⟩
    ·refine .inl ⟨k,?_⟩
     have:y≠x:=fun e=>hj (nodup_ix hN e1 (e ▸ hi))
     simp[this,e]
    ·exact .inr ⟨k,c,e,z.sameBut hs (cne y c e)⟩
  ·obtain⟨w',z⟩:=I.cell y c e
   exact⟨w',z.sameBut hs (cne y c e)⟩
  ·obtain⟨e,n,ne,nf,d⟩:=I.pin p hp
   exact⟨(hs.2 p.1 ne).trans e,n,ne,nf,d⟩
 ·have hfn:X.fn x=true:=by
   rcases hf with z | z
   ·exact z
   ·rw[z] at hk;cases hk
  obtain⟨c,hc⟩:=I.ok.has x (.inl hk)
  obtain⟨w',z⟩:=I.cell x c hc
  refine wpAny_storeName_cell I.ok.kind hk hc z (fun h' hc' hs=>?_)
  obtain⟨oc,hoc,hocd⟩:=id z
  refine h { s with heap:=h' } ⟨I.ok,I.os,I.bare,⟨fun b o e n hb hx=>?_,fun b o e n hb hx=>?_,I.base.free,fun b o e hx=>?_,I.base.tups,I.base.frzs,I.base.tbls⟩,⟨m,hn.sameBut hs (Ne.symm (cne x c hc)),fun j y v' e1 e2 e3=>?_⟩,fun y c' e=>?_,I.free,I.freeC,fun p hp=>?_,tracked ⟨oc,hoc,I.freeC x c hc⟩ hs,by simpa using I.len⟩ ⟨c,hs,.inr hc⟩
  ·exact(hs.2 b (Nat.ne_of_lt (Nat.lt_of_lt_of_le (Heap.lt_size e) (I.ok.cab x c hfn hc)))).trans (I.base.keep b o e n hb hx)
  ·obtain⟨sl,e1⟩:=I.base.slot b o e n hb hx
   exact⟨sl,(hs.2 b (Nat.ne_of_lt (Nat.lt_of_lt_of_le (Heap.lt_size e) (I.ok.cab x c hfn hc)))).trans e1⟩
  ·obtain⟨o',e1⟩:=I.base.there b o e hx
   exact⟨o',(hs.2 b (Nat.ne_of_lt (Nat.lt_of_lt_of_le (Heap.lt_size e) (I.ok.cab x c hfn hc)))).trans e1⟩
  ·by_cases hj:j=i
   ·subst hj
    rw[hi] at e1;cases e1
    rw[List.getElem?_set_self hiσ] at e2
    cases e2
    exact⟨u,r,.inr ⟨.inl hk,c,hc,hc'⟩⟩
   ·rw[List.getElem?_set_ne (Ne.symm hj)] at e2
    obtain⟨u',r',q⟩:=hl j y v' e1 e2 e3
    refine⟨u',r',?_⟩
    rcases q with q | ⟨k,c',e,z'⟩
    ·exact .inl q
    ·refine .inr ⟨k,c',e,z'.sameBut hs ?_⟩
     rintro rfl
     exact hj (nodup_ix hN e1 (I.ok.inj _ _ _ e hc ▸ hi))
  ·by_cases hcc:c'=c
   ·subst hcc;exact⟨_,hc'⟩
   ·obtain⟨w2,z2⟩:=I.cell y c' e
    exact⟨w2,z2.sameBut hs hcc⟩
  ·obtain⟨e,n,ne,nf,d⟩:=I.pin p hp
   refine⟨(hs.2 p.1 ?_).trans e,n,ne,nf,d⟩
   intro q
   rw[q,hoc] at e
   have q':oc=p.2:=Option.some.inj e
   exact d w' (by rw[←q'];exact hocd)
theorem store_ok{M:Model}{A:Around}{E:Value→Shared→Prop}{i:Nat}{x:Str}{v:V}{u:Value}{Q:Unit→Shared→Prop}(I:Inv X pins σ H s)(hN:X.N.Nodup)(hi:X.N[i]?=some x)(hx:Loc X.env.scope x)(r:RelV v u)
 (h:∀s',Inv X pins (σ.set i (some v)) H s'→Q () s')(hf:X.fn x=true∨X.env.scope.names.lookup x=some .local:=by first | exact .inl rfl | exact .inr rfl | assumption):wpAny M A (storeName X.env x u) Q E s:=
 store_ok2 I hN hi hx r (fun s' I' _=>h s' I') hf
theorem Inv.call'{s':Shared}{ch:List Addr}(I:Inv X pins σ H s)(ho:s'.os=s.os)(u:Un (frs X.stack) ch H H' s.heap s'.heap)(hok:HOk X.prog X.w H' s'.heap)(hg:AllBare s'.gens)
 (hch:∀b∈ch,(b∈X.ex∨X.s₀.heap.objs.size≤b)∧b≠X.env.locals∧(∀x c,X.env.cells.lookup x=some c→c≠b)∧∀p∈X.pn++pins,p.1≠b):Inv X pins σ H' s':=by
 obtain⟨h',g',d',t',o'⟩:=s'
 have e:o'=s.os:=ho
 subst e
 exact I.call (g':=g') (t':=t') (d':=d') u hok hg hch
end
abbrev XK:=Value→Option Addr→Hp→Prop
abbrev St:=List (Option V)
abbrev VK:=V→Hp→Prop
abbrev TE:=St→Hp→VK→Prop
abbrev TT:=St→Hp→(Bool→Hp→Prop)→Prop
abbrev TA:=St→Hp→(List V→Hp→Prop)→Prop
structure Ends where
 nx:St→Hp→Prop
 rt:VK
 bk:St→Hp→Prop:=fun _ _=>False
 ct:St→Hp→Prop:=fun _ _=>False
abbrev TS:=Ends→St→Hp→Prop
def EP(X:Cx)(pins:List (Addr×Obj))(σ:St)(Q:VK)(u:Value)(s':Shared):Prop:=∃v H',Inv X pins σ H' s'∧RelV v u∧Q v H'
def TP(X:Cx)(pins:List (Addr×Obj))(σ:St)(Q:Bool→Hp→Prop)(b:Bool)(s':Shared):Prop:=∃H',Inv X pins σ H' s'∧Q b H'
def AP(X:Cx)(pins:List (Addr×Obj))(σ:St)(Q:List V→Hp→Prop)(us:List Value)(s':Shared):Prop:=∃vs H',Inv X pins σ H' s'∧Vals vs us∧Q vs H'
def SP(X:Cx)(pins:List (Addr×Obj))(D:Ends)(f:Flow)(s':Shared):Prop:=
 match f with
 | .next=>∃σ' H',Inv X pins σ' H' s'∧D.nx σ' H'
 | .brk=>∃σ' H',Inv X pins σ' H' s'∧D.bk σ' H'
 | .cont=>∃σ' H',Inv X pins σ' H' s'∧D.ct σ' H'
 | .ret u=>∃v σ' H',Inv X pins σ' H' s'∧RelV v u∧D.rt v H'
def PE(X:Cx)(e:Expr)(t:TE):Prop:=
 ∀(pins:List (Addr×Obj)) (s:Shared) (σ:St) (H:Hp) (Q:VK),Inv X pins σ H s→t σ H Q→wpAny (model X.prog X.w) X.A (eval e X.env) (EP X pins σ Q) X.xe s
def PT(X:Cx)(e:Expr)(t:TT):Prop:=
 ∀(pins:List (Addr×Obj)) (s:Shared) (σ:St) (H:Hp) (Q:Bool→Hp→Prop),Inv X pins σ H s→t σ H Q→wpAny (model X.prog X.w) X.A (isTrue e X.env (eval e X.env)) (TP X pins σ Q) X.xe s
def PW(X:Cx)(e:Expr)(t:TT):Prop:=
 ∀(whole:Sem Value) (pins:List (Addr×Obj)) (s:Shared) (σ:St) (H:Hp) (Q:Bool→Hp→Prop),Inv X pins σ H s→t σ H Q→wpAny (model X.prog X.w) X.A (isTrue e X.env whole) (TP X pins σ Q) X.xe s
theorem PW.pt{X:Cx}{e:Expr}{t:TT}(h:PW X e t):PT X e t:=h _
def PA(X:Cx)(es:List Expr)(t:TA):Prop:=
 ∀(pos:Pos) (pins:List (Addr×Obj)) (s:Shared) (σ:St) (H:Hp) (Q:List V→Hp→Prop),Inv X pins σ H s→t σ H Q→wpAny (model X.prog X.w) X.A (spliced (backTo pos (starEach es X.env))) (AP X pins σ Q) X.xe s
def PS(X:Cx)(st:Stmt)(t:TS):Prop:=
 ∀(pins:List (Addr×Obj)) (s:Shared) (σ:St) (H:Hp) (D:Ends),Inv X pins σ H s→t D σ H→wpAny (model X.prog X.w) X.A (exec st X.env) (SP X pins D) X.xe s
def PSs(X:Cx)(st:List Stmt)(t:TS):Prop:=
 ∀(pins:List (Addr×Obj)) (s:Shared) (σ:St) (H:Hp) (D:Ends),Inv X pins σ H s→t D σ H→wpAny (model X.prog X.w) X.A (execs st X.env) (SP X pins D) X.xe s
theorem thn{α:Type}{t:Sem α}{Q Q':α→Shared→Prop}{M:Model}{A:Around}{E:Value→Shared→Prop}{s:Shared}(h:wpAny M A t Q E s)(hQ:∀a s,Q a s→Q' a s):wpAny M A t Q' E s:=wpAny_mono h hQ fun _ _ x=>x
end L2
namespace L2
open PySem PySem.Spec PyProof.Rows
section
variable{X:Cx}
def tVar(i:Nat):TE:=fun σ H Q=>∃v,σ[i]?=some (some v)∧Q v H
def tC(v:V):TE:=fun _ H Q=>Q v H
theorem pe_var{i:Nat}{x:Str}{pos:Pos}(hN:X.N[i]?=some x)(hv:Vis X.env.scope x)(hd:(x==("__debug__":Str))=false:=by decide)(hcd:(x==("__classdict__":Str))=false:=by decide):PE X (.Name x pos) (tVar i):=by
 intro pins s σ H Q I h
 obtain⟨v,e,h⟩:=h
 obtain⟨m,hn,hl⟩:=I.loc
 obtain⟨u,r,l⟩:=hl i x v hN e hv
 have fin:EP X pins σ Q u s:=⟨v,H,I,r,h⟩
 rcases l with ⟨hk,hm⟩ | ⟨hk,c,hc,hcell⟩
 ·exact wpAny_Name (wpAny_loadName_local I.ok.kind hk hn hm fin) hd
 ·rcases hk with hk | hk
  ·exact wpAny_Name (wpAny_loadName_cell I.ok.kind hk hc hcell fin) hd
  ·exact wpAny_Name (wpAny_loadName_free I.ok.kind hk hc hcell fin hcd) hd
theorem pe_int{i j pos}:PE X (.Constant (.int i) j pos) (tC (.int i)):=fun _ _ _ H _ I h=>wpAny_Constant_int ⟨.int i,H,I.tok _,⟨_,rfl⟩,h⟩
theorem pe_bl{b j pos}:PE X (.Constant (.bool b) j pos) (tC (.bl b)):=fun _ _ _ H _ I h=>Constant_bool ⟨.bl b,H,I,rfl,h⟩
theorem pe_non{j pos}:PE X (.Constant .none j pos) (tC .non):=fun _ _ _ H _ I h=>Constant_none ⟨.non,H,I,rfl,h⟩
theorem pe_str{x j pos}:PE X (.Constant (.str x) j pos) (tC (.str x)):=fun _ _ _ H _ I h=>Calls.Constant_str ⟨.str x,H,I.tok _,⟨_,rfl⟩,h⟩
def Gl(X:Cx)(x:Str):Prop:=X.env.kindOf x=some .globalImplicit
theorem ld_glob{E:Value→Shared→Prop}{pins:List (Addr×Obj)}{s:Shared}{σ:St}{H:Hp}{x:Str}{u:Value}{pos:Pos}{Q:Value→Shared→Prop}(I:Inv X pins σ H s)(hg:Gl X x)(hm:X.mg x=some u)(h:Q u s)
 (hd:(x==("__debug__":Str))=false:=by decide):wpAny (model X.prog X.w) X.A (eval (.Name x pos) X.env) Q E s:=
 Calls.Name_function_global I.ok.kind hg (Calls.loadGlobal_global (by rw[I.ok.glob];exact I.mod.glob.keeps I.bk) hm h) hd
theorem ld_blt{E:Value→Shared→Prop}{pins:List (Addr×Obj)}{s:Shared}{σ:St}{H:Hp}{x:Str}{u:Value}{pos:Pos}{Q:Value→Shared→Prop}(I:Inv X pins σ H s)(hg:Gl X x)(hm:X.mg x=none)(hv:bootBuiltins x=some u)(h:Q u s)
 (hn:x≠"__name__":=by decide)(hd:(x==("__debug__":Str))=false:=by decide):wpAny (model X.prog X.w) X.A (eval (.Name x pos) X.env) Q E s:=by
 obtain⟨mb,h1,h2⟩:=I.mod.blt
 exact Calls.Name_function_global I.ok.kind hg (Calls.loadGlobal_builtin (by rw[I.ok.glob];exact I.mod.glob.keeps I.bk) hm (by rw[I.ok.blt];exact h1.keeps I.bk) ((h2 x hn).trans hv) h) hd
theorem pe_glob{x:Str}{v:V}{u:Value}{pos:Pos}(hg:Gl X x)(hm:X.mg x=some u)(r:RelV v u)(hd:(x==("__debug__":Str))=false:=by decide):PE X (.Name x pos) (tC v):=
 fun _ _ _ H _ I h=>ld_glob I hg hm ⟨v,H,I,r,h⟩ hd
variable{a b:Expr}{ta tb:TE}{pos:Pos}
def tB(t:TE):TT:=fun σ H Q=>t σ H fun x H1=>∃c,x=.bl c∧Q c H1
theorem pt_val{e:Expr}{t:TE}(h:PE X e t)(he:∀whole,isTrue e X.env whole=(do let v ←whole;standAt e.pos;holding [v] (truthy v)):=by intro _;rfl):PT X e (tB t):=by
 intro pins s σ H Q I hw
 refine isTrue_plain (thn (h pins s σ H _ I hw) fun v s1 ⟨x,H1,I1,r1,q1⟩=>?_) (he _)
 obtain⟨d,rfl,q⟩:=q1
 cases r1
 exact wpAny_truthy_bool ⟨H1,I1,q⟩
variable{tA tB':TT}{rest:List Expr}
def tAnd(t u:TT):TT:=fun σ H Q=>t σ H fun c H1=>if c=true then u σ H1 Q else Q false H1
def tOr(t u:TT):TT:=fun σ H Q=>t σ H fun c H1=>if c=true then Q true H1 else u σ H1 Q
def tNot(t:TT):TT:=fun σ H Q=>t σ H fun c H1=>Q (!c) H1
theorem pw_and1(ha:PT X a tA):PW X (.BoolOp .And [a] pos) tA:=by
 intro wh pins s σ H Q I h
 refine isTrue_and (thn (ha pins s σ H Q I h) fun c s1 e=>?_)
 cases c with
 | true=>exact isTrue_and_nil e
 | false=>exact e
theorem pw_or1(ha:PT X a tA):PW X (.BoolOp .Or [a] pos) tA:=by
 intro wh pins s σ H Q I h
 refine isTrue_or (thn (ha pins s σ H Q I h) fun c s1 e=>?_)
 cases c with
 | false=>exact isTrue_or_nil e
 | true=>exact e
theorem pw_and(ha:PT X a tA)(hb:PW X (.BoolOp .And (b::rest) pos) tB'):PW X (.BoolOp .And (a::b::rest) pos) (tAnd tA tB'):=by
 intro wh pins s σ H Q I h
 refine isTrue_and (thn (ha pins s σ H _ I h) fun c s1 ⟨H1,I1,q1⟩=>?_)
 cases c with
 | true=>exact hb wh pins s1 σ H1 Q I1 q1
 | false=>exact⟨H1,I1,q1⟩
theorem pw_or(ha:PT X a tA)(hb:PW X (.BoolOp .Or (b::rest) pos) tB'):PW X (.BoolOp .Or (a::b::rest) pos) (tOr tA tB'):=by
 intro wh pins s σ H Q I h
 refine isTrue_or (thn (ha pins s σ H _ I h) fun c s1 ⟨H1,I1,q1⟩=>?_)
 cases c with
 | true=>exact⟨H1,I1,q1⟩
 | false=>exact hb wh pins s1 σ H1 Q I1 q1
theorem pt_not(ha:PT X a tA):PT X (.UnaryOp .Not a pos) (tNot tA):=by
 intro pins s σ H Q I h
 exact isTrue_not (ha pins s σ H (fun c H1=>Q (!c) H1) I h)
def tIf(t:TT)(ta tb:TE):TE:=fun σ H Q=>t σ H fun c H1=>if c=true then ta σ H1 Q else tb σ H1 Q
theorem pe_ifExp{c:Expr}(hc:PT X c tA)(ha:PE X a ta)(hb:PE X b tb):PE X (.IfExp c a b pos) (tIf tA ta tb):=by
 intro pins s σ H Q I h
 refine wpAny_IfExp (thn (hc pins s σ H _ I h) fun d s1 ⟨H1,I1,q1⟩=>?_)
 cases d with
 | true=>exact ha pins s1 σ H1 Q I1 q1
 | false=>exact hb pins s1 σ H1 Q I1 q1
end
end L2
namespace L2
open PySem PySem.Spec PyProof.Rows
def SqL(K:PySem.W.Frag)(H:Hp)(a:Addr)(xs:List V):Prop:=
 Rd H a (.lst xs)∨
  ∃(o:Obj) (its:Array Value) (n:Nat),K.lookup a=some o∧o.cls=.type "list"∧o.dict=none∧o.data=.seq its n∧its.size≤sizeLine∧Vals xs its.toList
def SqT(K:PySem.W.Frag)(H:Hp)(a:Addr)(xs:List V):Prop:=
 Rd H a (.tup xs)∨
  ∃(o:Obj) (its:Array Value) (n:Nat),K.lookup a=some o∧o.cls=.type "tuple"∧o.data=.seq its n∧its.size≤sizeLine∧Vals xs its.toList
def absV:Value→Option V
 | .none=>some .non
 | .bool b=>some (.bl b)
 | .int i _=>some (.int i)
 | .str x _=>some (.str x)
 | .bytes b _=>some (.byt b)
 | .float b _=>some (.flt b)
 | .ref a=>some (.ref a)
 | .type n=>some (.ty n)
 | _=>none
theorem RelV.abs{x:V}{u:Value}(r:RelV x u):absV u=some x:=by
 cases x with
 | non=>cases r;rfl
 | bl _=>cases r;rfl
 | int _=>obtain⟨t,rfl⟩:=r;rfl
 | str _=>obtain⟨t,rfl⟩:=r;rfl
 | byt _=>obtain⟨t,rfl⟩:=r;rfl
 | flt _=>obtain⟨t,rfl⟩:=r;rfl
 | ref _=>cases r;rfl
 | ty _=>cases r;rfl
theorem RelV.inj{x y:V}{u:Value}(r:RelV x u)(q:RelV y u):x=y:=Option.some.inj (r.abs.symm.trans q.abs)
theorem Vals.inj:∀{xs ys:List V} {us:List Value},Vals xs us→Vals ys us→xs=ys
 | _,_,_,.nil,.nil=>rfl
 | _,_,_,.cons r t,.cons r' t'=>by rw[r.inj r',Vals.inj t t']
section
variable{X:Cx}{pins:List (Addr×Obj)}{σ:St}{H:Hp}{s:Shared}{a:Addr}{xs ys:List V}
theorem SqL.of{K:PySem.W.Frag}(h:H a=some (.lst xs)):SqL K H a xs:=.inl (.inl h)
theorem SqT.of{K:PySem.W.Frag}(h:H a=some (.tup xs)):SqT K H a xs:=.inl (.inl h)
theorem Inv.list(I:Inv X pins σ H s)(h:SqL X.K H a xs):∃its:List Value,Vals xs its∧PlainL s.heap a its.toArray∧xs.length≤sizeLine:=by
 rcases h with h | ⟨o,its,n,hk,hc,hd,hs,hz,r⟩
 ·obtain⟨z,its,n,r,e⟩:=h.ok I.hok
  exact⟨its,r,⟨_,n,e,rfl,rfl,rfl⟩,z⟩
 ·refine⟨its.toList,r,⟨o,n,I.kIn a o hk,hc,hd,by simpa using hs⟩,?_⟩
  have e:=r.length
  simp only[Array.length_toList] at e
  omega
theorem Inv.tuple(I:Inv X pins σ H s)(h:SqT X.K H a xs):∃its:List Value,Vals xs its∧IsTup s.heap a its.toArray∧xs.length≤sizeLine:=by
 rcases h with h | ⟨o,its,n,hk,hc,hs,hz,r⟩
 ·obtain⟨z,its,r,p⟩:=h.ok I.hok
  exact⟨its,r,p,z⟩
 ·refine⟨its.toList,r,⟨o,I.kIn a o hk,hc,n,by simpa using hs⟩,?_⟩
  have e:=r.length
  simp only[Array.length_toList] at e
  omega
theorem Inv.list_inj(I:Inv X pins σ H s)(h:SqL X.K H a xs)(h':SqL X.K H a ys):xs=ys:=by
 obtain⟨its,r,⟨o,n,e,_,_,d⟩,_⟩:=I.list h
 obtain⟨its',r',⟨o',n',e',_,_,d'⟩,_⟩:=I.list h'
 rw[e] at e';cases e'
 rw[d] at d'
 injection d' with d1 _
 have:its=its':=by simpa using congrArg Array.toList d1
 subst this
 exact r.inj r'
theorem Inv.tuple_inj(I:Inv X pins σ H s)(h:SqT X.K H a xs)(h':SqT X.K H a ys):xs=ys:=by
 obtain⟨its,r,⟨o,e,_,n,d⟩,_⟩:=I.tuple h
 obtain⟨its',r',⟨o',e',_,n',d'⟩,_⟩:=I.tuple h'
 rw[e] at e';cases e'
 rw[d] at d'
 injection d' with d1 _
 have:its=its':=by simpa using congrArg Array.toList d1
 subst this
 exact r.inj r'
end
abbrev Cx.wish(X:Cx)(E:Value→Shared→Prop):Cx:={ X with xe:=E }
abbrev Cx.nox(X:Cx):Cx:=X.wish fun _ _=>False
theorem Cx.Ok.wish{X:Cx}(ok:X.Ok)(E:Value→Shared→Prop):(X.wish E).Ok:=
 ⟨ok.mod,ok.kind,ok.glob,ok.blt,ok.above,ok.inj,ok.has,ok.cab,ok.hd,ok.frames,ok.stk,ok.exf,ok.bs,ok.bsz,ok.noex,ok.exfs,ok.funs,ok.frf⟩
theorem Cx.Ok.unwish{X:Cx}{E:Value→Shared→Prop}(ok:(X.wish E).Ok):X.Ok:=
 ⟨ok.mod,ok.kind,ok.glob,ok.blt,ok.above,ok.inj,ok.has,ok.cab,ok.hd,ok.frames,ok.stk,ok.exf,ok.bs,ok.bsz,ok.noex,ok.exfs,ok.funs,ok.frf⟩
section
variable{X:Cx}{pins:List (Addr×Obj)}{σ:St}{H:Hp}{s:Shared}{E:Value→Shared→Prop}
theorem Inv.wish(I:Inv X pins σ H s)(E:Value→Shared→Prop):Inv (X.wish E) pins σ H s:=⟨I.ok.wish E,I.os,I.bare,I.base,I.loc,I.cell,I.free,I.freeC,I.pin,I.hok,I.len⟩
theorem Inv.unwish(I:Inv (X.wish E) pins σ H s):Inv X pins σ H s:=⟨I.ok.unwish,I.os,I.bare,I.base,I.loc,I.cell,I.free,I.freeC,I.pin,I.hok,I.len⟩
theorem SP.unwish{D:Ends}{f:Flow}{s':Shared}(h:SP (X.wish E) pins D f s'):SP X pins D f s':=by
 cases f with
 | next=>obtain⟨σ',H',I,q⟩:=h;exact⟨σ',H',I.unwish,q⟩
 | brk=>obtain⟨σ',H',I,q⟩:=h;exact⟨σ',H',I.unwish,q⟩
 | cont=>obtain⟨σ',H',I,q⟩:=h;exact⟨σ',H',I.unwish,q⟩
 | ret u=>obtain⟨v,σ',H',I,r,q⟩:=h;exact⟨v,σ',H',I.unwish,r,q⟩
theorem PSs.nox{st:List Stmt}{t:TS}(h:PSs X.nox st t):PSs X st t:=fun pins s σ H D I hw=>
 wpAny_mono (h pins s σ H D (I.wish _) hw) (fun _ _ q=>q.unwish) fun _ _ z=>False.elim z
end
section
variable{X:Cx}{st:Stmt}{rest:List Stmt}{t u:TS}{e:Expr}{te:TE}{pos:Pos}
def tNext:TS:=fun D σ H=>D.nx σ H
def tSeq(t u:TS):TS:=fun D σ H=>t { D with nx:=u D } σ H
theorem pss_nil:PSs X [] tNext:=fun _ _ σ H _ I h=>wpAny_execs_nil ⟨σ,H,I,h⟩
theorem pss_cons(h1:PS X st t)(h2:PSs X rest u):PSs X (st::rest) (tSeq t u):=by
 intro pins s σ H D I h
 refine wpAny_execs_cons (thn (h1 pins s σ H { D with nx:=u D } I h) fun f s1 q=>?_)
 cases f with
 | next=>
  obtain⟨σ',H',I',q⟩:=q
  exact h2 pins s1 σ' H' D I' q
 | ret v=>exact q
 | brk=>exact q
 | cont=>exact q
theorem pss_one(h1:PS X st t):PSs X [st] t:=by
 intro pins s σ H D I h
 refine wpAny_execs_cons (thn (h1 pins s σ H D I h) fun f s1 q=>?_)
 cases f with
 | next=>exact wpAny_execs_nil q
 | ret v=>exact q
 | brk=>exact q
 | cont=>exact q
theorem Inv.quiet{pins:List (Addr×Obj)}{σ:St}{H:Hp}{s:Shared}(I:Inv X pins σ H s):interactive X.env=false:=by simp[interactive,I.ok.kind]
def tDrop(te:TE):TS:=fun D σ H=>te σ H fun _ H1=>D.nx σ H1
theorem ps_expr(he:PE X e te)(hs:swapsWith e none pos.line X.env=pure false:=by rfl):PS X (.Expr e pos) (tDrop te):=by
 intro pins s σ H D I h
 exact wpAny_Expr_any (thn (he pins s σ H _ I h) fun v s1 ⟨x,H1,I1,r1,q1⟩=>⟨σ,H1,I1,q1⟩) I.quiet hs
def tRet(te:TE):TS:=fun D σ H=>te σ H D.rt
theorem ps_ret(he:PE X e te):PS X (.Return (some e) pos) (tRet te):=by
 intro pins s σ H D I h
 exact wpAny_Return_some (thn (he pins s σ H _ I h) fun v s1 ⟨x,H1,I1,r1,q1⟩=>⟨x,σ,H1,I1,r1,q1⟩)
def tIfS(c:TT)(t u:TS):TS:=fun D σ H=>c σ H fun b H1=>if b=true then t D σ H1 else u D σ H1
theorem ps_if{c:Expr}{a b:List Stmt}{tc:TT}(hc:PT X c tc)(ha:PSs X a t)(hb:PSs X b u):PS X (.If c a b pos) (tIfS tc t u):=by
 intro pins s σ H D I h
 refine wpAny_If (thn (hc pins s σ H _ I h) fun d s1 ⟨H1,I1,q1⟩=>?_)
 cases d with
 | true=>exact ha pins s1 σ H1 D I1 q1
 | false=>exact hb pins s1 σ H1 D I1 q1
def tNever:TS:=fun _ _ _=>False
theorem ps_never:PS X st tNever:=fun _ _ _ _ _ _ h=>h.elim
end
abbrev TG:=V→St→Hp→(St→Hp→Prop)→Prop
abbrev TGs:=List V→St→Hp→(St→Hp→Prop)→Prop
def PG(X:Cx)(target:Expr)(t:TG):Prop:=
 ∀(pins:List (Addr×Obj)) (s:Shared) (σ:St) (H:Hp) (v:V) (u:Value) (Q:St→Hp→Prop),Inv X pins σ H s→RelV v u→t v σ H Q→
  wpAny (model X.prog X.w) X.A (assign target X.env u) (fun _ s'=>∃σ' H',Inv X pins σ' H' s'∧Q σ' H') X.xe s
def PGs(X:Cx)(ts:List Expr)(t:TGs):Prop:=
 ∀(pins:List (Addr×Obj)) (s:Shared) (σ:St) (H:Hp) (vs:List V) (us:List Value) (Q:St→Hp→Prop),Inv X pins σ H s→Vals vs us→t vs σ H Q→
  wpAny (model X.prog X.w) X.A (assignInOrder ((assignEach ts X.env).map (·.2)) us) (fun _ s'=>∃σ' H',Inv X pins σ' H' s'∧Q σ' H') X.xe s
abbrev TSet:=V→V→V→Hp→(Hp→Prop)→Prop
def PSet(X:Cx)(t:TSet):Prop:=
 ∀(pins:List (Addr×Obj)) (s:Shared) (σ:St) (H:Hp) (o i v:V) (ov iv u:Value) (Q:Hp→Prop),Inv X pins σ H s→RelV o ov→RelV i iv→RelV v u→t o i v H Q→
  wpAny (model X.prog X.w) X.A (setItem ov iv u) (fun _ s'=>∃H',Inv X pins σ H' s'∧Q H') X.xe s
section
variable{X:Cx}{pos:Pos}
def gName(i:Nat):TG:=fun v σ H Q=>Q (σ.set i (some v)) H
theorem pg_name{i:Nat}{x:Str}(hN:X.N.Nodup)(hi:X.N[i]?=some x)(hx:Loc X.env.scope x)(hf:X.fn x=true∨X.env.scope.names.lookup x=some .local:=by first | exact .inl rfl | exact .inr rfl | assumption):PG X (.Name x pos) (gName i):=by
 intro pins s σ H v u Q I r h
 exact wpAny_assign_Name (store_ok I hN hi hx r (fun s' I'=>⟨_,H,I',h⟩) hf)
def gNil:TGs:=fun vs σ H Q=>vs=[]∧Q σ H
def gCons(t:TG)(u:TGs):TGs:=fun vs σ H Q=>∃v r,vs=v::r∧t v σ H fun σ' H'=>u r σ' H' Q
theorem pgs_nil:PGs X [] gNil:=by
 intro pins s σ H vs us Q I r h
 obtain⟨e,h⟩:=h
 subst e
 cases r
 exact assignInOrder_nil ⟨σ,H,I,h⟩
theorem pgs_cons{e:Expr}{es:List Expr}{t:TG}{u:TGs}(h1:PG X e t)(h2:PGs X es u)
 (hs:(assignEach (e::es) X.env).map (·.2)=assign e X.env::(assignEach es X.env).map (·.2):=by rfl):PGs X (e::es) (gCons t u):=by
 intro pins s σ H vs us Q I r h
 obtain⟨v,vr,e1,h⟩:=h
 subst e1
 cases r with
 | cons r rr=>
  rw[hs]
  refine assignInOrder_cons (thn (h1 pins s σ H _ _ _ I r h) fun _ s1 ⟨σ1,H1,I1,q1⟩=>?_)
  exact h2 pins s1 σ1 H1 _ _ Q I1 rr q1
def gTup(K:PySem.W.Frag)(n:Nat)(t:TGs):TG:=fun v σ H Q=>∃a xs,v=.ref a∧SqT K H a xs∧xs.length=n∧t xs σ H Q
theorem pg_tup{es:List Expr}{k:Nat}{t:TGs}{n:Nat}(hc:X.calm=true)(h:PGs X es t)
 (hn:(assignEach es X.env).length=n:=by rfl)(hst:(assignEach es X.env).findIdx? (·.1)=none:=by rfl):PG X (.Tuple es k pos) (gTup X.K n t):=by
 intro pins s σ H v u Q I r hw
 obtain⟨a,xs,e1,hq,hl,hw⟩:=hw
 subst e1
 cases r
 obtain⟨its,rv,ht,hz⟩:=I.tuple hq
 refine assign_Tuple_tuple (I.ok.hd hc) ht (by simp[hn,←hl,rv.length]) hst fun h' hx=>?_
 have I1:Inv X pins σ H { s with heap:=h' }:=I.kept (t':=s.toks) fun b o e=>hx b o (Nat.ne_of_lt (Heap.lt_size e)) e
 exact h pins _ σ H xs _ Q I1 (by simpa using rv) hw
def gSub(to ti:TE)(t:TSet):TG:=fun v σ H Q=>to σ H fun o H1=>ti σ H1 fun i H2=>t o i v H2 fun H3=>Q σ H3
theorem pg_sub{o i:Expr}{to ti:TE}{t:TSet}(ho:PE X o to)(hi:PE X i ti)(hs:PSet X t)
 (ha:∀v,assign (.Subscript o i pos) X.env v=(do
  let ov ←holding [v] (eval o X.env)
  let iv ←holding [v,ov] (eval i X.env)
  standAt pos
  holding [v,ov,iv] (setItem ov iv v)
  release [v,ov,iv] []):=by intro _;rfl):PG X (.Subscript o i pos) (gSub to ti t):=by
 intro pins s σ H v u Q I r h
 rw[ha]
 refine wpAny_bind (wpAny_holding (thn (ho pins s σ H _ I h) fun ov s1 ⟨x,H1,I1,r1,q1⟩=>?_))
 refine wpAny_bind (wpAny_holding (thn (hi pins s1 σ H1 _ I1 q1) fun iv s2 ⟨y,H2,I2,r2,q2⟩=>?_))
 refine wpAny_bind (wpAny_standAt (wpAny_bind (wpAny_holding (thn (hs pins s2 σ H2 x y v ov iv u _ I2 r1 r2 r q2) fun _ s3 ⟨H3,I3,q3⟩=>?_))))
 exact wpAny_release ⟨σ,H3,I3,q3⟩
def tAsg(te:TE)(g:TG):TS:=fun D σ H=>te σ H fun x H1=>g x σ H1 D.nx
theorem ps_asg{tg e:Expr}{te:TE}{g:TG}(he:PE X e te)(hg:PG X tg g)(hs:swapsWithSole [tg] e pos.line X.env=pure false:=by rfl)(hw:swappedStores [tg] e X.env=pure none:=by rfl)
 (h1:(assignEach [tg] X.env).map (·.2)=[assign tg X.env]:=by rfl):PS X (.Assign [tg] e pos) (tAsg te g):=by
 intro pins s σ H D I h
 refine wpAny_Assign_stores (thn (he pins s σ H _ I h) fun v s1 ⟨x,H1,I1,r1,q1⟩=>?_) hs hw
 rw[h1]
 exact thn (hg pins s1 σ H1 x v _ I1 r1 q1) fun _ s2 q=>q
theorem ps_set{i:Nat}{x:Str}{e:Expr}{te:TE}{pos':Pos}(hN:X.N.Nodup)(hi:X.N[i]?=some x)(hx:Loc X.env.scope x)(he:PE X e te)(hs:swapsWith e (some (.Name x pos')) pos.line X.env=pure false:=by rfl)(hf:X.fn x=true∨X.env.scope.names.lookup x=some .local:=by first | exact .inl rfl | exact .inr rfl | assumption):
 PS X (.Assign [.Name x pos'] e pos) (tAsg te (gName i)):=by
 intro pins s σ H D I h
 refine wpAny_Assign_Name (thn (he pins s σ H _ I h) fun v s1 ⟨y,H1,I1,r1,q1⟩=>?_) hs
 exact store_ok I1 hN hi hx r1 (fun s2 I2=>⟨_,H1,I2,q1⟩) hf
def tPar(i j:Nat)(ta:TA):TS:=fun D σ H=>ta σ H fun vs H1=>∃v w,vs=[v,w]∧D.nx ((σ.set i (some v)).set j (some w)) H1
theorem ps_par{i j:Nat}{x y:Str}{a b:Expr}{ta:TA}{px py pt:Pos}{kt k2 pt2}(hc:X.calm=true)(hN:X.N.Nodup)(hi:X.N[i]?=some x)(hj:X.N[j]?=some y)(hij:i≠j)
 (hx:X.env.scope.names.lookup x=some .local)(hy:X.env.scope.names.lookup y=some .local)(ha:PA X [a,b] ta)
 (hw:swappedStores [.Tuple [.Name x px,.Name y py] kt pt] (.Tuple [a,b] k2 pt2) X.env=pure (some [x,y]))
 (hs:swapsWithSole [.Tuple [.Name x px,.Name y py] kt pt] (.Tuple [a,b] k2 pt2) pos.line X.env=pure false:=by rfl):
 PS X (.Assign [.Tuple [.Name x px,.Name y py] kt pt] (.Tuple [a,b] k2 pt2) pos) (tPar i j ta):=by
 intro pins s σ H D I h
 rw[exec_Assign_arm]
 refine wpAny_bind (wpAny_standAt ?_)
 rw[hs]
 refine wpAny_bind (wpAny_pure ?_)
 rw[if_neg (by decide)]
 refine wpAny_bind (Tuple_ (thn (ha _ pins s σ H _ I h) fun us s1 ⟨vs,H1,I1,r1,q1⟩=>?_))
 obtain⟨v,w,e1,q1⟩:=q1
 subst e1
 obtain⟨u1,u2,rfl,rv,rw'⟩:∃u1 u2,us=[u1,u2]∧RelV v u1∧RelV w u2:=by
  cases r1 with
  | cons p q=>
   cases q with
   | cons p' q'=>
    cases q'
    exact⟨_,_,rfl,p,p'⟩
 refine wpAny_newObj_type ?_ (by show 2≤sizeLine;decide)
 have I2:Inv X pins σ H1 { s1 with heap:=s1.heap.push { cls:=.type "tuple",data:=.seq [u1,u2].toArray } }:=I1.kept (t':=s1.toks) fun b o e=>Heap.get?_push_of_some _ e
 rw[hw]
 refine wpAny_bind (wpAny_pure ?_)
 show wpAny (model X.prog X.w) X.A (do rule "assign.swapped-stores";let items ←unpackItems (.ref s1.heap.objs.size) 2 none;assignInOrder [fun v=>bindName X.env y v,fun v=>bindName X.env x v] items.reverse;pure Flow.next) _ _ _
 refine wpAny_bind (wpAny_rule (wpAny_bind (unpackItems_tuple (items:= #[u1,u2]) (I.ok.hd hc) (IsTup.new s1.heap _) fun h' hx'=>?_)))
 have I3:=I2.kept (h':=h') (t':=s1.toks) fun b o e=>hx' b o (Nat.ne_of_lt (Heap.lt_size e)) e
 show wpAny _ _ (assignInOrder [fun v=>bindName X.env y v,fun v=>bindName X.env x v] [u2,u1] >>= fun _=>pure Flow.next) _ _ _
 refine wpAny_bind (assignInOrder_cons (wpAny_bindName (store_ok I3 hN hj (.inl hy) rw' (fun s2 I4=>?_) (.inr hy))))
 refine assignInOrder_cons (wpAny_bindName (store_ok I4 hN hi (.inl hx) rv (fun s3 I5=>assignInOrder_nil (wpAny_pure ?_)) (.inr hx)))
 rw[List.set_comm _ _ (Ne.symm hij)] at I5
 exact⟨_,H1,I5,q1⟩
end
section
variable{X:Cx}{pos:Pos}
def tWhile(c:TT)(tb:TS):TS:=fun D σ H=>∃W:Nat→St→Hp→Prop,(∃m,W m σ H)∧∀m σ H,W m σ H→
 c σ H fun b H1=>if b=true then ∃N:St→Hp→Prop,(∀σ' H',N σ' H'→∃m',m'<m∧W m' σ' H')∧tb { D with nx:=N,ct:=N,bk:=D.nx } σ H1 else D.nx σ H1
theorem ps_while{c:Expr}{body:List Stmt}{tc:TT}{tb:TS}(hp:PassesOwn (model X.prog X.w) X.A X.env X.xe)(hc:PT X c tc)(hb:PSs X body tb):PS X (.While c body [] pos) (tWhile tc tb):=by
 intro pins s σ H D I h
 obtain⟨W,⟨m0,w0⟩,turn⟩:=h
 refine wpAny_While (codeAny_whileLoop (fun n s'=>∃σ' H',Inv X pins σ' H' s'∧W n σ' H') ?_ m0 ⟨σ,H,I,w0⟩)
 rintro n s1 ⟨σ1,H1,I1,w1⟩
 refine wpAny_passesOwn hp (thn (hc pins s1 σ1 H1 _ I1 (turn n σ1 H1 w1)) fun b s2 ⟨H2,I2,q2⟩=>?_)
 cases b with
 | true=>
  obtain⟨N,hN,q2⟩:=q2
  rw[if_pos rfl]
  refine wpAny_passesOwn hp (thn (hb pins s2 σ1 H2 _ I2 q2) fun f s3 q3=>?_)
  cases f with
  | next=>
   obtain⟨σ3,H3,I3,n3⟩:=q3
   obtain⟨m',hm,w3⟩:=hN σ3 H3 n3
   exact⟨m',hm,σ3,H3,I3,w3⟩
  | cont=>
   obtain⟨σ3,H3,I3,n3⟩:=q3
   obtain⟨m',hm,w3⟩:=hN σ3 H3 n3
   exact⟨m',hm,σ3,H3,I3,w3⟩
  | brk=>exact q3
  | ret v=>exact q3
 | false=>
  rw[if_neg Bool.false_ne_true]
  exact wpAny_execs_nil ⟨σ1,H2,I2,q2⟩
end
structure It where
 go:Nat→Hp→Prop
 yld:Nat→Hp→V→Hp→Prop
 stop:Nat→Hp→Prop
def FpOk(X:Cx)(pins:List (Addr×Obj))(H:Hp)(b:Addr):Prop:=
 H b=none∧b≠X.env.locals∧b∉X.fs∧(b∈X.ex∨X.s₀.heap.objs.size≤b)∧(∀x c,X.env.cells.lookup x=some c→c≠b)∧∀p∈X.pn++pins,p.1≠b
theorem Inv.fpOk{X:Cx}{pins:List (Addr×Obj)}{σ:St}{H H':Hp}{s:Shared}{b:Addr}(I:Inv X pins σ H s)(hb:s.heap.objs.size≤b)(hn:H' b=none):FpOk X pins H' b:=by
 refine⟨hn,Nat.ne_of_gt (Nat.lt_of_lt_of_le I.lt hb),I.nofs hb,.inr (Nat.le_trans I.sz hb),fun x c e z=>?_,fun p hp z=>?_⟩
 ·obtain⟨v,q⟩:=I.cell x c e
  exact absurd (Nat.lt_of_lt_of_le q.lt (by rw[z];exact hb)) (Nat.lt_irrefl _)
 ·exact absurd (Nat.lt_of_lt_of_le (Heap.lt_size (I.pin p hp).1) (by rw[z];exact hb)) (Nat.lt_irrefl _)
structure Turn(P:Program)(w:World)(K:PySem.W.Frag)(tg:Expr)(J:It)(fp:List Addr)(it:Addr)(tn:Nat→Heap→Prop):Prop where
 mem:it∈fp
 obj:∀i h,tn i h→∀b∈fp,∃o,h.get? b=some o∧∀v,o.data≠.cell v
 keep:∀i h h',tn i h→(∀b∈fp,∀o,h.get? b=some o→h'.get? b=some o)→tn i h'
 item:∀(X:Cx),X.prog=P→X.w=w→X.K=K→X.calm=true→∀(i:Nat) (pins:List (Addr×Obj)) (s:Shared) (σ:St) (H:Hp) (E:Value→Shared→Prop),Inv X pins σ H s→(∀b∈fp,FpOk X pins H b)→tn i s.heap→J.go i H→
  wpAny (model P w) X.A (pyNext (.ref it)) (fun r s1=>∃u,r=some u∧
   wpAny (model P w) X.A (letOwnedTupleGo tg (.ref it) u) (fun _ s2=>∃x H',Inv X pins σ H' s2∧RelV x u∧J.yld i H x H'∧tn (i+1) s2.heap∧∀b∈fp,H' b=none) E s1) E s
 done:∀(X:Cx),X.prog=P→X.w=w→X.K=K→X.calm=true→∀(i:Nat) (pins:List (Addr×Obj)) (s:Shared) (σ:St) (H:Hp) (E:Value→Shared→Prop),Inv X pins σ H s→(∀b∈fp,FpOk X pins H b)→tn i s.heap→J.stop i H→
  wpAny (model P w) X.A (pyNext (.ref it)) (fun r s1=>r=none∧Inv X pins σ H s1) E s
 self:∀(A:Around) (i:Nat) (s:Shared) (Q:Value→Shared→Prop) (E:Value→Shared→Prop),tn i s.heap→Q (.ref it) s→wpAny (model P w) A (pyIter (.ref it)) Q E s
abbrev TI:=St→Hp→(It→Hp→Prop)→Prop
def PIE(X:Cx)(pins:List (Addr×Obj))(σ:St)(tg:Expr)(R:It→Hp→Prop)(itv:Value)(s2:Shared):Prop:=
 ∃(it:Addr) (fp:List Addr) (tn:Nat→Heap→Prop) (J:It) (H':Hp),itv=.ref it∧Inv X pins σ H' s2∧Turn X.prog X.w X.K tg J fp it tn∧tn 0 s2.heap∧(∀b∈fp,FpOk X pins H' b)∧R J H'
def PI(X:Cx)(tg iter:Expr)(wi:TI):Prop:=
 ∀(pins:List (Addr×Obj)) (s:Shared) (σ:St) (H:Hp) (R:It→Hp→Prop),Inv X pins σ H s→wi σ H R→
  wpAny (model X.prog X.w) X.A (eval iter X.env) (fun v s1=>wpAny (model X.prog X.w) X.A (pyIter v) (PIE X pins σ tg R) X.xe s1) X.xe s
theorem go_of{M:Model}{A:Around}{E:Value→Shared→Prop}{s:Shared}{tg:Expr}{it:Addr}{u:Value}{o:Obj}{n:String}{vs:Array Value}{Q:Unit→Shared→Prop}(ho:s.heap.get? it=some o)(hc:o.cls=.type n)(hd:o.data=.fields vs)
 (hn:["enumerate","zip","dict_itemiterator","dict_reverseitemiterator","odict_iterator","itertools.zip_longest","itertools.pairwise"].contains n=false)(hQ:Q () s):wpAny M A (letOwnedTupleGo tg (.ref it) u) Q E s:=by
 unfold letOwnedTupleGo
 cases tg<;>first
  | exact wpAny_pure hQ
  | (cases u<;>first
   | exact wpAny_pure hQ
   | (refine wpAny_bind (wpAny_load ho ?_)
      rw[hc,hd]
      show wpAny M A (if (["enumerate","zip","dict_itemiterator","dict_reverseitemiterator","odict_iterator","itertools.zip_longest","itertools.pairwise"].contains n&&vs[0]?==some (rawInt _))=true then _ else _) Q E s
      rw[if_neg (by intro h;rw[hn,Bool.false_and] at h;cases h)]
      exact wpAny_pure hQ))
def Itl(K:PySem.W.Frag)(a:Addr):It:=
 ⟨fun i H=>∃xs x,SqL K H a xs∧xs[i]?=some x,fun i H x H'=>H'=H∧∀xs,SqL K H a xs→xs[i]?=some x,fun i H=>∃xs,SqL K H a xs∧xs.length≤i⟩
def Itt(K:PySem.W.Frag)(a:Addr):It:=
 ⟨fun i H=>∃xs x,SqT K H a xs∧xs[i]?=some x,fun i H x H'=>H'=H∧∀xs,SqT K H a xs→xs[i]?=some x,fun i H=>∃xs,SqT K H a xs∧xs.length≤i⟩
def Itr(lo:Int)(n:Nat):It:=⟨fun i _=>i<n,fun i H x H'=>H'=H∧x=.int (lo+i),fun i _=>n≤i⟩
theorem turn_list{P:Program}{w:World}{K:PySem.W.Frag}{tg:Expr}(a it:Addr):Turn P w K tg (Itl K a) [it] it (fun i h=>h.IsListIter it a i) where
 mem:=by simp
 obj:=fun i h st b hb=>by
  have e:b=it:=by simpa using hb
  subst e
  obtain⟨o,e,c,d⟩:=st
  exact⟨o,e,fun v z=>by rw[d] at z;cases z⟩
 keep:=fun i h h' st k=>st.at fun o e=>k it (by simp) o e
 item:=by
  intro X hP hw hK hc i pins s σ H E I hf st hg
  subst hP hw hK
  obtain⟨xs,x,hq,hx⟩:=hg
  obtain⟨its,rv,p,hz⟩:=I.list hq
  obtain⟨u,hu,ru⟩:=rv.get hx
  obtain⟨f0,f1,f2,f3,f4,f5⟩:=hf it (by simp)
  refine wpAny_pyNext_list_item st p.isList (x:=u) (by simpa using hu) fun h' st' sb=>?_
  have I1:Inv X pins σ H { s with heap:=h' }:=I.turned (t':=s.toks) (fun b o hb e=>(sb.2 b hb).trans e) f0 f1 f3 f4 f5
  obtain⟨o,e,c,d⟩:=id st'
  exact⟨u,rfl,go_of (s:={ s with heap:=h' }) e c d (by decide) ⟨x,H,I1,ru,⟨rfl,fun ys hy=>by rw[I.list_inj hy hq];exact hx⟩,st',fun b hb=>(hf b hb).1⟩⟩
 done:=by
  intro X hP hw hK hc i pins s σ H E I hf st hg
  subst hP hw hK
  obtain⟨xs,hq,hx⟩:=hg
  obtain⟨its,rv,p,hz⟩:=I.list hq
  obtain⟨f0,f1,f2,f3,f4,f5⟩:=hf it (by simp)
  have hl:=rv.length
  exact wpAny_pyNext_list_end (I.ok.hd hc) st p.isList (by simp;omega) fun h' eb=>⟨rfl,I.turned (t':=s.toks) (fun b o hb e=>eb b o hb e) f0 f1 f3 f4 f5⟩
 self:=fun _ _ _ _ _ st h=>wpAny_pyIter_listiter st h
theorem turn_tuple{P:Program}{w:World}{K:PySem.W.Frag}{tg:Expr}(a it:Addr):Turn P w K tg (Itt K a) [it] it (fun i h=>h.IsTupleIter it a i) where
 mem:=by simp
 obj:=fun i h st b hb=>by
  have e:b=it:=by simpa using hb
  subst e
  obtain⟨o,e,c,d⟩:=st
  exact⟨o,e,fun v z=>by rw[d] at z;cases z⟩
 keep:=fun i h h' st k=>st.at fun o e=>k it (by simp) o e
 item:=by
  intro X hP hw hK hc i pins s σ H E I hf st hg
  subst hP hw hK
  obtain⟨xs,x,hq,hx⟩:=hg
  obtain⟨its,rv,p,hz⟩:=I.tuple hq
  obtain⟨u,hu,ru⟩:=rv.get hx
  obtain⟨f0,f1,f2,f3,f4,f5⟩:=hf it (by simp)
  refine wpAny_pyNext_tuple_item st (show s.heap.IsTuple a its.toArray from p) (x:=u) (by simpa using hu) fun h' st' sb=>?_
  have I1:Inv X pins σ H { s with heap:=h' }:=I.turned (t':=s.toks) (fun b o hb e=>(sb.2 b hb).trans e) f0 f1 f3 f4 f5
  obtain⟨o,e,c,d⟩:=id st'
  exact⟨u,rfl,go_of (s:={ s with heap:=h' }) e c d (by decide) ⟨x,H,I1,ru,⟨rfl,fun ys hy=>by rw[I.tuple_inj hy hq];exact hx⟩,st',fun b hb=>(hf b hb).1⟩⟩
 done:=by
  intro X hP hw hK hc i pins s σ H E I hf st hg
  subst hP hw hK
  obtain⟨xs,hq,hx⟩:=hg
  obtain⟨its,rv,p,hz⟩:=I.tuple hq
  obtain⟨f0,f1,f2,f3,f4,f5⟩:=hf it (by simp)
  have hl:=rv.length
  exact wpAny_pyNext_tuple_end (I.ok.hd hc) st (show s.heap.IsTuple a its.toArray from p) (by simp;omega) fun h' eb=>⟨rfl,I.turned (t':=s.toks) (fun b o hb e=>eb b o hb e) f0 f1 f3 f4 f5⟩
 self:=fun _ _ _ _ _ st h=>wpAny_pyIter_tupleiter st h
theorem turn_range{P:Program}{w:World}{K:PySem.W.Frag}{tg:Expr}(it:Addr)(lo:Int)(n:Nat):Turn P w K tg (Itr lo n) [it] it (fun i h=>IsRangeIter h it (lo+(i:Nat)*1) ((n:Int)-(i:Nat)) 1) where
 mem:=by simp
 obj:=fun i h st b hb=>by
  have e:b=it:=by simpa using hb
  subst e
  exact⟨_,st,fun v z=>by
   have z':Data.fields _=Data.cell v:=z
   cases z'⟩
 keep:=fun i h h' st k=>k it (by simp) _ st
 item:=by
  intro X hP hw hK hc i pins s σ H E I hf st hg
  subst hP hw hK
  obtain⟨f0,f1,f2,f3,f4,f5⟩:=hf it (by simp)
  have W:=Walks.range (prog:=X.prog) (w:=X.w) (I.ok.hd hc) it lo 1 n
  refine W.item i s _ _ hg st fun v h' tk hv st' kk=>?_
  obtain⟨t,rfl⟩:=hv
  have I1:Inv X pins σ H { s with heap:=h',toks:=tk }:=I.turned (fun b o hb e=>kk b o (by simpa using hb) e) f0 f1 f3 f4 f5
  refine⟨_,rfl,go_of (s:={ s with heap:=h',toks:=tk }) (n:="range_iterator") st' rfl rfl (by decide) ⟨.int (lo+i),H,I1,⟨t,?_⟩,⟨rfl,rfl⟩,st',fun b hb=>(hf b hb).1⟩⟩
  rw[Int.mul_one]
 done:=by
  intro X hP hw hK hc i pins s σ H E I hf st hg
  subst hP hw hK
  obtain⟨f0,f1,f2,f3,f4,f5⟩:=hf it (by simp)
  exact wpAny_pyNext_range_end (I.ok.hd hc) st (by have:n≤i:=hg;omega) fun h' eb=>⟨rfl,I.turned (t':=s.toks) (fun b o hb e=>eb b o hb e) f0 f1 f3 f4 f5⟩
 self:=fun _ _ _ _ _ st h=>wpAny_pyIter_rangeiter st h
end L2
namespace L2
open PySem PySem.Spec PyProof.Rows
section
variable{X:Cx}{tg:Expr}
def iList(K:PySem.W.Frag)(tl:TE):TI:=fun σ H R=>tl σ H fun x H1=>∃a,x=.ref a∧(∃xs,SqL K H1 a xs)∧R (Itl K a) H1
def iTup(K:PySem.W.Frag)(tl:TE):TI:=fun σ H R=>tl σ H fun x H1=>∃a,x=.ref a∧(∃xs,SqT K H1 a xs)∧R (Itt K a) H1
theorem pi_list{l:Expr}{tl:TE}(hl:PE X l tl):PI X tg l (iList X.K tl):=by
 intro pins s σ H R I h
 refine thn (hl pins s σ H _ I h) fun v s1 ⟨x,H1,I1,r1,q1⟩=>?_
 obtain⟨a,e,⟨xs,hq⟩,q⟩:=q1
 subst e
 cases r1
 obtain⟨its,rv,p,hz⟩:=I1.list hq
 refine wpAny_pyIter_list p.isList ?_
 refine⟨s1.heap.objs.size,[s1.heap.objs.size],_,_,H1,rfl,I1.kept (t':=s1.toks) fun b o e=>Heap.get?_push_of_some _ e,turn_list a _,⟨_,Heap.get?_push_size _ rfl,rfl,rfl⟩,fun b hb=>?_,q⟩
 have e:b=s1.heap.objs.size:=by simpa using hb
 subst e
 exact I1.fpOk (Nat.le_refl _) (I1.hok.fresh (Nat.le_refl _))
theorem pi_tup{l:Expr}{tl:TE}(hl:PE X l tl):PI X tg l (iTup X.K tl):=by
 intro pins s σ H R I h
 refine thn (hl pins s σ H _ I h) fun v s1 ⟨x,H1,I1,r1,q1⟩=>?_
 obtain⟨a,e,⟨xs,hq⟩,q⟩:=q1
 subst e
 cases r1
 obtain⟨its,rv,p,hz⟩:=I1.tuple hq
 refine wpAny_pyIter_tuple (show s1.heap.IsTuple a its.toArray from p) ?_
 refine⟨s1.heap.objs.size,[s1.heap.objs.size],_,_,H1,rfl,I1.kept (t':=s1.toks) fun b o e=>Heap.get?_push_of_some _ e,turn_tuple a _,⟨_,Heap.get?_push_size _ rfl,rfl,rfl⟩,fun b hb=>?_,q⟩
 have e:b=s1.heap.objs.size:=by simpa using hb
 subst e
 exact I1.fpOk (Nat.le_refl _) (I1.hok.fresh (Nat.le_refl _))
theorem range_it{pins:List (Addr×Obj)}{σ:St}{H:Hp}{s:Shared}{R:It→Hp→Prop}{E:Value→Shared→Prop}{lo hi:Int}{t u v:Tok}{tk:Nat}(I:Inv X pins σ H s)(h1: -(2^62)≤lo)(h2:lo<2^62)(h3: -(2^62)≤hi)(h4:hi<2^62)
 (q:R (Itr lo (hi-lo).toNat) H):wpAny (model X.prog X.w) X.A (pyIter (.ref s.heap.objs.size)) (PIE X pins σ tg R) E { s with heap:=s.heap.push { cls:=.type "range",data:=.fields #[.int lo t,.int hi u,.int 1 v] },toks:=tk }:=by
 refine wpAny_pyIter_range (IsRange.new ..) (small_one h1 h2 h3 h4) ?_
 have I1:Inv X pins σ H { s with heap:=s.heap.push { cls:=.type "range",data:=.fields #[.int lo t,.int hi u,.int 1 v] },toks:=tk }:=I.kept fun b o e=>Heap.get?_push_of_some _ e
 refine⟨(s.heap.push { cls:=.type "range",data:=.fields #[.int lo t,.int hi u,.int 1 v] }).objs.size,[(s.heap.push { cls:=.type "range",data:=.fields #[.int lo t,.int hi u,.int 1 v] }).objs.size],_,_,H,rfl,
  I1.kept (t':=tk) fun b o e=>Heap.get?_push_of_some _ e,turn_range _ lo (hi-lo).toNat,?_,fun b hb=>?_,q⟩
 ·have e1:lo+((0:Nat):Int)*1=lo:=by simp
  have e2:(((hi-lo).toNat:Nat):Int)-((0:Nat):Int)=Builtin.Range.rangeSize lo hi 1:=by rw[rangeSize_one];split<;>omega
  show IsRangeIter _ _ (lo+((0:Nat):Int)*1) ((((hi-lo).toNat:Nat):Int)-((0:Nat):Int)) 1
  rw[e1,e2]
  exact Heap.get?_push_size _ rfl
 ·have e:b=(s.heap.push { cls:=.type "range",data:=.fields #[.int lo t,.int hi u,.int 1 v] }).objs.size:=by simpa using hb
  subst e
  exact I1.fpOk (Nat.le_refl _) (I1.hok.fresh (Nat.le_refl _))
def iRng1(ta:TA):TI:=fun σ H R=>ta σ H fun vs H1=>∃j:Int,vs=[.int j]∧ -(2^62)≤j∧j<2^62∧R (Itr 0 j.toNat) H1
theorem pi_range1{a:Expr}{ta:TA}{p pos:Pos}(hg:Gl X "range")(hm:X.mg "range"=none)(ha:PA X [a] ta)(hs:starEach [a] X.env=[(false,eval a X.env)]:=by rfl):PI X tg (.Call (.Name "range" p) [a] [] pos) (iRng1 ta):=by
 intro pins s σ H R I h
 refine Call_ (ld_blt I hg hm boot_range (PyProof.Rows.callWith_type1 (thn (ha pos pins s σ H _ I h) fun us s1 ⟨vs,H1,I1,r1,q1⟩=>?_) hs rfl))
 obtain⟨j,e,q1,q2,q⟩:=q1
 subst e
 cases r1 with
 | cons r rr=>
  cases rr
  obtain⟨t,rfl⟩:=r
  exact call_range_1 (range_it I1 (by omega) (by omega) q1 q2 (by simpa using q))
def tFor(wi:TI)(g:TG)(tb:TS):TS:=fun D σ H=>wi σ H fun J H1=>∃W:Nat→Nat→St→Hp→Prop,(∃m,W 0 m σ H1)∧∀i m σ H,W i m σ H→
 (J.stop i H∧D.nx σ H)∨(J.go i H∧∃N:St→Hp→Prop,(∀σ' H',N σ' H'→∃m',m'<m∧W (i+1) m' σ' H')∧∀x H',J.yld i H x H'→g x σ H' fun σ2 H2=>tb { D with nx:=N,ct:=N,bk:=D.nx } σ2 H2)
def pinsAt(fp:List Addr)(h:Heap):List (Addr×Obj):=fp.filterMap fun b=>(h.get? b).map fun o=>(b,o)
theorem mem_pinsAt{fp:List Addr}{h:Heap}{b:Addr}{o:Obj}(hb:b∈fp)(e:h.get? b=some o):(b,o)∈pinsAt fp h:=List.mem_filterMap.mpr ⟨b,hb,by rw[e];rfl⟩
theorem of_pinsAt{fp:List Addr}{h:Heap}{p:Addr×Obj}(hp:p∈pinsAt fp h):p.1∈fp∧h.get? p.1=some p.2:=by
 obtain⟨b,hb,e⟩:=List.mem_filterMap.mp hp
 cases q:h.get? b with
 | none=>rw[q] at e;cases e
 | some o=>
  rw[q] at e
  have e':(b,o)=p:=Option.some.inj e
  subst e'
  exact⟨hb,q⟩
theorem Inv.pinned{pins:List (Addr×Obj)}{σ:St}{H:Hp}{s:Shared}{fp:List Addr}(I:Inv X pins σ H s)(hf:∀b∈fp,FpOk X pins H b)(ho:∀b∈fp,∃o,s.heap.get? b=some o∧∀v,o.data≠.cell v):Inv X (pins++pinsAt fp s.heap) σ H s:=
 I.pins_of fun p hp=>(List.mem_append.mp hp).elim (fun z=>I.pin p (List.mem_append_right _ z)) fun z=>by
  obtain⟨hb,e⟩:=of_pinsAt z
  obtain⟨f0,f1,f2,_⟩:=hf p.1 hb
  obtain⟨o,e',d⟩:=ho p.1 hb
  rw[e] at e';cases e'
  exact⟨e,f0,f1,f2,d⟩
theorem Inv.unpinned{pins pl:List (Addr×Obj)}{σ:St}{H:Hp}{s:Shared}(I:Inv X (pins++pl) σ H s):Inv X pins σ H s:=I.pins_of fun p hp=>I.pin p (List.mem_append_right _ (List.mem_append_left _ hp))
theorem ps_for{iter:Expr}{body:List Stmt}{wi:TI}{g:TG}{tb:TS}{pos:Pos}(hp:PassesOwn (model X.prog X.w) X.A X.env X.xe)(hc:X.calm=true)(hi:PI X tg iter wi)(hg:PG X tg g)(hb:PSs X body tb)
 (hs:∀x,foldedSetIterable iter X.env x=pure x:=by intro _;rfl):PS X (.For tg iter body [] pos) (tFor wi g tb):=by
 intro pins s σ H D I h
 refine wpAny_For (thn (hi pins s σ H _ I h) fun v s1 h1=>thn h1 fun itv s2 h2=>?_) hs
 obtain⟨it,fp,tn,J,H2,e,I2,T,st2,f2,W,⟨m0,w0⟩,turn⟩:=h2
 subst e
 have stat:∀{H':Hp},(∀b∈fp,H' b=none)→∀b∈fp,FpOk X pins H' b:=fun hn b hb=>⟨hn b hb,(f2 b hb).2⟩
 refine codeAny_forLoop_any (fun n s'=>∃i σ' H',Inv X pins σ' H' s'∧tn i s'.heap∧(∀b∈fp,H' b=none)∧W i n σ' H') ?_ m0 ⟨0,σ,H2,I2,st2,fun b hb=>(f2 b hb).1,w0⟩
 rintro n s3 ⟨i,σ3,H3,I3,st3,fr3,w3⟩
 rcases turn i n σ3 H3 w3 with ⟨stop,qn⟩ | ⟨go,N,hN,step⟩
 ·refine wpAny_passesOwn hp (thn (T.done X rfl rfl rfl hc i pins s3 σ3 H3 X.xe I3 (stat fr3) st3 stop) fun r s4 ⟨hr,I4⟩=>?_)
  subst hr
  exact wpAny_execs_nil ⟨σ3,H3,I4,qn⟩
 ·refine wpAny_passesOwn hp (thn (T.item X rfl rfl rfl hc i pins s3 σ3 H3 X.xe I3 (stat fr3) st3 go) fun r s4 ⟨u,hr,h4⟩=>?_)
  subst hr
  refine wpAny_passesOwn hp (thn h4 fun _ s5 ⟨x,H5,I5,r5,y5,st5,fr5⟩=>?_)
  have I5':=I5.pinned (stat fr5) (T.obj _ _ st5)
  refine wpAny_passesOwn hp (thn (hg _ s5 σ3 H5 x u _ I5' r5 (step x H5 y5)) fun _ s6 ⟨σ6,H6,I6,q6⟩=>?_)
  refine wpAny_passesOwn hp (thn (hb _ s6 σ6 H6 _ I6 q6) fun f s7 q7=>?_)
  have again:∀{σ7:St} {H7:Hp},Inv X (pins++pinsAt fp s5.heap) σ7 H7 s7→N σ7 H7→∃m,m<n∧∃i σ' H',Inv X pins σ' H' s7∧tn i s7.heap∧(∀b∈fp,H' b=none)∧W i m σ' H':=fun{σ7 H7} I7 n7=>by
   obtain⟨m',hm,w7⟩:=hN σ7 H7 n7
   refine⟨m',hm,i+1,σ7,H7,I7.unpinned,T.keep _ _ _ st5 fun b hb o e=>(I7.pin (b,o) (List.mem_append_right _ (List.mem_append_right _ (mem_pinsAt hb e)))).1,fun b hb=>?_,w7⟩
   obtain⟨o,e,d⟩:=T.obj _ _ st5 b hb
   exact(I7.pin (b,o) (List.mem_append_right _ (List.mem_append_right _ (mem_pinsAt hb e)))).2.1
  cases f with
  | next=>obtain⟨σ7,H7,I7,n7⟩:=q7;exact again I7 n7
  | cont=>obtain⟨σ7,H7,I7,n7⟩:=q7;exact again I7 n7
  | brk=>obtain⟨σ7,H7,I7,q7⟩:=q7;exact⟨σ7,H7,I7.unpinned,q7⟩
  | ret v=>obtain⟨x7,σ7,H7,I7,r7,q7⟩:=q7;exact⟨x7,σ7,H7,I7.unpinned,r7,q7⟩
end
theorem for_list{K:PySem.W.Frag}{a:Addr}{xs:List V}{g:TG}{tb:TS}{D:Ends}{σ:St}{H:Hp}(Pv:Nat→St→Hp→Prop)(h0:Pv 0 σ H)(hl:∀i σ H,i≤xs.length→Pv i σ H→SqL K H a xs)
 (hs:∀i x σ H,xs[i]?=some x→Pv i σ H→g x σ H fun σ2 H2=>tb { D with nx:=Pv (i+1),ct:=Pv (i+1),bk:=D.nx } σ2 H2)(hd:∀σ H,Pv xs.length σ H→D.nx σ H):
 ∃W:Nat→Nat→St→Hp→Prop,(∃m,W 0 m σ H)∧∀i m σ H,W i m σ H→
  ((Itl K a).stop i H∧D.nx σ H)∨((Itl K a).go i H∧∃N:St→Hp→Prop,(∀σ' H',N σ' H'→∃m',m'<m∧W (i+1) m' σ' H')∧∀x H',(Itl K a).yld i H x H'→g x σ H' fun σ2 H2=>tb { D with nx:=N,ct:=N,bk:=D.nx } σ2 H2):=by
 refine⟨fun i m σ H=>m=xs.length-i∧i≤xs.length∧Pv i σ H,⟨xs.length,by simp,Nat.zero_le _,h0⟩,?_⟩
 rintro i m σ H ⟨rfl,hi,p⟩
 have q:=hl i σ H hi p
 by_cases hlt:i<xs.length
 ·refine .inr ⟨⟨xs,xs[i],q,by simp[hlt]⟩,Pv (i+1),fun σ' H' p'=>⟨xs.length-(i+1),by omega,rfl,hlt,p'⟩,fun x H' y=>?_⟩
  obtain⟨e,y⟩:=y
  subst e
  exact hs i x σ _ (y xs q) p
 ·have e:i=xs.length:=by omega
  subst e
  exact .inl ⟨⟨xs,q,Nat.le_refl _⟩,hd σ H p⟩
theorem for_tup{K:PySem.W.Frag}{a:Addr}{xs:List V}{g:TG}{tb:TS}{D:Ends}{σ:St}{H:Hp}(Pv:Nat→St→Hp→Prop)(h0:Pv 0 σ H)(hl:∀i σ H,i≤xs.length→Pv i σ H→SqT K H a xs)
 (hs:∀i x σ H,xs[i]?=some x→Pv i σ H→g x σ H fun σ2 H2=>tb { D with nx:=Pv (i+1),ct:=Pv (i+1),bk:=D.nx } σ2 H2)(hd:∀σ H,Pv xs.length σ H→D.nx σ H):
 ∃W:Nat→Nat→St→Hp→Prop,(∃m,W 0 m σ H)∧∀i m σ H,W i m σ H→
  ((Itt K a).stop i H∧D.nx σ H)∨((Itt K a).go i H∧∃N:St→Hp→Prop,(∀σ' H',N σ' H'→∃m',m'<m∧W (i+1) m' σ' H')∧∀x H',(Itt K a).yld i H x H'→g x σ H' fun σ2 H2=>tb { D with nx:=N,ct:=N,bk:=D.nx } σ2 H2):=by
 refine⟨fun i m σ H=>m=xs.length-i∧i≤xs.length∧Pv i σ H,⟨xs.length,by simp,Nat.zero_le _,h0⟩,?_⟩
 rintro i m σ H ⟨rfl,hi,p⟩
 have q:=hl i σ H hi p
 by_cases hlt:i<xs.length
 ·refine .inr ⟨⟨xs,xs[i],q,by simp[hlt]⟩,Pv (i+1),fun σ' H' p'=>⟨xs.length-(i+1),by omega,rfl,hlt,p'⟩,fun x H' y=>?_⟩
  obtain⟨e,y⟩:=y
  subst e
  exact hs i x σ _ (y xs q) p
 ·have e:i=xs.length:=by omega
  subst e
  exact .inl ⟨⟨xs,q,Nat.le_refl _⟩,hd σ H p⟩
theorem for_range{lo:Int}{n:Nat}{g:TG}{tb:TS}{D:Ends}{σ:St}{H:Hp}(Pv:Nat→St→Hp→Prop)(h0:Pv 0 σ H)
 (hs:∀i σ H,i<n→Pv i σ H→g (.int (lo+i)) σ H fun σ2 H2=>tb { D with nx:=Pv (i+1),ct:=Pv (i+1),bk:=D.nx } σ2 H2)(hd:∀σ H,Pv n σ H→D.nx σ H):
 ∃W:Nat→Nat→St→Hp→Prop,(∃m,W 0 m σ H)∧∀i m σ H,W i m σ H→
  ((Itr lo n).stop i H∧D.nx σ H)∨((Itr lo n).go i H∧∃N:St→Hp→Prop,(∀σ' H',N σ' H'→∃m',m'<m∧W (i+1) m' σ' H')∧∀x H',(Itr lo n).yld i H x H'→g x σ H' fun σ2 H2=>tb { D with nx:=N,ct:=N,bk:=D.nx } σ2 H2):=by
 refine⟨fun i m σ H=>m=n-i∧i≤n∧Pv i σ H,⟨n,by simp,Nat.zero_le _,h0⟩,?_⟩
 rintro i m σ H ⟨rfl,hi,p⟩
 by_cases hlt:i<n
 ·refine .inr ⟨hlt,Pv (i+1),fun σ' H' p'=>⟨n-(i+1),by omega,rfl,hlt,p'⟩,fun x H' y=>?_⟩
  obtain⟨e,y⟩:=y
  subst e y
  exact hs i σ _ hlt p
 ·have e:i=n:=by omega
  subst e
  exact .inl ⟨Nat.le_refl _,hd σ H p⟩
end L2
namespace L2
open PySem PySem.Spec PyProof.Rows
abbrev R2:=V→V→Hp→VK→Prop
def OpR(X:Cx)(f:Value→Value→Sem Value)(r:R2):Prop:=
 ∀(pins:List (Addr×Obj)) (s:Shared) (σ:St) (H:Hp) (x y:V) (v u:Value) (Q:VK),Inv X pins σ H s→RelV x v→RelV y u→r x y H Q→
  wpAny (model X.prog X.w) X.A (f v u) (EP X pins σ Q) X.xe s
def UnR(X:Cx)(f:Value→Sem Value)(r:V→Hp→VK→Prop):Prop:=
 ∀(pins:List (Addr×Obj)) (s:Shared) (σ:St) (H:Hp) (x:V) (v:Value) (Q:VK),Inv X pins σ H s→RelV x v→r x H Q→
  wpAny (model X.prog X.w) X.A (f v) (EP X pins σ Q) X.xe s
def CallR(X:Cx)(f:Value)(r:List V→Hp→VK→Prop):Prop:=
 ∀(pins:List (Addr×Obj)) (s:Shared) (σ:St) (H:Hp) (xs:List V) (us:List Value) (Q:VK),Inv X pins σ H s→Vals xs us→r xs H Q→
  wpAny (model X.prog X.w) X.A (call f us) (EP X pins σ Q) X.xe s
def TruR(X:Cx)(r:V→Hp→(Bool→Hp→Prop)→Prop):Prop:=
 ∀(pins:List (Addr×Obj)) (s:Shared) (σ:St) (H:Hp) (x:V) (v:Value) (Q:Bool→Hp→Prop),Inv X pins σ H s→RelV x v→r x H Q→
  wpAny (model X.prog X.w) X.A (truthy v) (TP X pins σ Q) X.xe s
def tOp(r:R2)(ta tb:TE):TE:=fun σ H Q=>ta σ H fun x H1=>tb σ H1 fun y H2=>r x y H2 Q
def tUn(r:V→Hp→VK→Prop)(ta:TE):TE:=fun σ H Q=>ta σ H fun x H1=>r x H1 Q
def rI(C:Int→Int→Prop)(g:Int→Int→V):R2:=fun x y H Q=>∃i j,x=.int i∧y=.int j∧C i j∧Q (g i j) H
def rI0(g:Int→Int→V):R2:=fun x y H Q=>∃i j,x=.int i∧y=.int j∧Q (g i j) H
def rU(g:Int→V):V→Hp→VK→Prop:=fun x H Q=>∃i,x=.int i∧Q (g i) H
section
variable{X:Cx}{a b c:Expr}{ta tb tc:TE}{pos:Pos}
theorem binT(ha:PE X a ta)(hb:PE X b tb){pins:List (Addr×Obj)}{s:Shared}{σ:St}{H:Hp}{R:V→V→Hp→Prop}(I:Inv X pins σ H s)
 (h:ta σ H fun x H1=>tb σ H1 fun y H2=>R x y H2){Q:Value→Shared→Prop}{f:Value→Value→Sem Value}
 (hf:∀v u s2 x y H2,Inv X pins σ H2 s2→RelV x v→RelV y u→R x y H2→wpAny (model X.prog X.w) X.A (f v u) Q X.xe s2):
 wpAny (model X.prog X.w) X.A (eval a X.env) (fun v s₁=>wpAny (model X.prog X.w) X.A (eval b X.env) (fun u s₂=>wpAny (model X.prog X.w) X.A (f v u) Q X.xe s₂) X.xe s₁) X.xe s:=by
 refine thn (ha pins s σ H _ I h) fun v s1 ⟨x,H1,I1,r1,q1⟩=>?_
 refine thn (hb pins s1 σ H1 _ I1 q1) fun u s2 ⟨y,H2,I2,r2,q2⟩=>?_
 exact hf v u s2 x y H2 I2 r1 r2 q2
theorem pe_op{op:Operator}{r:R2}(ho:OpR X (binaryOp op) r)(ha:PE X a ta)(hb:PE X b tb):PE X (.BinOp a op b pos) (tOp r ta tb):=by
 intro pins s σ H Q I h
 exact wpAny_BinOp (binT ha hb I h fun v u s2 x y H2 I2 rx ry q=>ho pins s2 σ H2 x y v u Q I2 rx ry q)
theorem pe_un{op:UnaryOp}{r:V→Hp→VK→Prop}(ho:UnR X (unaryOp op) r)(ha:PE X a ta):PE X (.UnaryOp op a pos) (tUn r ta):=by
 intro pins s σ H Q I h
 exact UnaryOp_ (thn (ha pins s σ H _ I h) fun v s1 ⟨x,H1,I1,r1,q1⟩=>ho pins s1 σ H1 x v Q I1 r1 q1)
theorem opI{f:Value→Value→Sem Value}{C:Int→Int→Prop}{g:Int→Int→Int}
 (rule:∀(i j:Int) (t u:Tok) (s:Shared) (Q:Value→Shared→Prop) (E:Value→Shared→Prop),C i j→Q (.int (g i j) s.toks) { s with toks:=s.toks+1 }→wpAny (model X.prog X.w) X.A (f (.int i t) (.int j u)) Q E s):
 OpR X f (rI C fun i j=>.int (g i j)):=by
 intro pins s σ H x y v u Q I rx ry h
 obtain⟨i,j,rfl,rfl,hc,q⟩:=h
 obtain⟨t,rfl⟩:=rx
 obtain⟨t',rfl⟩:=ry
 exact rule i j t t' s _ _ hc ⟨.int (g i j),H,I.tok _,⟨_,rfl⟩,q⟩
theorem opI0{f:Value→Value→Sem Value}{g:Int→Int→Int}
 (rule:∀(i j:Int) (t u:Tok) (s:Shared) (Q:Value→Shared→Prop) (E:Value→Shared→Prop),Q (.int (g i j) s.toks) { s with toks:=s.toks+1 }→wpAny (model X.prog X.w) X.A (f (.int i t) (.int j u)) Q E s):
 OpR X f (rI0 fun i j=>.int (g i j)):=by
 intro pins s σ H x y v u Q I rx ry h
 obtain⟨i,j,rfl,rfl,q⟩:=h
 obtain⟨t,rfl⟩:=rx
 obtain⟨t',rfl⟩:=ry
 exact rule i j t t' s _ _ ⟨.int (g i j),H,I.tok _,⟨_,rfl⟩,q⟩
theorem opB0{f:Value→Value→Sem Value}{g:Int→Int→Bool}
 (rule:∀(i j:Int) (t u:Tok) (s:Shared) (Q:Value→Shared→Prop) (E:Value→Shared→Prop),Q (.bool (g i j)) s→wpAny (model X.prog X.w) X.A (f (.int i t) (.int j u)) Q E s):
 OpR X f (rI0 fun i j=>.bl (g i j)):=by
 intro pins s σ H x y v u Q I rx ry h
 obtain⟨i,j,rfl,rfl,q⟩:=h
 obtain⟨t,rfl⟩:=rx
 obtain⟨t',rfl⟩:=ry
 exact rule i j t t' s _ _ ⟨.bl (g i j),H,I,rfl,q⟩
def CPow(i j:Int):Prop:=0≤j∧j≤1000000∧i.natAbs<2^64
def CMul(i j:Int):Prop:=(-(2^64)<i∧i<2^64)∨(-(2^64)<j∧j<2^64)
theorem CMul.ok{i j:Int}(h:CMul i j):IntMulOk i j:=by
 rcases h with ⟨h1,h2⟩ | ⟨h1,h2⟩
 ·exact .of_left (intBits_le_64 h1 h2)
 ·exact .of_right (intBits_le_64 h1 h2)
theorem two_pow_nn(k:Nat):(0:Int)≤2^k:=by
 rw[two_pow_cast]
 exact Int.natCast_nonneg _
theorem op_add:OpR X (binaryOp .Add) (rI0 fun i j=>.int (i+j)):=opI0 fun _ _ _ _ _ _ _ q=>add_int q
theorem op_sub:OpR X (binaryOp .Sub) (rI0 fun i j=>.int (i-j)):=opI0 fun _ _ _ _ _ _ _ q=>sub_int q
theorem op_mod:OpR X (binaryOp .Mod) (rI (fun _ j=>0<j) fun i j=>.int (i%j)):=opI fun i j _ _ _ _ _ hc q=>by
 have h1:(0:Int)<j:=hc
 exact mod_int' (by omega) (by rw[Int.fmod_eq_emod_of_nonneg i (by omega)];exact q)
theorem op_pow:OpR X (binaryOp .Pow) (rI CPow fun i j=>.int (i^j.toNat)):=opI fun _ _ _ _ _ _ _ hc q=>pow_int_small hc.1 hc.2.1 hc.2.2 q
theorem op_shr:OpR X (binaryOp .RShift) (rI (fun _ j=>0≤j) fun i j=>.int (i/2^j.toNat)):=opI fun i j _ _ _ _ _ hc q=>
 rshift_int hc (by rw[Int.fdiv_eq_ediv_of_nonneg i (two_pow_nn _)];exact q)
theorem op_and:OpR X (binaryOp .BitAnd) (rI0 fun i j=>.int (Builtin.bitAnd i j)):=opI0 fun _ _ _ _ _ _ _ q=>and_int q
theorem op_or:OpR X (binaryOp .BitOr) (rI0 fun i j=>.int (Builtin.bitOr i j)):=opI0 fun _ _ _ _ _ _ _ q=>or_int q
theorem op_xor:OpR X (binaryOp .BitXor) (rI0 fun i j=>.int (Builtin.bitXor i j)):=opI0 fun _ _ _ _ _ _ _ q=>xor_int q
theorem unI{f:Value→Sem Value}{g:Int→Int}
 (rule:∀(i:Int) (t:Tok) (s:Shared) (Q:Value→Shared→Prop) (E:Value→Shared→Prop),Q (.int (g i) s.toks) { s with toks:=s.toks+1 }→wpAny (model X.prog X.w) X.A (f (.int i t)) Q E s):
 UnR X f (rU fun i=>.int (g i)):=by
 intro pins s σ H x v Q I rx h
 obtain⟨i,rfl,q⟩:=h
 obtain⟨t,rfl⟩:=rx
 exact rule i t s _ _ ⟨.int (g i),H,I.tok _,⟨_,rfl⟩,q⟩
theorem un_neg:UnR X (unaryOp .USub) (rU fun i=>.int (-i)):=unI fun _ _ _ _ _ q=>neg_int q
end
def scal:V→V→Bool
 | .non,.non=>true | .non,.int _=>true | .int _,.non=>true | .non,.bl _=>true | .bl _,.non=>true | .non,.str _=>true | .str _,.non=>true
 | .int _,.int _=>true | .bl _,.bl _=>true | .str _,.str _=>true | .byt _,.byt _=>true
 | .int _,.str _=>true | .str _,.int _=>true | .bl _,.str _=>true | .str _,.bl _=>true
 | _,_=>false
def rEq:R2:=fun x y H Q=>scal x y=true∧Q (.bl (decide (x=y))) H
def rNe:R2:=fun x y H Q=>scal x y=true∧Q (.bl (!decide (x=y))) H
theorem dec_int{i j:Int}:decide (V.int i=V.int j)=(i==j):=by
 rw[Bool.eq_iff_iff]
 simp
theorem dec_bl{i j:Bool}:decide (V.bl i=V.bl j)=(i==j):=by
 rw[Bool.eq_iff_iff]
 simp
theorem dec_str{i j:Str}:decide (V.str i=V.str j)=(i==j):=by
 rw[Bool.eq_iff_iff]
 simp
theorem dec_byt{i j:Array UInt8}:decide (V.byt i=V.byt j)=(i.toList==j.toList):=by
 rw[Bool.eq_iff_iff]
 cases i
 cases j
 simp
section
variable{X:Cx}{a b c:Expr}{ta tb tc:TE}{pos:Pos}
theorem fin_bl{pins:List (Addr×Obj)}{σ:St}{H:Hp}{s:Shared}{Q:VK}{k k':Bool}(I:Inv X pins σ H s)(q:Q (.bl k) H)(e:k=k'):EP X pins σ Q (.bool k') s:=by
 subst e
 exact⟨.bl k,H,I,rfl,q⟩
theorem op_eq:OpR X (compareOp .Eq) rEq:=by
 intro pins s σ H x y v u Q I rx ry h
 obtain⟨hs,q⟩:=h
 cases x with
 | non=>
  cases rx
  cases y with
  | non=>cases ry;exact PySem.EqNone.eq_none_none (fin_bl I q (by simp))
  | bl j=>cases ry;exact PySem.EqNone.eq_none_bool (fin_bl I q (by simp))
  | int j=>obtain⟨t',rfl⟩:=ry;exact PySem.EqNone.eq_none_int (fin_bl I q (by simp))
  | str j=>obtain⟨t',rfl⟩:=ry;exact PySem.EqNone.eq_none_str (fin_bl I q (by simp))
  | _=>exact absurd (show false=true from hs) Bool.false_ne_true
 | bl i=>
  cases rx
  cases y with
  | non=>cases ry;exact PySem.EqNone.eq_bool_none (fin_bl I q (by simp))
  | bl j=>cases ry;exact eq_bool (fin_bl I q dec_bl)
  | str j=>obtain⟨t',rfl⟩:=ry;exact PySem.EqMixed.eq_bool_str (fin_bl I q (by simp))
  | _=>exact absurd (show false=true from hs) Bool.false_ne_true
 | int i=>
  obtain⟨t,rfl⟩:=rx
  cases y with
  | non=>cases ry;exact PySem.EqNone.eq_int_none (fin_bl I q (by simp))
  | int j=>obtain⟨t',rfl⟩:=ry;exact eq_int (fin_bl I q dec_int)
  | str j=>obtain⟨t',rfl⟩:=ry;exact PySem.EqMixed.eq_int_str (fin_bl I q (by simp))
  | _=>exact absurd (show false=true from hs) Bool.false_ne_true
 | str i=>
  obtain⟨t,rfl⟩:=rx
  cases y with
  | non=>cases ry;exact PySem.EqNone.eq_str_none (fin_bl I q (by simp))
  | bl j=>cases ry;exact PySem.EqMixed.eq_str_bool (fin_bl I q (by simp))
  | int j=>obtain⟨t',rfl⟩:=ry;exact PySem.EqMixed.eq_str_int (fin_bl I q (by simp))
  | str j=>obtain⟨t',rfl⟩:=ry;exact eq_str (fin_bl I q dec_str)
  | _=>exact absurd (show false=true from hs) Bool.false_ne_true
 | byt i=>
  obtain⟨t,rfl⟩:=rx
  cases y with
  | byt j=>obtain⟨t',rfl⟩:=ry;exact PySem.W.eq_bytes (fin_bl I q dec_byt)
  | _=>exact absurd (show false=true from hs) Bool.false_ne_true
 | _=>cases y<;>exact absurd (show false=true from hs) Bool.false_ne_true
theorem op_ne:OpR X (compareOp .NotEq) rNe:=by
 intro pins s σ H x y v u Q I rx ry h
 obtain⟨hs,q⟩:=h
 cases x with
 | non=>
  cases rx
  cases y with
  | non=>cases ry;exact PySem.EqNone.ne_none_none (fin_bl I q (by simp))
  | bl j=>cases ry;exact PySem.EqNone.ne_none_bool (fin_bl I q (by simp))
  | int j=>obtain⟨t',rfl⟩:=ry;exact PySem.EqNone.ne_none_int (fin_bl I q (by simp))
  | str j=>obtain⟨t',rfl⟩:=ry;exact PySem.EqNone.ne_none_str (fin_bl I q (by simp))
  | _=>exact absurd (show false=true from hs) Bool.false_ne_true
 | bl i=>
  cases rx
  cases y with
  | non=>cases ry;exact PySem.EqNone.ne_bool_none (fin_bl I q (by simp))
  | bl j=>cases ry;exact ne_bool (fin_bl I q (congrArg not dec_bl))
  | str j=>obtain⟨t',rfl⟩:=ry;exact PySem.EqMixed.ne_bool_str (fin_bl I q (by simp))
  | _=>exact absurd (show false=true from hs) Bool.false_ne_true
 | int i=>
  obtain⟨t,rfl⟩:=rx
  cases y with
  | non=>cases ry;exact PySem.EqNone.ne_int_none (fin_bl I q (by simp))
  | int j=>obtain⟨t',rfl⟩:=ry;exact ne_int (fin_bl I q (congrArg not dec_int))
  | str j=>obtain⟨t',rfl⟩:=ry;exact PySem.EqMixed.ne_int_str (fin_bl I q (by simp))
  | _=>exact absurd (show false=true from hs) Bool.false_ne_true
 | str i=>
  obtain⟨t,rfl⟩:=rx
  cases y with
  | non=>cases ry;exact PySem.EqNone.ne_str_none (fin_bl I q (by simp))
  | bl j=>cases ry;exact PySem.EqMixed.ne_str_bool (fin_bl I q (by simp))
  | int j=>obtain⟨t',rfl⟩:=ry;exact PySem.EqMixed.ne_str_int (fin_bl I q (by simp))
  | str j=>obtain⟨t',rfl⟩:=ry;exact ne_str (fin_bl I q (congrArg not dec_str))
  | _=>exact absurd (show false=true from hs) Bool.false_ne_true
 | byt i=>
  obtain⟨t,rfl⟩:=rx
  cases y with
  | byt j=>obtain⟨t',rfl⟩:=ry;exact PySem.W.ne_bytes (fin_bl I q (congrArg not dec_byt))
  | _=>exact absurd (show false=true from hs) Bool.false_ne_true
 | _=>cases y<;>exact absurd (show false=true from hs) Bool.false_ne_true
theorem op_lt:OpR X (compareOp .Lt) (rI0 fun i j=>.bl (decide (i<j))):=opB0 fun _ _ _ _ _ _ _ q=>lt_int q
theorem op_le:OpR X (compareOp .LtE) (rI0 fun i j=>.bl (decide (i≤j))):=opB0 fun _ _ _ _ _ _ _ q=>le_int q
theorem op_gt:OpR X (compareOp .Gt) (rI0 fun i j=>.bl (decide (j<i))):=opB0 fun _ _ _ _ _ _ _ q=>gt_int q
theorem op_ge:OpR X (compareOp .GtE) (rI0 fun i j=>.bl (decide (j≤i))):=opB0 fun _ _ _ _ _ _ _ q=>ge_int q
theorem op_isN:OpR X (compareOp .Is) (fun x y H Q=>y=.non∧Q (.bl (decide (x=.non))) H):=by
 intro pins s σ H x y v u Q I rx ry h
 obtain⟨rfl,q⟩:=h
 cases ry
 refine is_none_gen (fin_bl I q ?_)
 cases x<;>first
  | (cases rx;rfl)
  | (obtain ⟨t,rfl⟩:=rx;rfl)
theorem op_notN:OpR X (compareOp .IsNot) (fun x y H Q=>y=.non∧Q (.bl (!decide (x=.non))) H):=by
 intro pins s σ H x y v u Q I rx ry h
 obtain⟨rfl,q⟩:=h
 cases ry
 refine isnot_none_gen (fin_bl I q ?_)
 cases x<;>first
  | (cases rx;rfl)
  | (obtain ⟨t,rfl⟩:=rx;rfl)
theorem nomark(b:Expr){op:CmpOp}(h:op≠.In:=by decide)(h2:op≠.NotIn:=by decide):behindInMarks op b=false:=by
 have e1:(op==CmpOp.In)=false:=by cases op<;>first | rfl | exact absurd rfl h
 have e2:(op==CmpOp.NotIn)=false:=by cases op<;>first | rfl | exact absurd rfl h2
 cases b<;>simp[behindInMarks,e1,e2]
theorem pe_cmpR{op:CmpOp}{r:R2}(ho:OpR X (compareOp op) r)(ha:PE X a ta)(hb:PE X b tb)(hm:behindInMarks op b=false):PE X (.Compare a [op] [b] pos) (tOp r ta tb):=by
 intro pins s σ H Q I h
 exact wpAny_Compare1 (binT ha hb I h fun v u s2 x y H2 I2 rx ry q=>ho pins s2 σ H2 x y v u Q I2 rx ry q) hm
def tTest(t:TE):TT:=fun σ H Q=>t σ H fun x H'=>∃k,x=.bl k∧Q k H'
theorem pt_cmpR{op:CmpOp}{r:R2}(ho:OpR X (compareOp op) r)(ha:PE X a ta)(hb:PE X b tb)(hm:behindInMarks op b=false):PT X (.Compare a [op] [b] pos) (tTest (tOp r ta tb)):=by
 intro pins s σ H Q I h
 refine wpAny_isTrue_Compare1 (thn (ha pins s σ H _ I h) fun v s1 ⟨x,H1,I1,r1,q1⟩=>thn (hb pins s1 σ H1 _ I1 q1) fun u s2 ⟨y,H2,I2,r2,q2⟩=>
  thn (ho pins s2 σ H2 x y v u _ I2 r1 r2 q2) fun c s3 ⟨z,H3,I3,r3,k,e,q3⟩=>?_) hm
 subst e
 cases r3
 exact wpAny_truthy_bool ⟨H3,I3,q3⟩
def TruV(K:PySem.W.Frag)(x:V)(H:Hp)(k:Bool):Prop:=
 match x with
 | .non=>k=false
 | .bl b=>k=b
 | .int i=>k=(i != 0)
 | .str y=>y.length≤sizeLine∧k=((y.length:Int) != 0)
 | .byt y=>y.size≤sizeLine∧k=((y.size:Int) != 0)
 | .ref p=>(∃xs,SqL K H p xs∧k=!xs.isEmpty)∨(∃xs,SqT K H p xs∧k=!xs.isEmpty)∨∃kvs,H p=some (.dK kvs)∧k=!kvs.isEmpty
 | _=>False
theorem isEmpty_kv{κ:Type}{kvs:List (κ×V)}{vs:List (κ×Value)}(r:KV kvs vs):(!vs.isEmpty)=!kvs.isEmpty:=by
 cases r<;>rfl
theorem isEmpty_of{xs:List V}{its:List Value}(r:Vals xs its):(!its.toArray.isEmpty)=!xs.isEmpty:=by
 cases r<;>simp
theorem line63:(sizeLine:Nat)<2^63:=by rw[sizeLine_eq];decide
theorem tru_ok:TruR X (fun x H Q=>∃k,TruV X.K x H k∧Q k H):=by
 intro pins s σ H x v Q I rx h
 obtain⟨k,e,q⟩:=h
 have hl:=line63
 have hs:sizeLine=16777216:=sizeLine_eq
 cases x with
 | non=>
  cases rx
  have e':k=false:=e
  subst e'
  exact truthy_none ⟨H,I,q⟩
 | bl b=>
  cases rx
  have e':k=b:=e
  subst e'
  exact wpAny_truthy_bool ⟨H,I,q⟩
 | int i=>
  obtain⟨t,rfl⟩:=rx
  have e':k=(i != 0):=e
  subst e'
  exact PySem.P.truthy_int ⟨H,I,q⟩
 | str y=>
  obtain⟨t,rfl⟩:=rx
  obtain⟨hy,e'⟩:y.length≤sizeLine∧k=((y.length:Int) != 0):=e
  subst e'
  exact PySem.P.truthy_str (by omega) ⟨H,I.tok _,q⟩
 | byt y=>
  obtain⟨t,rfl⟩:=rx
  obtain⟨hy,e'⟩:y.size≤sizeLine∧k=((y.size:Int) != 0):=e
  subst e'
  exact PySem.W.truthy_bytes (by omega) ⟨H,I.tok _,q⟩
 | ref p=>
  cases rx
  have e':(∃xs,SqL X.K H p xs∧k=!xs.isEmpty)∨(∃xs,SqT X.K H p xs∧k=!xs.isEmpty)∨∃kvs,H p=some (.dK kvs)∧k=!kvs.isEmpty:=e
  rcases e' with ⟨xs,hx,e'⟩ | ⟨xs,hx,e'⟩ | ⟨kvs,hx,e'⟩
  ·subst e'
   obtain⟨its,r,pl,hz⟩:=I.list hx
   have hlen:=r.length
   exact wpAny_truthy_list pl.isList (by simp only[List.size_toArray];omega) ⟨H,I.tok _,by rw[isEmpty_of r];exact q⟩
  ·subst e'
   obtain⟨its,r,pl,hz⟩:=I.tuple hx
   have hlen:=r.length
   exact truthy_tuple pl (by simp only[List.size_toArray];omega) ⟨H,I.tok _,by rw[isEmpty_of r];exact q⟩
  ·subst e'
   obtain⟨hz,hS,vs,r,m⟩:kvs.length≤sizeLine∧(p==sysModules)=false∧∃vs,KV kvs vs∧s.heap.DictOf (mixKind X.prog X.w) p vs:=I.hok p _ hx
   have hlen:kvs.length=vs.length:=Paired.length r
   exact wpAny_truthy_dict hS m (by omega) ⟨H,I.tok _,by rw[isEmpty_kv r];exact q⟩
 | _=>exact(show False from e).elim
theorem vals1{x:V}{us:List Value}(r:Vals [x] us):∃u,us=[u]∧RelV x u:=by
 cases r with
 | cons r1 r2=>cases r2;exact⟨_,rfl,r1⟩
theorem vals2{x y:V}{us:List Value}(r:Vals [x,y] us):∃u w',us=[u,w']∧RelV x u∧RelV y w':=by
 cases r with
 | cons r1 r2=>
  cases r2 with
  | cons r3 r4=>cases r4;exact⟨_,_,rfl,r1,r3⟩
theorem call_abs:CallR X (.builtin "abs") (fun xs H Q=>∃i,xs=[.int i]∧Q (.int (if i<0 then -i else i)) H):=by
 intro pins s σ H xs us Q I r h
 obtain⟨i,rfl,q⟩:=h
 obtain⟨u,rfl,t,rfl⟩:=vals1 r
 exact call_abs_int fun u tk=>⟨.int (if i<0 then -i else i),H,I.tok _,⟨_,rfl⟩,q⟩
theorem call_min2(hc:X.calm=true):CallR X (.builtin "min") (fun xs H Q=>∃i j,xs=[.int i,.int j]∧Q (.int (if j<i then j else i)) H):=by
 intro pins s σ H xs us Q I r h
 obtain⟨i,j,rfl,q⟩:=h
 obtain⟨u,w',rfl,⟨t,rfl⟩,⟨t',rfl⟩⟩:=vals2 r
 refine min_two_ints (I.ok.hd hc) fun h' tk k=>⟨_,H,I.kept k,?_,q⟩
 by_cases hj:j<i
 ·rw[if_pos hj,if_pos hj];exact⟨_,rfl⟩
 ·rw[if_neg hj,if_neg hj];exact⟨_,rfl⟩
theorem call_str_int:CallR X (.type "str") (fun xs H Q=>∃i,xs=[.int i]∧i.natAbs.log2<1920∧Q (.str (toString i)) H):=by
 intro pins s σ H xs us Q I r h
 obtain⟨i,rfl,hz,q⟩:=h
 obtain⟨u,rfl,t,rfl⟩:=vals1 r
 exact PySem.P.str_of_int hz ⟨.str _,H,I.tok _,⟨_,rfl⟩,q⟩
end
end L2
namespace L2
open PySem PySem.Spec PyProof.Rows
structure ObjM(h:Heap)(x dx C:Addr)(mA:Str→Option Value):Prop where
 obj:h.get? x=some (PySem.W.instObj C dx)
 ns:h.Ns1 dx mA
 ne:dx≠x
theorem lookIn_ns{h:Heap}{dx:Addr}{mA:Str→Option Value}(n:h.Ns1 dx mA):∃od,h.get? dx=some od∧∀name,PySem.W.lookIn name od=some (mA name):=by
 obtain⟨o,es,ep,ho,hd,hk,_,hm⟩:=n
 refine⟨o,ho,fun name=>?_⟩
 have e:=hm name
 unfold nsFind findBy at e
 rw[←Array.find?_toList] at e
 unfold PySem.W.lookIn
 rw[hd]
 dsimp only
 split
 ·rename_i y q
  rw[q] at e
  exact congrArg some e
 ·rename_i q
  rw[q] at e
  have a:es.toList.any (·.refKey)=false:=by
   rw[List.any_eq_false]
   intro y hy
   obtain⟨z,t,hkey⟩:=hk y (Array.mem_toList_iff.mp hy)
   simp[DictEntry.refKey,hkey]
  have a':¬es.toList.any (·.refKey)=true:=by rw[a];exact Bool.false_ne_true
  rw[if_neg a']
  exact congrArg some e
theorem ObjM.look{h:Heap}{x dx C:Addr}{mA:Str→Option Value}(I:ObjM h x dx C mA):∃od,PySem.W.InstAt h x (PySem.W.instObj C dx) C (some od)∧∀name,PySem.W.lookIn name od=some (mA name):=
 let ⟨od,ho,hl⟩:=lookIn_ns I.ns
 ⟨od,⟨I.obj,rfl,rfl,ho⟩,hl⟩
section
variable{prog:Program}{w:World}{A:Around}{E:Value→Shared→Prop}{s:Shared}{K:PySem.W.Frag}{x dx C f:Addr}{mA:Str→Option Value}{name:Str}{v:Value}
theorem get_map{expr:Bool}{Q:Value→Shared→Prop}(X:K.In s.heap)(I:ObjM s.heap x dx C mA)(hg:PySem.W.plainGet K C name=true)(hh:PySem.W.hasDictIn K C=true)
 (ha:PySem.W.findIn K (.ref C) name=some none)(hv:mA name=some v)(hv':PySem.W.handedIn v=true)(h:Q v { s with toks:=s.toks+1 }):
 wpAny (model prog w) A (getAttr (.ref x) name expr) Q E s:=by
 obtain⟨od,J,hl⟩:=I.look
 exact PySem.W.get_value X J (PySem.W.plainGet_of hg).1 (PySem.W.findObj_own hh ha rfl (by rw[hl,hv])) hv' h
theorem get_meth{pl:Sem Bool}{Q:Value×List Value→Shared→Prop}(X:K.In s.heap)(I:ObjM s.heap x dx C mA)(hg:PySem.W.plainGet K C name=true)
 (hf:PySem.W.findIn K (.ref C) name=some (some (.ref f)))(ht:PySem.W.isFn K (.ref f)=true)(hv:mA name=none)(h:Q (.ref f,[.ref x]) s):
 wpAny (model prog w) A (getMethod (.ref x) name pl) Q E s:=by
 obtain⟨od,J,hl⟩:=I.look
 exact PySem.W.method_fn X J (PySem.W.plainGet_of hg).1 (PySem.W.plainGet_of hg).2 hf (beq_iff_eq.mp ht) (by show(PySem.W.lookIn name od).map (·.isSome)=some false;rw[hl,hv];rfl) h
theorem set_map{ns:List Str}{Q:Unit→Shared→Prop}(X:K.In s.heap)(I:ObjM s.heap x dx C mA)
 (hs:PySem.W.findIn K (.ref C) "__setattr__"=some (some (.builtin "object.__setattr__")))(hp:PySem.W.plainOver K C=true)(ht:PySem.W.takerIn K C name=some none)(hh:PySem.W.hasDictIn K C=true)
 (hw:PySem.Within mA ns)(hsz:ns.length≤sizeLine)
 (h:∀h',ObjM h' x dx C (fun y=>if y=name then some v else mA y)→Heap.SameBut dx s.heap h'→Q () { s with heap:=h',toks:=s.toks+2 }):
 wpAny (model prog w) A (setAttr (.ref x) name v) Q E s:=by
 obtain⟨od,J,hl⟩:=I.look
 refine PySem.W.set_plain X J hs (PySem.W.osa_open (s:={ s with toks:=s.toks+1 }) (r:=none) X J hp ht fun b=>?_)
 obtain⟨cd,hc,hd'⟩:=PySem.W.any_some hh
 have hx:s.heap.get? x=some ⟨.ref C,some dx,.plain,#[]⟩:=I.obj
 refine wpAny_bind (wpAny_pure (wpAny_bind (wpAny_bind (wpAny_loadPart hx (wpAny_bind (PySem.W.Looks.here (s:={ s with toks:=s.toks+1 }) (PySem.W.looks_clsIn X hc) ?_))))))
 rw[hd']
 refine wpAny_pure (a:=some dx) (wpAny_bind (wpAny_pure (wpAny_bind ?_)))
 refine wpAny_nsSet1 (s:={ s with toks:=s.toks+1 }) I.ns fun h' hn2 hs2=>?_
 obtain⟨oD,esD,epD,hoD,hdD,hcD⟩:=hn2.count (PySem.Within.cons name v hw)
 refine wpAny_bind (wpAny_lookBehind hoD (by rw[hdD];exact pastItsLine_dict (Nat.le_trans hcD (by rw[List.length_cons];omega))) ?_)
 exact wpAny_pure (h _ ⟨(hs2.2 _ (Ne.symm I.ne)).trans I.obj,hn2,I.ne⟩ hs2)
theorem make_map{R:Result→Shared→Prop}{vs:List Value}{kw:List (Str×Value)}(X:K.In s.heap)(hm:PySem.W.makesIn K C=true)
 (hi:PySem.W.findIn K (.ref C) "__init__"=some (some (.ref f)))(hf:PySem.W.typeIn K (.ref f)=some (.type "function"))
 (h:codeAny (model prog w) (A.under (.builtin "type.__call__" ⟨.ref C::vs,kw⟩)) (.call (.ref f) ⟨.ref (s.heap.objs.size+1)::vs,kw⟩) (PySem.W.InitBack (s.heap.objs.size+1) R)
  { s with heap:=(s.heap.push PySem.W.emptyDict).push (PySem.W.instObj C s.heap.objs.size) }):
 codeAny (model prog w) A (.call (.ref C) ⟨vs,kw⟩) R s:=by
 obtain⟨hh,g,d,t,os⟩:=s
 exact PySem.W.make_core (PySem.W.makes_of X hm) (PySem.W.looks_findIn X hi) (fun self=>PySem.W.bind_fn X self hf) (.inl rfl) h
end
def putF(f:Str)(v:V):List (Str×V)→List (Str×V)
 | []=>[(f,v)]
 | (g,x)::r=>if g=f then (g,v)::r else (g,x)::putF f v r
theorem lookup_putF(f g:Str)(v:V):∀fs:List (Str×V),(putF f v fs).lookup g=if g=f then some v else fs.lookup g
 | []=>by
  show List.lookup g [(f,v)]=_
  by_cases h:g=f
  ·have hb:(g==f)=true:=beq_iff_eq.mpr h
   simp only[List.lookup,hb,if_pos h]
  ·have hb:(g==f)=false:=beq_eq_false_iff_ne.mpr h
   simp only[List.lookup,hb,if_neg h]
 | (k,x)::r=>by
  have ih:=lookup_putF f g v r
  rw[show putF f v ((k,x)::r)=(if k=f then (k,v)::r else (k,x)::putF f v r) from rfl]
  by_cases hk:k=f
  ·rw[if_pos hk]
   by_cases h:g=k
   ·have hb:(g==k)=true:=beq_iff_eq.mpr h
    simp only[List.lookup,hb,if_pos (h.trans hk)]
   ·have hb:(g==k)=false:=beq_eq_false_iff_ne.mpr h
    simp only[List.lookup,hb,if_neg (fun e:g=f=>h (e.trans hk.symm))]
  ·rw[if_neg hk]
   by_cases h:g=k
   ·have hb:(g==k)=true:=beq_iff_eq.mpr h
    simp only[List.lookup,hb,if_neg (fun e:g=f=>hk (h.symm.trans e))]
   ·have hb:(g==k)=false:=beq_eq_false_iff_ne.mpr h
    simp only[List.lookup,hb]
    exact ih
theorem keys_putF(f:Str)(v:V):∀fs:List (Str×V),f∈(putF f v fs).map (·.1)∧∀g,g∈fs.map (·.1)→g∈(putF f v fs).map (·.1)
 | []=>⟨by simp[putF],fun g h=>by simp at h⟩
 | (k,x)::r=>by
  obtain⟨i1,i2⟩:=keys_putF f v r
  rw[show putF f v ((k,x)::r)=(if k=f then (k,v)::r else (k,x)::putF f v r) from rfl]
  by_cases hk:k=f
  ·rw[if_pos hk]
   subst hk
   exact⟨by simp,fun g h=>by simpa using h⟩
  ·rw[if_neg hk]
   refine⟨?_,fun g h=>?_⟩
   ·rw[List.map_cons]
    exact List.mem_cons_of_mem _ i1
   ·rw[List.map_cons] at h ⊢
    rcases List.mem_cons.mp h with e | e
    ·exact List.mem_cons.mpr (.inl e)
    ·exact List.mem_cons_of_mem _ (i2 g e)
theorem length_putF(f:Str)(v:V):∀fs:List (Str×V),(putF f v fs).length≤fs.length+1
 | []=>by simp[putF]
 | (k,x)::r=>by
  have ih:=length_putF f v r
  rw[show putF f v ((k,x)::r)=(if k=f then (k,v)::r else (k,x)::putF f v r) from rfl]
  by_cases hk:k=f
  ·rw[if_pos hk,List.length_cons,List.length_cons];omega
  ·rw[if_neg hk,List.length_cons,List.length_cons];omega
theorem RelO.some_of{v:V}{o:Option Value}(r:RelO (some v) o):∃u,o=some u∧RelV v u:=by
 cases o with
 | none=>exact(show False from r).elim
 | some u=>exact⟨u,rfl,r⟩
theorem RelO.none_of{o:Option Value}(r:RelO none o):o=none:=by
 cases o with
 | none=>rfl
 | some u=>exact(show False from r).elim
theorem handed_of{v:V}{u:Value}(r:RelV v u):PySem.W.handedIn u=true:=by
 cases v with
 | non=>cases (show u=Value.none from r);rfl
 | bl b=>cases (show u=Value.bool b from r);rfl
 | int i=>obtain⟨t,e⟩:=(show ∃t,u=Value.int i t from r);cases e;rfl
 | str x=>obtain⟨t,e⟩:=(show ∃t,u=Value.str x t from r);cases e;rfl
 | byt b=>obtain⟨t,e⟩:=(show ∃t,u=Value.bytes b t from r);cases e;rfl
 | flt b=>obtain⟨t,e⟩:=(show ∃t,u=Value.float b t from r);cases e;rfl
 | ref a=>cases (show u=Value.ref a from r);rfl
 | ty n=>cases (show u=Value.type n from r);rfl
section
variable{P:Program}{w:World}{H H':Hp}{h h':Heap}{a C dx:Addr}{fs fs':List (Str×V)}
theorem ins_get(hok:HOk P w H h)(e:H a=some (.ins C dx fs)):∃mA,ObjM h a dx C mA∧(∀f,RelO (fs.lookup f) (mA f))∧PySem.Within mA (fs.map (·.1))∧fs.length≤1000∧H dx=some (.own a):=by
 obtain⟨d,z,ne,ob,mA,n,r,q⟩:=(show ObjOk P w H h a (.ins C dx fs) from hok a _ e)
 exact⟨mA,⟨ob,n,ne⟩,r,q,z,d⟩
end
structure Cls(K:PySem.W.Frag)(C:Addr):Prop where
 pg:PySem.W.plainGet K C Str.empty=true
 hd:PySem.W.hasDictIn K C=true
 po:PySem.W.plainOver K C=true
 sa:PySem.W.findIn K (.ref C) "__setattr__"=some (some (.builtin "object.__setattr__"))
theorem Cls.get{K:PySem.W.Frag}{C:Addr}(c:Cls K C)(f:Str):PySem.W.plainGet K C f=true:=c.pg
def NoAttr(K:PySem.W.Frag)(C:Addr)(f:Str):Prop:=PySem.W.findIn K (.ref C) f=some none
theorem NoAttr.taker{K:PySem.W.Frag}{C:Addr}{f:Str}(n:NoAttr K C f):PySem.W.takerIn K C f=some none:=by
 unfold PySem.W.takerIn
 rw[show PySem.W.findIn K (.ref C) f=some none from n]
 rfl
structure Meth(K:PySem.W.Frag)(C:Addr)(m:Str)(f:Addr):Prop where
 at_:PySem.W.findIn K (.ref C) m=some (some (.ref f))
 fn:PySem.W.isFn K (.ref f)=true
 kp:PySem.W.keepIn K (.ref f)=true
section
variable{X:Cx}{pins:List (Addr×Obj)}{σ:St}{H:Hp}{s:Shared}{a C dx:Addr}{fs:List (Str×V)}{f:Str}{v:V}{A:Around}{E:Value→Shared→Prop}
theorem getattr_ok{b:Bool}{Q:Value→Shared→Prop}(I:Inv X pins σ H s)(e:H a=some (.ins C dx fs))(c:Cls X.K C)(n:NoAttr X.K C f)(l:fs.lookup f=some v)
 (h:∀u s',Inv X pins σ H s'→RelV v u→Q u s'):wpAny (model X.prog X.w) A (getAttr (.ref a) f b) Q E s:=by
 obtain⟨mA,O,r,_,_,_⟩:=ins_get I.hok e
 obtain⟨u,hu,ru⟩:=RelO.some_of (v:=v) (o:=mA f) (by rw[←l];exact r f)
 exact get_map I.kIn O (c.get f) c.hd n hu (handed_of ru) (h u _ (I.tok _) ru)
theorem getmeth_ok{m:Str}{g:Addr}{pl:Sem Bool}{Q:Value×List Value→Shared→Prop}(I:Inv X pins σ H s)(e:H a=some (.ins C dx fs))(c:Cls X.K C)(k:Meth X.K C m g)(l:fs.lookup m=none)
 (h:Q (.ref g,[.ref a]) s):wpAny (model X.prog X.w) A (getMethod (.ref a) m pl) Q E s:=by
 obtain⟨mA,O,r,_,_,_⟩:=ins_get I.hok e
 have hn:mA m=none:=RelO.none_of (by rw[←l];exact r m)
 exact get_meth I.kIn O (c.get m) k.at_ k.fn hn h
theorem setattr_ok{y:V}{u:Value}{Q:Unit→Shared→Prop}(I:Inv X pins σ H s)(e:H a=some (.ins C dx fs))(c:Cls X.K C)(n:NoAttr X.K C f)(hl:fs.length<1000)(ry:RelV y u)
 (h:∀s',Inv X pins σ (upd H a (.ins C dx (putF f y fs))) s'→Q () s'):wpAny (model X.prog X.w) A (setAttr (.ref a) f u) Q E s:=by
 obtain⟨mA,O,r,wi,_,ho⟩:=ins_get I.hok e
 have hz:(fs.map (·.1)).length≤sizeLine:=by rw[List.length_map,sizeLine_eq];omega
 refine set_map I.kIn O c.sa c.po n.taker c.hd wi hz fun h' O' sb=>h _ ?_
 have hd:∃o,h'.get? dx=some o:=let ⟨o,_,_,e',_⟩:=O'.ns;⟨o,e'⟩
 refine I.write (x:=a) (e:=dx) (by rw[e];exact True.intro) (.inr ho) (fun b q hb z=>(sb.2 b hb).trans z) hd ?_
 refine⟨by rw[upd_ne O.ne];exact ho,?_,O.ne,O'.obj,_,O'.ns,fun g=>?_,fun g hg=>?_⟩
 ·have:=length_putF f y fs;omega
 ·show RelO ((putF f y fs).lookup g) (if g=f then some u else mA g)
  rw[lookup_putF]
  by_cases q:g=f
  ·rw[if_pos q,if_pos q];exact ry
  ·rw[if_neg q,if_neg q];exact r g
 ·by_cases q:g=f
  ·rw[q];exact(keys_putF f y fs).1
  ·refine(keys_putF f y fs).2 g (wi g fun z=>hg ?_)
   show(if g=f then some u else mA g)=none
   rw[if_neg q];exact z
theorem Inv.made(I:Inv X pins σ H s):Inv X pins σ (upd (upd H s.heap.objs.size (.own (s.heap.objs.size+1))) (s.heap.objs.size+1) (.ins C s.heap.objs.size []))
 { s with heap:=(s.heap.push PySem.W.emptyDict).push (PySem.W.instObj C s.heap.objs.size) }:=by
 have e1:(s.heap.push PySem.W.emptyDict).get? s.heap.objs.size=some PySem.W.emptyDict:=Heap.get?_push_size s.heap rfl
 have e2:((s.heap.push PySem.W.emptyDict).push (PySem.W.instObj C s.heap.objs.size)).get? (s.heap.objs.size+1)=some (PySem.W.instObj C s.heap.objs.size):=by
  have:=Heap.get?_push_size (s.heap.push PySem.W.emptyDict) (o:=PySem.W.instObj C s.heap.objs.size) rfl
  rwa [Heap.size_push] at this
 have e3:(s.heap.push PySem.W.emptyDict).Ns s.heap.objs.size (fun _=>none):=⟨PySem.W.emptyDict,#[],_,e1,rfl,(fun e he=>absurd he (by simp)),fun _=>rfl⟩
 have I1:=I.laid (a:=s.heap.objs.size) (o:=.own (s.heap.objs.size+1)) (h':=s.heap.push PySem.W.emptyDict) (t':=s.toks) (fun b u q=>Heap.get?_push_of_some _ q) (Nat.le_refl _) ⟨_,e1⟩
 refine I1.laid (a:=s.heap.objs.size+1) (o:=.ins C s.heap.objs.size []) (t':=s.toks) (fun b u q=>Heap.get?_push_of_some _ q) (Nat.le_of_eq (Heap.size_push _ _)) ?_
 have ne:s.heap.objs.size≠s.heap.objs.size+1:=Nat.ne_of_lt (Nat.lt_succ_self _)
 refine⟨by rw[upd_ne ne,upd_same],Nat.zero_le _,ne,e2,fun _=>none,(Heap.Ns1.of_empty e3).at fun o q=>Heap.get?_push_of_some _ q,fun _=>True.intro,fun y hy=>absurd rfl hy⟩
theorem attr_of{prog:Program}{w:World}{env:Env}{e:Expr}{f:Str}{pos:Pos}{s:Shared}{Q:Value→Shared→Prop}(hb:attributeBase e f env (eval e env)=eval e env)
 (h:wpAny (model prog w) A (eval e env) (fun o s₁=>wpAny (model prog w) A (getAttr o f true) Q E s₁) E s):wpAny (model prog w) A (eval (.Attribute e f pos) env) Q E s:=
 Attribute_any_ h (by rw[arm_eval_Attribute,hb])
end
def tFld(K:PySem.W.Frag)(ta:TE)(f:Str):TE:=fun σ H Q=>ta σ H fun x H1=>∃a C dx fs v,x=.ref a∧H1 a=some (.ins C dx fs)∧Cls K C∧NoAttr K C f∧fs.lookup f=some v∧Q v H1
def sFld(K:PySem.W.Frag)(ta tv:TE)(f:Str):TS:=fun D σ H=>tv σ H fun y H1=>ta σ H1 fun x H2=>∃a C dx fs,x=.ref a∧H2 a=some (.ins C dx fs)∧Cls K C∧NoAttr K C f∧fs.length<1000∧
 D.nx σ (upd H2 a (.ins C dx (putF f y fs)))
section
variable{X:Cx}{o e value:Expr}{f:Str}{pos pos' tpos:Pos}{ta tv:TE}
theorem pe_fld(he:PE X e ta)(hb:attributeBase e f X.env (eval e X.env)=eval e X.env):PE X (.Attribute e f pos) (tFld X.K ta f):=by
 intro pins s σ H Q I h
 refine attr_of hb (thn (he pins s σ H _ I h) fun u s1 ⟨x,H1,I1,rx,a,C,dx,fs,v,ex,ea,c,n,l,q⟩=>?_)
 subst ex
 obtain rfl:u=Value.ref a:=rx
 exact getattr_ok I1 ea c n l fun u' s2 I2 ru=>⟨v,H1,I2,ru,q⟩
theorem ps_fld(ha:PE X o ta)(hv:PE X value tv)(hs:swapsWith value (some (.Attribute o f pos')) pos.line X.env=pure false):PS X (.Assign [.Attribute o f pos'] value pos) (sFld X.K ta tv f):=by
 intro pins s σ H D I h
 refine plainObj_wpAny_Assign_Attribute (thn (hv pins s σ H _ I h) fun u s1 ⟨y,H1,I1,ry,q⟩=>thn (ha pins s1 σ H1 _ I1 q) fun ov s2 ⟨x,H2,I2,rx,a,C,dx,fs,ex,ea,c,n,l,q2⟩=>?_) hs
 subst ex
 obtain rfl:ov=Value.ref a:=rx
 exact setattr_ok I2 ea c n l ry fun s3 I3=>⟨σ,_,I3,q2⟩
end
section
variable{X:Cx}{pins:List (Addr×Obj)}{σ:St}{H:Hp}{s:Shared}{A:Around}{E:Value→Shared→Prop}{Q:Value→Shared→Prop}{c:Value}{b:Bool}
inductive TyOf(K:PySem.W.Frag)(H:Hp):V→Value→Prop where
 | non:TyOf K H .non (.type "NoneType")
 | bl (x:Bool):TyOf K H (.bl x) (.type "bool")
 | int (i:Int):TyOf K H (.int i) (.type "int")
 | str (x:Str):TyOf K H (.str x) (.type "str")
 | flt (x:UInt64):TyOf K H (.flt x) (.type "float")
 | lst {a:Addr} {xs:List V} (e:H a=some (.lst xs)):TyOf K H (.ref a) (.type "list")
 | frz {a:Addr} {o:Obj} {xs:List V} (e:H a=some (.frz o (.lst xs))):TyOf K H (.ref a) (.type "list")
 | tup {a:Addr} {xs:List V} (e:H a=some (.tup xs)):TyOf K H (.ref a) (.type "tuple")
 | dK {a:Addr} {kvs:List (Key×V)} (e:H a=some (.dK kvs)):TyOf K H (.ref a) (.type "dict")
 | dT {a:Addr} {kvs:List (List Key×V)} (e:H a=some (.dT kvs)):TyOf K H (.ref a) (.type "dict")
 | ins {a C dx:Addr} {fs:List (Str×V)} (e:H a=some (.ins C dx fs)) (cl:Cls K C) (ha:PySem.W.findIn K (.ref C) "__class__"=some (some (.builtin "object.__class__")))
  (hn:PySem.W.specialIn K (.builtin "object.__class__") "__get__"=some (some (.builtin "getset_descriptor.__get__"))) (htk:PySem.W.takesIn K (.builtin "object.__class__")=some true)
  (hm:PySem.W.mroIn K C (.type "object")=some true):TyOf K H (.ref a) (.ref C)
theorem isinst_ok{x:V}{u t:Value}(I:Inv X pins σ H s)(rx:RelV x u)(ty:TyOf X.K H x t)(e:PySem.W.kitOne X.K t c=some b)(h:∀tk,Q (.bool b) { s with toks:=tk }):
 wpAny (model X.prog X.w) A (call (.builtin "isinstance") [u,c]) Q E s:=by
 cases ty with
 | non=>cases (show u=Value.none from rx);exact PySem.W.kia_one PySem.W.kitx_none I.kIn True.intro e (fun z=>nomatch z) h
 | bl y=>cases (show u=Value.bool y from rx);exact PySem.W.kia_one PySem.W.kitx_bool I.kIn True.intro e (fun z=>nomatch z) h
 | int i=>obtain⟨t,q⟩:=(show ∃t,u=Value.int i t from rx);cases q;exact PySem.W.kia_one PySem.W.kitx_int I.kIn True.intro e (fun z=>nomatch z) h
 | str y=>obtain⟨t,q⟩:=(show ∃t,u=Value.str y t from rx);cases q;exact PySem.W.kia_one PySem.W.kitx_str I.kIn True.intro e (fun z=>nomatch z) h
 | flt y=>obtain⟨t,q⟩:=(show ∃t,u=Value.float y t from rx);cases q;exact PySem.W.kia_one PySem.W.kitx_float I.kIn True.intro e (fun z=>nomatch z) h
 | @lst a xs ea=>
  cases (show u=Value.ref a from rx)
  obtain⟨_,_,n,_,h1⟩:=(show ObjOk X.prog X.w H s.heap a (.lst xs) from I.hok a _ ea)
  exact PySem.W.kia_one PySem.W.kitx_list I.kIn ⟨_,h1,rfl⟩ e (fun z=>nomatch z) h
 | @frz a ob xs ea=>
  cases (show u=Value.ref a from rx)
  obtain⟨_,_,_,n,_,h1⟩:=(show ObjOk X.prog X.w H s.heap a (.frz ob (.lst xs)) from I.hok a _ ea)
  exact PySem.W.kia_one PySem.W.kitx_list I.kIn ⟨_,h1,rfl⟩ e (fun z=>nomatch z) h
 | @tup a xs ea=>
  cases (show u=Value.ref a from rx)
  obtain⟨_,_,_,p⟩:=(show ObjOk X.prog X.w H s.heap a (.tup xs) from I.hok a _ ea)
  obtain⟨o,h1,h2,_⟩:=p
  exact PySem.W.kia_one PySem.W.kitx_tuple I.kIn ⟨o,h1,h2⟩ e (fun z=>nomatch z) h
 | @dK a kvs ea=>
  cases (show u=Value.ref a from rx)
  obtain⟨_,_,vs,_,p⟩:=(show ObjOk X.prog X.w H s.heap a (.dK kvs) from I.hok a _ ea)
  obtain⟨o,es,ep,h1,h2,_⟩:=p
  exact PySem.W.kia_one PySem.W.kitx_dict I.kIn ⟨o,h1,h2.1⟩ e (fun z=>nomatch z) h
 | @dT a kvs ea=>
  cases (show u=Value.ref a from rx)
  obtain⟨_,_,xs,_,o,es,ep,h1,h2,_⟩:=(show ObjOk X.prog X.w H s.heap a (.dT kvs) from I.hok a _ ea)
  exact PySem.W.kia_one PySem.W.kitx_dict I.kIn ⟨o,h1,h2.1⟩ e (fun z=>nomatch z) h
 | @ins a C dx fs ea cl ha hn htk hm=>
  cases (show u=Value.ref a from rx)
  obtain⟨mA,O,_⟩:=ins_get I.hok ea
  obtain⟨od,J,_⟩:=O.look
  exact PySem.W.kia_one (PySem.W.kitx_own (cl.get _) cl.hd ha hn htk hm) I.kIn J e (fun z=>nomatch z) h
end
end L2
namespace L2
open PySem PySem.Spec PyProof.Rows
structure Room(k:Nat)(A:Around):Prop where
 hd:A.handled=none
 dp:A.depth+3*k+5<recursionLimit
 un:A.units+16*k+200<cLine
 gd:A.guards=some []
theorem Room.mono{j k:Nat}{A:Around}(r:Room k A)(h:j≤k):Room j A:=⟨r.hd,by have:=r.dp;omega,by have:=r.un;omega,r.gd⟩
theorem Room.deeper{k:Nat}{A:Around}(r:Room (k+1) A)(env:Env):Room k (A.deeper env):=
 ⟨r.hd,by have:=r.dp;show A.depth+1+3*k+5<_;omega,by have:=r.un;show A.units+3+16*k+200<_;omega,r.gd⟩
theorem Room.in1{k:Nat}{A:Around}(r:Room (k+1) A):Room k A.in1:=
 ⟨r.hd,by have:=r.dp;show A.depth+3*k+5<_;omega,by have:=r.un;show A.units+1+16*k+200<_;omega,r.gd⟩
theorem make_depth{A:Around}{C:Addr}{us:List Value}{kw:List (Str×Value)}:(A.under (.builtin "type.__call__" ⟨.ref C::us,kw⟩)).depth=A.depth+1:=by
 first | rfl | simp[Around.under,Code.weight,Code.isCreation,Code.isGuard,Code.isCaller,Code.frames,Code.isFrame,guardIds]
theorem make_units{A:Around}{C:Addr}{us:List Value}{kw:List (Str×Value)}:(A.under (.builtin "type.__call__" ⟨.ref C::us,kw⟩)).units=A.units+1:=by
 first | rfl | simp[Around.under,Code.cUnits,Code.frames,Code.isFrame]
theorem make_guards{A:Around}{C:Addr}{us:List Value}{kw:List (Str×Value)}(h:A.guards=some []):(A.under (.builtin "type.__call__" ⟨.ref C::us,kw⟩)).guards=some []:=by
 have e:(Code.builtin "type.__call__" ⟨.ref C::us,kw⟩).guards=[]:=by
  unfold Code.guards
  rw[if_neg (by show ¬guardIds.contains "type.__call__"=true;decide)]
 have e2:(A.under (.builtin "type.__call__" ⟨.ref C::us,kw⟩)).guards=pushGuards (Code.builtin "type.__call__" ⟨.ref C::us,kw⟩).guards A.guards:=rfl
 rw[e2,e,h];rfl
theorem Room.make{k:Nat}{A:Around}(r:Room (k+1) A)(C:Addr)(us:List Value)(kw:List (Str×Value)):Room k (A.under (.builtin "type.__call__" ⟨.ref C::us,kw⟩)):=
 ⟨r.hd,by have:=r.dp;rw[make_depth];omega,by have:=r.un;rw[make_units];omega,make_guards r.gd⟩
theorem Room.depth{k:Nat}{A:Around}(r:Room k A):A.depth<recursionLimit:=by have:=r.dp;omega
theorem Room.units{k:Nat}{A:Around}(r:Room k A):A.units+64<cLine:=by have:=r.un;omega
theorem Room.units0{k:Nat}{A:Around}(r:Room k A):A.units<cLine:=by have:=r.un;omega
def tNil:TA:=fun _ H Q=>Q [] H
def tCons(ta:TE)(tr:TA):TA:=fun σ H Q=>ta σ H fun x H1=>tr σ H1 fun xs H2=>Q (x::xs) H2
section
variable{X:Cx}{e:Expr}{es:List Expr}{te:TE}{t:TA}{pos:Pos}
theorem pa_nil:PA X [] tNil:=fun _ _ _ _ H Q I h=>Calls.spliced_nil ⟨[],H,I,.nil,h⟩
theorem pa_cons(ha:PE X e te)(hr:PA X es t)(hs:starEach (e::es) X.env=(false,eval e X.env)::starEach es X.env:=by rfl):PA X (e::es) (tCons te t):=by
 intro pos pins s σ H Q I h
 rw[hs]
 show wpAny _ _ (spliced ((false,eval e X.env)::backTo pos (starEach es X.env))) _ _ s
 refine Calls.spliced_cons (thn (ha pins s σ H _ I h) fun u s1 ⟨x,H1,I1,r1,q1⟩=>?_)
 exact thn (hr pos pins s1 σ H1 _ I1 q1) fun us s2 ⟨xs,H2,I2,r2,q2⟩=>⟨x::xs,H2,I2,.cons r1 r2,q2⟩
def tTup(t:TA):TE:=fun σ H Q=>t σ H fun xs H1=>xs.length≤sizeLine∧∀p,H1 p=none→Q (.ref p) (upd H1 p (.tup xs))
def tLst(t:TA):TE:=fun σ H Q=>t σ H fun xs H1=>xs.length≤sizeLine∧∀p,H1 p=none→Q (.ref p) (upd H1 p (.lst xs))
theorem pe_tup{x1}(h:PA X es t):PE X (.Tuple es x1 pos) (tTup t):=by
 intro pins s σ H Q I hq
 refine wpAny_Tuple_spliced (thn (h pos pins s σ H _ I hq) fun us s1 ⟨xs,H1,I1,r,z,q⟩=>⟨by rw[←r.length];exact z,?_⟩)
 have hf:H1 s1.heap.objs.size=none:=I1.hok.fresh (Nat.le_refl _)
 refine⟨.ref s1.heap.objs.size,upd H1 s1.heap.objs.size (.tup xs),I1.laid (t':=s1.toks) (fun b u e=>Heap.get?_push_of_some _ e) (Nat.le_refl _) ?_,rfl,q _ hf⟩
 exact⟨z,us,r,⟨_,Heap.get?_push_size _ rfl,rfl,_,rfl⟩⟩
theorem pe_lst(h:PA X es t):PE X (.List es pos) (tLst t):=by
 intro pins s σ H Q I hq
 refine wpAny_List_spliced (thn (h pos pins s σ H _ I hq) fun us s1 ⟨xs,H1,I1,r,z,q⟩=>⟨by rw[←r.length];exact z,?_⟩)
 have hf:H1 s1.heap.objs.size=none:=I1.hok.fresh (Nat.le_refl _)
 refine⟨.ref s1.heap.objs.size,upd H1 s1.heap.objs.size (.lst xs),I1.laid (t':=s1.toks) (fun b u e=>Heap.get?_push_of_some _ e) (Nat.le_refl _) ?_,rfl,q _ hf⟩
 exact⟨z,us,0,r,Heap.get?_push_size _ rfl⟩
end
abbrev Sp:=List V→Hp→VK→XK→Prop
abbrev CXT:=List Env→Hp→Shared→XK→Value→Shared→Prop
structure Env0(P:Program)(w:World)(K:PySem.W.Frag)(mg:Str→Option Value)(base:Heap)(A:Around)(outer:List Env)(s:Shared)(H:Hp):Prop where
 frames:A.frames=some outer
 mod:Mod K mg base
 bs:∀b o,base.get? b=some o→s.heap.get? b=some o∧H b=none
 bsz:base.objs.size≤s.heap.objs.size
 funs:s.heap.FunFrames base outer
 frf:∀b∈frs outer,H b=none
 hok:HOk P w H s.heap
 bare:AllBare s.gens
def CE(outer:List Env)(P:Program)(w:World)(H:Hp)(s:Shared)(Q:VK)(u:Value)(s':Shared):Prop:=
 ∃v H',s'.os=s.os∧AllBare s'.gens∧Un (frs outer) [] H H' s.heap s'.heap∧HOk P w H' s'.heap∧RelV v u∧Q v H'
def CR(CX:CXT)(outer:List Env)(P:Program)(w:World)(H:Hp)(s:Shared)(Q:VK)(E:XK)(r:Result)(s':Shared):Prop:=
 match r with
 | .ok (.ret u)=>CE outer P w H s Q u s'
 | .ok _=>False
 | .error e=>CX outer H s E e s'
structure FnOk(P:Program)(w:World)(K:PySem.W.Frag)(mg:Str→Option Value)(base:Heap)(CX:CXT)(k:Nat)(f:Addr)(fd:FuncData)(ps:List Str)(sp:Sp):Prop where
 len:∀vs H Q E,sp vs H Q E→vs.length=ps.length
 run:∀(A:Around) (outer:List Env) (s:Shared) (H:Hp) (args:Args) (us:List Value) (vs:List V) (Q:VK) (E:XK),Room k A→Env0 P w K mg base A outer s H→BindsTo s fd args (ps.zip us)→Vals vs us→sp vs H Q E→
  codeAny (model P w) A (.call (.ref f) args) (CR CX outer P w H s Q E) s
theorem FnOk.mono{P:Program}{w:World}{K:PySem.W.Frag}{mg:Str→Option Value}{base:Heap}{CX:CXT}{j k:Nat}{f:Addr}{fd:FuncData}{ps:List Str}{sp:Sp}(F:FnOk P w K mg base CX j f fd ps sp)(h:j≤k):
 FnOk P w K mg base CX k f fd ps sp:=⟨F.len,fun A outer s H args us vs Q E hr=>F.run A outer s H args us vs Q E (hr.mono h)⟩
theorem Env0.make{P:Program}{w:World}{K:PySem.W.Frag}{mg:Str→Option Value}{base:Heap}{A:Around}{outer:List Env}{s:Shared}{H:Hp}(e:Env0 P w K mg base A outer s H)(C:Addr)(us:List Value)(kw:List (Str×Value)):
 Env0 P w K mg base (A.under (.builtin "type.__call__" ⟨.ref C::us,kw⟩)) outer s H:=⟨by first | exact e.frames | (simpa [Around.under,Code.envs,Code.isFrame,pushEnvs] using e.frames),e.mod,e.bs,e.bsz,e.funs,e.frf,e.hok,e.bare⟩
theorem Env0.in1{P:Program}{w:World}{K:PySem.W.Frag}{mg:Str→Option Value}{base:Heap}{A:Around}{outer:List Env}{s:Shared}{H:Hp}(e:Env0 P w K mg base A outer s H):
 Env0 P w K mg base A.in1 outer s H:=⟨e.frames,e.mod,e.bs,e.bsz,e.funs,e.frf,e.hok,e.bare⟩
section
variable{X:Cx}{pins:List (Addr×Obj)}{σ:St}{H:Hp}{s s':Shared}
theorem Inv.env0(I:Inv X pins σ H s):Env0 X.prog X.w X.K X.mg X.base X.A X.stack s H:=
 ⟨I.ok.frames,I.ok.mod,I.bs,Nat.le_trans I.ok.bsz I.sz,I.stack,I.stkFree,I.hok,I.bare⟩
theorem Inv.after{Q:VK}{u:Value}(I:Inv X pins σ H s)(h:CE X.stack X.prog X.w H s Q u s'):EP X pins σ Q u s':=by
 obtain⟨v,H',os,bare,un,hok,r,q⟩:=h
 obtain⟨hh,g,d,t,os'⟩:=s'
 obtain rfl:os'=s.os:=os
 exact⟨v,H',I.call (h':=hh) (g':=g) (d':=d) (t':=t) (ch:=[]) un hok bare (fun b z=>absurd z (by simp)),r,q⟩
end
def tCall(sp:Sp)(dvs:List V)(E:XK)(t:TA):TE:=fun σ H Q=>t σ H fun vs H1=>sp (vs++dvs) H1 Q E
def tMeth(C:Addr)(m:Str)(sp:Sp)(dvs:List V)(E:XK)(ta:TE)(t:TA):TE:=fun σ H Q=>ta σ H fun x H1=>∃a dx fs,x=.ref a∧H1 a=some (.ins C dx fs)∧fs.lookup m=none∧
 t σ H1 fun vs H2=>sp (x::(vs++dvs)) H2 Q E
def tMake(C:Addr)(sp:Sp)(dvs:List V)(E:XK)(t:TA):TE:=fun σ H Q=>t σ H fun vs H1=>∀x dx,H1 x=none→H1 dx=none→dx≠x→
 sp (.ref x::(vs++dvs)) (upd (upd H1 dx (.own x)) x (.ins C dx [])) (fun v H2=>v=.non∧Q (.ref x) H2) E
def Binds(K:PySem.W.Frag)(fd:FuncData)(ps:List Str)(ds:List Value):Prop:=
 ∀(s:Shared) (us:List Value),K.In s.heap→(us++ds).length=ps.length→BindsTo s fd ⟨us,[]⟩ (ps.zip (us++ds))
theorem Binds.all{K:PySem.W.Frag}{fd:FuncData}{ps:List Str}(h:∀us:List Value,us.length=ps.length→bindArgs fd ⟨us,[]⟩=pure (ps.zip us)):Binds K fd ps []:=fun s us _ hl=>by
 rw[List.append_nil] at hl ⊢
 exact .of_eq (h us hl)
def Passes(CX:CXT)(X:Cx)(E:XK):Prop:=∀(pins:List (Addr×Obj)) (σ:St) (H:Hp) (s:Shared) (e:Value) (s':Shared),Inv X pins σ H s→CX X.stack H s E e s'→X.xe e s'
section
variable{X:Cx}{CX:CXT}{k:Nat}{f C:Addr}{fd:FuncData}{ps:List Str}{sp:Sp}{dvs:List V}{ds:List Value}{E:XK}{x m:Str}{p pos apos:Pos}{e o:Expr}{es:List Expr}{ta:TE}{t:TA}
theorem run_fn{pins:List (Addr×Obj)}{σ:St}{H:Hp}{s:Shared}{Q:VK}{us:List Value}{vs:List V}(F:FnOk X.prog X.w X.K X.mg X.base CX k f fd ps sp)(hr:Room k X.A)(hb:Binds X.K fd ps ds)(hd:Vals dvs ds)(hx:Passes CX X E)
 (I:Inv X pins σ H s)(r:Vals vs us)(h:sp (vs++dvs) H Q E):wpAny (model X.prog X.w) X.A (call (.ref f) us) (EP X pins σ Q) X.xe s:=by
 have r2:Vals (vs++dvs) (us++ds):=r.append hd
 have hl:(us++ds).length=ps.length:=by rw[←r2.length];exact F.len _ _ _ _ h
 refine wpAny_call (codeAny_mono (F.run X.A X.stack s H ⟨us,[]⟩ (us++ds) (vs++dvs) Q E hr I.env0 (hb s us I.kIn hl) r2 h) fun r s' hq=>?_)
 cases r with
 | error e=>exact hx pins σ H s e s' I hq
 | ok fl=>
  cases fl with
  | ret u=>exact I.after hq
  | next=>exact False.elim hq
  | brk=>exact False.elim hq
  | cont=>exact False.elim hq
theorem pe_call(F:FnOk X.prog X.w X.K X.mg X.base CX k f fd ps sp)(hr:Room k X.A)(hg:Gl X x)(hm:X.mg x=some (.ref f))(hk:PySem.W.keepIn X.K (.ref f)=true)(hb:Binds X.K fd ps ds)(hd:Vals dvs ds)(hx:Passes CX X E)
 (ha:PA X (e::es) t)(hdb:(x==("__debug__":Str))=false:=by decide)(he:starEach (e::es) X.env=(false,eval e X.env)::starEach es X.env:=by rfl)(hpl:(backTo pos (starEach es X.env)).any (·.1)=false:=by rfl):
 PE X (.Call (.Name x p) (e::es) [] pos) (tCall sp dvs E t):=by
 intro pins s σ H Q I h
 refine wpAny_Call_Name_kw (ld_glob I hg hm ?_ hdb)
 refine PySem.W.callWith_K (h₀:=X.base) I.ok.mod.kin hk (thn (ha pos pins s σ H _ I h) fun us s1 ⟨vs,H1,I1,r,q⟩=>⟨I1.kIn,?_⟩) he hpl
 exact run_fn F hr hb hd hx I1 r q
theorem pe_meth{pl:Sem Bool}(he:PE X o ta)(c:Cls X.K C)(hm:Meth X.K C m f)(F:FnOk X.prog X.w X.K X.mg X.base CX k f fd ps sp)(hr:Room k X.A)(hb:Binds X.K fd ps ds)(hd:Vals dvs ds)(hx:Passes CX X E)(ha:PA X (e::es) t)
 (hst:starEach (e::es) X.env=(false,eval e X.env)::starEach es X.env:=by rfl)(hpl:(backTo pos (starEach es X.env)).any (·.1)=false:=by rfl)
 (ht:eval (.Call (.Attribute o m apos) (e::es) [] pos) X.env=(do
  let ov ←eval o X.env
  standAt apos.atName
  let (f,first) ←holding [ov] (getMethod ov m pl)
  callWith pos f first (backTo pos (starEach (e::es) X.env)) (backToKw pos (keywordEach [] X.env))):=by rfl):
 PE X (.Call (.Attribute o m apos) (e::es) [] pos) (tMeth C m sp dvs E ta t):=by
 intro pins s σ H Q I h
 refine PySem.W.methodCall_KW (pl:=pl) (thn (he pins s σ H _ I h) fun u s1 ⟨x,H1,I1,rx,a,dx,fs,ex,ea,l,q⟩=>?_) ht
 subst ex
 obtain rfl:u=Value.ref a:=rx
 refine getmeth_ok I1 ea c hm l ?_
 refine PySem.W.callWith_K (first:=[.ref a]) (h₀:=X.base) I.ok.mod.kin hm.kp (thn (ha pos pins s1 σ H1 _ I1 q) fun us s2 ⟨vs,H2,I2,r,q2⟩=>⟨I2.kIn,?_⟩) hst hpl
 exact run_fn (us:=.ref a::us) (vs:=.ref a::vs) F hr hb hd hx I2 (.cons rfl r) q2
theorem pe_meth0{pl:Sem Bool}(he:PE X o ta)(c:Cls X.K C)(hm:Meth X.K C m f)(F:FnOk X.prog X.w X.K X.mg X.base CX k f fd ps sp)(hr:Room k X.A)(hb:Binds X.K fd ps ds)(hd:Vals dvs ds)(hx:Passes CX X E)
 (ht:eval (.Call (.Attribute o m apos) [] [] pos) X.env=(do
  let ov ←eval o X.env
  standAt apos.atName
  let (f,first) ←holding [ov] (getMethod ov m pl)
  callWith pos f first (backTo pos (starEach [] X.env)) (backToKw pos (keywordEach [] X.env))):=by rfl):
 PE X (.Call (.Attribute o m apos) [] [] pos) (tMeth C m sp dvs E ta tNil):=by
 intro pins s σ H Q I h
 refine PySem.W.methodCall_KW (pl:=pl) (thn (he pins s σ H _ I h) fun u s1 ⟨x,H1,I1,rx,a,dx,fs,ex,ea,l,q⟩=>?_) ht
 subst ex
 obtain rfl:u=Value.ref a:=rx
 refine getmeth_ok I1 ea c hm l ?_
 exact PySem.W.callWith_K0 (first:=[.ref a]) I1.kIn hm.kp (run_fn (us:=[.ref a]) (vs:=[.ref a]) F hr hb hd hx I1 (.cons rfl .nil) q)
structure Mk(K:PySem.W.Frag)(C f:Addr):Prop where
 makes:PySem.W.makesIn K C=true
 init:PySem.W.findIn K (.ref C) "__init__"=some (some (.ref f))
 fn:PySem.W.isFn K (.ref f)=true
 kp:PySem.W.keepIn K (.ref C)=true
theorem run_make{pins:List (Addr×Obj)}{σ:St}{H:Hp}{s:Shared}{Q:VK}{us:List Value}{vs:List V}(M:Mk X.K C f)(F:FnOk X.prog X.w X.K X.mg X.base CX k f fd ps sp)(hr:Room (k+1) X.A)(hb:Binds X.K fd ps ds)(hd:Vals dvs ds)
 (hx:Passes CX X E)(I:Inv X pins σ H s)(r:Vals vs us)
 (h:∀x dx,H x=none→H dx=none→dx≠x→sp (.ref x::(vs++dvs)) (upd (upd H dx (.own x)) x (.ins C dx [])) (fun v H2=>v=.non∧Q (.ref x) H2) E):
 wpAny (model X.prog X.w) X.A (call (.ref C) us) (EP X pins σ Q) X.xe s:=by
 have hq:=h (s.heap.objs.size+1) s.heap.objs.size (I.hok.fresh (Nat.le_succ _)) (I.hok.fresh (Nat.le_refl _)) (Nat.ne_of_lt (Nat.lt_succ_self _))
 have I2:=Inv.made (C:=C) I
 have r2:Vals (V.ref (s.heap.objs.size+1)::(vs++dvs)) (Value.ref (s.heap.objs.size+1)::(us++ds)):=.cons rfl (r.append hd)
 have hl:(Value.ref (s.heap.objs.size+1)::us++ds).length=ps.length:=by
  have e:=r2.length
  rw[F.len _ _ _ _ hq] at e
  exact e.symm
 refine wpAny_call (make_map (f:=f) I.kIn M.makes M.init (beq_iff_eq.mp M.fn) (codeAny_mono (F.run _ X.stack _ _ ⟨Value.ref (s.heap.objs.size+1)::us,[]⟩ (Value.ref (s.heap.objs.size+1)::(us++ds)) _ _ E (hr.make C us [])
  (I2.env0.make C us []) (hb _ (Value.ref (s.heap.objs.size+1)::us) I2.kIn hl) r2 hq) fun r s' hq'=>?_))
 cases r with
 | error e=>exact hx pins σ _ _ e s' I2 hq'
 | ok fl=>
  cases fl with
  | ret u=>
   obtain⟨v,H',I3,rv,ev,q3⟩:=I2.after hq'
   subst ev
   exact⟨rv,⟨V.ref (s.heap.objs.size+1),H',I3,rfl,q3⟩⟩
  | next=>exact False.elim hq'
  | brk=>exact False.elim hq'
  | cont=>exact False.elim hq'
theorem pe_make(M:Mk X.K C f)(F:FnOk X.prog X.w X.K X.mg X.base CX k f fd ps sp)(hr:Room (k+1) X.A)(hg:Gl X x)(hm:X.mg x=some (.ref C))(hb:Binds X.K fd ps ds)(hd:Vals dvs ds)(hx:Passes CX X E)
 (ha:PA X (e::es) t)(hdb:(x==("__debug__":Str))=false:=by decide)(he:starEach (e::es) X.env=(false,eval e X.env)::starEach es X.env:=by rfl)(hpl:(backTo pos (starEach es X.env)).any (·.1)=false:=by rfl):
 PE X (.Call (.Name x p) (e::es) [] pos) (tMake C sp dvs E t):=by
 intro pins s σ H Q I h
 refine wpAny_Call_Name_kw (ld_glob I hg hm ?_ hdb)
 refine PySem.W.callWith_K (h₀:=X.base) I.ok.mod.kin M.kp (thn (ha pos pins s σ H _ I h) fun us s1 ⟨vs,H1,I1,r,q⟩=>⟨I1.kIn,?_⟩) he hpl
 exact run_make M F hr hb hd hx I1 r q
theorem pe_make0(M:Mk X.K C f)(F:FnOk X.prog X.w X.K X.mg X.base CX k f fd ps sp)(hr:Room (k+1) X.A)(hg:Gl X x)(hm:X.mg x=some (.ref C))(hb:Binds X.K fd ps ds)(hd:Vals dvs ds)(hx:Passes CX X E)
 (hdb:(x==("__debug__":Str))=false:=by decide):PE X (.Call (.Name x p) [] [] pos) (tMake C sp dvs E tNil):=by
 intro pins s σ H Q I h
 refine wpAny_Call_Name_kw (ld_glob I hg hm ?_ hdb)
 exact PySem.W.callWith_K0 I.kIn M.kp (run_make (us:=[]) M F hr hb hd hx I .nil h)
end
section
variable{X:Cx}{CX:CXT}{k:Nat}{f C:Addr}{fd:FuncData}{ps ks:List Str}{sp:Sp}{E:XK}{x m:Str}{p pos apos kpos:Pos}{e o:Expr}{es:List Expr}{kws:List Keyword}{te ta:TE}{t tk:TA}{nm:Option Str}
variable{g:List Value→List Value→List Value}{gV:List V→List V→List V}
end
structure FnScope(N P:List Str)(sc:Scope):Prop where
 kind:sc.kind=.function
 co:sc.isCoroutine=false
 gen:sc.isGenerator=false
 nd:N.Nodup
 pre:N.take P.length=P
 par:∀x∈P,sc.names.lookup x=some .local∨sc.names.lookup x=some .cell
 nofree:∀y∈sc.names,y.2≠.free
theorem bindL_out{kindOf:Str→Option NameKind}{x:Str}:∀{binds:List (Str×Value)} {m:Str→Option Value},(∀v,(x,v)∉binds)→bindL kindOf binds m x=m x
 | [],_,_=>rfl
 | (n,v)::r,m,h=>by
  unfold bindL
  rw[bindL_out fun w hw=>h w (List.mem_cons_of_mem _ hw)]
  split
  ·have:x≠n:=by rintro rfl;exact h v List.mem_cons_self
   simp[this]
  ·rfl
theorem bindC_out{kindOf:Str→Option NameKind}{x:Str}:∀{binds:List (Str×Value)} {m:Str→Option Value},(∀v,(x,v)∉binds)→bindC kindOf binds m x=m x
 | [],_,_=>rfl
 | (n,v)::r,m,h=>by
  unfold bindC
  rw[bindC_out fun w hw=>h w (List.mem_cons_of_mem _ hw)]
  split
  ·rfl
  ·have:x≠n:=by rintro rfl;exact h v List.mem_cons_self
   simp[this]
theorem bindL_get{kindOf:Str→Option NameKind}{x:Str}{v:Value}:∀{P:List Str} {vs:List Value} {i:Nat} {m:Str→Option Value},P.Nodup→P[i]?=some x→vs[i]?=some v→kindOf x=some .local→
 bindL kindOf (P.zip vs) m x=some v
 | [],_,_,_,_,h,_,_=>by simp at h
 | _::_,[],_,_,_,_,h,_=>by simp at h
 | p::P,w::vs,0,m,nd,h1,h2,hk=>by
  simp at h1 h2;subst h1;subst h2
  show bindL kindOf ((p,w)::P.zip vs) m p=_
  unfold bindL
  rw[bindL_out fun v hv=>(List.nodup_cons.mp nd).1 (List.of_mem_zip hv).1,if_pos hk]
  simp
 | p::P,w::vs,i+1,m,nd,h1,h2,hk=>by
  show bindL kindOf ((p,w)::P.zip vs) m x=_
  unfold bindL
  exact bindL_get (i:=i) (List.nodup_cons.mp nd).2 (by simpa using h1) (by simpa using h2) hk
theorem bindC_get{kindOf:Str→Option NameKind}{x:Str}{v:Value}:∀{P:List Str} {vs:List Value} {i:Nat} {m:Str→Option Value},P.Nodup→P[i]?=some x→vs[i]?=some v→kindOf x≠some .local→
 bindC kindOf (P.zip vs) m x=some v
 | [],_,_,_,_,h,_,_=>by simp at h
 | _::_,[],_,_,_,_,h,_=>by simp at h
 | p::P,w::vs,0,m,nd,h1,h2,hk=>by
  simp at h1 h2;subst h1;subst h2
  show bindC kindOf ((p,w)::P.zip vs) m p=_
  unfold bindC
  rw[bindC_out fun v hv=>(List.nodup_cons.mp nd).1 (List.of_mem_zip hv).1,if_neg hk]
  simp
 | p::P,w::vs,i+1,m,nd,h1,h2,hk=>by
  show bindC kindOf ((p,w)::P.zip vs) m x=_
  unfold bindC
  exact bindC_get (i:=i) (List.nodup_cons.mp nd).2 (by simpa using h1) (by simpa using h2) hk
def start(N:List Str)(vs:List V):St:=vs.map some++List.replicate (N.length-vs.length) none
def cxOf(CX:CXT)(P:Program)(w:World)(K:PySem.W.Frag)(mg:Str→Option Value)(base:Heap)(N:List Str)(qual:Str)(scope:Scope)(f:Addr)(cd:Value)(A:Around)(outer:List Env)(s:Shared)(H:Hp)(E:XK):Cx where
 prog:=P
 w:=w
 K:=K
 mg:=mg
 base:=base
 A:=A.deeper (envOfC qual scope s.heap.objs.size f cd)
 N:=N
 s₀:=s
 H₀:=H
 env:=envOfC qual scope s.heap.objs.size f cd
 outer:=outer
 stack:=envOfC qual scope s.heap.objs.size f cd::outer
 ex:=[]
 calm:=true
 fn:=fun _=>true
 pn:=[]
 xe:=fun e s'=>wpAny (model P w) (A.deeper (envOfC qual scope s.heap.objs.size f cd)) (leaving (envOfC qual scope s.heap.objs.size f cd) e) (fun _ s''=>CX outer H s E e s'') (fun e' s''=>CX outer H s E e' s'') s'
theorem cell_has{sc:Scope}{n:Nat}{x:Str}(h:sc.names.lookup x=some .cell):∃c,(cellsFrom n sc.names []).lookup x=some c:=by
 have q:=PySem.W.cellsFrom_some sc.names n [] (.inl h)
 exact Option.isSome_iff_exists.mp q
theorem inv_start{CX:CXT}{P:Program}{w:World}{K:PySem.W.Frag}{mg:Str→Option Value}{base:Heap}{N ps:List Str}{qual:Str}{scope:Scope}{f:Addr}{cd:Value}{A:Around}{outer:List Env}{s s1:Shared}{H:Hp}{E:XK}{us:List Value}{vs:List V}
 (S:FnScope N ps scope)(hd:A.handled=none)(e0:Env0 P w K mg base A outer s H)(hl:vs.length=ps.length)(r:Vals vs us)
 (x:InCallC s s.heap.objs.size (bindL (envOfC qual scope s.heap.objs.size f cd).kindOf (ps.zip us) fun _=>none) (cellsFrom (s.heap.objs.size+1) scope.names []) (bindC (envOfC qual scope s.heap.objs.size f cd).kindOf (ps.zip us) fun _=>none) s1):
 Inv (cxOf CX P w K mg base N qual scope f cd A outer s H E) [] (start N vs) H s1:=by
 have hpl:ps.length≤N.length:=by have:=congrArg List.length S.pre;rw[List.length_take] at this;omega
 obtain⟨h1,tk,rfl,hk⟩:=x.done
 have noA:∀b:Addr,b∉(cxOf CX P w K mg base N qual scope f cd A outer s H E).ex:=fun b z=>absurd (show b∈([]:List Addr) from z) (by simp)
 refine⟨⟨e0.mod,S.kind,rfl,rfl,Nat.le_refl _,fun y z c h1 h2=>?_,fun y hy=>?_,fun y c _ h=>?_,fun _=>hd,Around.frames_deeper e0.frames,.inr ⟨rfl,rfl⟩,fun b z=>absurd z (noA b),e0.bs,e0.bsz,fun b _ _=>noA b,fun b z=>absurd z (noA b),e0.funs,e0.frf⟩,
  rfl,e0.bare,Un.kept hk,⟨_,x.toInCall.ns,fun i y v h1 h2 h3=>?_⟩,fun y c h=>⟨_,x.cell y c h⟩,e0.hok.fresh (Nat.le_refl _),fun y c h=>?_,fun p hp=>absurd (show p∈([]:List (Addr×Obj)) from hp) (by simp),e0.hok.kept hk,?_⟩
 ·exact name_of_addr x.apart (PySem.mem_of_lookup h1) (PySem.mem_of_lookup h2)
 ·have hy:scope.names.lookup y=some .cell∨scope.names.lookup y=some .free:=hy
  rcases hy with hy | hy
  ·exact cell_has hy
  ·exact absurd rfl (S.nofree _ (PySem.mem_of_lookup hy))
 ·exact Nat.le_of_lt (x.above y c (PySem.mem_of_lookup h))
 ·have hi:i<vs.length:=by
   unfold start at h2
   by_cases hi:i<vs.length
   ·exact hi
   ·rw[List.getElem?_append_right (by simpa using hi)] at h2
    rw[List.getElem?_replicate] at h2
    split at h2<;>cases h2
  have ha:vs[i]?=some v:=by
   unfold start at h2
   rw[List.getElem?_append_left (by simpa using hi),List.getElem?_map] at h2
   cases e:vs[i]? with
   | none=>rw[e] at h2;cases h2
   | some a=>rw[e] at h2;cases h2;rfl
  obtain⟨u,hu,rv⟩:=r.get ha
  have hp:ps[i]?=some y:=by
   rw[←S.pre,List.getElem?_take_of_lt (by omega)];exact h1
  have ndP:ps.Nodup:=by rw[←S.pre];exact S.nd.sublist (List.take_sublist _ _)
  refine⟨u,rv,?_⟩
  rcases S.par y (List.mem_of_getElem? hp) with k | k
  ·exact .inl ⟨k,bindL_get ndP hp hu k⟩
  ·obtain⟨c,e⟩:=cell_has (n:=s.heap.objs.size+1) k
   refine .inr ⟨.inl k,c,e,?_⟩
   have q:=x.cell y c e
   rw[bindC_get ndP hp hu (by show scope.names.lookup y≠_;rw[k];decide)] at q
   exact q
 ·exact e0.hok.fresh (Nat.le_of_lt (x.above y c (PySem.mem_of_lookup h)))
 ·unfold start
  show _=N.length
  rw[List.length_append,List.length_map,List.length_replicate]
  omega
theorem fn_of{CX:CXT}{P:Program}{w:World}{K:PySem.W.Frag}{mg:Str→Option Value}{base:Heap}{k:Nat}{f:Addr}{name qual:Str}{params:Arguments}{body:List Stmt}{scope:Scope}{dV kV doc pm cdv ct oc:Value}{an od:Option Addr}
 {osl:Array (Option Value)}{N ps:List Str}{sp:Sp}(lk:K.lookup f=some ⟨oc,od,.func (PySem.W.fnOf name qual params body scope dV kV doc pm an cdv ct),osl⟩)(hcd:PySem.W.codeIn K cdv qual=true)(S:FnScope N ps scope)
 (len:∀vs H Q E,sp vs H Q E→vs.length=ps.length)
 (hbody:∀(A:Around) (outer:List Env) (s:Shared) (H:Hp) (vs:List V) (Q:VK) (E:XK),Room k (A.deeper (envOfC qual scope s.heap.objs.size f cdv))→sp vs H Q E→
  ∃t,PSs (cxOf CX P w K mg base N qual scope f cdv A outer s H E) body t∧t { nx:=fun _ H'=>Q .non H',rt:=Q } (start N vs) H):
 FnOk P w K mg base CX (k+1) f (PySem.W.fnOf name qual params body scope dV kV doc pm an cdv ct) ps sp:=by
 refine⟨len,fun A outer s H args us vs Q E hr e0 hb r hsp=>?_⟩
 have hl:=len _ _ _ _ hsp
 have KX:K.In s.heap:=e0.mod.kin.keeps fun b o e=>(e0.bs b o e).1
 have lim:s.heap.NoLimit:=e0.mod.nolimit.keeps fun b o e=>(e0.bs b o e).1
 have hkind:∀y∈ps.zip us,scope.names.lookup y.1=some .local∨(scope.names.lookup y.1=some .cell∧((cellsFrom (s.heap.objs.size+1) scope.names []).lookup y.1).isSome=true):=fun⟨n,v⟩ hy=>by
  rcases S.par n (List.of_mem_zip hy).1 with q | q
  ·exact .inl q
  ·exact .inr ⟨q,PySem.W.cellsFrom_some _ _ _ (.inl q)⟩
 refine codeAny_call_function hr.depth (KX _ _ lk) rfl S.co S.gen rfl (PySem.W.codeRec_of KX hcd) (hb _ _ _ _ ?_)
 refine wpAny_newFunctionEnv_cells S.kind hkind fun env he s1 x=>?_
 subst he
 refine⟨lim.keeps x.toInCall.keep,codeAny_func ?_⟩
 obtain⟨t,ht,hq⟩:=hbody A outer s H vs Q E (hr.deeper _) hsp
 have I:Inv (cxOf CX P w K mg base N qual scope f cdv A outer s H E) [] (start N vs) H s1:=inv_start S hr.hd e0 hl r x
 refine wpAny_mono (ht [] s1 (start N vs) H _ I hq) (fun fl s' hs=>?_) fun e s' hs=>hs
 have fin:∀{σ':St} {H':Hp} {v:V} {u:Value},Inv (cxOf CX P w K mg base N qual scope f cdv A outer s H E) [] σ' H' s'→RelV v u→Q v H'→CE outer P w H s Q u s':=
  fun{σ' H' v u} J rv q=>⟨v,H',J.os,J.bare,J.base,J.hok,rv,q⟩
 cases fl with
 | ret u=>
  obtain⟨v,σ',H',J,rv,q⟩:=hs
  exact fin J rv q
 | next=>
  obtain⟨σ',H',J,q⟩:=hs
  exact fin (v:=V.non) (u:=Value.none) J rfl q
 | brk=>
  obtain⟨_,_,_,q⟩:=hs
  exact False.elim q
 | cont=>
  obtain⟨_,_,_,q⟩:=hs
  exact False.elim q
end L2
namespace L2
open PySem PySem.Spec PyProof.Rows
section
variable{X:Cx}{x:Str}{p pos:Pos}{e:Expr}{es:List Expr}{t:TA}{id T:String}{r:List V→Hp→VK→Prop}
def tCB(r:List V→Hp→VK→Prop)(t:TA):TE:=fun σ H Q=>t σ H fun vs H1=>r vs H1 Q
theorem pe_callB(hc:CallR X (.builtin id) r)(hg:Gl X x)(hm:X.mg x=none)(hv:bootBuiltins x=some (.builtin id))(ha:PA X (e::es) t)(hn:x≠"__name__":=by decide)(hdb:(x==("__debug__":Str))=false:=by decide)
 (he:starEach (e::es) X.env=(false,eval e X.env)::starEach es X.env:=by rfl)(hpl:(backTo pos (starEach es X.env)).any (·.1)=false:=by rfl):PE X (.Call (.Name x p) (e::es) [] pos) (tCB r t):=by
 intro pins s σ H Q I h
 refine wpAny_Call_Name_kw (ld_blt I hg hm hv ?_ hn hdb)
 exact PyProof.Rows.callWith_builtin1 (thn (ha pos pins s σ H _ I h) fun us s1 ⟨vs,H1,I1,r1,q1⟩=>hc pins s1 σ H1 vs us Q I1 r1 q1) he hpl
theorem pe_callTy(hc:CallR X (.type T) r)(hg:Gl X x)(hm:X.mg x=none)(hv:bootBuiltins x=some (.type T))(ha:PA X (e::es) t)(hn:x≠"__name__":=by decide)(hdb:(x==("__debug__":Str))=false:=by decide)
 (he:starEach (e::es) X.env=(false,eval e X.env)::starEach es X.env:=by rfl)(hpl:(backTo pos (starEach es X.env)).any (·.1)=false:=by rfl):PE X (.Call (.Name x p) (e::es) [] pos) (tCB r t):=by
 intro pins s σ H Q I h
 refine wpAny_Call_Name_kw (ld_blt I hg hm hv ?_ hn hdb)
 exact PyProof.Rows.callWith_type1 (thn (ha pos pins s σ H _ I h) fun us s1 ⟨vs,H1,I1,r1,q1⟩=>hc pins s1 σ H1 vs us Q I1 r1 q1) he hpl
end
end L2
namespace HT
open PySem PyProof.Rows
section
open PySem.SeqAt
open PySem.AutoSeq1 (wpAny_loadPart')
open PySem.MeetsSeq PySem.MeetsSeq2 PySem.MeetsSeq3
end
section
variable{prog:Program}{w:World}{A:Around}{E:Value→Shared→Prop}{s:Shared}
def sIx(n d:Nat):Option Int→Nat
 | none=>d
 | some v=>if v<0 then (v+(n:Int)).toNat else min v.toNat n
theorem sIx_none(n d:Nat):sIx n d none=d:=rfl
theorem sIx_nat(n d k:Nat):sIx n d (some (k:Int))=min k n:=by
 show(if (k:Int)<0 then ((k:Int)+(n:Int)).toNat else min (k:Int).toNat n)=min k n
 rw[if_neg (by omega),Int.toNat_natCast]
theorem sIx_le(n d:Nat)(hd:d≤n)(o:Option Int):sIx n d o≤n:=by
 cases o with
 | none=>exact hd
 | some v=>
  show(if v<0 then (v+(n:Int)).toNat else min v.toNat n)≤n
  by_cases hv:v<0
  ·rw[if_pos hv];omega
  ·rw[if_neg hv];exact Nat.min_le_right _ _
theorem clip_eq(v:Int)(n d:Nat):(if v<0 then max (v+(n:Int)) 0 else min v (n:Int))=((sIx n d (some v):Nat):Int):=by
 show(if v<0 then max (v+(n:Int)) 0 else min v (n:Int))=(((if v<0 then (v+(n:Int)).toNat else min v.toNat n):Nat):Int)
 by_cases hv:v<0
 ·simp only[if_pos hv];omega
 ·simp only[if_neg hv];omega
theorem adjust_gen(lo hi:Option Int)(n:Nat):Builtin.Slice.sliceAdjust lo hi 1 (n:Int)=(((sIx n 0 lo:Nat):Int),((sIx n n hi:Nat):Int)):=by
 have h1:¬((1:Int)<0):=by omega
 unfold Builtin.Slice.sliceAdjust
 simp only[h1,if_false]
 refine Prod.ext ?_ ?_
 ·cases lo with
  | none=>rfl
  | some v=>exact clip_eq v n 0
 ·cases hi with
  | none=>rfl
  | some v=>exact clip_eq v n n
theorem places_gen(i j:Nat):Builtin.Slice.slicePlaces (i:Int) (j:Int) 1=j-i:=by
 unfold Builtin.Slice.slicePlaces
 have h1:(1:Int)>0:=by omega
 simp only[h1,if_true,Int.ediv_one]
 split<;>omega
theorem slicePart_{v:Value}{o:Option Int}{Q:Option Int→Shared→Prop}(p:IsPart v o)(h:Q o s):wpAny (model prog w) A (Builtin.Slice.slicePartIndex v) Q E s:=by
 cases p with
 | none=>exact slicePart_none h
 | int i t=>exact slicePart_int h
theorem sliceApplied_gen{sl:Addr}{vl vu:Value}{lo hi:Option Int}{n:Nat}{Q:Int×Int×Nat→Shared→Prop}(hs:s.heap.IsSliceOf sl vl vu .none)(pl:IsPart vl lo)(pu:IsPart vu hi)
 (h:Q (((sIx n 0 lo:Nat):Int),1,sIx n n hi-sIx n 0 lo) s):wpAny (model prog w) A (Builtin.Slice.sliceApplied (.ref sl) (pure (n:Int))) Q E s:=by
 obtain⟨os,hos,hcs,hds⟩:=id hs
 unfold Builtin.Slice.sliceApplied Builtin.Slice.sliceFields
 refine wpAny_bind (wpAny_bind (wpAny_field hos hds (x:=vl) rfl (wpAny_bind (wpAny_field hos hds (x:=vu) rfl (wpAny_bind (wpAny_field hos hds (x:=.none) rfl (wpAny_pure ?_)))))))
 refine wpAny_bind (slicePart_none ?_)
 show wpAny _ _ (if ((1:Int)==0)=true then _ else _) _ _ s
 rw[if_neg (by decide)]
 refine wpAny_bind (slicePart_ pl (wpAny_bind (slicePart_ pu (wpAny_bind (wpAny_pure ?_)))))
 show wpAny _ _ (match Builtin.Slice.sliceAdjust lo hi 1 (n:Int) with | (lo,hi)=>pure (lo,(1:Int),Builtin.Slice.slicePlaces lo hi 1)) _ _ s
 rw[adjust_gen lo hi n]
 show wpAny _ _ (pure (((sIx n 0 lo:Nat):Int),(1:Int),Builtin.Slice.slicePlaces ((sIx n 0 lo:Nat):Int) ((sIx n n hi:Nat):Int) 1)) _ _ s
 rw[places_gen]
 exact wpAny_pure h
theorem pick_gen(xs:Array Value)(i k:Nat):((List.range k).filterMap fun(m:Nat)=>xs[((i:Int)+(m:Int)*1).toNat]?).toArray=((xs.toList.drop i).take k).toArray:=by
 have e:(fun (m:Nat)=>xs[((i:Int)+(m:Int)*1).toNat]?)=fun m=>xs[i+m]?:=by
  funext m
  have:((i:Int)+(m:Int)*1).toNat=i+m:=by omega
  rw[this]
 rw[e]
 have:=pick_run xs i k
 rw[List.filterMap_map] at this
 have e2:((fun x=>xs[x]?) ∘ fun x=>i+x)=fun m=>xs[i+m]?:=rfl
 rw[e2] at this
 rw[this]
theorem getItem_tuple_cut{t sl:Addr}{items:Array Value}{vl vu:Value}{lo hi:Option Int}{Q:Value→Shared→Prop}(ht:IsTup s.heap t items)(hs:s.heap.IsSliceOf sl vl vu .none)(pl:IsPart vl lo)(pu:IsPart vu hi)
 (hw:¬(sIx items.size 0 lo=0∧sIx items.size items.size hi=items.size))
 (h:Q (.ref s.heap.objs.size) { s with heap:=s.heap.push { cls:=.type "tuple",data:=.seq ((items.toList.drop (sIx items.size 0 lo)).take (sIx items.size items.size hi-sIx items.size 0 lo)).toArray } })
 (hsz:items.size≤sizeLine):wpAny (model prog w) A (getItem (.ref t) (.ref sl)) Q E s:=by
 have htake:sizeOk (.seq ((items.toList.drop (sIx items.size 0 lo)).take (sIx items.size items.size hi-sIx items.size 0 lo)).toArray):=by
  show((items.toList.drop (sIx items.size 0 lo)).take (sIx items.size items.size hi-sIx items.size 0 lo)).toArray.size≤sizeLine
  rw[List.size_toArray,List.length_take,List.length_drop,Array.length_toList]
  omega
 have hj:sIx items.size items.size hi≤items.size:=sIx_le _ _ (Nat.le_refl _) hi
 obtain⟨os,hos,hcs,hds⟩:=id hs
 have hTs:s.TypeIs (.ref sl) "slice":=⟨os,hos,hcs⟩
 unfold getItem
 try with_reducible refine wpAny_holding ?_
 first | refine wpAny_bind (wpAny_pure ?_) | skip
 refine wpAny_bind (wpAny_sequenceKey ht.typeIs (by decide) ?_)
 refine wpAny_bind (wpAny_callSpecial?_slot (name:=Str.ofString "__getitem__") ht.typeIs PyProof.Rows.slot_tuple_getitem
  (wpAny_call_entry PyProof.Rows.slot_tuple_getitem ht.typeIs entry_tuple_getitem ?_ (args_tuple_getitem _ _)))
 show wpAny _ _ (Builtin.Tuple.tupleItemsOf (.ref t) >>= _) _ _ s
 refine wpAny_bind (tupleItemsOf_ ht ?_)
 refine wpAny_bind (wpAny_typeOf hTs ?_)
 rw[if_pos (by decide)]
 refine wpAny_bind (sliceApplied_gen hs pl pu ?_)
 have hno:¬((((sIx items.size 0 lo:Nat):Int)==0&&(1:Int)==1&&(sIx items.size items.size hi-sIx items.size 0 lo)==items.size)=true):=by
  intro q
  rw[Bool.and_eq_true,Bool.and_eq_true] at q
  have q1:((sIx items.size 0 lo:Nat):Int)=0:=eq_of_beq q.1.1
  have q2:sIx items.size items.size hi-sIx items.size 0 lo=items.size:=eq_of_beq q.2
  exact hw ⟨by omega,by omega⟩
 show wpAny _ _ (if (((sIx items.size 0 lo:Nat):Int)==0&&(1:Int)==1&&(sIx items.size items.size hi-sIx items.size 0 lo)==items.size)=true then _ else _) _ _ s
 rw[if_neg hno,pick_gen]
 first
  | exact wpAny_bind (m:=Builtin.Tuple.tupleExact _) (wpAny_newObj_type (wpAny_pure ⟨_,rfl,wpAny_pure h⟩) htake)
  | exact wpAny_bind (m:=Builtin.Tuple.tupleExact _) (wpAny_newObj_type (wpAny_bind (wpAny_pure (wpAny_pure ⟨_,rfl,wpAny_pure h⟩))) htake)
  | exact wpAny_bind (wpAny_bind (m:=Builtin.Tuple.tupleExact _) (wpAny_newObj_type (wpAny_pure (wpAny_pure ⟨_,rfl,wpAny_pure h⟩)) htake))
  | exact wpAny_bind (wpAny_bind (m:=Builtin.Tuple.tupleExact _) (wpAny_newObj_type (wpAny_pure ⟨_,rfl,wpAny_pure h⟩) htake))
end
end HT
namespace L2
open PySem PySem.Spec PyProof.Rows
abbrev TO:=St→Hp→(Option Int→Hp→Prop)→Prop
def PO(X:Cx)(e:Option Expr)(t:TO):Prop:=
 ∀(pins:List (Addr×Obj)) (s:Shared) (σ:St) (H:Hp) (Q:Option Int→Hp→Prop),Inv X pins σ H s→t σ H Q→
  wpAny (model X.prog X.w) X.A (evalPart e X.env) (fun u s'=>∃o H',Inv X pins σ H' s'∧IsPart u o∧Q o H') X.xe s
def tNoPart:TO:=fun _ H Q=>Q none H
def tPart(t:TE):TO:=fun σ H Q=>t σ H fun x H1=>∃i,x=.int i∧Q (some i) H1
theorem intsAre_of{ns:List Int}:∀{us:List Value},Vals (ns.map V.int) us→IntsAre us ns:=by
 induction ns with
 | nil=>intro us r;rw[List.map_nil] at r;cases r;exact .nil
 | cons n ns ih=>
  intro us r
  rw[List.map_cons] at r
  cases r with
  | cons r1 r2=>
   obtain⟨t,e⟩:=r1
   subst e
   exact .cons n t (ih r2)
section
variable{X:Cx}{e:Expr}{te:TE}{lo hi:Option Expr}{tl th:TO}{pos p2:Pos}
theorem po_none:PO X none tNoPart:=by
 intro pins s σ H Q I h
 rw[evalPart_none]
 exact wpAny_pure ⟨none,H,I,.none,h⟩
theorem po_some(h:PE X e te):PO X (some e) (tPart te):=by
 intro pins s σ H Q I hw
 rw[evalPart_some]
 refine thn (h pins s σ H _ I hw) fun u s1 ⟨x,H1,I1,r1,q1⟩=>?_
 obtain⟨i,rfl,q⟩:=q1
 obtain⟨t,rfl⟩:=r1
 exact⟨some i,H1,I1,.int i t,q⟩
def SlR(X:Cx)(r:V→Option Int→Option Int→Hp→VK→Prop):Prop:=
 ∀(pins:List (Addr×Obj)) (s:Shared) (σ:St) (H:Hp) (x:V) (v vl vu:Value) (lo hi:Option Int) (sl:Addr) (Q:VK),Inv X pins σ H s→RelV x v→s.heap.IsSliceOf sl vl vu .none→IsPart vl lo→IsPart vu hi→r x lo hi H Q→
  ∃T id,typeLookup (.type T) "__getitem__"=pure (some (.builtin id))∧s.TypeIs v T∧wpAny (model X.prog X.w) X.A (getItem v (.ref sl)) (EP X pins σ Q) X.xe s
def tSl(r:V→Option Int→Option Int→Hp→VK→Prop)(te:TE)(tl th:TO):TE:=fun σ H Q=>te σ H fun x H1=>tl σ H1 fun l H2=>th σ H2 fun u H3=>r x l u H3 Q
theorem pe_slice{r:V→Option Int→Option Int→Hp→VK→Prop}(hr:SlR X r)(he:PE X e te)(hl:PO X lo tl)(hu:PO X hi th):PE X (.Subscript e (.Slice lo hi none p2) pos) (tSl r te tl th):=by
 intro pins s σ H Q I h
 refine Subscript_ (thn (he pins s σ H _ I h) fun v s1 ⟨x,H1,I1,r1,q1⟩=>?_)
 refine wpAny_Slice (thn (hl pins s1 σ H1 _ I1 q1) fun vl s2 ⟨l,H2,I2,pl,q2⟩=>thn (hu pins s2 σ H2 _ I2 q2) fun vu s3 ⟨u,H3,I3,pu,q3⟩=>?_)
 rw[evalPart_none]
 refine wpAny_pure ?_
 have I4:Inv X pins σ H3 { s3 with heap:=s3.heap.push { cls:=.type "slice",data:=.fields #[vl,vu,.none] } }:=I3.kept (t':=s3.toks) fun b ob q=>Heap.get?_push_of_some _ q
 obtain⟨T,id,hT,ht,hg⟩:=hr pins { s3 with heap:=s3.heap.push { cls:=.type "slice",data:=.fields #[vl,vu,.none] } } σ H3 x v vl vu l u s3.heap.objs.size Q I4 r1 (Heap.IsSliceOf.new ..) pl pu q3
 show wpAny (model X.prog X.w) X.A (subscriptTail e (.Slice lo hi none p2) v (.ref s3.heap.objs.size)) (EP X pins σ Q) X.xe { s3 with heap:=s3.heap.push { cls:=.type "slice",data:=.fields #[vl,vu,.none] } }
 exact tail_any (ops:=[.ref s3.heap.objs.size,v]) ht hT hg (by with_unfolding_all rfl)
def cutV(xs:List V)(lo hi:Option Int):List V:=(xs.drop (HT.sIx xs.length 0 lo)).take (HT.sIx xs.length xs.length hi-HT.sIx xs.length 0 lo)
theorem cutV_length(xs:List V)(lo hi:Option Int):(cutV xs lo hi).length≤xs.length:=by
 unfold cutV
 rw[List.length_take,List.length_drop]
 omega
def rSlT(K:PySem.W.Frag):V→Option Int→Option Int→Hp→VK→Prop:=fun x lo hi H Q=>∃a xs,x=.ref a∧SqT K H a xs∧
 ¬(HT.sIx xs.length 0 lo=0∧HT.sIx xs.length xs.length hi=xs.length)∧∀p,H p=none→Q (.ref p) (upd H p (.tup (cutV xs lo hi)))
theorem sl_tup:SlR X (rSlT X.K):=by
 intro pins s σ H x v vl vu lo hi sl Q I rx hs pl pu h
 obtain⟨a,xs,rfl,hx,hw,q⟩:=h
 cases rx
 obtain⟨its,r,ht,hz⟩:=I.tuple hx
 have hlen:its.toArray.size=xs.length:=by rw[List.size_toArray];exact r.length.symm
 refine⟨"tuple",_,PyProof.Rows.slot_tuple_getitem.lookup,ht.typeIs,?_⟩
 refine HT.getItem_tuple_cut ht hs pl pu (by rw[hlen];exact hw) ?_ (by rw[hlen];exact hz)
 rw[hlen]
 refine⟨.ref s.heap.objs.size,_,I.laid (t':=s.toks) (o:=.tup (cutV xs lo hi)) (fun b ob q=>Heap.get?_push_of_some _ q) (Nat.le_refl _) ?_,rfl,q _ (I.hok.fresh (Nat.le_refl _))⟩
 exact⟨Nat.le_trans (cutV_length xs lo hi) hz,_,(r.drop (HT.sIx xs.length 0 lo)).take (HT.sIx xs.length xs.length hi-HT.sIx xs.length 0 lo),IsTup.new _ _⟩
end
end L2
namespace L2
open PySem PySem.Spec PyProof.Rows
def ixN(n:Nat)(i:Int):Option Nat:=if 0≤i then (if i<n then some i.toNat else none) else if -(n:Int)≤i then some (i+n).toNat else none
def atI{α:Type}(xs:List α)(i:Int):Option α:=(ixN xs.length i).bind fun j=>xs[j]?
theorem ixN_seq{n:Nat}{i:Int}{j:Nat}(h:ixN n i=some j):seqIndex? i n=some j∧j<n∧ -(n:Int)≤i∧i<n:=by
 unfold ixN at h
 by_cases h0:0≤i
 ·rw[if_pos h0] at h
  by_cases h1:i<n
  ·rw[if_pos h1] at h
   have e:i.toNat=j:=Option.some.inj h
   exact⟨by rw[seqIndex_of h0 h1,e],by omega,by omega,h1⟩
  ·rw[if_neg h1] at h;cases h
 ·rw[if_neg h0] at h
  by_cases h1: -(n:Int)≤i
  ·rw[if_pos h1] at h
   have e:(i+n).toNat=j:=Option.some.inj h
   exact⟨by rw[seqIndex_neg (by omega) h1,e],by omega,h1,by omega⟩
  ·rw[if_neg h1] at h;cases h
theorem atI_get{α:Type}{xs:List α}{i:Int}{v:α}(h:atI xs i=some v):∃j,seqIndex? i xs.length=some j∧xs[j]?=some v∧j<xs.length∧ -(xs.length:Int)≤i∧i<xs.length:=by
 unfold atI at h
 cases e:ixN xs.length i with
 | none=>rw[e] at h;cases h
 | some j=>
  rw[e] at h
  obtain⟨h1,h2,h3,h4⟩:=ixN_seq e
  exact⟨j,h1,h,h2,h3,h4⟩
theorem atI_nat{α:Type}{xs:List α}{j:Nat}{v:α}(h:xs[j]?=some v):atI xs (j:Int)=some v:=by
 have hj:j<xs.length:=(List.getElem?_eq_some_iff.mp h).1
 have e:ixN xs.length (j:Int)=some j:=by
  unfold ixN
  rw[if_pos (by omega),if_pos (by omega)];simp
 unfold atI;rw[e];exact h
def PlainIx(b:Expr):Prop:=∀o i,subscripted b false o i=operate [o,i] (getItem o i)
def IxR(X:Cx)(r:R2):Prop:=
 ∀(value slice:Expr) (pins:List (Addr×Obj)) (s:Shared) (σ:St) (H:Hp) (x y:V) (v u:Value) (Q:VK),Inv X pins σ H s→RelV x v→RelV y u→r x y H Q→
  subscripted slice false v u=operate [v,u] (getItem v u)→wpAny (model X.prog X.w) X.A (subscriptTail value slice v u) (EP X pins σ Q) X.xe s
def MtR(X:Cx)(id:String)(r:V→List V→Hp→VK→Prop):Prop:=
 ∀(pins:List (Addr×Obj)) (s:Shared) (σ:St) (H:Hp) (x:V) (xs:List V) (v:Value) (us:List Value) (Q:VK),Inv X pins σ H s→RelV x v→Vals xs us→r x xs H Q→
  wpAny (model X.prog X.w) X.A (call (.builtin id) (v::us)) (EP X pins σ Q) X.xe s
section
variable{X:Cx}{a b:Expr}{ta tb:TE}{pos:Pos}
theorem pe_ix{r:R2}(hr:IxR X r)(ha:PE X a ta)(hb:PE X b tb)(hs:PlainIx b):PE X (.Subscript a b pos) (tOp r ta tb):=by
 intro pins s σ H Q I h
 exact Subscript_ (binT ha hb I h fun v u s2 x y H2 I2 rx ry q=>hr a b pins s2 σ H2 x y v u Q I2 rx ry q (hs _ _))
def rIxL(K:PySem.W.Frag):R2:=fun x y H Q=>∃p xs i v,x=.ref p∧y=.int i∧SqL K H p xs∧atI xs i=some v∧Q v H
def rIxT(K:PySem.W.Frag):R2:=fun x y H Q=>∃p xs i v,x=.ref p∧y=.int i∧SqT K H p xs∧atI xs i=some v∧Q v H
theorem ix_list:IxR X (rIxL X.K):=by
 intro value slice pins s σ H x y v u Q I rx ry h hs
 obtain⟨p,xs,i,z,rfl,rfl,hq,he,q⟩:=h
 cases rx
 obtain⟨t,rfl⟩:=ry
 obtain⟨its,r,pl,hz⟩:=I.list hq
 obtain⟨j,h1,h2,h3,h4,h5⟩:=atI_get he
 obtain⟨w,ew,rw'⟩:=r.get h2
 have hl:=r.length
 have hn:=line63
 have fin:EP X pins σ Q w s:=⟨z,H,I,rw',q⟩
 by_cases h0:0≤i
 ·have hj:i.toNat=j:=by
   rw[seqIndex_of h0 h5] at h1
   exact Option.some.inj h1
  exact item_listR pl.isList h0 (by omega) (by rw[hj];simpa using ew) fin hs
 ·have hj:(i+(its.toArray.size:Int)).toNat=j:=by
   rw[seqIndex_neg (by omega) h4] at h1
   rw[List.size_toArray,←hl]
   exact Option.some.inj h1
  exact subscriptTail_builtinR (x:=w) pl.isList.typeIs slot_list_getitem.lookup
   (wpAny_getItem_list_neg (Q:=fun r s'=>r=w∧EP X pins σ Q r s') pl.isList (by omega) (by rw[List.size_toArray]<;>omega) (by omega) (by rw[hj];simpa using ew) ⟨rfl,fin⟩) hs
theorem ix_tup:IxR X (rIxT X.K):=by
 intro value slice pins s σ H x y v u Q I rx ry h hs
 obtain⟨p,xs,i,z,rfl,rfl,hq,he,q⟩:=h
 cases rx
 obtain⟨t,rfl⟩:=ry
 obtain⟨its,r,pl,hz⟩:=I.tuple hq
 obtain⟨j,h1,h2,h3,h4,h5⟩:=atI_get he
 obtain⟨w,ew,rw'⟩:=r.get h2
 have hl:=r.length
 have hn:=line63
 have fin:EP X pins σ Q w s:=⟨z,H,I,rw',q⟩
 exact subscriptTail_builtinR (x:=w) pl.typeIs slot_tuple_getitem.lookup
  (getItem_tuple (j:=j) (Q:=fun r s'=>r=w∧EP X pins σ Q r s') pl (by omega) (by omega) (by rw[List.size_toArray,←hl];exact h1) (by simpa using ew) ⟨rfl,fin⟩) hs
theorem mapSeq_set(its:List Value)(n j:Nat)(u:Value):Obj.mapSeq (·.setIfInBounds j u) { cls:=.type "list",data:=.seq its.toArray n }={ cls:=.type "list",data:=.seq (its.set j u).toArray n }:=by
 simp[Obj.mapSeq]
theorem Inv.lst{pins:List (Addr×Obj)}{σ:St}{H:Hp}{s:Shared}{p:Addr}{xs:List V}(I:Inv X pins σ H s)(h:H p=some (.lst xs)):
 ∃(its:List Value) (n:Nat),Vals xs its∧s.heap.get? p=some { cls:=.type "list",data:=.seq its.toArray n }∧xs.length≤sizeLine:=by
 obtain⟨z,its,n,r,e⟩:=I.hok p _ h
 exact⟨its,n,r,e,z⟩
theorem Inv.lstUpd{pins:List (Addr×Obj)}{σ:St}{H:Hp}{s:Shared}{p:Addr}{xs ys:List V}{its its':List Value}{n n':Nat}{f:Obj→Obj}(I:Inv X pins σ H s)(h:H p=some (.lst xs))
 (ho:s.heap.get? p=some { cls:=.type "list",data:=.seq its.toArray n })(hf:f { cls:=.type "list",data:=.seq its.toArray n }={ cls:=.type "list",data:=.seq its'.toArray n' })(r:Vals ys its')(hz:ys.length≤sizeLine)(t:Nat):
 Inv X pins σ (upd H p (.lst ys)) { s with heap:=s.heap.update p f,toks:=t }:=by
 have e:(s.heap.update p f).get? p=some { cls:=.type "list",data:=.seq its'.toArray n' }:=by
  rw[Heap.get?_update_self f ho (by rw[hf]<;>rfl),hf]
 refine I.write (x:=p) (e:=p) (by rw[h];trivial) (.inl rfl) (fun b u hb q=>(Heap.get?_update_other _ _ (Ne.symm hb)).trans q) ⟨_,e⟩ ?_
 exact⟨hz,its',n',r,e⟩
def rSetL:V→V→V→Hp→(Hp→Prop)→Prop:=fun o i v H Q=>∃p xs k j,o=.ref p∧i=.int k∧H p=some (.lst xs)∧ixN xs.length k=some j∧Q (upd H p (.lst (xs.set j v)))
theorem set_list:PSet X rSetL:=by
 intro pins s σ H o i v ov iv u Q I ro ri rv h
 obtain⟨p,xs,k,j,rfl,rfl,hp,hj,q⟩:=h
 cases ro
 obtain⟨t,rfl⟩:=ri
 obtain⟨its,n,r,ho,hz⟩:=I.lst hp
 obtain⟨h1,h2,h3,h4⟩:=ixN_seq hj
 have hl:=r.length
 have hn:=line63
 have I':Inv X pins σ (upd H p (.lst (xs.set j v))) { s with heap:=s.heap.update p (Obj.mapSeq (·.setIfInBounds j u)) }:=
  I.lstUpd hp ho (mapSeq_set its n j u) (r.set rv j) (by rw[List.length_set];exact hz) s.toks
 by_cases h0:0≤k
 ·have hk:k.toNat=j:=by
   rw[seqIndex_of h0 h4] at h1
   exact Option.some.inj h1
  exact PySem.W.ki_setAt ho h0 (by omega) (by rw[List.size_toArray,←hl];exact h4) (by rw[hk];exact⟨_,I',q⟩)
 ·have hk:(k+(its.toArray.size:Int)).toNat=j:=by
   rw[seqIndex_neg (by omega) h3] at h1
   rw[List.size_toArray,←hl]
   exact Option.some.inj h1
  exact PySem.W.ki_setBack ho (by omega) (by rw[List.size_toArray,←hl];exact h3) (by omega) (by rw[hk];exact⟨_,I',q⟩)
theorem slice_bounds(lo hi:Option Int)(n:Nat):(sliceBounds lo hi none n).1=((HT.sIx n 0 lo:Nat):Int)∧(sliceBounds lo hi none n).2.1=((HT.sIx n n hi:Nat):Int)∧(sliceBounds lo hi none n).2.2=1:=by
 refine⟨?_,?_,rfl⟩
 ·cases lo with
  | none=>simp[sliceBounds,HT.sIx]
  | some i=>
   simp only[sliceBounds,HT.sIx,Option.getD_none,show(1:Int)>0 by decide,if_true]
   by_cases h:i<0
   ·simp only[h,if_true]<;>omega
   ·simp only[h,if_false]<;>omega
 ·cases hi with
  | none=>simp[sliceBounds,HT.sIx]
  | some i=>
   simp only[sliceBounds,HT.sIx,Option.getD_none,show(1:Int)>0 by decide,if_true]
   by_cases h:i<0
   ·simp only[h,if_true]<;>omega
   ·simp only[h,if_false]<;>omega
theorem slicePick_cut(its:List Value)(lo hi:Option Int):slicePick its.toArray lo hi none=((its.drop (HT.sIx its.length 0 lo)).take (HT.sIx its.length its.length hi-HT.sIx its.length 0 lo)).toArray:=by
 obtain⟨h1,h2,h3⟩:=slice_bounds lo hi its.toArray.size
 unfold slicePick
 rw[h1,h2,h3]
 simp only[sliceRange_one,pick_run,List.size_toArray]<;>rfl
def rSlL(K:PySem.W.Frag):V→Option Int→Option Int→Hp→VK→Prop:=fun x lo hi H Q=>∃a xs,x=.ref a∧SqL K H a xs∧∀p,H p=none→Q (.ref p) (upd H p (.lst (cutV xs lo hi)))
theorem sl_list:SlR X (rSlL X.K):=by
 intro pins s σ H x v vl vu lo hi sl Q I rx hs pl pu h
 obtain⟨a,xs,rfl,hx,q⟩:=h
 cases rx
 obtain⟨its,r,ht,hz⟩:=I.list hx
 have hlen:=r.length
 refine⟨"list",_,slot_list_getitem.lookup,ht.isList.typeIs,?_⟩
 refine wpAny_getItem_list_slice ht.isList hs pl pu .none (by simp) ?_ (by rw[List.size_toArray]<;>omega)
 rw[slicePick_cut,←hlen]
 refine⟨.ref s.heap.objs.size,_,I.laid (t':=s.toks) (o:=.lst (cutV xs lo hi)) (fun b ob q=>Heap.get?_push_of_some _ q) (Nat.le_refl _) ?_,rfl,q _ (I.hok.fresh (Nat.le_refl _))⟩
 exact⟨Nat.le_trans (cutV_length xs lo hi) hz,_,0,(r.drop (HT.sIx xs.length 0 lo)).take (HT.sIx xs.length xs.length hi-HT.sIx xs.length 0 lo),Heap.get?_push_size _ rfl⟩
def flatV:V→Bool
 | .non=>true
 | .bl _=>true
 | .int _=>true
 | .str _=>true
 | _=>false
def eqV:V→V→Bool
 | .non,.non=>true
 | .bl a,.bl b=>a==b
 | .bl a,.int b=>(if a then 1 else 0)==b
 | .int a,.bl b=>a==(if b then 1 else 0)
 | .int a,.int b=>a==b
 | .str a,.str b=>a==b
 | _,_=>false
theorem eqAt_V{A:Around}{s:Shared}{y x:V}{u v:Value}(ry:RelV y u)(rx:RelV x v)(fy:flatV y=true)(fx:flatV x=true):SeqAt.EqAt A s u v (eqV y x):=by
 cases y with
 | non=>
  cases ry
  cases x with
  | non=>cases rx;exact SeqAt.EqAt.same _
  | bl b=>cases rx;exact SeqAt.EqAt.none_bool b
  | int b=>obtain⟨t,rfl⟩:=rx;exact SeqAt.EqAt.none_int b t
  | str b=>obtain⟨t,rfl⟩:=rx;exact SeqAt.EqAt.none_str b t
  | _=>exact absurd (show false=true from fx) Bool.false_ne_true
 | bl a=>
  cases ry
  cases x with
  | non=>cases rx;exact SeqAt.EqAt.bool_none a
  | bl b=>cases rx;exact SeqAt.EqAt.bool_bool a b
  | int b=>obtain⟨t,rfl⟩:=rx;exact SeqAt.EqAt.bool_int a b t
  | str b=>obtain⟨t,rfl⟩:=rx;exact SeqAt.EqAt.bool_str a b t
  | _=>exact absurd (show false=true from fx) Bool.false_ne_true
 | int a=>
  obtain⟨t',rfl⟩:=ry
  cases x with
  | non=>cases rx;exact SeqAt.EqAt.int_none a t'
  | bl b=>cases rx;exact SeqAt.EqAt.int_bool a t' b
  | int b=>obtain⟨t,rfl⟩:=rx;exact SeqAt.EqAt.int_int a t' b t
  | str b=>obtain⟨t,rfl⟩:=rx;exact SeqAt.EqAt.int_str a t' b t
  | _=>exact absurd (show false=true from fx) Bool.false_ne_true
 | str a=>
  obtain⟨t',rfl⟩:=ry
  cases x with
  | non=>cases rx;exact SeqAt.EqAt.str_none a t'
  | bl b=>cases rx;exact SeqAt.EqAt.str_bool a t' b
  | int b=>obtain⟨t,rfl⟩:=rx;exact SeqAt.EqAt.str_int a t' b t
  | str b=>obtain⟨t,rfl⟩:=rx;exact SeqAt.EqAt.str_str a t' b t
  | _=>exact absurd (show false=true from fx) Bool.false_ne_true
 | _=>exact absurd (show false=true from fy) Bool.false_ne_true
def eqU(x:V)(u:Value):Bool:=match u with
 | .none=>eqV .non x
 | .bool b=>eqV (.bl b) x
 | .int i _=>eqV (.int i) x
 | .str z _=>eqV (.str z) x
 | _=>false
theorem eqU_of{x y:V}{u:Value}(r:RelV y u)(f:flatV y=true):eqU x u=eqV y x:=by
 cases y with
 | non=>cases r;rfl
 | bl b=>cases r;rfl
 | int i=>obtain⟨t,rfl⟩:=r;rfl
 | str z=>obtain⟨t,rfl⟩:=r;rfl
 | _=>exact absurd (show false=true from f) Bool.false_ne_true
theorem any_eqU{x:V}:∀{xs:List V} {us:List Value},Vals xs us→xs.all flatV=true→us.any (eqU x)=xs.any fun y=>eqV y x
 | _,_,.nil,_=>rfl
 | y::xs,u::us,.cons r t,f=>by
  rw[List.all_cons,Bool.and_eq_true] at f
  rw[List.any_cons,List.any_cons,eqU_of r f.1,any_eqU t f.2]
theorem mem_eqAt{A:Around}{s:Shared}{x:V}{v:Value}(rx:RelV x v)(fx:flatV x=true):∀{xs:List V} {us:List Value},Vals xs us→xs.all flatV=true→∀u∈us,SeqAt.EqAt A s u v (eqU x u)
 | _,_,.nil,_=>fun u hu=>by cases hu
 | y::xs,u::us,.cons r t,f=>fun u' hu=>by
  rw[List.all_cons,Bool.and_eq_true] at f
  rcases List.mem_cons.mp hu with rfl | hu
  ·rw[eqU_of r f.1];exact eqAt_V r rx f.1 fx
  ·exact mem_eqAt rx fx t f.2 u' hu
def inV(x:V)(xs:List V):Bool:=xs.any fun y=>eqV y x
def rIn(K:PySem.W.Frag)(neg:Bool):R2:=fun x y H Q=>∃p xs,y=.ref p∧(SqL K H p xs∨SqT K H p xs)∧flatV x=true∧xs.all flatV=true∧Q (.bl (if neg then !inV x xs else inV x xs)) H
theorem op_in_seq:OpR X (compareOp .In) (rIn X.K false):=by
 intro pins s σ H x y v u Q I rx ry h
 obtain⟨p,xs,rfl,hq,fx,fs,q⟩:=h
 cases ry
 rcases hq with hq | hq
 ·obtain⟨its,r,pl,hz⟩:=I.list hq
  refine SeqAt.in_listAt (eqU x) pl.isList (fun w hw=>mem_eqAt rx fx r fs w (by simpa using hw)) ⟨.bl _,H,I,rfl,?_⟩
  rw[show its.toArray.any (eqU x)=its.any (eqU x) by simp,any_eqU r fs]
  exact q
 ·obtain⟨its,r,pl,hz⟩:=I.tuple hq
  refine SeqAt.in_tupleAt (eqU x) pl (fun w hw=>mem_eqAt rx fx r fs w (by simpa using hw)) ⟨.bl _,H,I,rfl,?_⟩
  rw[show its.toArray.any (eqU x)=its.any (eqU x) by simp,any_eqU r fs]
  exact q
theorem op_notIn_seq:OpR X (compareOp .NotIn) (rIn X.K true):=by
 intro pins s σ H x y v u Q I rx ry h
 obtain⟨p,xs,rfl,hq,fx,fs,q⟩:=h
 cases ry
 rcases hq with hq | hq
 ·obtain⟨its,r,pl,hz⟩:=I.list hq
  refine SeqAt.notIn_listAt (eqU x) pl.isList (fun w hw=>mem_eqAt rx fx r fs w (by simpa using hw)) ⟨.bl _,H,I,rfl,?_⟩
  rw[show its.toArray.any (eqU x)=its.any (eqU x) by simp,any_eqU r fs]
  exact q
 ·obtain⟨its,r,pl,hz⟩:=I.tuple hq
  refine SeqAt.notIn_tupleAt (eqU x) pl (fun w hw=>mem_eqAt rx fx r fs w (by simpa using hw)) ⟨.bl _,H,I,rfl,?_⟩
  rw[show its.toArray.any (eqU x)=its.any (eqU x) by simp,any_eqU r fs]
  exact q
theorem call_len_seq:CallR X (.builtin "len") (fun xs H Q=>∃p ys,xs=[.ref p]∧(SqL X.K H p ys∨SqT X.K H p ys)∧Q (.int ys.length) H):=by
 intro pins s σ H xs us Q I r h
 obtain⟨p,ys,rfl,hq,q⟩:=h
 obtain⟨u,rfl,rx⟩:=vals1 r
 cases rx
 have hn:=line63
 rcases hq with hq | hq
 ·obtain⟨its,r',pl,hz⟩:=I.list hq
  have hlen:=r'.length
  exact Calls.call_len_list pl.isList (by simp only[List.size_toArray]<;>omega) ⟨.int ys.length,H,I.tok _,⟨s.toks+1,by rw[List.size_toArray,hlen]⟩,q⟩
 ·obtain⟨its,r',pl,hz⟩:=I.tuple hq
  have hlen:=r'.length
  exact len_tuple pl (by simp only[List.size_toArray]<;>omega) ⟨.int ys.length,H,I.tok _,⟨s.toks+1,by rw[List.size_toArray,hlen]⟩,q⟩
theorem call_list_of:CallR X (.type "list") (fun xs H Q=>∃p ys,xs=[.ref p]∧(SqL X.K H p ys∨SqT X.K H p ys)∧∀l,H l=none→Q (.ref l) (upd H l (.lst ys))):=by
 intro pins s σ H xs us Q I r h
 obtain⟨p,ys,rfl,hq,q⟩:=h
 obtain⟨u,rfl,rx⟩:=vals1 r
 cases rx
 have fin:∀(its:List Value),Vals ys its→ys.length≤sizeLine→∀(h':Heap) (c':Nat),(∀b o',s.heap.get? b=some o'→h'.get? b=some o')→
  h'.get? s.heap.objs.size=some { cls:=.type "list",dict:=none,data:=.seq its.toArray c',slots:= #[] }→EP X pins σ Q (.ref s.heap.objs.size) { s with heap:=h' }:=fun its r' hz h' c' kp e=>
  ⟨.ref s.heap.objs.size,_,I.laid (t':=s.toks) kp (Nat.le_refl _) (show ObjOk X.prog X.w _ h' _ (.lst ys) from ⟨hz,its,c',r',e⟩),rfl,q _ (I.hok.fresh (Nat.le_refl _))⟩
 rcases hq with hq | hq
 ·obtain⟨its,r',pl,hz⟩:=I.list hq
  have hlen:=r'.length
  obtain⟨o,ho,hc,n,hd⟩:=pl.isList
  exact call_list_seq p (.inl rfl) ho hc hd (fun h' c' kp e=>fin its r' hz h' c' kp e) (by simp only[List.size_toArray]<;>omega)
 ·obtain⟨its,r',pl,hz⟩:=I.tuple hq
  have hlen:=r'.length
  obtain⟨o,ho,hc,n,hd⟩:=pl
  exact call_list_seq p (.inr rfl) ho hc hd (fun h' c' kp e=>fin its r' hz h' c' kp e) (by simp only[List.size_toArray]<;>omega)
theorem call_tuple_of:CallR X (.type "tuple") (fun xs H Q=>∃p ys,xs=[.ref p]∧((SqL X.K H p ys∧∀l,H l=none→Q (.ref l) (upd H l (.tup ys)))∨(SqT X.K H p ys∧Q (.ref p) H))):=by
 intro pins s σ H xs us Q I r h
 obtain⟨p,ys,rfl,h⟩:=h
 obtain⟨u,rfl,rx⟩:=vals1 r
 cases rx
 rcases h with ⟨hq,q⟩ | ⟨hq,q⟩
 ·obtain⟨its,r',pl,hz⟩:=I.list hq
  have hlen:=r'.length
  refine call_tuple_list pl.isList (fun h' kp=>?_) (by simp only[List.size_toArray]<;>omega)
  have I1:Inv X pins σ H { s with heap:=h' }:=I.kept (t':=s.toks) kp
  have I2:Inv X pins σ (upd H h'.objs.size (.tup ys)) { s with heap:=h'.push { cls:=.type "tuple",data:=.seq its.toArray } }:=
   I1.laid (t':=s.toks) (fun b o e=>Heap.get?_push_of_some _ e) (Nat.le_refl _) (show ObjOk X.prog X.w _ _ _ (.tup ys) from ⟨hz,its,r',IsTup.new _ _⟩)
  exact⟨.ref h'.objs.size,_,I2,rfl,q _ (I1.hok.fresh (Nat.le_refl _))⟩
 ·obtain⟨its,r',pl,hz⟩:=I.tuple hq
  exact call_tuple_same pl ⟨.ref p,H,I,rfl,q⟩
def tyV(K:PySem.W.Frag)(T:String)(x:V)(H:Hp):Prop:=match x with
 | .str _=>T="str"
 | .int _=>T="int"
 | .ref p=>(T="list"∧∃xs,SqL K H p xs)∨(T="tuple"∧∃o,K.lookup p=some o∧o.cls=.type "tuple"∧o.dict=none)∨
  (T="dict"∧((∃kvs,H p=some (.dK kvs))∨∃kvs,H p=some (.dT kvs)))∨(T="set"∧∃S n,H p=some (.set S n))
 | _=>False
theorem tyV_is{pins:List (Addr×Obj)}{σ:St}{H:Hp}{s:Shared}{T:String}{x:V}{v:Value}(I:Inv X pins σ H s)(r:RelV x v)(ty:tyV X.K T x H):
 s.TypeIs v T∧∀a,v=.ref a→∃ob,s.heap.get? a=some ob∧ob.dict=none:=by
 cases x with
 | str z=>
  obtain⟨t,rfl⟩:=r
  cases (show T="str" from ty)
  exact⟨typeIs_str s z t,fun _ e=>nomatch e⟩
 | int i=>
  obtain⟨t,rfl⟩:=r
  cases (show T="int" from ty)
  exact⟨typeIs_int s i t,fun _ e=>nomatch e⟩
 | ref p=>
  cases r
  rcases ty with ⟨rfl,xs,hq⟩ | ⟨rfl,o,hk,hc,hd⟩ | ⟨rfl,hk⟩ | ⟨rfl,S,n,hk⟩
  ·obtain⟨its,_,pl,_⟩:=I.list hq
   refine⟨pl.isList.typeIs,fun a e=>?_⟩
   cases e
   obtain⟨o,n,e,c,hd,_⟩:=pl
   exact⟨o,e,hd⟩
  ·refine⟨⟨o,I.kIn p o hk,hc⟩,fun a e=>?_⟩
   cases e
   exact⟨o,I.kIn _ o hk,hd⟩
  ·have z:∃o,s.heap.get? p=some o∧o.ExactDict:=by
    rcases hk with ⟨kvs,hk⟩ | ⟨kvs,hk⟩
    ·obtain⟨_,_,_,_,o,_,_,e,ex,_⟩:=I.hok p _ hk
     exact⟨o,e,ex⟩
    ·obtain⟨_,_,_,_,o,_,_,e,ex,_⟩:=I.hok p _ hk
     exact⟨o,e,ex⟩
   obtain⟨o,e,ex⟩:=z
   refine⟨⟨o,e,ex.1⟩,fun a e2=>?_⟩
   cases e2
   exact⟨o,e,ex.2.1⟩
  ·obtain⟨o,_,_,_,e,ex,_⟩:=I.hok p _ hk
   refine⟨⟨o,e,ex.1⟩,fun a e2=>?_⟩
   cases e2
   exact⟨o,e,ex.2.1⟩
 | _=>exact False.elim ty
def tBM0(K:PySem.W.Frag)(T:String)(r:V→List V→Hp→VK→Prop)(to:TE):TE:=fun σ H Q=>to σ H fun x H1=>tyV K T x H1∧r x [] H1 Q
def tBM(K:PySem.W.Frag)(T:String)(r:V→List V→Hp→VK→Prop)(to:TE)(t:TA):TE:=fun σ H Q=>to σ H fun x H1=>tyV K T x H1∧t σ H1 fun xs H2=>r x xs H2 Q
variable{o e:Expr}{es:List Expr}{to:TE}{t:TA}{name:Str}{apos cpos:Pos}{T id:String}{r:V→List V→Hp→VK→Prop}
theorem pe_bm0(pa:PlainAttrs T)(slot:Slot T name id)(hty:typeOf (.builtin id)=pure (.type "method_descriptor"))(hm:MtR X id r)(ho:PE X o to)
 (hbase:attributeBase o name X.env (eval o X.env)=eval o X.env:=by rfl)(hline:(apos.endLine==cpos.line)=true:=by rfl):PE X (.Call (.Attribute o name apos) [] [] cpos) (tBM0 X.K T r to):=by
 intro pins s σ H Q I h
 refine wpAny_Call_method0_late hbase hline (thn (ho pins s σ H _ I h) fun v s1 ⟨x,H1,I1,r1,ty,q1⟩=>?_)
 obtain⟨h1,h2⟩:=tyV_is I1 r1 ty
 exact⟨T,id,pa,slot,hty,h1,h2,Calls.callWith_builtin rfl (PySem.evalArgs_none (hm pins s1 σ H1 x [] v [] Q I1 r1 .nil q1))⟩
theorem pe_bm(pa:PlainAttrs T)(slot:Slot T name id)(hty:typeOf (.builtin id)=pure (.type "method_descriptor"))(hm:MtR X id r)(ho:PE X o to)(ha:PA X (e::es) t)
 (hbase:attributeBase o name X.env (eval o X.env)=eval o X.env:=by rfl)
 (hfew:((backTo cpos (starEach (e::es) X.env)).all (fun x=>!x.1)&&(backToKw cpos (keywordEach [] X.env)).all (fun x=>x.1.isSome)
  &&decide ((e::es).length+([]:List Keyword).length+(if ([]:List Keyword).isEmpty then 0 else 1)<30))=true:=by rfl)
 (hline:(apos.endLine==cpos.line)=true:=by rfl)(hs:starEach (e::es) X.env=(false,eval e X.env)::starEach es X.env:=by rfl)(hplain:(backTo cpos (starEach es X.env)).any (·.1)=false:=by rfl):
 PE X (.Call (.Attribute o name apos) (e::es) [] cpos) (tBM X.K T r to t):=by
 intro pins s σ H Q I h
 refine wpAny_Call_method_late hbase hfew hline rfl (thn (ho pins s σ H _ I h) fun v s1 ⟨x,H1,I1,r1,ty,q1⟩=>?_)
 obtain⟨h1,h2⟩:=tyV_is I1 r1 ty
 refine⟨T,id,pa,slot,hty,h1,h2,?_⟩
 have hA:=ha cpos pins s1 σ H1 _ I1 q1
 rw[hs] at hA ⊢
 refine Calls.callWith_builtin (by show(false||(backTo cpos (starEach es X.env)).any (·.1))=false;rw[hplain]<;>rfl) (Calls.evalArgs_plain ?_)
 exact thn hA fun us s2 ⟨vs,H2,I2,r2,q2⟩=>hm pins s2 σ H2 x vs v us Q I2 r1 r2 q2
end
end L2
namespace L2
open PySem PySem.Spec PyProof.Rows
def MtM(X:Cx)(id:String)(r:V→List V→Hp→VK→Prop):Prop:=
 ∀(pins:List (Addr×Obj)) (s:Shared) (σ:St) (H:Hp) (x:V) (xs:List V) (v:Value) (us:List Value) (Q:VK),Inv X pins σ H s→RelV x v→Vals xs us→r x xs H Q→
  wpAny (model X.prog X.w) X.A (call (.builtin id) (v::us)) (EP X pins σ Q) X.xe s
theorem Vals.one:∀{x:V} {us:List Value},Vals [x] us→∃u,us=[u]∧RelV x u
 | _,_,.cons r .nil=>⟨_,rfl,r⟩
theorem Vals.zero:∀{us:List Value},Vals [] us→us=[]
 | _,.nil=>rfl
theorem Vals.rep{xs:List V}{us:List Value}(h:Vals xs us):∀k:Nat,Vals (List.replicate k xs).flatten (List.replicate k us).flatten
 | 0=>.nil
 | k+1=>by
  rw[List.replicate_succ,List.replicate_succ,List.flatten_cons,List.flatten_cons]
  exact Vals.append h (Vals.rep h k)
theorem foldl_rep(its:List Value):∀(k:Nat) (acc:List Value),
 List.foldl (fun x1 x2=>x1++x2) acc.toArray (List.replicate k its.toArray)=(acc++(List.replicate k its).flatten).toArray
 | 0,acc=>by simp
 | k+1,acc=>by
  have e:acc.toArray++its.toArray=(acc++its).toArray:=by simp
  have e2:(acc++its)++(List.replicate k its).flatten=acc++(List.replicate (k+1) its).flatten:=by
   rw[List.replicate_succ,List.flatten_cons,List.append_assoc]
  rw[←e2,←foldl_rep its k (acc++its),←e,List.replicate_succ,List.foldl_cons]
section
variable{X:Cx}{pins:List (Addr×Obj)}{σ:St}{H:Hp}{s:Shared}{l b:Addr}{xs ys zs:List V}
theorem Inv.lset{its its':List Value}{n:Nat}{f:Array Value→Array Value}{t':Nat}(I:Inv X pins σ H s)(hH:H l=some (.lst xs))
 (e:s.heap.get? l=some { cls:=.type "list",data:=.seq its.toArray n })(hf:f its.toArray=its'.toArray)(hv:Vals ys its')(hz:ys.length≤sizeLine):
 Inv X pins σ (upd H l (.lst ys)) { s with heap:=s.heap.update l (Obj.mapSeq f),toks:=t' }:=by
 have q:=PySem.IsL.update e f
 rw[hf] at q
 refine I.write (x:=l) (e:=l) (by rw[hH];exact trivial) (.inl rfl) (fun b' u hb hu=>(Heap.get?_update_other s.heap (Obj.mapSeq f) (Ne.symm hb)).trans hu) ⟨_,q⟩ ?_
 exact⟨hz,its',_,hv,q⟩
theorem Inv.lnew{its:List Value}{t':Nat}(I:Inv X pins σ H s)(hv:Vals ys its)(hz:ys.length≤sizeLine):
 Inv X pins σ (upd H s.heap.objs.size (.lst ys)) { s with heap:=s.heap.push { cls:=.type "list",data:=.seq its.toArray },toks:=t' }:=
 I.laid (fun _ _ q=>Heap.get?_push_of_some _ q) (Nat.le_refl _) ⟨hz,its,0,hv,Heap.get?_push_size _ rfl⟩
theorem Inv.fresh(I:Inv X pins σ H s):H s.heap.objs.size=none:=I.hok.fresh (Nat.le_refl _)
theorem Inv.lstM(I:Inv X pins σ H s)(hH:H l=some (.lst xs)):xs.length≤sizeLine∧∃(its:List Value) (n:Nat),Vals xs its∧xs.length=its.length∧s.heap.get? l=some { cls:=.type "list",data:=.seq its.toArray n }:=by
 obtain⟨z,its,n,r,e⟩:=I.hok l _ hH
 exact⟨z,its,n,r,r.length,e⟩
theorem notLongL{n:Nat}(h:n≤sizeLine):Builtin.List.listTooLong n=false:=by
 unfold Builtin.List.listTooLong
 exact decide_eq_false (by omega)
end
section
variable{X:Cx}
def rAppend:V→List V→Hp→VK→Prop:=fun x vs H Q=>∃l xs y,x=.ref l∧vs=[y]∧H l=some (.lst xs)∧xs.length<sizeLine∧Q .non (upd H l (.lst (xs++[y])))
theorem mt_append:MtM X "list.append" rAppend:=by
 intro pins s σ H x vs v us Q I rx rv h
 obtain⟨l,xs,y,rfl,rfl,hH,hz,q⟩:=h
 cases rx
 obtain⟨u,rfl,ru⟩:=rv.one
 obtain⟨z,its,n,r,hl,e⟩:=I.lstM hH
 refine call_meets F.slot_list_append ⟨_,e,rfl⟩ F.entry_list_append (F.args_list_append_2 _ _) (PySem.list_append l its.toArray n u (by rw[List.size_toArray];omega)) ⟨e,?_⟩
 refine⟨.non,_,I.lset (its':=its++[u]) hH e (by simp) (r.append (.cons ru .nil)) ?_,rfl,q⟩
 rw[List.length_append,List.length_singleton]
 omega
def rExtend:V→List V→Hp→VK→Prop:=fun x vs H Q=>∃l b xs zs,x=.ref l∧vs=[.ref b]∧H l=some (.lst xs)∧H b=some (.lst zs)∧xs.length+zs.length≤sizeLine∧Q .non (upd H l (.lst (xs++zs)))
theorem mt_extend:MtM X "list.extend" rExtend:=by
 intro pins s σ H x vs v us Q I rx rv h
 obtain⟨l,b,xs,zs,rfl,rfl,hH,hB,hz,q⟩:=h
 cases rx
 obtain⟨u,rfl,ru⟩:=rv.one
 cases ru
 obtain⟨z,its,n,r,hl,e⟩:=I.lstM hH
 obtain⟨z2,its2,n2,r2,hl2,e2⟩:=I.lstM hB
 have hsz:its.toArray.size+its2.toArray.size≤sizeLine:=by rw[List.size_toArray,List.size_toArray];omega
 have hlong:¬(!its.toArray.isEmpty&&Builtin.List.listTooLong (its.toArray.size+its2.toArray.size))=true:=by
  rw[notLongL hsz,Bool.and_false]
  exact Bool.false_ne_true
 refine call_meets F.slot_list_extend ⟨_,e,rfl⟩ F.entry_list_extend (F.args_list_extend_2 _ _)
  (AutoSeq1.list_extend_list_list_0 l its.toArray n b its2.toArray n2 hlong (by rw[List.size_toArray];omega) (by omega)) ⟨e,e2,?_⟩
 refine⟨.non,_,I.lset (its':=its++its2) hH e (by simp) (r.append r2) ?_,rfl,q⟩
 rw[List.length_append]
 omega
def rCat:R2:=fun x y H Q=>∃l b xs zs,x=.ref l∧y=.ref b∧H l=some (.lst xs)∧H b=some (.lst zs)∧xs.length+zs.length≤sizeLine∧∀p,H p=none→Q (.ref p) (upd H p (.lst (xs++zs)))
theorem op_cat:OpR X (binaryOp .Add) rCat:=by
 intro pins s σ H x y v u Q I rx ry h
 obtain⟨l,b,xs,zs,rfl,rfl,hH,hB,hz,q⟩:=h
 cases rx
 cases ry
 obtain⟨z,its,n,r,hl,e⟩:=I.lstM hH
 obtain⟨z2,its2,n2,r2,hl2,e2⟩:=I.lstM hB
 refine PySem.P.add_list e e2 ?_ (by rw[List.size_toArray,List.size_toArray];omega)
 have ea:its.toArray++its2.toArray=(its++its2).toArray:=by simp
 rw[ea]
 exact⟨.ref _,_,I.lnew (t':=s.toks) (r.append r2) (by rw[List.length_append];omega),rfl,q _ I.fresh⟩
def rRep:R2:=fun x y H Q=>∃l k xs,x=.ref l∧y=.int k∧H l=some (.lst xs)∧ -(2^63)≤k∧k<2^63∧xs.length*k.toNat≤sizeLine∧
 ∀p,H p=none→Q (.ref p) (upd H p (.lst (List.replicate k.toNat xs).flatten))
theorem len_rep{α:Type}(xs:List α)(k:Nat):(List.replicate k xs).flatten.length=k*xs.length:=by
 induction k with
 | zero=>simp
 | succ k ih=>rw[List.replicate_succ,List.flatten_cons,List.length_append,ih,Nat.succ_mul,Nat.add_comm]
theorem op_rep:OpR X (binaryOp .Mult) rRep:=by
 intro pins s σ H x y v u Q I rx ry h
 obtain⟨l,k,xs,rfl,rfl,hH,h1,h2,hz,q⟩:=h
 cases rx
 obtain⟨t,rfl⟩:=ry
 obtain⟨z,its,n,r,hl,e⟩:=I.lstM hH
 have hlen:its.toArray.size*k.toNat≤sizeLine:=by rw[List.size_toArray,←hl];exact hz
 have hcap:¬its.toArray.size*k.toNat>(2^63-1)/8:=by
  have:(sizeLine:Nat)≤(2^63-1)/8:=by decide
  omega
 have hfit:¬(!Builtin.List.listFitsIndex k)=true:=by
  rw[fitsIndex_both h1 h2]
  exact Bool.false_ne_true
 have hlong:¬Builtin.List.listTooLong (its.toArray.size*k.toNat)=true:=by
  rw[notLongL hlen]
  exact Bool.false_ne_true
 have hnew:List.foldl (fun x1 x2=>x1++x2) #[] (List.replicate (if its.toArray.isEmpty=true then 0 else k.toNat) its.toArray)=(List.replicate k.toNat its).flatten.toArray:=by
  have f0:∀m:Nat,List.foldl (fun x1 x2=>x1++x2) #[] (List.replicate m its.toArray)=(List.replicate m its).flatten.toArray:=fun m=>by
   have:=foldl_rep its m []
   rw[List.nil_append] at this
   exact this
  rw[f0]
  cases its with
  | nil=>simp
  | cons a r'=>rw[if_neg (by simp)]
 refine wpAny_binaryOp_repeat_ref (T:="list") (U:="int") (by decide) ⟨_,e,rfl⟩ (fun s'=>typeIs_int s' k t) noFill_list_mul F.fills_int_mul F.slot_int_rmul repeat_list F.slot_int_index.lookup
  (call_meets F.slot_int_rmul (typeIs_int s k t) F.entry_int_rmul (F.args_int_rmul_2 _ _) (int___rmul___int_list k t l its.toArray n)
   ⟨e,rfl,⟨_,e,rfl⟩,call_meets F.slot_list_mul ⟨_,e,rfl⟩ F.entry_list_mul (F.args_list_mul_2 _ _) (AutoListH.list___mul___list_int_3 l its.toArray n k t hfit hcap hlong) ⟨e,?_⟩⟩)
 rw[hnew]
 exact⟨.ref _,_,I.lnew (t':=s.toks) (r.rep k.toNat) (by rw[len_rep,Nat.mul_comm];exact hz),rfl,q _ I.fresh⟩
end
section
variable{prog:Program}{w:World}{A:Around}{E:Value→Shared→Prop}{s:Shared}
end
section
variable{X:Cx}
end
end L2
namespace Att
open PySem PySem.W PySem.Calls PyProof.Rows
theorem ints_of_wellAll{P:Params}{h:Heap}:∀(ns:List Int) (vs:List Value),WellAll P h vs (ns.map WData.int)→IntsAre vs ns:=by
 intro ns
 induction ns with
 | nil=>
  intro vs w
  rw[List.map_nil] at w
  cases w
  exact .nil
 | cons n ns ih=>
  intro vs w
  rw[List.map_cons] at w
  cases w with
  | cons a b=>
   cases a
   exact .cons _ _ (ih _ b)
theorem script_of{l:OpenLaw}{n:Nat}(hn:l.most=some n){P:Params}{h:Heap}{args:List WData}{vals:List Value}
 (hpre:l.row.toRowW.claim.pre args=true)(hwl:WellAll P h vals args):
 ∃a vs ns,vals=[Value.ref a]∧args=[WData.list (ns.map WData.int)]∧h.get? a=some { cls:=.type "list",data:=.seq vs.toArray }∧IntsAre vs ns∧ns.length≤n:=by
 have hsh:WShape.hasAll [] args [.list .int]=true:=(pre_splitW hpre).1
 have hc:l.pre.holds [] { args:=args }=true:=(pre_splitW hpre).2
 obtain⟨d,r,rfl,h1,h2⟩:=hasAllW_cons hsh
 obtain rfl:=hasAllW_nil h2
 obtain⟨xs,rfl,h3⟩:=hasW_list h1
 obtain⟨ns,rfl⟩:=items_int h3
 have hlen:ns.length≤n:=by
  unfold OpenLaw.pre at hc
  have h4:(WTm.not (.lt (.lit (.int (n:Int))) (.len (.arg 0)))).holds [] { args:=[.list (ns.map .int)] }=true:=by
   have h4:=(holds_andW hc).1
   rw[hn] at h4
   exact h4
  have h5:=condW_of h4 (w_not (w_lt w_lit (w_len_list (w_arg rfl))))
  rw[List.length_map] at h5
  refine Nat.le_of_not_lt fun q=>?_
  have q':(n:Int)<((ns.length:Nat):Int):=by omega
  first
   | (rw [decide_eq_true q'] at h5;exact absurd h5 (by decide))
   | (simp at h5;omega)
 cases hwl with
 | cons w1 w2=>
  cases w2
  cases w1 with
  | list ho hall=>exact⟨_,_,ns,rfl,rfl,ho,ints_of_wellAll ns _ hall,hlen⟩
theorem post_true(l:OpenLaw)(args:List WData):l.row.toRowW.claim.post args (.bool true) args=true:=
 postW_of (r:=l.row.toRowW) (X:=(true==true))
  (show WShape.has [] (.bool true) .bool=true by first | rfl | decide | simp[WShape.has,WShape.arms,WShape.armsAll])
  (show (WTm.eq .res (.lit (.bool true))).value [] { args:=args,res:=some (.bool true),after:=args }=some (.bool (true==true)) from w_eq_bool (w_res rfl) w_lit) rfl
section
variable{prog:Program}{w:World}{A:Around}{E:Value→Shared→Prop}{s:Shared}{K:Frag}
end
end Att
namespace L2
open PySem PySem.Spec PyProof.Rows
theorem vals_ints:∀{vs:List Value} {ns:List Int},IntsAre vs ns→Vals (ns.map V.int) vs
 | _,_,.nil=>.nil
 | _,_,.cons n t h=>.cons ⟨t,rfl⟩ (vals_ints h)
def Only(H:Hp):Prop:=∀b,H b=none∨∃o xs,H b=some (.frz o (.lst xs))
theorem law_call{P:Program}{w:World}{K:PySem.W.Frag}{mg mb:Str→Option Value}{CX:CXT}{k:Nat}{fa a:Addr}{fd:FuncData}{x:Str}{sp:Sp}{s₁:Shared}{vs:List Value}{ns:List Int}
 (KX:K.In s₁.heap)(hns:s₁.heap.Ns mainGlobals mg)(hb:s₁.heap.Ns builtinsNs mb)(hbb:∀x:Str,x≠"__name__"→mb x=bootBuiltins x)(hlim:s₁.heap.NoLimit)(hg:s₁.gens= #[])
 (ha:s₁.heap.get? a=some { cls:=.type "list",data:=.seq vs.toArray })(hi:IntsAre vs ns)(hl:ns.length≤sizeLine)(hr:Room k callerA)
 (F:∀base:Heap,K.In base→base.Ns mainGlobals mg→FnOk P w K mg base CX k fa fd [x] sp)(hbind:∀(s:Shared) (u:Value),BindsTo s fd ⟨[u],[]⟩ [(x,u)])
 (hsp:∀H:Hp,Only H→SqL K H a (ns.map V.int)→sp [.ref a] H (fun v _=>v=.bl true) fun _ _ _=>False)
 (hCX:∀H e s',CX [] H s₁ (fun _ _ _=>False) e s'→False):
 codeAny (model P w) callerA (.call (.ref fa) ⟨[.ref a],[]⟩) (fun r s'=>r=.ok (.ret (.bool true))∧OldK s₁.heap s'.heap∧s'.os=s₁.os∧AllBare s'.gens) s₁:=by
 have rv:=vals_ints hi
 have lenV:=hi.length
 have core:∀H:Hp,Only H→SqL K H a (ns.map V.int)→HOk P w H s₁.heap→(∀b,H b≠none→b=a)→(H a≠none→K.lookup a=none)→
  codeAny (model P w) callerA (.call (.ref fa) ⟨[.ref a],[]⟩) (fun r s'=>r=.ok (.ret (.bool true))∧OldK s₁.heap s'.heap∧s'.os=s₁.os∧AllBare s'.gens) s₁:=by
  intro H hO hS hok hA hK
  have base_of:∀{b:Addr} {o:Obj},s₁.heap.get? b=some o→H b=none→(hidT s₁.heap H).get? b=some o:=fun e n=>hidT_get e n
  have noA:∀{b:Addr} {o:Obj} {es:Array DictEntry} {ep:Nat},s₁.heap.get? b=some o→o.data=.dict es ep→H b=none:=fun{b o es ep} e d=>by
   cases q:H b with
   | none=>rfl
   | some u=>
    have e':b=a:=hA b (by rw[q];simp)
    subst e'
    rw[ha] at e;cases e
    have d':Data.seq vs.toArray _=Data.dict es ep:=d
    cases d'
  have nsK:∀{b:Addr} {m:Str→Option Value},s₁.heap.Ns b m→(hidT s₁.heap H).Ns b m:=fun{b m} ⟨o,es,ep,e,d,r⟩=>⟨o,es,ep,base_of e (noA e d),d,r⟩
  have hKb:K.In (hidT s₁.heap H):=fun b o e=>base_of (KX b o e) (by
   cases q:H b with
   | none=>rfl
   | some u=>
    have e':b=a:=hA b (by rw[q];simp)
    subst e'
    rw[hK (by rw[q];simp)] at e;cases e)
  have hM:Mod K mg (hidT s₁.heap H):=⟨hKb,nsK hns,⟨mb,nsK hb,hbb⟩,let ⟨mc,h1,h2⟩:=hlim;⟨mc,nsK h1,h2⟩⟩
  have e0:Env0 P w K mg (hidT s₁.heap H) callerA [] s₁ H:=⟨rfl,hM,fun b o e=>of_hidT e,Nat.le_of_eq (hidT_size _ _),trivial,fun b hb=>absurd (show b∈([]:List Addr) from hb) (by simp),hok,.of_eq hg⟩
  refine codeAny_mono ((F _ hKb (nsK hns)).run callerA [] s₁ H ⟨[.ref a],[]⟩ [.ref a] [.ref a] _ _ hr e0 (hbind s₁ (.ref a)) (.cons rfl .nil) (hsp H hO hS)) fun r s' h=>?_
  cases r with
  | error e=>exact(hCX H e s' h).elim
  | ok fl=>
   cases fl with
   | next=>exact False.elim h
   | brk=>exact False.elim h
   | cont=>exact False.elim h
   | ret u=>
    obtain⟨v,H',os,bare,un,hok',r',q⟩:=h
    have q':v=.bl true:=q
    subst q'
    obtain rfl:u=Value.bool true:=r'
    refine⟨rfl,OldK.of_keep fun b o e=>?_,os,bare⟩
    cases q:H b with
    | none=>exact un.keep b o e q (by intro z;exact absurd (show b∈([]:List Addr) from z) (by simp)) (by simp)
    | some u=>
     rcases hO b with z | ⟨ob,xs,z⟩
     ·rw[q] at z;cases z
     ·have z2:=un.frzs b ob _ z
      obtain⟨e1,_⟩:=hok b _ z
      obtain⟨e2,_⟩:=hok' b _ z2
      rw[e] at e1;cases e1
      exact e2
 cases hk:K.lookup a with
 | some o=>
  have e:=KX a o hk
  rw[ha] at e
  cases e
  refine core (fun _=>none) (fun _=>.inl rfl) (.inr ⟨_,vs.toArray,_,hk,rfl,rfl,rfl,by rw[List.size_toArray,lenV];exact hl,by simpa using rv⟩) (fun b u z=>by have z':(none:Option HO)=some u:=z;cases z') (fun b z=>absurd rfl z) fun z=>absurd rfl z
 | none=>
  refine core (fun b=>if b=a then some (.frz { cls:=.type "list",data:=.seq vs.toArray } (.lst (ns.map V.int))) else none) (fun b=>?_) (.inl (.inr ⟨{ cls:=.type "list",data:=.seq vs.toArray },if_pos rfl⟩)) (fun b u z=>?_) (fun b z=>?_) fun _=>hk
  ·by_cases hb:b=a
   ·exact .inr ⟨_,_,if_pos hb⟩
   ·exact .inl (if_neg hb)
  ·by_cases hb:b=a
   ·have z':=(if_pos hb).symm.trans z
    cases z'
    subst hb
    exact⟨ha,by rw[List.length_map];exact hl,vs,_,rv,ha⟩
   ·have z':=(if_neg hb).symm.trans z
    cases z'
  ·by_cases hb:b=a
   ·exact hb
   ·exact absurd (if_neg hb) z
end L2
namespace L2
open PySem PySem.Spec PyProof.Rows
abbrev KOf{K:PySem.W.Frag}{h:Heap}(_:K.In h):PySem.W.Frag:=K
end L2
namespace L2
open PySem PySem.Spec PyProof.Rows
def inClass(s:Stmt)(j:Nat):Stmt:=match s with
 | .ClassDef _ _ _ body _ _ _ _ _ _ _=>body.getD j (.Pass ⟨0,0,0,0⟩)
 | _=>.Pass ⟨0,0,0,0⟩
def defArgs(s:Stmt):Arguments:=match s with
 | .FunctionDef _ a _ _ _ _ _ _ _ _=>a
 | _=>{ posonlyargs:=[],args:=[],vararg:=none,kwonlyargs:=[],kw_defaults:=[],kwarg:=none,defaults:=[] }
def defBody(s:Stmt):List Stmt:=match s with
 | .FunctionDef _ _ b _ _ _ _ _ _ _=>b
 | _=>[]
def defScope(s:Stmt):Scope:=match s with
 | .FunctionDef _ _ _ _ _ _ sc _ _ _=>sc
 | _=>{ kind:=.function,names:=[],isGenerator:=false,isCoroutine:=false }
abbrev CX0:CXT:=fun _ _ _ _ _ _=>False
abbrev E0:XK:=fun _ _ _=>False
theorem pass0{X:Cx}:Passes CX0 X E0:=fun _ _ _ _ _ _ _ h=>h.elim
structure Fun(K:PySem.W.Frag)(x qual:Str)(st:Stmt)(f:Addr)(fd:FuncData):Prop where
 ex:∃(oc:Value) (od:Option Addr) (kV doc pm:Value) (an:Option Addr) (cdv ct:Value) (osl:Array (Option Value)),
  fd=PySem.W.fnOf x qual (defArgs st) (defBody st) (defScope st) .none kV doc pm an cdv ct∧K.lookup f=some ⟨oc,od,.func fd,osl⟩∧PySem.W.codeIn K cdv qual=true
 kp:PySem.W.keepIn K (.ref f)=true
section
variable{P:Program}{w:World}{K:PySem.W.Frag}{mg:Str→Option Value}{base:Heap}
theorem Fun.ok{x qual:Str}{st:Stmt}{f:Addr}{fd:FuncData}{N ps:List Str}{k:Nat}{sp:Sp}(F:Fun K x qual st f fd)(S:FnScope N ps (defScope st))(len:∀vs H Q E,sp vs H Q E→vs.length=ps.length)
 (hbody:∀(cdv:Value) (A:Around) (outer:List Env) (s:Shared) (H:Hp) (vs:List V) (Q:VK) (E:XK),Room k (A.deeper (envOfC qual (defScope st) s.heap.objs.size f cdv))→sp vs H Q E→
  ∃t,PSs (cxOf CX0 P w K mg base N qual (defScope st) f cdv A outer s H E).nox (defBody st) t∧t { nx:=fun _ H'=>Q .non H',rt:=Q } (start N vs) H):FnOk P w K mg base CX0 (k+1) f fd ps sp:=by
 obtain⟨oc,od,kV,doc,pm,an,cdv,ct,osl,rfl,lk,hcd⟩:=F.ex
 refine fn_of lk hcd S len fun A outer s H vs Q E hr hsp=>?_
 obtain⟨t,h,q⟩:=hbody cdv A outer s H vs Q E hr hsp
 exact⟨t,h.nox,q⟩
theorem Fun.binds{x qual:Str}{st:Stmt}{f:Addr}{fd:FuncData}{ps:List Str}(F:Fun K x qual st f fd)
 (h:∀(kV doc pm:Value) (an:Option Addr) (cdv ct:Value) (us:List Value),us.length=ps.length→bindArgs (PySem.W.fnOf x qual (defArgs st) (defBody st) (defScope st) .none kV doc pm an cdv ct) ⟨us,[]⟩=pure (ps.zip us)):Binds K fd ps []:=by
 obtain⟨oc,od,kV,doc,pm,an,cdv,ct,osl,rfl,lk,hcd⟩:=F.ex
 exact .all (h kV doc pm an cdv ct)
theorem fun_mk{x qual:Str}{st:Stmt}{f:Addr}{oc:Value}{od an:Option Addr}{osl:Array (Option Value)}{kV doc pm cdv ct:Value}(l:K.lookup f=some ⟨oc,od,.func (PySem.W.fnOf x qual (defArgs st) (defBody st) (defScope st) .none kV doc pm an cdv ct),osl⟩)
 (c:PySem.W.codeIn K cdv qual=true)(k:PySem.W.keepIn K (.ref f)=true):Fun K x qual st f (PySem.W.fnOf x qual (defArgs st) (defBody st) (defScope st) .none kV doc pm an cdv ct):=⟨⟨oc,od,kV,doc,pm,an,cdv,ct,osl,rfl,l,c⟩,k⟩
end
theorem small1000{n:Nat}(h:n≤1000):n<sizeLine:=Nat.lt_of_le_of_lt h (by decide)
section
variable{X:Cx}
theorem pv(i:Nat){x:Str}{pos:Pos}(hN:X.N[i]?=some x:=by rfl)(hv:Vis X.env.scope x:=by first | exact Or.inl rfl | exact Or.inr (Or.inl rfl) | exact Or.inr (Or.inr rfl))(hd:(x==("__debug__":Str))=false:=by decide)
 (hcd:(x==("__classdict__":Str))=false:=by decide):PE X (.Name x pos) (tVar i):=pe_var hN hv hd hcd
end
theorem iteF{A B:Prop}(h:B):if false=true then A else B:=by
 rw[if_neg Bool.false_ne_true]
 exact h
theorem iteT{A B:Prop}(h:A):if true=true then A else B:=by
 rw[if_pos rfl]
 exact h
theorem iteNS{c A B:Prop}[Decidable c](hc:c)(h:B):if (!decide c)=true then A else B:=by
 rw[decide_eq_true hc]
 exact iteF h
def Same(H H':Hp):Prop:=∀b o,H b=some o→H' b=some o
theorem Same.refl(H:Hp):Same H H:=fun _ _ h=>h
theorem Same.trans{H H1 H2:Hp}(a:Same H H1)(b:Same H1 H2):Same H H2:=fun c o h=>b c o (a c o h)
theorem Same.free{H H':Hp}(e:Same H H'){l:Addr}(h:H' l=Option.none):H l=Option.none:=by
 cases q:H l with
 | none=>rfl
 | some o=>
  rw[e l o q] at h
  cases h
theorem Same.seq{K:PySem.W.Frag}{H H':Hp}{a:Addr}{xs:List V}(e:Same H H')(h:SqL K H a xs):SqL K H' a xs:=by
 rcases h with (h | ⟨o,h⟩) | h
 ·exact .inl (.inl (e _ _ h))
 ·exact .inl (.inr ⟨o,e _ _ h⟩)
 ·exact .inr h
end L2
set_option Elab.async false
set_option linter.all false
set_option maxRecDepth 100000
set_option maxHeartbeats 4000000
namespace L2
open PySem PySem.Spec PyProof.Rows
def Bt(k:Nat)(x:Int):Prop:=x.natAbs<2^k
theorem Bt.bits{k:Nat}{x:Int}(h:Bt k x):Builtin.Int.intBits x≤k:=PySem.intBits_le_iff.mpr h
theorem Bt.mono{k m:Nat}{x:Int}(h:Bt k x)(l:k≤m):Bt m x:=Nat.lt_of_lt_of_le h (Nat.pow_le_pow_right (by decide) l)
theorem Bt.le{k:Nat}{x y:Int}(h:Bt k y)(l:x.natAbs≤y.natAbs):Bt k x:=Nat.lt_of_le_of_lt l h
def CMulB(i j:Int):Prop:=∃n m:Nat,Bt n i∧Bt m j∧n+m≤134217728
theorem CMulB.ok{i j:Int}(h:CMulB i j):IntMulOk i j:=by
 obtain⟨n,m,h1,h2,h3⟩:=h
 have a:=h1.bits
 have b:=h2.bits
 have hs:((Builtin.Int.intBits i+Builtin.Int.intBits j:Nat):Int)≤2^27:=by
  have e:(2:Int)^27=134217728:=by decide
  rw[e];omega
 have hb:Builtin.Int.intTooBig ((Builtin.Int.intBits i+Builtin.Int.intBits j:Nat):Int)=false:=decide_eq_false (Int.not_lt.mpr hs)
 unfold IntMulOk
 first
  | (rw [show (((Builtin.Int.intBits i:Nat):Int)+((Builtin.Int.intBits j:Nat):Int))=((Builtin.Int.intBits i+Builtin.Int.intBits j:Nat):Int) by omega,hb];simp)
  | (rw [hb];simp)
  | (intro z;simp only[Bool.and_eq_true] at z;simp_all)
section
variable{X:Cx}{a b c:Expr}{ta tb tc:TE}{pos:Pos}
theorem op_mulB:OpR X (binaryOp .Mult) (rI CMulB fun i j=>.int (i*j)):=opI fun _ _ _ _ _ _ _ hc q=>mul_int q hc.ok
theorem log2_lt9000{j:Int}(h:Bt 9000 j):j.natAbs.log2<9000:=by
 by_cases h0:j.natAbs=0
 ·rw[h0];decide +kernel
 ·exact(Nat.log2_lt h0).mpr h
def CDivB(_ j:Int):Prop:=0<j∧Bt 9000 j
def CDivF(_ j:Int):Prop:=j≠0∧Bt 9000 j
theorem op_fdivB:OpR X (binaryOp .FloorDiv) (rI CDivB fun i j=>.int (i/j)):=opI fun i j _ _ _ _ _ hc q=>by
 have h1:(0:Int)<j:=hc.1
 exact floordiv_int (by omega) (by rw[Int.fdiv_eq_ediv_of_nonneg i (by omega)];exact q) (.inl (PyProof.noPylong_of_log2 (log2_lt9000 hc.2)))
theorem op_fdivF:OpR X (binaryOp .FloorDiv) (rI CDivF fun i j=>.int (i.fdiv j)):=opI fun i j _ _ _ _ _ hc q=>
 floordiv_int hc.1 q (.inl (PyProof.noPylong_of_log2 (log2_lt9000 hc.2)))
def CShl(i j:Int):Prop:=0≤j∧∃n:Nat,Bt n i∧(n:Int)+j≤134217728
theorem op_shlB:OpR X (binaryOp .LShift) (rI CShl fun i j=>.int (i*2^j.toNat)):=opI fun i j _ _ _ _ _ hc q=>by
 obtain⟨h0,n,hn,h1⟩:=hc
 have:=hn.bits
 refine lshift_int h0 ?_ q
 have e:(2:Int)^27=134217728:=by decide
 rw[e];omega
def eqVs:List V→List V→Bool
 | [],[]=>true
 | x::xs,y::ys=>eqV x y&&eqVs xs ys
 | _,_=>false
theorem eqVs_ints:∀(ms ns:List Int),eqVs (ms.map V.int) (ns.map V.int)=decide (ms=ns)
 | [],[]=>rfl
 | [],_::_=>rfl
 | _::_,[]=>rfl
 | m::ms,n::ns=>by
  show((m==n)&&eqVs (ms.map V.int) (ns.map V.int))=_
  rw[eqVs_ints ms ns,Bool.eq_iff_iff]
  simp
theorem eqVs_range:∀{xs ys:List V} {us ws:List Value},Vals xs us→Vals ys ws→xs.all flatV=true→ys.all flatV=true→
 ∃e:Nat→Bool,(∀(A:Around) (s:Shared) (j:Nat) (h1:j<us.toArray.size) (h2:j<ws.toArray.size),SeqAt.EqAt A s us.toArray[j] ws.toArray[j] (e j))∧
  ((List.range (min us.toArray.size ws.toArray.size)).all e&&us.toArray.size==ws.toArray.size)=eqVs xs ys
 | [],[],_,_,.nil,.nil,_,_=>⟨fun _=>true,fun _ _ j h1 _=>absurd h1 (by simp),rfl⟩
 | [],y::ys,_,_,.nil,.cons _ _,_,_=>⟨fun _=>true,fun _ _ j h1 _=>absurd h1 (by simp),by simp[eqVs]⟩
 | x::xs,[],_,_,.cons _ _,.nil,_,_=>⟨fun _=>true,fun _ _ j _ h2=>absurd h2 (by simp),by simp[eqVs]⟩
 | x::xs,y::ys,u::us,w::ws,.cons r t,.cons r' t',f,f'=>by
  rw[List.all_cons,Bool.and_eq_true] at f f'
  obtain⟨e,h1,h2⟩:=eqVs_range t t' f.2 f'.2
  refine⟨fun j=>match j with | 0=>eqV x y | j+1=>e j,?_,?_⟩
  ·intro A s j k1 k2
   cases j with
   | zero=>simpa using eqAt_V r r' f.1 f'.1
   | succ j=>
    have k:=h1 A s j (by simpa using k1) (by simpa using k2)
    simp only[List.getElem_toArray,List.getElem_cons_succ] at k ⊢
    exact k
  ·show _=(eqV x y&&eqVs xs ys)
   rw[←h2]
   have e1:min (u::us).toArray.size (w::ws).toArray.size=min us.toArray.size ws.toArray.size+1:=by simp
   rw[e1,List.range_succ_eq_map,List.all_cons,List.all_map,Bool.and_assoc]
   congr 2
   simp
def rEqT(K:PySem.W.Frag):R2:=fun x y H Q=>∃a b xs ys,x=.ref a∧y=.ref b∧SqT K H a xs∧SqT K H b ys∧xs.all flatV=true∧ys.all flatV=true∧Q (.bl (eqVs xs ys)) H
theorem op_eqT(hu:X.A.units<cLine):OpR X (compareOp .Eq) (rEqT X.K):=by
 intro pins s σ H x y v u Q I rx ry h
 obtain⟨a,b,xs,ys,rfl,rfl,ha,hb,fx,fy,q⟩:=h
 cases rx
 cases ry
 obtain⟨its,r,pl,_⟩:=I.tuple ha
 obtain⟨its',r',pl',_⟩:=I.tuple hb
 obtain⟨e,h1,h2⟩:=eqVs_range r r' fx fy
 exact SeqAt.eq_tupleAt (e:=e) pl pl' hu (fun j k1 k2=>h1 _ _ j k1 k2) (by rw[h2];exact⟨.bl _,H,I,rfl,q⟩)
structure Cal(P:Program)(w:World)(K:PySem.W.Frag)(mg:Str→Option Value)(base:Heap)(k:Nat)(x:Str)(ps:List Str)(sp:Sp):Prop where
 ex:∃(f:Addr) (fd:FuncData),FnOk P w K mg base CX0 k f fd ps sp∧Binds K fd ps []∧PySem.W.keepIn K (.ref f)=true∧mg x=some (.ref f)
theorem pe_cal{k:Nat}{x:Str}{ps:List Str}{sp:Sp}{e:Expr}{es:List Expr}{t:TA}{p:Pos}(C:Cal X.prog X.w X.K X.mg X.base k x ps sp)(hr:Room k X.A)(hg:Gl X x)(ha:PA X (e::es) t)
 (hdb:(x==("__debug__":Str))=false:=by decide)(he:starEach (e::es) X.env=(false,eval e X.env)::starEach es X.env:=by rfl)(hpl:(backTo pos (starEach es X.env)).any (·.1)=false:=by rfl):
 PE X (.Call (.Name x p) (e::es) [] pos) (tCall sp [] E0 t):=by
 obtain⟨f,fd,F,b,kp,m⟩:=C.ex
 exact pe_call F hr hg m kp b .nil pass0 ha hdb he hpl
def tCut(t:TS):TS:=fun D σ H=>∃J:St→Hp→Prop,t { D with nx:=J } σ H∧∀σ' H',J σ' H'→D.nx σ' H'
theorem ps_cut{st:Stmt}{t:TS}(h:PS X st t):PS X st (tCut t):=by
 intro pins s σ H D I hw
 obtain⟨J,h1,h2⟩:=hw
 refine thn (h pins s σ H { D with nx:=J } I h1) fun f s1 q=>?_
 cases f with
 | next=>
  obtain⟨σ',H',I',q⟩:=q
  exact⟨σ',H',I',h2 _ _ q⟩
 | ret v=>exact q
 | brk=>exact q
 | cont=>exact q
theorem rd_cut{t:TS}{D:Ends}{σ:St}{H:Hp}(J:St→Hp→Prop)(h1:t { D with nx:=J } σ H)(h2:∀σ' H',J σ' H'→D.nx σ' H'):tCut t D σ H:=⟨J,h1,h2⟩
theorem rd_var{i:Nat}{σ:St}{H:Hp}{Q:VK}{v:V}(e:σ[i]?=some (some v))(h:Q v H):tVar i σ H Q:=⟨v,e,h⟩
theorem rd_c{v:V}{σ:St}{H:Hp}{Q:VK}(h:Q v H):tC v σ H Q:=h
theorem rd_op{r:R2}{σ:St}{H:Hp}{Q:VK}(h:ta σ H fun x H1=>tb σ H1 fun y H2=>r x y H2 Q):tOp r ta tb σ H Q:=h
theorem rd_un{r:V→Hp→VK→Prop}{σ:St}{H:Hp}{Q:VK}(h:ta σ H fun x H1=>r x H1 Q):tUn r ta σ H Q:=h
theorem rd_i0{g:Int→Int→V}{i j:Int}{H:Hp}{Q:VK}(h:Q (g i j) H):rI0 g (.int i) (.int j) H Q:=⟨i,j,rfl,rfl,h⟩
theorem rd_i{C:Int→Int→Prop}{g:Int→Int→V}{i j:Int}{H:Hp}{Q:VK}(c:C i j)(h:Q (g i j) H):rI C g (.int i) (.int j) H Q:=⟨i,j,rfl,rfl,c,h⟩
theorem rd_u{g:Int→V}{i:Int}{H:Hp}{Q:VK}(h:Q (g i) H):rU g (.int i) H Q:=⟨i,rfl,h⟩
theorem rd_eq{x y:V}{H:Hp}{Q:VK}(s:scal x y=true)(h:Q (.bl (decide (x=y))) H):rEq x y H Q:=⟨s,h⟩
theorem rd_ne{x y:V}{H:Hp}{Q:VK}(s:scal x y=true)(h:Q (.bl (!decide (x=y))) H):rNe x y H Q:=⟨s,h⟩
theorem rd_test{t:TE}{σ:St}{H:Hp}{Q:Bool→Hp→Prop}(h:t σ H fun x H'=>∃k,x=.bl k∧Q k H'):tTest t σ H Q:=h
theorem rd_b{t:TE}{σ:St}{H:Hp}{Q:Bool→Hp→Prop}(h:t σ H fun x H'=>∃k,x=.bl k∧Q k H'):L2.tB t σ H Q:=h
theorem rd_bl{k:Bool}{Q:Bool→Prop}(h:Q k):∃k',V.bl k=.bl k'∧Q k':=⟨k,rfl,h⟩
theorem rel_int(i:Int)(t:Tok):RelV (.int i) (.int i t):=⟨t,rfl⟩
theorem rd_not{t:TT}{σ:St}{H:Hp}{Q:Bool→Hp→Prop}(h:t σ H fun c H1=>Q (!c) H1):tNot t σ H Q:=h
theorem rd_and{t u:TT}{σ:St}{H:Hp}{Q:Bool→Hp→Prop}(h:t σ H fun c H1=>if c=true then u σ H1 Q else Q false H1):tAnd t u σ H Q:=h
theorem rd_or{t u:TT}{σ:St}{H:Hp}{Q:Bool→Hp→Prop}(h:t σ H fun c H1=>if c=true then Q true H1 else u σ H1 Q):tOr t u σ H Q:=h
theorem rd_call{sp:Sp}{dvs:List V}{E:XK}{t:TA}{σ:St}{H:Hp}{Q:VK}(h:t σ H fun vs H1=>sp (vs++dvs) H1 Q E):tCall sp dvs E t σ H Q:=h
theorem rd_cb{r:List V→Hp→VK→Prop}{t:TA}{σ:St}{H:Hp}{Q:VK}(h:t σ H fun vs H1=>r vs H1 Q):tCB r t σ H Q:=h
theorem rd_nil{σ:St}{H:Hp}{Q:List V→Hp→Prop}(h:Q [] H):tNil σ H Q:=h
theorem rd_cons{tr:TA}{σ:St}{H:Hp}{Q:List V→Hp→Prop}(h:ta σ H fun x H1=>tr σ H1 fun xs H2=>Q (x::xs) H2):tCons ta tr σ H Q:=h
theorem rd_tup{t:TA}{σ:St}{H:Hp}{Q:VK}(h:t σ H fun xs H1=>xs.length≤sizeLine∧∀p,H1 p=none→Q (.ref p) (upd H1 p (.tup xs))):tTup t σ H Q:=h
theorem rd_lst{t:TA}{σ:St}{H:Hp}{Q:VK}(h:t σ H fun xs H1=>xs.length≤sizeLine∧∀p,H1 p=none→Q (.ref p) (upd H1 p (.lst xs))):tLst t σ H Q:=h
theorem rd_seq{t u:TS}{D:Ends}{σ:St}{H:Hp}(h:t { D with nx:=u D } σ H):tSeq t u D σ H:=h
theorem rd_next{D:Ends}{σ:St}{H:Hp}(h:D.nx σ H):tNext D σ H:=h
theorem rd_ret{te:TE}{D:Ends}{σ:St}{H:Hp}(h:te σ H D.rt):tRet te D σ H:=h
theorem rd_ifS{c:TT}{t u:TS}{D:Ends}{σ:St}{H:Hp}(h:c σ H fun b H1=>if b=true then t D σ H1 else u D σ H1):tIfS c t u D σ H:=h
theorem rd_asg{te:TE}{g:TG}{D:Ends}{σ:St}{H:Hp}(h:te σ H fun x H1=>g x σ H1 D.nx):tAsg te g D σ H:=h
theorem rd_drop{te:TE}{D:Ends}{σ:St}{H:Hp}(h:te σ H fun _ H1=>D.nx σ H1):tDrop te D σ H:=h
theorem rd_gname{i:Nat}{v:V}{σ:St}{H:Hp}{Q:St→Hp→Prop}(h:Q (σ.set i (some v)) H):gName i v σ H Q:=h
theorem rd_gtup{K:PySem.W.Frag}{n:Nat}{t:TGs}{a:Addr}{xs:List V}{σ:St}{H:Hp}{Q:St→Hp→Prop}(hs:SqT K H a xs)(hl:xs.length=n)(h:t xs σ H Q):gTup K n t (.ref a) σ H Q:=⟨a,xs,rfl,hs,hl,h⟩
theorem rd_gcons{t:TG}{u:TGs}{v:V}{r:List V}{σ:St}{H:Hp}{Q:St→Hp→Prop}(h:t v σ H fun σ' H'=>u r σ' H' Q):gCons t u (v::r) σ H Q:=⟨v,r,rfl,h⟩
theorem rd_gnil{σ:St}{H:Hp}{Q:St→Hp→Prop}(h:Q σ H):gNil [] σ H Q:=⟨rfl,h⟩
theorem rd_ixT{K:PySem.W.Frag}{p:Addr}{xs:List V}{i:Int}{v:V}{H:Hp}{Q:VK}(hs:SqT K H p xs)(e:atI xs i=some v)(h:Q v H):rIxT K (.ref p) (.int i) H Q:=⟨p,xs,i,v,rfl,rfl,hs,e,h⟩
theorem rd_ixL{K:PySem.W.Frag}{p:Addr}{xs:List V}{i:Int}{v:V}{H:Hp}{Q:VK}(hs:SqL K H p xs)(e:atI xs i=some v)(h:Q v H):rIxL K (.ref p) (.int i) H Q:=⟨p,xs,i,v,rfl,rfl,hs,e,h⟩
theorem iteD{c A B:Prop}[Decidable c](hc:c)(h:A):if decide c=true then A else B:=by
 rw[decide_eq_true hc];exact iteT h
theorem iteN{c A B:Prop}[Decidable c](hc:¬c)(h:B):if decide c=true then A else B:=by
 rw[decide_eq_false hc];exact iteF h
theorem iteNN{c A B:Prop}[Decidable c](hc:¬c)(h:A):if (!decide c)=true then A else B:=by
 rw[decide_eq_false hc];exact iteT h
theorem ite2d{c A B:Prop}[Decidable c](h1:c→A)(h2:¬c→B):if decide c=true then A else B:=by
 by_cases h:c
 ·exact iteD h (h1 h)
 ·exact iteN h (h2 h)
theorem Same.tup{K:PySem.W.Frag}{H H':Hp}{a:Addr}{xs:List V}(e:Same H H')(h:SqT K H a xs):SqT K H' a xs:=by
 rcases h with (h | ⟨o,h⟩) | h
 ·exact .inl (.inl (e _ _ h))
 ·exact .inl (.inr ⟨o,e _ _ h⟩)
 ·exact .inr h
theorem same_new{H:Hp}{p:Addr}(h:H p=none)(o:HO):Same H (upd H p o):=fun b u q=>by rw[upd_ne (ne_of_none q h)];exact q
theorem cdiv_small{i j:Int}(h0:0<j)(h1:j<18446744073709551616):CDivB i j:=⟨h0,Bt.mono (k:=64) (by unfold Bt;omega) (by decide)⟩
theorem bitAnd_nat(x y:Nat):Builtin.bitAnd (x:Int) (y:Int)=((x &&& y:Nat):Int):=PyProof.Rows.bitAnd_pp (Int.natCast_nonneg x) (Int.natCast_nonneg y)
theorem bitNot_neg(x:Nat):decide ((0:Int)≤Builtin.bitNot (x:Int))=false:=decide_eq_false (by unfold Builtin.bitNot;omega)
theorem bitOr_nat(x y:Nat):Builtin.bitOr (x:Int) (y:Int)=((x ||| y:Nat):Int):=by
 have e:∀z:Int,Builtin.bitNot (Builtin.bitNot z)=z:=fun z=>by unfold Builtin.bitNot;omega
 unfold Builtin.bitOr Builtin.bitAnd
 rw[bitNot_neg,bitNot_neg]
 dsimp only
 rw[e,e,e,Int.toNat_natCast,Int.toNat_natCast]
theorem bitXor_nat(x y:Nat):Builtin.bitXor (x:Int) (y:Int)=((x ^^^ y:Nat):Int):=by
 show Builtin.bitOr (x:Int) (y:Int)-Builtin.bitAnd (x:Int) (y:Int)=_
 rw[bitOr_nat,bitAnd_nat]
 have h:x ||| y=(x ^^^ y)+(x &&& y):=by
  have a:(x ^^^ y) &&& (x &&& y)=0:=by
   refine Nat.eq_of_testBit_eq fun i=>?_
   rw[Nat.testBit_and,Nat.testBit_xor,Nat.testBit_and,Nat.zero_testBit]
   cases x.testBit i<;>cases y.testBit i<;>rfl
  have b:x ||| y=(x ^^^ y) ||| (x &&& y):=by
   refine Nat.eq_of_testBit_eq fun i=>?_
   rw[Nat.testBit_or,Nat.testBit_or,Nat.testBit_xor,Nat.testBit_and]
   cases x.testBit i<;>cases y.testBit i<;>rfl
  have c:=PyProof.Rows.bitOr_and ((x ^^^ y:Nat):Int) ((x &&& y:Nat):Int)
  rw[bitOr_nat,bitAnd_nat,a,←b] at c
  omega
 omega
end
end L2
namespace Att
open PySem PySem.W PySem.Calls PyProof.Rows
theorem weight_item:∀{ns:List Int} {n:Int},n∈ns→Builtin.Int.intBits n≤WData.weightAll (ns.map WData.int)
 | m::ns,n,h=>by
  rw[List.map_cons]
  show _≤WData.weight (.int m)+1+WData.weightAll (ns.map WData.int)
  rcases List.mem_cons.mp h with rfl | h
  ·have e:WData.weight (.int n)=Builtin.Int.intBits n:=by first | rfl | (unfold Builtin.Int.intBits;rfl) | simp[WData.weight,Builtin.Int.intBits]
   omega
  ·have:=weight_item h
   omega
theorem bits_of_lay{ns:List Int}(h:WData.layableAll [WData.list (ns.map WData.int)]=true):∀n∈ns,L2.Bt 1048576 n:=fun n hn=>by
 have h1:WData.layable (WData.list (ns.map WData.int))=true:=(Bool.and_eq_true_iff.mp h).1
 have h2:WData.weight (WData.list (ns.map WData.int))≤2^20:=of_decide_eq_true (Bool.and_eq_true_iff.mp h1).2
 have h3:=weight_item hn
 have e:WData.weight (WData.list (ns.map WData.int))=WData.weightAll (ns.map WData.int):=by first | rfl | simp[WData.weight]
 refine PySem.intBits_le_iff.mp ?_
 omega
theorem attach_callB{l:OpenLaw}{n:Nat}{q:Program}{loose:List Str}{XP:(Str→Option Value)→Heap→Prop}{YP:World→Heap→Prop}{d:DefRec}
 (hn:l.most=some n)(hdf:d.params.defaults=[])
 (call:∀(w:World) (s₀ s₁:Shared) (mg mb:Str→Option Value) (fa:Addr) (o:Obj) (pm cd doc:Value) (a:Addr) (vs:List Value) (ns:List Int),
  Ground q loose [] XP w s₀ mg mb s₁.heap→YP w s₁.heap→
  s₁.heap.get? fa=some o→o.data=.func (docDef d.name d.params d.body d.scope pm cd doc)→s₁.heap.CodeRec cd d.name→mg d.name=some (.ref fa)→
  s₁.heap.get? a=some { cls:=.type "list",data:=.seq vs.toArray }→IntsAre vs ns→ns.length≤n→(∀n∈ns,L2.Bt 1048576 n)→s₁.gens= #[]→
  codeAny (model l.prog w) callerA (.call (.ref fa) ⟨[.ref a],[]⟩) (fun r s'=>r=.ok (.ret (.bool true))∧OldK s₁.heap s'.heap∧s'.os=s₁.os∧AllBare s'.gens) s₁):
 WalkO q loose XP YP l.row.toRowW d [] (fun f vs=>PySem.call f vs):=by
 intro w s₀ s₁ mg mb G Y fa o pm cd doc dV kV ho hd hcd hD hmg hg args vals as hpre hlay hrd hwl hlo
 obtain rfl:dV=.none:=Dflts.none hD hdf
 obtain rfl:kV=.none:=Dflts.noKw hD
 obtain⟨a,vs,ns,rfl,rfl,hobj,hints,hlen⟩:=script_of hn hpre hwl
 refine enter_call (codeAny_mono (call w s₀ s₁ mg mb fa o pm cd doc a vs ns G Y ho (fd_plain hd) hcd hmg hobj hints hlen (bits_of_lay hlay) hg) fun r s' hq=>?_)
 obtain⟨rfl,h2,h3,h4⟩:=hq
 exact⟨.inl ⟨.bool true,.bool true,[],rfl,fun _=>rfl,.bool true,post_true l _,fun _=>⟨List.Pairwise.nil,fun _ hm=>(nomatch hm)⟩⟩,h2,h3,h4⟩
end Att
namespace L2
open PySem PySem.Spec PyProof.Rows
def spLaw(K:PySem.W.Frag):Sp:=fun vs H Q _=>∃(a:Addr) (ns:List Int),vs=[.ref a]∧SqL K H a (ns.map V.int)∧ns.length≤63∧(∀n∈ns,Bt 1048576 n)∧∀H',Q (.bl true) H'
theorem walk_ofB{l:PySem.W.OpenLaw}{k:Nat}{q:Program}{loose:List Str}{XP:(Str→Option Value)→Heap→Prop}{YP:World→Heap→Prop}{d:DefRec}{K:Params→PySem.W.Frag}
 (hn:l.most=some 63)(hdf:d.params.defaults=[])(hr:Room k callerA)
 (hY:∀(w:World) (h:Heap),YP w h→(K w.params).In h)
 (F:∀(w:World) (mg:Str→Option Value) (fa:Addr) (h:Heap),(K w.params).In h→h.Ns mainGlobals mg→mg d.name=some (.ref fa)→
  ∃fd:FuncData,(∀(s:Shared) (u:Value),BindsTo s fd ⟨[u],[]⟩ [("_law_script",u)])∧
   ∀base:Heap,(K w.params).In base→base.Ns mainGlobals mg→FnOk l.prog w (K w.params) mg base CX0 k fa fd ["_law_script"] (spLaw (K w.params))):
 PySem.W.WalkO q loose XP YP l.row.toRowW d [] (fun f vs=>PySem.call f vs):=by
 refine Att.attach_callB hn hdf fun w s₀ s₁ mg mb fa o pm cd doc a vs ns G Y ho hd hcd hmg hobj hints hlen hbits hg=>?_
 have KX:=hY w _ Y
 obtain⟨fd,hb,hF⟩:=F w mg fa _ KX G.T.g hmg
 exact law_call KX G.T.g G.T.b G.T.builtins G.T.nolimit hg hobj hints (Nat.le_trans hlen (by decide)) hr hF hb (fun H hO hS=>⟨a,ns,rfl,hS,hlen,hbits,fun _=>rfl⟩) fun H e s'=>fun z=>z
end L2
set_option Elab.async false
set_option linter.all false
set_option maxRecDepth 100000
set_option maxHeartbeats 4000000
namespace L2
open PySem PySem.Spec PyProof.Rows
def compCx(X:Cx)(M:List Str)(x:Str)(scope:Scope)(cl:List (Str×Addr))(C:Addr)(s₀:Shared)(H₀:Hp)(fp:List Addr):Cx:=
 { X with N:=x::M,s₀:=s₀,H₀:=H₀,env:=compEnvC scope cl C X.env,outer:=X.stack,ex:=fp,fn:=fun _=>false,pn:=[],xe:=fun _ _=>False }
structure CompOk(X:Cx)(M:List Str)(x:Str)(scope:Scope)(cl:List (Str×Addr)):Prop where
 clos:closureFor scope X.env=pure cl
 cell:∀y∈scope.names,y.2≠.cell
 kind:scope.kind=.function
 names:∀y∈scope.names,y.2=.local→scope.names.lookup y.1=some .local
 xl:scope.names.lookup x=some .local
 nd:(x::M).Nodup
 len:M.length=X.N.length
 sub:∀y c,cl.lookup y=some c→X.env.cells.lookup y=some c
 has:∀y,((relabel scope X.env).names.lookup y=some .cell∨(relabel scope X.env).names.lookup y=some .free)→∃c,cl.lookup y=some c
 vis:∀(i:Nat) (y:Str),M[i]?=some y→Vis (relabel scope X.env) y→X.N[i]?=some y∧((relabel scope X.env).names.lookup y=some .cell∨(relabel scope X.env).names.lookup y=some .free)∧(X.env.scope.names.lookup y=some .cell∨X.env.scope.names.lookup y=some .free)
def PIfs(X:Cx)(ifs:List Expr)(t:TT):Prop:=
 ∀(pins:List (Addr×Obj)) (s:Shared) (σ:St) (H:Hp) (Q:Bool→Hp→Prop),Inv X pins σ H s→t σ H Q→
  wpAny (model X.prog X.w) X.A (forIn ifs true fun c r=>if r=true then do let ok ←isTrue c X.env (eval c X.env);pure (ForInStep.yield ok) else pure (ForInStep.yield r)) (TP X pins σ Q) X.xe s
def tTrue:TT:=fun _ H Q=>Q true H
section
variable{X:Cx}
theorem pifs_nil:PIfs X [] tTrue:=fun pins s σ H Q I h=>by
 rw[List.forIn_nil]
 exact wpAny_pure ⟨H,I,h⟩
theorem pifs_one{c:Expr}{t:TT}(hc:PT X c t):PIfs X [c] t:=fun pins s σ H Q I h=>by
 rw[List.forIn_cons]
 refine wpAny_bind ?_
 rw[if_pos rfl]
 refine wpAny_bind (thn (hc pins s σ H Q I h) fun b s1 q=>wpAny_pure ?_)
 dsimp only
 rw[List.forIn_nil]
 exact wpAny_pure q
def tComp(wi:TI)(tt:TT)(te:TE):TE:=fun σ H Q=>wi σ H fun J H1=>∀D,H1 D=none→∃W:Nat→Nat→List V→Hp→Prop,(∃m,W 0 m [] (upd H1 D (.lst [])))∧
 ∀i m ys H2,W i m ys H2→H2 D=some (.lst ys)∧((J.stop i H2∧Q (.ref D) H2)∨(J.go i H2∧ys.length<sizeLine∧∃m',m'<m∧∀x H3,J.yld i H2 x H3→
  tt (some x::σ) H3 fun b H4=>if b=true then te (some x::σ) H4 fun y H5=>H5 D=some (.lst ys)∧W (i+1) m' (ys++[y]) (upd H5 D (.lst (ys++[y]))) else W (i+1) m' ys H4))
theorem comp_ok{M:List Str}{pins:List (Addr×Obj)}{σ:St}{H:Hp}{s:Shared}{x:Str}{scope:Scope}{cl:List (Str×Addr)}{C:Addr}{fp:List Addr}(I:Inv X pins σ H s)(ok:CompOk X M x scope cl)(hC:s.heap.objs.size≤C)
 (hf:∀b∈fp,FpOk X pins H b)(hb:∀b∈fp,b<s.heap.objs.size):(compCx X M x scope cl C s H fp).Ok where
 mod:=I.ok.mod
 kind:=ok.kind
 glob:=I.ok.glob
 blt:=I.ok.blt
 above:=hC
 inj:=fun y z c h1 h2=>I.ok.inj y z c (ok.sub y c h1) (ok.sub z c h2)
 has:=ok.has
 cab:=fun y c h=>by cases h
 hd:=I.ok.hd
 frames:=I.ok.frames
 stk:=.inl rfl
 exf:=fun b h=>⟨Nat.ne_of_lt (Nat.lt_of_lt_of_le (hb b h) hC),fun y c e=>(hf b h).2.2.2.2.1 y c (ok.sub y c e)⟩
 bs:=I.bs
 bsz:=Nat.le_trans I.ok.bsz I.sz
 noex:=fun b o e h=>by
  rcases(hf b h).2.2.2.1 with z | z
  ·exact I.ok.noex b o e z
  ·exact absurd (Nat.lt_of_lt_of_le (Heap.lt_size (I.ok.bs b o e).1) z) (Nat.lt_irrefl _)
 exfs:=fun b h z=>by
  rcases List.mem_cons.mp (I.stkSub b z) with e | e
  ·exact(hf b h).2.1 e
  ·exact(hf b h).2.2.1 e
 funs:=I.stack
 frf:=I.stkFree
def CompR(tt:TT)(te:TE)(σ:St)(Q:VK):It→Hp→Prop:=fun J H1=>∀D,H1 D=none→∃W:Nat→Nat→List V→Hp→Prop,(∃m,W 0 m [] (upd H1 D (.lst [])))∧
 ∀i m ys H2,W i m ys H2→H2 D=some (.lst ys)∧((J.stop i H2∧Q (.ref D) H2)∨(J.go i H2∧ys.length<sizeLine∧∃m',m'<m∧∀x H3,J.yld i H2 x H3→
  tt (some x::σ) H3 fun b H4=>if b=true then te (some x::σ) H4 fun y H5=>H5 D=some (.lst ys)∧W (i+1) m' (ys++[y]) (upd H5 D (.lst (ys++[y]))) else W (i+1) m' ys H4))
theorem comp_core{M:List Str}{elt iter:Expr}{x:Str}{px pos:Pos}{ifs:List Expr}{scope:Scope}{cl:List (Str×Addr)}{tt:TT}{te:TE}(hc:X.calm=true)(ok:CompOk X M x scope cl)
 (ht:∀C s₀ H₀ fp,PIfs (compCx X M x scope cl C s₀ H₀ fp) ifs tt)(he:∀C s₀ H₀ fp,PE (compCx X M x scope cl C s₀ H₀ fp) elt te)
 {pins:List (Addr×Obj)}{σ:St}{H2:Hp}{s2:Shared}{it:Addr}{fp:List Addr}{tn:Nat→Heap→Prop}{J:It}{Q:VK}(I2:Inv X pins σ H2 s2)(T:Turn X.prog X.w X.K (.Name x px) J fp it tn)(st2:tn 0 s2.heap)(f2:∀b∈fp,FpOk X pins H2 b)
 (hW:CompR tt te σ Q J H2)(post:Value→Addr→Result→Shared→Prop)
 (fin:∀D C H3 s4,Inv X pins σ H3 s4→(∃m,s4.heap.Ns C m)→FpOk X pins H3 C→Q (.ref D) H3→post (.ref D) C (.ok .next) s4):
 wpAny (model X.prog X.w) X.A (newList []) (fun acc s₃=>wpAny (model X.prog X.w) X.A (newFunctionEnv scope X.env.globals cl [] X.env.qual none .none (some X.env)) (fun cenv s₄=>
  codeAny (model X.prog X.w) X.A (.compStart (.ListComp elt [⟨.Name x px,iter,ifs,0⟩] scope pos) 0 (.ref it) acc { cenv with scope:=relabel scope X.env }) (post acc cenv.locals) s₄) X.xe s₃) X.xe s2:=by
 refine wpAny_newObj_type (wpAny_newFunctionEnv ok.cell (by intro y hy;simp at hy) (fun h₁ hns₁ hsb₁=>?_) ok.kind)
 dsimp only at hns₁ hsb₁ ⊢
 generalize hH2:s2.heap.push { cls:=.type "list",dict:=none,data:=.seq ([]:List Value).toArray }=G2 at hns₁ hsb₁ ⊢
 have hC:G2.objs.size=s2.heap.objs.size+1:=by rw[←hH2,Heap.size_push]
 have hDC:s2.heap.objs.size≠G2.objs.size:=by rw[hC];exact Nat.ne_of_lt (Nat.lt_succ_self _)
 have hCle:s2.heap.objs.size≤G2.objs.size:=by rw[hC];exact Nat.le_succ _
 have below:∀b,b<s2.heap.objs.size→b≠G2.objs.size∧b≠s2.heap.objs.size:=fun b hb=>⟨by rw[hC];exact Nat.ne_of_lt (Nat.lt_succ_of_lt hb),Nat.ne_of_lt hb⟩
 have old:∀b o,s2.heap.get? b=some o→h₁.get? b=some o:=fun b o e=>hsb₁.extBut b o (below b (Heap.lt_size e)).1 (Heap.get?_push_of_some _ (hH2 ▸ Heap.get?_push_of_some _ e))
 have hacc:h₁.get? s2.heap.objs.size=some { cls:=.type "list",data:=.seq ([]:List Value).toArray }:=hsb₁.extBut _ _ hDC (Heap.get?_push_of_some _ (hH2 ▸ Heap.get?_push_size _ rfl))
 have fpb:∀b∈fp,b<s2.heap.objs.size:=fun b hb=>by
  obtain⟨o,e,_⟩:=T.obj _ _ st2 b hb
  exact Heap.lt_size e
 have hD0:H2 s2.heap.objs.size=none:=I2.hok.fresh (Nat.le_refl _)
 have hC0:H2 G2.objs.size=none:=I2.hok.fresh hCle
 generalize hDD:s2.heap.objs.size=D at*
 generalize hCC:G2.objs.size=C at*
 obtain⟨W,⟨m0,w0⟩,turn⟩:=hW D hD0
 have okX:(compCx X M x scope cl C s2 H2 fp).Ok:=comp_ok I2 ok (by rw[hDD];exact hCle) f2 (by rw[hDD];exact fpb)
 have lenN:(none::σ:St).length=(compCx X M x scope cl C s2 H2 fp).N.length:=by
  show(none::σ).length=(x::M).length
  rw[List.length_cons,List.length_cons,I2.len,ok.len]
 have locs:∀(h':Heap) (m:Str→Option Value) (w':Option V),(∀y c,X.env.cells.lookup y=some c→∀v,s2.heap.IsCell c v→h'.IsCell c v)→w'=none→
  ∀(i:Nat) (y:Str) (v:V),(x::M)[i]?=some y→(w'::σ:St)[i]?=some (some v)→Vis (relabel scope X.env) y→∃u,RelV v u∧Look (compEnvC scope cl C X.env) h' m y u:=by
  intro h' m w' hcell hw i y v e1 e2 e3
  subst hw
  cases i with
  | zero=>simp at e2
  | succ i=>
   have e0:M[i]?=some y:=by simpa using e1
   have e2':σ[i]?=some (some v):=by simpa using e2
   obtain⟨e1',k1,k2⟩:=ok.vis i y e0 e3
   obtain⟨m2,_,hl⟩:=I2.loc
   obtain⟨u,r,l⟩:=hl i y v e1' e2' (k2.elim (fun z=>.inr (.inl z)) fun z=>.inr (.inr z))
   obtain⟨c',hc'⟩:=ok.has y k1
   rcases l with ⟨z,_⟩ | ⟨_,c,hcc,z⟩
   ·have z':X.env.scope.names.lookup y=some .local:=z
    rcases k2 with q | q<;>(rw [q] at z';cases z')
   ·have q:=ok.sub y c' hc'
    rw[hcc] at q
    cases q
    exact⟨u,r,.inr ⟨k1,c',hc',hcell y c' hcc _ z⟩⟩
 have I0:Inv (compCx X M x scope cl C s2 H2 fp) [] (none::σ) (upd H2 D (.lst [])) { s2 with heap:=h₁,toks:=s2.toks+([]:List (Str×Value)).length }:=by
  refine⟨okX,rfl,I2.bare,?_,⟨_,hns₁,locs h₁ _ none (fun y c e v z=>?_) rfl⟩,fun y c e=>?_,?_,fun y c e=>?_,fun p hp=>?_,?_,lenN⟩
  ·exact Un.laid old (Nat.le_of_eq hDD) hD0
  ·obtain⟨o,ho,hd⟩:=z
   exact⟨o,old c o ho,hd⟩
  ·obtain⟨v,o,ho,hd⟩:=I2.cell y c (ok.sub y c e)
   exact⟨v,o,old c o ho,hd⟩
  ·show upd H2 D (.lst []) C=none
   rw[upd_ne (Ne.symm hDC)]
   exact hC0
  ·have hn:=I2.freeC y c (ok.sub y c e)
   obtain⟨v,o,ho,hd⟩:=I2.cell y c (ok.sub y c e)
   rw[upd_ne (fun z=>by have:=Heap.lt_size ho;rw[hDD,z] at this;exact Nat.lt_irrefl _ this)]
   exact hn
  ·exact absurd hp (by show p∉([]++[]:List (Addr×Obj));simp)
  ·refine I2.hok.laid old (Nat.le_of_eq hDD) ⟨Nat.zero_le _,[],_,.nil,hacc⟩
 have fpk:∀{H':Hp},(∀b∈fp,H' b=none)→∀b∈fp,FpOk (compCx X M x scope cl C s2 H2 fp) [] H' b:=fun hn b hb=>by
  refine⟨hn b hb,(below b (fpb b hb)).1,okX.exfs b hb,.inl hb,fun y c e=>(f2 b hb).2.2.2.2.1 y c (ok.sub y c e),fun p hp=>?_⟩
  exact absurd hp (by show p∉([]++[]:List (Addr×Obj));simp)
 have loop:∀s₃:Shared,s₃={ s2 with heap:=h₁,toks:=s2.toks+([]:List (Str×Value)).length }→
  codeAny (model X.prog X.w) X.A (.compLoop (.ListComp elt [⟨.Name x px,iter,ifs,0⟩] scope pos) 0 (.ref it) (.ref D) (compEnvC scope cl C X.env))
   (post (.ref D) C) s₃:=by
  rintro s₃ rfl
  refine codeAny_compLoop_tests (fun n s'=>∃i ys w' H',Inv (compCx X M x scope cl C s2 H2 fp) [] (w'::σ) H' s'∧tn i s'.heap∧(∀b∈fp,H' b=none)∧W i n ys H') ?_ m0
   ⟨0,[],none,_,I0,T.keep _ _ _ st2 (fun b _ o e=>old b o e),fun b hb=>by rw[upd_ne (below b (fpb b hb)).2];exact(f2 b hb).1,w0⟩
  rintro n s3 ⟨i,ys,w3,H3,I3,st3,fr3,wt⟩
  obtain⟨hD3,hh⟩:=turn i n ys H3 wt
  rcases hh with ⟨stop,q⟩ | ⟨go,hlen,m',hm,step⟩
  ·refine thn (T.done (compCx X M x scope cl C s2 H2 fp) rfl rfl rfl hc i [] s3 (w3::σ) H3 _ I3 (fpk fr3) st3 stop) fun r s4 ⟨hr,I4⟩=>?_
   subst hr
   obtain⟨m4,hn4,_⟩:=id I4.loc
   have hC4:H3 C=none:=I4.free
   exact fin D C H3 s4 (I2.call' (ch:=fp) I4.os I4.base I4.hok I4.bare fun b hb=>⟨(f2 b hb).2.2.2.1,(f2 b hb).2.1,(f2 b hb).2.2.2.2.1,(f2 b hb).2.2.2.2.2⟩) ⟨m4,hn4⟩ (I2.fpOk (by rw[hDD];exact hCle) hC4) q
  ·refine wpAny_mono (T.item (compCx X M x scope cl C s2 H2 fp) rfl rfl rfl hc i [] s3 (w3::σ) H3 (fun _ _=>False) I3 (fpk fr3) st3 go) (fun r s4 h4=>?_) (fun _ _ z=>z.elim)
   obtain⟨u,hr,h4⟩:=h4
   subst hr
   refine(show wpAny (model X.prog X.w) X.A (letOwnedTupleGo (.Name x px) (.ref it) u >>= fun _=>assign (.Name x px) (compEnvC scope cl C X.env) u) _ _ _ from wpAny_bind (wpAny_mono h4 (fun _ s4 h4=>?_) (fun _ _ z=>z.elim)))
   obtain⟨x',H5,I5,r5,y5,st5,fr5⟩:=h4
   have I5':=I5.pinned (fpk fr5) (T.obj _ _ st5)
   refine wpAny_assign_Name (store_ok (X:=compCx X M x scope cl C s2 H2 fp) (i:=0) I5' ok.nd rfl (.inl (lookup_relabel_local ok.xl)) r5 (fun s6 I6=>?_) (.inr (lookup_relabel_local ok.xl)))
   have I6':Inv (compCx X M x scope cl C s2 H2 fp) ([]++pinsAt fp s4.heap) (some x'::σ) H5 s6:=I6
   have back:∀{s7:Shared} {H7:Hp} {w7:Option V},Inv (compCx X M x scope cl C s2 H2 fp) ([]++pinsAt fp s4.heap) (w7::σ) H7 s7→tn (i+1) s7.heap∧(∀b∈fp,H7 b=none)∧Inv (compCx X M x scope cl C s2 H2 fp) [] (w7::σ) H7 s7:=fun{s7 H7 w7} I7=>by
    refine⟨T.keep _ _ _ st5 fun b hb o e=>(I7.pin (b,o) (List.mem_append_right _ (List.mem_append_right _ (mem_pinsAt hb e)))).1,fun b hb=>?_,I7.unpinned⟩
    obtain⟨o,e,d⟩:=T.obj _ _ st5 b hb
    exact(I7.pin (b,o) (List.mem_append_right _ (List.mem_append_right _ (mem_pinsAt hb e)))).2.1
   refine wpAny_mono (ht C s2 H2 fp _ s6 _ H5 _ I6' (step x' H5 y5)) (fun ok' s7 h7=>?_) (fun _ _ z=>z.elim)
   obtain⟨H7,I7,q7⟩:=h7
   cases ok' with
   | false=>
    have q7':W (i+1) m' ys H7:=by simpa using q7
    rw[if_neg Bool.false_ne_true]
    obtain⟨b1,b2,b3⟩:=back I7
    exact⟨m',hm,i+1,ys,_,H7,b3,b1,b2,q7'⟩
   | true=>
    rw[if_pos rfl] at q7 ⊢
    refine wpAny_mono (he C s2 H2 fp _ s7 _ H7 _ I7 q7) (fun y s8 h8=>?_) (fun _ _ z=>z.elim)
    obtain⟨v8,H8,I8,r8,hD8,w8⟩:=h8
    refine wpAny_mono (mt_append (X:=compCx X M x scope cl C s2 H2 fp) _ s8 _ H8 (.ref D) [v8] (.ref D) [y] (fun _ H9=>H9=upd H8 D (.lst (ys++[v8]))) I8 rfl (.cons r8 .nil) ⟨D,ys,v8,rfl,rfl,hD8,hlen,rfl⟩) (fun _ s9 h9=>?_) (fun _ _ z=>z.elim)
    obtain⟨v9,H9,I9,_,e9⟩:=h9
    subst e9
    obtain⟨b1,b2,b3⟩:=back I9
    exact⟨m',hm,i+1,_,_,_,b3,b1,b2,w8⟩
 exact codeAny_compStart_list (loop _ rfl) (T.self _ 0 _ _ _ (T.keep _ _ _ st2 (fun b _ o e=>old b o e)) (loop _ rfl))
theorem pe_comp{M:List Str}{elt iter:Expr}{x:Str}{px pos:Pos}{ifs:List Expr}{scope:Scope}{cl:List (Str×Addr)}{wi:TI}{tt:TT}{te:TE}(hc:X.calm=true)(ok:CompOk X M x scope cl)(hi:PI X (.Name x px) iter wi)
 (ht:∀C s₀ H₀ fp,PIfs (compCx X M x scope cl C s₀ H₀ fp) ifs tt)(he:∀C s₀ H₀ fp,PE (compCx X M x scope cl C s₀ H₀ fp) elt te)
 (hs:∀x,foldedSetIterable iter X.env x=pure x:=by intro _;rfl):
 PE X (.ListComp elt [⟨.Name x px,iter,ifs,0⟩] scope pos) (tComp wi tt te):=by
 intro pins s σ H Q I h
 rw[eval_ListComp]
 refine wpAny_comprehension_free (use:=none) rfl hs ok.clos ok.kind ok.names (thn (hi pins s σ H _ I h) fun xv s1 h1=>thn h1 fun itv s2 h2=>?_)
 obtain⟨it,fp,tn,J,H2,e,I2,T,st2,f2,hW⟩:=h2
 subst e
 refine comp_core hc ok ht he I2 T st2 f2 hW (compPost (model X.prog X.w) X.A X.xe none (EP X pins σ Q)) fun D C H3 s4 I4 hm fC q=>?_
 obtain⟨m,hn⟩:=hm
 exact⟨m,hn,fun h' hsb=>⟨.ref D,H3,I4.turned (t':=s4.toks) (fun b o hb e=>hsb.extBut b o hb e) fC.1 fC.2.1 fC.2.2.2.1 fC.2.2.2.2.1 fC.2.2.2.2.2,rfl,q⟩⟩
theorem ps_setComp{M:List Str}{elt iter:Expr}{x y:Str}{px py pos spos:Pos}{ifs:List Expr}{scope:Scope}{cl:List (Str×Addr)}{wi:TI}{tt:TT}{te:TE}{i:Nat}(hN:X.N.Nodup)(hiy:X.N[i]?=some y)(hy:Loc X.env.scope y)
 (hc:X.calm=true)(ok:CompOk X M x scope cl)(hi:PI X (.Name x px) iter wi)
 (ht:∀C s₀ H₀ fp,PIfs (compCx X M x scope cl C s₀ H₀ fp) ifs tt)(he:∀C s₀ H₀ fp,PE (compCx X M x scope cl C s₀ H₀ fp) elt te)
 (hsw:swapsWith (.ListComp elt [⟨.Name x px,iter,ifs,0⟩] scope pos) (some (.Name y py)) spos.line X.env=pure true:=by with_unfolding_all rfl)
 (hf:X.fn y=true∨X.env.scope.names.lookup y=some .local:=by first | exact .inl rfl | exact .inr rfl | assumption)
 (hs:∀x,foldedSetIterable iter X.env x=pure x:=by intro _;rfl):
 PS X (.Assign [.Name y py] (.ListComp elt [⟨.Name x px,iter,ifs,0⟩] scope pos) spos) (tAsg (tComp wi tt te) (gName i)):=by
 intro pins s σ H D I h
 rw[exec_Assign_Name_used _ _ _ _ hsw]
 refine wpAny_bind (wpAny_standAt (wpAny_bind ?_))
 show wpAny _ X.A (do let _ ←comprehension (.ListComp elt [⟨.Name x px,iter,ifs,0⟩] scope pos) scope X.env _ (newList []) false (eval iter X.env) (some (assign (.Name y py) X.env))) _ _ s
 refine wpAny_bind (wpAny_mono (wpAny_comprehension_free (use:=some (assign (.Name y py) X.env)) (Q:=fun _ s'=>SP X pins D .next s') rfl hs ok.clos ok.kind ok.names
  (thn (hi pins s σ H _ I h) fun xv s1 h1=>thn h1 fun itv s2 h2=>?_)) (fun _ s' hq=>wpAny_pure (wpAny_pure hq)) fun _ _ e=>e)
 obtain⟨it,fp,tn,J,H2,e,I2,T,st2,f2,hW⟩:=h2
 subst e
 refine comp_core (Q:=fun x H1=>gName i x σ H1 D.nx) hc ok ht he I2 T st2 f2 hW (compPost (model X.prog X.w) X.A X.xe (some (assign (.Name y py) X.env)) (fun _ s'=>SP X pins D .next s')) fun Dd C H3 s4 I4 hm fC q=>?_
 obtain⟨m,hn⟩:=hm
 show wpAny _ X.A (assign (.Name y py) X.env (.ref Dd)) _ _ _
 refine wpAny_assign_Name (store_ok2 I4 hN hiy hy (v:=.ref Dd) rfl (fun s5 I5 hsb=>?_) hf)
 obtain⟨a,sb,ha⟩:=hsb
 have hCa:C≠a:=by
  rcases ha with rfl | ha
  ·exact fC.2.1
  ·exact(fC.2.2.2.2.1 _ _ ha).symm
 exact⟨m,hn.sameBut sb hCa,fun h' hsb'=>⟨_,H3,I5.turned (t':=s5.toks) (fun b o hb e=>hsb'.extBut b o hb e) fC.1 fC.2.1 fC.2.2.2.1 fC.2.2.2.2.1 fC.2.2.2.2.2,q⟩⟩
theorem vals_bls:∀{bs:List Bool} {us:List Value},Vals (bs.map V.bl) us→us=bs.map Value.bool
 | [],_,.nil=>rfl
 | b::bs,u::us,.cons r t=>by
  cases (show u=Value.bool b from r)
  rw[vals_bls t]
  rfl
theorem range_allB(bs:List Bool):((List.range bs.length).all fun i=>(bs[i]?).getD true)=bs.all id:=by
 induction bs with
 | nil=>rfl
 | cons b bs ih=>
  rw[List.length_cons,List.range_succ_eq_map,List.all_cons,List.all_map,List.all_cons,←ih]
  rfl
theorem kept_it{s:Shared}{h':Heap}{o:Obj}(hk:∀b x,b∉[s.heap.objs.size]→(s.heap.push o).get? b=some x→h'.get? b=some x):∀b x,s.heap.get? b=some x→h'.get? b=some x:=
 fun b x e=>hk b x (fun hm=>by rw[List.mem_singleton.mp hm] at e;exact Nat.lt_irrefl _ (Heap.lt_size e)) (Heap.get?_push_of_some _ e)
theorem call_all(hc:X.calm=true):CallR X (.builtin "all") (fun xs H Q=>∃(p:Addr) (bs:List Bool),xs=[.ref p]∧SqL X.K H p (bs.map V.bl)∧Q (.bl (bs.all id)) H):=by
 intro pins s σ H xs us Q I r h
 obtain⟨p,bs,rfl,hq,q⟩:=h
 obtain⟨u,rfl,ru⟩:=vals1 r
 cases (show u=Value.ref p from ru)
 obtain⟨its,rv,pl,_⟩:=I.list hq
 obtain rfl:=vals_bls rv
 have hl:=pl.isList
 have hlt:p<s.heap.objs.size:=by obtain⟨_,e,_⟩:=id hl;exact Heap.lt_size e
 refine call_all_walk (wpAny_pyIter_list hl ?_)
 refine⟨s.heap.objs.size,[s.heap.objs.size,p],[s.heap.objs.size],(bs.map Value.bool).toArray.size,_,_,fun i=>(bs[i]?).getD true,rfl,Walks.list (A:=X.A.in1) (I.ok.hd hc) _ p (Nat.ne_of_lt hlt) (bs.map Value.bool).toArray,
  ⟨⟨_,Heap.get?_push_size _ rfl,rfl,rfl⟩,hl.push _⟩,fun i v s' Q' E' hP hQ=>?_,fun h' tk hk=>?_⟩
 ·have hP':(bs.map Value.bool)[i]?=some v:=by simpa using hP
  rw[List.getElem?_map] at hP'
  cases e:bs[i]? with
  | none=>rw[e] at hP';cases hP'
  | some b=>
   rw[e] at hP'
   cases hP'
   simp only[e,Option.getD_some] at hQ
   exact wpAny_truthy_bool hQ
 ·have e:((List.range (bs.map Value.bool).toArray.size).all fun i=>(bs[i]?).getD true)=bs.all id:=by
   rw[List.size_toArray,List.length_map];exact range_allB bs
  rw[e]
  exact⟨.bl _,H,I.kept (kept_it hk),rfl,q⟩
theorem lookup_mem{κ β:Type}[BEq κ][LawfulBEq κ]{k:κ}{v:β}:∀{l:List (κ×β)},l.lookup k=some v→(k,v)∈l
 | (a,b)::r,h=>by
  rw[List.lookup_cons] at h
  cases e:k==a with
  | true=>
   rw[e] at h
   cases h
   rw[eq_of_beq e]
   exact List.mem_cons_self
  | false=>
   rw[e] at h
   exact List.mem_cons_of_mem _ (lookup_mem h)
theorem relabel_plain{scope:Scope}{env:Env}(h:∀y∈scope.names,y.2≠.free):(relabel scope env).names=scope.names:=
 map_eq_self fun x hx=>by
  obtain⟨n,k⟩:=x
  have:(k==NameKind.free)=false:=by simpa using h _ hx
  simp[this]
theorem compOk_nil{x:Str}{scope:Scope}(N:List Str)(hN:X.N=N)(hf:∀y∈scope.names,y.2≠.free∧y.2≠.cell)(hk:scope.kind=.function)(hn:∀y∈scope.names,y.2=.local→scope.names.lookup y.1=some .local)
 (hx:scope.names.lookup x=some .local)(nd:(x::N).Nodup)(vis:∀y∈N,scope.names.lookup y≠some .local):CompOk X N x scope []:=by
 have e:=relabel_plain (env:=X.env) fun y hy=>(hf y hy).1
 refine⟨closureFor_none fun y hy=>(hf y hy).1,fun y hy=>(hf y hy).2,hk,hn,hx,nd,by rw[hN],fun y c h=>(by cases h),fun y h=>?_,fun i y hy h=>?_⟩
 ·rw[e] at h
  rcases h with h | h
  ·exact absurd rfl (hf _ (lookup_mem h)).2
  ·exact absurd rfl (hf _ (lookup_mem h)).1
 ·rcases h with h | h | h
  ·rw[e] at h;exact absurd h (vis y (List.mem_of_getElem? hy))
  ·rw[e] at h;exact absurd rfl (hf _ (lookup_mem h)).2
  ·rw[e] at h;exact absurd rfl (hf _ (lookup_mem h)).1
structure Walk(J:It)(ok:Hp→Prop)(xs:List V):Prop where
 go:∀i H,ok H→i<xs.length→J.go i H
 yld:∀i H x H',ok H→J.yld i H x H'→i<xs.length→H'=H∧xs[i]?=some x
 stop:∀i H,ok H→xs.length≤i→J.stop i H
theorem walk_l{K:PySem.W.Frag}{a:Addr}{xs:List V}:Walk (Itl K a) (fun H=>SqL K H a xs) xs:=
 ⟨fun i H h hi=>⟨xs,xs[i],h,by simp[hi]⟩,fun i H x H' h y hi=>⟨y.1,y.2 xs h⟩,fun i H h hi=>⟨xs,h,hi⟩⟩
theorem walk_t{K:PySem.W.Frag}{a:Addr}{xs:List V}:Walk (Itt K a) (fun H=>SqT K H a xs) xs:=
 ⟨fun i H h hi=>⟨xs,xs[i],h,by simp[hi]⟩,fun i H x H' h y hi=>⟨y.1,y.2 xs h⟩,fun i H h hi=>⟨xs,h,hi⟩⟩
theorem walk_r{lo:Int}{n:Nat}:Walk (Itr lo n) (fun _=>True) ((List.range n).map fun i=>V.int (lo+(i:Nat))):=
 ⟨fun i H _ hi=>(by show i<n;simpa using hi),fun i H x H' _ y hi=>⟨y.1,by
  have hi':i<n:=by simpa using hi
  rw[y.2]
  simp[hi']⟩,fun i H _ hi=>(by show n≤i;simpa using hi)⟩
theorem comp_by{J:It}{ok:Hp→Prop}{xs:List V}{σ:St}{H:Hp}{Q:VK}{tt:TT}{te:TE}(Wk:Walk J ok xs)(hz:xs.length<sizeLine)(hok:∀D ys,H D=none→ok (upd H D (.lst ys)))(p:V→Bool)(f:V→V)
 (ht:∀x∈xs,∀D ys (Q':Bool→Hp→Prop),H D=none→Q' (p x) (upd H D (.lst ys))→tt (some x::σ) (upd H D (.lst ys)) Q')
 (he:∀x∈xs,p x=true→∀D ys (Q':VK),H D=none→Q' (f x) (upd H D (.lst ys))→te (some x::σ) (upd H D (.lst ys)) Q')
 (h:∀D,H D=none→Q (.ref D) (upd H D (.lst ((xs.filter p).map f)))):
 ∀D,H D=none→∃W:Nat→Nat→List V→Hp→Prop,(∃m,W 0 m [] (upd H D (.lst [])))∧
  ∀i m ys H2,W i m ys H2→H2 D=some (.lst ys)∧((J.stop i H2∧Q (.ref D) H2)∨(J.go i H2∧ys.length<sizeLine∧∃m',m'<m∧∀x H3,J.yld i H2 x H3→
   tt (some x::σ) H3 fun b H4=>if b=true then te (some x::σ) H4 fun y H5=>H5 D=some (.lst ys)∧W (i+1) m' (ys++[y]) (upd H5 D (.lst (ys++[y]))) else W (i+1) m' ys H4)):=by
 intro D hD
 refine⟨fun i m ys H2=>i≤xs.length∧m=xs.length-i∧ys=((xs.take i).filter p).map f∧H2=upd H D (.lst ys),⟨_,Nat.zero_le _,rfl,by simp,rfl⟩,?_⟩
 rintro i m ys H2 ⟨hi,rfl,hys,rfl⟩
 refine⟨upd_same,?_⟩
 by_cases hlt:i<xs.length
 ·have hl:ys.length≤i:=by
   rw[hys,List.length_map]
   exact Nat.le_trans (List.length_filter_le _ _) (by rw[List.length_take];omega)
  refine .inr ⟨Wk.go i _ (hok D ys hD) hlt,by omega,xs.length-(i+1),by omega,fun x H3 hy=>?_⟩
  obtain⟨e3,ex⟩:=Wk.yld i _ x H3 (hok D ys hD) hy hlt
  subst e3
  have hm:x∈xs:=List.mem_of_getElem? ex
  have et:xs.take (i+1)=xs.take i++[x]:=by rw[List.take_add_one,ex];rfl
  refine ht x hm D ys _ hD ?_
  cases hp:p x with
  | false=>
   rw[if_neg Bool.false_ne_true]
   refine⟨hlt,rfl,?_,rfl⟩
   rw[et,List.filter_append,hys]
   simp[hp]
  | true=>
   rw[if_pos rfl]
   refine he x hm hp D ys _ hD ⟨upd_same,hlt,rfl,?_,by rw[upd_upd]⟩
   rw[et,List.filter_append,hys]
   simp[hp]
 ·have e:i=xs.length:=by omega
  subst e
  refine .inl ⟨Wk.stop _ _ (hok D ys hD) (Nat.le_refl _),?_⟩
  rw[hys,List.take_length]
  exact h D hD
theorem rd_rng1{ta:TA}{σ:St}{H:Hp}{R:It→Hp→Prop}(h:ta σ H fun vs H1=>∃j:Int,vs=[.int j]∧ -(2^62)≤j∧j<2^62∧R (Itr 0 j.toNat) H1):iRng1 ta σ H R:=h
theorem rd_comp{wi:TI}{tt:TT}{te:TE}{σ:St}{H:Hp}{Q:VK}(h:wi σ H (CompR tt te σ Q)):tComp wi tt te σ H Q:=h
theorem comp_go{J:It}{ok:Hp→Prop}{xs:List V}{σ:St}{H:Hp}{Q:VK}{tt:TT}{te:TE}(Wk:Walk J ok xs)(hz:xs.length<sizeLine)(hok:∀D ys,H D=none→ok (upd H D (.lst ys)))(p:V→Bool)(f:V→V)
 (ht:∀x∈xs,∀D ys (Q':Bool→Hp→Prop),H D=none→Q' (p x) (upd H D (.lst ys))→tt (some x::σ) (upd H D (.lst ys)) Q')
 (he:∀x∈xs,p x=true→∀D ys (Q':VK),H D=none→Q' (f x) (upd H D (.lst ys))→te (some x::σ) (upd H D (.lst ys)) Q')
 (h:∀D,H D=none→Q (.ref D) (upd H D (.lst ((xs.filter p).map f)))):CompR tt te σ Q J H:=comp_by Wk hz hok p f ht he h
theorem comp_t{K:PySem.W.Frag}{i:Nat}{a:Addr}{xs:List V}{σ:St}{H:Hp}{Q:VK}{tt:TT}{te:TE}(ei:σ[i]?=some (some (.ref a)))(hS:SqT K H a xs)(hz:xs.length<sizeLine)(p:V→Bool)(f:V→V)
 (ht:∀x∈xs,∀D ys (Q':Bool→Hp→Prop),H D=none→Q' (p x) (upd H D (.lst ys))→tt (some x::σ) (upd H D (.lst ys)) Q')
 (he:∀x∈xs,p x=true→∀D ys (Q':VK),H D=none→Q' (f x) (upd H D (.lst ys))→te (some x::σ) (upd H D (.lst ys)) Q')
 (h:∀D,H D=none→Q (.ref D) (upd H D (.lst ((xs.filter p).map f)))):tComp (iTup K (tVar i)) tt te σ H Q:=
 ⟨_,ei,a,rfl,⟨_,hS⟩,comp_by walk_t hz (fun D ys hD=>(same_new hD _).tup hS) p f ht he h⟩
theorem rd_true{σ:St}{H:Hp}{Q:Bool→Hp→Prop}(h:Q true H):tTrue σ H Q:=h
theorem compOk_freeM{x:Str}{scope:Scope}{cl:List (Str×Addr)}(M N:List Str)(hl:M.length=N.length)(hN:X.N=N)(clos:closureFor scope X.env=pure cl)(hc:(scope.names.all fun y=>y.2 != .cell)=true)(hk:scope.kind=.function)
 (hn:(scope.names.all fun y=>y.2 != .local||scope.names.lookup y.1==some .local)=true)(hx:scope.names.lookup x=some .local)(nd:(x::M).Nodup)
 (hs:∀p∈cl,X.env.cells.lookup p.1=some p.2)
 (hh:((relabel scope X.env).names.all fun p=>(p.2 != .cell&&p.2 != .free)||(cl.lookup p.1).isSome)=true)
 (hv:((M.zip N).all fun q=>match (relabel scope X.env).names.lookup q.1 with
  | some .local=>false
  | some .cell=>q.1==q.2&&(X.env.scope.names.lookup q.1==some .cell||X.env.scope.names.lookup q.1==some .free)
  | some .free=>q.1==q.2&&(X.env.scope.names.lookup q.1==some .cell||X.env.scope.names.lookup q.1==some .free)
  | _=>true)=true):CompOk X M x scope cl:=by
 refine⟨clos,fun y hy=>?_,hk,fun y hy hl=>?_,hx,nd,by rw[hN];exact hl,fun y c h=>hs _ (lookup_mem h),fun y h=>?_,fun i y hy h=>?_⟩
 ·have:=List.all_eq_true.mp hc y hy
  simpa using this
 ·have:=List.all_eq_true.mp hn y hy
  simpa [hl] using this
 ·rcases h with h | h
  ·have:=List.all_eq_true.mp hh _ (lookup_mem h)
   exact Option.isSome_iff_exists.mp (by simpa using this)
  ·have:=List.all_eq_true.mp hh _ (lookup_mem h)
   exact Option.isSome_iff_exists.mp (by simpa using this)
 ·have hi:i<N.length:=by
   have:=(List.getElem?_eq_some_iff.mp hy).1
   omega
  have hz:(y,N[i])∈M.zip N:=by
   have:(M.zip N)[i]?=some (y,N[i]):=List.getElem?_zip_eq_some.mpr ⟨hy,by simp[hi]⟩
   exact List.mem_of_getElem? this
  have z:=List.all_eq_true.mp hv _ hz
  have fin:y=N[i]→X.N[i]?=some y:=fun e=>by rw[hN,e];simp[hi]
  rcases h with h | h | h
  ·dsimp only at z
   rw[h] at z;cases z
  ·dsimp only at z
   rw[h] at z
   simp only[Bool.and_eq_true,beq_iff_eq,Bool.or_eq_true] at z
   exact⟨fin z.1,.inl h,z.2⟩
  ·dsimp only at z
   rw[h] at z
   simp only[Bool.and_eq_true,beq_iff_eq,Bool.or_eq_true] at z
   exact⟨fin z.1,.inr h,z.2⟩
def ItrS(lo c:Int)(n:Nat):It:=⟨fun i _=>i<n,fun i H x H'=>H'=H∧x=.int (lo+i*c),fun i _=>n≤i⟩
theorem turn_rangeS{P:Program}{w:World}{K:PySem.W.Frag}{tg:Expr}(it:Addr)(lo c:Int)(n:Nat):Turn P w K tg (ItrS lo c n) [it] it (fun i h=>IsRangeIter h it (lo+(i:Nat)*c) ((n:Int)-(i:Nat)) c) where
 mem:=by simp
 obj:=fun i h st b hb=>by
  have e:b=it:=by simpa using hb
  subst e
  exact⟨_,st,fun v z=>by
   have z':Data.fields _=Data.cell v:=z
   cases z'⟩
 keep:=fun i h h' st k=>k it (by simp) _ st
 item:=by
  intro X hP hw hK hc i pins s σ H E I hf st hg
  subst hP hw hK
  obtain⟨f0,f1,f2,f3,f4,f5⟩:=hf it (by simp)
  have W:=Walks.range (prog:=X.prog) (w:=X.w) (I.ok.hd hc) it lo c n
  refine W.item i s _ _ hg st fun v h' tk hv st' kk=>?_
  obtain⟨t,rfl⟩:=hv
  have I1:Inv X pins σ H { s with heap:=h',toks:=tk }:=I.turned (fun b o hb e=>kk b o (by simpa using hb) e) f0 f1 f3 f4 f5
  exact⟨_,rfl,go_of (s:={ s with heap:=h',toks:=tk }) (n:="range_iterator") st' rfl rfl (by decide) ⟨.int (lo+i*c),H,I1,⟨t,rfl⟩,⟨rfl,rfl⟩,st',fun b hb=>(hf b hb).1⟩⟩
 done:=by
  intro X hP hw hK hc i pins s σ H E I hf st hg
  subst hP hw hK
  obtain⟨f0,f1,f2,f3,f4,f5⟩:=hf it (by simp)
  exact wpAny_pyNext_range_end (I.ok.hd hc) st (by have:n≤i:=hg;omega) fun h' eb=>⟨rfl,I.turned (t':=s.toks) (fun b o hb e=>eb b o hb e) f0 f1 f3 f4 f5⟩
 self:=fun _ _ _ _ _ st h=>wpAny_pyIter_rangeiter st h
def iRng3(ta:TA):TI:=fun σ H R=>ta σ H fun vs H1=>∃i j c:Int,vs=[.int i,.int j,.int c]∧0<c∧c<1073741824∧Builtin.Range.small i j c=true∧∃n:Nat,(n:Int)=Builtin.Range.rangeSize i j c∧R (ItrS i c n) H1
theorem pi_range3{tg:Expr}{a b d:Expr}{ta:TA}{p pos:Pos}(hg:Gl X "range")(hm:X.mg "range"=none)(ha:PA X [a,b,d] ta)(hs:starEach [a,b,d] X.env=(false,eval a X.env)::starEach [b,d] X.env:=by rfl)
 (hpl:(backTo pos (starEach [b,d] X.env)).any (·.1)=false:=by rfl):PI X tg (.Call (.Name "range" p) [a,b,d] [] pos) (iRng3 ta):=by
 intro pins s σ H R I h
 refine Call_ (ld_blt I hg hm boot_range (PyProof.Rows.callWith_type1 (thn (ha pos pins s σ H _ I h) fun us s1 ⟨vs,H1,I1,r1,q1⟩=>?_) hs hpl))
 obtain⟨lo,hi,c,e,c0,c1,sm,n,hn,q⟩:=q1
 subst e
 cases r1 with
 | cons r rr=>
  cases rr with
  | cons r' rr=>
   cases rr with
   | cons r'' rr=>
    cases rr
    obtain⟨t,rfl⟩:=r
    obtain⟨t',rfl⟩:=r'
    obtain⟨t'',rfl⟩:=r''
    refine PySem.call_range_3 (by omega) ?_ (Or.inl (PyProof.noPylong_small (by omega)))
    refine wpAny_pyIter_range (IsRange.new ..) sm ?_
    have I2:Inv X pins σ H1 { s1 with heap:=s1.heap.push { cls:=.type "range",data:=.fields #[.int lo t,.int hi t',.int c t''] },toks:=s1.toks }:=I1.kept fun b o e=>Heap.get?_push_of_some _ e
    refine⟨(s1.heap.push { cls:=.type "range",data:=.fields #[.int lo t,.int hi t',.int c t''] }).objs.size,[(s1.heap.push { cls:=.type "range",data:=.fields #[.int lo t,.int hi t',.int c t''] }).objs.size],_,_,H1,rfl,
     I2.kept (t':=s1.toks) fun b o e=>Heap.get?_push_of_some _ e,turn_rangeS _ lo c n,?_,fun b hb=>?_,q⟩
    ·have e1:lo+((0:Nat):Int)*c=lo:=by simp
     have e2:(n:Int)-((0:Nat):Int)=Builtin.Range.rangeSize lo hi c:=by rw[←hn];simp
     show IsRangeIter _ _ (lo+((0:Nat):Int)*c) ((n:Int)-((0:Nat):Int)) c
     rw[e1,e2]
     exact Heap.get?_push_size _ rfl
    ·have e:b=(s1.heap.push { cls:=.type "range",data:=.fields #[.int lo t,.int hi t',.int c t''] }).objs.size:=by simpa using hb
     subst e
     exact I2.fpOk (Nat.le_refl _) (I2.hok.fresh (Nat.le_refl _))
theorem rd_rng3{ta:TA}{σ:St}{H:Hp}{R:It→Hp→Prop}(h:ta σ H fun vs H1=>∃i j c:Int,vs=[.int i,.int j,.int c]∧0<c∧c<1073741824∧Builtin.Range.small i j c=true∧∃n:Nat,(n:Int)=Builtin.Range.rangeSize i j c∧R (ItrS i c n) H1):iRng3 ta σ H R:=h
theorem filt(p:V→Bool)(q:Int→Bool)(hp:∀d,p (.int d)=q d)(g:Nat→Int):∀ks:List Nat,((ks.map fun i=>V.int (g i)).filter p).map (fun v=>v)=((ks.map g).filter q).map V.int
 | []=>rfl
 | k::ks=>by
  have ih:=filt p q hp g ks
  simp only[List.map_cons,List.filter_cons,hp]
  cases q (g k) with
  | true=>simpa using ih
  | false=>simpa using ih
theorem small_step{i j c:Int}(i0:0≤i)(i1:i<4294967296)(j0:0≤j)(j1:j<4294967296)(c0:0<c)(c1:c<4294967296):Builtin.Range.small i j c=true:=by
 have e:Builtin.Range.rangeSize i j c=if i<j then (j-i-1)/c+1 else 0:=by
  unfold Builtin.Range.rangeSize
  rw[if_pos c0]
 have b1:∀x:Int,0≤x→x/c≤x:=fun x hx=>Int.ediv_le_self _ hx
 have b2:∀x:Int,0≤x→0≤x/c:=fun x hx=>Int.ediv_nonneg hx (by omega)
 unfold Builtin.Range.small
 rw[e]
 simp only[Builtin.Range.rangeFitsLong,Bool.and_eq_true,Bool.or_eq_true,decide_eq_true_eq,beq_iff_eq,if_pos c0]
 split
 ·have:=b1 (j-i-1) (by omega)
  have:=b2 (j-i-1) (by omega)
  omega
 ·omega
theorem rd_append{K:PySem.W.Frag}{i:Nat}{t:TA}{σ:St}{H:Hp}{Q:VK}{l:Addr}{xs:List V}(e:σ[i]?=some (some (.ref l)))(h:H l=some (.lst xs))
 (g:t σ H fun ys H2=>rAppend (.ref l) ys H2 Q):tBM K "list" rAppend (tVar i) t σ H Q:=⟨_,e,.inl ⟨rfl,_,SqL.of h⟩,g⟩
theorem rd_app{l:Addr}{xs:List V}{y:V}{H:Hp}{Q:VK}(h:H l=some (.lst xs))(hz:xs.length<sizeLine)(q:Q .non (upd H l (.lst (xs++[y])))):rAppend (.ref l) [y] H Q:=⟨l,xs,y,rfl,rfl,h,hz,q⟩
theorem rd_for{wi:TI}{g:TG}{tb:TS}{D:Ends}{σ:St}{H:Hp}(h:wi σ H fun J H1=>∃W:Nat→Nat→St→Hp→Prop,(∃m,W 0 m σ H1)∧∀i m σ H,W i m σ H→
 (J.stop i H∧D.nx σ H)∨(J.go i H∧∃N:St→Hp→Prop,(∀σ' H',N σ' H'→∃m',m'<m∧W (i+1) m' σ' H')∧∀x H',J.yld i H x H'→g x σ H' fun σ2 H2=>tb { D with nx:=N,ct:=N,bk:=D.nx } σ2 H2)):tFor wi g tb D σ H:=h
theorem rd_iL{K:PySem.W.Frag}{tl:TE}{σ:St}{H:Hp}{R:It→Hp→Prop}(h:tl σ H fun x H1=>∃a,x=.ref a∧(∃xs,SqL K H1 a xs)∧R (Itl K a) H1):iList K tl σ H R:=h
theorem rd_iT{K:PySem.W.Frag}{tl:TE}{σ:St}{H:Hp}{R:It→Hp→Prop}(h:tl σ H fun x H1=>∃a,x=.ref a∧(∃xs,SqT K H1 a xs)∧R (Itt K a) H1):iTup K tl σ H R:=h
theorem dec_nat{a b:Nat}:decide (V.int (a:Int)=V.int (b:Int))=decide (a=b):=by
 rw[Bool.eq_iff_iff,decide_eq_true_eq,decide_eq_true_eq,V.int.injEq]
 omega
theorem vdvd{l f:Nat}:V.int ((l:Int)%(f:Int))=V.int 0↔f∣l:=by
 rw[←Int.natCast_emod,V.int.injEq,Nat.dvd_iff_mod_eq_zero]
 omega
theorem same_app{H H':Hp}{l:Addr}{o:HO}(h:H l=none)(s:Same H H'):Same H (upd H' l o):=fun b u e=>by
 rw[upd_ne (ne_of_none e h)]
 exact s b u e
end
end L2
set_option Elab.async false
set_option linter.all false
set_option maxRecDepth 100000
set_option maxHeartbeats 4000000
namespace L2
open PySem PySem.Spec PyProof.Rows
section
variable{M:Model}{A:Around}{E:Value→Shared→Prop}{s:Shared}{base:Heap}{env:Env}{outer l:List Env}{L e:Addr}{cls:Value}{dd:Option Addr}
end
end L2
set_option Elab.async false
set_option linter.all false
set_option maxRecDepth 100000
set_option maxHeartbeats 4000000
namespace L2
open PySem PySem.Spec PyProof.Rows
def Tra(H:Hp)(h B:Heap):Prop:=∀b o,H b=some o→∃u,h.get? b=some u∧B.get? b=some u
section
variable{P:Program}{w:World}{fs:List Addr}{H H':Hp}{h h1 h2 B:Heap}
theorem Tra.later(t:Tra H' h1 B)(st:B.StaysIn h2):Tra H' h2 B:=fun b o e=>by
 obtain⟨u,_,q⟩:=t b o e
 exact⟨u,st _ _ q,q⟩
end
section
variable{X:Cx}{pins:List (Addr×Obj)}{σ:St}{H H':Hp}{s:Shared}
end
end L2
set_option Elab.async false
set_option linter.all false
set_option maxRecDepth 100000
set_option maxHeartbeats 4000000
namespace L2
open PySem PySem.Spec PyProof.Rows
section
variable{P:Program}{w:World}{K:PySem.W.Frag}{mg:Str→Option Value}{base:Heap}
end
section
variable{X:Cx}{EE:Value→Option Addr→St→Hp→Prop}
abbrev bmV:List Value:=[.type "ValueError",.type "Exception",.type "BaseException",.type "object"]
end
end L2
set_option Elab.async false
set_option linter.all false
set_option maxRecDepth 100000
set_option maxHeartbeats 4000000
namespace L2
open PySem PySem.Spec PyProof.Rows
abbrev Cx.tr(X:Cx)(xe:Value→Shared→Prop)(pn:List (Addr×Obj)):Cx:={ X with xe:=xe,pn:=pn }
abbrev Cx.hd(X:Cx)(e:Addr):Cx:={ X with A:=X.A.mark (some (.ref e)),calm:=false,xe:=fun _ _=>False }
section
variable{X:Cx}{pins:List (Addr×Obj)}{σ:St}{H:Hp}{s:Shared}{ea:Addr}{cls:Value}{dx:Option Addr}
end
end L2
set_option Elab.async false
set_option linter.all false
set_option maxRecDepth 100000
set_option maxHeartbeats 4000000
namespace L2
open PySem PySem.Spec PyProof.Rows
section
variable{X:Cx}{pins:List (Addr×Obj)}{σ:St}{H:Hp}{s:Shared}
end
section
variable{X:Cx}
end
end L2
set_option Elab.async false
set_option linter.all false
set_option maxRecDepth 100000
set_option maxHeartbeats 4000000
namespace L2
open PySem PySem.Spec PyProof.Rows
section
variable{prog:Program}{w:World}{A:Around}{E:Value→Shared→Prop}{s:Shared}{K:PySem.W.Frag}{x D:Addr}{ox:Obj}{odo:Option Obj}{name:Str}
end
section
variable{X:Cx}
end
end L2
set_option Elab.async false
set_option linter.all false
set_option maxRecDepth 100000
set_option maxHeartbeats 4000000
namespace L2
open PySem PySem.Spec PyProof.Rows
structure RoomN(k:Nat)(A:Around):Prop where
 dp:A.depth+3*k+5<recursionLimit
 un:A.units+16*k+200<cLine
 gd:A.guards=some []
theorem RoomN.mono{j k:Nat}{A:Around}(r:RoomN k A)(h:j≤k):RoomN j A:=⟨by have:=r.dp;omega,by have:=r.un;omega,r.gd⟩
theorem Room.toN{k:Nat}{A:Around}(r:Room k A):RoomN k A:=⟨r.dp,r.un,r.gd⟩
section
variable{P:Program}{w:World}{K:PySem.W.Frag}{mg:Str→Option Value}{base:Heap}
end
section
variable{X:Cx}
end
theorem rel_ref(a:Addr):RelV (.ref a) (.ref a):=rfl
section
variable{X:Cx}
end
end L2
set_option Elab.async false
set_option linter.all false
set_option maxRecDepth 100000
set_option maxHeartbeats 4000000
namespace L2
open PySem PySem.Spec PyProof.Rows
section
variable{prog:Program}{w:World}{A:Around}{E:Value→Shared→Prop}{h:Heap}{g:Array GenState}{d:Drawn}{t:Nat}{os:OsState}{K:PySem.W.Frag}{f:Addr}
variable{nm q:Str}{C N:Addr}{bs bm:List Value}{hdct:Bool}{sn:List Str}{sub:List Value}{ab:Bool}{col:Option Bool}{dd:Option Addr}{k0 k1 k2 k3 k5:Option Value}
end
end L2
set_option Elab.async false
set_option linter.all false
set_option maxRecDepth 100000
set_option maxHeartbeats 4000000
namespace L2
open PySem PySem.Spec PyProof.Rows
section
variable{prog:Program}{w:World}{A:Around}{E:Value→Shared→Prop}{h:Heap}{g:Array GenState}{d:Drawn}{t:Nat}{os:OsState}{K:PySem.W.Frag}{e:Addr}
variable{nm q:Str}{C N:Addr}{bs bm:List Value}{hdct:Bool}{sn:List Str}{sub:List Value}{ab:Bool}{col:Option Bool}{dd:Option Addr}{k0 k1 k2 k3 k5:Option Value}{newId:String}
variable{x CF:Addr}{cd:ClassData}{name:Str}{v:Value}{vs:Array Value}{sl:Array (Option Value)}
end
end L2
set_option Elab.async false
set_option linter.all false
set_option maxRecDepth 100000
set_option maxHeartbeats 4000000
namespace L2
open PySem PySem.Spec PyProof.Rows
structure XOwn(K:PySem.W.Frag)(C CF:Addr):Prop where
 obj:∃dd cd k0 k1 k2 k3 k5,K.lookup C=some ⟨.type "type",dd,.cls cd,#[k0,k1,k2,k3,some (.builtin "ValueError.__new__"),k5]⟩∧cd.mro=.ref C::.ref CF::bmV∧cd.hasDel=false∧cd.hasDict=true
 base:PySem.W.excIn K CF bmV "ValueError.__new__"=true
 sa:PySem.W.findIn K (.ref C) "__setattr__"=some (some (.builtin "object.__setattr__"))
section
variable{K:PySem.W.Frag}{C CF:Addr}{h:Heap}
theorem XOwn.at(O:XOwn K C CF)(KX:K.In h):∃N nm qn bs hd sn sub ab col dd k0 k1 k2 k3 k5,h.get? C=some (excClassObj nm qn C N bs (.ref CF::bmV) hd sn sub ab col dd k0 k1 k2 k3 k5 "ValueError.__new__"):=by
 obtain⟨dd,cd,k0,k1,k2,k3,k5,e,m,hdel,hd⟩:=O.obj
 obtain⟨nm,bs,mro,ns,qn,hd,sn,sub,ab,col,del⟩:=cd
 dsimp only at m hdel
 subst m hdel
 exact⟨_,_,_,_,_,_,_,_,_,_,_,_,_,_,_,KX _ _ e⟩
end
section
variable{X:Cx}{pins:List (Addr×Obj)}{σ:St}{H:Hp}{s:Shared}{h':Heap}
variable{o value:Expr}{f:Str}{pos pos':Pos}{ta tv:TE}
end
section
variable{M:Model}{A:Around}{E:Value→Shared→Prop}
end
end L2
set_option Elab.async false
set_option linter.all false
set_option maxRecDepth 100000
set_option maxHeartbeats 4000000
namespace L2
open PySem PySem.Spec PyProof.Rows
section
variable{X:Cx}{EE:Value→Option Addr→St→Hp→Prop}
end
end L2
set_option Elab.async false
set_option linter.all false
set_option maxRecDepth 100000
set_option maxHeartbeats 4000000
namespace L2
open PySem PySem.Spec PyProof.Rows
def intT(i:Int):Str:=Str.ofString (toString i)
def shI(is:List Int):Str:=tupleText (is.map intT)
inductive FmtV(K:PySem.W.Frag)(H:Hp):V→Str→Prop
 | int {i:Int}:i.natAbs.log2<1920→FmtV K H (.int i) (intT i)
 | str {z:Str}:z.length≤sizeLine→FmtV K H (.str z) z
 | tup {a:Addr} {is:List Int}:SqT K H a (is.map V.int)→(∀i∈is,i.natAbs.log2<1920)→(shI is).length≤sizeLine→FmtV K H (.ref a) (shI is)
theorem shownAll_ints:∀is:List Int,PyData.shownAll (is.map PyData.int)=is.map intT
 | []=>by simp[PyData.shownAll]
 | i::is=>by simp only[List.map_cons,PyData.shownAll,PyData.shown,shownAll_ints is];rfl
theorem showableAll_ints:∀is:List Int,(∀i∈is,i.natAbs.log2<1920)→PyData.showableAll (is.map PyData.int)=true
 | [],_=>by simp[PyData.showableAll]
 | i::is,h=>by
  simp only[List.map_cons,PyData.showableAll,PyData.showable,showableAll_ints is fun j hj=>h j (List.mem_cons_of_mem _ hj),Bool.and_true,decide_eq_true_eq]
  exact h i (List.mem_cons_self ..)
theorem hasDictAll_ints:∀is:List Int,PyData.hasDictAll (is.map PyData.int)=false
 | []=>by simp[PyData.hasDictAll]
 | i::is=>by simp only[List.map_cons,PyData.hasDictAll,PyData.hasDict,hasDictAll_ints is,Bool.or_self]
theorem depthAll_ints:∀is:List Int,PyData.depthAll (is.map PyData.int)≤1
 | []=>by simp[PyData.depthAll]
 | i::is=>by
  have:=depthAll_ints is
  simp only[List.map_cons,PyData.depthAll,PyData.depth]
  omega
theorem readsAll_ints{h:Heap}:∀{is:List Int} {us:List Value},Vals (is.map V.int) us→ReadsAll h us (is.map PyData.int) []
 | [],_,.nil=>.nil
 | i::is,_,.cons r t=>by
  obtain⟨tk,rfl⟩:=(show ∃tk,_=Value.int i tk from r)
  exact .cons (as:=[]) (bs:=[]) (.int i tk) (readsAll_ints t)
section
variable{X:Cx}{pins:List (Addr×Obj)}{σ:St}{H:Hp}{s:Shared}
theorem fmt_ok{k:Nat}{x:V}{u:Value}{y:Str}{Q:VK}(hr:RoomN k X.A)(I:Inv X pins σ H s)(r:RelV x u)(f:FmtV X.K H x y)(q:Q (.str y) H):wpAny (model X.prog X.w) X.A (formatField u Str.empty) (EP X pins σ Q) X.xe s:=by
 cases f with
 | int h=>
  obtain⟨t,rfl⟩:=(show ∃t,u=Value.int _ t from r)
  exact wpAny_formatField_int h ⟨.str (intT _),H,I.tok _,⟨_,rfl⟩,q⟩
 | str h=>
  obtain⟨t,rfl⟩:=(show ∃t,u=Value.str y t from r)
  exact wpAny_formatField_str ⟨.str y,H,I,⟨_,rfl⟩,q⟩ ⟨.str y,H,I.tok _,⟨_,rfl⟩,q⟩ h
 | @tup a is hs hi hz=>
  cases (show u=Value.ref a from r)
  obtain⟨its,vr,⟨o,ho,hc,n,hd⟩,hl⟩:=I.tuple hs
  have rd:Reads s.heap (.ref a) (.tuple (is.map PyData.int)) []:=.tuple ho hc hd (readsAll_ints vr)
  have e:(PyData.tuple (is.map PyData.int)).shown=shI is:=by simp only[PyData.shown,shownAll_ints];rfl
  have hdp:(PyData.tuple (is.map PyData.int)).depth≤3:=by
   have:=depthAll_ints is
   simp only[PyData.depth]
   omega
  refine formatField_of_reads rd (by simp only[PyData.showable];exact showableAll_ints is hi) (PyData.noDict_hsm (by simp only[PyData.hasDict];exact hasDictAll_ints is)) hr.gd (by have:=hr.un;omega) (fun _ _ z=>z) (fun h' u tk hk=>?_) (by rw[e];exact hz)
  rw[e]
  exact⟨.str (shI is),H,I.kept hk,⟨_,rfl⟩,q⟩
end
def tFmt(K:PySem.W.Frag)(tv:TE):TE:=fun σ H Q=>tv σ H fun x H1=>∃y,FmtV K H1 x y∧Q (.str y) H1
abbrev TJ:=Str→St→Hp→VK→Prop
def PJ(X:Cx)(es:List Expr)(t:TJ):Prop:=∀(pins:List (Addr×Obj)) (s:Shared) (σ:St) (H:Hp) (out:Str) (Q:VK),Inv X pins σ H s→t out σ H Q→wpAny (model X.prog X.w) X.A (joinParts out (evalEach es X.env)) (EP X pins σ Q) X.xe s
def jNil:TJ:=fun out _ H Q=>out.length≤sizeLine∧Q (.str out) H
def jCons(te:TE)(t:TJ):TJ:=fun out σ H Q=>te σ H fun x H1=>∃y,x=.str y∧(out++y).length≤sizeLine∧t (out++y) σ H1 Q
def tJoin(t:TJ):TE:=fun σ H Q=>t Str.empty σ H Q
section
variable{X:Cx}{k:Nat}{e e₂:Expr}{es:List Expr}{te:TE}{t:TJ}{pos:Pos}
theorem pe_fmt(hr:RoomN k X.A)(h:PE X e te):PE X (.FormattedValue e (-1) none pos) (tFmt X.K te):=by
 intro pins s σ H Q I hw
 refine FormattedValue_plain (thn (h pins s σ H _ I hw) fun u s1 ⟨x,H1,I1,r,y,f,q⟩=>?_)
 exact fmt_ok hr I1 r f q
theorem pj_nil:PJ X [] jNil:=fun pins s σ H out Q I h=>joinParts_nil ⟨.str out,H,I.tok _,⟨_,rfl⟩,h.2⟩ h.1
theorem pj_cons(h1:PE X e te)(h2:PJ X es t):PJ X (e::es) (jCons te t):=by
 intro pins s σ H out Q I h
 show wpAny _ _ (joinParts out (eval e X.env::evalEach es X.env)) _ _ _
 refine joinParts_cons (thn (h1 pins s σ H _ I h) fun u s1 ⟨x,H1,I1,r,y,ex,hz,q⟩=>?_)
 subst ex
 obtain⟨tk,rfl⟩:=(show ∃tk,u=Value.str y tk from r)
 exact⟨hz,h2 pins s1 σ H1 (out++y) Q I1 q⟩
theorem pe_join(h:PJ X (e::e₂::es) t):PE X (.JoinedStr (e::e₂::es) pos) (tJoin t):=fun pins s σ H Q I hw=>JoinedStr_many (h pins s σ H Str.empty Q I hw)
end
section
variable{X:Cx}{e:Expr}{f:Str}{pos:Pos}{ta:TE}
end
end L2
set_option Elab.async false
set_option linter.all false
set_option maxRecDepth 100000
set_option maxHeartbeats 4000000
namespace L2
open PySem PySem.Spec PyProof.Rows
section
variable{X:Cx}{EE:Value→Option Addr→St→Hp→Prop}
structure CalM(P:Program)(w:World)(K:PySem.W.Frag)(mg:Str→Option Value)(base:Heap)(CX:CXT)(k:Nat)(C:Addr)(m:Str)(ps:List Str)(sp:Sp):Prop where
 ex:∃(f:Addr) (fd:FuncData),FnOk P w K mg base CX k f fd ps sp∧Binds K fd ps []∧Meth K C m f
structure CalI(P:Program)(w:World)(K:PySem.W.Frag)(mg:Str→Option Value)(base:Heap)(CX:CXT)(k:Nat)(x:Str)(C:Addr)(ps:List Str)(sp:Sp):Prop where
 ex:∃(f:Addr) (fd:FuncData),FnOk P w K mg base CX k f fd ps sp∧Binds K fd ps []∧Mk K C f∧mg x=some (.ref C)
variable{C:Addr}{m x:Str}{k:Nat}{ps:List Str}{sp:Sp}{o e:Expr}{es:List Expr}{ta:TE}{t:TA}{apos pos p:Pos}
theorem pe_mcal{pl:Sem Bool}(O:CalM X.prog X.w X.K X.mg X.base CX0 k C m ps sp)(c:Cls X.K C)(hr:Room k X.A)(he:PE X o ta)(ha:PA X (e::es) t)
 (hst:starEach (e::es) X.env=(false,eval e X.env)::starEach es X.env:=by rfl)(hpl:(backTo pos (starEach es X.env)).any (·.1)=false:=by rfl)
 (ht:eval (.Call (.Attribute o m apos) (e::es) [] pos) X.env=(do
  let ov ←eval o X.env
  standAt apos.atName
  let (f,first) ←holding [ov] (getMethod ov m pl)
  callWith pos f first (backTo pos (starEach (e::es) X.env)) (backToKw pos (keywordEach [] X.env))):=by rfl):
 PE X (.Call (.Attribute o m apos) (e::es) [] pos) (tMeth C m sp [] E0 ta t):=by
 obtain⟨f,fd,F,hb,M⟩:=O.ex
 exact pe_meth (pl:=pl) he c M F hr hb .nil pass0 ha hst hpl ht
theorem pe_mcal0{pl:Sem Bool}(O:CalM X.prog X.w X.K X.mg X.base CX0 k C m ps sp)(c:Cls X.K C)(hr:Room k X.A)(he:PE X o ta)
 (ht:eval (.Call (.Attribute o m apos) [] [] pos) X.env=(do
  let ov ←eval o X.env
  standAt apos.atName
  let (f,first) ←holding [ov] (getMethod ov m pl)
  callWith pos f first (backTo pos (starEach [] X.env)) (backToKw pos (keywordEach [] X.env))):=by rfl):
 PE X (.Call (.Attribute o m apos) [] [] pos) (tMeth C m sp [] E0 ta tNil):=by
 obtain⟨f,fd,F,hb,M⟩:=O.ex
 exact pe_meth0 (pl:=pl) he c M F hr hb .nil pass0 ht
theorem pe_mk(O:CalI X.prog X.w X.K X.mg X.base CX0 k x C ps sp)(hr:Room (k+1) X.A)(hg:Gl X x)(ha:PA X (e::es) t)
 (hdb:(x==("__debug__":Str))=false:=by decide)(he:starEach (e::es) X.env=(false,eval e X.env)::starEach es X.env:=by rfl)(hpl:(backTo pos (starEach es X.env)).any (·.1)=false:=by rfl):
 PE X (.Call (.Name x p) (e::es) [] pos) (tMake C sp [] E0 t):=by
 obtain⟨f,fd,F,hb,M,hm⟩:=O.ex
 exact pe_make M F hr hg hm hb .nil pass0 ha hdb he hpl
end
end L2
set_option Elab.async false
set_option linter.all false
set_option maxRecDepth 100000
set_option maxHeartbeats 4000000
namespace L2
open PySem PySem.Spec PyProof.Rows
theorem intT_len{i:Int}(h:i.natAbs.log2<1920):(intT i).length≤1921:=by
 have e:=int_text_length_le (k:=1920) (by decide) h
 unfold intT
 rw[PySem.ofString_length];omega
theorem fits{s:Str}{n:Nat}(h:s.length≤n)(hn:n≤100000):s.length≤sizeLine:=Nat.le_trans h (Nat.le_trans hn (by decide))
theorem rd_join{t:TJ}{σ:St}{H:Hp}{Q:VK}(h:t Str.empty σ H Q):tJoin t σ H Q:=h
theorem rd_jnil{out:Str}{σ:St}{H:Hp}{Q:VK}(h:out.length≤sizeLine)(q:Q (.str out) H):jNil out σ H Q:=⟨h,q⟩
theorem rd_jc{x:Str}{t:TJ}{out:Str}{σ:St}{H:Hp}{Q:VK}(n:Nat)(hn:out.length≤n)(hz:n+x.length≤100000)(h:(out++x).length≤n+x.length→t (out++x) σ H Q):jCons (tC (.str x)) t out σ H Q:=by
 have e:(out++x).length≤n+x.length:=by rw[strLen_append];omega
 exact⟨x,rfl,fits e hz,h e⟩
theorem rd_ji{K:PySem.W.Frag}{j:Nat}{i:Int}{t:TJ}{out:Str}{σ:St}{H:Hp}{Q:VK}(n:Nat)(hn:out.length≤n)(hz:n+1921≤100000)(hv:σ[j]?=some (some (.int i)))(hi:i.natAbs.log2<1920)(h:(out++intT i).length≤n+1921→t (out++intT i) σ H Q):
 jCons (tFmt K (tVar j)) t out σ H Q:=by
 have e:(out++intT i).length≤n+1921:=by have:=intT_len hi;rw[strLen_append];omega
 exact⟨.int i,hv,intT i,.int hi,intT i,rfl,fits e hz,h e⟩
end L2
set_option Elab.async false
set_option linter.all false
set_option maxRecDepth 100000
set_option maxHeartbeats 4000000
namespace L2
open PySem PySem.Spec PyProof.Rows
section
variable{X:Cx}
theorem rd_eqT{K:PySem.W.Frag}{a b:Addr}{xs ys:List V}{H:Hp}{Q:VK}(ha:SqT K H a xs)(hb:SqT K H b ys)(fx:xs.all flatV=true)(fy:ys.all flatV=true)(q:Q (.bl (eqVs xs ys)) H):rEqT K (.ref a) (.ref b) H Q:=⟨a,b,xs,ys,rfl,rfl,ha,hb,fx,fy,q⟩
theorem rd_par{i j:Nat}{ta:TA}{D:Ends}{σ:St}{H:Hp}(h:ta σ H fun vs H1=>∃v w,vs=[v,w]∧D.nx ((σ.set i (some v)).set j (some w)) H1):tPar i j ta D σ H:=h
theorem rd_ifE{t:TT}{ta tb:TE}{σ:St}{H:Hp}{Q:VK}(h:t σ H fun c H1=>if c=true then ta σ H1 Q else tb σ H1 Q):tIf t ta tb σ H Q:=h
def rEqL(K:PySem.W.Frag):R2:=fun x y H Q=>∃(a b:Addr) (ns ms:List Int),x=.ref a∧y=.ref b∧SqL K H a (ns.map V.int)∧SqL K H b (ms.map V.int)∧Q (.bl (decide (ns=ms))) H
theorem op_eqL(hu:X.A.units+64<cLine):OpR X (compareOp .Eq) (rEqL X.K):=by
 intro pins s σ H x y v u Q I rx ry h
 obtain⟨a,b,ns,ms,rfl,rfl,ha,hb,q⟩:=h
 cases rx
 cases ry
 obtain⟨its,r,pl,_⟩:=I.list ha
 obtain⟨its',r',pl',_⟩:=I.list hb
 exact PySem.W.ke_eq_ints pl.isList pl'.isList (intsAre_of r) (intsAre_of r') hu ⟨.bl _,H,I,rfl,q⟩
theorem rd_eqL{K:PySem.W.Frag}{a b:Addr}{ns ms:List Int}{H:Hp}{Q:VK}(ha:SqL K H a (ns.map V.int))(hb:SqL K H b (ms.map V.int))(q:Q (.bl (decide (ns=ms))) H):rEqL K (.ref a) (.ref b) H Q:=⟨a,b,ns,ms,rfl,rfl,ha,hb,q⟩
def rSum(K:PySem.W.Frag):List V→Hp→VK→Prop:=fun xs H Q=>∃(p:Addr) (ns:List Int),xs=[.ref p]∧SqL K H p (ns.map V.int)∧Q (.int ns.sum) H
theorem call_sum(hc:X.calm=true):CallR X (.builtin "sum") (rSum X.K):=by
 intro pins s σ H xs us Q I r h
 obtain⟨p,ns,rfl,hq,q⟩:=h
 obtain⟨u,rfl,ru⟩:=vals1 r
 cases (show u=Value.ref p from ru)
 obtain⟨its,rv,pl,_⟩:=I.list hq
 have hi:=intsAre_of rv
 obtain⟨xs,hx⟩:=hi.allInts.items
 have hl':s.heap.IsList p (intItems xs):=hx ▸ pl.isList
 refine sum_intListG (I.ok.hd hc) hl' fun h' tk t' hk=>?_
 have e1:ns=xs.toList.map (·.1):=by
  rw[←nums_intItems,←hx]
  exact(show numsOf its.toArray.toList=ns from hi.numsOf).symm
 have e2:preSum (numAt xs) xs.size=ns.sum:=by
  rw[preSum_eq,List.take_of_length_le (by simp),e1]
 rw[e2]
 exact⟨.int ns.sum,H,I.kept hk,⟨_,rfl⟩,q⟩
def rMinL(K:PySem.W.Frag):List V→Hp→VK→Prop:=fun xs H Q=>∃(p:Addr) (ns:List Int),xs=[.ref p]∧SqL K H p (ns.map V.int)∧ns≠[]∧∀m,m∈ns→(∀a∈ns,m≤a)→Q (.int m) H
def rMaxL(K:PySem.W.Frag):List V→Hp→VK→Prop:=fun xs H Q=>∃(p:Addr) (ns:List Int),xs=[.ref p]∧SqL K H p (ns.map V.int)∧ns≠[]∧∀m,m∈ns→(∀a∈ns,a≤m)→Q (.int m) H
theorem call_minL(hc:X.calm=true):CallR X (.builtin "min") (rMinL X.K):=by
 intro pins s σ H xs us Q I r h
 obtain⟨p,ns,rfl,hq,hne,q⟩:=h
 obtain⟨u,rfl,ru⟩:=vals1 r
 cases (show u=Value.ref p from ru)
 obtain⟨its,rv,pl,_⟩:=I.list hq
 have hi:=intsAre_of rv
 obtain⟨xs,e⟩:=hi.allInts.items
 have hns:ns=xs.toList.map (·.1):=by
  rw[←nums_intItems,←e]
  exact(show numsOf its.toArray.toList=ns from hi.numsOf).symm
 have hsz:0<xs.size:=by
  have h3:=List.length_pos_iff.mpr hne;rw[hns,List.length_map,Array.length_toList] at h3;exact h3
 have hl':s.heap.IsList p (intItems xs):=e ▸ pl.isList
 refine min_intList (I.ok.hd hc) hl' hsz fun v h' tk hv hk=>?_
 obtain⟨t,rfl⟩:=intItems_at hv
 obtain⟨h1,h2⟩:=argBest_lt (numAt xs) (xs.size-1)
 refine⟨.int _,H,I.kept hk,⟨_,rfl⟩,q _ ?_ fun a ha=>?_⟩
 ·rw[hns,numAt_eq];exact getD_mem (by rw[List.length_map,Array.length_toList];omega)
 ·rw[hns] at ha
  obtain⟨j,hj,rfl⟩:=mem_getD ha
  rw[List.length_map,Array.length_toList] at hj
  rw[←numAt_eq];exact h2 j (by omega)
theorem call_maxL(hc:X.calm=true):CallR X (.builtin "max") (rMaxL X.K):=by
 intro pins s σ H xs us Q I r h
 obtain⟨p,ns,rfl,hq,hne,q⟩:=h
 obtain⟨u,rfl,ru⟩:=vals1 r
 cases (show u=Value.ref p from ru)
 obtain⟨its,rv,pl,_⟩:=I.list hq
 have hi:=intsAre_of rv
 obtain⟨xs,e⟩:=hi.allInts.items
 have hns:ns=xs.toList.map (·.1):=by
  rw[←nums_intItems,←e]
  exact(show numsOf its.toArray.toList=ns from hi.numsOf).symm
 have hsz:0<xs.size:=by
  have h3:=List.length_pos_iff.mpr hne;rw[hns,List.length_map,Array.length_toList] at h3;exact h3
 have hl':s.heap.IsList p (intItems xs):=e ▸ pl.isList
 refine max_intList (I.ok.hd hc) hl' hsz fun v h' tk hv hk=>?_
 obtain⟨t,rfl⟩:=intItems_at hv
 obtain⟨h1,h2⟩:=argBest_gt (numAt xs) (xs.size-1)
 refine⟨.int _,H,I.kept hk,⟨_,rfl⟩,q _ ?_ fun a ha=>?_⟩
 ·rw[hns,numAt_eq];exact getD_mem (by rw[List.length_map,Array.length_toList];omega)
 ·rw[hns] at ha
  obtain⟨j,hj,rfl⟩:=mem_getD ha
  rw[List.length_map,Array.length_toList] at hj
  rw[←numAt_eq];exact h2 j (by omega)
end
section
variable{X:Cx}{M:List Str}{x:Str}{scope:Scope}{cl:List (Str×Addr)}{C:Addr}{s₀:Shared}{H₀:Hp}{fp:List Addr}
theorem ix_list_c:IxR (compCx X M x scope cl C s₀ H₀ fp) (rIxL X.K):=ix_list
theorem ix_tup_c:IxR (compCx X M x scope cl C s₀ H₀ fp) (rIxT X.K):=ix_tup
end
section
variable{X:Cx}{tg:Expr}
end
end L2
set_option Elab.async false
set_option linter.all false
set_option maxRecDepth 100000
set_option maxHeartbeats 4000000
namespace L2
open PySem PySem.Spec PyProof.Rows
section
variable{X:Cx}
def rBits:V→List V→Hp→VK→Prop:=fun x vs H Q=>∃n:Int,x=.int n∧vs=[]∧Q (.int ((Builtin.Int.intBits n:Nat):Int)) H
theorem mt_bits:MtR X "int.bit_length" rBits:=by
 intro pins s σ H x vs v us Q I rx rv h
 obtain⟨n,rfl,rfl,q⟩:=h
 obtain⟨t,rfl⟩:=rx
 cases rv.zero
 exact call_int_bit_length ⟨.int _,H,I.tok _,⟨_,rfl⟩,q⟩
end
theorem rd_bitsV{K:PySem.W.Frag}{n:Int}{H:Hp}{Q:VK}(h:Q (.int ((Builtin.Int.intBits n:Nat):Int)) H):tyV K "int" (.int n) H∧rBits (.int n) [] H Q:=⟨rfl,n,rfl,rfl,h⟩
theorem rd_bm0{K:PySem.W.Frag}{T:String}{r:V→List V→Hp→VK→Prop}{to:TE}{σ:St}{H:Hp}{Q:VK}(h:to σ H fun x H1=>tyV K T x H1∧r x [] H1 Q):tBM0 K T r to σ H Q:=h
theorem rd_bm{K:PySem.W.Frag}{T:String}{r:V→List V→Hp→VK→Prop}{to:TE}{t:TA}{σ:St}{H:Hp}{Q:VK}(h:to σ H fun x H1=>tyV K T x H1∧t σ H1 fun xs H2=>r x xs H2 Q):tBM K T r to t σ H Q:=h
theorem rd_ext{K:PySem.W.Frag}{i:Nat}{t:TA}{σ:St}{H:Hp}{Q:VK}{l:Addr}{xs:List V}(e:σ[i]?=some (some (.ref l)))(h:H l=some (.lst xs))
 (g:t σ H fun ys H2=>rExtend (.ref l) ys H2 Q):tBM K "list" rExtend (tVar i) t σ H Q:=⟨_,e,.inl ⟨rfl,_,SqL.of h⟩,g⟩
theorem intBits_nat{b:Nat}(h:b≠0):Builtin.Int.intBits (b:Int)=b.log2+1:=by
 unfold Builtin.Int.intBits
 rw[if_neg (by simp;omega),Int.natAbs_natCast]
theorem rd_gsub{to ti:TE}{t:TSet}{v:V}{σ:St}{H:Hp}{Q:St→Hp→Prop}(h:to σ H fun o H1=>ti σ H1 fun i H2=>t o i v H2 fun H3=>Q σ H3):gSub to ti t v σ H Q:=h
theorem ixN_nat{m k:Nat}(h:k<m):ixN m (k:Int)=some k:=by
 unfold ixN
 rw[if_pos (by omega),if_pos (by omega),Int.toNat_natCast]
theorem rd_setL{p:Addr}{xs:List V}{k:Nat}{v:V}{H:Hp}{Q:Hp→Prop}(h:H p=some (.lst xs))(hk:k<xs.length)(q:Q (upd H p (.lst (xs.set k v)))):rSetL (.ref p) (.int (k:Int)) v H Q:=
 ⟨p,xs,k,k,rfl,rfl,h,ixN_nat hk,q⟩
theorem rd_rep{l:Addr}{k:Int}{xs:List V}{H:Hp}{Q:VK}(h:H l=some (.lst xs))(h0:0≤k)(h1:k<2^60)(hz:xs.length*k.toNat≤sizeLine)(q:∀p,H p=none→Q (.ref p) (upd H p (.lst (List.replicate k.toNat xs).flatten))):rRep (.ref l) (.int k) H Q:=
 ⟨l,k,xs,rfl,rfl,h,by omega,by omega,hz,q⟩
theorem rd_cat{l b:Addr}{xs zs:List V}{H:Hp}{Q:VK}(h:H l=some (.lst xs))(g:H b=some (.lst zs))(hz:xs.length+zs.length≤sizeLine)(q:∀p,H p=none→Q (.ref p) (upd H p (.lst (xs++zs)))):rCat (.ref l) (.ref b) H Q:=
 ⟨l,b,xs,zs,rfl,rfl,h,g,hz,q⟩
theorem for_rangeS{lo c:Int}{n:Nat}{g:TG}{tb:TS}{D:Ends}{σ:St}{H:Hp}(Pv:Nat→St→Hp→Prop)(h0:Pv 0 σ H)
 (hs:∀i σ H,i<n→Pv i σ H→g (.int (lo+i*c)) σ H fun σ2 H2=>tb { D with nx:=Pv (i+1),ct:=Pv (i+1),bk:=D.nx } σ2 H2)(hd:∀σ H,Pv n σ H→D.nx σ H):
 ∃W:Nat→Nat→St→Hp→Prop,(∃m,W 0 m σ H)∧∀i m σ H,W i m σ H→
  ((ItrS lo c n).stop i H∧D.nx σ H)∨((ItrS lo c n).go i H∧∃N:St→Hp→Prop,(∀σ' H',N σ' H'→∃m',m'<m∧W (i+1) m' σ' H')∧∀x H',(ItrS lo c n).yld i H x H'→g x σ H' fun σ2 H2=>tb { D with nx:=N,ct:=N,bk:=D.nx } σ2 H2):=by
 refine⟨fun i m σ H=>m=n-i∧i≤n∧Pv i σ H,⟨n,by simp,Nat.zero_le _,h0⟩,?_⟩
 rintro i m σ H ⟨rfl,hi,p⟩
 by_cases hlt:i<n
 ·refine .inr ⟨hlt,Pv (i+1),fun σ' H' p'=>⟨n-(i+1),by omega,rfl,hlt,p'⟩,fun x H' y=>?_⟩
  obtain⟨e,y⟩:=y
  subst e y
  exact hs i σ _ hlt p
 ·have e:i=n:=by omega
  subst e
  exact .inl ⟨Nat.le_refl _,hd σ H p⟩
theorem rangeSize_up{i j c:Int}(c0:0<c):Builtin.Range.rangeSize i j c=if i<j then (j-i-1)/c+1 else 0:=by
 unfold Builtin.Range.rangeSize
 rw[if_pos c0]
def tTruI(ta:TE):TT:=fun σ H Q=>ta σ H fun x H'=>∃i:Int,x=.int i∧Q (i != 0) H'
theorem rd_tru{ta:TE}{σ:St}{H:Hp}{Q:Bool→Hp→Prop}(h:ta σ H fun x H'=>∃i:Int,x=.int i∧Q (i != 0) H'):tTruI ta σ H Q:=h
theorem pt_tru{X:Cx}{a:Expr}{ta:TE}(ha:PE X a ta)(he:∀whole,isTrue a X.env whole=(do let v ←whole;standAt a.pos;holding [v] (truthy v))):PT X a (tTruI ta):=by
 intro pins s σ H Q I h
 refine isTrue_plain (thn (ha pins s σ H _ I h) fun v s1 ⟨x,H1,I1,r1,q1⟩=>?_) (he _)
 obtain⟨i,rfl,q⟩:=q1
 exact tru_ok pins s1 σ H1 _ v Q I1 r1 ⟨_,rfl,q⟩
section
variable{X:Cx}{M:List Str}{x:Str}{scope:Scope}{cl:List (Str×Addr)}{C:Addr}{s₀:Shared}{H₀:Hp}{fp:List Addr}
theorem call_len_c:CallR (compCx X M x scope cl C s₀ H₀ fp) (.builtin "len") (fun xs H Q=>∃p ys,xs=[.ref p]∧(SqL X.K H p ys∨SqT X.K H p ys)∧Q (.int ys.length) H):=call_len_seq
end
theorem at_map{xs:List Int}{k:Nat}{x:Int}(h:xs[k]?=some x):(xs.map V.int)[k]?=some (V.int x):=by rw[List.getElem?_map,h];rfl
end L2
set_option Elab.async false
set_option linter.all false
set_option maxRecDepth 100000
set_option maxHeartbeats 4000000
namespace L2
open PySem PySem.Spec PyProof.Rows
theorem rd_slice{r:V→Option Int→Option Int→Hp→VK→Prop}{te:TE}{tl th:TO}{σ:St}{H:Hp}{Q:VK}(h:te σ H fun x H1=>tl σ H1 fun l H2=>th σ H2 fun u H3=>r x l u H3 Q):tSl r te tl th σ H Q:=h
theorem rd_slL{K:PySem.W.Frag}{a:Addr}{xs:List V}{lo hi:Option Int}{H:Hp}{Q:VK}(h:SqL K H a xs)(q:∀p,H p=none→Q (.ref p) (upd H p (.lst (cutV xs lo hi)))):rSlL K (.ref a) lo hi H Q:=⟨a,xs,rfl,h,q⟩
theorem cutV_from(xs:List Int)(k:Nat):cutV (xs.map V.int) (some (k:Int)) none=(xs.drop k).map V.int:=by
 unfold cutV
 rw[HT.sIx_nat,HT.sIx_none,List.length_map,List.map_drop]
 by_cases h:k≤xs.length
 ·rw[Nat.min_eq_left h,List.take_of_length_le (by rw[List.length_drop,List.length_map];omega)]
 ·rw[Nat.min_eq_right (by omega),List.drop_of_length_le (by rw[List.length_map];omega),List.drop_of_length_le (by rw[List.length_map];omega),List.take_nil]
theorem rd_part{t:TE}{σ:St}{H:Hp}{Q:Option Int→Hp→Prop}(h:t σ H fun x H1=>∃i,x=.int i∧Q (some i) H1):tPart t σ H Q:=h
theorem rd_exI{i:Int}{P:Int→Prop}(h:P i):∃j,V.int i=.int j∧P j:=⟨i,rfl,h⟩
theorem rd_noPart{σ:St}{H:Hp}{Q:Option Int→Hp→Prop}(h:Q none H):tNoPart σ H Q:=h
end L2
set_option Elab.async false
set_option linter.all false
set_option maxRecDepth 100000
set_option maxHeartbeats 4000000
namespace L2
open PySem PySem.Spec PyProof.Rows
section
variable{X:Cx}
def tLR(ta:TA):TE:=fun σ H Q=>ta σ H fun vs H1=>∃(i j c:Int) (n:Nat),(vs=[.int i,.int j,.int c]∨(vs=[.int i,.int j]∧c=1))∧0<c∧c<1073741824∧Builtin.Range.small i j c=true∧Builtin.Range.rangeSize i j c=(n:Int)∧n≤1000000∧
 ∀l,H1 l=none→Q (.ref l) (upd H1 l (.lst ((List.range n).map fun(k:Nat)=>V.int (i+(k:Int)*c))))
theorem vals_of_itemsS{lo c:Int}:∀(acc:List Value) (k:Nat),(∀(j:Nat) (v:Value),acc[j]?=some v→∃t,v=.int (lo+((k+j:Nat):Int)*c) t)→Vals ((List.range' k acc.length).map fun(i:Nat)=>V.int (lo+(i:Int)*c)) acc
 | [],k,_=>.nil
 | v::acc,k,h=>by
  rw[List.length_cons,List.range'_succ,List.map_cons]
  refine .cons ?_ (vals_of_itemsS acc (k+1) fun j u hu=>?_)
  ·obtain⟨t,ht⟩:=h 0 v (by simp)
   exact⟨t,by rw[ht];simp⟩
  ·obtain⟨t,ht⟩:=h (j+1) u (by simpa using hu)
   exact⟨t,by rw[ht,show k+(j+1)=k+1+j by omega]⟩
theorem list_of_range{pins:List (Addr×Obj)}{σ:St}{H:Hp}{s:Shared}{r:Addr}{i j c:Int}{t u v:Tok}{n:Nat}{Q:VK}(hc:X.calm=true)(I:Inv X pins σ H s)(hr:IsRange s.heap r i j c t u v)(sm:Builtin.Range.small i j c=true)(hn:Builtin.Range.rangeSize i j c=(n:Int))(hz:n≤1000000)
 (q:∀l,H l=none→Q (.ref l) (upd H l (.lst ((List.range n).map fun(k:Nat)=>V.int (i+(k:Int)*c))))):wpAny (model X.prog X.w) X.A (call (.type "list") [.ref r]) (EP X pins σ Q) X.xe s:=by
 refine call_list_range (I.ok.hd hc) hr sm hn (by omega) fun h' tk acc' c' hk hS' hacc=>?_
 have ha:acc'.toList.length=n:=by simpa using hacc.1
 refine⟨.ref _,_,I.laid (a:=s.heap.objs.size) (o:=.lst ((List.range n).map fun(k:Nat)=>V.int (i+(k:Int)*c))) hk (Nat.le_refl _) ⟨?_,acc'.toList,c',?_,by simpa using hS'⟩,rfl,q _ I.fresh⟩
 ·rw[List.length_map,List.length_range,sizeLine_eq]
  omega
 ·have:=vals_of_itemsS (lo:=i) (c:=c) acc'.toList 0 fun j v hv=>by rw[Nat.zero_add];exact hacc.2 j v (by simpa using hv)
  rw[ha,←List.range_eq_range'] at this
  exact this
theorem pe_lrange3{a b d:Expr}{ta:TA}{p p2 pos pos2:Pos}(hc:X.calm=true)(hgl:Gl X "list")(hml:X.mg "list"=none)(hgr:Gl X "range")(hmr:X.mg "range"=none)(ha:PA X [a,b,d] ta)
 (hs:starEach [a,b,d] X.env=(false,eval a X.env)::starEach [b,d] X.env:=by rfl)(hpl:(backTo pos2 (starEach [b,d] X.env)).any (·.1)=false:=by rfl)
 (hs1:starEach [.Call (.Name "range" p2) [a,b,d] [] pos2] X.env=(false,eval (.Call (.Name "range" p2) [a,b,d] [] pos2) X.env)::starEach [] X.env:=by rfl):
 PE X (.Call (.Name "list" p) [.Call (.Name "range" p2) [a,b,d] [] pos2] [] pos) (tLR ta):=by
 intro pins s σ H Q I h
 refine wpAny_Call_Name_kw (ld_blt I hgl hml boot_list ?_ (by decide) (by decide))
 refine PyProof.Rows.callWith_type1 ?_ hs1 rfl
 rw[hs1]
 show wpAny _ _ (spliced ((false,eval _ X.env)::backTo pos (starEach [] X.env))) _ _ s
 refine Calls.spliced_cons ?_
 refine Call_ (ld_blt I hgr hmr boot_range (PyProof.Rows.callWith_type1 (thn (ha pos2 pins s σ H _ I h) fun us s1 ⟨vs,H1,I1,r1,q1⟩=>?_) hs hpl))
 obtain⟨i,j,c,n,e,c0,c1,sm,hn,hz,q⟩:=q1
 rcases e with e | ⟨e,rfl⟩
 ·subst e
  cases r1 with
  | cons r rr=>
   cases rr with
   | cons r' rr=>
    cases rr with
    | cons r'' rr=>
     cases rr
     obtain⟨t,rfl⟩:=r
     obtain⟨t',rfl⟩:=r'
     obtain⟨t'',rfl⟩:=r''
     refine PySem.call_range_3 (by omega) ?_ (Or.inl (PyProof.noPylong_small (by omega)))
     refine Calls.spliced_nil ?_
     have I2:Inv X pins σ H1 { s1 with heap:=s1.heap.push { cls:=.type "range",data:=.fields #[.int i t,.int j t',.int c t''] },toks:=s1.toks }:=I1.kept fun b o e=>Heap.get?_push_of_some _ e
     exact list_of_range hc I2 (IsRange.new ..) sm hn hz q
 ·subst e
  cases r1 with
  | cons r rr=>
   cases rr with
   | cons r' rr=>
    cases rr
    obtain⟨t,rfl⟩:=r
    obtain⟨t',rfl⟩:=r'
    refine call_range_2 ?_
    refine Calls.spliced_nil ?_
    have I2:Inv X pins σ H1 { s1 with heap:=s1.heap.push { cls:=.type "range",data:=.fields #[.int i t,.int j t',.int 1 s1.toks] },toks:=s1.toks+1 }:=I1.kept fun b o e=>Heap.get?_push_of_some _ e
    exact list_of_range hc I2 (IsRange.new ..) sm hn hz q
end
theorem rd_lr{ta:TA}{σ:St}{H:Hp}{Q:VK}(h:ta σ H fun vs H1=>∃(i j c:Int) (n:Nat),(vs=[.int i,.int j,.int c]∨(vs=[.int i,.int j]∧c=1))∧0<c∧c<1073741824∧Builtin.Range.small i j c=true∧Builtin.Range.rangeSize i j c=(n:Int)∧n≤1000000∧
 ∀l,H1 l=none→Q (.ref l) (upd H1 l (.lst ((List.range n).map fun(k:Nat)=>V.int (i+(k:Int)*c))))):tLR ta σ H Q:=h
end L2
set_option Elab.async false
set_option linter.all false
set_option maxRecDepth 100000
set_option maxHeartbeats 4000000
namespace L2
open PySem PySem.Spec PyProof.Rows
theorem comp_inv{J:It}{ok:Hp→Prop}{xs:List V}{σ:St}{H:Hp}{Q:VK}{tt:TT}{te:TE}(Wk:Walk J ok xs)(hz:xs.length<sizeLine)(Pv:Addr→Nat→List V→Hp→Prop)
 (h0:∀D,H D=none→Pv D 0 [] (upd H D (.lst [])))
 (hD:∀D i ys H2,H D=none→Pv D i ys H2→H2 D=some (.lst ys)∧ys.length≤i∧ok H2)
 (hs:∀D i x ys H2,H D=none→xs[i]?=some x→Pv D i ys H2→tt (some x::σ) H2 fun b H4=>if b=true then te (some x::σ) H4 fun y H5=>H5 D=some (.lst ys)∧Pv D (i+1) (ys++[y]) (upd H5 D (.lst (ys++[y]))) else Pv D (i+1) ys H4)
 (h:∀D ys H2,H D=none→Pv D xs.length ys H2→Q (.ref D) H2):CompR tt te σ Q J H:=by
 intro D hD0
 refine⟨fun i m ys H2=>i≤xs.length∧m=xs.length-i∧Pv D i ys H2,⟨_,Nat.zero_le _,rfl,h0 D hD0⟩,?_⟩
 rintro i m ys H2 ⟨hi,rfl,p⟩
 obtain⟨d1,d2,d3⟩:=hD D i ys H2 hD0 p
 refine⟨d1,?_⟩
 by_cases hlt:i<xs.length
 ·refine .inr ⟨Wk.go i _ d3 hlt,by omega,xs.length-(i+1),by omega,fun x H3 hy=>?_⟩
  obtain⟨e3,ex⟩:=Wk.yld i _ x H3 d3 hy hlt
  subst e3
  have:=hs D i x ys H3 hD0 ex p
  refine cast ?_ this
  congr 1
  funext b H4
  cases b with
  | false=>simp only[Bool.false_eq_true,if_false];exact propext ⟨fun z=>⟨hlt,trivial,z⟩,fun z=>z.2.2⟩
  | true=>
   simp only[if_true]
   congr 1
   funext y H5
   exact propext ⟨fun z=>⟨z.1,hlt,trivial,z.2⟩,fun z=>⟨z.1,z.2.2.2⟩⟩
 ·have e:i=xs.length:=by omega
  subst e
  exact .inl ⟨Wk.stop _ _ d3 (Nat.le_refl _),h D ys H2 hD0 p⟩
end L2
set_option Elab.async false
set_option linter.all false
set_option maxRecDepth 100000
set_option maxHeartbeats 4000000
namespace L2
open PySem PySem.Spec PyProof.Rows
def compCxT(X:Cx)(M:List Str)(xs:List Str)(scope:Scope)(cl:List (Str×Addr))(C:Addr)(s₀:Shared)(H₀:Hp)(fp:List Addr):Cx:=
 { X with N:=xs++M,s₀:=s₀,H₀:=H₀,env:=compEnvC scope cl C X.env,outer:=X.stack,ex:=fp,fn:=fun _=>false,pn:=[],xe:=fun _ _=>False }
structure CompOkT(X:Cx)(M:List Str)(xs:List Str)(scope:Scope)(cl:List (Str×Addr)):Prop where
 clos:closureFor scope X.env=pure cl
 cell:∀y∈scope.names,y.2≠.cell
 kind:scope.kind=.function
 names:∀y∈scope.names,y.2=.local→scope.names.lookup y.1=some .local
 xl:∀x∈xs,scope.names.lookup x=some .local
 nd:(xs++M).Nodup
 len:M.length=X.N.length
 sub:∀y c,cl.lookup y=some c→X.env.cells.lookup y=some c
 has:∀y,((relabel scope X.env).names.lookup y=some .cell∨(relabel scope X.env).names.lookup y=some .free)→∃c,cl.lookup y=some c
 vis:∀(i:Nat) (y:Str),M[i]?=some y→Vis (relabel scope X.env) y→X.N[i]?=some y∧((relabel scope X.env).names.lookup y=some .cell∨(relabel scope X.env).names.lookup y=some .free)∧(X.env.scope.names.lookup y=some .cell∨X.env.scope.names.lookup y=some .free)
section
variable{X:Cx}
theorem comp_okT{M:List Str}{pins:List (Addr×Obj)}{σ:St}{H:Hp}{s:Shared}{xs:List Str}{scope:Scope}{cl:List (Str×Addr)}{C:Addr}{fp:List Addr}(I:Inv X pins σ H s)(ok:CompOkT X M xs scope cl)(hC:s.heap.objs.size≤C)
 (hf:∀b∈fp,FpOk X pins H b)(hb:∀b∈fp,b<s.heap.objs.size):(compCxT X M xs scope cl C s H fp).Ok where
 mod:=I.ok.mod
 kind:=ok.kind
 glob:=I.ok.glob
 blt:=I.ok.blt
 above:=hC
 inj:=fun y z c h1 h2=>I.ok.inj y z c (ok.sub y c h1) (ok.sub z c h2)
 has:=ok.has
 cab:=fun y c h=>by cases h
 hd:=I.ok.hd
 frames:=I.ok.frames
 stk:=.inl rfl
 exf:=fun b h=>⟨Nat.ne_of_lt (Nat.lt_of_lt_of_le (hb b h) hC),fun y c e=>(hf b h).2.2.2.2.1 y c (ok.sub y c e)⟩
 bs:=I.bs
 bsz:=Nat.le_trans I.ok.bsz I.sz
 noex:=fun b o e h=>by
  rcases(hf b h).2.2.2.1 with z | z
  ·exact I.ok.noex b o e z
  ·exact absurd (Nat.lt_of_lt_of_le (Heap.lt_size (I.ok.bs b o e).1) z) (Nat.lt_irrefl _)
 exfs:=fun b h z=>by
  rcases List.mem_cons.mp (I.stkSub b z) with e | e
  ·exact(hf b h).2.1 e
  ·exact(hf b h).2.2.1 e
 funs:=I.stack
 frf:=I.stkFree
def CompRT(k:Nat)(g:TG)(tt:TT)(te:TE)(σ:St)(Q:VK):It→Hp→Prop:=fun J H1=>∀D,H1 D=none→∃W:Nat→Nat→List V→Hp→Prop,(∃m,W 0 m [] (upd H1 D (.lst [])))∧
 ∀i m ys H2,W i m ys H2→H2 D=some (.lst ys)∧((J.stop i H2∧Q (.ref D) H2)∨(J.go i H2∧ys.length<sizeLine∧∃m',m'<m∧∀x H3,J.yld i H2 x H3→∀ρ:St,ρ.length=k→
  g x (ρ++σ) H3 fun σ2 H4=>∃ρ2:St,ρ2.length=k∧σ2=ρ2++σ∧tt σ2 H4 fun b H5=>if b=true then te σ2 H5 fun y H6=>H6 D=some (.lst ys)∧W (i+1) m' (ys++[y]) (upd H6 D (.lst (ys++[y]))) else W (i+1) m' ys H5))
def tCompT(k:Nat)(wi:TI)(g:TG)(tt:TT)(te:TE):TE:=fun σ H Q=>wi σ H (CompRT k g tt te σ Q)
section
variable{prog:Program}{w:World}{A:Around}{R:Result→Shared→Prop}
abbrev NB(prog:Program)(w:World)(A:Around)(env:Env)(R:Result→Shared→Prop):Value→Shared→Prop:=notedBy (model prog w) A env fun e s'=>R (.error e) s'
theorem comp_turns{s:Shared}{elt tg iter:Expr}{ifs:List Expr}{scope:Scope}{pos:Pos}{it acc:Value}{env:Env}(I:Nat→Shared→Prop)
 (turn:∀n s,I n s→wpAny (model prog w) A (pyNext it)
  (fun r s1=>match r with
   | none=>R (.ok .next) s1
   | some v=>wpAny (model prog w) A (letOwnedTupleGo tg it v)
    (fun _ s2=>wpAny (model prog w) A (assign tg env v)
     (fun _ s3=>wpAny (model prog w) A (forIn ifs true fun c r=>if r=true then (isTrue c env (eval c env) >>= fun ok=>pure (ForInStep.yield ok)) else pure (ForInStep.yield r))
      (fun b s4=>if b=true then wpAny (model prog w) A (eval elt env)
       (fun x s5=>wpAny (model prog w) A (call (.builtin "list.append") [acc,x]) (fun _ s6=>∃m,m<n∧I m s6) (NB prog w A env R) s5) (NB prog w A env R) s4
       else ∃m,m<n∧I m s4) (NB prog w A env R) s3) (NB prog w A env R) s2) (NB prog w A env R) s1) (NB prog w A env R) s)
 (n:Nat)(h:I n s):codeAny (model prog w) A (.compLoop (.ListComp elt [⟨tg,iter,ifs,0⟩] scope pos) 0 it acc env) R s:=by
 refine codeAny_loop rfl I (fun n s hI=>?_) n h
 refine(show wpAny _ A ((compTurn (.ListComp elt [⟨tg,iter,ifs,0⟩] scope pos) 0 it acc env).onRaise _) _ _ s from wpAny_noted ?_)
 rw[compTurn_list]
 refine wpAny_bind (wpAny_standAt (wpAny_bind (wpAny_mono (turn n s hI) (fun r s1 h1=>?_) fun _ _ z=>z)))
 cases r with
 | none=>exact wpAny_pure h1
 | some v=>
  refine wpAny_bind (wpAny_mono h1 (fun _ s2 h2=>?_) fun _ _ z=>z)
  refine wpAny_bind (wpAny_mono h2 (fun _ s3 h3=>wpAny_bind (wpAny_mono h3 (fun b s4 h4=>?_) fun _ _ z=>z)) fun _ _ z=>z)
  cases b with
  | false=>exact wpAny_pure ⟨rfl,h4⟩
  | true=>
   refine wpAny_bind (wpAny_bind (wpAny_mono h4 (fun x s5 h5=>?_) fun _ _ z=>z))
   exact wpAny_bind (wpAny_mono h5 (fun _ s6 h6=>wpAny_pure (wpAny_pure ⟨rfl,h6⟩)) fun _ _ z=>z)
end
theorem comp_coreT{M:List Str}{elt iter tg:Expr}{xs:List Str}{pos:Pos}{ifs:List Expr}{scope:Scope}{cl:List (Str×Addr)}{g:TG}{tt:TT}{te:TE}(hc:X.calm=true)(ok:CompOkT X M xs scope cl)
 (ht:∀C s₀ H₀ fp,PIfs (compCxT X M xs scope cl C s₀ H₀ fp) ifs tt)(hg:∀C s₀ H₀ fp,PG (compCxT X M xs scope cl C s₀ H₀ fp) tg g)(he:∀C s₀ H₀ fp,PE (compCxT X M xs scope cl C s₀ H₀ fp) elt te)
 {pins:List (Addr×Obj)}{σ:St}{H2:Hp}{s2:Shared}{it:Addr}{fp:List Addr}{tn:Nat→Heap→Prop}{J:It}{Q:VK}(I2:Inv X pins σ H2 s2)(T:Turn X.prog X.w X.K tg J fp it tn)(st2:tn 0 s2.heap)(f2:∀b∈fp,FpOk X pins H2 b)
 (hW:CompRT xs.length g tt te σ Q J H2)(post:Value→Addr→Result→Shared→Prop)
 (fin:∀D C H3 s4,Inv X pins σ H3 s4→(∃m,s4.heap.Ns C m)→FpOk X pins H3 C→Q (.ref D) H3→post (.ref D) C (.ok .next) s4):
 wpAny (model X.prog X.w) X.A (newList []) (fun acc s₃=>wpAny (model X.prog X.w) X.A (newFunctionEnv scope X.env.globals cl [] X.env.qual none .none (some X.env)) (fun cenv s₄=>
  codeAny (model X.prog X.w) X.A (.compStart (.ListComp elt [⟨tg,iter,ifs,0⟩] scope pos) 0 (.ref it) acc { cenv with scope:=relabel scope X.env }) (post acc cenv.locals) s₄) X.xe s₃) X.xe s2:=by
 refine wpAny_newObj_type (wpAny_newFunctionEnv ok.cell (by intro y hy;simp at hy) (fun h₁ hns₁ hsb₁=>?_) ok.kind)
 dsimp only at hns₁ hsb₁ ⊢
 generalize hH2:s2.heap.push { cls:=.type "list",dict:=none,data:=.seq ([]:List Value).toArray }=G2 at hns₁ hsb₁ ⊢
 have hC:G2.objs.size=s2.heap.objs.size+1:=by rw[←hH2,Heap.size_push]
 have hDC:s2.heap.objs.size≠G2.objs.size:=by rw[hC];exact Nat.ne_of_lt (Nat.lt_succ_self _)
 have hCle:s2.heap.objs.size≤G2.objs.size:=by rw[hC];exact Nat.le_succ _
 have below:∀b,b<s2.heap.objs.size→b≠G2.objs.size∧b≠s2.heap.objs.size:=fun b hb=>⟨by rw[hC];exact Nat.ne_of_lt (Nat.lt_succ_of_lt hb),Nat.ne_of_lt hb⟩
 have old:∀b o,s2.heap.get? b=some o→h₁.get? b=some o:=fun b o e=>hsb₁.extBut b o (below b (Heap.lt_size e)).1 (Heap.get?_push_of_some _ (hH2 ▸ Heap.get?_push_of_some _ e))
 have hacc:h₁.get? s2.heap.objs.size=some { cls:=.type "list",data:=.seq ([]:List Value).toArray }:=hsb₁.extBut _ _ hDC (Heap.get?_push_of_some _ (hH2 ▸ Heap.get?_push_size _ rfl))
 have fpb:∀b∈fp,b<s2.heap.objs.size:=fun b hb=>by
  obtain⟨o,e,_⟩:=T.obj _ _ st2 b hb
  exact Heap.lt_size e
 have hD0:H2 s2.heap.objs.size=none:=I2.hok.fresh (Nat.le_refl _)
 have hC0:H2 G2.objs.size=none:=I2.hok.fresh hCle
 generalize hDD:s2.heap.objs.size=D at*
 generalize hCC:G2.objs.size=C at*
 obtain⟨W,⟨m0,w0⟩,turn⟩:=hW D hD0
 have okX:(compCxT X M xs scope cl C s2 H2 fp).Ok:=comp_okT I2 ok (by rw[hDD];exact hCle) f2 (by rw[hDD];exact fpb)
 have lenN:(List.replicate xs.length none++σ:St).length=(compCxT X M xs scope cl C s2 H2 fp).N.length:=by
  show(List.replicate xs.length none++σ).length=(xs++M).length
  rw[List.length_append,List.length_append,List.length_replicate,I2.len,ok.len]
 have locs:∀(h':Heap) (m:Str→Option Value),(∀y c,X.env.cells.lookup y=some c→∀v,s2.heap.IsCell c v→h'.IsCell c v)→
  ∀(j:Nat) (y:Str) (v:V),(xs++M)[j]?=some y→(List.replicate xs.length none++σ:St)[j]?=some (some v)→Vis (relabel scope X.env) y→∃u,RelV v u∧Look (compEnvC scope cl C X.env) h' m y u:=by
  intro h' m hcell j y v e1 e2 e3
  rcases Nat.lt_or_ge j xs.length with jl | jl
  ·rw[List.getElem?_append_left (by rw[List.length_replicate];exact jl),List.getElem?_replicate,if_pos jl] at e2
   cases e2
  ·obtain⟨i,rfl⟩:∃i,j=xs.length+i:=⟨j-xs.length,by omega⟩
   have e0:M[i]?=some y:=by
    rw[List.getElem?_append_right (Nat.le_add_right _ _),Nat.add_sub_cancel_left] at e1
    exact e1
   have e2':σ[i]?=some (some v):=by
    rw[List.getElem?_append_right (by rw[List.length_replicate];exact Nat.le_add_right _ _),List.length_replicate,Nat.add_sub_cancel_left] at e2
    exact e2
   obtain⟨e1',k1,k2⟩:=ok.vis i y e0 e3
   obtain⟨m2,_,hl⟩:=I2.loc
   obtain⟨u,r,l⟩:=hl i y v e1' e2' (k2.elim (fun z=>.inr (.inl z)) fun z=>.inr (.inr z))
   obtain⟨c',hc'⟩:=ok.has y k1
   rcases l with ⟨z,_⟩ | ⟨_,c,hcc,z⟩
   ·have z':X.env.scope.names.lookup y=some .local:=z
    rcases k2 with q | q<;>(rw [q] at z';cases z')
   ·have q:=ok.sub y c' hc'
    rw[hcc] at q
    cases q
    exact⟨u,r,.inr ⟨k1,c',hc',hcell y c' hcc _ z⟩⟩
 have I0:Inv (compCxT X M xs scope cl C s2 H2 fp) [] (List.replicate xs.length none++σ) (upd H2 D (.lst [])) { s2 with heap:=h₁,toks:=s2.toks+([]:List (Str×Value)).length }:=by
  refine⟨okX,rfl,I2.bare,?_,⟨_,hns₁,locs h₁ _ (fun y c e v z=>?_)⟩,fun y c e=>?_,?_,fun y c e=>?_,fun p hp=>?_,?_,lenN⟩
  ·exact Un.laid old (Nat.le_of_eq hDD) hD0
  ·obtain⟨o,ho,hd⟩:=z
   exact⟨o,old c o ho,hd⟩
  ·obtain⟨v,o,ho,hd⟩:=I2.cell y c (ok.sub y c e)
   exact⟨v,o,old c o ho,hd⟩
  ·show upd H2 D (.lst []) C=none
   rw[upd_ne (Ne.symm hDC)]
   exact hC0
  ·have hn:=I2.freeC y c (ok.sub y c e)
   obtain⟨v,o,ho,hd⟩:=I2.cell y c (ok.sub y c e)
   rw[upd_ne (fun z=>by have:=Heap.lt_size ho;rw[hDD,z] at this;exact Nat.lt_irrefl _ this)]
   exact hn
  ·exact absurd hp (by show p∉([]++[]:List (Addr×Obj));simp)
  ·refine I2.hok.laid old (Nat.le_of_eq hDD) ⟨Nat.zero_le _,[],_,.nil,hacc⟩
 have fpk:∀{H':Hp},(∀b∈fp,H' b=none)→∀b∈fp,FpOk (compCxT X M xs scope cl C s2 H2 fp) [] H' b:=fun hn b hb=>by
  refine⟨hn b hb,(below b (fpb b hb)).1,okX.exfs b hb,.inl hb,fun y c e=>(f2 b hb).2.2.2.2.1 y c (ok.sub y c e),fun p hp=>?_⟩
  exact absurd hp (by show p∉([]++[]:List (Addr×Obj));simp)
 have loop:∀s₃:Shared,s₃={ s2 with heap:=h₁,toks:=s2.toks+([]:List (Str×Value)).length }→
  codeAny (model X.prog X.w) X.A (.compLoop (.ListComp elt [⟨tg,iter,ifs,0⟩] scope pos) 0 (.ref it) (.ref D) (compEnvC scope cl C X.env))
   (post (.ref D) C) s₃:=by
  rintro s₃ rfl
  refine comp_turns (fun n s'=>∃i ys w' H',w'.length=xs.length∧Inv (compCxT X M xs scope cl C s2 H2 fp) [] (w'++σ) H' s'∧tn i s'.heap∧(∀b∈fp,H' b=none)∧W i n ys H') ?_ m0
   ⟨0,[],List.replicate xs.length none,_,List.length_replicate,I0,T.keep _ _ _ st2 (fun b _ o e=>old b o e),fun b hb=>by rw[upd_ne (below b (fpb b hb)).2];exact(f2 b hb).1,w0⟩
  rintro n s3 ⟨i,ys,w3,H3,l3,I3,st3,fr3,wt⟩
  obtain⟨hD3,hh⟩:=turn i n ys H3 wt
  rcases hh with ⟨stop,q⟩ | ⟨go,hlen,m',hm,step⟩
  ·refine thn (T.done (compCxT X M xs scope cl C s2 H2 fp) rfl rfl rfl hc i [] s3 (w3++σ) H3 _ I3 (fpk fr3) st3 stop) fun r s4 ⟨hr,I4⟩=>?_
   subst hr
   obtain⟨m4,hn4,_⟩:=id I4.loc
   have hC4:H3 C=none:=I4.free
   exact fin D C H3 s4 (I2.call' (ch:=fp) I4.os I4.base I4.hok I4.bare fun b hb=>⟨(f2 b hb).2.2.2.1,(f2 b hb).2.1,(f2 b hb).2.2.2.2.1,(f2 b hb).2.2.2.2.2⟩) ⟨m4,hn4⟩ (I2.fpOk (by rw[hDD];exact hCle) hC4) q
  ·refine wpAny_mono (T.item (compCxT X M xs scope cl C s2 H2 fp) rfl rfl rfl hc i [] s3 (w3++σ) H3 (fun _ _=>False) I3 (fpk fr3) st3 go) (fun r s4 h4=>?_) (fun _ _ z=>z.elim)
   obtain⟨u,hr,h4⟩:=h4
   subst hr
   refine wpAny_mono h4 (fun _ s4 h4=>?_) (fun _ _ z=>z.elim)
   obtain⟨x',H5,I5,r5,y5,st5,fr5⟩:=h4
   have I5':=I5.pinned (fpk fr5) (T.obj _ _ st5)
   refine wpAny_mono (hg C s2 H2 fp _ s4 _ H5 x' u _ I5' r5 (step x' H5 y5 w3 l3)) (fun _ s6 h6=>?_) (fun _ _ z=>z.elim)
   obtain⟨σ6,H6,I6,w6,l6,rfl,q6⟩:=h6
   have back:∀{s7:Shared} {H7:Hp} {w7:St},Inv (compCxT X M xs scope cl C s2 H2 fp) ([]++pinsAt fp s4.heap) (w7++σ) H7 s7→tn (i+1) s7.heap∧(∀b∈fp,H7 b=none)∧Inv (compCxT X M xs scope cl C s2 H2 fp) [] (w7++σ) H7 s7:=fun{s7 H7 w7} I7=>by
    refine⟨T.keep _ _ _ st5 fun b hb o e=>(I7.pin (b,o) (List.mem_append_right _ (List.mem_append_right _ (mem_pinsAt hb e)))).1,fun b hb=>?_,I7.unpinned⟩
    obtain⟨o,e,d⟩:=T.obj _ _ st5 b hb
    exact(I7.pin (b,o) (List.mem_append_right _ (List.mem_append_right _ (mem_pinsAt hb e)))).2.1
   refine wpAny_mono (ht C s2 H2 fp _ s6 _ H6 _ I6 q6) (fun ok' s7 h7=>?_) (fun _ _ z=>z.elim)
   obtain⟨H7,I7,q7⟩:=h7
   cases ok' with
   | false=>
    have q7':W (i+1) m' ys H7:=by simpa using q7
    rw[if_neg Bool.false_ne_true]
    obtain⟨b1,b2,b3⟩:=back I7
    exact⟨m',hm,i+1,ys,_,H7,l6,b3,b1,b2,q7'⟩
   | true=>
    rw[if_pos rfl] at q7 ⊢
    refine wpAny_mono (he C s2 H2 fp _ s7 _ H7 _ I7 q7) (fun y s8 h8=>?_) (fun _ _ z=>z.elim)
    obtain⟨v8,H8,I8,r8,hD8,w8⟩:=h8
    refine wpAny_mono (mt_append (X:=compCxT X M xs scope cl C s2 H2 fp) _ s8 _ H8 (.ref D) [v8] (.ref D) [y] (fun _ H9=>H9=upd H8 D (.lst (ys++[v8]))) I8 rfl (.cons r8 .nil) ⟨D,ys,v8,rfl,rfl,hD8,hlen,rfl⟩) (fun _ s9 h9=>?_) (fun _ _ z=>z.elim)
    obtain⟨v9,H9,I9,_,e9⟩:=h9
    subst e9
    obtain⟨b1,b2,b3⟩:=back I9
    exact⟨m',hm,i+1,_,_,_,l6,b3,b1,b2,w8⟩
 exact codeAny_compStart_list (loop _ rfl) (T.self _ 0 _ _ _ (T.keep _ _ _ st2 (fun b _ o e=>old b o e)) (loop _ rfl))
theorem compOkT_freeM{scope:Scope}{cl:List (Str×Addr)}(xs M N:List Str)(hl:M.length=N.length)(hN:X.N=N)(clos:closureFor scope X.env=pure cl)(hc:(scope.names.all fun y=>y.2 != .cell)=true)(hk:scope.kind=.function)
 (hn:(scope.names.all fun y=>y.2 != .local||scope.names.lookup y.1==some .local)=true)(hx:(xs.all fun x=>scope.names.lookup x==some .local)=true)(nd:(xs++M).Nodup)
 (hs:∀p∈cl,X.env.cells.lookup p.1=some p.2)
 (hh:((relabel scope X.env).names.all fun p=>(p.2 != .cell&&p.2 != .free)||(cl.lookup p.1).isSome)=true)
 (hv:((M.zip N).all fun q=>match (relabel scope X.env).names.lookup q.1 with
  | some .local=>false
  | some .cell=>q.1==q.2&&(X.env.scope.names.lookup q.1==some .cell||X.env.scope.names.lookup q.1==some .free)
  | some .free=>q.1==q.2&&(X.env.scope.names.lookup q.1==some .cell||X.env.scope.names.lookup q.1==some .free)
  | _=>true)=true):CompOkT X M xs scope cl:=by
 refine⟨clos,fun y hy=>?_,hk,fun y hy hl=>?_,(fun x hm=>by simpa using List.all_eq_true.mp hx x hm),nd,by rw[hN];exact hl,fun y c h=>hs _ (lookup_mem h),fun y h=>?_,fun i y hy h=>?_⟩
 ·have:=List.all_eq_true.mp hc y hy
  simpa using this
 ·have:=List.all_eq_true.mp hn y hy
  simpa [hl] using this
 ·rcases h with h | h
  ·have:=List.all_eq_true.mp hh _ (lookup_mem h)
   exact Option.isSome_iff_exists.mp (by simpa using this)
  ·have:=List.all_eq_true.mp hh _ (lookup_mem h)
   exact Option.isSome_iff_exists.mp (by simpa using this)
 ·have hi:i<N.length:=by
   have:=(List.getElem?_eq_some_iff.mp hy).1
   omega
  have hz:(y,N[i])∈M.zip N:=by
   have:(M.zip N)[i]?=some (y,N[i]):=List.getElem?_zip_eq_some.mpr ⟨hy,by simp[hi]⟩
   exact List.mem_of_getElem? this
  have z:=List.all_eq_true.mp hv _ hz
  have fin:y=N[i]→X.N[i]?=some y:=fun e=>by rw[hN,e];simp[hi]
  rcases h with h | h | h
  ·dsimp only at z
   rw[h] at z;cases z
  ·dsimp only at z
   rw[h] at z
   simp only[Bool.and_eq_true,beq_iff_eq,Bool.or_eq_true] at z
   exact⟨fin z.1,.inl h,z.2⟩
  ·dsimp only at z
   rw[h] at z
   simp only[Bool.and_eq_true,beq_iff_eq,Bool.or_eq_true] at z
   exact⟨fin z.1,.inr h,z.2⟩
end
theorem rd_compT{k:Nat}{wi:TI}{g:TG}{tt:TT}{te:TE}{σ:St}{H:Hp}{Q:VK}(h:wi σ H (CompRT k g tt te σ Q)):tCompT k wi g tt te σ H Q:=h
end L2
namespace L2
open PySem PySem.Spec PyProof.Rows
theorem rd_fld{K:PySem.W.Frag}{ta:TE}{f:Str}{σ:St}{H:Hp}{Q:VK}(h:ta σ H fun x H1=>∃a C dx fs v,x=.ref a∧H1 a=some (.ins C dx fs)∧Cls K C∧NoAttr K C f∧fs.lookup f=some v∧Q v H1):tFld K ta f σ H Q:=h
theorem rd_sfld{K:PySem.W.Frag}{ta tv:TE}{f:Str}{D:Ends}{σ:St}{H:Hp}(h:tv σ H fun y H1=>ta σ H1 fun x H2=>∃a C dx fs,x=.ref a∧H2 a=some (.ins C dx fs)∧Cls K C∧NoAttr K C f∧fs.length<1000∧D.nx σ (upd H2 a (.ins C dx (putF f y fs)))):sFld K ta tv f D σ H:=h
theorem rd_meth{C:Addr}{m:Str}{sp:Sp}{ta:TE}{t:TA}{σ:St}{H:Hp}{Q:VK}(h:ta σ H fun x H1=>∃a dx fs,x=.ref a∧H1 a=some (.ins C dx fs)∧fs.lookup m=none∧t σ H1 fun vs H2=>sp (x::(vs++[])) H2 Q E0):tMeth C m sp [] E0 ta t σ H Q:=h
end L2
set_option Elab.async false
set_option linter.all false
set_option maxRecDepth 100000
set_option maxHeartbeats 4000000
namespace L2
open PySem PySem.Spec PyProof.Rows
section
variable{X:Cx}{M xs:List Str}{scope:Scope}{cl:List (Str×Addr)}{C:Addr}{s₀:Shared}{H₀:Hp}{fp:List Addr}
theorem pg_tup_c{es:List Expr}{k:Nat}{t:TGs}{n:Nat}{pos:Pos}(hc:X.calm=true)(h:PGs (compCxT X M xs scope cl C s₀ H₀ fp) es t)
 (hn:(assignEach es (compCxT X M xs scope cl C s₀ H₀ fp).env).length=n:=by rfl)(hst:(assignEach es (compCxT X M xs scope cl C s₀ H₀ fp).env).findIdx? (·.1)=none:=by rfl):PG (compCxT X M xs scope cl C s₀ H₀ fp) (.Tuple es k pos) (gTup X.K n t):=
 pg_tup hc h hn hst
end
end L2
set_option Elab.async false
set_option linter.all false
set_option maxRecDepth 100000
set_option maxHeartbeats 4000000
namespace L2
open PySem PySem.Spec PyProof.Rows
structure FunD(K:PySem.W.Frag)(x qual:Str)(st:Stmt)(f:Addr)(fd:FuncData)(ds:Array Value):Prop where
 ex:∃(oc:Value) (od:Option Addr) (T:Addr) (to:Obj) (tn:Nat) (kV doc pm:Value) (an:Option Addr) (cdv ct:Value) (osl:Array (Option Value)),
  fd=PySem.W.fnOf x qual (defArgs st) (defBody st) (defScope st) (.ref T) kV doc pm an cdv ct∧K.lookup f=some ⟨oc,od,.func fd,osl⟩∧PySem.W.codeIn K cdv qual=true∧K.lookup T=some to∧to.data=.seq ds tn
 kp:PySem.W.keepIn K (.ref f)=true
section
variable{P:Program}{w:World}{K:PySem.W.Frag}{mg:Str→Option Value}{base:Heap}{x qual:Str}{st:Stmt}{f:Addr}{fd:FuncData}{N ps:List Str}{k:Nat}{sp:Sp}{ds:Array Value}
theorem FunD.ok(F:FunD K x qual st f fd ds)(S:FnScope N ps (defScope st))(len:∀vs H Q E,sp vs H Q E→vs.length=ps.length)
 (hbody:∀(cdv:Value) (A:Around) (outer:List Env) (s:Shared) (H:Hp) (vs:List V) (Q:VK) (E:XK),Room k (A.deeper (envOfC qual (defScope st) s.heap.objs.size f cdv))→sp vs H Q E→
  ∃t,PSs (cxOf CX0 P w K mg base N qual (defScope st) f cdv A outer s H E).nox (defBody st) t∧t { nx:=fun _ H'=>Q .non H',rt:=Q } (start N vs) H):FnOk P w K mg base CX0 (k+1) f fd ps sp:=by
 obtain⟨oc,od,T,to,tn,kV,doc,pm,an,cdv,ct,osl,rfl,lk,hcd,_⟩:=F.ex
 refine fn_of lk hcd S len fun A outer s H vs Q E hr hsp=>?_
 obtain⟨t,h,q⟩:=hbody cdv A outer s H vs Q E hr hsp
 exact⟨t,h.nox,q⟩
theorem FunD.binds(F:FunD K x qual st f fd ds)
 (h:∀(T:Addr) (kV doc pm:Value) (an:Option Addr) (cdv ct:Value) (us:List Value),us.length=ps.length→bindArgs (PySem.W.fnOf x qual (defArgs st) (defBody st) (defScope st) (.ref T) kV doc pm an cdv ct) ⟨us,[]⟩=pure (ps.zip us)):Binds K fd ps []:=by
 obtain⟨oc,od,T,to,tn,kV,doc,pm,an,cdv,ct,osl,rfl,lk,hcd,_⟩:=F.ex
 exact .all (h T kV doc pm an cdv ct)
theorem FunD.bindsD{dv:List Value}(n:Nat)(hn:n+dv.length=ps.length)(F:FunD K x qual st f fd ds)
 (h:∀(T:Addr) (kV doc pm:Value) (an:Option Addr) (cdv ct:Value) (us:List Value),us.length=n→
  ∃k:Option (Array Value)→Sem (List (Str×Value)),bindArgs (PySem.W.fnOf x qual (defArgs st) (defBody st) (defScope st) (.ref T) kV doc pm an cdv ct) ⟨us,[]⟩=seqItems? (.ref T) >>= k∧k (some ds)=pure (ps.zip (us++dv))):Binds K fd ps dv:=by
 obtain⟨oc,od,T,to,tn,kV,doc,pm,an,cdv,ct,osl,rfl,lk,hcd,ht,hs⟩:=F.ex
 intro s us KX hl
 obtain⟨k,h1,h2⟩:=h T kV doc pm an cdv ct us (by rw[List.length_append] at hl;omega)
 exact PySem.W.binds_K KX rfl ht hs h1 h2
theorem fun_mkD{oc:Value}{od an:Option Addr}{osl:Array (Option Value)}{kV doc pm cdv ct:Value}{T:Addr}{to:Obj}{tn:Nat}(l:K.lookup f=some ⟨oc,od,.func (PySem.W.fnOf x qual (defArgs st) (defBody st) (defScope st) (.ref T) kV doc pm an cdv ct),osl⟩)
 (c:PySem.W.codeIn K cdv qual=true)(k:PySem.W.keepIn K (.ref f)=true)(t:K.lookup T=some to)(d:to.data=.seq ds tn):FunD K x qual st f (PySem.W.fnOf x qual (defArgs st) (defBody st) (defScope st) (.ref T) kV doc pm an cdv ct) ds:=
 ⟨⟨oc,od,T,to,tn,kV,doc,pm,an,cdv,ct,osl,rfl,l,c,t,d⟩,k⟩
end
structure CalID(P:Program)(w:World)(K:PySem.W.Frag)(mg:Str→Option Value)(base:Heap)(CX:CXT)(k:Nat)(x:Str)(C:Addr)(ps:List Str)(dvs:List V)(sp:Sp):Prop where
 ex:∃(f:Addr) (fd:FuncData) (ds:List Value),FnOk P w K mg base CX k f fd ps sp∧Binds K fd ps ds∧Vals dvs ds∧Mk K C f∧mg x=some (.ref C)
section
variable{X:Cx}{EE:Value→Option Addr→St→Hp→Prop}{C:Addr}{m x:Str}{k:Nat}{ps:List Str}{dvs:List V}{sp:Sp}{o e:Expr}{es:List Expr}{ta:TE}{t:TA}{apos pos p:Pos}
theorem pe_mkD(O:CalID X.prog X.w X.K X.mg X.base CX0 k x C ps dvs sp)(hr:Room (k+1) X.A)(hg:Gl X x)(ha:PA X (e::es) t)
 (hdb:(x==("__debug__":Str))=false:=by decide)(he:starEach (e::es) X.env=(false,eval e X.env)::starEach es X.env:=by rfl)(hpl:(backTo pos (starEach es X.env)).any (·.1)=false:=by rfl):
 PE X (.Call (.Name x p) (e::es) [] pos) (tMake C sp dvs E0 t):=by
 obtain⟨f,fd,ds,F,hb,hv,M,hm⟩:=O.ex
 exact pe_make M F hr hg hm hb hv pass0 ha hdb he hpl
end
section
variable{X:Cx}
end
end L2
namespace L2
open PySem PySem.Spec PyProof.Rows
theorem rd_makeD{C:Addr}{sp:Sp}{dvs:List V}{t:TA}{σ:St}{H:Hp}{Q:VK}(h:t σ H fun vs H1=>∀x dx,H1 x=none→H1 dx=none→dx≠x→sp (.ref x::(vs++dvs)) (upd (upd H1 dx (.own x)) x (.ins C dx [])) (fun v H2=>v=.non∧Q (.ref x) H2) E0):tMake C sp dvs E0 t σ H Q:=h
end L2
set_option Elab.async false
set_option linter.all false
set_option maxRecDepth 100000
set_option maxHeartbeats 4000000
namespace L2
open PySem PySem.Spec PyProof.Rows
def plainV:V→Bool
 | .byt _=>false
 | .flt _=>false
 | _=>true
inductive EqV(K:PySem.W.Frag)(H:Hp):Nat→V→V→Prop
 | same {n:Nat} {v:V}:plainV v=true→EqV K H n v v
 | lst {n:Nat} {a b:Addr} {xs ys:List V}:SqL K H a xs→SqL K H b ys→xs.length=ys.length→(∀(i:Nat) x y,xs[i]?=some x→ys[i]?=some y→EqV K H n x y)→EqV K H (n+1) (.ref a) (.ref b)
 | tup {n:Nat} {a b:Addr} {xs ys:List V}:SqT K H a xs→SqT K H b ys→xs.length=ys.length→(∀(i:Nat) x y,xs[i]?=some x→ys[i]?=some y→EqV K H n x y)→EqV K H (n+1) (.ref a) (.ref b)
theorem vals_at:∀{xs:List V} {us:List Value} {i:Nat} {u:Value},Vals xs us→us[i]?=some u→∃x,xs[i]?=some x∧RelV x u
 | _,_,i,u,.nil,h=>by simp at h
 | _,_,0,u,.cons r _,h=>by
  injection h with h
  subst h
  exact⟨_,rfl,r⟩
 | _,_,i+1,u,.cons _ rs,h=>vals_at (i:=i) rs h
section
variable{X:Cx}{pins:List (Addr×Obj)}{σ:St}{H:Hp}{s:Shared}
theorem EqV.at{n:Nat}{x y:V}(h:EqV X.K H n x y)(I:Inv X pins σ H s):∀{A:Around} {u v:Value},RelV x u→RelV y v→A.units+n<cLine→SeqAt.EqAt A s u v true:=by
 induction h with
 | @same n v hp=>
  intro A u u' r r' _
  cases v with
  | non=>cases r;cases r';exact SeqAt.EqAt.same _
  | bl b=>cases r;cases r';exact SeqAt.EqAt.same _
  | int i=>
   obtain⟨t,rfl⟩:=r
   obtain⟨t',rfl⟩:=r'
   have:=SeqAt.EqAt.int_int (A:=A) (s:=s) i t i t'
   rwa [beq_self_eq_true] at this
  | str x=>
   obtain⟨t,rfl⟩:=r
   obtain⟨t',rfl⟩:=r'
   have:=SeqAt.EqAt.str_str (A:=A) (s:=s) x t x t'
   rwa [beq_self_eq_true] at this
  | byt b=>cases hp
  | flt b=>cases hp
  | ref a=>cases r;cases r';exact SeqAt.EqAt.same _
  | ty n=>cases r;cases r';exact SeqAt.EqAt.same _
 | @lst n a b xs ys ha hb hl _ ih=>
  intro A u v r r' hu
  cases r
  cases r'
  by_cases e:a=b
  ·subst e
   exact SeqAt.EqAt.same _
  obtain⟨its,r,pl,_⟩:=I.list ha
  obtain⟨its',r',pl',_⟩:=I.list hb
  have l1:=r.length
  have l2:=r'.length
  have:=SeqAt.RcAt.lists (A:=A) (e:=fun _=>true) pl.isList pl'.isList (by simp;omega) (by omega) fun j k1 k2=>by
   obtain⟨x,hx,rx⟩:=vals_at r (i:=j) (u:=its.toArray[j]) (by simp)
   obtain⟨y,hy,ry⟩:=vals_at r' (i:=j) (u:=its'.toArray[j]) (by simp)
   exact ih j x y hx hy rx ry (by show A.units+1+n<cLine;omega)
  rw[show ((List.range its.toArray.size).all fun _=>true)=true by simp] at this
  exact SeqAt.EqAt.of_refs e this
 | @tup n a b xs ys ha hb hl _ ih=>
  intro A u v r r' hu
  cases r
  cases r'
  by_cases e:a=b
  ·subst e
   exact SeqAt.EqAt.same _
  obtain⟨its,r,pl,_⟩:=I.tuple ha
  obtain⟨its',r',pl',_⟩:=I.tuple hb
  have l1:=r.length
  have l2:=r'.length
  have:=SeqAt.RcAt.tuples (A:=A) (e:=fun _=>true) pl pl' (by omega) fun j k1 k2=>by
   obtain⟨x,hx,rx⟩:=vals_at r (i:=j) (u:=its.toArray[j]) (by simp)
   obtain⟨y,hy,ry⟩:=vals_at r' (i:=j) (u:=its'.toArray[j]) (by simp)
   exact ih j x y hx hy rx ry (by show A.units+1+n<cLine;omega)
  rw[show ((List.range (min its.toArray.size its'.toArray.size)).all fun _=>true)=true by simp,Bool.true_and,show(its.toArray.size==its'.toArray.size)=true by simp;omega] at this
  exact SeqAt.EqAt.of_refs e this
end
end L2
set_option Elab.async false
set_option linter.all false
set_option maxRecDepth 100000
set_option maxHeartbeats 4000000
namespace L2
open PySem PySem.Spec PyProof.Rows
structure CalL(P:Program)(w:World)(K:PySem.W.Frag)(mg:Str→Option Value)(base:Heap)(CX:CXT)(k:Nat)(m:Str)(ps:List Str)(L:List (Addr×Sp)):Prop where
 ex:∀p∈L,Cls K p.1∧∃(f:Addr) (fd:FuncData),FnOk P w K mg base CX k f fd ps p.2∧Binds K fd ps []∧Meth K p.1 m f
theorem CalL.nil{P:Program}{w:World}{K:PySem.W.Frag}{mg:Str→Option Value}{base:Heap}{CX:CXT}{k:Nat}{m:Str}{ps:List Str}:CalL P w K mg base CX k m ps []:=⟨fun p hp=>(nomatch hp)⟩
theorem FnOk.up{P:Program}{w:World}{K:PySem.W.Frag}{mg:Str→Option Value}{base:Heap}{CX:CXT}{k j:Nat}{f:Addr}{fd:FuncData}{ps:List Str}{sp:Sp}(F:FnOk P w K mg base CX k f fd ps sp)(h:k≤j):FnOk P w K mg base CX j f fd ps sp:=
 ⟨F.len,fun A outer s H args us vs Q E hr e0 hb r hs=>F.run A outer s H args us vs Q E (hr.mono h) e0 hb r hs⟩
theorem CalL.cons{P:Program}{w:World}{K:PySem.W.Frag}{mg:Str→Option Value}{base:Heap}{CX:CXT}{k j:Nat}{m:Str}{ps:List Str}{C:Addr}{sp:Sp}{L:List (Addr×Sp)}(c:Cls K C)(O:CalM P w K mg base CX j C m ps sp)(h:j≤k)(r:CalL P w K mg base CX k m ps L):CalL P w K mg base CX k m ps ((C,sp)::L):=by
 refine⟨fun p hp=>?_⟩
 rcases List.mem_cons.mp hp with e | e
 ·subst e
  obtain⟨f,fd,F,hb,M⟩:=O.ex
  exact⟨c,f,fd,F.up h,hb,M⟩
 ·exact r.ex p e
def tMethL(L:List (Addr×Sp))(m:Str)(ta:TE)(t:TA):TE:=fun σ H Q=>ta σ H fun x H1=>∃a C dx fs sp,(C,sp)∈L∧x=.ref a∧H1 a=some (.ins C dx fs)∧fs.lookup m=none∧
 t σ H1 fun vs H2=>sp (x::(vs++[])) H2 Q E0
section
variable{X:Cx}{EE:Value→Option Addr→St→Hp→Prop}{L:List (Addr×Sp)}{m:Str}{k:Nat}{ps:List Str}{o e:Expr}{es:List Expr}{ta:TE}{t:TA}{apos pos:Pos}
theorem pe_mcalL{pl:Sem Bool}(O:CalL X.prog X.w X.K X.mg X.base CX0 k m ps L)(hr:Room k X.A)(he:PE X o ta)(ha:PA X (e::es) t)
 (hst:starEach (e::es) X.env=(false,eval e X.env)::starEach es X.env:=by rfl)(hpl:(backTo pos (starEach es X.env)).any (·.1)=false:=by rfl)
 (ht:eval (.Call (.Attribute o m apos) (e::es) [] pos) X.env=(do
  let ov ←eval o X.env
  standAt apos.atName
  let (f,first) ←holding [ov] (getMethod ov m pl)
  callWith pos f first (backTo pos (starEach (e::es) X.env)) (backToKw pos (keywordEach [] X.env))):=by rfl):
 PE X (.Call (.Attribute o m apos) (e::es) [] pos) (tMethL L m ta t):=by
 intro pins s σ H Q I h
 refine PySem.W.methodCall_KW (pl:=pl) (thn (he pins s σ H _ I h) fun u s1 ⟨x,H1,I1,rx,a,C,dx,fs,sp,mem,ex,ea,l,q⟩=>?_) ht
 subst ex
 obtain rfl:u=Value.ref a:=rx
 obtain⟨c,f,fd,F,hb,hm⟩:=O.ex _ mem
 refine getmeth_ok I1 ea c hm l ?_
 refine PySem.W.callWith_K (first:=[.ref a]) (h₀:=X.base) I.ok.mod.kin hm.kp (thn (ha pos pins s1 σ H1 _ I1 q) fun us s2 ⟨vs,H2,I2,r,q2⟩=>⟨I2.kIn,?_⟩) hst hpl
 exact run_fn (us:=.ref a::us) (vs:=.ref a::vs) F hr hb .nil pass0 I2 (.cons rfl r) q2
theorem pe_mcalL0{pl:Sem Bool}(O:CalL X.prog X.w X.K X.mg X.base CX0 k m ps L)(hr:Room k X.A)(he:PE X o ta)
 (ht:eval (.Call (.Attribute o m apos) [] [] pos) X.env=(do
  let ov ←eval o X.env
  standAt apos.atName
  let (f,first) ←holding [ov] (getMethod ov m pl)
  callWith pos f first (backTo pos (starEach [] X.env)) (backToKw pos (keywordEach [] X.env))):=by rfl):
 PE X (.Call (.Attribute o m apos) [] [] pos) (tMethL L m ta tNil):=by
 intro pins s σ H Q I h
 refine PySem.W.methodCall_KW (pl:=pl) (thn (he pins s σ H _ I h) fun u s1 ⟨x,H1,I1,rx,a,C,dx,fs,sp,mem,ex,ea,l,q⟩=>?_) ht
 subst ex
 obtain rfl:u=Value.ref a:=rx
 obtain⟨c,f,fd,F,hb,hm⟩:=O.ex _ mem
 refine getmeth_ok I1 ea c hm l ?_
 exact PySem.W.callWith_K0 (first:=[.ref a]) I1.kIn hm.kp (run_fn (us:=[.ref a]) (vs:=[.ref a]) F hr hb .nil pass0 I1 (.cons rfl .nil) q)
end
theorem rd_methL{L:List (Addr×Sp)}{m:Str}{ta:TE}{t:TA}{σ:St}{H:Hp}{Q:VK}(h:ta σ H fun x H1=>∃a C dx fs sp,(C,sp)∈L∧x=.ref a∧H1 a=some (.ins C dx fs)∧fs.lookup m=none∧t σ H1 fun vs H2=>sp (x::(vs++[])) H2 Q E0):tMethL L m ta t σ H Q:=h
end L2
set_option Elab.async false
set_option linter.all false
namespace L2
theorem len1{α:Type}{us:List α}(h:us.length=1):∃a0,us=[a0]:=by
 match us,h with
 | [a0],_=>exact⟨a0,rfl⟩
theorem len2{α:Type}{us:List α}(h:us.length=2):∃a0 a1,us=[a0,a1]:=by
 match us,h with
 | [a0,a1],_=>exact⟨a0,a1,rfl⟩
theorem len3{α:Type}{us:List α}(h:us.length=3):∃a0 a1 a2,us=[a0,a1,a2]:=by
 match us,h with
 | [a0,a1,a2],_=>exact⟨a0,a1,a2,rfl⟩
theorem len4{α:Type}{us:List α}(h:us.length=4):∃a0 a1 a2 a3,us=[a0,a1,a2,a3]:=by
 match us,h with
 | [a0,a1,a2,a3],_=>exact⟨a0,a1,a2,a3,rfl⟩
theorem len5{α:Type}{us:List α}(h:us.length=5):∃a0 a1 a2 a3 a4,us=[a0,a1,a2,a3,a4]:=by
 match us,h with
 | [a0,a1,a2,a3,a4],_=>exact⟨a0,a1,a2,a3,a4,rfl⟩
theorem len6{α:Type}{us:List α}(h:us.length=6):∃a0 a1 a2 a3 a4 a5,us=[a0,a1,a2,a3,a4,a5]:=by
 match us,h with
 | [a0,a1,a2,a3,a4,a5],_=>exact⟨a0,a1,a2,a3,a4,a5,rfl⟩
theorem len7{α:Type}{us:List α}(h:us.length=7):∃a0 a1 a2 a3 a4 a5 a6,us=[a0,a1,a2,a3,a4,a5,a6]:=by
 match us,h with
 | [a0,a1,a2,a3,a4,a5,a6],_=>exact⟨a0,a1,a2,a3,a4,a5,a6,rfl⟩
theorem len8{α:Type}{us:List α}(h:us.length=8):∃a0 a1 a2 a3 a4 a5 a6 a7,us=[a0,a1,a2,a3,a4,a5,a6,a7]:=by
 match us,h with
 | [a0,a1,a2,a3,a4,a5,a6,a7],_=>exact⟨a0,a1,a2,a3,a4,a5,a6,a7,rfl⟩
end L2
set_option Elab.async false
set_option linter.all false
set_option maxRecDepth 100000
set_option maxHeartbeats 4000000
namespace L2
open PySem PySem.Spec PyProof.Rows
section
variable{X:Cx}
end
end L2
set_option Elab.async false
set_option linter.all false
set_option maxRecDepth 100000
set_option maxHeartbeats 4000000
namespace L2
open PySem PySem.Spec PyProof.Rows
section
variable{X:Cx}
end
theorem cut_upto(xs:List V)(k:Nat):cutV xs none (some (k:Int))=xs.take k:=by
 unfold cutV
 rw[HT.sIx_none,HT.sIx_nat,List.drop_zero,Nat.sub_zero]
 by_cases h:k≤xs.length
 ·rw[Nat.min_eq_left h]
 ·rw[Nat.min_eq_right (by omega),List.take_of_length_le (Nat.le_refl _),List.take_of_length_le (by omega)]
end L2
set_option Elab.async false
set_option linter.all false
set_option maxRecDepth 100000
set_option maxHeartbeats 4000000
namespace L2
open PySem PySem.Spec PyProof.Rows
section
variable{X:Cx}
end
end L2
set_option Elab.async false
set_option linter.all false
set_option maxRecDepth 100000
set_option maxHeartbeats 4000000
namespace L2
open PySem PySem.Spec PyProof.Rows
section
variable{X:Cx}
end
end L2
set_option Elab.async false
set_option linter.all false
set_option maxRecDepth 100000
set_option maxHeartbeats 4000000
namespace L2
open PySem PySem.Spec PyProof.Rows
section
variable{X:Cx}{tg:Expr}
theorem mt_startswith:MtR X "str.startswith" (fun x xs H Q=>∃z y,x=.str z∧xs=[.str y]∧Q (.bl (Txt.startswith z y)) H):=by
 intro pins s σ H x xs v us Q I rx rs h
 obtain⟨z,y,rfl,rfl,q⟩:=h
 obtain⟨t,rfl⟩:=(show ∃t,v=Value.str z t from rx)
 obtain⟨u,rfl,ru⟩:=vals1 rs
 obtain⟨t',rfl⟩:=(show ∃t,u=Value.str y t from ru)
 exact call_gives F.slot_str_startswith (typeIs_str _ _ _) F.entry_str_startswith (F.args_str_startswith_2 _ _) (gives_str_startswith z y t t') ⟨.bl _,H,I,rfl,q⟩
end
def constStr?:Expr→Option Str
 | .Constant (.str x) _ _=>some x
 | _=>none
def tStrs(ss:List Str):TA:=fun _ H Q=>Q (ss.map V.str) H
theorem pa_strs{X:Cx}:∀{es:List Expr} {ss:List Str},es.map constStr?=ss.map some→PA X es (tStrs ss)
 | [],[],_=>pa_nil
 | [],_::_,h=>nomatch h
 | _::_,[],h=>nomatch h
 | e::es,x::ss,h=>by
  rw[List.map_cons,List.map_cons] at h
  injection h with h1 h2
  have ih:=pa_strs (X:=X) (es:=es) (ss:=ss) h2
  unfold constStr? at h1
  split at h1
  ·injection h1 with h1
   subst h1
   exact pa_cons pe_str ih rfl
  ·cases h1
theorem pe_strs{X:Cx}{es:List Expr}{ss:List Str}{pos:Pos}(h:es.map constStr?=ss.map some):PE X (.List es pos) (tLst (tStrs ss)):=pe_lst (pa_strs h)
theorem rd_strs{ss:List Str}{σ:St}{H:Hp}{Q:List V→Hp→Prop}(h:Q (ss.map V.str) H):tStrs ss σ H Q:=h
structure BE(X:Cx)(e:Expr)(te:TE):Prop where
 out:PE X e te
structure BS(X:Cx)(st:Stmt)(t:TS):Prop where
 out:PS X st t
structure BSs(X:Cx)(st:List Stmt)(t:TS):Prop where
 out:PSs X st t
section
variable{X:Cx}
theorem be{e:Expr}{te:TE}(h:PE X e te):BE X e te:=⟨h⟩
theorem be_strs{es:List Expr}{ss:List Str}{pos:Pos}(h:es.map constStr?=ss.map some):BE X (.List es pos) (tLst (tStrs ss)):=⟨pe_strs h⟩
theorem be_op{op:Operator}{r:R2}{a b:Expr}{ta tb:TE}{pos:Pos}(ho:OpR X (binaryOp op) r)(ha:BE X a ta)(hb:BE X b tb):BE X (.BinOp a op b pos) (tOp r ta tb):=⟨pe_op ho ha.out hb.out⟩
theorem bs{st:Stmt}{t:TS}(h:PS X st t):BS X st t:=⟨h⟩
theorem bs_set{i:Nat}{x:Str}{e:Expr}{te:TE}{pos' pos:Pos}(hN:X.N.Nodup)(hi:X.N[i]?=some x)(hx:Loc X.env.scope x)(he:BE X e te)(hs:swapsWith e (some (.Name x pos')) pos.line X.env=pure false:=by rfl)(hf:X.fn x=true∨X.env.scope.names.lookup x=some .local:=by first | exact .inl rfl | exact .inr rfl | assumption):
 BS X (.Assign [.Name x pos'] e pos) (tAsg te (gName i)):=⟨ps_set hN hi hx he.out hs hf⟩
theorem bss_cons{st:Stmt}{rest:List Stmt}{t u:TS}(h1:BS X st t)(h2:BSs X rest u):BSs X (st::rest) (tSeq t u):=⟨pss_cons h1.out h2.out⟩
theorem bss_one{st:Stmt}{t:TS}(h1:BS X st t):BSs X [st] t:=⟨pss_one h1.out⟩
theorem bss_ex{ss:List Stmt}{R:TS→Prop}(h:∃t,BSs X ss t∧R t):∃t,PSs X ss t∧R t:=by
 obtain⟨t,h1,h2⟩:=h
 exact⟨t,h1.out,h2⟩
end
end L2
set_option Elab.async false
set_option linter.all false
set_option maxRecDepth 100000
set_option maxHeartbeats 4000000
namespace L2
open PySem PySem.Spec PyProof.Rows
inductive CalVs(P:Program)(w:World)(K:PySem.W.Frag)(mg:Str→Option Value)(base:Heap)(k:Nat):List (Str×Sp)→Prop
 | nil:CalVs P w K mg base k []
 | cons {x:Str} {ps:List Str} {sp:Sp} {L:List (Str×Sp)}:Cal P w K mg base k x ps sp→CalVs P w K mg base k L→CalVs P w K mg base k ((x,sp)::L)
theorem CalVs.get{P:Program}{w:World}{K:PySem.W.Frag}{mg:Str→Option Value}{base:Heap}{k:Nat}{L:List (Str×Sp)}(h:CalVs P w K mg base k L){x:Str}{sp:Sp}(hm:(x,sp)∈L):∃ps,Cal P w K mg base k x ps sp:=by
 induction h with
 | nil=>cases hm
 | cons C _ ih=>
  rcases List.mem_cons.mp hm with e | e
  ·injection e with e1 e2
   subst e1
   subst e2
   exact⟨_,C⟩
  ·exact ih e
def tCallV(mg:Str→Option Value)(i:Nat)(L:List (Str×Sp))(t:TA):TE:=fun σ H Q=>∃f x sp,σ[i]?=some (some (.ref f))∧(x,sp)∈L∧mg x=some (.ref f)∧t σ H fun vs H1=>sp vs H1 Q E0
section
variable{X:Cx}{pos:Pos}
theorem pe_calV{k i:Nat}{x:Str}{L:List (Str×Sp)}{e:Expr}{es:List Expr}{t:TA}{p:Pos}(CV:CalVs X.prog X.w X.K X.mg X.base k L)(hr:Room k X.A)(hN:X.N[i]?=some x)(hv:Vis X.env.scope x)(ha:PA X (e::es) t)
 (hdb:(x==("__debug__":Str))=false:=by decide)(hcd:(x==("__classdict__":Str))=false:=by decide)(he:starEach (e::es) X.env=(false,eval e X.env)::starEach es X.env:=by rfl)(hpl:(backTo pos (starEach es X.env)).any (·.1)=false:=by rfl):
 PE X (.Call (.Name x p) (e::es) [] pos) (tCallV X.mg i L t):=by
 intro pins s σ H Q I h
 obtain⟨f,y,sp,hf,hm,hmg,h⟩:=h
 obtain⟨ps,C⟩:=CV.get hm
 obtain⟨f',fd,F,b,kp,m⟩:=C.ex
 have ef:f'=f:=by
  rw[hmg] at m
  injection m with m
  injection m with m
  exact m.symm
 subst ef
 refine wpAny_Call_Name_kw ?_
 refine thn (pe_var hN hv hdb hcd pins s σ H (fun v H1=>v=.ref f'∧H1=H) I ⟨_,hf,rfl,rfl⟩) fun v s1 ⟨y,H1,I1,r1,q1⟩=>?_
 obtain⟨rfl,rfl⟩:=q1
 cases r1
 refine PySem.W.callWith_K (h₀:=X.base) I1.ok.mod.kin kp (thn (ha pos pins s1 σ _ _ I1 h) fun us s2 ⟨vs,H2,I2,r,q⟩=>⟨I2.kIn,?_⟩) he hpl
 dsimp only at q
 have hl:us.length=ps.length:=by rw[←r.length];exact F.len _ _ _ _ q
 have hb:=b s2 us I2.kIn (by rw[List.append_nil];exact hl)
 rw[List.append_nil] at hb
 show wpAny _ _ (call (.ref f') us) _ _ _
 refine wpAny_call (codeAny_mono (F.run X.A X.stack s2 H2 ⟨us,[]⟩ us vs Q _ hr I2.env0 hb r q) fun z s' hq=>?_)
 cases z with
 | error e=>exact False.elim hq
 | ok fl=>
  cases fl with
  | ret u=>exact I2.after hq
  | next=>exact False.elim hq
  | brk=>exact False.elim hq
  | cont=>exact False.elim hq
theorem rd_callV{mg:Str→Option Value}{i:Nat}{L:List (Str×Sp)}{t:TA}{σ:St}{H:Hp}{Q:VK}{f:Addr}{x:Str}{sp:Sp}(h1:σ[i]?=some (some (.ref f)))(h2:(x,sp)∈L)(h3:mg x=some (.ref f))(h:t σ H fun vs H1=>sp vs H1 Q E0):tCallV mg i L t σ H Q:=⟨f,x,sp,h1,h2,h3,h⟩
end
end L2
set_option Elab.async false
set_option linter.all false
set_option maxRecDepth 100000
set_option maxHeartbeats 4000000
namespace L2
open PySem PySem.Spec PyProof.Rows
section
variable{X:Cx}{pins:List (Addr×Obj)}{σ:St}{H:Hp}{s:Shared}{h':Heap}
theorem Inv.turnedNew{t':Nat}{ch:List Addr}{T:Addr}{o:HO}(I:Inv X pins σ H s)(k:∀b u,b∉ch→s.heap.get? b=some u→h'.get? b=some u)(hf:∀b∈ch,FpOk X pins H b)
 (hp:s.heap.objs.size≤T)(new:ObjOk X.prog X.w (upd H T o) h' T o):Inv X pins σ (upd H T o) { s with heap:=h',toks:=t' }:=by
 have hn:H T=none:=I.hok.fresh hp
 have nit:∀b u,H b=some u→b∉ch:=fun b u e z=>by rw[(hf b z).1] at e;cases e
 refine I.step (g':=s.gens) (d':=s.drawn) (ch:=ch) (fun b hb=>⟨(hf b hb).2.2.2.1,(hf b hb).2.1,(hf b hb).2.2.2.2.1,(hf b hb).2.2.2.2.2⟩) (fun b u _ _ hc e _=>k b u hc e) (fun b u _ _ hc e _=>⟨u.slots,k b u hc e⟩)
  (fun b u _ e n=>by rw[upd_ne (Nat.ne_of_lt (Nat.lt_of_lt_of_le (Heap.lt_size e) hp))];exact n)
  (fun b u hc e=>⟨u,k b u hc e⟩) (fun b xs q=>by rw[upd_ne (ne_of_none q hn)];exact q) (fun b u xs q=>by rw[upd_ne (ne_of_none q hn)];exact q) (fun b ps q=>⟨#[],by rw[upd_ne (ne_of_none q hn),q];simp⟩) (fun m hm=>?_) (fun b u e=>?_) I.bare
 ·obtain⟨u,es,ep,ho,r⟩:=hm
  exact⟨u,es,ep,k _ u (fun z=>(hf _ z).2.1 rfl) ho,r⟩
 ·by_cases hb:b=T
  ·subst hb;rw[upd_same] at e;cases e;exact new
  ·rw[upd_ne hb] at e
   refine(I.hok b u e).stay (fun c v hc q=>k c v ?_ q) (fun c q=>by rw[upd_ne (ne_of_none q hn)];exact q) fun c xs q=>by rw[upd_ne (ne_of_none q hn)];exact q
   rcases hc with z | z
   ·rw[z];exact nit b u e
   ·exact nit c _ z
theorem Inv.turnedL{t':Nat}{ch:List Addr}(I:Inv X pins σ H s)(k:∀b u,b∉ch→s.heap.get? b=some u→h'.get? b=some u)(hf:∀b∈ch,FpOk X pins H b):Inv X pins σ H { s with heap:=h',toks:=t' }:=by
 have nit:∀b u,H b=some u→b∉ch:=fun b u e z=>by rw[(hf b z).1] at e;cases e
 refine I.step (g':=s.gens) (d':=s.drawn) (ch:=ch) (fun b hb=>⟨(hf b hb).2.2.2.1,(hf b hb).2.1,(hf b hb).2.2.2.2.1,(hf b hb).2.2.2.2.2⟩) (fun b u _ _ hc e _=>k b u hc e) (fun b u _ _ hc e _=>⟨u.slots,k b u hc e⟩)
  (fun _ _ _ _ n=>n) (fun b u hc e=>⟨u,k b u hc e⟩) (fun b xs q=>q) (fun b u xs q=>q) (fun b ps q=>⟨#[],by rw[q];simp⟩) (fun m hm=>?_) (fun b u e=>?_) I.bare
 ·obtain⟨u,es,ep,ho,r⟩:=hm
  exact⟨u,es,ep,k _ u (fun z=>(hf _ z).2.1 rfl) ho,r⟩
 ·refine(I.hok b u e).stay (fun c v hc q=>k c v ?_ q) (fun c q=>q) fun c xs q=>q
  rcases hc with z | z
  ·rw[z];exact nit b u e
  ·exact nit c _ z
end
def Itz(K:PySem.W.Frag)(a b:Addr):It:=
 ⟨fun i H=>∃xs ys x y,SqL K H a xs∧SqL K H b ys∧xs[i]?=some x∧ys[i]?=some y,
  fun i H v H'=>∃T x y,H T=none∧v=.ref T∧H'=upd H T (.tup [x,y])∧∀xs ys,SqL K H a xs→SqL K H b ys→xs[i]?=some x∧ys[i]?=some y,
  fun i H=>∃xs ys,SqL K H a xs∧SqL K H b ys∧i=min xs.length ys.length⟩
def ZipAt(z TI TO i1 i2 a b:Addr)(i:Nat)(h:Heap):Prop:=
 IsZip h z TI TO .none∧IsPair h TI (.ref i1) (.ref i2)∧(∃p q,IsPair h TO p q)∧h.IsListIter i1 a i∧h.IsListIter i2 b i
theorem turn_zip{P:Program}{w:World}{K:PySem.W.Frag}{es:List Expr}{kk:Nat}{pos:Pos}(z TI TO i1 i2 a b:Addr)(D:ZipApart z TI TO i1 i2 a b):
 Turn P w K (.Tuple es kk pos) (Itz K a b) [z,TI,TO,i1,i2] z (ZipAt z TI TO i1 i2 a b) where
 mem:=by simp
 obj:=fun i h st c hc=>by
  obtain⟨h1,h2,⟨p,q,h3⟩,⟨o4,e4,_,d4⟩,⟨o5,e5,_,d5⟩⟩:=st
  simp only[List.mem_cons,List.not_mem_nil,or_false] at hc
  rcases hc with rfl | rfl | rfl | rfl | rfl
  ·exact⟨_,h1,fun v z=>by cases z⟩
  ·exact⟨_,h2,fun v z=>by cases z⟩
  ·exact⟨_,h3,fun v z=>by cases z⟩
  ·exact⟨_,e4,fun v z=>by rw[d4] at z;cases z⟩
  ·exact⟨_,e5,fun v z=>by rw[d5] at z;cases z⟩
 keep:=fun i h h' st k=>by
  obtain⟨h1,h2,⟨p,q,h3⟩,h4,h5⟩:=st
  exact⟨k z (by simp) _ h1,k TI (by simp) _ h2,⟨p,q,k TO (by simp) _ h3⟩,h4.at fun o e=>k i1 (by simp) o e,h5.at fun o e=>k i2 (by simp) o e⟩
 item:=by
  intro X hP hw hK hc i pins s σ H E I hf st hg
  subst hP hw hK
  obtain⟨xs,ys,x,y,qa,qb,ex,ey⟩:=hg
  obtain⟨us,ra,pa,_⟩:=I.list qa
  obtain⟨ws,rb,pb,_⟩:=I.list qb
  obtain⟨u,hu,ru⟩:=ra.get ex
  obtain⟨v,hv,rv⟩:=rb.get ey
  obtain⟨h1,h2,h3,h4,h5⟩:=st
  have W:=WalksT.zip2 (prog:=X.prog) (w:=X.w) (I.ok.hd hc) z TI TO i1 i2 a b D us.toArray ws.toArray
  have lu:i<us.length:=(List.getElem?_eq_some_iff.mp hu).1
  have lw:i<ws.length:=(List.getElem?_eq_some_iff.mp hv).1
  refine W.item i s _ E (by simp;omega) ⟨h1,h2,h3,h4,h5,pa.isList,pb.isList⟩ fun T vals h' tk hv' hT tup mid k=>?_
  refine⟨.ref T,rfl,W.go es kk pos i T _ _ E mid fun h2 st2 k2=>?_⟩
  have nw:=W.apart i T h' mid
  obtain⟨x',y',e1,e2,e3⟩:=hv'
  have e1':u=x':=by simpa [hu] using e1
  have e2':v=y':=by simpa [hv] using e2
  subst e1' e2' e3
  have tup2:h2.IsTuple T #[u,v]:=by
   obtain⟨o,eo,r⟩:=tup
   exact⟨o,k2 T o nw eo,r⟩
  have hn:H T=none:=I.hok.fresh hT
  refine⟨.ref T,upd H T (.tup [x,y]),I.turnedNew (ch:=[z,TO,i1,i2]) (fun c o hc e=>k2 c o hc (k c o hc e)) (fun c hc=>hf c ?_) hT ⟨?_,[u,v],.cons ru (.cons rv .nil),tup2⟩,rfl,⟨T,x,y,hn,rfl,rfl,fun xs' ys' qa' qb'=>?_⟩,?_,fun c hc=>?_⟩
  ·simp only[List.mem_cons,List.not_mem_nil,or_false] at hc ⊢
   rcases hc with h | h | h | h
   ·exact .inl h
   ·exact .inr (.inr (.inl h))
   ·exact .inr (.inr (.inr (.inl h)))
   ·exact .inr (.inr (.inr (.inr h)))
  ·show 2≤sizeLine
   rw[sizeLine_eq];decide
  ·rw[I.list_inj qa' qa,I.list_inj qb' qb]
   exact⟨ex,ey⟩
  ·obtain⟨g1,g2,g3,g4,g5,_⟩:=st2
   exact⟨g1,g2,g3,g4,g5⟩
  ·have hlt:c<s.heap.objs.size:=by
    simp only[List.mem_cons,List.not_mem_nil,or_false] at hc
    obtain⟨p,q,h3⟩:=h3
    obtain⟨o4,e4,_⟩:=h4
    obtain⟨o5,e5,_⟩:=h5
    rcases hc with rfl | rfl | rfl | rfl | rfl
    ·exact Heap.lt_size h1
    ·exact Heap.lt_size h2
    ·exact Heap.lt_size h3
    ·exact Heap.lt_size e4
    ·exact Heap.lt_size e5
   rw[upd_ne (Nat.ne_of_lt (Nat.lt_of_lt_of_le hlt hT))]
   exact(hf c hc).1
 done:=by
  intro X hP hw hK hc i pins s σ H E I hf st hg
  subst hP hw hK
  obtain⟨xs,ys,qa,qb,e⟩:=hg
  obtain⟨us,ra,pa,_⟩:=I.list qa
  obtain⟨ws,rb,pb,_⟩:=I.list qb
  have la:=ra.length
  have lb:=rb.length
  obtain⟨h1,h2,h3,h4,h5⟩:=st
  have W:=WalksT.zip2 (prog:=X.prog) (w:=X.w) (I.ok.hd hc) z TI TO i1 i2 a b D us.toArray ws.toArray
  have en:i=min us.toArray.size ws.toArray.size:=by simp;omega
  rw[en] at h4 h5
  refine W.done s _ E ⟨h1,h2,h3,h4,h5,pa.isList,pb.isList⟩ fun h' tk k=>⟨rfl,I.turnedL (ch:=[z,TO,i1,i2]) (fun c o hc e=>k c o hc e) fun c hc=>hf c ?_⟩
  simp only[List.mem_cons,List.not_mem_nil,or_false] at hc ⊢
  rcases hc with h | h | h | h
  ·exact .inl h
  ·exact .inr (.inr (.inl h))
  ·exact .inr (.inr (.inr (.inl h)))
  ·exact .inr (.inr (.inr (.inr h)))
 self:=fun _ _ _ _ _ st h=>wpAny_pyIter_zip st.1 h
theorem zapart{n a b:Nat}(ha:a<n)(hb:b<n):ZipApart (n+4) (n+2) (n+3) n (n+1) a b:=
 ⟨show n+2≠n+4 by omega,show n+3≠n+4 by omega,show n≠n+4 by omega,show n+1≠n+4 by omega,show n+2≠n+3 by omega,show n+2≠n by omega,show n+2≠n+1 by omega,show n+3≠n by omega,show n+3≠n+1 by omega,show n≠n+1 by omega,
  show a≠n+4 by omega,show a≠n+3 by omega,show a≠n by omega,show a≠n+1 by omega,show b≠n+4 by omega,show b≠n+3 by omega,show b≠n by omega,show b≠n+1 by omega⟩
def iZip(K:PySem.W.Frag)(ta:TA):TI:=fun σ H R=>ta σ H fun vs H1=>∃a b,vs=[.ref a,.ref b]∧(∃xs ys,SqL K H1 a xs∧SqL K H1 b ys)∧R (Itz K a b) H1
section
variable{X:Cx}
theorem pi_zip{a b:Expr}{ta:TA}{p pos:Pos}{es:List Expr}{kk:Nat}{tp:Pos}(hg:Gl X "zip")(hm:X.mg "zip"=none)(ha:PA X [a,b] ta)(hs:starEach [a,b] X.env=[(false,eval a X.env),(false,eval b X.env)]:=by rfl)(hs2:starEach [b] X.env=[(false,eval b X.env)]:=by rfl):
 PI X (.Tuple es kk tp) (.Call (.Name "zip" p) [a,b] [] pos) (iZip X.K ta):=by
 intro pins s σ H R I h
 refine Call_ (ld_blt I hg hm boot_zip (PyProof.Rows.callWith_type1 (thn (ha pos pins s σ H _ I h) fun us s1 ⟨vs,H1,I1,r1,q1⟩=>?_) (by rw[hs,hs2]) (by rw[hs2];rfl)))
 obtain⟨x,y,e,⟨xs,ys,qa,qb⟩,q⟩:=q1
 subst e
 obtain⟨ia,ra,pa,_⟩:=I1.list qa
 obtain⟨ib,rb,pb,_⟩:=I1.list qb
 cases r1 with
 | cons r rr=>
  cases rr with
  | cons r' rr=>
   cases rr
   cases (show _=Value.ref x from r)
   cases (show _=Value.ref y from r')
   have l1:x<s1.heap.objs.size:=by obtain⟨o,eo,_⟩:=pa.isList;exact Heap.lt_size eo
   have l2:y<s1.heap.objs.size:=by obtain⟨o,eo,_⟩:=pb.isList;exact Heap.lt_size eo
   refine call_zip_2 pa.isList pb.isList fun h' hz hTI hTO hi1 hi2 hsz hk=>?_
   refine wpAny_pyIter_zip hz ?_
   have D:ZipApart (s1.heap.objs.size+4) (s1.heap.objs.size+2) (s1.heap.objs.size+3) s1.heap.objs.size (s1.heap.objs.size+1) x y:=zapart l1 l2
   have n1:∀j,H1 (s1.heap.objs.size+j)=none:=fun j=>I1.hok.fresh (Nat.le_add_right _ _)
   refine⟨_,_,_,_,H1,rfl,I1.kept (t':=s1.toks) fun c o e=>hk c o e,turn_zip _ _ _ _ _ x y D,⟨hz,hTI,⟨_,_,hTO⟩,hi1,hi2⟩,fun c hc=>?_,q⟩
   have hcs:s1.heap.objs.size≤c:=by
    simp only[List.mem_cons,List.not_mem_nil,or_false] at hc
    rcases hc with rfl | rfl | rfl | rfl | rfl
    ·exact Nat.le_add_right _ _
    ·exact Nat.le_add_right _ _
    ·exact Nat.le_add_right _ _
    ·exact Nat.le_refl _
    ·exact Nat.le_add_right _ _
   exact I1.fpOk hcs (I1.hok.fresh hcs)
end
theorem rd_zip{K:PySem.W.Frag}{ta:TA}{σ:St}{H:Hp}{R:It→Hp→Prop}(h:ta σ H fun vs H1=>∃a b,vs=[.ref a,.ref b]∧(∃xs ys,SqL K H1 a xs∧SqL K H1 b ys)∧R (Itz K a b) H1):iZip K ta σ H R:=h
section
variable{X:Cx}
theorem ps_setCompT{M:List Str}{elt iter tg:Expr}{xs:List Str}{y:Str}{py pos spos:Pos}{ifs:List Expr}{scope:Scope}{cl:List (Str×Addr)}{wi:TI}{g:TG}{tt:TT}{te:TE}{i:Nat}(hN:X.N.Nodup)(hiy:X.N[i]?=some y)(hy:Loc X.env.scope y)
 (hc:X.calm=true)(ok:CompOkT X M xs scope cl)(hi:PI X tg iter wi)
 (ht:∀C s₀ H₀ fp,PIfs (compCxT X M xs scope cl C s₀ H₀ fp) ifs tt)(hg:∀C s₀ H₀ fp,PG (compCxT X M xs scope cl C s₀ H₀ fp) tg g)(he:∀C s₀ H₀ fp,PE (compCxT X M xs scope cl C s₀ H₀ fp) elt te)
 (hsw:swapsWith (.ListComp elt [⟨tg,iter,ifs,0⟩] scope pos) (some (.Name y py)) spos.line X.env=pure true:=by with_unfolding_all rfl)
 (hf:X.fn y=true∨X.env.scope.names.lookup y=some .local:=by first | exact .inl rfl | exact .inr rfl | assumption)
 (hs:∀x,foldedSetIterable iter X.env x=pure x:=by intro _;rfl):
 PS X (.Assign [.Name y py] (.ListComp elt [⟨tg,iter,ifs,0⟩] scope pos) spos) (tAsg (tCompT xs.length wi g tt te) (gName i)):=by
 intro pins s σ H D I h
 rw[exec_Assign_Name_used _ _ _ _ hsw]
 refine wpAny_bind (wpAny_standAt (wpAny_bind ?_))
 show wpAny _ X.A (do let _ ←comprehension (.ListComp elt [⟨tg,iter,ifs,0⟩] scope pos) scope X.env _ (newList []) false (eval iter X.env) (some (assign (.Name y py) X.env))) _ _ s
 refine wpAny_bind (wpAny_mono (wpAny_comprehension_free (use:=some (assign (.Name y py) X.env)) (Q:=fun _ s'=>SP X pins D .next s') rfl hs ok.clos ok.kind ok.names
  (thn (hi pins s σ H _ I h) fun xv s1 h1=>thn h1 fun itv s2 h2=>?_)) (fun _ s' hq=>wpAny_pure (wpAny_pure hq)) fun _ _ e=>e)
 obtain⟨it,fp,tn,J,H2,e,I2,T,st2,f2,hW⟩:=h2
 subst e
 refine comp_coreT (Q:=fun x H1=>gName i x σ H1 D.nx) hc ok ht hg he I2 T st2 f2 hW (compPost (model X.prog X.w) X.A X.xe (some (assign (.Name y py) X.env)) (fun _ s'=>SP X pins D .next s')) fun Dd C H3 s4 I4 hm fC q=>?_
 obtain⟨m,hn⟩:=hm
 show wpAny _ X.A (assign (.Name y py) X.env (.ref Dd)) _ _ _
 refine wpAny_assign_Name (store_ok2 I4 hN hiy hy (v:=.ref Dd) rfl (fun s5 I5 hsb=>?_) hf)
 obtain⟨a,sb,ha⟩:=hsb
 have hCa:C≠a:=by
  rcases ha with rfl | ha
  ·exact fC.2.1
  ·exact(fC.2.2.2.2.1 _ _ ha).symm
 exact⟨m,hn.sameBut sb hCa,fun h' hsb'=>⟨_,H3,I5.turned (t':=s5.toks) (fun b o hb e=>hsb'.extBut b o hb e) fC.1 fC.2.1 fC.2.2.2.1 fC.2.2.2.2.1 fC.2.2.2.2.2,q⟩⟩
end
end L2
set_option Elab.async false
set_option linter.all false
set_option maxRecDepth 100000
set_option maxHeartbeats 4000000
namespace L2
open PySem PySem.Spec PyProof.Rows
structure BInit(K:PySem.W.Frag)(mg:Str→Option Value)(x:Str)(CB f:Addr):Prop where
 bound:mg x=some (.ref CB)
 sp:PySem.W.specialIn K (.ref CB) "__getattribute__"=some (some (.builtin "type.__getattribute__"))
 rd:PySem.W.readsIn K CB (.type "type")=true
 fc:PySem.W.findCls K (.ref CB) (.type "type") "__init__"=some (.val (.ref f))
 kp:PySem.W.keepIn K (.ref f)=true
structure CalB(P:Program)(w:World)(K:PySem.W.Frag)(mg:Str→Option Value)(base:Heap)(k:Nat)(x:Str)(ps:List Str)(sp:Sp):Prop where
 ex:∃(f CB:Addr) (fd:FuncData),FnOk P w K mg base CX0 k f fd ps sp∧Binds K fd ps []∧BInit K mg x CB f
section
variable{X:Cx}
theorem pe_binit{x:Str}{k:Nat}{ps:List Str}{sp:Sp}{e:Expr}{es:List Expr}{t:TA}{p apos pos:Pos}{pl:Sem Bool}(O:CalB X.prog X.w X.K X.mg X.base k x ps sp)(hr:Room k X.A)(hg:Gl X x)(ha:PA X (e::es) t)
 (hdb:(x==("__debug__":Str))=false:=by decide)(hst:starEach (e::es) X.env=(false,eval e X.env)::starEach es X.env:=by rfl)(hpl:(backTo pos (starEach es X.env)).any (·.1)=false:=by rfl)
 (ht:eval (.Call (.Attribute (.Name x p) "__init__" apos) (e::es) [] pos) X.env=(do
  let ov ←eval (.Name x p) X.env
  standAt apos.atName
  let (f,first) ←holding [ov] (getMethod ov "__init__" pl)
  callWith pos f first (backTo pos (starEach (e::es) X.env)) (backToKw pos (keywordEach [] X.env))):=by rfl):
 PE X (.Call (.Attribute (.Name x p) "__init__" apos) (e::es) [] pos) (tCall sp [] E0 t):=by
 intro pins s σ H Q I h
 obtain⟨f,CB,fd,F,hb,N⟩:=O.ex
 refine PySem.W.methodCall_KW (pl:=pl) (ld_glob I hg N.bound ?_ hdb) ht
 refine PySem.W.method_cls I.kIn N.sp (PySem.W.cls_value I.kIn N.rd N.fc rfl ?_)
 have I1:Inv X pins σ H { s with toks:=s.toks+1 }:=I.tok _
 refine PySem.W.callWith_K (first:=[]) (h₀:=X.base) I.ok.mod.kin N.kp (thn (ha pos pins _ σ H _ I1 h) fun us s2 ⟨vs,H2,I2,r,q2⟩=>⟨I2.kIn,?_⟩) hst hpl
 exact run_fn (us:=us) (vs:=vs) F hr hb .nil pass0 I2 r q2
theorem pe_mk0{k:Nat}{x:Str}{C:Addr}{ps:List Str}{sp:Sp}{p pos:Pos}(O:CalI X.prog X.w X.K X.mg X.base CX0 k x C ps sp)(hr:Room (k+1) X.A)(hg:Gl X x)
 (hdb:(x==("__debug__":Str))=false:=by decide):PE X (.Call (.Name x p) [] [] pos) (tMake C sp [] E0 tNil):=by
 obtain⟨f,fd,F,hb,M,hm⟩:=O.ex
 exact pe_make0 M F hr hg hm hb .nil pass0 hdb
def rIsiO(K:PySem.W.Frag):List V→Hp→VK→Prop:=fun xs H Q=>∃x c t b,xs=[x,.ref c]∧TyOf K H x t∧PySem.W.kitOne K t (.ref c)=some b∧Q (.bl b) H
theorem call_isiO:CallR X (.builtin "isinstance") (rIsiO X.K):=by
 intro pins s σ H xs us Q I r h
 obtain⟨x,c,t,b,rfl,ty,e,q⟩:=h
 obtain⟨u,w',rfl,r1,r2⟩:=vals2 r
 cases (show w'=Value.ref c from r2)
 exact isinst_ok I r1 ty e fun tk=>⟨.bl b,H,I.tok tk,rfl,q⟩
theorem rd_isiO{K:PySem.W.Frag}{x:V}{c:Addr}{t:Value}{b:Bool}{H:Hp}{Q:VK}(ty:TyOf K H x t)(e:PySem.W.kitOne K t (.ref c)=some b)(h:Q (.bl b) H):rIsiO K [x,.ref c] H Q:=⟨x,c,t,b,rfl,ty,e,h⟩
end
end L2
set_option Elab.async false
set_option linter.all false
set_option maxRecDepth 100000
set_option maxHeartbeats 4000000
namespace L2
open PySem PySem.Spec PyProof.Rows
section
variable{X:Cx}
end
section
variable{X:Cx}
end
end L2
set_option Elab.async false
set_option linter.all false
set_option maxRecDepth 100000
set_option maxHeartbeats 4000000
namespace L2
open PySem PySem.Spec PyProof.Rows PySem.Builtin PySem.Builtin.Str
def plc(c:Nat):Nat→List Nat→List Nat
 | _,[]=>[]
 | k,a::l=>if a=c then k::plc c (k+1) l else plc c (k+1) l
def spl(c:Nat):List Nat→List (List Nat)
 | []=>[[]]
 | a::l=>if a=c then []::spl c l else ((a::(spl c l).headD [])::(spl c l).drop 1)
theorem spl_at(c:Nat)(l:List Nat):spl c (c::l)=[]::spl c l:=by
 conv=>lhs;unfold spl
 rw[if_pos rfl]
theorem spl_not{c a:Nat}(l:List Nat)(h:a≠c):spl c (a::l)=(a::(spl c l).headD [])::(spl c l).drop 1:=by
 conv=>lhs;unfold spl
 rw[if_neg h]
theorem str_eq{a b:Str}(h:a.cps=b.cps):a=b:=by
 cases a
 cases b
 exact congrArg Str.mk h
theorem spl_ne(c:Nat):∀l,spl c l≠[]
 | []=>fun h=>nomatch h
 | a::l=>by
  unfold spl
  split
  ·exact fun h=>nomatch h
  ·exact fun h=>nomatch h
theorem spl_eta(c:Nat)(l:List Nat):spl c l=(spl c l).headD []::(spl c l).drop 1:=by
 have:=spl_ne c l
 cases h:spl c l with
 | nil=>exact absurd h this
 | cons p ps=>rfl
theorem plc_len(c:Nat):∀(l:List Nat) (k:Nat),(plc c k l).length+1=(spl c l).length
 | [],_=>rfl
 | a::l,k=>by
  have ih:=plc_len c l (k+1)
  unfold plc spl
  split
  ·rw[List.length_cons,List.length_cons,ih]
  ·rw[ih,spl_eta c l]
   rfl
theorem plc_count(c:Nat):∀(l:List Nat) (k:Nat),(plc c k l).length=l.count c
 | [],_=>rfl
 | a::l,k=>by
  have ih:=plc_count c l (k+1)
  unfold plc
  rw[List.count_cons]
  split
  ·rename_i h
   rw[List.length_cons,ih,if_pos (by simpa using h)]
  ·rename_i h
   rw[ih,if_neg (by simpa using h)]
   rfl
theorem parts_spl(c:Nat)(L:List Nat):∀(l:List Nat) (k s0:Nat),L.drop k=l→s0≤k→k≤L.length→
 ((s0::(plc c k l).map (· +1)).zip (plc c k l++[L.length])).map (fun (ij:Nat×Nat)=>(L.drop ij.1).take (ij.2-ij.1))=((L.drop s0).take (k-s0)++(spl c l).headD [])::(spl c l).drop 1
 | [],k,s0,h,h1,h2=>by
  have e:k=L.length:=by
   have:=congrArg List.length h
   rw[List.length_drop] at this
   simp at this
   omega
  subst e
  show[(L.drop s0).take (L.length-s0)]=[(L.drop s0).take (L.length-s0)++[]]
  rw[List.append_nil]
 | a::l,k,s0,h,h1,h2=>by
  have kl:k<L.length:=by
   have:=congrArg List.length h
   rw[List.length_drop,List.length_cons] at this
   omega
  have hd:L.drop (k+1)=l:=by
   rw[←List.drop_drop,h]
   rfl
  unfold plc spl
  split
  ·have ih:=parts_spl c L l (k+1) (k+1) hd (Nat.le_refl _) kl
   rw[List.map_cons,List.cons_append,List.zip_cons_cons,List.map_cons,ih,Nat.sub_self,List.take_zero,List.nil_append,←spl_eta]
   show _=((L.drop s0).take (k-s0)++[])::spl c l
   rw[List.append_nil]
  ·have ih:=parts_spl c L l (k+1) s0 hd (by omega) kl
   rw[ih]
   have e:(L.drop s0).take (k+1-s0)=(L.drop s0).take (k-s0)++[a]:=by
    have hk:(L.drop s0)[k-s0]?=some a:=by
     rw[List.getElem?_drop,show s0+(k-s0)=k by omega]
     have:=congrArg (fun z=>z[0]?) h
     simpa [List.getElem?_drop] using this
    rw[show k+1-s0=(k-s0)+1 by omega,List.take_add_one,hk]
    rfl
   rw[e,List.append_assoc]
   rfl
def cps(z:Str):List Nat:=z.cps.toList
theorem cps_len(z:Str):(cps z).length=z.length:=Array.length_toList
theorem occ_run(x:Str)(c:Nat):∀(n k free:Nat) (acc:Array Nat),k+n=x.length+1→free≤k→acc.size≤k→
 (forIn (List.range' k n) (acc,free) (StrLaws.occBody x ⟨#[c]⟩ x.length (x.length+1))).run.fst.toList=acc.toList++plc c k ((cps x).drop k)
 | 0,k,free,acc,h,_,_=>by
  rw[List.drop_of_length_le (by rw[cps_len];omega)]
  show acc.toList=acc.toList++[]
  rw[List.append_nil]
 | n+1,k,free,acc,h,hf,ha=>by
  rw[List.range'_succ,List.forIn_cons]
  have one:(⟨#[c]⟩:Str).length=1:=rfl
  by_cases z:(cps x)[k]?=some c
  ·have kl:k<(cps x).length:=(List.getElem?_eq_some_iff.mp z).1
   have hs:=(StrLaws.subAt_one x c k).mpr z
   have ed:(cps x).drop k=c::(cps x).drop (k+1):=by
    rw[List.drop_eq_getElem_cons kl,(List.getElem?_eq_some_iff.mp z).2]
   have ih:=occ_run x c n (k+1) (k+1) (acc.push k) (by omega) (Nat.le_refl _) (by rw[Array.size_push];omega)
   unfold StrLaws.occBody
   rw[if_pos ⟨⟨⟨by show acc.size<x.length+1;omega,hf⟩,hs.1⟩,hs.2⟩,ed]
   unfold plc
   rw[if_pos rfl]
   have e2:acc.toList++k::plc c (k+1) ((cps x).drop (k+1))=(acc.push k).toList++plc c (k+1) ((cps x).drop (k+1)):=by
    rw[Array.toList_push,List.append_assoc]
    rfl
   rw[e2]
   exact ih
  ·have hs:¬(k+(⟨#[c]⟩:Str).length≤x.length∧subAt x ⟨#[c]⟩ k=true):=fun y=>z ((StrLaws.subAt_one x c k).mp y)
   have ih:=occ_run x c n (k+1) free acc (by omega) (by omega) (by omega)
   have ep:plc c k ((cps x).drop k)=plc c (k+1) ((cps x).drop (k+1)):=by
    by_cases kl:k<(cps x).length
    ·rw[List.drop_eq_getElem_cons kl]
     have:(cps x)[k]≠c:=fun y=>z (by rw[List.getElem?_eq_getElem kl,y])
     show(if (cps x)[k]=c then _ else _)=_
     rw[if_neg this]
    ·rw[List.drop_of_length_le (by omega),List.drop_of_length_le (by omega)]
     rfl
   unfold StrLaws.occBody
   rw[if_neg fun y=>hs ⟨y.1.2,y.2⟩,ep]
   exact ih
theorem occ_plc(x:Str)(c:Nat):occurrences x ⟨#[c]⟩ 0 x.length (x.length+1)=plc c 0 (cps x):=by
 rw[StrLaws.occ_eq]
 have:=occ_run x c (x.length+1) 0 0 #[] (by omega) (Nat.le_refl _) (Nat.le_refl _)
 simpa using this
theorem parts_eq(x:Str)(c:Nat):partsBetween x (plc c 0 (cps x)) 1=(spl c (cps x)).map fun p=>(⟨p.toArray⟩:Str):=by
 have h:=parts_spl c (cps x) (cps x) 0 0 rfl (Nat.le_refl _) (Nat.zero_le _)
 rw[List.take_zero,List.nil_append,←spl_eta] at h
 rw[←h,List.map_map]
 unfold partsBetween
 rw[←cps_len]
 refine List.map_congr_left fun ij _=>?_
 refine str_eq (Array.toList_inj.mp ?_)
 rw[StrLaws.strSub_toList]
 rfl
section
variable{X:Cx}
theorem strs_of:∀(ps:List Str) (tk:Nat),Vals (ps.map V.str) (strsFrom tk ps)
 | [],_=>.nil
 | p::ps,tk=>.cons ⟨tk,rfl⟩ (strs_of ps (tk+1))
theorem strsAre_of:∀{zs:List Str} {us:List Value},Vals (zs.map V.str) us→StrsAre us zs
 | [],_,.nil=>.nil
 | z::zs,_,.cons r rs=>by
  obtain⟨t,rfl⟩:=(show ∃t,_=Value.str z t from r)
  exact .cons z t (strsAre_of rs)
def splS(c:Nat)(z:Str):List Str:=(spl c (cps z)).map fun p=>(⟨p.toArray⟩:Str)
theorem splS_len(c:Nat)(z:Str):(splS c z).length≤z.length+1:=by
 unfold splS
 rw[List.length_map,←plc_len c (cps z) 0,plc_count,←cps_len]
 exact Nat.succ_le_succ List.count_le_length
theorem splS_single{c:Nat}{z:Str}(h:plc c 0 (cps z)=[]):splS c z=[z]:=by
 have e:=parts_eq z c
 rw[h] at e
 unfold splS
 rw[←e]
 show[strSub z 0 z.length]=[z]
 refine congrArg (fun y=>[y]) (str_eq (Array.toList_inj.mp ?_))
 rw[StrLaws.strSub_toList,List.drop_zero,Nat.sub_zero]
 exact List.take_of_length_le (by show z.cps.toList.length≤z.cps.size;rw[Array.length_toList];exact Nat.le_refl _)
def rSplit:V→List V→Hp→VK→Prop:=fun x xs H Q=>∃z c,x=.str z∧xs=[.str ⟨#[c]⟩]∧c<256∧z.length≤1000000∧∀l,H l=none→Q (.ref l) (upd H l (.lst ((splS c z).map V.str)))
theorem mt_split:MtR X "str.split" rSplit:=by
 intro pins s σ H x xs v us Q I rx rs h
 obtain⟨z,c,rfl,rfl,hc,hz,q⟩:=h
 obtain⟨t,rfl⟩:=(show ∃t,v=Value.str z t from rx)
 obtain⟨u,rfl,ru⟩:=vals1 rs
 obtain⟨t',rfl⟩:=(show ∃t,u=Value.str ⟨#[c]⟩ t from ru)
 have sl:z.length+1≤sizeLine:=Nat.le_trans (Nat.succ_le_succ hz) (by decide)
 have one:(⟨#[c]⟩:Str).length=1:=rfl
 have itself:splS c z=[z]→EP X pins σ Q (.ref s.heap.objs.size) { s with heap:=s.heap.push { cls:=.type "list",data:=.seq [Value.str z t].toArray } }:=fun e=>by
  refine⟨.ref _,_,I.laid (a:=s.heap.objs.size) (o:=.lst ((splS c z).map V.str)) (fun _ _ e=>Heap.get?_push_of_some _ e) (Nat.le_refl _) ⟨by rw[e];show 1≤sizeLine;decide,[Value.str z t],0,by rw[e];exact .cons ⟨t,rfl⟩ .nil,Heap.get?_push_size _ rfl⟩,rfl,q _ I.fresh⟩
 by_cases h1:(decide (z.length<(⟨#[c]⟩:Str).length)||decide (PySem.Builtin.Str.strKind z<PySem.Builtin.Str.strKind ⟨#[c]⟩))=true
 ·have e:splS c z=[z]:=by
   have k1:PySem.Builtin.Str.strKind (⟨#[c]⟩:Str)=1:=by
    unfold PySem.Builtin.Str.strKind
    simp[hc]
   have k0:1≤PySem.Builtin.Str.strKind z:=by
    unfold PySem.Builtin.Str.strKind
    repeat' split
    all_goals omega
   rw[k1,one,decide_eq_false (show ¬PySem.Builtin.Str.strKind z<1 by omega),Bool.or_false,decide_eq_true_eq] at h1
   refine splS_single ?_
   have:cps z=[]:=List.length_eq_zero_iff.mp (by rw[cps_len];omega)
   rw[this]
   rfl
  exact call_meets F.slot_str_split (typeIs_str _ _ _) F.entry_str_split (F.args_str_split_2 _ _) (meets_str_split_cannot_occur z ⟨#[c]⟩ t t' h1) (itself e)
 ·have h1':=(Bool.not_eq_true _).mp h1
  by_cases h2:(occurrences z ⟨#[c]⟩ 0 z.length (z.length+1)).isEmpty=true
  ·have e:splS c z=[z]:=by
    rw[occ_plc,List.isEmpty_iff] at h2
    exact splS_single h2
   exact call_meets F.slot_str_split (typeIs_str _ _ _) F.entry_str_split (F.args_str_split_2 _ _) (meets_str_split_not_found z ⟨#[c]⟩ t t' h1' rfl h2) (itself e)
  ·have h2':=(Bool.not_eq_true _).mp h2
   have ep:partsBetween z (occurrences z ⟨#[c]⟩ 0 z.length (z.length+1)) (⟨#[c]⟩:Str).length=splS c z:=by rw[occ_plc];exact parts_eq z c
   refine call_meets F.slot_str_split (typeIs_str _ _ _) F.entry_str_split (F.args_str_split_2 _ _) (meets_str_split_sep z ⟨#[c]⟩ t t' h1' rfl h2' (by omega) (by rw[ep];exact Nat.le_trans (splS_len c z) sl)) ?_
   rw[ep]
   exact⟨.ref _,_,I.laid (a:=s.heap.objs.size) (o:=.lst ((splS c z).map V.str)) (fun _ _ e=>Heap.get?_push_of_some _ e) (Nat.le_refl _) ⟨by rw[List.length_map];exact Nat.le_trans (splS_len c z) sl,strsFrom s.toks (splS c z),0,strs_of _ _,Heap.get?_push_size _ rfl⟩,rfl,q _ I.fresh⟩
def rJoin(K:PySem.W.Frag):V→List V→Hp→VK→Prop:=fun x xs H Q=>∃z l zs,x=.str z∧xs=[.ref l]∧SqL K H l (zs.map V.str)∧(zs.map (·.length)).sum+zs.length*z.length≤16777216∧Q (.str (Txt.join z zs)) H
theorem mt_join:MtR X "str.join" (rJoin X.K):=by
 intro pins s σ H x xs v us Q I rx rs h
 obtain⟨z,l,zs,rfl,rfl,hl,hz,q⟩:=h
 obtain⟨t,rfl⟩:=(show ∃t,v=Value.str z t from rx)
 obtain⟨u,rfl,ru⟩:=vals1 rs
 obtain rfl:u=Value.ref l:=ru
 obtain⟨its,r,pl,_⟩:=I.list hl
 exact join_list pl.isList (by simpa using strsAre_of r) hz fun t' k=>⟨.str _,H,I.tok _,⟨_,rfl⟩,q⟩
end
end L2
set_option Elab.async false
set_option linter.all false
set_option maxRecDepth 100000
set_option maxHeartbeats 4000000
namespace L2
open PySem PySem.Spec PyProof.Rows
section
variable{s:Shared}{A:Around}{w:World}{prog:Program}
theorem lr_ext{R:Result→Shared→Prop}{g:Addr}{x y d:Int}{t1 t2 t3:Tok}{k:Nat}(ha:A.handled=none)(hg:IsRange s.heap g x y d t1 t2 t3)(big:Builtin.Range.small x y d=false)(ek:Builtin.Range.rangeSize x y d=k)(fits:k≤2^24)(L:Addr)(res:Value)(m0:Nat)
 (hL:s.heap.get? L=some { cls:=.type "list",data:=.seq #[] m0 })
 (fin:∀hp tk ys m,(∀e o,e≠L→s.heap.get? e=some o→hp.get? e=some o)→hp.get? L=some { cls:=.type "list",dict:=none,data:=.seq ys m,slots:= #[] }→ItemsOf (fun i v=>∃t,v=.int (x+i*d) t) ys k→R (.ok (.ret res)) { s with heap:=hp,toks:=tk }):
 wpAny (model prog w) A.in1 (Builtin.List.listExtendWith (.ref L) (.ref g) res)
  (fun z s'=>match z with | .done f=>R (.ok f) s' | .again m=>m.quiet=true∧codeAny (model prog w) A m R s') (fun e s'=>R (.error e) s') s:=by
 have Lg:L≠g:=fun z=>by rw[z,hg] at hL;simp at hL
 have Ll:L<s.heap.objs.size:=Heap.lt_size hL
 have Ln:L≠s.heap.objs.size:=Nat.ne_of_lt Ll
 have Lm:L∉[s.heap.objs.size]:=fun z=>Ln (List.mem_singleton.mp z)
 have Wl:=(Walks.longrange (prog:=prog) (w:=w) (A:=A.in1) ha s.heap.objs.size x d k).toS
 have loop:∀(hp:Heap) (m tk:Nat),IsLongIter hp s.heap.objs.size (x+((0:Nat):Int)*d) ((k:Int)-((0:Nat):Int)) d→(∀e o,e≠L→s.heap.get? e=some o→hp.get? e=some o)→hp.get? L=some { cls:=.type "list",data:=.seq #[] m }→
  codeAny (model prog w) A (.builtin "list.extend.loop" ⟨[.ref L,.ref s.heap.objs.size,res],[]⟩) R { s with heap:=hp,toks:=tk }:=fun hp m tk it keep hL1=>by
  refine codeAny_extend_loopS Wl (by rw[sizeLine_eq];omega) L Lm res k 0 _ #[] m rfl (Nat.zero_le _) it hL1 (ItemsOf.nil _) fun s2 ys m2 mv hL2 hy=>?_
  rw[Moved.eq_with mv]
  refine fin s2.heap s2.toks ys m2 (fun e o ne he=>mv.heap e o (fun z=>?_) (keep e o ne he)) hL2 hy
  have el:=Heap.lt_size he
  rcases List.mem_cons.mp z with z1 | z1
  ·exact ne z1
  ·exact absurd el (by rw[List.mem_singleton.mp z1];exact Nat.lt_irrefl _)
 unfold Builtin.List.listExtendWith;refine wpAny_bind (wpAny_typeOf (T:="range") ⟨_,hg,rfl⟩ ?_)
 have q1:Builtin.List.listSameRef (.ref L) (.ref g)=false:=by unfold Builtin.List.listSameRef;simp[Lg]
 simp only[q1,show(Value.type "range"==Value.type "list")=false by decide,show(Value.type "range"==Value.type "tuple")=false by decide,Bool.or_false,Bool.false_eq_true,if_false]
 refine wpAny_bind (wpAny_pyIter_longrange hg big ?_)
 refine wpAny_bind (wpAny_holding (wpAny_hint_range (n:=k) (Heap.get?_push_of_some _ hg) ek fits ?_))
 have it1:IsLongIter (s.heap.push { cls:=.type "longrange_iterator",data:=.fields #[rawInt x,rawInt (Builtin.Range.rangeSize x y d),rawInt d] }) s.heap.objs.size (x+((0:Nat):Int)*d) ((k:Int)-((0:Nat):Int)) d:=by
  rw[ek]
  show Heap.get? _ _=_
  simpa using Heap.get?_push_size s.heap rfl
 have L1:=Heap.get?_push_of_some { cls:=.type "longrange_iterator",data:=.fields #[rawInt x,rawInt (Builtin.Range.rangeSize x y d),rawInt d] } hL
 refine wpAny_ite_split (fun _=>?_) (fun _=>wpAny_pure ⟨plainId_quiet F.plain_extend_loop _,loop _ m0 _ it1 (fun e o _ he=>Heap.get?_push_of_some _ he) L1⟩)
 refine wpAny_bind (wpAny_rule (wpAny_bind ?_))
 show wpAny _ _ (updateSeq L (·.push .none) >>= fun _=>updateSeq L (·.pop)) _ _ _
 refine wpAny_bind (wpAny_updateSeq L1 rfl ?_)
 have L2':=Heap.get?_update_self (Obj.mapSeq (·.push Value.none)) L1 rfl
 refine wpAny_updateSeq (hz:=by seq_fits) L2' rfl ?_
 have L3:=Heap.get?_update_self (Obj.mapSeq (·.pop)) L2' rfl
 refine wpAny_pure ⟨plainId_quiet F.plain_extend_loop _,loop _ _ _ ?_ (fun e o ne he=>?_) L3⟩
 ·exact(Heap.get?_update_other _ _ Ln).trans ((Heap.get?_update_other _ _ Ln).trans it1)
 ·rw[Heap.get?_update_other _ _ (Ne.symm ne),Heap.get?_update_other _ _ (Ne.symm ne)]
  exact Heap.get?_push_of_some _ he
theorem lr_init{R:Result→Shared→Prop}{g:Addr}{x y d:Int}{t1 t2 t3:Tok}{k:Nat}(ha:A.handled=none)(hg:IsRange s.heap g x y d t1 t2 t3)(big:Builtin.Range.small x y d=false)(ek:Builtin.Range.rangeSize x y d=k)(fits:k≤2^24)(L:Addr)
 (hL:s.heap.get? L=some { cls:=.type "list",data:=.seq #[] })
 (fin:∀hp tk ys m,(∀e o,e≠L→s.heap.get? e=some o→hp.get? e=some o)→hp.get? L=some { cls:=.type "list",dict:=none,data:=.seq ys m,slots:= #[] }→ItemsOf (fun i v=>∃t,v=.int (x+i*d) t) ys k→R (.ok (.ret .none)) { s with heap:=hp,toks:=tk }):
 wpAny (model prog w) A.in1 (Builtin.«list.__init__» ⟨[.ref L,.ref g],[]⟩)
  (fun z s'=>match z with | .done f=>R (.ok f) s' | .again m=>m.quiet=true∧codeAny (model prog w) A m R s') (fun e s'=>R (.error e) s') s:=by
 have Lg:L≠g:=fun z=>by rw[z,hg] at hL;simp at hL
 show wpAny _ _ (Builtin.List.listItems (.ref L) >>= fun old=>Builtin.List.listUpdate (.ref L) (fun _=> #[]) >>= fun _=>letGo old.toList.reverse >>= fun _=>Builtin.List.listExtendWith (.ref L) (.ref g) .none) _ _ s
 refine wpAny_bind ?_
 unfold Builtin.List.listItems
 refine wpAny_bind (wpAny_seqItems hL rfl (wpAny_pure ?_))
 show wpAny _ _ (updateSeq L (fun _=> #[]) >>= fun _=>letGo (#[]:Array Value).toList.reverse >>= fun _=>Builtin.List.listExtendWith (.ref L) (.ref g) .none) _ _ s
 refine wpAny_bind (wpAny_updateSeq hL rfl ?_)
 have L1:=Heap.get?_update_self (Obj.mapSeq (fun _=>(#[]:Array Value))) hL rfl
 have keep:∀e o,e≠L→s.heap.get? e=some o→(s.heap.update L (Obj.mapSeq (fun _=>(#[]:Array Value)))).get? e=some o:=fun e o ne he=>by
  rw[Heap.get?_update_other _ _ (Ne.symm ne)]
  exact he
 refine wpAny_bind (wpAny_letGo (lr_ext ha (keep g _ (Ne.symm Lg) hg) big ek fits L .none _ L1 fun hp tk ys m k1 k2 k3=>?_))
 exact fin hp tk ys m (fun e o ne he=>k1 e o ne (keep e o ne he)) k2 k3
theorem lr_call{E:Value→Shared→Prop}{Q:Value→Shared→Prop}{g:Addr}{x y d:Int}{t1 t2 t3:Tok}{k:Nat}(ha:A.handled=none)(hg:IsRange s.heap g x y d t1 t2 t3)(ek:Builtin.Range.rangeSize x y d=k)(fits:k≤2^24)
 (fin:∀hp tk ys m,(∀e o,s.heap.get? e=some o→hp.get? e=some o)→hp.get? s.heap.objs.size=some { cls:=.type "list",dict:=none,data:=.seq ys m,slots:= #[] }→ItemsOf (fun i v=>∃t,v=.int (x+i*d) t) ys k→Q (.ref s.heap.objs.size) { s with heap:=hp,toks:=tk }):
 wpAny (model prog w) A (call (.type "list") [.ref g]) Q E s:=by
 by_cases sm:Builtin.Range.small x y d=true
 ·exact call_list_range ha hg sm ek fits fin
 have big:Builtin.Range.small x y d=false:=by simpa using sm
 refine callType_codes (Q₁:=fun u s2=>u=.ref s.heap.objs.size∧s2={ s with heap:=s.heap.push { cls:=.type "list",data:=.seq #[] } }) F.called_list (F.typeCall_list_1 _) F.entry_list_init (code_list_new _ ⟨rfl,rfl⟩) fun u s2 z=>?_
 obtain⟨rfl,rfl⟩:=z
 have L0:(s.heap.push { cls:=.type "list",data:=.seq #[] }).get? s.heap.objs.size=some { cls:=.type "list",data:=.seq #[] }:=Heap.get?_push_size _ rfl
 refine⟨⟨_,L0,rfl⟩,F.args_list_init_2 _ _,lr_init (A:=A.in1) ha (Heap.get?_push_of_some _ hg) big ek fits _ L0 fun hp tk ys m k1 k2 k3=>⟨rfl,?_⟩⟩
 refine fin hp tk ys m (fun e o he=>k1 e o ?_ (Heap.get?_push_of_some _ he)) k2 k3
 exact Nat.ne_of_lt (Heap.lt_size he)
end
section
variable{X:Cx}
def tLRA(ta:TA):TE:=fun σ H Q=>ta σ H fun vs H1=>∃(i j:Int),vs=[.int i,.int j]∧i≤j∧j-i≤1000000∧
 ∀l,H1 l=none→Q (.ref l) (upd H1 l (.lst ((List.range (j-i).toNat).map fun(k:Nat)=>V.int (i+(k:Int)))))
theorem rd_lra{ta:TA}{σ:St}{H:Hp}{Q:VK}(h:ta σ H fun vs H1=>∃(i j:Int),vs=[.int i,.int j]∧i≤j∧j-i≤1000000∧
 ∀l,H1 l=none→Q (.ref l) (upd H1 l (.lst ((List.range (j-i).toNat).map fun(k:Nat)=>V.int (i+(k:Int)))))):tLRA ta σ H Q:=h
theorem pe_lrangeA{a b:Expr}{ta:TA}{p p2 pos pos2:Pos}(hc:X.calm=true)(hgl:Gl X "list")(hml:X.mg "list"=none)(hgr:Gl X "range")(hmr:X.mg "range"=none)(ha:PA X [a,b] ta)
 (hs:starEach [a,b] X.env=(false,eval a X.env)::starEach [b] X.env:=by rfl)(hpl:(backTo pos2 (starEach [b] X.env)).any (·.1)=false:=by rfl)
 (hs1:starEach [.Call (.Name "range" p2) [a,b] [] pos2] X.env=(false,eval (.Call (.Name "range" p2) [a,b] [] pos2) X.env)::starEach [] X.env:=by rfl):
 PE X (.Call (.Name "list" p) [.Call (.Name "range" p2) [a,b] [] pos2] [] pos) (tLRA ta):=by
 intro pins s σ H Q I h
 refine wpAny_Call_Name_kw (ld_blt I hgl hml boot_list ?_ (by decide) (by decide))
 refine PyProof.Rows.callWith_type1 ?_ hs1 rfl
 rw[hs1]
 show wpAny _ _ (spliced ((false,eval _ X.env)::backTo pos (starEach [] X.env))) _ _ s
 refine Calls.spliced_cons ?_
 refine Call_ (ld_blt I hgr hmr boot_range (PyProof.Rows.callWith_type1 (thn (ha pos2 pins s σ H _ I h) fun us s1 ⟨vs,H1,I1,r1,q1⟩=>?_) hs hpl))
 obtain⟨i,j,rfl,ij,hz,q⟩:=q1
 cases r1 with
 | cons r rr=>
  cases rr with
  | cons r' rr=>
   cases rr
   obtain⟨t,rfl⟩:=r
   obtain⟨t',rfl⟩:=r'
   refine call_range_2 (Calls.spliced_nil ?_)
   have I2:Inv X pins σ H1 { s1 with heap:=s1.heap.push { cls:=.type "range",data:=.fields #[.int i t,.int j t',.int 1 s1.toks] },toks:=s1.toks+1 }:=I1.kept fun b o e=>Heap.get?_push_of_some _ e
   have en:Builtin.Range.rangeSize i j 1=(((j-i).toNat:Nat):Int):=by rw[rangeSize_one];split<;>omega
   refine lr_call (I2.ok.hd hc) (IsRange.new ..) en (by omega) fun h' tk acc' c' hk hS' hacc=>?_
   have hl:acc'.toList.length=(j-i).toNat:=by simpa using hacc.1
   have ef:(fun (k:Nat)=>V.int (i+(k:Int)))=fun(k:Nat)=>V.int (i+(k:Int)*1):=by funext k;rw[Int.mul_one]
   rw[ef] at q
   refine⟨.ref _,_,I2.laid (o:=.lst ((List.range (j-i).toNat).map fun(k:Nat)=>V.int (i+(k:Int)*1))) hk (Nat.le_refl _) ⟨?_,acc'.toList,c',?_,by simpa using hS'⟩,rfl,q _ I2.fresh⟩
   ·rw[List.length_map,List.length_range,sizeLine_eq]
    omega
   ·have:=vals_of_itemsS (lo:=i) (c:=1) acc'.toList 0 fun j v hv=>by rw[Nat.zero_add];exact hacc.2 j v (by simpa using hv)
    rw[hl,←List.range_eq_range'] at this
    exact this
end
end L2
set_option Elab.async false
set_option linter.all false
set_option maxRecDepth 100000
set_option maxHeartbeats 4000000
namespace L2
open PySem PySem.Spec PyProof.Rows
section
variable{X:Cx}
end
end L2
set_option Elab.async false
set_option linter.all false
set_option maxRecDepth 100000
set_option maxHeartbeats 4000000
namespace L2
open PySem PySem.Spec PyProof.Rows
section
variable{M:Model}{A:Around}{E:Value→Shared→Prop}{s:Shared}{base:Heap}{env:Env}{outer l:List Env}{L e:Addr}{cls:Value}{dd:Option Addr}{fl:Value}
end
section
variable{X:Cx}{pins:List (Addr×Obj)}{σ:St}{H H':Hp}{s:Shared}{C ea:Addr}{cls:Value}{dx:Option Addr}{B h1 h2 h3:Heap}{fl:Value}
end
section
variable{X:Cx}{pins:List (Addr×Obj)}{σ:St}{H2:Hp}{s2:Shared}{M:List Str}{x:Str}{scope:Scope}{cl:List (Str×Addr)}{C:Addr}{fp:List Addr}{E:XK}{Qe:Value→Shared→Prop}{acc:Value}
end
section
variable{X:Cx}
end
end L2
set_option Elab.async false
set_option linter.all false
set_option maxRecDepth 100000
set_option maxHeartbeats 4000000
namespace L2
open PySem PySem.Spec PyProof.Rows Builtin.Str
section
variable{X:Cx}
end
end L2
set_option Elab.async false
set_option linter.all false
set_option maxRecDepth 100000
set_option maxHeartbeats 4000000
namespace L2
open PySem PySem.Spec PyProof.Rows
section
variable{prog:Program}{w:World}{A:Around}{R:Result→Shared→Prop}{I:Addr}{fp wr:List Addr}{n:Nat}{P:Nat→Value→Prop}{St:Nat→Heap→Prop}
end
section
variable{prog:Program}{w:World}{A:Around}{E:Value→Shared→Prop}{s:Shared}
end
section
variable{X:Cx}
end
end L2
set_option Elab.async false
set_option linter.all false
namespace L2
open PySem
@[elab_as_elim] theorem fresh{P:Hp→Prop}{H:Hp}{l:Addr}{o:HO}(h:H l=none)(q:∀H',Same H H'→H' l=some o→P H'):P (upd H l o):=q _ (same_new h o) upd_same
example {Q:V→Hp→Prop} {H:Hp} (q:∀l H',Same H H'→H' l=some (.lst [.int 1])→Q (.ref l) H'):∀l,H l=none→Q (.ref l) (upd H l (.lst [.int 1])):=fun l hl=>by
 refine fresh hl fun H1 s1 t1=>?_
 exact q l H1 s1 t1
end L2
set_option Elab.async false
set_option linter.all false
set_option maxRecDepth 100000
set_option maxHeartbeats 4000000
namespace L2
open PySem PySem.Spec PyProof.Rows
section
variable{X:Cx}
end
section
variable{X:Cx}{M:List Str}{x:Str}{scope:Scope}{cl:List (Str×Addr)}{C:Addr}{s₀:Shared}{H₀:Hp}{fp:List Addr}
end
end L2
set_option Elab.async false
set_option linter.all false
set_option maxRecDepth 100000
set_option maxHeartbeats 4000000
namespace L2
open PySem PySem.Spec PyProof.Rows
def FnG(K:PySem.W.Frag)(g n q:Str)(st:Stmt):Prop:=∃f fd,PySem.W.nsIn K mainGlobals g=some (some (.ref f))∧Fun K n q st f fd
def FnM(K:PySem.W.Frag)(C:Addr)(x n q:Str)(st:Stmt):Prop:=∃f fd,PySem.W.findIn K (.ref C) x=some (some (.ref f))∧Fun K n q st f fd∧PySem.W.typeIn K (.ref f)=some (.type "function")
def BindsA(n q:Str)(st:Stmt)(ps:List Str):Prop:=∀(kV doc pm:Value) (an:Option Addr) (cdv ct:Value) (us:List Value),us.length=ps.length→bindArgs (PySem.W.fnOf n q (defArgs st) (defBody st) (defScope st) .none kV doc pm an cdv ct) ⟨us,[]⟩=pure (ps.zip us)
theorem fnG_mk{K:PySem.W.Frag}{g n q:Str}{st:Stmt}{f:Addr}{oc:Value}{od an:Option Addr}{osl:Array (Option Value)}{kV doc pm cdv ct:Value}(a:PySem.W.nsIn K mainGlobals g=some (some (.ref f)))(l:K.lookup f=some ⟨oc,od,.func (PySem.W.fnOf n q (defArgs st) (defBody st) (defScope st) .none kV doc pm an cdv ct),osl⟩)
 (c:PySem.W.codeIn K cdv q=true)(k:PySem.W.keepIn K (.ref f)=true):FnG K g n q st:=⟨f,_,a,fun_mk l c k⟩
theorem fnM_mk{K:PySem.W.Frag}{C:Addr}{x n q:Str}{st:Stmt}{f:Addr}{oc:Value}{od an:Option Addr}{osl:Array (Option Value)}{kV doc pm cdv ct:Value}(a:PySem.W.findIn K (.ref C) x=some (some (.ref f)))(l:K.lookup f=some ⟨oc,od,.func (PySem.W.fnOf n q (defArgs st) (defBody st) (defScope st) .none kV doc pm an cdv ct),osl⟩)
 (c:PySem.W.codeIn K cdv q=true)(k:PySem.W.keepIn K (.ref f)=true)(u:PySem.W.typeIn K (.ref f)=some (.type "function")):FnM K C x n q st:=⟨f,_,a,fun_mk l c k,u⟩
section
variable{P:Program}{w:World}{K:PySem.W.Frag}{h:Heap}{mg:Str→Option Value}{base:Heap}{g n q:Str}{st:Stmt}{ps:List Str}{k:Nat}{sp:Sp}
theorem cal_of(X:K.In h)(G:h.Ns mainGlobals mg)(Q:FnG K g n q st)(b:BindsA n q st ps)(ok:∀{f:Addr} {fd:FuncData},Fun K n q st f fd→FnOk P w K mg base CX0 k f fd ps sp):Cal P w K mg base k g ps sp:=by
 obtain⟨f,fd,a,F⟩:=Q
 exact⟨⟨f,fd,ok F,F.binds b,F.kp,PySem.W.mg_of X G a⟩⟩
theorem calM_of{CX:CXT}{C:Addr}(Q:FnM K C g n q st)(b:BindsA n q st ps)(ok:∀{f:Addr} {fd:FuncData},Fun K n q st f fd→FnOk P w K mg base CX k f fd ps sp):CalM P w K mg base CX k C g ps sp:=by
 obtain⟨f,fd,a,F,u⟩:=Q
 exact⟨⟨f,fd,ok F,F.binds b,⟨a,beq_iff_eq.mpr u,F.kp⟩⟩⟩
theorem calI_of{CX:CXT}{x:Str}{C:Addr}(X:K.In h)(G:h.Ns mainGlobals mg)(mk:PySem.W.makesIn K C=true)(kp:PySem.W.keepIn K (.ref C)=true)(nC:PySem.W.nsIn K mainGlobals x=some (some (.ref C)))(Q:FnM K C "__init__" n q st)(b:BindsA n q st ps)(ok:∀{f:Addr} {fd:FuncData},Fun K n q st f fd→FnOk P w K mg base CX k f fd ps sp):CalI P w K mg base CX k x C ps sp:=by
 obtain⟨f,fd,a,F,u⟩:=Q
 exact⟨⟨f,fd,ok F,F.binds b,⟨mk,a,beq_iff_eq.mpr u,kp⟩,PySem.W.mg_of X G nC⟩⟩
end
end L2
set_option Elab.async false
set_option linter.all false
set_option maxRecDepth 100000
set_option maxHeartbeats 4000000
namespace L2
open PySem PySem.Spec PyProof.Rows
theorem rec_calL{P:Program}{w:World}{K:PySem.W.Frag}{mg:Str→Option Value}{base:Heap}{CX:CXT}{k0:Nat}{m n q:Str}{st:Stmt}{ps:List Str}{Cs:List Addr}{sp:Nat→Sp}
 (hC:∀C∈Cs,Cls K C∧FnM K C m n q st)(b:BindsA n q st ps)(z:∀vs H Q E,¬sp 0 vs H Q E)
 (step:∀(d:Nat) {f:Addr} {fd:FuncData},CalL P w K mg base CX (k0+d) m ps (Cs.map fun C=>(C,sp d))→Fun K n q st f fd→FnOk P w K mg base CX (k0+d+1) f fd ps (sp (d+1))):
 ∀d,CalL P w K mg base CX (k0+d) m ps (Cs.map fun C=>(C,sp d))
 | 0=>⟨fun p hp=>by
  obtain⟨C,hC',rfl⟩:=List.mem_map.mp hp
  obtain⟨c,f,fd,a,F,u⟩:=hC C hC'
  exact⟨c,f,fd,⟨fun vs H Q E h=>absurd h (z vs H Q E),fun A outer s H args us vs Q E _ _ _ _ h=>absurd h (z vs H Q E)⟩,F.binds b,⟨a,beq_iff_eq.mpr u,F.kp⟩⟩⟩
 | d+1=>⟨fun p hp=>by
  have R:=rec_calL hC b z step d
  obtain⟨C,hC',rfl⟩:=List.mem_map.mp hp
  obtain⟨c,f,fd,a,F,u⟩:=hC C hC'
  exact⟨c,f,fd,step d R F,F.binds b,⟨a,beq_iff_eq.mpr u,F.kp⟩⟩⟩
theorem all_nil{α:Type}{p:α→Prop}:∀x∈([]:List α),p x:=fun _ h=>(nomatch h)
theorem all_cons{α:Type}{p:α→Prop}{a:α}{l:List α}(h:p a)(t:∀x∈l,p x):∀x∈a::l,p x:=fun x hx=>by
 rcases List.mem_cons.mp hx with e | e
 ·exact e ▸ h
 ·exact t x e
end L2
set_option Elab.async false
set_option linter.all false
set_option maxRecDepth 100000
set_option maxHeartbeats 4000000
namespace L2
open PySem PySem.Spec PyProof.Rows
section
variable{X:Cx}{k:Nat}{q:Addr}{fd:FuncData}{p:Str}{sp:Sp}{xs:List V}{kf:Nat→Int}{J:Hp→Prop}{l:Addr}{pins:List (Addr×Obj)}{σ:St}
theorem mink_key{H:Hp}{s:Shared}{pins:List (Addr×Obj)}{v:V}{u:Value}{Q:VK}{E:Value→Shared→Prop}(F:FnOk X.prog X.w X.K X.mg X.base CX0 k q fd [p] sp)(hb:Binds X.K fd [p] [])(hr:Room (k+1) X.A)(I:Inv X pins σ H s)(r:RelV v u)(h:sp [v] H Q E0):
 wpAny (model X.prog X.w) X.A.in1 (call (.ref q) [u]) (EP X pins σ Q) E s:=by
 refine wpAny_call (codeAny_mono (F.run X.A.in1 X.stack s H ⟨[u],[]⟩ [u] [v] Q E0 hr.in1 I.env0.in1 (hb s [u] I.kIn rfl) (.cons r .nil) h) fun r s' hq=>?_)
 cases r with
 | error e=>exact False.elim hq
 | ok fl=>
  cases fl with
  | ret u=>exact I.after hq
  | next=>exact False.elim hq
  | brk=>exact False.elim hq
  | cont=>exact False.elim hq
theorem mink_name:(toString "min"++toString ".loop":String)="min.loop":=by decide
structure MinSt(X:Cx)(pins:List (Addr×Obj))(σ:St)(J:Hp→Prop)(l I S:Addr)(n:Nat)(arr:Array Value)(H:Hp)(s:Shared):Prop where
 inv:Inv X pins σ H s
 j:J H
 fI:FpOk X pins H I
 fS:FpOk X pins H S
 it:s.heap.IsListIter I l n
 st:∃c,s.heap.get? S=some (seqObj "list" arr c)
theorem FpOk.at{H H':Hp}{b:Addr}(f:FpOk X pins H b)(n:H' b=none):FpOk X pins H' b:=⟨n,f.2⟩
theorem MinSt.next{I S:Addr}{n:Nat}{arr:Array Value}{H:Hp}{s:Shared}(hc:X.calm=true)(hlI:l≠I)(hSI:S≠I)(hJ:∀H,J H→SqL X.K H l xs)(M:MinSt X pins σ J l I S n arr H s)(hn:n<xs.length){E:Value→Shared→Prop}{Q:Option Value→Shared→Prop}
 (hQ:∀v u h' tk,xs[n]?=some v→RelV v u→MinSt X pins σ J l I S (n+1) arr H { s with heap:=h',toks:=tk }→Q (some u) { s with heap:=h',toks:=tk }):wpAny (model X.prog X.w) X.A.in1 (pyNext (.ref I)) Q E s:=by
 obtain⟨its,rv,pl,_⟩:=M.inv.list (hJ H M.j)
 have hh:X.A.in1.handled=none:=M.inv.ok.hd hc
 have W:=Walks.list (prog:=X.prog) (w:=X.w) (A:=X.A.in1) hh I l hlI its.toArray
 have hz:its.toArray.size=xs.length:=by rw[List.size_toArray,rv.length]
 refine W.item n s Q E (by rw[hz];exact hn) ⟨M.it,pl.isList⟩ fun u h' tk hP hst hk=>?_
 have hu:its[n]?=some u:=by simpa using hP
 have hv:xs[n]?=some xs[n]:=by simp[hn]
 generalize xs[n]=v at hv
 obtain⟨u',hu',r⟩:=Vals.get rv hv
 rw[hu] at hu';cases hu'
 obtain⟨f0,f1,f2,f3,f4,f5⟩:=M.fI
 obtain⟨c,hS⟩:=M.st
 exact hQ v u h' tk hv r ⟨M.inv.turned (fun b o ne e=>hk b o (by simpa using ne) e) f0 f1 f3 f4 f5,M.j,⟨f0,f1,f2,f3,f4,f5⟩,M.fS,hst.1,c,hk S _ (by simpa using hSI) hS⟩
theorem MinSt.key{I S:Addr}{n i:Nat}{arr:Array Value}{H:Hp}{s:Shared}{v:V}{u:Value}(F:FnOk X.prog X.w X.K X.mg X.base CX0 k q fd [p] sp)(hb:Binds X.K fd [p] [])(hr:Room (k+1) X.A)
 (hk:∀i v H,xs[i]?=some v→J H→sp [v] H (fun r H'=>r=.int (kf i)∧J H') E0)(M:MinSt X pins σ J l I S n arr H s)(hv:xs[i]?=some v)(r:RelV v u){E:Value→Shared→Prop}{Q:Value→Shared→Prop}
 (hQ:∀t H' s',MinSt X pins σ J l I S n arr H' s'→Q (.int (kf i) t) s'):wpAny (model X.prog X.w) X.A.in1 (call (.ref q) [u]) Q E s:=by
 obtain⟨oI,eI,dI⟩:=id M.it
 obtain⟨c,eS⟩:=M.st
 have I2:=M.inv.pinned (fp:=[S,I]) (fun b hb=>by
  rcases List.mem_cons.mp hb with e | e
  ·exact e ▸ M.fS
  ·exact(List.mem_singleton.mp e) ▸ M.fI) (fun b hb=>by
  rcases List.mem_cons.mp hb with e | e
  ·exact⟨_,e ▸ eS,fun v h=>by cases h⟩
  ·refine⟨oI,(List.mem_singleton.mp e) ▸ eI,fun v h=>?_⟩
   rw[dI.2] at h;cases h)
 refine thn (mink_key F hb hr I2 r (hk i v H hv M.j)) fun x s' ⟨w',H',I3,rx,⟨e,j'⟩⟩=>?_
 subst e
 obtain⟨t,rfl⟩:=rx
 have pS:=I3.pin (S,_) (List.mem_append_right _ (List.mem_append_right _ (mem_pinsAt (fp:=[S,I]) (.head _) eS)))
 have pI:=I3.pin (I,_) (List.mem_append_right _ (List.mem_append_right _ (mem_pinsAt (fp:=[S,I]) (.tail _ (.head _)) eI)))
 exact hQ t H' s' ⟨I3.unpinned,j',M.fI.at pI.2.1,M.fS.at pS.2.1,⟨oI,pI.1,dI⟩,c,pS.1⟩
theorem MinSt.write{I S:Addr}{n:Nat}{arr arr':Array Value}{H:Hp}{s:Shared}(hSI:S≠I)(z1:arr.size≤sizeLine)(z2:arr'.size≤sizeLine)(M:MinSt X pins σ J l I S n arr H s){E:Value→Shared→Prop}{Q:Unit→Shared→Prop}
 (hQ:∀h',MinSt X pins σ J l I S n arr' H { s with heap:=h' }→Q () { s with heap:=h' }):wpAny (model X.prog X.w) X.A.in1 (updateSeq S fun _=>arr') Q E s:=by
 obtain⟨c,eS⟩:=M.st
 obtain⟨f0,f1,f2,f3,f4,f5⟩:=M.fS
 refine wpAny_updateSeq eS rfl ?_ z1 (by show arr'.size≤_;omega)
 refine hQ _ ⟨M.inv.turned (t':=s.toks) (fun b o ne e=>(Heap.get?_update_other _ _ (Ne.symm ne)).trans e) f0 f1 f3 f4 f5,M.j,M.fI,⟨f0,f1,f2,f3,f4,f5⟩,?_,_,get?_update_seq eS _⟩
 obtain⟨oI,eI,dI⟩:=M.it
 exact⟨oI,(Heap.get?_update_other _ _ hSI).trans eI,dI⟩
theorem mink_loop{I S:Addr}{R:Result→Shared→Prop}(hc:X.calm=true)(F:FnOk X.prog X.w X.K X.mg X.base CX0 k q fd [p] sp)(hb:Binds X.K fd [p] [])(hr:Room (k+1) X.A)(hlI:l≠I)(hSI:S≠I)
 (hJ:∀H,J H→SqL X.K H l xs)(hk:∀i v H,xs[i]?=some v→J H→sp [v] H (fun r H'=>r=.int (kf i)∧J H') E0)
 (fin:∀i v u H s,xs[i]?=some v→RelV v u→(∀j,j<xs.length→kf i≤kf j)→J H→Inv X pins σ H s→R (.ok (.ret u)) s):
 ∀(r j i:Nat) (H:Hp) (s:Shared) (vb:V) (ub:Value) (tb:Tok),xs.length-(j+1)=r→j+1≤xs.length→MinSt X pins σ J l I S (j+1) #[ub,.int (kf i) tb] H s→xs[i]?=some vb→RelV vb ub→(∀j',j'≤j→kf i≤kf j')→
  codeAny (model X.prog X.w) X.A (.builtin "min.loop" ⟨[.ref I,.ref q,.ref S],[]⟩) R s:=by
 have two:∀a b:Value,(#[a,b]:Array Value).size≤sizeLine:=fun a b=>by show 2≤sizeLine;decide
 intro r
 induction r with
 | zero=>
  intro j i H s vb ub tb er hj M hvb rb best
  obtain⟨c,eS⟩:=M.st
  obtain⟨its,rv,pl,_⟩:=M.inv.list (hJ H M.j)
  have hh:X.A.in1.handled=none:=M.inv.ok.hd hc
  have W:=Walks.list (prog:=X.prog) (w:=X.w) (A:=X.A.in1) hh I l hlI its.toArray
  have hz:its.toArray.size=j+1:=by rw[List.size_toArray,←Vals.length rv];omega
  refine codeAny_builtin PySem.F.entry_min_loop ?_
  rw[Around.under_plainId PySem.F.plain_min_loop _]
  show wpAny _ X.A.in1 (seqItems? (.ref S) >>= _) _ _ _
  refine wpAny_bind (wpAny_seqItems eS rfl ?_)
  show wpAny _ X.A.in1 (tryCatch (pyNext (.ref I)) _ >>= _) _ _ _
  refine wpAny_bind (wpAny_tryCatch (W.done _ _ _ ⟨by rw[hz];exact M.it,pl.isList⟩ fun h' tk' hk'=>?_))
  obtain⟨f0,f1,f2,f3,f4,f5⟩:=M.fI
  obtain⟨g0,g1,g2,g3,g4,g5⟩:=M.fS
  have I2:=M.inv.turned (t':=tk') (fun b o ne e=>hk' b o (by simpa using ne) e) f0 f1 f3 f4 f5
  show wpAny _ X.A.in1 (updateSeq S (fun _=> #[]) >>= _) _ _ _
  refine wpAny_bind (wpAny_updateSeq (hk' S _ (by simpa using hSI) eS) rfl (wpAny_bind (wpAny_letGo (wpAny_pure ?_))) (two _ _) (by show 0≤_;omega))
  exact fin i vb ub H _ hvb rb (fun j' hj'=>best j' (by omega)) M.j (I2.turned (t':=tk') (fun b o ne e=>(Heap.get?_update_other _ _ (Ne.symm ne)).trans e) g0 g1 g3 g4 g5)
 | succ r ih=>
  intro j i H s vb ub tb er hj M hvb rb best
  have hlt:j+1<xs.length:=by omega
  obtain⟨c,eS⟩:=M.st
  refine codeAny_builtin PySem.F.entry_min_loop ?_
  rw[Around.under_plainId PySem.F.plain_min_loop _]
  show wpAny _ X.A.in1 (seqItems? (.ref S) >>= _) _ _ _
  refine wpAny_bind (wpAny_seqItems eS rfl ?_)
  show wpAny _ X.A.in1 (tryCatch (pyNext (.ref I)) _ >>= _) _ _ _
  refine wpAny_bind (wpAny_tryCatch (M.next hc hlI hSI hJ hlt fun v u h' tk hv rv M1=>?_))
  show wpAny _ X.A.in1 (tryCatch (holding [u] (call (.ref q) [u])) _ >>= _) _ _ _
  refine wpAny_bind (wpAny_tryCatch (wpAny_holding (M1.key F hb hr hk hv rv fun t2 H2 s2 M2=>?_)))
  show wpAny _ X.A.in1 (tryCatch (holding [u,.int (kf (j+1)) t2] (richCompare .Lt (.int (kf (j+1)) t2) (.int (kf i) tb) >>= _)) _ >>= _) _ _ _
  refine wpAny_bind (wpAny_tryCatch (wpAny_holding (wpAny_bind (CmpOf.ints_lt (prog:=X.prog) (w:=X.w) (A:=X.A.in1) (P:=fun i v=>∃t,v=.int (kf i) t) kf (fun i v h=>h) (j+1) i _ _ _ _ _ ⟨t2,rfl⟩ ⟨tb,rfl⟩ ?_))))
  refine wpAny_bind (wpAny_holding (wpAny_truthy_bool (wpAny_bind (wpAny_letGo (wpAny_pure ?_)))))
  by_cases hb':kf (j+1)<kf i
  ·simp only[hb',decide_true,if_true]
   refine wpAny_bind (M2.write hSI (two _ _) (two u (.int (kf (j+1)) t2)) fun h3 M3=>wpAny_bind (wpAny_letGo ?_))
   rw[mink_name]
   refine wpAny_pure ⟨plainId_quiet PySem.F.plain_min_loop _,ih (j+1) (j+1) H2 _ v u t2 (by omega) hlt M3 hv rv fun j' hj'=>?_⟩
   by_cases e:j'=j+1
   ·rw[e];omega
   ·have:=best j' (by omega);omega
  ·simp only[hb',decide_false,Bool.false_eq_true,if_false]
   refine wpAny_bind (wpAny_letGo ?_)
   rw[mink_name]
   refine wpAny_pure ⟨plainId_quiet PySem.F.plain_min_loop _,ih (j+1) i H2 _ vb ub tb (by omega) hlt M2 hvb rb fun j' hj'=>?_⟩
   by_cases e:j'=j+1
   ·rw[e];omega
   ·exact best j' (by omega)
theorem mink_call{H:Hp}{s:Shared}{Q:VK}{E:Value→Shared→Prop}(hc:X.calm=true)(F:FnOk X.prog X.w X.K X.mg X.base CX0 k q fd [p] sp)(hb:Binds X.K fd [p] [])(hr:Room (k+1) X.A)(I0:Inv X pins σ H s)(j0:J H)(ne:xs≠[])
 (hJ:∀H,J H→SqL X.K H l xs)(hk:∀i v H,xs[i]?=some v→J H→sp [v] H (fun r H'=>r=.int (kf i)∧J H') E0)
 (fin:∀i v H,xs[i]?=some v→(∀j,j<xs.length→kf i≤kf j)→J H→Q v H):
 wpAny (model X.prog X.w) X.A (call (.builtin "min") [.ref l] [(Str.ofString "key",.ref q)]) (EP X pins σ Q) E s:=by
 obtain⟨its,rv,pl,_⟩:=I0.list (hJ H j0)
 have hls:=pl.isList
 obtain⟨ol,hol,_⟩:=id hls
 have hll:l<s.heap.objs.size:=Heap.lt_size hol
 have hlen:0<xs.length:=by cases xs with | nil=>exact absurd rfl ne | cons a t=>simp
 refine kmk_tree PySem.F.kind_min PySem.F.plain_min PySem.F.entry_min (kmk_min_key _ _) ?_
 show wpAny _ X.A.in1 (Builtin.Builtins.bindParams "min" ["key","default"] 0 ⟨[],[(Str.ofString "key",.ref q)]⟩ >>= _) _ _ s
 refine wpAny_bind (wpAny_of_eq (show Builtin.Builtins.bindParams "min" ["key","default"] 0 ⟨[],[(Str.ofString "key",.ref q)]⟩=pure [some (.ref q),none] from rfl) ?_)
 refine wpAny_bind (wpAny_pure ?_)
 refine wpAny_bind (wpAny_pyIter_list hls ?_)
 refine wpAny_bind (wpAny_newList ?_ (Nat.zero_le _))
 rw[mink_name]
 have hS:(s.heap.push { cls:=.type "list_iterator",data:=.fields #[.ref l,.int 0 0] }).objs.size=s.heap.objs.size+1:=size_push' ..
 refine wpAny_pure ⟨plainId_quiet PySem.F.plain_min_loop _,?_⟩
 suffices key:∀it S,it=s.heap.objs.size→S=(s.heap.push { cls:=.type "list_iterator",data:=.fields #[.ref l,.int 0 0] }).objs.size→codeAny (model X.prog X.w) X.A (.builtin "min.loop" ⟨[.ref it,.ref q,.ref S],[]⟩) (fun r s'=>match r with | .ok (.ret v)=>EP X pins σ Q v s' | .ok _=>False | .error e=>E e s') { s with heap:=(s.heap.push { cls:=.type "list_iterator",data:=.fields #[.ref l,.int 0 0] }).push (seqObj "list" #[] 0) } from key _ _ rfl rfl
 intro it S hi hs
 have hSI:S≠it:=by rw[hs,hS,hi];exact Nat.succ_ne_self _
 have hlI:l≠it:=by rw[hi];exact Nat.ne_of_lt hll
 have I1:Inv X pins σ H { s with heap:=(s.heap.push { cls:=.type "list_iterator",data:=.fields #[.ref l,.int 0 0] }).push (seqObj "list" #[] 0) }:=I0.kept (t':=s.toks) fun b x e=>Heap.get?_push_of_some _ (Heap.get?_push_of_some _ e)
 have M:MinSt X pins σ J l it S 0 #[] H { s with heap:=(s.heap.push { cls:=.type "list_iterator",data:=.fields #[.ref l,.int 0 0] }).push (seqObj "list" #[] 0) }:=
  ⟨I1,j0,I0.fpOk (Nat.le_of_eq hi.symm) (I0.hok.fresh (Nat.le_of_eq hi.symm)),I0.fpOk (hs.trans hS ▸ Nat.le_succ _) (I0.hok.fresh (hs.trans hS ▸ Nat.le_succ _)),⟨_,Heap.get?_push_of_some _ (hi ▸ Heap.get?_push_size _ rfl),rfl,rfl⟩,0,hs ▸ Heap.get?_push_size _ rfl⟩
 obtain⟨c,eS⟩:=M.st
 refine codeAny_builtin PySem.F.entry_min_loop ?_
 rw[Around.under_plainId PySem.F.plain_min_loop _]
 show wpAny _ X.A.in1 (seqItems? (.ref _) >>= _) _ _ _
 refine wpAny_bind (wpAny_seqItems eS rfl ?_)
 show wpAny _ X.A.in1 (tryCatch (pyNext (.ref it)) _ >>= _) _ _ _
 refine wpAny_bind (wpAny_tryCatch (M.next hc hlI hSI hJ hlen fun v u h' tk hv rv M1=>?_))
 show wpAny _ X.A.in1 (tryCatch (holding [u] (call (.ref q) [u])) _ >>= _) _ _ _
 refine wpAny_bind (wpAny_tryCatch (wpAny_holding (M1.key F hb hr hk hv rv fun t2 H2 s2 M2=>?_)))
 show wpAny _ X.A.in1 (updateSeq S (fun _=> #[u,.int (kf 0) t2]) >>= _) _ _ _
 refine wpAny_bind (M2.write hSI (Nat.zero_le _) (by show 2≤sizeLine;decide) fun h3 M3=>?_)
 rw[mink_name]
 refine wpAny_pure ⟨plainId_quiet PySem.F.plain_min_loop _,mink_loop hc F hb hr hlI hSI hJ hk (fun i v u H s hv r best j I=>⟨v,H,I,r,fin i v H hv best j⟩) _ 0 0 H2 _ v u t2 rfl hlen M3 hv rv fun j' hj'=>?_⟩
 rw[show j'=0 by omega];omega
def tMinK(K:PySem.W.Frag)(sp:Sp)(t:TA):TE:=fun σ H Q=>t σ H fun vs H1=>∃(l:Addr) (xs:List V) (kf:Nat→Int) (J:Hp→Prop),vs=[.ref l]∧xs≠[]∧J H1∧(∀H,J H→SqL K H l xs)∧
 (∀i v H,xs[i]?=some v→J H→sp [v] H (fun r H'=>r=.int (kf i)∧J H') E0)∧∀i v H,xs[i]?=some v→(∀j,j<xs.length→kf i≤kf j)→J H→Q v H
theorem pe_minK{f:Str}{e:Expr}{t:TA}{pn pf pos q2:Pos}(hc:X.calm=true)(O:Cal X.prog X.w X.K X.mg X.base k f [p] sp)(hr:Room (k+1) X.A)(hg:Gl X "min")(hm:X.mg "min"=none)(hgf:Gl X f)(ha:PA X [e] t)
 (hd:(f==("__debug__":Str))=false:=by decide)(he:backTo pos (starEach [e] X.env)=(false,eval e X.env)::backTo pos (starEach [] X.env):=by rfl)(hpl:(backTo pos (starEach [e] X.env)).any (·.1)=false:=by rfl):
 PE X (.Call (.Name "min" pn) [e] [⟨some "key",.Name f pf,q2⟩] pos) (tMinK X.K sp t):=by
 obtain⟨q,fd,F,hb,kp,m⟩:=O.ex
 intro pins s σ H Q I h
 refine wpAny_Call_Name_kw (ld_blt I hg hm boot_min ?_ (by decide) (by decide))
 refine PyProof.Rows.callWith_kw (thn (ha pos pins s σ H _ I h) fun us s1 ⟨vs,H1,I1,r1,q1⟩=>?_) he hpl
 obtain⟨l,xs,kf,J,rfl,ne,j1,hJ,hk,fin⟩:=q1
 obtain⟨u,rfl,ru⟩:=vals1 r1
 cases (show u=Value.ref l from ru)
 refine wpAny_bind (wpAny_bind (ld_glob I1 hgf m (wpAny_bind (wpAny_standAt (wpAny_pure ?_))) hd))
 refine wpAny_bind (wpAny_holding (wpAny_pure (wpAny_pure ?_)))
 exact mink_call hc F hb hr I1 j1 ne hJ hk fin
end
end L2
set_option Elab.async false
set_option linter.all false
set_option maxRecDepth 100000
set_option maxHeartbeats 4000000
namespace L2
open PySem PySem.Spec PyProof.Rows
section
variable{prog:Program}{w:World}{A:Around}{E:Value→Shared→Prop}{s:Shared}
theorem nextT_item{it t:Addr}{i:Nat}{items:Array Value}{x:Value}{Q:Value→Shared→Prop}(hit:s.heap.IsTupleIter it t i)(ht:s.heap.IsTuple t items)(hx:items[i]?=some x)
 (hQ:∀h',h'.IsTupleIter it t (i+1)→Heap.SameBut it s.heap h'→Q x { s with heap:=h' }):wpAny (model prog w) A (Builtin.SmallTypes.nextOf (.ref it)) Q E s:=by
 obtain⟨o,ho,hc,hd⟩:=id hit
 obtain⟨ol,hol,_,nl,hdl⟩:=ht
 unfold Builtin.SmallTypes.nextOf
 refine wpAny_bind (wpAny_callSpecial?_slot (name:=Str.ofString "__next__") hit.typeIs F.slot_tuple_iterator_next (wpAny_call_entry F.slot_tuple_iterator_next hit.typeIs F.entry_tuple_iterator_next ?_ (F.args_tuple_iterator_next_1 _)))
 show wpAny _ _ (field (.ref it) 0 >>= _) _ _ s
 refine wpAny_bind (wpAny_field ho hd (x:=.ref t) rfl ?_)
 show wpAny _ _ (if (Value.ref t==Value.none)=true then _ else _) _ _ s
 rw[if_neg (show ¬((Value.ref t==Value.none)=true) from Bool.false_ne_true)]
 show wpAny _ _ (field (.ref it) 1 >>= _) _ _ s
 refine wpAny_bind (wpAny_field ho hd (x:=.int i 0) rfl ?_)
 show wpAny _ _ (seqItems? (.ref t) >>= _) _ _ s
 refine wpAny_bind (wpAny_seqItems hol hdl ?_)
 simp only[Int.toNat_natCast,hx]
 refine wpAny_bind (wpAny_setField ho hd (by simp) (wpAny_pure ⟨x,rfl,wpAny_pure (hQ _ ?_ (Heap.SameBut.update ..))⟩))
 exact⟨_,Heap.get?_update_self _ ho (Obj.isFreed_of_fields (Obj.data_mapFields hd _)),(Obj.cls_mapFields ..).trans hc,by rw[Obj.data_mapFields hd];simp[rawInt]⟩
theorem nextT_end{it t:Addr}{i:Nat}{items:Array Value}{Q:Value→Shared→Prop}(hh:A.handled=none)(hit:s.heap.IsTupleIter it t i)(ht:s.heap.IsTuple t items)(hx:items[i]?=none)
 (hE:∀h' e,Heap.ExtBut it s.heap h'→(∃o,h'.get? e=some o∧o.cls=.type "StopIteration")→E (.ref e) { s with heap:=h' }):wpAny (model prog w) A (Builtin.SmallTypes.nextOf (.ref it)) Q E s:=by
 obtain⟨o,ho,hc,hd⟩:=id hit
 obtain⟨ol,hol,_,nl,hdl⟩:=ht
 unfold Builtin.SmallTypes.nextOf
 refine wpAny_bind (wpAny_callSpecial?_slot (name:=Str.ofString "__next__") hit.typeIs F.slot_tuple_iterator_next (wpAny_call_entry F.slot_tuple_iterator_next hit.typeIs F.entry_tuple_iterator_next ?_ (F.args_tuple_iterator_next_1 _)))
 show wpAny _ _ (field (.ref it) 0 >>= _) _ _ s
 refine wpAny_bind (wpAny_field ho hd (x:=.ref t) rfl ?_)
 show wpAny _ _ (if (Value.ref t==Value.none)=true then _ else _) _ _ s
 rw[if_neg (show ¬((Value.ref t==Value.none)=true) from Bool.false_ne_true)]
 show wpAny _ _ (field (.ref it) 1 >>= _) _ _ s
 refine wpAny_bind (wpAny_field ho hd (x:=.int i 0) rfl ?_)
 show wpAny _ _ (seqItems? (.ref t) >>= _) _ _ s
 refine wpAny_bind (wpAny_seqItems hol hdl ?_)
 simp only[Int.toNat_natCast,hx]
 refine wpAny_bind (wpAny_rule (wpAny_bind (wpAny_setField ho hd (by simp) ?_)))
 show wpAny _ _ (newExc (.type "StopIteration") [] >>= _) _ _ _
 refine wpAny_bind ?_
 simp only[newExc,newTuple]
 refine wpAny_bind (wpAny_newObj_type ?_ (by size_fits))
 refine wpAny_bind (m:=firstArgMember _ _) (wpAny_of_eq (a:=Value.none) (by first | rfl | (simp only[firstArgMember];rfl)) ?_)
 refine wpAny_newObj_type ?_ (by size_fits)
 simp only[raiseNew]
 refine wpAny_bind (wpAny_handled ?_)
 first | rw[show A.in1.handled=none from hh] | rw[hh]
 refine wpAny_bind (wpAny_pure (wpAny_throw ?_))
 exact hE _ _ (((Heap.SameBut.update ..).extBut.push _).push _) ⟨_,Heap.get?_push_size _ rfl,rfl⟩
end
theorem drawsT{prog:Program}{w:World}{A:Around}(hh:A.handled=none)(it t:Addr)(hne:t≠it)(items:Array Value):
 Draws prog w A it [it,t] items.size (fun i v=>items[i]?=some v) (fun i h=>h.IsTupleIter it t i∧h.IsTuple t items) where
 live:=fun i h st=>let ⟨o,e,_⟩:=st.1;⟨o,e⟩
 frame:=fun i h h' st k=>⟨let ⟨o,e,r⟩:=st.1;⟨o,k it (by simp) o e,r⟩,let ⟨o,e,r⟩:=st.2;⟨o,k t (by simp) o e,r⟩⟩
 item:=fun i s Q E hi st hQ=>nextT_item st.1 st.2 (x:=items[i]) (by simp[hi]) fun h' hit hs=>hQ _ h' s.toks (by simp[hi]) ⟨hit,st.2.extBut hs.extBut hne⟩ hs
 done:=fun s Q E st hE=>nextT_end hh st.1 st.2 (by simp) hE
structure Apart2(z TI TO i1 i2:Addr)(f1 f2:List Addr):Prop where
 zTO:TO≠z
 zTI:TI≠z
 tt:TI≠TO
 t1:TI≠i1
 t2:TI≠i2
 m1:i1∈f1
 m2:i2∈f2
 z1:z∉f1
 z2:z∉f2
 o1:TO∉f1
 o2:TO∉f2
 n1:i2∉f1
 n2:i1∉f2
theorem Draws.sb{prog:Program}{w:World}{A:Around}{it c:Addr}{fp:List Addr}{n i:Nat}{P:Nat→Value→Prop}{St:Nat→Heap→Prop}{h h':Heap}(D:Draws prog w A it fp n P St)(st:St i h)(k:Heap.SameBut c h h')(nc:c∉fp):St i h':=
 D.frame i h h' st fun b hb o e=>k.extBut b o (fun z=>nc (z ▸ hb)) e
section
variable{prog:Program}{w:World}{A:Around}{E:Value→Shared→Prop}{s:Shared}{z TI TO i1 i2:Addr}{f1 f2:List Addr}{n1 n2 k:Nat}{P1 P2:Nat→Value→Prop}{S1 S2:Nat→Heap→Prop}{a b:Value}
theorem zipD_item{Q:Value→Shared→Prop}(D:Apart2 z TI TO i1 i2 f1 f2)(D1:Draws prog w A i1 f1 n1 P1 S1)(D2:Draws prog w A i2 f2 n2 P2 S2)
 (hz:IsZip s.heap z TI TO .none)(hTI:IsPair s.heap TI (.ref i1) (.ref i2))(hTO:IsPair s.heap TO a b)(h1:S1 k s.heap)(h2:S2 k s.heap)(l1:k<n1)(l2:k<n2)
 (hQ:∀x y h' tk,P1 k x→P2 k y→IsZip h' z TI TO (rawInt s.heap.objs.size)→IsPair h' TO x y→S1 (k+1) h'→S2 (k+1) h'→IsPair h' s.heap.objs.size x y→
  (∀c o,c≠z→c≠TO→c≠i1→c≠i2→s.heap.get? c=some o→h'.get? c=some o)→Q (.ref s.heap.objs.size) { s with heap:=h',toks:=tk }):
 wpAny (model prog w) A (Builtin.«zip.__next__» ⟨[.ref z],[]⟩) (fun fin s'=>∃v,fin=.done (.ret v)∧Q v s') E s:=by
 have zi1:z≠i1:=fun e=>D.z1 (e ▸ D.m1)
 have zi2:z≠i2:=fun e=>D.z2 (e ▸ D.m2)
 have oi1:TO≠i1:=fun e=>D.o1 (e ▸ D.m1)
 have oi2:TO≠i2:=fun e=>D.o2 (e ▸ D.m2)
 show wpAny _ _ (field (.ref z) 2 >>= _) _ _ _
 refine wpAny_bind (wpAny_field hz rfl (x:=.bool false) rfl ?_)
 show wpAny _ _ (field (.ref z) 3 >>= _) _ _ _
 refine wpAny_bind (wpAny_field hz rfl (x:=.ref TI) rfl ?_)
 refine wpAny_bind (wpAny_seqItems hTI rfl ?_)
 show wpAny _ _ (Builtin.SmallTypes.ownedTupleIsFree (.ref z) >>= _) _ _ _
 refine wpAny_bind ?_
 unfold Builtin.SmallTypes.ownedTupleIsFree
 refine wpAny_bind (wpAny_field hz rfl (x:=.none) rfl (wpAny_pure ?_))
 simp only[if_true]
 refine wpAny_bind (wpAny_rule (wpAny_bind (wpAny_field hz rfl (x:=.ref TO) rfl ?_)))
 refine wpAny_bind (wpAny_setField_rec hz (by simp) fun g1 hz1 q1=>wpAny_bind ?_)
 replace hz1:IsZip g1 z TI TO .ellipsis:=hz1
 simp only[List.zipIdx_cons,List.zipIdx_nil,List.forIn_cons,List.forIn_nil]
 refine wpAny_bind (wpAny_bind (wpAny_onRaise ?_))
 show wpAny _ _ (Builtin.SmallTypes.nextOf (.ref i1) >>= _) _ _ _
 refine(wpAny_bind (D1.item k _ _ _ l1 (Draws.sb D1 h1 q1 D.z1) fun x g2 tk2 px s2 q2=>wpAny_pure ?_))
 have p2:IsPair g2 TO a b:=q2.extBut _ _ oi1 (q1.extBut _ _ D.zTO hTO)
 refine wpAny_bind (wpAny_seqItems p2 rfl (wpAny_bind (wpAny_updateSeq_pair p2 fun g3 p3 q3=>wpAny_bind (wpAny_letGo (wpAny_pure ?_)))))
 replace p3:IsPair g3 TO x b:=p3
 refine wpAny_bind (wpAny_bind (wpAny_onRaise ?_))
 show wpAny _ _ (Builtin.SmallTypes.nextOf (.ref i2) >>= _) _ _ _
 refine(wpAny_bind (D2.item k _ _ _ l2 (Draws.sb D2 (Draws.sb D2 (Draws.sb D2 h2 q1 D.z2) q2 D.n2) q3 D.o2) fun y g4 tk4 py s4 q4=>wpAny_pure ?_))
 have p4:IsPair g4 TO x b:=q4.extBut _ _ oi2 p3
 refine wpAny_bind (wpAny_seqItems p4 rfl (wpAny_bind (wpAny_updateSeq_pair p4 fun g5 p5 q5=>wpAny_bind (wpAny_letGo (wpAny_pure (wpAny_pure ?_))))))
 replace p5:IsPair g5 TO x y:=p5
 refine wpAny_bind (wpAny_seqItems p5 rfl (wpAny_bind (wpAny_newTuple ?_)))
 have hsz:g5.objs.size=s.heap.objs.size:=by rw[q5.1,q4.1,q3.1,q2.1,q1.1]
 have z5:IsZip g5 z TI TO .ellipsis:=q5.extBut _ _ D.zTO.symm (q4.extBut _ _ zi2 (q3.extBut _ _ D.zTO.symm (q2.extBut _ _ zi1 hz1)))
 have zlt:z<g5.objs.size:=Heap.lt_size z5
 have e1:S1 (k+1) g5:=Draws.sb D1 (Draws.sb D1 (Draws.sb D1 s2 q3 D.o1) q4 D.n1) q5 D.o1
 have e2:S2 (k+1) g5:=Draws.sb D2 s4 q5 D.o2
 show wpAny _ _ (Builtin.SmallTypes.ownedTupleHandOut (.ref z) (.ref g5.objs.size) >>= _) _ _ _
 refine wpAny_bind ?_
 unfold Builtin.SmallTypes.ownedTupleHandOut
 have z6:IsZip (g5.push { cls:=.type "tuple",data:=.seq #[x,y] }) z TI TO .ellipsis:=Heap.get?_push_of_some _ z5
 refine wpAny_bind (wpAny_setField_rec z6 (by simp) fun g7 z7 q7=>?_)
 replace z7:IsZip g7 z TI TO (rawInt g5.objs.size):=z7
 refine wpAny_setField_rec z7 (by simp) fun g8 z8 q8=>?_
 replace z8:IsZip g8 z TI TO (rawInt g5.objs.size):=z8
 have up:∀c o,c≠z→g5.get? c=some o→g8.get? c=some o:=fun c o n e=>q8.extBut _ _ n (q7.extBut _ _ n (Heap.get?_push_of_some _ e))
 have t8:IsPair g8 g5.objs.size x y:=q8.extBut _ _ (Nat.ne_of_gt zlt) (q7.extBut _ _ (Nat.ne_of_gt zlt) (Heap.get?_push_size _ rfl))
 rw[hsz] at z8 t8
 refine wpAny_pure ⟨_,rfl,?_⟩
 show Q (.ref g5.objs.size) _
 rw[hsz]
 exact hQ x y g8 tk4 px py z8 (up _ _ D.zTO p5) (D1.frame _ _ _ e1 fun c hc o e=>up c o (fun q=>D.z1 (q ▸ hc)) e) (D2.frame _ _ _ e2 fun c hc o e=>up c o (fun q=>D.z2 (q ▸ hc)) e) t8
  fun c o c1 c2 c3 c4 e=>up c o c1 (q5.extBut _ _ c2 (q4.extBut _ _ c4 (q3.extBut _ _ c2 (q2.extBut _ _ c3 (q1.extBut _ _ c1 e)))))
theorem zipD_end{Q:PySem.Fin→Shared→Prop}(D:Apart2 z TI TO i1 i2 f1 f2)(D1:Draws prog w A i1 f1 n1 P1 S1)(D2:Draws prog w A i2 f2 n2 P2 S2)
 (hz:IsZip s.heap z TI TO .none)(hTI:IsPair s.heap TI (.ref i1) (.ref i2))(hTO:IsPair s.heap TO a b)(h1:S1 k s.heap)(h2:S2 k s.heap)(hk:k=n1∨k<n1∧k=n2)
 (hE:∀h' tk e,(∀c o,c≠z→c≠TO→c≠i1→c≠i2→s.heap.get? c=some o→h'.get? c=some o)→(∃o,h'.get? e=some o∧o.cls=.type "StopIteration")→E (.ref e) { s with heap:=h',toks:=tk }):
 wpAny (model prog w) A (Builtin.«zip.__next__» ⟨[.ref z],[]⟩) Q E s:=by
 have zi1:z≠i1:=fun e=>D.z1 (e ▸ D.m1)
 have zi2:z≠i2:=fun e=>D.z2 (e ▸ D.m2)
 have oi1:TO≠i1:=fun e=>D.o1 (e ▸ D.m1)
 have oi2:TO≠i2:=fun e=>D.o2 (e ▸ D.m2)
 show wpAny _ _ (field (.ref z) 2 >>= _) _ _ _
 refine wpAny_bind (wpAny_field hz rfl (x:=.bool false) rfl ?_)
 show wpAny _ _ (field (.ref z) 3 >>= _) _ _ _
 refine wpAny_bind (wpAny_field hz rfl (x:=.ref TI) rfl ?_)
 refine wpAny_bind (wpAny_seqItems hTI rfl ?_)
 show wpAny _ _ (Builtin.SmallTypes.ownedTupleIsFree (.ref z) >>= _) _ _ _
 refine wpAny_bind ?_
 unfold Builtin.SmallTypes.ownedTupleIsFree
 refine wpAny_bind (wpAny_field hz rfl (x:=.none) rfl (wpAny_pure ?_))
 simp only[if_true]
 refine wpAny_bind (wpAny_rule (wpAny_bind (wpAny_field hz rfl (x:=.ref TO) rfl ?_)))
 refine wpAny_bind (wpAny_setField_rec hz (by simp) fun g1 hz1 q1=>wpAny_bind ?_)
 replace hz1:IsZip g1 z TI TO .ellipsis:=hz1
 simp only[List.zipIdx_cons,List.zipIdx_nil,List.forIn_cons,List.forIn_nil]
 refine wpAny_bind (wpAny_bind (wpAny_onRaise ?_))
 show wpAny _ _ (Builtin.SmallTypes.nextOf (.ref i1) >>= _) _ _ _
 rcases hk with e | ⟨l1,e⟩
 ·subst e
  refine wpAny_bind (D1.done _ _ _ (Draws.sb D1 h1 q1 D.z1) fun g2 e q2 ⟨oe,hoe,hce⟩=>?_)
  have z2:IsZip g2 z TI TO .ellipsis:=q2 _ _ zi1 hz1
  have ez:e≠z:=fun x=>by subst x;rw[z2] at hoe;cases hoe;simp at hce
  exact wpAny_setField_rec z2 (by simp) fun g3 _ q3=>hE g3 s.toks e (fun c o c1 _ c3 _ x=>q3.extBut _ _ c1 (q2 _ _ c3 (q1.extBut _ _ c1 x))) ⟨oe,q3.extBut _ _ ez hoe,hce⟩
 ·subst e
  refine wpAny_bind (D1.item k _ _ _ l1 (Draws.sb D1 h1 q1 D.z1) fun x g2 tk2 px s2 q2=>wpAny_pure ?_)
  have p2:IsPair g2 TO a b:=q2.extBut _ _ oi1 (q1.extBut _ _ D.zTO hTO)
  refine wpAny_bind (wpAny_seqItems p2 rfl (wpAny_bind (wpAny_updateSeq_pair p2 fun g3 p3 q3=>wpAny_bind (wpAny_letGo (wpAny_pure ?_)))))
  refine wpAny_bind (wpAny_bind (wpAny_onRaise ?_))
  show wpAny _ _ (Builtin.SmallTypes.nextOf (.ref i2) >>= _) _ _ _
  refine wpAny_bind (D2.done _ _ _ (Draws.sb D2 (Draws.sb D2 (Draws.sb D2 h2 q1 D.z2) q2 D.n2) q3 D.o2) fun g4 e q4 ⟨oe,hoe,hce⟩=>?_)
  have z4:IsZip g4 z TI TO .ellipsis:=q4 _ _ zi2 (q3.extBut _ _ D.zTO.symm (q2.extBut _ _ zi1 hz1))
  have ez:e≠z:=fun x=>by subst x;rw[z4] at hoe;cases hoe;simp at hce
  exact wpAny_setField_rec z4 (by simp) fun g5 _ q5=>hE g5 tk2 e (fun c o c1 c2 c3 c4 x=>q5.extBut _ _ c1 (q4 _ _ c4 (q3.extBut _ _ c2 (q2.extBut _ _ c3 (q1.extBut _ _ c1 x))))) ⟨oe,q5.extBut _ _ ez hoe,hce⟩
end
section
variable{prog:Program}{w:World}{A:Around}{E:Value→Shared→Prop}{s:Shared}{z TI TO i1 i2 l1 l2:Addr}{k:Nat}{xs ys:Array Value}{a b:Value}
theorem apart2(D:ZipApart z TI TO i1 i2 l1 l2):Apart2 z TI TO i1 i2 [i1,l1] [i2,l2]:=
 ⟨D.TOz,D.TIz,D.TITO,D.TIi1,D.TIi2,by simp,by simp,by simp[D.i1z.symm,D.l1z.symm],by simp[D.i2z.symm,D.l2z.symm],by simp[D.TOi1,D.l1TO.symm],by simp[D.TOi2,D.l2TO.symm],by simp[D.i12.symm,D.l1i2.symm],by simp[D.i12,D.l2i1.symm]⟩
theorem nextZT{Q:Option Value→Shared→Prop}(hh:A.handled=none)(D:ZipApart z TI TO i1 i2 l1 l2){x y:Value}(hz:IsZip s.heap z TI TO .none)(hTI:IsPair s.heap TI (.ref i1) (.ref i2))(hTO:IsPair s.heap TO a b)
 (h1:s.heap.IsTupleIter i1 l1 k)(h2:s.heap.IsTupleIter i2 l2 k)(t1:s.heap.IsTuple l1 xs)(t2:s.heap.IsTuple l2 ys)(hx:xs[k]?=some x)(hy:ys[k]?=some y)
 (hQ:∀h' tk,IsZip h' z TI TO (rawInt s.heap.objs.size)→IsPair h' TO x y→h'.IsTupleIter i1 l1 (k+1)→h'.IsTupleIter i2 l2 (k+1)→IsPair h' s.heap.objs.size x y→
  (∀c o,c≠z→c≠TO→c≠i1→c≠i2→s.heap.get? c=some o→h'.get? c=some o)→Q (some (.ref s.heap.objs.size)) { s with heap:=h',toks:=tk }):wpAny (model prog w) A (pyNext (.ref z)) Q E s:=by
 have hT:s.TypeIs (.ref z) "zip":=⟨_,hz,rfl⟩
 have lx:k<xs.size:=(Array.getElem?_eq_some_iff.mp hx).1
 have ly:k<ys.size:=(Array.getElem?_eq_some_iff.mp hy).1
 have D1:=drawsT (prog:=prog) (w:=w) (A:=A.in1) hh i1 l1 D.l1i1 xs
 have D2:=drawsT (prog:=prog) (w:=w) (A:=A.in1) hh i2 l2 D.l2i2 ys
 unfold pyNext
 refine wpAny_bind (wpAny_attempt (wpAny_callSpecial?_slot (name:=Str.ofString "__next__") hT F.slot_zip_next (wpAny_call_entry F.slot_zip_next hT F.entry_zip_next
  (zipD_item (apart2 D) D1 D2 hz hTI hTO ⟨h1,t1⟩ ⟨h2,t2⟩ lx ly fun x' y' h' tk p1 p2 a1 a2 a3 a4 a5 a6=>?_) (F.args_zip_next_1 _))))
 rw[hx] at p1;rw[hy] at p2;cases p1;cases p2
 exact wpAny_pure (hQ h' tk a1 a2 a3.1 a4.1 a5 a6)
theorem doneZT{Q:Option Value→Shared→Prop}(hh:A.handled=none)(D:ZipApart z TI TO i1 i2 l1 l2)(hz:IsZip s.heap z TI TO .none)(hTI:IsPair s.heap TI (.ref i1) (.ref i2))(hTO:IsPair s.heap TO a b)
 (h1:s.heap.IsTupleIter i1 l1 k)(h2:s.heap.IsTupleIter i2 l2 k)(t1:s.heap.IsTuple l1 xs)(t2:s.heap.IsTuple l2 ys)(hk:k=xs.size∨k<xs.size∧k=ys.size)
 (hQ:∀h' tk,(∀c o,c≠z→c≠TO→c≠i1→c≠i2→s.heap.get? c=some o→h'.get? c=some o)→Q none { s with heap:=h',toks:=tk }):wpAny (model prog w) A (pyNext (.ref z)) Q E s:=by
 have hT:s.TypeIs (.ref z) "zip":=⟨_,hz,rfl⟩
 have D1:=drawsT (prog:=prog) (w:=w) (A:=A.in1) hh i1 l1 D.l1i1 xs
 have D2:=drawsT (prog:=prog) (w:=w) (A:=A.in1) hh i2 l2 D.l2i2 ys
 unfold pyNext
 refine wpAny_bind (wpAny_attempt (wpAny_callSpecial?_slot (name:=Str.ofString "__next__") hT F.slot_zip_next (wpAny_call_entry F.slot_zip_next hT F.entry_zip_next
  (zipD_end (apart2 D) D1 D2 hz hTI hTO ⟨h1,t1⟩ ⟨h2,t2⟩ hk fun h' tk e q ⟨o,ho,hc⟩=>?_) (F.args_zip_next_1 _))))
 refine wpAny_bind (wpAny_isInstance (T:="StopIteration") (b:=true) ⟨o,ho,hc⟩ isSubtype_stop ?_)
 exact wpAny_pure (hQ _ _ q)
end
def ItzT(K:PySem.W.Frag)(a b:Addr):It:=
 ⟨fun i H=>∃xs ys x y,SqT K H a xs∧SqT K H b ys∧xs[i]?=some x∧ys[i]?=some y,
  fun i H v H'=>∃T x y,H T=none∧v=.ref T∧H'=upd H T (.tup [x,y])∧∀xs ys,SqT K H a xs→SqT K H b ys→xs[i]?=some x∧ys[i]?=some y,
  fun i H=>∃xs ys,SqT K H a xs∧SqT K H b ys∧i=min xs.length ys.length⟩
def ZipAtT(z TI TO i1 i2 a b:Addr)(i:Nat)(h:Heap):Prop:=
 IsZip h z TI TO .none∧IsPair h TI (.ref i1) (.ref i2)∧(∃p q,IsPair h TO p q)∧h.IsTupleIter i1 a i∧h.IsTupleIter i2 b i
theorem IsTupleIter.at'{h h':Heap}{i t:Addr}{n:Nat}(x:h.IsTupleIter i t n)(k:∀o,h.get? i=some o→h'.get? i=some o):h'.IsTupleIter i t n:=let ⟨o,e,r⟩:=x;⟨o,k o e,r⟩
theorem turn_zipT{P:Program}{w:World}{K:PySem.W.Frag}{es:List Expr}{kk:Nat}{pos:Pos}(z TI TO i1 i2 a b:Addr)(D:ZipApart z TI TO i1 i2 a b):
 Turn P w K (.Tuple es kk pos) (ItzT K a b) [z,TI,TO,i1,i2] z (ZipAtT z TI TO i1 i2 a b) where
 mem:=by simp
 obj:=fun i h st c hc=>by
  obtain⟨h1,h2,⟨p,q,h3⟩,⟨o4,e4,_,d4⟩,⟨o5,e5,_,d5⟩⟩:=st
  simp only[List.mem_cons,List.not_mem_nil,or_false] at hc
  rcases hc with rfl | rfl | rfl | rfl | rfl
  ·exact⟨_,h1,fun v z=>by cases z⟩
  ·exact⟨_,h2,fun v z=>by cases z⟩
  ·exact⟨_,h3,fun v z=>by cases z⟩
  ·exact⟨_,e4,fun v z=>by rw[d4] at z;cases z⟩
  ·exact⟨_,e5,fun v z=>by rw[d5] at z;cases z⟩
 keep:=fun i h h' st k=>by
  obtain⟨h1,h2,⟨p,q,h3⟩,h4,h5⟩:=st
  exact⟨k z (by simp) _ h1,k TI (by simp) _ h2,⟨p,q,k TO (by simp) _ h3⟩,IsTupleIter.at' h4 fun o e=>k i1 (by simp) o e,IsTupleIter.at' h5 fun o e=>k i2 (by simp) o e⟩
 item:=by
  intro X hP hw hK hc i pins s σ H E I hf st hg
  subst hP hw hK
  obtain⟨xs,ys,x,y,qa,qb,ex,ey⟩:=hg
  obtain⟨us,ra,pa,_⟩:=I.tuple qa
  obtain⟨ws,rb,pb,_⟩:=I.tuple qb
  obtain⟨u,hu,ru⟩:=ra.get ex
  obtain⟨v,hv,rv⟩:=rb.get ey
  obtain⟨h1,h2,⟨p,q,h3⟩,h4,h5⟩:=st
  refine nextZT (xs:=us.toArray) (ys:=ws.toArray) (I.ok.hd hc) D h1 h2 h3 h4 h5 pa pb (by simpa using hu) (by simpa using hv) fun h' tk a1 a2 a3 a4 a5 a6=>?_
  have lt:∀{c o},s.heap.get? c=some o→s.heap.objs.size≠c:=fun e=>Nat.ne_of_gt (Heap.lt_size e)
  refine⟨.ref s.heap.objs.size,rfl,wpAny_letOwnedTupleGo_zip a1 fun g2 z2 k2=>?_⟩
  have hn:H s.heap.objs.size=none:=I.hok.fresh (Nat.le_refl _)
  have k3:∀c o,c∉[z,TO,i1,i2]→s.heap.get? c=some o→g2.get? c=some o:=fun c o hc e=>by
   simp only[List.mem_cons,List.not_mem_nil,or_false,not_or] at hc
   exact k2.extBut c o hc.1 (a6 c o hc.1 hc.2.1 hc.2.2.1 hc.2.2.2 e)
  refine⟨.ref s.heap.objs.size,upd H s.heap.objs.size (.tup [x,y]),I.turnedNew (ch:=[z,TO,i1,i2]) k3 (fun c hc=>hf c ?_) (Nat.le_refl _) ⟨?_,[u,v],.cons ru (.cons rv .nil),⟨_,k2.extBut _ _ (lt h1) a5,rfl,_,rfl⟩⟩,rfl,⟨_,x,y,hn,rfl,rfl,fun xs' ys' qa' qb'=>?_⟩,?_,fun c hc=>?_⟩
  ·simp only[List.mem_cons,List.not_mem_nil,or_false] at hc ⊢
   rcases hc with h | h | h | h
   ·exact .inl h
   ·exact .inr (.inr (.inl h))
   ·exact .inr (.inr (.inr (.inl h)))
   ·exact .inr (.inr (.inr (.inr h)))
  ·show 2≤sizeLine
   rw[sizeLine_eq];decide
  ·rw[I.tuple_inj qa' qa,I.tuple_inj qb' qb]
   exact⟨ex,ey⟩
  ·exact⟨z2,k3 _ _ (by simp[D.TIz,D.TITO,D.TIi1,D.TIi2]) h2,⟨_,_,k2.extBut _ _ D.TOz a2⟩,IsTupleIter.at' a3 fun o e=>k2.extBut _ _ D.i1z e,IsTupleIter.at' a4 fun o e=>k2.extBut _ _ D.i2z e⟩
  ·have hlt:s.heap.objs.size≠c:=by
    simp only[List.mem_cons,List.not_mem_nil,or_false] at hc
    obtain⟨o4,e4,_⟩:=h4
    obtain⟨o5,e5,_⟩:=h5
    rcases hc with rfl | rfl | rfl | rfl | rfl
    ·exact lt h1
    ·exact lt h2
    ·exact lt h3
    ·exact lt e4
    ·exact lt e5
   rw[upd_ne hlt.symm]
   exact(hf c hc).1
 done:=by
  intro X hP hw hK hc i pins s σ H E I hf st hg
  subst hP hw hK
  obtain⟨xs,ys,qa,qb,e⟩:=hg
  obtain⟨us,ra,pa,_⟩:=I.tuple qa
  obtain⟨ws,rb,pb,_⟩:=I.tuple qb
  have la:=ra.length
  have lb:=rb.length
  obtain⟨h1,h2,⟨p,q,h3⟩,h4,h5⟩:=st
  refine doneZT (xs:=us.toArray) (ys:=ws.toArray) (I.ok.hd hc) D h1 h2 h3 h4 h5 pa pb (by simp;omega) fun h' tk k=>⟨rfl,I.turnedL (ch:=[z,TO,i1,i2]) (fun c o hc e=>?_) fun c hc=>hf c ?_⟩
  ·simp only[List.mem_cons,List.not_mem_nil,or_false,not_or] at hc
   exact k c o hc.1 hc.2.1 hc.2.2.1 hc.2.2.2 e
  simp only[List.mem_cons,List.not_mem_nil,or_false] at hc ⊢
  rcases hc with h | h | h | h
  ·exact .inl h
  ·exact .inr (.inr (.inl h))
  ·exact .inr (.inr (.inr (.inl h)))
  ·exact .inr (.inr (.inr (.inr h)))
 self:=fun _ _ _ _ _ st h=>wpAny_pyIter_zip st.1 h
abbrev zT1(h:Heap)(a:Addr):Heap:=h.push { cls:=.type "tuple_iterator",data:=.fields #[.ref a,.int 0 0] }
abbrev zT3(h:Heap)(a b:Addr):Heap:=(zT1 (zT1 h a) b).push { cls:=.type "tuple",data:=.seq #[.ref h.objs.size,.ref (zT1 h a).objs.size] }
abbrev zT4(h:Heap)(a b:Addr):Heap:=(zT3 h a b).push { cls:=.type "tuple",data:=.seq #[.none,.none] }
abbrev zT5(h:Heap)(a b:Addr):Heap:=(zT4 h a b).push { cls:=.type "zip",data:=.fields #[.none,.bool false,.bool false,.ref (zT1 (zT1 h a) b).objs.size,.ref (zT3 h a b).objs.size] }
theorem meets_zipT(l1 l2:Addr)(xs ys:Array Value):
 Meets (Builtin.«zip.__new__» ⟨[.type "zip",.ref l1,.ref l2],[]⟩) (fun _ R s=>s.heap.IsTuple l1 xs∧s.heap.IsTuple l2 ys∧R (.ok (.ret (.ref (zT4 s.heap l1 l2).objs.size))) { s with heap:=zT5 s.heap l1 l2 }):=
 .of_wp fun prog w A R s h=>by
  obtain⟨hp,g,d,tk,os⟩:=s
  obtain⟨t1,t2,h⟩:=h
  have hsub:=sub_zip
  have hL1:Heap.IsTuple (Shared.heap ⟨hp,g,d,tk,os⟩) l1 xs:=t1
  have hL2:Heap.IsTuple (Shared.heap ⟨hp.push { cls:=.type "tuple_iterator",data:=.fields #[.ref l1,.int 0 0] },g,d,tk,os⟩) l2 ys:=Heap.IsTuple.push t2 _
  wp_walk using wpAny_pyIter_tuple hL1,wpAny_pyIter_tuple hL2
  exact⟨_,rfl,h⟩
theorem call_zipT{prog:Program}{w:World}{A:Around}{E:Value→Shared→Prop}{s:Shared}{l1 l2:Addr}{xs ys:Array Value}{Q:Value→Shared→Prop}(t1:s.heap.IsTuple l1 xs)(t2:s.heap.IsTuple l2 ys)
 (h:∀h',IsZip h' (s.heap.objs.size+4) (s.heap.objs.size+2) (s.heap.objs.size+3) .none→IsPair h' (s.heap.objs.size+2) (.ref s.heap.objs.size) (.ref (s.heap.objs.size+1))→IsPair h' (s.heap.objs.size+3) .none .none→
  h'.IsTupleIter s.heap.objs.size l1 0→h'.IsTupleIter (s.heap.objs.size+1) l2 0→(∀c o,s.heap.get? c=some o→h'.get? c=some o)→Q (.ref (s.heap.objs.size+4)) { s with heap:=h' }):
 wpAny (model prog w) A (call (.type "zip") [.ref l1,.ref l2]) Q E s:=by
 refine callType_new F.called_zip (by decide) (F.typeCall_zip_2 _ _) (F.newCall_zip_2 _ _) (fun obj=>F.args_object_init_3 obj _ _) F.entry_zip_new (meets_zipT l1 l2 xs ys) ⟨t1,t2,?_⟩
 have z1:(zT1 s.heap l1).objs.size=s.heap.objs.size+1:=Heap.size_push ..
 have z2:(zT1 (zT1 s.heap l1) l2).objs.size=s.heap.objs.size+2:=by rw[Heap.size_push,z1]
 have z3:(zT3 s.heap l1 l2).objs.size=s.heap.objs.size+3:=by rw[Heap.size_push,z2]
 have z4:(zT4 s.heap l1 l2).objs.size=s.heap.objs.size+4:=by rw[Heap.size_push,z3]
 have p1:∀c o,(zT4 s.heap l1 l2).get? c=some o→(zT5 s.heap l1 l2).get? c=some o:=fun c o e=>Heap.get?_push_of_some _ e
 have p2:∀c o,(zT3 s.heap l1 l2).get? c=some o→(zT5 s.heap l1 l2).get? c=some o:=fun c o e=>p1 c o (Heap.get?_push_of_some _ e)
 have p3:∀c o,(zT1 (zT1 s.heap l1) l2).get? c=some o→(zT5 s.heap l1 l2).get? c=some o:=fun c o e=>p2 c o (Heap.get?_push_of_some _ e)
 have p4:∀c o,(zT1 s.heap l1).get? c=some o→(zT5 s.heap l1 l2).get? c=some o:=fun c o e=>p3 c o (Heap.get?_push_of_some _ e)
 have g5:(zT5 s.heap l1 l2).get? (zT4 s.heap l1 l2).objs.size=some _:=Heap.get?_push_size _ rfl
 have g4:(zT5 s.heap l1 l2).get? (zT3 s.heap l1 l2).objs.size=some _:=p1 _ _ (Heap.get?_push_size _ rfl)
 have g3:(zT5 s.heap l1 l2).get? (zT1 (zT1 s.heap l1) l2).objs.size=some _:=p2 _ _ (Heap.get?_push_size _ rfl)
 have g2:(zT5 s.heap l1 l2).get? (zT1 s.heap l1).objs.size=some _:=p3 _ _ (Heap.get?_push_size _ rfl)
 have g1:(zT5 s.heap l1 l2).get? s.heap.objs.size=some _:=p4 _ _ (Heap.get?_push_size _ rfl)
 show _∧_
 rw[z2,z3,z4] at g5
 rw[z1,z2] at g3
 rw[z3] at g4
 rw[z1] at g2
 rw[z4]
 exact⟨⟨_,g5,rfl⟩,h _ g5 g3 g4 ⟨_,g1,rfl,rfl⟩ ⟨_,g2,rfl,rfl⟩ fun c o x=>p4 c o (Heap.get?_push_of_some _ x)⟩
def iZipT(K:PySem.W.Frag)(ta:TA):TI:=fun σ H R=>ta σ H fun vs H1=>∃a b,vs=[.ref a,.ref b]∧(∃xs ys,SqT K H1 a xs∧SqT K H1 b ys)∧R (ItzT K a b) H1
section
variable{X:Cx}
theorem pi_zipT{a b:Expr}{ta:TA}{p pos:Pos}{es:List Expr}{kk:Nat}{tp:Pos}(hg:Gl X "zip")(hm:X.mg "zip"=none)(ha:PA X [a,b] ta)(hs:starEach [a,b] X.env=[(false,eval a X.env),(false,eval b X.env)]:=by rfl)(hs2:starEach [b] X.env=[(false,eval b X.env)]:=by rfl):
 PI X (.Tuple es kk tp) (.Call (.Name "zip" p) [a,b] [] pos) (iZipT X.K ta):=by
 intro pins s σ H R I h
 refine Call_ (ld_blt I hg hm boot_zip (PyProof.Rows.callWith_type1 (thn (ha pos pins s σ H _ I h) fun us s1 ⟨vs,H1,I1,r1,q1⟩=>?_) (by rw[hs,hs2]) (by rw[hs2];rfl)))
 obtain⟨x,y,e,⟨xs,ys,qa,qb⟩,q⟩:=q1
 subst e
 obtain⟨ia,ra,pa,_⟩:=I1.tuple qa
 obtain⟨ib,rb,pb,_⟩:=I1.tuple qb
 cases r1 with
 | cons r rr=>
  cases rr with
  | cons r' rr=>
   cases rr
   cases (show _=Value.ref x from r)
   cases (show _=Value.ref y from r')
   have l1:x<s1.heap.objs.size:=by obtain⟨o,eo,_⟩:=id pa;exact Heap.lt_size eo
   have l2:y<s1.heap.objs.size:=by obtain⟨o,eo,_⟩:=id pb;exact Heap.lt_size eo
   refine call_zipT pa pb fun h' hz hTI hTO hi1 hi2 hk=>?_
   refine wpAny_pyIter_zip hz ?_
   refine⟨_,_,_,_,H1,rfl,I1.kept (t':=s1.toks) fun c o e=>hk c o e,turn_zipT _ _ _ _ _ x y (zapart l1 l2),⟨hz,hTI,⟨_,_,hTO⟩,hi1,hi2⟩,fun c hc=>?_,q⟩
   have hcs:s1.heap.objs.size≤c:=by
    simp only[List.mem_cons,List.not_mem_nil,or_false] at hc
    rcases hc with rfl | rfl | rfl | rfl | rfl
    ·exact Nat.le_add_right _ _
    ·exact Nat.le_add_right _ _
    ·exact Nat.le_add_right _ _
    ·exact Nat.le_refl _
    ·exact Nat.le_add_right _ _
   exact I1.fpOk hcs (I1.hok.fresh hcs)
end
theorem rd_zipT{K:PySem.W.Frag}{ta:TA}{σ:St}{H:Hp}{R:It→Hp→Prop}(h:ta σ H fun vs H1=>∃a b,vs=[.ref a,.ref b]∧(∃xs ys,SqT K H1 a xs∧SqT K H1 b ys)∧R (ItzT K a b) H1):iZipT K ta σ H R:=h
theorem for_zipT{K:PySem.W.Frag}{a b:Addr}{xs ys:List V}{g:TG}{tb:TS}{D:Ends}{σ:St}{H:Hp}(Pv:Nat→St→Hp→Prop)(h0:Pv 0 σ H)(hl:∀i σ H,i≤min xs.length ys.length→Pv i σ H→SqT K H a xs∧SqT K H b ys)
 (hs:∀i x y T σ H,xs[i]?=some x→ys[i]?=some y→H T=none→Pv i σ H→g (.ref T) σ (upd H T (.tup [x,y])) fun σ2 H2=>tb { D with nx:=Pv (i+1),ct:=Pv (i+1),bk:=D.nx } σ2 H2)(hd:∀σ H,Pv (min xs.length ys.length) σ H→D.nx σ H):
 ∃W:Nat→Nat→St→Hp→Prop,(∃m,W 0 m σ H)∧∀i m σ H,W i m σ H→
  ((ItzT K a b).stop i H∧D.nx σ H)∨((ItzT K a b).go i H∧∃N:St→Hp→Prop,(∀σ' H',N σ' H'→∃m',m'<m∧W (i+1) m' σ' H')∧∀x H',(ItzT K a b).yld i H x H'→g x σ H' fun σ2 H2=>tb { D with nx:=N,ct:=N,bk:=D.nx } σ2 H2):=by
 refine⟨fun i m σ H=>m=min xs.length ys.length-i∧i≤min xs.length ys.length∧Pv i σ H,⟨_,rfl,Nat.zero_le _,h0⟩,?_⟩
 rintro i m σ H ⟨rfl,hi,p⟩
 obtain⟨qa,qb⟩:=hl i σ H hi p
 by_cases hlt:i<min xs.length ys.length
 ·have lx:i<xs.length:=by omega
  have ly:i<ys.length:=by omega
  refine .inr ⟨⟨xs,ys,xs[i],ys[i],qa,qb,by simp[lx],by simp[ly]⟩,Pv (i+1),fun σ' H' p'=>⟨min xs.length ys.length-(i+1),by omega,rfl,hlt,p'⟩,fun v H' y=>?_⟩
  obtain⟨T,x,y,hT,e1,e2,h⟩:=y
  subst e1 e2
  obtain⟨ex,ey⟩:=h xs ys qa qb
  exact hs i x y T σ H ex ey hT p
 ·have e:i=min xs.length ys.length:=by omega
  subst e
  exact .inl ⟨⟨xs,ys,qa,qb,rfl⟩,hd σ H p⟩
end L2
set_option Elab.async false
set_option linter.all false
set_option maxRecDepth 100000
set_option maxHeartbeats 4000000
namespace L2
open PySem PySem.Spec PyProof.Rows
section
variable{P:Program}{w:World}{K:PySem.W.Frag}{h:Heap}{mg:Str→Option Value}{base:Heap}{k0 J:Nat}{g n q:Str}{st:Stmt}{ps:List Str}{sp:Nat→Sp}
end
end L2
namespace L2
open PySem PySem.Spec PyProof.Rows Builtin.Str
section
variable{X:Cx}
end
end L2
set_option Elab.async false
set_option linter.all false
set_option maxRecDepth 100000
set_option maxHeartbeats 4000000
local macro_rules | `(tactic| walk_at "rd1")=> `(tactic| first
 | with_reducible refine L2.rd_seq ?_ | with_reducible refine L2.rd_ret ?_ | with_reducible refine L2.rd_asg ?_ | with_reducible refine L2.rd_ifS ?_ | with_reducible refine L2.rd_next ?_ | with_reducible refine L2.rd_drop ?_
 | with_reducible refine L2.rd_op ?_ | ((with_reducible refine' L2.rd_var ?ev ?_);(case ev=>exact rfl)) | with_reducible refine L2.rd_c ?_ | with_reducible refine L2.rd_un ?_ | with_reducible refine L2.rd_test ?_ | with_reducible refine L2.rd_b ?_
 | with_reducible refine L2.rd_i0 ?_ | with_reducible refine L2.rd_u ?_ | ((with_reducible refine' L2.rd_eq ?es ?_);(case es=>exact rfl)) | ((with_reducible refine' L2.rd_ne ?es ?_);(case es=>exact rfl))
 | with_reducible refine L2.rd_bl ?_ | with_reducible refine L2.rd_not ?_ | with_reducible refine L2.rd_and ?_ | with_reducible refine L2.rd_or ?_ | with_reducible refine L2.rd_andV ?_ | with_reducible refine L2.rd_orV ?_ | with_reducible refine L2.rd_notV ?_ | with_reducible refine L2.rd_chain ?_
 | with_reducible refine L2.rd_call ?_ | with_reducible refine L2.rd_cb ?_ | with_reducible refine L2.rd_nil ?_ | with_reducible refine L2.rd_cons ?_ | with_reducible refine L2.rd_tup ?_ | with_reducible refine L2.rd_lst ?_
 | with_reducible refine L2.rd_bm0 ?_ | with_reducible refine L2.rd_makeD ?_ | with_reducible refine L2.rd_fld ?_ | with_reducible refine L2.rd_sfld ?_ | with_reducible refine L2.rd_meth ?_ | with_reducible refine L2.rd_methL ?_ | with_reducible refine L2.rd_lr ?_ | with_reducible refine L2.rd_lra ?_ | with_reducible refine L2.rd_slice ?_ | with_reducible refine L2.rd_part ?_ | with_reducible refine L2.rd_exI ?_ | with_reducible refine L2.rd_noPart ?_ | with_reducible refine L2.rd_tru ?_ | with_reducible refine L2.rd_truI ?_ | with_reducible refine L2.rd_gsub ?_ | with_reducible refine L2.rd_bitsV ?_
 | with_reducible refine L2.rd_par ?_ | with_reducible refine L2.rd_gname ?_ | with_reducible refine L2.rd_gcons ?_ | with_reducible refine L2.rd_gnil ?_
 | ((with_reducible refine' L2.rd_i ?ec ?_);(case ec=>first | ((with_reducible show L2.CPow _ _);exact⟨by decide,by decide,by decide⟩) | ((with_reducible show L2.CDivB _ _);exact L2.cdiv_small (by decide) (by decide)) | (show (0:Int)<_;first | decide | omega | exact L2.pow2_pos _))))
local macro_rules | `(tactic| walk_at "rd")=> `(tactic| repeat walk_at "rd1")
local macro_rules | `(tactic| walk_at "fm")=> `(tactic| (repeat (first | exact List.forall_mem_nil _ | refine List.forall_mem_cons.mpr ⟨by with_unfolding_all rfl,?_⟩)))
local macro_rules | `(tactic| walk_at "rdi")=> `(tactic| ((with_reducible refine' L2.rd_ixT ?hs1 ?he1 ?_);(case hs1=>first | assumption | exact L2.SqT.of (by assumption));(case he1=>exact rfl)))
local macro_rules | `(tactic| walk_at "rdf")=> `(tactic| ((with_reducible refine L2.rd_for ?_);(first | with_reducible refine L2.rd_iL ?_ | with_reducible refine L2.rd_iT ?_ | with_reducible refine L2.rd_rng1 ?_ | with_reducible refine L2.rd_rng2 ?_ | with_reducible refine L2.rd_rng3 ?_ | with_reducible refine L2.rd_rng2A ?_)))
local macro_rules | `(tactic| walk_at "rdx")=> `(tactic| (repeat (first | walk_at "rd1" | with_reducible refine L2.rd_callE ?_ | with_reducible refine L2.rd_makeE ?_ | with_reducible refine L2.rd_methE ?_ | with_reducible refine L2.rd_methLE ?_ | with_reducible refine L2.rd_raise ?_ | with_reducible refine L2.rd_try ?_ | with_reducible refine L2.rd_xinit ?_ | with_reducible refine L2.rd_xf1 ?_ | with_reducible refine L2.rd_xf2 ?_ | with_reducible refine L2.rd_join ?_ | with_reducible refine L2.rd_xget ?_ | with_reducible refine L2.rd_ifE ?_)))
local macro_rules | `(tactic| walk_at "b0")=> `(tactic| (intro _ _ _ _ _ _ us hl;have h:us=[]:=List.length_eq_zero_iff.mp hl;subst h;rfl))
local macro_rules | `(tactic| walk_at "b1")=> `(tactic| (intro _ _ _ _ _ _ us hl;obtain⟨_,h⟩:=L2.len1 hl;subst h;rfl))
local macro_rules | `(tactic| walk_at "b2")=> `(tactic| (intro _ _ _ _ _ _ us hl;obtain⟨_,_,h⟩:=L2.len2 hl;subst h;rfl))
local macro_rules | `(tactic| walk_at "b3")=> `(tactic| (intro _ _ _ _ _ _ us hl;obtain⟨_,_,_,h⟩:=L2.len3 hl;subst h;rfl))
local macro_rules | `(tactic| walk_at "b4")=> `(tactic| (intro _ _ _ _ _ _ us hl;obtain⟨_,_,_,_,h⟩:=L2.len4 hl;subst h;rfl))
local macro_rules | `(tactic| walk_at "b5")=> `(tactic| (intro _ _ _ _ _ _ us hl;obtain⟨_,_,_,_,_,h⟩:=L2.len5 hl;subst h;rfl))
local macro_rules | `(tactic| walk_at "b6")=> `(tactic| (intro _ _ _ _ _ _ us hl;obtain⟨_,_,_,_,_,_,h⟩:=L2.len6 hl;subst h;rfl))
local macro_rules | `(tactic| walk_at "b7")=> `(tactic| (intro _ _ _ _ _ _ us hl;obtain⟨_,_,_,_,_,_,_,h⟩:=L2.len7 hl;subst h;rfl))
local macro_rules | `(tactic| walk_at "b8")=> `(tactic| (intro _ _ _ _ _ _ us hl;obtain⟨_,_,_,_,_,_,_,_,h⟩:=L2.len8 hl;subst h;rfl))
namespace Fw
theorem fmod_small(r d:Int)(hd:d≠0):0≤r.fmod d*d∧(r.fmod d).natAbs<d.natAbs:=by
 rcases(by omega:0<d∨d<0) with h | h
 ·have a:=Int.fmod_nonneg_of_pos r h
  have b:=Int.fmod_lt_of_pos r h
  exact⟨Int.mul_nonneg a (Int.le_of_lt h),by omega⟩
 ·have e:r.fmod d= -((-r).fmod (-d)):=by
   rw[Int.fmod_def,Int.fmod_def,Int.neg_fdiv_neg,Int.neg_mul];omega
  have a:=Int.fmod_nonneg_of_pos (-r) (b:= -d) (by omega)
  have b:=Int.fmod_lt_of_pos (-r) (b:= -d) (by omega)
  rw[e]
  generalize (-r).fmod (-d)=z at*
  refine⟨?_,by omega⟩
  have:=Int.mul_nonneg a (show 0≤ -d by omega)
  rw[Int.neg_mul];rw[Int.mul_neg] at this;omega
structure EqI(a b u v r u' v' r':Int):Prop where
 e1:u*a+v*b=r
 e2:u'*a+v'*b=r'
 g:Int.gcd r r'=Int.gcd a b
 ph:(u=1∧v=0∧r=a∧u'=0∧v'=1∧r'=b)∨
  (b≠0∧r≠0∧0≤r'*r∧r.natAbs≤b.natAbs∧r'.natAbs≤b.natAbs∧u'.natAbs*r.natAbs+u.natAbs*r'.natAbs≤b.natAbs∧u.natAbs≤b.natAbs+1)
theorem EqI.start(a b:Int):EqI a b 1 0 a 0 1 b:=⟨by omega,by omega,rfl,.inl ⟨rfl,rfl,rfl,rfl,rfl,rfl⟩⟩
theorem natAbs_sub_mul(u q x:Int):(u-q*x).natAbs≤u.natAbs+q.natAbs*x.natAbs:=by
 have h:=Int.natAbs_sub_le u (q*x)
 rw[Int.natAbs_mul] at h
 exact h
theorem same_sign_quot{r d:Int}(hd:d≠0)(hs:0≤d*r):(r-r.fdiv d*d).natAbs+(r.fdiv d).natAbs*d.natAbs=r.natAbs:=by
 have e:r.fmod d+r.fdiv d*d=r:=Int.fmod_add_fdiv_mul r d
 have e2:r-r.fdiv d*d=r.fmod d:=by omega
 rw[e2,←Int.natAbs_mul]
 have fs:=fmod_small r d hd
 rcases(by omega:0<d∨d<0) with h | h
 ·have r0:0≤r:=by
   rcases(by omega:0≤r∨r<0) with z | z
   ·exact z
   ·have:=Int.mul_neg_of_pos_of_neg h z;omega
  have q0:0≤r.fdiv d:=Int.fdiv_nonneg r0 (Int.le_of_lt h)
  have a:=Int.fmod_nonneg_of_pos r h
  have p:=Int.mul_nonneg q0 (Int.le_of_lt h)
  omega
 ·have r0:r≤0:=by
   rcases(by omega:r≤0∨0<r) with z | z
   ·exact z
   ·have:=Int.mul_neg_of_neg_of_pos h z;omega
  have q0:0≤r.fdiv d:=Int.fdiv_nonneg_of_nonpos_of_nonpos r0 (Int.le_of_lt h)
  have a:r.fmod d≤0:=by
   rcases(by omega:r.fmod d≤0∨0<r.fmod d) with z | z
   ·exact z
   ·have:=Int.mul_neg_of_pos_of_neg z h;omega
  have p:=Int.mul_nonneg q0 (show 0≤ -d by omega)
  rw[Int.mul_neg] at p
  omega
theorem EqI.step{a b u v r u' v' r':Int}(I:EqI a b u v r u' v' r')(h:r'≠0):
 EqI a b u' v' r' (u-r.fdiv r'*u') (v-r.fdiv r'*v') (r-r.fdiv r'*r')∧(r-r.fdiv r'*r').natAbs<r'.natAbs:=by
 have e:r.fmod r'+r.fdiv r'*r'=r:=Int.fmod_add_fdiv_mul r r'
 have e2:r-r.fdiv r'*r'=r.fmod r':=by omega
 have fs:=fmod_small r r' h
 refine⟨⟨I.e2,?_,?_,?_⟩,by rw[e2];exact fs.2⟩
 ·have:=I.e1
  have:=I.e2
  grind
 ·rw[Int.gcd_sub_mul_right_right,Int.gcd_comm]
  exact I.g
 ·right
  rcases I.ph with ⟨h1,h2,h3,h4,h5,h6⟩ | ⟨hb,hr,hs,l1,l2,l3,l4⟩
  ·subst h1 h2 h3 h4 h5 h6
   refine⟨h,h,by rw[e2];exact fs.1,Nat.le_refl _,by rw[e2];omega,?_,by simp⟩
   simp
  ·have q:=same_sign_quot h hs
   refine⟨hb,h,by rw[e2];exact fs.1,l2,by rw[e2];omega,?_,?_⟩
   ·have m:=natAbs_sub_mul u (r.fdiv r') u'
    generalize (r-r.fdiv r'*r').natAbs=A at*
    generalize (u-r.fdiv r'*u').natAbs=B at*
    generalize (r.fdiv r').natAbs=C at*
    have k1:B*r'.natAbs≤(u.natAbs+C*u'.natAbs)*r'.natAbs:=Nat.mul_le_mul_right _ m
    have k2:(u.natAbs+C*u'.natAbs)*r'.natAbs+u'.natAbs*A=u.natAbs*r'.natAbs+u'.natAbs*(A+C*r'.natAbs):=by grind
    rw[q] at k2
    omega
   ·have:u'.natAbs*1≤u'.natAbs*r.natAbs:=Nat.mul_le_mul_left _ (by omega)
    omega
theorem v_bound{a b u v r:Int}(hb:b≠0)(e:u*a+v*b=r)(l1:r.natAbs≤b.natAbs)(l4:u.natAbs≤b.natAbs+1):v.natAbs≤1+2*a.natAbs:=by
 have e1:v*b=r-u*a:=by omega
 have h:=natAbs_sub_mul r u a
 rw[←e1,Int.natAbs_mul] at h
 have hb':0<b.natAbs:=by omega
 have k:u.natAbs*a.natAbs≤(b.natAbs+1)*a.natAbs:=Nat.mul_le_mul_right _ l4
 have k2:a.natAbs*1≤a.natAbs*b.natAbs:=Nat.mul_le_mul_left _ hb'
 have k3:v.natAbs*b.natAbs≤(1+2*a.natAbs)*b.natAbs:=by grind
 exact Nat.le_of_mul_le_mul_right k3 hb'
theorem EqI.bounds{a b u v r u' v' r':Int}(I:EqI a b u v r u' v' r'):
 u.natAbs≤b.natAbs+1∧v.natAbs≤1+2*a.natAbs∧u'.natAbs≤b.natAbs+1∧v'.natAbs≤1+2*a.natAbs∧r.natAbs≤a.natAbs+b.natAbs∧r'.natAbs≤b.natAbs:=by
 rcases I.ph with ⟨h1,h2,h3,h4,h5,h6⟩ | ⟨hb,hr,hs,l1,l2,l3,l4⟩
 ·subst h1 h2 h3 h4 h5 h6
  refine⟨by simp,by simp,by simp,by simp,by omega,by omega⟩
 ·have:u'.natAbs*1≤u'.natAbs*r.natAbs:=Nat.mul_le_mul_left _ (by omega)
  have lu:u'.natAbs≤b.natAbs+1:=by omega
  exact⟨l4,v_bound hb I.e1 l1 l4,lu,v_bound hb I.e2 l2 lu,by omega,l2⟩
theorem quot_bound{r d:Int}(hd:d≠0):(r.fdiv d).natAbs≤r.natAbs+1:=by
 have e:r.fmod d+r.fdiv d*d=r:=Int.fmod_add_fdiv_mul r d
 have fs:=(fmod_small r d hd).2
 have h:(r.fdiv d*d).natAbs≤r.natAbs+(r.fmod d).natAbs:=by omega
 rw[Int.natAbs_mul] at h
 have d1:1≤d.natAbs:=by omega
 generalize (r.fdiv d).natAbs=x at*
 generalize d.natAbs=y at*
 generalize r.natAbs=z at*
 rcases(by omega:x≤1∨2≤x) with c | c
 ·omega
 ·obtain⟨k,rfl⟩:∃k,x=k+1:=⟨x-1,by omega⟩
  have:(k+1)*y=k*y+y:=Nat.succ_mul k y
  have:k*1≤k*y:=Nat.mul_le_mul_left k d1
  omega
structure Eqn(a b u v g:Int):Prop where
 eq:u*a+v*b=g
 gd:g=(Int.gcd a b:Int)
 bu:u.natAbs≤b.natAbs+1
 bv:v.natAbs≤1+2*a.natAbs
theorem EqI.done{a b u v r u' v':Int}(I:EqI a b u v r u' v' 0):(r<0→Eqn a b (-u) (-v) (-r))∧(¬r<0→Eqn a b u v r):=by
 have g:=I.g
 rw[Int.gcd_zero_right] at g
 have B:=I.bounds
 refine⟨fun h=>⟨?_,by omega,by omega,by omega⟩,fun h=>⟨I.e1,by omega,B.1,B.2.1⟩⟩
 have:=I.e1
 rw[Int.neg_mul,Int.neg_mul];omega
end Fw
namespace Fw
theorem gcd_pos{a b:Int}(ha:0<a):0<(Int.gcd a b:Int):=by
 have:Int.gcd a b≠0:=fun z=>by
  have:=Int.eq_zero_of_gcd_eq_zero_left z
  omega
 omega
theorem gcd_le{a b:Int}(ha:0<a):(Int.gcd a b:Int)≤a:=Int.le_of_dvd ha (Int.gcd_dvd_left ..)
def lcmI(a b:Int):Int:=a/(Int.gcd a b:Int)*b
theorem lcmI_facts{a b:Int}(ha:0<a)(hb:0<b):
 0<lcmI a b∧a∣lcmI a b∧b∣lcmI a b∧lcmI a b*(Int.gcd a b:Int)=a*b∧(∀t,a∣t→b∣t→lcmI a b∣t)∧lcmI a b=(Int.lcm a b:Int):=by
 have gp:=gcd_pos (b:=b) ha
 obtain⟨x,hx⟩:(Int.gcd a b:Int)∣a:=Int.gcd_dvd_left ..
 obtain⟨y,hy⟩:(Int.gcd a b:Int)∣b:=Int.gcd_dvd_right ..
 have e1:a/(Int.gcd a b:Int)=x:=by
  have gne:(Int.gcd a b:Int)≠0:=by omega
  generalize hg:(Int.gcd a b:Int)=g at*
  rw[hx]
  exact Int.mul_ediv_cancel_left x gne
 have e:lcmI a b=x*b:=by unfold lcmI;rw[e1]
 have pr:lcmI a b*(Int.gcd a b:Int)=a*b:=by rw[e];conv=>rhs;rw[hx]
                                            grind
 have pl:(Int.lcm a b:Int)*(Int.gcd a b:Int)=a*b:=by
  have h:=Int.gcd_mul_lcm a b
  have h2:((Int.gcd a b*Int.lcm a b:Nat):Int)=((a.natAbs*b.natAbs:Nat):Int):=by rw[h]
  rw[Int.natCast_mul,Int.natCast_mul,Int.natAbs_of_nonneg (Int.le_of_lt ha),Int.natAbs_of_nonneg (Int.le_of_lt hb)] at h2
  rw[Int.mul_comm];exact h2
 have el:lcmI a b=(Int.lcm a b:Int):=Int.eq_of_mul_eq_mul_right (by omega:(Int.gcd a b:Int)≠0) (pr.trans pl.symm)
 refine⟨?_,?_,?_,pr,?_,el⟩
 ·have:0<lcmI a b*(Int.gcd a b:Int):=by rw[pr];exact Int.mul_pos ha hb
  exact Int.pos_of_mul_pos_left this gp
 ·rw[el];exact Int.dvd_lcm_left ..
 ·rw[el];exact Int.dvd_lcm_right ..
 ·intro t h1 h2;rw[el];exact Int.coe_lcm_dvd h1 h2
theorem lcmI_comm{a b:Int}(ha:0<a)(hb:0<b):lcmI a b=lcmI b a:=by
 rw[(lcmI_facts ha hb).2.2.2.2.2,(lcmI_facts hb ha).2.2.2.2.2,Int.lcm_comm]
end Fw
namespace Fw
def On(n:Int)(b:Nat)(d:Int):Bool:=b.testBit (d%n).toNat
theorem on_eq(b k:Nat):decide (((b:Nat):Int)/2^k%2=1)=b.testBit k:=by
 rw[Nat.testBit_eq_decide_div_mod_eq]
 have e:((b:Nat):Int)/2^k%2=((b/2^k%2:Nat):Int):=by
  rw[Int.natCast_emod,Int.natCast_ediv,Int.natCast_pow];rfl
 rw[e,Bool.eq_iff_iff]
 simp only[decide_eq_true_eq]
 omega
theorem shr_cast(b k:Nat):((b:Nat):Int)/2^k=((b >>> k:Nat):Int):=by
 rw[Nat.shiftRight_eq_div_pow,Int.natCast_ediv,Int.natCast_pow];rfl
theorem shl_cast(b k:Nat):((b:Nat):Int)*2^k=((b <<< k:Nat):Int):=by
 rw[Nat.shiftLeft_eq,Int.natCast_mul,Int.natCast_pow];rfl
theorem full_cast(k:Nat):(1:Int)*2^k-1=((2^k-1:Nat):Int):=by
 have:0<2^k:=Nat.two_pow_pos k
 rw[Int.natCast_sub (by omega),Int.natCast_pow];simp
theorem pow_cast(k:Nat):(1:Int)*2^k=((2^k:Nat):Int):=by
 rw[Int.natCast_pow];simp
theorem bits_ext{w b c:Nat}(hb:b<2^w)(hc:c<2^w)(h:∀i,i<w→b.testBit i=c.testBit i):b=c:=by
 refine Nat.eq_of_testBit_eq fun i=>?_
 by_cases hi:i<w
 ·exact h i hi
 ·have p:2^w≤2^i:=Nat.pow_le_pow_right (by decide) (by omega)
  rw[Nat.testBit_lt_two_pow (by omega),Nat.testBit_lt_two_pow (by omega)]
theorem high{n b i:Nat}(hb:b<2^n)(h:n≤i):b.testBit i=false:=by
 have p:2^n≤2^i:=Nat.pow_le_pow_right (by decide) h
 exact Nat.testBit_lt_two_pow (by omega)
theorem and_full_lt(c w:Nat):c &&& (2^w-1)<2^w:=by
 rw[Nat.and_two_pow_sub_one_eq_mod];exact Nat.mod_lt _ (Nat.two_pow_pos w)
theorem and_full_bit(c w i:Nat)(h:i<w):(c &&& (2^w-1)).testBit i=c.testBit i:=by
 rw[Nat.testBit_and,Nat.testBit_two_pow_sub_one];simp[h]
def lat(n b s:Nat):Nat:=((b <<< s) ||| (b >>> (n-s))) &&& (2^n-1)
theorem lat_lt(n b s:Nat):lat n b s<2^n:=and_full_lt _ _
structure Strt(n b w c:Nat):Prop where
 lt:c<2^w
 bit:∀i,i<w→c.testBit i=b.testBit (i%n)
theorem Strt.start{n b:Nat}(h:b<2^n):Strt n b n b:=⟨h,fun i hi=>by rw[Nat.mod_eq_of_lt hi]⟩
theorem Strt.dbl{n b w c:Nat}(S:Strt n b w c)(hd:n∣w):Strt n b (w*2) (c ||| (c <<< w)):=by
 have e:2^(w*2)=2^w*2^w:=by rw[Nat.mul_two,Nat.pow_add]
 refine⟨?_,fun i hi=>?_⟩
 ·refine Nat.or_lt_two_pow (Nat.lt_of_lt_of_le S.lt (Nat.pow_le_pow_right (by decide) (by omega))) ?_
  rw[Nat.shiftLeft_eq,e]
  exact Nat.mul_lt_mul_of_pos_right S.lt (Nat.two_pow_pos w)
 ·rw[Nat.testBit_or,Nat.testBit_shiftLeft]
  by_cases h:i<w
  ·rw[S.bit i h];simp[Nat.not_le.mpr h]
  ·rw[high S.lt (by omega),S.bit (i-w) (by omega)]
   obtain⟨k,rfl⟩:=hd
   have e2:i=(i-n*k)+n*k:=by omega
   have e3:i%n=(i-n*k)%n:=by conv=>lhs;rw[e2,Nat.add_mul_mod_self_left]
   rw[e3];simp;intro z;omega
theorem Strt.cut{n b w c z:Nat}(S:Strt n b w c)(h:z≤w):Strt n b z (c &&& (2^z-1)):=
 ⟨and_full_lt _ _,fun i hi=>by rw[and_full_bit _ _ _ hi,S.bit i (by omega)]⟩
theorem Strt.on{n m:Int}{b c:Nat}(hn:0<n)(hm:0<m)(hd:n∣m)(S:Strt n.toNat b m.toNat c)(d:Int):On m c d=On n b d:=by
 unfold On
 have h1:=Int.emod_nonneg d (show m≠0 by omega)
 have h2:=Int.emod_lt_of_pos d hm
 rw[S.bit _ (by omega)]
 congr 1
 have e:(d%m)%n=d%n:=Int.emod_emod_of_dvd d hd
 have h3:=Int.emod_nonneg d (show n≠0 by omega)
 have k:(((d%m).toNat%n.toNat:Nat):Int)=d%m%n:=by
  rw[Int.natCast_emod]
  have a1:((d%m).toNat:Int)=d%m:=by omega
  have a2:(n.toNat:Int)=n:=by omega
  rw[a1,a2]
 rw[e] at k
 omega
end Fw
namespace Fw
def hit(n:Int)(ds:List Int)(d:Int):Bool:=ds.any fun x=>decide ((d-x)%n=0)
structure RB(n:Int)(ds:List Int)(b:Nat):Prop where
 lt:b<2^n.toNat
 bit:∀d,On n b d=hit n ds d
theorem RB.nil(n:Int):RB n [] 0:=⟨Nat.two_pow_pos _,fun d=>by unfold On hit;simp⟩
theorem sub_mod_zero{n d x:Int}(hn:0<n):(d-x)%n=0↔d%n=x%n:=by
 rw[Int.sub_emod]
 have h1:=Int.emod_nonneg d (show n≠0 by omega)
 have h2:=Int.emod_lt_of_pos d hn
 have h3:=Int.emod_nonneg x (show n≠0 by omega)
 have h4:=Int.emod_lt_of_pos x hn
 constructor
 ·intro h
  have:=Int.dvd_of_emod_eq_zero h
  obtain⟨k,hk⟩:=this
  have:k=0:=by
   rcases Int.lt_trichotomy k 0 with z | z | z
   ·have:n*k≤n*(-1):=Int.mul_le_mul_of_nonneg_left (by omega) (by omega)
    omega
   ·exact z
   ·have:n*1≤n*k:=Int.mul_le_mul_of_nonneg_left (by omega) (by omega)
    omega
  subst this
  omega
 ·intro h
  rw[h]
  simp
theorem RB.snoc{n:Int}{ds:List Int}{b:Nat}{x:Int}(hn:0<n)(h:RB n ds b):RB n (ds++[x]) (b ||| 2^(x%n).toNat):=by
 have h3:=Int.emod_nonneg x (show n≠0 by omega)
 have h4:=Int.emod_lt_of_pos x hn
 refine⟨Nat.or_lt_two_pow h.lt (Nat.pow_lt_pow_right (by decide) (by omega)),fun d=>?_⟩
 have h1:=Int.emod_nonneg d (show n≠0 by omega)
 have hb:=h.bit d
 unfold On hit at*
 rw[Nat.testBit_or,hb,List.any_append,Nat.testBit_two_pow]
 congr 1
 rw[List.any_cons,List.any_nil,Bool.or_false,Bool.eq_iff_iff,decide_eq_true_eq,decide_eq_true_eq,sub_mod_zero hn]
 omega
end Fw
namespace Fw
def cnt(b:Nat):Nat→Nat
 | 0=>0
 | k+1=>cnt b k+(if b.testBit k then 1 else 0)
theorem cnt_step(b:Nat):∀k,cnt b (k+1)=b%2+cnt (b/2) k
 | 0=>by
  simp only[cnt,Nat.testBit_zero]
  have:=Nat.mod_two_eq_zero_or_one b
  rcases this with h | h<;>simp[h]
 | k+1=>by
  have ih:=cnt_step b k
  rw[cnt,ih]
  show b%2+cnt (b/2) k+_=b%2+(cnt (b/2) k+_)
  rw[Nat.testBit_succ]
  omega
def CC(n:Int)(b:Nat)(d:Int):Int:=d/n*(cnt b n.toNat:Int)+(cnt b (d%n).toNat:Int)
end Fw
namespace Fw
end Fw
namespace Fw
def fval(w:Nat):List Nat→Nat
 | []=>0
 | a::l=>a+2^w*fval w l
def fsum:List Nat→Nat
 | []=>0
 | a::l=>a+fsum l
def Dg(w f s:Nat):Prop:=∃l:List Nat,(∀a∈l,a≤w)∧f=fval w l∧s=fsum l
theorem Dg.nil{w:Nat}:Dg w 0 0:=⟨[],(fun _ h=>nomatch h),rfl,rfl⟩
theorem Dg.cons{w a f s:Nat}(h:a≤w)(g:Dg w f s):Dg w (a+2^w*f) (a+s):=by
 obtain⟨l,h1,rfl,rfl⟩:=g
 exact⟨a::l,fun x hx=>(List.mem_cons.mp hx).elim (fun e=>e ▸ h) (h1 x),rfl,rfl⟩
def Ev(w f e:Nat):Prop:=∀i,e.testBit i=(f.testBit i&&decide (i%(2*w)<w))
theorem fval_zero{w:Nat}:∀l:List Nat,fval w l=0→fsum l=0
 | [],_=>rfl
 | a::l,e=>by
  have e:a+2^w*fval w l=0:=e
  have e1:a=0:=by omega
  have e2:2^w*fval w l=0:=by omega
  have p:=Nat.two_pow_pos w
  rcases Nat.mul_eq_zero.mp e2 with z | z
  ·omega
  ·show a+fsum l=0
   rw[e1,fval_zero l z]
theorem Dg.last{w f s:Nat}(h:Dg w f s)(hl:f<2^w):f=s:=by
 obtain⟨l,_,rfl,rfl⟩:=h
 cases l with
 | nil=>rfl
 | cons a l=>
  have hl:a+2^w*fval w l<2^w:=hl
  have z:fval w l=0:=by
   rcases Nat.eq_zero_or_pos (fval w l) with z | z
   ·exact z
   ·have:=Nat.le_mul_of_pos_right (2^w) z
    omega
  show a+2^w*fval w l=a+fsum l
  rw[fval_zero l z,z];simp
theorem bit_split{w a h:Nat}(ha:a<2^w)(i:Nat):(a+2^w*h).testBit i=if i<w then a.testBit i else h.testBit (i-w):=by
 rw[Nat.add_comm,Nat.testBit_two_pow_mul_add h ha]
theorem Ev.peel{w a h e:Nat}(w0:0<w)(ha:a<2^w)(H:Ev w (a+2^w*h) e):e=a+2^(2*w)*(e/2^(2*w))∧Ev w (h/2^w) (e/2^(2*w)):=by
 have e1:e%2^(2*w)=a:=by
  refine Nat.eq_of_testBit_eq fun i=>?_
  rw[Nat.testBit_mod_two_pow,H i,bit_split ha]
  by_cases c:i<w
  ·rw[if_pos c,Nat.mod_eq_of_lt (by omega)]
   simp[c,show i<2*w by omega]
  ·rw[if_neg c]
   have:a.testBit i=false:=Nat.testBit_lt_two_pow (Nat.lt_of_lt_of_le ha (Nat.pow_le_pow_right (by decide) (by omega)))
   rw[this]
   by_cases c2:i<2*w
   ·rw[Nat.mod_eq_of_lt c2]
    simp[c]
   ·simp[c2]
 refine⟨?_,fun i=>?_⟩
 ·have:=Nat.mod_add_div e (2^(2*w))
  rw[e1] at this
  exact this.symm
 ·rw[←Nat.shiftRight_eq_div_pow,←Nat.shiftRight_eq_div_pow,Nat.testBit_shiftRight,Nat.testBit_shiftRight,H,bit_split ha,if_neg (by omega),show 2*w+i-w=w+i by omega,Nat.add_mod_left]
theorem fpair{w:Nat}(w0:0<w):∀l:List Nat,(∀a∈l,a≤w)→∀e1 e2,Ev w (fval w l) e1→Ev w (fval w l/2^w) e2→Dg (2*w) (e1+e2) (fsum l)∧e1+e2≤fval w l
 | [],_,e1,e2,h1,h2=>by
  have z:∀e,Ev w 0 e→e=0:=fun e he=>Nat.eq_of_testBit_eq fun i=>by rw[he i,Nat.zero_testBit];rfl
  have h2:Ev w (0/2^w) e2:=h2
  rw[Nat.zero_div] at h2
  rw[z e1 h1,z e2 h2]
  exact⟨.nil,Nat.le_refl _⟩
 | [a],ha,e1,e2,h1,h2=>by
  have ha:=ha a List.mem_cons_self
  have h1:Ev w (a+2^w*0) e1:=h1
  have h2:Ev w ((a+2^w*0)/2^w) e2:=h2
  show Dg (2*w) (e1+e2) (a+0)∧e1+e2≤a+2^w*0
  have al:a<2^w:=Nat.lt_of_le_of_lt ha Nat.lt_two_pow_self
  have z:∀e,Ev w 0 e→e=0:=fun e he=>Nat.eq_of_testBit_eq fun i=>by rw[he i,Nat.zero_testBit];rfl
  obtain⟨p1,p2⟩:=h1.peel w0 al
  rw[Nat.zero_div] at p2
  have p3:=z _ p2
  rw[Nat.mul_zero,Nat.add_zero,Nat.div_eq_of_lt al] at h2
  have p4:=z _ h2
  rw[p3,Nat.mul_zero,Nat.add_zero] at p1
  rw[p1,p4,Nat.mul_zero]
  refine⟨?_,by omega⟩
  have:=Dg.cons (w:=2*w) (a:=a) (by omega) (.nil)
  rwa [Nat.mul_zero] at this
 | a::b::l,hl,e1,e2,h1,h2=>by
  have ha:=hl a List.mem_cons_self
  have hb:=hl b (List.mem_cons_of_mem _ List.mem_cons_self)
  have hg:∀x∈l,x≤w:=fun x hx=>hl x (List.mem_cons_of_mem _ (List.mem_cons_of_mem _ hx))
  have h1:Ev w (a+2^w*(b+2^w*fval w l)) e1:=h1
  have h2:Ev w ((a+2^w*(b+2^w*fval w l))/2^w) e2:=h2
  have ih:=fpair w0 l hg
  show Dg (2*w) (e1+e2) (a+(b+fsum l))∧e1+e2≤a+2^w*(b+2^w*fval w l)
  generalize fval w l=g at*
  generalize fsum l=s at*
  have al:a<2^w:=Nat.lt_of_le_of_lt ha Nat.lt_two_pow_self
  have bl:b<2^w:=Nat.lt_of_le_of_lt hb Nat.lt_two_pow_self
  have p:=Nat.two_pow_pos w
  have d1:(a+2^w*(b+2^w*g))/2^w=b+2^w*g:=by rw[Nat.add_mul_div_left _ _ p,Nat.div_eq_of_lt al,Nat.zero_add]
  have d2:(b+2^w*g)/2^w=g:=by rw[Nat.add_mul_div_left _ _ p,Nat.div_eq_of_lt bl,Nat.zero_add]
  rw[d1] at h2
  obtain⟨p1,p2⟩:=h1.peel w0 al
  obtain⟨p3,p4⟩:=h2.peel w0 bl
  rw[d2] at p2
  obtain⟨i1,i2⟩:=ih _ _ p2 p4
  have:=Dg.cons (w:=2*w) (a:=a+b) (by omega) i1
  refine⟨?_,?_⟩
  ·rw[p1,p3]
   rw[Nat.mul_add] at this
   have e:a+2^(2*w)*(e1/2^(2*w))+(b+2^(2*w)*(e2/2^(2*w)))=a+b+(2^(2*w)*(e1/2^(2*w))+2^(2*w)*(e2/2^(2*w))):=by omega
   rw[e,←Nat.add_assoc a b s]
   exact this
  ·have m:=Nat.mul_le_mul_left (2^(2*w)) i2
   rw[Nat.mul_add] at m
   have q1:b≤2^w*b:=Nat.le_mul_of_pos_left b p
   have q2:2^w*(2^w*g)=2^(2*w)*g:=by rw[←Nat.mul_assoc,←Nat.pow_add,Nat.two_mul]
   rw[Nat.mul_add,q2]
   omega
theorem Dg.pair{w f s:Nat}(w0:0<w)(h:Dg w f s){e1 e2:Nat}(h1:Ev w f e1)(h2:Ev w (f/2^w) e2):Dg (2*w) (e1+e2) s∧e1+e2≤f:=by
 obtain⟨l,hl,rfl,rfl⟩:=h
 exact fpair w0 l hl e1 e2 h1 h2
theorem Dg.start:∀(n b:Nat),b<2^n→Dg 1 b (cnt b n)
 | 0,b,h=>by
  have:b=0:=by simp at h;exact h
  subst this
  exact .nil
 | n+1,b,h=>by
  have:=Dg.cons (w:=1) (a:=b%2) (by omega) (Dg.start n (b/2) (by rw[Nat.pow_succ] at h;omega))
  rw[cnt_step]
  rwa [Nat.pow_one,Nat.mod_add_div] at this
theorem cnt_same{b c:Nat}:∀{k:Nat},(∀i,i<k→b.testBit i=c.testBit i)→cnt b k=cnt c k
 | 0,_=>rfl
 | k+1,h=>by
  rw[cnt,cnt,cnt_same (fun i hi=>h i (by omega)),h k (by omega)]
theorem cnt_le(b:Nat):∀k,cnt b k≤k
 | 0=>Nat.le_refl _
 | k+1=>by
  have:=cnt_le b k
  rw[cnt]
  split<;>omega
end Fw
namespace Fw
def pc(b j:Nat):Nat:=b/2^(256*j)%2^256
theorem pc_bit(b j i:Nat):(pc b j).testBit i=(decide (i<256)&&b.testBit (256*j+i)):=by
 unfold pc
 rw[Nat.testBit_mod_two_pow,←Nat.shiftRight_eq_div_pow,Nat.testBit_shiftRight]
theorem pc_lt(b j:Nat):pc b j<2^256:=Nat.mod_lt _ (Nat.two_pow_pos _)
theorem pc_or_at(b p:Nat):pc (b ||| 2^p) (p/256)=pc b (p/256) ||| 2^(p%256):=by
 refine Nat.eq_of_testBit_eq fun i=>?_
 rw[pc_bit,Nat.testBit_or,Nat.testBit_or,pc_bit,Nat.testBit_two_pow,Nat.testBit_two_pow]
 by_cases c:i<256
 ·have:(p=256*(p/256)+i)=(p%256=i):=propext ⟨fun h=>by omega,fun h=>by omega⟩
  simp[c,this]
 ·have:¬p%256=i:=by omega
  simp[c,this]
theorem pc_or_ne{b p j:Nat}(h:j≠p/256):pc (b ||| 2^p) j=pc b j:=by
 refine Nat.eq_of_testBit_eq fun i=>?_
 rw[pc_bit,Nat.testBit_or,pc_bit,Nat.testBit_two_pow]
 by_cases c:i<256
 ·have:¬p=256*j+i:=by omega
  simp[c,this]
 ·simp[c]
theorem pc_join(b m:Nat):b%2^(256*m) ||| (pc b m <<< (256*m))=b%2^(256*(m+1)):=by
 refine Nat.eq_of_testBit_eq fun i=>?_
 rw[Nat.testBit_or,Nat.testBit_shiftLeft,Nat.testBit_mod_two_pow,Nat.testBit_mod_two_pow,pc_bit]
 by_cases c:i<256*m
 ·simp[c,show ¬256*m≤i by omega,show i<256*(m+1) by omega]
 ·by_cases c2:i<256*(m+1)
  ·simp[c,c2,show 256*m≤i by omega,show i-256*m<256 by omega,show 256*m+(i-256*m)=i by omega]
  ·simp[c,c2,show ¬i-256*m<256 by omega]
end Fw
namespace Fw
end Fw
namespace Fw
end Fw
namespace Fw
end Fw
namespace Fw
def Till(on1 on2:Int→Bool)(d:Int):Prop:=∃r,on1 r=true∧r≤d∧∀s,on2 s=true→r<s→d<s
end Fw
namespace Fw
def Kth(n1:Int)(b1:Nat)(n2:Int)(b2:Nat)(k d:Int):Prop:=On n1 b1 d=true∧∃b e,On n2 b2 b=true∧On n2 b2 e=true∧b≤d∧d<e∧(∀r,b<r→r<e→On n2 b2 r=false)∧(0<k→CC n1 b1 (d+1)-CC n1 b1 b=k)∧(k<0→CC n1 b1 e-CC n1 b1 d= -k)
end Fw
namespace Fw
end Fw
namespace Fw
theorem CC_mul{n:Int}{b:Nat}(hn:0<n)(d j:Int):CC n b (d+n*j)=CC n b d+j*(cnt b n.toNat:Int):=by
 unfold CC
 rw[Int.add_mul_ediv_left _ _ (by omega),Int.add_mul_emod_self_left,Int.add_mul]
 omega
theorem CC_zero{n:Int}{b:Nat}:CC n b 0=0:=by
 unfold CC
 rw[Int.zero_ediv,Int.zero_emod]
 show 0*_+((cnt b 0:Nat):Int)=0
 rw[Int.zero_mul]
 rfl
structure Dn(n:Int)(b:Nat)(ds:List Int):Prop where
 len:(ds.length:Int)=(cnt b n.toNat:Int)
 at':∀(j:Nat) (x:Int),ds[j]?=some x→On n b x=true∧CC n b x=(j:Int)∧0≤x∧x<n
def dayOf(n:Int)(ds:List Int)(P:Int):Int:=P/(ds.length:Int)*n+(ds[(P%(ds.length:Int)).toNat]?).getD 0
theorem Dn.day{n:Int}{b:Nat}{ds:List Int}(hn:0<n)(D:Dn n b ds)(h:0<ds.length)(P:Int):On n b (dayOf n ds P)=true∧CC n b (dayOf n ds P)=P:=by
 have m0:=Int.emod_nonneg P (show (ds.length:Int)≠0 by omega)
 have m1:=Int.emod_lt_of_pos P (show (0:Int)<(ds.length:Int) by omega)
 have hl:(P%(ds.length:Int)).toNat<ds.length:=by omega
 obtain⟨x,hx⟩:∃x,ds[(P%(ds.length:Int)).toNat]?=some x:=⟨_,List.getElem?_eq_getElem hl⟩
 obtain⟨a1,a2,a3,a4⟩:=D.at' _ _ hx
 have e:dayOf n ds P=x+n*(P/(ds.length:Int)):=by
  unfold dayOf
  rw[hx,Int.mul_comm]
  show _+x=_
  omega
 have p:=Int.mul_ediv_add_emod P (ds.length:Int)
 rw[e]
 constructor
 ·unfold On at a1 ⊢
  rwa [Int.add_mul_emod_self_left]
 ·rw[CC_mul hn,a2,←D.len,Int.mul_comm]
  omega
end Fw
namespace Fw
def behindOf(z:Int)(ds:List Int):List Int:=ds.drop 1++(ds.take 1).map (· +z)
def mids(z:Int)(ds:List Int):List Int:=List.zipWith (fun x y=>(x+y)/2+1) ds (behindOf z ds)
theorem behind_len(z:Int)(ds:List Int):(behindOf z ds).length=ds.length:=by
 unfold behindOf
 rw[List.length_append,List.length_drop,List.length_map,List.length_take]
 omega
end Fw
namespace Fw
def geo(s:Nat):Nat→Nat
 | 0=>0
 | t+1=>geo s t+2^(s*t)
theorem geo_mul(s:Nat):∀t,(2^s-1)*geo s t=2^(s*t)-1
 | 0=>by simp[geo]
 | t+1=>by
  have ih:=geo_mul s t
  have p1:=Nat.two_pow_pos (s*t)
  have p2:=Nat.two_pow_pos s
  rw[geo,Nat.mul_add,ih,Nat.mul_succ,Nat.pow_add,Nat.sub_mul,Nat.one_mul,Nat.mul_comm (2^s)]
  have:2^(s*t)≤2^(s*t)*2^s:=Nat.le_mul_of_pos_right _ p2
  omega
theorem geo_div{s:Nat}(s0:0<s)(t:Nat):(2^(s*t)-1)/(2^s-1)=geo s t:=by
 have p:0<2^s-1:=by
  have:=Nat.pow_le_pow_right (show 0<2 by decide) (show 1≤s by omega)
  omega
 rw[←geo_mul s t,Nat.mul_div_cancel_left _ p]
theorem geo_strt{s b:Nat}(s0:0<s)(hb:b<2^s):∀t,Strt s b (s*t) (b*geo s t)
 | 0=>⟨by simp[geo],fun i hi=>by simp at hi⟩
 | t+1=>by
  have ih:=geo_strt s0 hb t
  have e:b*geo s (t+1)=2^(s*t)*b+b*geo s t:=by rw[geo,Nat.mul_add,Nat.mul_comm b (2^(s*t))];omega
  rw[e]
  refine⟨?_,fun i hi=>?_⟩
  ·rw[Nat.mul_succ,Nat.pow_add]
   have h1:2^(s*t)*b+2^(s*t)≤2^(s*t)*2^s:=by
    have:=Nat.mul_le_mul_left (2^(s*t)) hb
    rwa [Nat.mul_succ] at this
   have:=ih.lt
   omega
  ·rw[Nat.testBit_two_pow_mul_add _ ih.lt]
   by_cases c:i<s*t
   ·rw[if_pos c,ih.bit i c]
   ·rw[if_neg c]
    rw[Nat.mul_succ] at hi
    have e2:i%s=i-s*t:=by
     have:i=(i-s*t)+s*t:=by omega
     conv=>lhs;rw[this,Nat.add_mul_mod_self_left]
     exact Nat.mod_eq_of_lt (by omega)
    rw[e2]
theorem laid_strt{s b:Nat}(s0:0<s)(hb:b<2^s)(t:Nat):Strt s b (s*t) (b*((2^(s*t)-1)/(2^s-1))):=by
 rw[geo_div s0]
 exact geo_strt s0 hb t
end Fw
namespace Fw
def Prm(r:Nat):Prop:=2≤r∧∀d,d∣r→d=1∨d=r
theorem Prm.euclid{r a b:Nat}(h:Prm r)(hd:r∣a*b):r∣a∨r∣b:=by
 rcases h.2 _ (Nat.gcd_dvd_left r a) with g | g
 ·exact .inr (Nat.Coprime.dvd_of_dvd_mul_left g hd)
 ·left
  have:=Nat.gcd_dvd_right r a
  rwa [g] at this
theorem exists_prm:∀(k q:Nat),q≤k→2≤q→∃r,Prm r∧r∣q
 | 0,q,h,h2=>by omega
 | k+1,q,h,h2=>by
  by_cases c:∃d,d∣q∧d≠1∧d≠q
  ·obtain⟨d,hd,h1,hq⟩:=c
   have d0:d≠0:=fun z=>by subst z;have:=Nat.eq_zero_of_zero_dvd hd;omega
   have dl:=Nat.le_of_dvd (by omega) hd
   obtain⟨r,hr,hrd⟩:=exists_prm k d (by omega) (by omega)
   exact⟨r,hr,Nat.dvd_trans hrd hd⟩
  ·refine⟨q,⟨h2,fun d hd=>?_⟩,Nat.dvd_refl q⟩
   by_cases h1:d=1
   ·exact .inl h1
   ·by_cases hq:d=q
    ·exact .inr hq
    ·exact absurd ⟨d,hd,h1,hq⟩ c
structure PI0(n:Nat)(ps:List Nat)(l f:Nat):Prop where
 l0:0<l
 ln:l≤n
 f2:2≤f
 low:∀q,2≤q→q∣l→f≤q
 all:∀r,Prm r→r∣n→r∈ps∨r∣l
 mem:∀p∈ps,2≤p∧p≤n
theorem PI0.start{n:Nat}(h:0<n):PI0 n [] n 2:=⟨h,Nat.le_refl _,by omega,fun q h _=>h,fun r _ h=>.inr h,fun p hp=>by cases hp⟩
theorem PI0.app{n:Nat}{ps:List Nat}{l f:Nat}(h:PI0 n ps l f)(hf:f∣l):PI0 n (ps++[f]) l f:=
 ⟨h.l0,h.ln,h.f2,h.low,fun r hr hd=>(h.all r hr hd).imp (fun z=>List.mem_append_left _ z) id,fun p hp=>by
  rcases List.mem_append.mp hp with z | z
  ·exact h.mem p z
  ·have e:p=f:=by simpa using z
   subst e
   exact⟨h.f2,Nat.le_trans (Nat.le_of_dvd h.l0 hf) h.ln⟩⟩
theorem PI0.div{n:Nat}{ps:List Nat}{l f:Nat}(h:PI0 n ps l f)(hf:f∣l)(hm:f∈ps):PI0 n ps (l/f) f∧l/f<l:=by
 obtain⟨k,rfl⟩:=hf
 have f0:0<f:=by have:=h.f2;omega
 have e:f*k/f=k:=Nat.mul_div_cancel_left k f0
 have k0:0<k:=Nat.pos_of_mul_pos_left h.l0
 have kl:k<f*k:=by
  have:=Nat.mul_le_mul_right k h.f2
  omega
 rw[e]
 refine⟨⟨k0,by have:=h.ln;omega,h.f2,fun q h2 hq=>h.low q h2 (Nat.dvd_mul_left_of_dvd hq f),fun r hr hd=>?_,h.mem⟩,kl⟩
 rcases h.all r hr hd with z | z
 ·exact .inl z
 ·rcases hr.euclid z with y | y
  ·have:f≤r:=h.low r hr.1 z
   have:r≤f:=Nat.le_of_dvd f0 y
   have:r=f:=by omega
   subst this
   exact .inl hm
  ·exact .inr y
theorem PI0.next{n:Nat}{ps:List Nat}{l f:Nat}(h:PI0 n ps l f)(hf:¬f∣l):PI0 n ps l (f+1):=
 ⟨h.l0,h.ln,by have:=h.f2;omega,fun q h2 hq=>by
  have:=h.low q h2 hq
  have:q≠f:=fun z=>hf (z ▸ hq)
  omega,h.all,h.mem⟩
structure PrsN(n:Nat)(ps:List Nat):Prop where
 all:∀r,Prm r→r∣n→r∈ps
 mem:∀p∈ps,2≤p∧p≤n
theorem PI0.one{n:Nat}{ps:List Nat}{l f:Nat}(h:PI0 n ps l f)(e:¬1<l):PrsN n ps:=
 ⟨fun r hr hd=>by
  rcases h.all r hr hd with z | z
  ·exact z
  ·have:=Nat.le_of_dvd h.l0 z
   have:=hr.1
   omega,h.mem⟩
theorem PI0.fin{n:Nat}{ps:List Nat}{l f:Nat}(h:PI0 n ps l f)(hf:¬f*f≤l)(e:1<l):PrsN n (ps++[l]):=
 ⟨fun r hr hd=>by
  rcases h.all r hr hd with z | z
  ·exact List.mem_append_left _ z
  ·refine List.mem_append_right _ ?_
   obtain⟨k,hk⟩:=z
   have k0:0<k:=by
    rcases Nat.eq_zero_or_pos k with z | z
    ·subst z;simp at hk;omega
    ·exact z
   have hk1:k=1:=by
    by_cases c:k=1
    ·exact c
    ·exfalso
     have a:=h.low k (by omega) ⟨r,by rw[hk,Nat.mul_comm]⟩
     have b:=h.low r hr.1 ⟨k,hk⟩
     have:=Nat.mul_le_mul b a
     omega
   subst hk1
   simp at hk
   simp[hk],fun p hp=>by
  rcases List.mem_append.mp hp with z | z
  ·exact h.mem p z
  ·have e:p=l:=by simpa using z
   subst e
   exact⟨by omega,h.ln⟩⟩
structure Per(z c t:Nat):Prop where
 t0:0<t
 dv:t∣z
 bit:∀i j,i<z→j<z→i%t=j%t→c.testBit i=c.testBit j
theorem Per.mul{z c t u:Nat}(h:Per z c t)(u0:0<u)(h1:t∣u)(h2:u∣z):Per z c u:=⟨u0,h2,fun i j hi hj e=>h.bit i j hi hj (by
 obtain⟨k,rfl⟩:=h1
 have a:=Nat.mod_mul_right_mod i t k
 have b:=Nat.mod_mul_right_mod j t k
 rw[←a,←b,e])⟩
theorem Per.of_shift{z c s:Nat}(s0:0<s)(hd:s∣z)(h:∀i,i+s<z→c.testBit i=c.testBit (i+s)):Per z c s:=by
 have up:∀k i,i+s*k<z→c.testBit i=c.testBit (i+s*k):=by
  intro k
  induction k with
  | zero=>intro i _;simp
  | succ k ih=>
   intro i hi
   rw[Nat.mul_succ] at hi ⊢
   rw[ih i (by omega),h (i+s*k) (by omega),Nat.add_assoc]
 have red:∀i,i<z→c.testBit i=c.testBit (i%s):=fun i hi=>by
  have e:=Nat.mod_add_div i s
  have:=up (i/s) (i%s) (by omega)
  rw[e] at this
  exact this.symm
 exact⟨s0,hd,fun i j hi hj e=>by rw[red i hi,red j hj,e]⟩
theorem Per.shift{z c s:Nat}(h:Per z c s):∀i,i+s<z→c.testBit i=c.testBit (i+s):=fun i hi=>h.bit i (i+s) (by omega) hi (by rw[Nat.add_mod_right])
theorem again_iff{z c s:Nat}(hc:c<2^z)(s0:0<s)(hd:s∣z)(z0:0<z):(c >>> s=c &&& (2^(z-s)-1))↔Per z c s:=by
 have sz:=Nat.le_of_dvd z0 hd
 constructor
 ·intro h
  refine Per.of_shift s0 hd fun i hi=>?_
  have:=congrArg (fun x=>x.testBit i) h
  simp only[Nat.testBit_shiftRight] at this
  rw[and_full_bit _ _ _ (by omega)] at this
  rw[←this,Nat.add_comm]
 ·intro h
  refine Nat.eq_of_testBit_eq fun i=>?_
  rw[Nat.testBit_shiftRight]
  by_cases hi:i<z-s
  ·rw[and_full_bit _ _ _ hi,h.shift i (by omega),Nat.add_comm]
  ·rw[high hc (by omega),high (and_full_lt c (z-s)) (by omega)]
theorem Per.strt{z c s:Nat}(h:Per z c s)(hc:c<2^z)(z0:0<z):Strt s (c &&& (2^s-1)) z c:=⟨hc,fun i hi=>by
 have l:=Nat.mod_lt i h.t0
 have sz:=Nat.le_of_dvd z0 h.dv
 rw[and_full_bit _ _ _ l]
 exact h.bit i (i%s) hi (by omega) (by rw[Nat.mod_mod])⟩
theorem Strt.per{s c' z c:Nat}(h:Strt s c' z c)(s0:0<s)(hd:s∣z):Per z c s:=⟨s0,hd,fun i j hi hj e=>by rw[h.bit i hi,h.bit j hj,e]⟩
theorem Strt.comp{s c' z c n b:Nat}(h:Strt s c' z c)(g:Strt z c n b)(hd:s∣z)(z0:0<z):Strt s c' n b:=⟨g.lt,fun i hi=>by
 rw[g.bit i hi,h.bit _ (Nat.mod_lt i z0)]
 obtain⟨k,rfl⟩:=hd
 rw[Nat.mod_mul_right_mod]⟩
theorem Per.up{s c' z c t:Nat}(h:Strt s c' z c)(hd:s∣z)(s0:0<s)(g:Per s c' t):Per z c t:=by
 have hts:t∣s:=g.dv
 refine⟨g.t0,Nat.dvd_trans hts hd,fun i j hi hj e=>?_⟩
 rw[h.bit i hi,h.bit j hj]
 refine g.bit _ _ (Nat.mod_lt i s0) (Nat.mod_lt j s0) ?_
 obtain⟨k,rfl⟩:=hts
 rw[Nat.mod_mul_right_mod,Nat.mod_mul_right_mod,e]
def Tight(z c p:Nat):Prop:=¬(p∣z∧Per z c (z/p))
theorem Tight.keep{s c' z c p:Nat}(h:Strt s c' z c)(hd:s∣z)(s0:0<s)(z0:0<z)(p0:0<p)(g:Tight z c p):Tight s c' p:=fun⟨h1,h2⟩=>by
 refine g ⟨Nat.dvd_trans h1 hd,?_⟩
 have a:=Per.up h hd s0 h2
 obtain⟨k,rfl⟩:=h1
 obtain⟨m,rfl⟩:=hd
 have e1:p*k/p=k:=Nat.mul_div_cancel_left k p0
 have e2:p*k*m/p=k*m:=by rw[Nat.mul_assoc,Nat.mul_div_cancel_left _ p0]
 rw[e1] at a
 rw[e2]
 have km:0<k*m:=by
  rcases Nat.eq_zero_or_pos (k*m) with z | z
  ·rw[Nat.mul_assoc,z] at z0;simp at z0
  ·exact z
 exact a.mul km ⟨m,rfl⟩ ⟨p,by rw[Nat.mul_assoc,Nat.mul_comm]⟩
structure Lst(n b z c:Nat):Prop where
 z0:0<z
 dv:z∣n
 lt:c<2^z
 st:Strt z c n b
 min:∀s,s<z→¬Per z c s
theorem Lst.of{n b z c:Nat}{ps:List Nat}(P:PrsN n ps)(n0:0<n)(z0:0<z)(dv:z∣n)(lt:c<2^z)(st:Strt z c n b)(t:∀p∈ps,Tight z c p):Lst n b z c:=by
 refine⟨z0,dv,lt,st,fun s hs hp=>?_⟩
 obtain⟨k,hk⟩:=hp.dv
 have s0:=hp.t0
 have k2:2≤k:=by
  rcases(by omega:k=0∨k=1∨2≤k) with z | z | z
  ·subst z;simp at hk;omega
  ·subst z;simp at hk;omega
  ·exact z
 obtain⟨r,hr,⟨m,hm⟩⟩:=exists_prm k k (Nat.le_refl _) k2
 have rz:r∣z:=⟨s*m,by rw[hk,hm,Nat.mul_left_comm]⟩
 refine t r (P.all r hr (Nat.dvd_trans rz dv)) ⟨rz,?_⟩
 have r0:0<r:=by have:=hr.1;omega
 have e:z/r=s*m:=by rw[hk,hm,Nat.mul_left_comm,Nat.mul_div_cancel_left _ r0]
 rw[e]
 have sm:0<s*m:=by
  rcases Nat.eq_zero_or_pos (s*m) with q | q
  ·rw[hk,hm,Nat.mul_left_comm,q] at z0;simp at z0
  ·exact q
 exact hp.mul sm ⟨m,rfl⟩ ⟨r,by rw[hk,hm,Nat.mul_left_comm,Nat.mul_comm]⟩
theorem Lst.self{n b z c z' c':Nat}(L:Lst n b z c)(M:Lst z c z' c'):z'=z∧c'=c:=by
 have e:z'=z:=by
  rcases Nat.lt_or_ge z' z with h | h
  ·exact absurd (M.st.per M.z0 M.dv) (L.min z' h)
  ·exact Nat.le_antisymm (Nat.le_of_dvd L.z0 M.dv) h
 subst e
 refine⟨rfl,bits_ext M.lt L.lt fun i hi=>?_⟩
 rw[M.st.bit i hi,Nat.mod_eq_of_lt hi]
end Fw
namespace Fw
theorem shift_mul{f:Nat→Bool}{m:Nat}(h:∀i,f (i+m)=f i):∀k i,f (i+m*k)=f i
 | 0,i=>by simp
 | k+1,i=>by rw[Nat.mul_succ,←Nat.add_assoc,h,shift_mul h k i]
theorem shift_gcd(f:Nat→Bool)(s t:Nat):(∀i,f (i+s)=f i)→(∀i,f (i+t)=f i)→∀i,f (i+Nat.gcd s t)=f i:=by
 induction s,t using Nat.gcd.induction with
 | H0 n=>intro _ h i;rw[Nat.gcd_zero_left];exact h i
 | H1 m n m0 ih=>
  intro h1 h2 i
  rw[Nat.gcd_rec]
  refine ih (fun j=>?_) h1 i
  rw[←shift_mul h1 (n/m) (j+n%m),Nat.add_assoc,Nat.mod_add_div]
  exact h2 j
theorem Per.all{n b s:Nat}(h:Per n b s)(n0:0<n)(i:Nat):b.testBit ((i+s)%n)=b.testBit (i%n):=by
 refine h.bit _ _ (Nat.mod_lt _ n0) (Nat.mod_lt _ n0) ?_
 rw[Nat.mod_mod_of_dvd _ h.dv,Nat.mod_mod_of_dvd _ h.dv,Nat.add_mod_right]
theorem Per.gcd{n b s t:Nat}(h:Per n b s)(g:Per n b t)(n0:0<n):Per n b (Nat.gcd s t):=by
 have g0:0<Nat.gcd s t:=Nat.gcd_pos_of_pos_left _ h.t0
 have dv:Nat.gcd s t∣n:=Nat.dvd_trans (Nat.gcd_dvd_left ..) h.dv
 have sh:=shift_gcd (fun i=>b.testBit (i%n)) s t (h.all n0) (g.all n0)
 have low:∀i,i<n→b.testBit i=b.testBit (i%Nat.gcd s t):=fun i hi=>by
  have:=shift_mul (f:=fun i=>b.testBit (i%n)) sh (i/Nat.gcd s t) (i%Nat.gcd s t)
  simp only[Nat.mod_add_div] at this
  rw[Nat.mod_eq_of_lt hi,Nat.mod_eq_of_lt (Nat.lt_of_le_of_lt (Nat.mod_le ..) hi)] at this
  exact this
 exact⟨g0,dv,fun i j hi hj e=>by rw[low i hi,low j hj,e]⟩
theorem Lst.low{n b z c:Nat}(L:Lst n b z c)(n0:0<n){i:Nat}(h:i<z):b.testBit i=c.testBit i:=by
 rw[L.st.bit i (Nat.lt_of_lt_of_le h (Nat.le_of_dvd n0 L.dv)),Nat.mod_eq_of_lt h]
theorem Lst.per{n b z c t:Nat}(L:Lst n b z c)(n0:0<n)(h:Per n b t):z∣t:=by
 have P:=(L.st.per L.z0 L.dv).gcd h n0
 have gd:Nat.gcd z t∣z:=Nat.gcd_dvd_left ..
 have gl:=Nat.le_of_dvd L.z0 gd
 have e:Nat.gcd z t=z:=by
  rcases Nat.lt_or_ge (Nat.gcd z t) z with q | q
  ·have zn:=Nat.le_of_dvd n0 L.dv
   exact absurd ⟨P.t0,gd,fun i j hi hj e=>by rw[←L.low n0 hi,←L.low n0 hj];exact P.bit i j (by omega) (by omega) e⟩ (L.min _ q)
  ·omega
 rw[←e]
 exact Nat.gcd_dvd_right ..
theorem Lst.uniq{n b z c z' c':Nat}(L:Lst n b z c)(M:Lst n b z' c')(n0:0<n):z=z'∧c=c':=by
 have e:z=z':=Nat.dvd_antisymm (L.per n0 (M.st.per M.z0 M.dv)) (M.per n0 (L.st.per L.z0 L.dv))
 subst e
 exact⟨rfl,bits_ext L.lt M.lt fun i hi=>by rw[←L.low n0 hi,M.low n0 hi]⟩
theorem Lst.down{n b z c m d:Nat}(L:Lst n b z c)(S:Strt m d n b)(h:m∣n)(m0:0<m)(n0:0<n):d<2^m→Lst m d z c:=by
 have zm:=L.per n0 (S.per m0 h)
 have ml:=Nat.le_of_dvd n0 h
 have e:∀i,i<m→d.testBit i=c.testBit (i%z):=fun i hi=>by
  have h1:=S.bit i (by omega)
  rw[Nat.mod_eq_of_lt hi] at h1
  rw[←h1,L.st.bit i (by omega)]
 exact fun dl=>⟨L.z0,zm,L.lt,⟨dl,e⟩,L.min⟩
theorem Lst.same{n b z c:Nat}(L:Lst n b z c):Lst z c z c:=⟨L.z0,Nat.dvd_refl z,L.lt,.start L.lt,L.min⟩
theorem Strt.of2{z c m d n b:Nat}(A:Strt z c n b)(B:Strt z c m d)(h1:z∣m)(m0:0<m):Strt m d n b:=⟨A.lt,fun i hi=>by
 rw[A.bit i hi,B.bit _ (Nat.mod_lt _ m0),Nat.mod_mod_of_dvd _ h1]⟩
theorem Strt.one{n b m c c':Nat}(A:Strt n b m c)(B:Strt n b m c'):c=c':=bits_ext A.lt B.lt fun i hi=>by rw[A.bit i hi,B.bit i hi]
theorem Lst.nil{n z:Nat}{b:Nat}(L:Lst n b z 0):z=1:=by
 rcases Nat.lt_or_ge 1 z with h | h
 ·exact absurd ⟨by decide,Nat.one_dvd z,fun i j _ _ _=>by simp⟩ (L.min 1 h)
 ·have:=L.z0
  omega
def OneP(n b:Nat):Prop:=b=0∨∃a d,0<a∧a∣n∧∀i,i<n→(b.testBit i=true↔i%a=d)
theorem Lst.few{n b z c:Nat}(L:Lst n b z c)(n0:0<n)(h:OneP n b):∃d,∀i,i<z→c.testBit i=true→i=d:=by
 have zn:=Nat.le_of_dvd n0 L.dv
 rcases h with h | ⟨a,d,a0,an,hb⟩
 ·refine⟨0,fun i hi hc=>?_⟩
  rw[←L.low n0 hi,h,Nat.zero_testBit] at hc
  cases hc
 ·have P:Per n b a:=⟨a0,an,fun i j hi hj e=>by
   have h1:=hb i hi
   have h2:=hb j hj
   rw[e] at h1
   exact Bool.eq_iff_iff.mpr (h1.trans h2.symm)⟩
  have za:=Nat.le_of_dvd a0 (L.per n0 P)
  refine⟨d,fun i hi hc=>?_⟩
  rw[←L.low n0 hi] at hc
  have:=(hb i (by omega)).mp hc
  rwa [Nat.mod_eq_of_lt (by omega)] at this
theorem even_one{n b m a:Nat}{f:Nat}(m0:0<m)(e:n=a*m)(f0:0<m→f+(m-1)*a<n)(h:∀i,i<n→(b.testBit i=true↔∃k,k<m∧i=f+k*a))(n0:0<n):OneP n b:=by
 have a0:0<a:=by
  rcases Nat.eq_zero_or_pos a with z | z
  ·rw[z] at e;simp at e;omega
  ·exact z
 have fa:f<a:=by
  have h1:=f0 m0
  obtain⟨m,rfl⟩:∃k,m=k+1:=⟨m-1,by omega⟩
  rw[e,Nat.mul_succ,Nat.add_sub_cancel,Nat.mul_comm m a] at h1
  omega
 refine .inr ⟨a,f,a0,⟨m,e⟩,fun i hi=>?_⟩
 rw[h i hi]
 constructor
 ·rintro⟨k,hk,rfl⟩
  rw[Nat.add_mul_mod_self_right,Nat.mod_eq_of_lt fa]
 ·intro hm
  refine⟨i/a,?_,?_⟩
  ·rw[e] at hi
   exact Nat.div_lt_of_lt_mul hi
  ·have:=Nat.mod_add_div i a
   rw[hm,Nat.mul_comm] at this
   exact this.symm
end Fw
namespace Fw
open PySem L2 PyProof.Rows
def top(i:Nat):Stmt:=PySem.Challenge.pw_feastwheel_k67_put_shorter.main.body.getD i (.Pass ⟨0,0,0,0⟩)
abbrev s_refuse_below_one:Stmt:=top 7
abbrev s_divisor:Stmt:=top 8
abbrev s_equation:Stmt:=top 9
abbrev s_common:Stmt:=top 10
abbrev s_refuse_too_long:Stmt:=top 14
abbrev s_round_by:Stmt:=top 15
abbrev s_days_in:Stmt:=top 16
abbrev s_on:Stmt:=top 17
abbrev s_full_bits:Stmt:=top 19
abbrev s_bits_by:Stmt:=top 20
abbrev s_stretched:Stmt:=top 21
abbrev s_primes_of:Stmt:=top 22
abbrev s_comes_again:Stmt:=top 23
abbrev s_least:Stmt:=top 24
abbrev s_common_size:Stmt:=top 25
abbrev s_both:Stmt:=top 26
abbrev s_either:Stmt:=top 27
abbrev s_unlike:Stmt:=top 28
abbrev s_without:Stmt:=top 29
abbrev s_other_days:Stmt:=top 30
abbrev s_later:Stmt:=top 31
abbrev s_refuse_wanted:Stmt:=top 33
abbrev s_days_of_month:Stmt:=top 34
abbrev s_days_of_year:Stmt:=top 35
abbrev s_dated:Stmt:=top 36
abbrev s_ones_in:Stmt:=top 38
abbrev s_days_ahead:Stmt:=top 39
abbrev s_how_many:Stmt:=top 40
abbrev s_gathered:Stmt:=top 42
abbrev s_upon:Stmt:=top 43
abbrev s_until:Stmt:=top 44
abbrev s_till:Stmt:=top 45
abbrev s_nearer_ahead:Stmt:=top 46
abbrev s_near:Stmt:=top 47
abbrev s_kth:Stmt:=top 48
abbrev s_every:Stmt:=top 49
abbrev s_Rule___init__:Stmt:=inClass (top 51) 0
abbrev s_Rule_on:Stmt:=inClass (top 51) 1
abbrev s_Rule_size:Stmt:=inClass (top 51) 2
abbrev s_Rule_turn:Stmt:=inClass (top 51) 3
abbrev s_Rule_shown:Stmt:=inClass (top 51) 4
abbrev s_Rule_parts:Stmt:=inClass (top 51) 5
abbrev s_All___init__:Stmt:=inClass (top 52) 0
abbrev s_No___init__:Stmt:=inClass (top 53) 0
abbrev s_each_text:Stmt:=top 54
abbrev s_Each___init__:Stmt:=inClass (top 55) 0
abbrev s_wanted_text:Stmt:=top 56
abbrev s_dated_text:Stmt:=top 57
abbrev s_Dated___init__:Stmt:=inClass (top 58) 0
abbrev s_Not___init__:Stmt:=inClass (top 59) 0
abbrev s_Both___init__:Stmt:=inClass (top 60) 0
abbrev s_Either___init__:Stmt:=inClass (top 61) 0
abbrev s_But___init__:Stmt:=inClass (top 62) 0
abbrev s_Unlike___init__:Stmt:=inClass (top 63) 0
abbrev s_Later___init__:Stmt:=inClass (top 64) 0
abbrev s_Upon___init__:Stmt:=inClass (top 65) 0
abbrev s_Until___init__:Stmt:=inClass (top 66) 0
abbrev s_Near___init__:Stmt:=inClass (top 67) 0
abbrev s_Till___init__:Stmt:=inClass (top 68) 0
abbrev s_Kth___init__:Stmt:=inClass (top 69) 0
abbrev s_Every___init__:Stmt:=inClass (top 70) 0
abbrev s_told_by_one:Stmt:=top 72
abbrev s_parts_in:Stmt:=top 73
abbrev s_shorter:Stmt:=top 74
abbrev s_term_on:Stmt:=top 79
abbrev s_signs_upto:Stmt:=top 80
abbrev s_is_term:Stmt:=top 81
abbrev s_least_length:Stmt:=top 82
abbrev s_refuse_measure:Stmt:=top 83
abbrev s_period_of:Stmt:=top 84
abbrev s_Measure___init__:Stmt:=inClass (top 85) 0
abbrev s_Measure_at:Stmt:=inClass (top 85) 1
abbrev s_Measure_upto:Stmt:=inClass (top 85) 2
abbrev s_Measure_period:Stmt:=inClass (top 85) 3
abbrev s_refuse_months:Stmt:=top 92
abbrev s_Sun___init__:Stmt:=inClass (top 93) 0
abbrev s_Sun_year_start:Stmt:=inClass (top 93) 1
abbrev s_Sun_lengths:Stmt:=inClass (top 93) 3
abbrev s_Sun_cycle:Stmt:=inClass (top 93) 4
abbrev s_law_cell_at:Stmt:=top 95
abbrev s_law_divisor:Stmt:=top 96
abbrev s_law_leaf:Stmt:=top 97
abbrev s_law_pair:Stmt:=top 98
abbrev s_law_made:Stmt:=top 99
abbrev s_law_rule:Stmt:=top 100
abbrev s_law_long:Stmt:=top 101
abbrev s_law_one_part:Stmt:=top 102
abbrev s_law_names:Stmt:=top 103
abbrev s_law_alike:Stmt:=top 104
abbrev s_law:Stmt:=top 105
def spCell(K:PySem.W.Frag):Sp:=fun vs H Q _=>∃(a:Addr) (ns:List Int) (k:Int),vs=[.ref a,.int k]∧SqL K H a (ns.map V.int)∧0≤k∧ns.length≤63∧Q (.int (ns.getD k.toNat 0)) H
theorem rd_cell{K:PySem.W.Frag}{a:Addr}{ns:List Int}{k:Int}{H:Hp}{Q:VK}{E:XK}(hS:SqL K H a (ns.map V.int))(hl:ns.length≤63)(hk:0≤k)(h:Q (.int (ns.getD k.toNat 0)) H):spCell K ([.ref a,.int k]++[]) H Q E:=⟨a,ns,k,rfl,hS,hk,hl,h⟩
theorem at_ints{ns:List Int}{k:Int}(h0:0≤k)(h:k<(ns.length:Int)):atI (ns.map V.int) k=some (.int (ns.getD k.toNat 0)):=by
 have hk:k.toNat<ns.length:=by omega
 have ek:k=((k.toNat:Nat):Int):=by omega
 have q:atI (ns.map V.int) ((k.toNat:Nat):Int)=some (.int ns[k.toNat]):=atI_nat (by rw[List.getElem?_map,List.getElem?_eq_getElem hk]<;>rfl)
 rw[←ek] at q
 rw[q]
 simp[List.getD,hk]
theorem p40:(10:Int)^(40:Int).toNat=10000000000000000000000000000000000000000:=by decide
theorem p39:(10:Int)^(39:Int).toNat=1000000000000000000000000000000000000000:=by decide
theorem bt_of{x:Int}(h1: -1000000000000000000000000000000000000000000000000000000000000≤x)(h2:x≤1000000000000000000000000000000000000000000000000000000000000):Bt 200 x:=by
 unfold Bt
 have:(2:Nat)^200=1606938044258990275541962092341162602522202993782792835301376:=by decide
 omega
theorem two'{a b:V}:([a,b]:List V).length≤sizeLine:=by show 2≤sizeLine;decide
theorem at0{x y:V}:atI [x,y] 0=some x:=rfl
theorem at1{x y:V}:atI [x,y] 1=some y:=rfl
local macro_rules | `(tactic| walk_at "rdc")=> `(tactic| (repeat (first | walk_at "rd1" | ((with_reducible refine' Fw.rd_cell ?hc1 ?hc2 ?hc3 ?_);(case hc1=>assumption);(case hc2=>assumption);(case hc3=>decide)) | with_reducible refine Fw.rd_whole ?_)))
local macro_rules | `(tactic| walk_at "rdy")=> `(tactic| (repeat (first | walk_at "rd1" | ((with_reducible refine' Fw.rd_cell ?hc1 ?hc2 ?hc3 ?_);(case hc1=>assumption);(case hc2=>assumption);(case hc3=>decide)) | with_reducible refine Fw.rd_whole ?_ | with_reducible refine L2.rd_callE ?_ | with_reducible refine L2.rd_raise ?_ | with_reducible refine L2.rd_try ?_ | with_reducible refine L2.rd_xget ?_ | with_reducible refine L2.rd_ifE ?_)))
def spRefuse:Sp:=fun vs H Q _=>∃n:Int,vs=[.int n]∧1≤n∧Q .non H
def spEq:Sp:=fun vs H Q _=>∃a b:Int,vs=[.int a,.int b]∧Bt 500 a∧Bt 500 b∧∀(p:Addr) (u v g:Int) (H':Hp),Same H H'→H' p=some (.tup [.int u,.int v,.int g])→Eqn a b u v g→Q (.ref p) H'
def spDivisor:Sp:=fun vs H Q _=>∃a b:Int,vs=[.int a,.int b]∧Bt 500 a∧Bt 500 b∧∀H',Same H H'→Q (.int (Int.gcd a b:Int)) H'
def spCommon:Sp:=fun vs H Q _=>∃a b:Int,vs=[.int a,.int b]∧0<a∧0<b∧Bt 500 a∧Bt 500 b∧∀H',Same H H'→Q (.int (lcmI a b)) H'
theorem at30{x y z:V}:atI [x,y,z] 0=some x:=rfl
theorem at31{x y z:V}:atI [x,y,z] 1=some y:=rfl
theorem at32{x y z:V}:atI [x,y,z] 2=some z:=rfl
theorem three{a b c:V}:([a,b,c]:List V).length≤sizeLine:=by show 3≤sizeLine;decide
theorem two{a b:V}:([a,b]:List V).length≤sizeLine:=by show 2≤sizeLine;decide
theorem bt_le{k m:Nat}{x y:Int}(h:Bt k y)(l:x.natAbs≤4*y.natAbs+4)(hk:k+4≤m):Bt m x:=by
 unfold Bt at*
 have p:2^(k+4)≤2^m:=Nat.pow_le_pow_right (by decide) hk
 have e:2^(k+4)=2^k*16:=by rw[Nat.pow_add]
 omega
theorem bt_le2{k m:Nat}{x y z:Int}(h:Bt k y)(h':Bt k z)(l:x.natAbs≤y.natAbs+z.natAbs+4)(hk:k+4≤m):Bt m x:=by
 unfold Bt at*
 have p:2^(k+4)≤2^m:=Nat.pow_le_pow_right (by decide) hk
 have e:2^(k+4)=2^k*16:=by rw[Nat.pow_add]
 omega
theorem bt_small{k:Nat}{x:Int}(h0:0≤x)(h1:x<18446744073709551616)(hk:64≤k):Bt k x:=Bt.mono (k:=64) (by unfold Bt;omega) hk
def spFull:Sp:=fun vs H Q _=>∃n:Int,vs=[.int n]∧0≤n∧n≤1000000∧Q (.int ((2^n.toNat-1:Nat):Int)) H
def spOn(K:PySem.W.Frag):Sp:=fun vs H Q _=>∃(a:Addr) (n d:Int) (b:Nat),vs=[.ref a,.int d]∧SqT K H a [.int n,.int (b:Int)]∧0<n∧Q (.bl (On n b d)) H
theorem bt_nat{b n:Nat}(h:b<2^n):Bt n (b:Int):=by unfold Bt;rw[Int.natAbs_natCast];exact h
theorem on_dec(b k:Nat):decide (V.int (((b:Nat):Int)/2^k%2)=V.int 1)=b.testBit k:=by
 rw[←on_eq,Bool.eq_iff_iff]
 simp
theorem bt1:Bt 1 1:=by unfold Bt;decide
theorem bt_div{k:Nat}{d n:Int}(h:Bt k d)(hn:0<n):Bt k (d/n):=by
 refine h.le ?_
 rcases Int.lt_or_le d 0 with c | c
 ·have h1:d/n<0:=Int.ediv_neg_of_neg_of_pos c hn
  have h2:d≤d/n:=(Int.le_ediv_iff_mul_le hn).mpr (by
   have:=Int.mul_le_mul_of_nonpos_left (show d≤0 by omega) (show 1≤n by omega)
   omega)
  omega
 ·have h1:0≤d/n:=Int.ediv_nonneg c (by omega)
  have h2:d/n≤d:=Int.ediv_le_self n c
  omega
def spTooLong:Sp:=fun vs H Q _=>∃n:Int,vs=[.int n]∧n≤150000∧Q .non H
def spBitsByL(K:PySem.W.Frag):Sp:=fun vs H Q _=>∃(a:Addr) (n z:Int) (b:Nat),vs=[.ref a,.int z]∧SqT K H a [.int n,.int (b:Int)]∧0<n∧n≤300000∧b<2^n.toNat∧0<z∧z≤150000∧
 ∀c:Nat,Strt n.toNat b z.toNat c→Q (.int (c:Int)) H
theorem and_one(b k:Nat):decide (V.int (Builtin.bitAnd ((b:Int)/2^k) 1)=V.int 1)=b.testBit k:=by
 rw[shr_cast,show(1:Int)=((1:Nat):Int) from rfl,bitAnd_nat,Nat.and_one_is_mod,←on_dec]
 congr 1
 rw[shr_cast]
 have e:(((b >>> k:Nat):Int)%2)=((b >>> k%2:Nat):Int):=by omega
 rw[e]
 rfl
def pcsV(b k:Nat):List V:=(List.range k).map fun j=>V.int ((pc b j:Nat):Int)
theorem pcsV_len(b k:Nat):(pcsV b k).length=k:=by unfold pcsV;simp
theorem pcsV_at{b k j:Nat}(h:j<k):(pcsV b k)[j]?=some (V.int ((pc b j:Nat):Int)):=by
 unfold pcsV
 rw[List.getElem?_map,List.getElem?_range h]
 rfl
theorem pcsV_zero(k:Nat):(List.replicate k [V.int 0]).flatten=pcsV 0 k:=by
 unfold pcsV
 have:(fun j=>V.int ((pc 0 j:Nat):Int))=fun _=>V.int 0:=by
  funext j
  unfold pc
  simp
 rw[this,List.map_const',List.length_range]
 induction k with
 | zero=>rfl
 | succ k ih=>rw[List.replicate_succ,List.flatten_cons,ih,List.replicate_succ];rfl
theorem pcsV_set{b k p:Nat}(h:p/256<k):(pcsV b k).set (p/256) (V.int ((pc b (p/256) ||| 2^(p%256):Nat):Int))=pcsV (b ||| 2^p) k:=by
 refine List.ext_getElem? fun j=>?_
 rw[List.getElem?_set]
 by_cases hj:j<k
 ·rw[pcsV_at hj]
  by_cases c:p/256=j
  ·rw[if_pos c,if_pos (by rw[pcsV_len];omega)]
   subst c
   rw[pcsV_at hj,pc_or_at]
  ·rw[if_neg c,pcsV_at hj,pc_or_ne (Ne.symm c)]
 ·have e:∀b,(pcsV b k)[j]?=none:=fun b=>List.getElem?_eq_none (by rw[pcsV_len];omega)
  rw[if_neg (by omega),e,e]
def spRoundBy(K:PySem.W.Frag):Sp:=fun vs H Q _=>∃(a:Addr) (ds:List Int) (n:Int),vs=[.int n,.ref a]∧SqL K H a (ds.map V.int)∧0<n∧n≤150000∧
 ∀(p:Addr) (b:Nat) (H':Hp),Same H H'→H' p=some (.tup [.int n,.int (b:Int)])→RB n ds b→Q (.ref p) H'
theorem rb_bits{n:Int}{b:Nat}(hn:0<n)(hb:b<2^n.toNat):b%2^(256*((n/256+1).toNat))=b:=
 Nat.mod_eq_of_lt (Nat.lt_of_lt_of_le hb (Nat.pow_le_pow_right (by decide) (by omega)))
def spOther(K:PySem.W.Frag):Sp:=fun vs H Q _=>∃(a:Addr) (n:Int) (b:Nat),vs=[.ref a]∧SqT K H a [.int n,.int (b:Int)]∧0<n∧n≤150000∧b<2^n.toNat∧
 ∀(p:Addr) (c:Nat),H p=none→c<2^n.toNat→(∀i,i<n.toNat→c.testBit i=!b.testBit i)→Q (.ref p) (upd H p (.tup [.int n,.int (c:Int)]))
def dl(b m:Nat):List Nat:=(List.range m).filter fun i=>b.testBit i
def dli(b m:Nat):List Int:=(dl b m).map fun(i:Nat)=>(i:Int)
theorem dl_add(b m k:Nat):dl b (m+k)=dl b m++((List.range k).filter fun i=>b.testBit (m+i)).map fun i=>m+i:=by
 unfold dl
 rw[List.range_add,List.filter_append,List.filter_map]
 rfl
theorem dl_over{b n:Nat}(hb:b<2^n)(k:Nat):dl b (n+k)=dl b n:=by
 rw[dl_add]
 have:((List.range k).filter fun i=>b.testBit (n+i))=[]:=by
  rw[List.filter_eq_nil_iff]
  intro i _
  rw[high hb (by omega)]
  exact Bool.false_ne_true
 rw[this,List.map_nil,List.append_nil]
theorem dl_len(b m:Nat):(dl b m).length≤m:=by
 unfold dl
 exact Nat.le_trans (List.length_filter_le _ _) (by simp)
theorem mem_dl{b m i:Nat}:i∈dl b m↔i<m∧b.testBit i=true:=by
 unfold dl
 rw[List.mem_filter,List.mem_range]
theorem mem_dli{b m:Nat}{d:Int}:d∈dli b m↔0≤d∧d<m∧b.testBit d.toNat=true:=by
 unfold dli
 rw[List.mem_map]
 constructor
 ·rintro⟨i,hi,rfl⟩
  obtain⟨h1,h2⟩:=mem_dl.mp hi
  exact⟨by omega,by omega,by rw[Int.toNat_natCast];exact h2⟩
 ·rintro⟨h1,h2,h3⟩
  exact⟨d.toNat,mem_dl.mpr ⟨by omega,h3⟩,by omega⟩
theorem dl_pair(b m:Nat):(dl b m).Pairwise (· < ·):=List.Pairwise.filter _ List.pairwise_lt_range
theorem dli_pair(b m:Nat):(dli b m).Pairwise (· < ·):=by
 unfold dli
 rw[List.pairwise_map]
 exact(dl_pair b m).imp fun h=>by omega
theorem dli_len(b m:Nat):(dli b m).length≤m:=by
 unfold dli
 rw[List.length_map]
 exact dl_len b m
def spDaysIn(K:PySem.W.Frag):Sp:=fun vs H Q _=>∃(a:Addr) (n:Int) (b:Nat),vs=[.ref a]∧SqT K H a [.int n,.int (b:Int)]∧0<n∧n≤150000∧b<2^n.toNat∧
 ∀(l:Addr) (H':Hp),H l=none→Same H H'→H' l=some (.lst ((dli b n.toNat).map V.int))→Q (.ref l) H'
theorem piece_bit(b m i:Nat):(Builtin.bitAnd (((b/2^m%2^256:Nat):Int)/2^i) 1 != 0)=(decide (i<256)&&b.testBit (m+i)):=by
 have h:(b/2^m%2^256).testBit i=(decide (i<256)&&b.testBit (m+i)):=by
  rw[Nat.testBit_mod_two_pow,←Nat.shiftRight_eq_div_pow,Nat.testBit_shiftRight]
 rw[shr_cast,show(1:Int)=((1:Nat):Int) from rfl,bitAnd_nat,Nat.and_one_is_mod,←h,Nat.testBit_eq_decide_div_mod_eq,Nat.shiftRight_eq_div_pow,Bool.eq_iff_iff]
 simp only[bne_iff_ne,decide_eq_true_eq]
 omega
theorem dli_step(b m:Nat):((dli b m).map V.int)++(((((List.range 256).map fun i=>V.int (0+(i:Nat)))).filter fun v=>match v with | .int d=>b.testBit (m+d.toNat) | _=>false).map fun v=>match v with | .int d=>V.int ((m:Int)+d) | _=>.non)=(dli b (m+256)).map V.int:=by
 unfold dli
 rw[dl_add,List.map_append,List.map_append]
 congr 1
 rw[List.filter_map,List.map_map,List.map_map,List.map_map]
 have e:((fun v:V=>match v with | .int d=>b.testBit (m+d.toNat) | _=>false) ∘ fun i:Nat=>V.int (0+(i:Nat)))=fun i=>b.testBit (m+i):=by
  funext i
  show b.testBit (m+(0+(i:Int)).toNat)=_
  rw[show (0+(i:Int)).toNat=i by omega]
 rw[e]
 refine List.map_congr_left fun i _=>?_
 show V.int ((m:Int)+(0+(i:Int)))=V.int (((m+i:Nat):Int))
 rw[show (m:Int)+(0+(i:Int))=((m+i:Nat):Int) by omega]
theorem dli_mem{n:Int}{b:Nat}(n0:0<n)(d:Int):d∈dli b n.toNat↔0≤d∧d<n∧On n b d=true:=by
 rw[mem_dli]
 constructor
 ·rintro⟨h1,h2,h3⟩
  refine⟨h1,by omega,?_⟩
  unfold On
  rwa [Int.emod_eq_of_lt h1 (by omega)]
 ·rintro⟨h1,h2,h3⟩
  refine⟨h1,by omega,?_⟩
  unfold On at h3
  rwa [Int.emod_eq_of_lt h1 h2] at h3
theorem cut_from1(xs:List Int):cutV (xs.map V.int) (some 1) none=(xs.drop 1).map V.int:=cutV_from xs 1
theorem cut_upto1(xs:List V):cutV xs none (some 1)=xs.take 1:=cut_upto xs 1
theorem comp_zip{K:PySem.W.Frag}{a b:Addr}{xs ys:List Int}{σ:L2.St}{H:Hp}{Q:VK}{te:TE}(ha:SqL K H a (xs.map V.int))(hb:SqL K H b (ys.map V.int))(hl:xs.length<sizeLine)(f:Int→Int→Int)
 (he:∀(x y:Int) (H':Hp) (Q':VK),Q' (.int (f x y)) H'→te (some (.int x)::some (.int y)::σ) H' Q')
 (h:∀(D:Addr) (H':Hp),H D=none→Same H H'→H' D=some (.lst ((List.zipWith f xs ys).map V.int))→Q (.ref D) H'):
 CompRT 2 (gTup K 2 (gCons (gName 0) (gCons (gName 1) gNil))) tTrue te σ Q (Itz K a b) H:=by
 intro D hD
 have zl:(List.zipWith f xs ys).length=min xs.length ys.length:=List.length_zipWith
 refine⟨fun i m zs H2=>i≤min xs.length ys.length∧m=min xs.length ys.length-i∧zs=((List.zipWith f xs ys).take i).map V.int∧H2 D=some (.lst zs)∧Same H H2,⟨_,Nat.zero_le _,rfl,rfl,upd_same,same_new hD _⟩,?_⟩
 rintro i m zs H2 ⟨hi,rfl,rfl,hz,s2⟩
 refine⟨hz,?_⟩
 by_cases c:i<min xs.length ys.length
 ·have c1:i<xs.length:=by omega
  have c2:i<ys.length:=by omega
  have ex:(xs.map V.int)[i]?=some (.int xs[i]):=by rw[List.getElem?_map,List.getElem?_eq_getElem c1];rfl
  have ey:(ys.map V.int)[i]?=some (.int ys[i]):=by rw[List.getElem?_map,List.getElem?_eq_getElem c2];rfl
  refine .inr ⟨⟨_,_,_,_,s2.seq ha,s2.seq hb,ex,ey⟩,?_,min xs.length ys.length-(i+1),by omega,?_⟩
  ·rw[List.length_map,List.length_take]
   omega
  rintro v H3 ⟨T,x,y,hT,rfl,rfl,hxy⟩ ρ hρ
  obtain⟨gx,gy⟩:=hxy _ _ (s2.seq ha) (s2.seq hb)
  rw[ex] at gx
  rw[ey] at gy
  cases gx
  cases gy
  obtain⟨p,q,rfl⟩:∃p q,ρ=[p,q]:=by
   match ρ,hρ with
   | [p,q],_=>exact⟨p,q,rfl⟩
  refine⟨T,[.int xs[i],.int ys[i]],rfl,SqT.of upd_same,rfl,.int xs[i],[.int ys[i]],rfl,.int ys[i],[],rfl,⟨rfl,[some (.int xs[i]),some (.int ys[i])],rfl,rfl,?_⟩⟩
  refine rd_true ?_
  rw[if_pos rfl]
  have nT:D≠T:=ne_of_none hz hT
  refine he _ _ _ _ ⟨by rw[upd_ne nT];exact hz,by omega,rfl,?_,upd_same,?_⟩
  ·rw[List.take_succ,List.map_append]
   congr 1
   have:(List.zipWith f xs ys)[i]?=some (f xs[i] ys[i]):=by
    rw[List.getElem?_zipWith',List.getElem?_eq_getElem c1,List.getElem?_eq_getElem c2]
    rfl
   rw[this]
   rfl
  ·exact same_app hD (s2.trans (same_new hT _))
 ·have e:i=min xs.length ys.length:=by omega
  refine .inl ⟨⟨_,_,s2.seq ha,s2.seq hb,by rw[List.length_map,List.length_map];exact e⟩,h D H2 hD s2 ?_⟩
  rw[hz,List.take_of_length_le (by omega)]
def spMany(K:PySem.W.Frag):Sp:=fun vs H Q _=>∃(a:Addr) (n f e:Int) (b:Nat),vs=[.ref a,.int f,.int e]∧SqT K H a [.int n,.int (b:Int)]∧0<n∧n≤150000∧b<2^n.toNat∧Bt 250 f∧Bt 250 e∧∀H',Same H H'→Q (.int (CC n b e-CC n b f)) H'
def spOnes:Sp:=fun vs H Q _=>∃(b n:Nat),vs=[.int (b:Int)]∧b<2^n∧n≤150000∧∀H',Same H H'→Q (.int ((cnt b n:Nat):Int)) H'
def spAhead(K:PySem.W.Frag):Sp:=fun vs H Q _=>∃(a:Addr) (n d:Int) (b:Nat),vs=[.ref a,.int d]∧SqT K H a [.int n,.int (b:Int)]∧0<n∧n≤150000∧b<2^n.toNat∧Bt 260 d∧∀H',Same H H'→Q (.int (CC n b d)) H'
theorem ev_mask{w z f c:Nat}(w0:0<w)(hf:f<2^z)(S:Strt (2*w) (2^w-1) z c)(k:Nat):Ev w (f/2^k) ((f/2^k) &&& c):=fun i=>by
 rw[Nat.testBit_and]
 have fl:f/2^k<2^z:=Nat.lt_of_le_of_lt (Nat.div_le_self _ _) hf
 by_cases h:i<z
 ·rw[S.bit i h,Nat.testBit_two_pow_sub_one]
 ·rw[high fl (by omega)];rfl
def spPrimes:Sp:=fun vs H Q _=>∃n:Nat,vs=[.int (n:Int)]∧0<n∧n≤150000∧
 ∀(lp:Addr) (H':Hp) (ps:List Nat),H lp=none→Same H H'→H' lp=some (.lst (ps.map fun(p:Nat)=>V.int (p:Int)))→PrsN n ps→ps.length≤200000→Q (.ref lp) H'
def spAgain(K:PySem.W.Frag):Sp:=fun vs H Q _=>∃(a:Addr) (z c s:Nat),vs=[.ref a,.int (s:Int)]∧SqT K H a [.int (z:Int),.int (c:Int)]∧0<s∧s≤z∧z≤150000∧Q (.bl (decide (c >>> s=c &&& (2^(z-s)-1)))) H
def spLeast(K:PySem.W.Frag):Sp:=fun vs H Q _=>∃(a:Addr) (n b:Nat),vs=[.ref a]∧SqT K H a [.int (n:Int),.int (b:Int)]∧0<n∧n≤150000∧b<2^n∧
 ∀(p:Addr) (H':Hp) (z c:Nat),Same H H'→H' p=some (.tup [.int (z:Int),.int (c:Int)])→Lst n b z c→Q (.ref p) H'
theorem take_snoc{α:Type}{xs:List α}{i:Nat}{x:α}(h:xs[i]?=some x){y:α}(hy:y∈xs.take (i+1)):y∈xs.take i∨y=x:=by
 rw[List.take_add_one,h] at hy
 rcases List.mem_append.mp hy with z | z
 ·exact .inl z
 ·exact .inr (by simpa using z)
structure RC(K:PySem.W.Frag)(CR C:Addr):Prop where
 cl:Cls K C
 k:NoAttr K C "kept"
 m:NoAttr K C "made_of"
 w:NoAttr K C "words"
 ca:PySem.W.findIn K (.ref C) "__class__"=some (some (.builtin "object.__class__"))
 ob:PySem.W.mroIn K C (.type "object")=some true
 isr:PySem.W.kitOne K (.ref C) (.ref CR)=some true
def rF(p pm pw:Addr):List (Str×V):=[("kept",.ref p),("made_of",.ref pm),("words",.ref pw)]
structure RuleO(K:PySem.W.Frag)(CR:Addr)(CL:List Addr)(H:Hp)(x:Addr)(n:Int)(b:Nat):Prop where
 ex:∃C dx p pm pw,C∈CL∧RC K CR C∧H x=some (.ins C dx (rF p pm pw))∧H p=some (.tup [.int n,.int (b:Int)])
 n0:0<n
 n1:n≤150000
 lt:b<2^n.toNat
theorem RuleO.same{K:PySem.W.Frag}{CR:Addr}{CL:List Addr}{H H':Hp}{x:Addr}{n:Int}{b:Nat}(R:RuleO K CR CL H x n b)(s:Same H H'):RuleO K CR CL H' x n b:=by
 obtain⟨C,dx,p,pm,pw,h1,h2,h3,h4⟩:=R.ex
 exact⟨⟨C,dx,p,pm,pw,h1,h2,s _ _ h3,s _ _ h4⟩,R.n0,R.n1,R.lt⟩
def KB(x:Addr)(H H':Hp):Prop:=∀y o,y≠x→H y=some o→H' y=some o
theorem KB.pre{x:Addr}{H H1 H':Hp}(s:Same H H1)(k:KB x H1 H'):KB x H H':=fun y o h e=>k y o h (s _ _ e)
theorem made_same{H1 H':Hp}{x dx:Addr}{o o':HO}(hx:H1 x=none)(hd:H1 dx=none)(ne:dx≠x)(k:KB x (upd (upd H1 dx o) x o') H'):Same H1 H':=fun y u e=>by
 have y1:y≠x:=ne_of_none e hx
 have y2:y≠dx:=ne_of_none e hd
 exact k y u y1 (by rw[upd_ne y1,upd_ne y2];exact e)
def spRInit(K:PySem.W.Frag)(CR:Addr):Sp:=fun vs H Q _=>∃(x p pm pw C dx:Addr),vs=[.ref x,.ref p,.ref pm,.ref pw]∧H x=some (.ins C dx [])∧RC K CR C∧
 ∀H',KB x H H'→H' x=some (.ins C dx (rF p pm pw))→Q .non H'
def spTurnM(K:PySem.W.Frag)(CR:Addr)(CL:List Addr):Sp:=fun vs H Q _=>∃(x:Addr) (n:Int) (b:Nat),vs=[.ref x]∧RuleO K CR CL H x n b∧∀p,H p=some (.tup [.int n,.int (b:Int)])→Q (.ref p) H
def spSizeM(K:PySem.W.Frag)(CR:Addr)(CL:List Addr):Sp:=fun vs H Q _=>∃(x:Addr) (n:Int) (b:Nat),vs=[.ref x]∧RuleO K CR CL H x n b∧Q (.int n) H
def spOnM(K:PySem.W.Frag)(CR:Addr)(CL:List Addr):Sp:=fun vs H Q _=>∃(x:Addr) (n d:Int) (b:Nat),vs=[.ref x,.int d]∧RuleO K CR CL H x n b∧Q (.bl (On n b d)) H
theorem RuleO.ty{K:PySem.W.Frag}{CR:Addr}{CL:List Addr}{H:Hp}{x:Addr}{n:Int}{b:Nat}(R:RuleO K CR CL H x n b)(xsp:PySem.W.specialIn K (.builtin "object.__class__") "__get__"=some (some (.builtin "getset_descriptor.__get__")))(xtk:PySem.W.takesIn K (.builtin "object.__class__")=some true):∃C,TyOf K H (.ref x) (.ref C)∧PySem.W.kitOne K (.ref C) (.ref CR)=some true:=by
 obtain⟨C,dx,p,pm,pw,h1,h2,h3,h4⟩:=R.ex
 exact⟨C,.ins h3 h2.cl h2.ca xsp xtk h2.ob,h2.isr⟩
structure Two81(K:PySem.W.Frag)(H:Hp)(a1 a2:Addr)(n1 n2:Int)(b1 b2:Nat):Prop where
 s1:SqT K H a1 [.int n1,.int (b1:Int)]
 s2:SqT K H a2 [.int n2,.int (b2:Int)]
 p1:0<n1
 p2:0<n2
 l1:n1≤150000
 l2:n2≤150000
 k1:b1<2^n1.toNat
 k2:b2<2^n2.toNat
def spCS(K:PySem.W.Frag):Sp:=fun vs H Q _=>∃(a1 a2:Addr) (n1 n2:Int) (b1 b2:Nat),vs=[.ref a1,.ref a2]∧SqT K H a1 [.int n1,.int (b1:Int)]∧SqT K H a2 [.int n2,.int (b2:Int)]∧0<n1∧0<n2∧n1≤150000∧n2≤150000∧lcmI n1 n2≤150000∧
 ∀H',Same H H'→Q (.int (lcmI n1 n2)) H'
def spStretched(K:PySem.W.Frag):Sp:=fun vs H Q _=>∃(a:Addr) (n z:Int) (b:Nat),vs=[.ref a,.int z]∧SqT K H a [.int n,.int (b:Int)]∧0<n∧n≤150000∧b<2^n.toNat∧0<z∧z≤150000∧n∣z∧
 ∀(p:Addr) (c:Nat),H p=none→Strt n.toNat b z.toNat c→Q (.ref p) (upd H p (.tup [.int z,.int (c:Int)]))
def spJoin(K:PySem.W.Frag):Sp:=fun vs H Q _=>∃(a1 a2:Addr) (n1 n2:Int) (b1 b2:Nat),vs=[.ref a1,.ref a2]∧Two81 K H a1 a2 n1 n2 b1 b2∧lcmI n1 n2≤150000∧
 ∀(p:Addr) (c:Nat) (H':Hp),Same H H'→H' p=some (.tup [.int (lcmI n1 n2),.int (c:Int)])→c<2^(lcmI n1 n2).toNat→Q (.ref p) H'
def spGathS(K:PySem.W.Frag)(mg:Str→Option Value)(L:List (Str×Sp)):Sp:=fun vs H Q _=>∃(a1 a2 f:Addr) (n e:Int) (b c:Nat) (x:Str),vs=[.ref a1,.ref a2,.int e,.ref f]∧(x,spJoin K)∈L∧mg x=some (.ref f)∧H a1=some (.tup [.int n,.int (b:Int)])∧SqT K H a2 [.int n,.int (c:Int)]∧0<n∧n≤150000∧b<2^n.toNat∧c<2^n.toNat∧(e=1∨e= -1)∧
 ∀(p:Addr) (g:Nat) (H':Hp),Same H H'→H' p=some (.tup [.int n,.int (g:Int)])→g<2^n.toNat→Q (.ref p) H'
def spNearS(K:PySem.W.Frag):Sp:=fun vs H Q _=>∃(a:Addr) (n:Int) (b:Nat),vs=[.ref a]∧SqT K H a [.int n,.int (b:Int)]∧0<n∧n≤150000∧b<2^n.toNat∧
 ∀(p:Addr) (c:Nat) (H':Hp),Same H H'→H' p=some (.tup [.int n,.int (c:Int)])→c<2^n.toNat→Q (.ref p) H'
def spLater(K:PySem.W.Frag):Sp:=fun vs H Q _=>∃(a:Addr) (n num:Int) (b:Nat),vs=[.ref a,.int num]∧SqT K H a [.int n,.int (b:Int)]∧0<n∧n≤150000∧b<2^n.toNat∧
 ∀p,H p=none→Q (.ref p) (upd H p (.tup [.int n,.int ((lat n.toNat b (num%n).toNat:Nat):Int)]))
theorem lcm_dvd{n z:Int}(n0:0<n)(z0:0<z)(h:n∣z):lcmI n z=z:=by
 have f:=lcmI_facts n0 z0
 have h1:lcmI n z∣z:=f.2.2.2.2.1 _ h (Int.dvd_refl _)
 exact Int.dvd_antisymm (by omega) (by omega) h1 f.2.2.1
theorem lcm_self{n:Int}(h:0<n):lcmI n n=n:=lcm_dvd h h (Int.dvd_refl n)
theorem RuleO.one{K:PySem.W.Frag}{CR CE:Addr}{H:Hp}{x:Addr}{n:Int}{b:Nat}(R:RuleO K CR [CE] H x n b):∃dx fs,H x=some (.ins CE dx fs)∧fs.lookup (Str.ofString "turn")=none:=by
 obtain⟨C,dx,p,pm,pw,h1,h2,h3,h4⟩:=R.ex
 rw[List.mem_singleton.mp h1] at h3
 exact⟨dx,_,h3,rfl⟩
inductive Tr:Type
 | lf (a:Addr) (n:Int) (b:Nat) (w:Str)
 | un (a:Addr) (n:Int) (b:Nat) (w0 w1:Str) (t:Tr)
 | bi (a:Addr) (n:Int) (b:Nat) (w0 w1 w2:Str) (t u:Tr)
namespace Tr
def adr:Tr→Addr | lf a _ _ _=>a | un a _ _ _ _ _=>a | bi a _ _ _ _ _ _ _=>a
def sz:Tr→Int | lf _ n _ _=>n | un _ n _ _ _ _=>n | bi _ n _ _ _ _ _ _=>n
def bits:Tr→Nat | lf _ _ b _=>b | un _ _ b _ _ _=>b | bi _ _ b _ _ _ _ _=>b
def parts:Tr→List Tr
 | lf a n b w=>[lf a n b w]
 | un a n b w0 w1 t=>un a n b w0 w1 t::t.parts
 | bi a n b w0 w1 w2 t u=>bi a n b w0 w1 w2 t u::(t.parts++u.parts)
def text:Tr→Str
 | lf _ _ _ w=>Txt.join "" [w]
 | un _ _ _ w0 w1 t=>Txt.join "" [w0,t.text,w1]
 | bi _ _ _ w0 w1 w2 t u=>Txt.join "" [w0,t.text,w1,u.text,w2]
def deep:Tr→Nat
 | lf .. =>0
 | un _ _ _ _ _ t=>t.deep+1
 | bi _ _ _ _ _ _ t u=>max t.deep u.deep+1
def kids:Tr→List Tr | lf .. =>[] | un _ _ _ _ _ t=>[t] | bi _ _ _ _ _ _ t u=>[t,u]
def words:Tr→List Str | lf _ _ _ w=>[w] | un _ _ _ w0 w1 _=>[w0,w1] | bi _ _ _ w0 w1 w2 _ _=>[w0,w1,w2]
theorem parts_pos:∀t:Tr,0<t.parts.length
 | lf .. =>by simp[parts]
 | un .. =>by simp[parts]
 | bi .. =>by simp[parts]
theorem deep_lt:∀t:Tr,t.deep<t.parts.length
 | lf .. =>by simp[parts,deep]
 | un _ _ _ _ _ t=>by have:=deep_lt t;simp[parts,deep];omega
 | bi _ _ _ _ _ _ t u=>by have:=deep_lt t;have:=deep_lt u;simp[parts,deep];omega
theorem parts_eq(t:Tr):t.parts=t::(t.kids.map parts).flatten:=by cases t<;>simp[parts,kids]
theorem self_mem(t:Tr):t∈t.parts:=by rw[parts_eq];exact .head _
theorem sub_parts:∀{t s:Tr},s∈t.parts→∀r∈s.parts,r∈t.parts
 | lf a n b w,s,h,r,hr=>by
  have e:s=lf a n b w:=by simpa [parts] using h
  exact e ▸ hr
 | un a n b w0 w1 t,s,h,r,hr=>by
  rcases List.mem_cons.mp h with e | e
  ·exact e ▸ hr
  ·exact .tail _ (sub_parts e r hr)
 | bi a n b w0 w1 w2 t u,s,h,r,hr=>by
  rcases List.mem_cons.mp h with e | e
  ·exact e ▸ hr
  ·rcases List.mem_append.mp e with e | e
   ·exact .tail _ (List.mem_append_left _ (sub_parts e r hr))
   ·exact .tail _ (List.mem_append_right _ (sub_parts e r hr))
end Tr
structure Nod(K:PySem.W.Frag)(CR:Addr)(CL:List Addr)(H:Hp)(a:Addr)(n:Int)(b:Nat)(ks:List Addr)(ws:List Str):Prop where
 ex:∃C dx p pm pw,C∈CL∧RC K CR C∧H a=some (.ins C dx (rF p pm pw))∧H p=some (.tup [.int n,.int (b:Int)])∧H pm=some (.tup (ks.map .ref))∧H pw=some (.tup (ws.map .str))
 n0:0<n
 n1:n≤150000
 lt:b<2^n.toNat
 wl:(ws.map (·.length)).sum≤8000
section
variable{K:PySem.W.Frag}{CR:Addr}{CL:List Addr}{H H':Hp}
theorem Nod.same{a:Addr}{n:Int}{b:Nat}{ks:List Addr}{ws:List Str}(N:Nod K CR CL H a n b ks ws)(s:Same H H'):Nod K CR CL H' a n b ks ws:=by
 obtain⟨C,dx,p,pm,pw,c,r,e1,e2,e3,e4⟩:=N.ex
 exact⟨⟨C,dx,p,pm,pw,c,r,s _ _ e1,s _ _ e2,s _ _ e3,s _ _ e4⟩,N.n0,N.n1,N.lt,N.wl⟩
theorem Nod.rule{a:Addr}{n:Int}{b:Nat}{ks:List Addr}{ws:List Str}(N:Nod K CR CL H a n b ks ws):RuleO K CR CL H a n b:=by
 obtain⟨C,dx,p,pm,pw,c,r,e1,e2,e3,e4⟩:=N.ex
 exact⟨⟨C,dx,p,pm,pw,c,r,e1,e2⟩,N.n0,N.n1,N.lt⟩
def TrH(K:PySem.W.Frag)(CR:Addr)(CL:List Addr)(H:Hp):Tr→Prop
 | .lf a n b w=>Nod K CR CL H a n b [] [w]
 | .un a n b w0 w1 t=>Nod K CR CL H a n b [t.adr] [w0,w1]∧t.sz∣n∧TrH K CR CL H t
 | .bi a n b w0 w1 w2 t u=>Nod K CR CL H a n b [t.adr,u.adr] [w0,w1,w2]∧t.sz∣n∧u.sz∣n∧TrH K CR CL H t∧TrH K CR CL H u
theorem TrH.same(s:Same H H'):∀{t:Tr},TrH K CR CL H t→TrH K CR CL H' t
 | .lf ..,h=>Nod.same h s
 | .un ..,⟨h,d,g⟩=>⟨h.same s,d,TrH.same s g⟩
 | .bi ..,⟨h,d,e,g,g'⟩=>⟨h.same s,d,e,TrH.same s g,TrH.same s g'⟩
theorem TrH.nod{t:Tr}(h:TrH K CR CL H t):Nod K CR CL H t.adr t.sz t.bits (t.kids.map Tr.adr) t.words:=by
 cases t with
 | lf=>exact h
 | un=>exact h.1
 | bi=>exact h.1
theorem TrH.rule{t:Tr}(h:TrH K CR CL H t):RuleO K CR CL H t.adr t.sz t.bits:=h.nod.rule
theorem TrH.kid{t:Tr}(h:TrH K CR CL H t):∀s∈t.kids,TrH K CR CL H s∧s.sz∣t.sz:=by
 cases t with
 | lf a n b w=>exact fun s hs=>nomatch hs
 | un a n b w0 w1 t=>
  intro s hs
  obtain rfl:=List.mem_singleton.mp hs
  exact⟨h.2.2,h.2.1⟩
 | bi a n b w0 w1 w2 t u=>
  intro s hs
  rcases List.mem_cons.mp hs with e | e
  ·subst e
   exact⟨h.2.2.2.1,h.2.1⟩
  ·obtain rfl:=List.mem_singleton.mp e
   exact⟨h.2.2.2.2,h.2.2.1⟩
theorem TrH.node{t:Tr}(h:TrH K CR CL H t):∃C dx p pm pw,C∈CL∧RC K CR C∧H t.adr=some (.ins C dx (rF p pm pw))∧H p=some (.tup [.int t.sz,.int (t.bits:Int)])∧
 H pm=some (.tup (t.kids.map fun s=>.ref s.adr))∧H pw=some (.tup (t.words.map .str))∧(t.words.map (·.length)).sum≤8000∧∀s∈t.kids,TrH K CR CL H s:=by
 obtain⟨C,dx,p,pm,pw,c,r,e1,e2,e3,e4⟩:=h.nod.ex
 rw[List.map_map] at e3
 exact⟨C,dx,p,pm,pw,c,r,e1,e2,e3,e4,h.nod.wl,fun s hs=>(h.kid s hs).1⟩
theorem TrH.part:∀{t s:Tr},TrH K CR CL H t→s∈t.parts→TrH K CR CL H s∧s.sz∣t.sz
 | .lf a n b w,s,h,hs=>by
  have e:s=.lf a n b w:=by simpa [Tr.parts] using hs
  subst e
  exact⟨h,Int.dvd_refl _⟩
 | .un ..,s,h,hs=>by
  rcases List.mem_cons.mp hs with e | e
  ·subst e
   exact⟨h,Int.dvd_refl _⟩
  ·have:=TrH.part h.2.2 e
   exact⟨this.1,Int.dvd_trans this.2 h.2.1⟩
 | .bi ..,s,h,hs=>by
  rcases List.mem_cons.mp hs with e | e
  ·subst e
   exact⟨h,Int.dvd_refl _⟩
  ·rcases List.mem_append.mp e with e | e
   ·have:=TrH.part h.2.2.2.1 e
    exact⟨this.1,Int.dvd_trans this.2 h.2.1⟩
   ·have:=TrH.part h.2.2.2.2 e
    exact⟨this.1,Int.dvd_trans this.2 h.2.2.1⟩
theorem glue0:∀(zs:List Str) (acc:Array Nat),(zs.foldl (fun acc (p:Str)=>acc++(Str.ofString "").cps++p.cps) acc).size=acc.size+(zs.map (·.length)).sum
 | [],acc=>by simp
 | z::zs,acc=>by
  rw[List.foldl_cons,glue0 zs,Array.size_append,Array.size_append,List.map_cons,List.sum_cons]
  show acc.size+0+z.length+_=_
  omega
theorem join_len(zs:List Str):(Txt.join (Str.ofString "") zs).length=(zs.map (·.length)).sum:=by
 cases zs with
 | nil=>rfl
 | cons z zs=>
  show((zs.foldl (fun acc (p:Str)=>acc++(Str.ofString "").cps++p.cps) z.cps)).size=_
  rw[glue0]
  rfl
theorem TrH.text_le:∀{t:Tr},TrH K CR CL H t→t.text.length≤8000*t.parts.length
 | .lf ..,h=>by
  have:=h.nod.wl
  simp only[Tr.text,join_len,Tr.parts,Tr.words,List.map_cons,List.map_nil,List.sum_cons,List.sum_nil,List.length_cons,List.length_nil] at*
  omega
 | .un ..,h=>by
  have:=h.nod.wl
  have:=TrH.text_le h.2.2
  simp only[Tr.text,join_len,Tr.parts,Tr.words,List.map_cons,List.map_nil,List.sum_cons,List.sum_nil,List.length_cons,List.length_nil] at*
  omega
 | .bi ..,h=>by
  have:=h.nod.wl
  have:=TrH.text_le h.2.2.2.1
  have:=TrH.text_le h.2.2.2.2
  simp only[Tr.text,join_len,Tr.parts,Tr.words,List.map_cons,List.map_nil,List.sum_cons,List.sum_nil,List.length_cons,List.length_nil,List.length_append] at*
  omega
end
def spParts(K:PySem.W.Frag)(CR:Addr)(CL:List Addr)(d:Nat):Sp:=fun vs H Q _=>∃t:Tr,vs=[.ref t.adr]∧TrH K CR CL H t∧t.deep<d∧t.parts.length≤100∧∀l H',H l=none→Same H H'→H' l=some (.lst (t.parts.map fun s=>.ref s.adr))→Q (.ref l) H'
theorem spParts_zero{K:PySem.W.Frag}{CR:Addr}{CL:List Addr}{vs:List V}{H:Hp}{Q:VK}{E:XK}(h:spParts K CR CL 0 vs H Q E):False:=by
 obtain⟨t,_,_,h,_⟩:=h
 omega
def spShown(K:PySem.W.Frag)(CR:Addr)(CL:List Addr)(d:Nat):Sp:=fun vs H Q _=>∃t:Tr,vs=[.ref t.adr]∧TrH K CR CL H t∧t.deep<d∧t.parts.length≤100∧∀H',Same H H'→Q (.str t.text) H'
theorem spShown_zero{K:PySem.W.Frag}{CR:Addr}{CL:List Addr}{vs:List V}{H:Hp}{Q:VK}{E:XK}(h:spShown K CR CL 0 vs H Q E):False:=by
 obtain⟨t,_,_,h,_⟩:=h
 omega
def Tr.upto(t:Tr)(i:Nat):List Tr:=t::((t.kids.take i).map Tr.parts).flatten
theorem Tr.upto_succ{t s:Tr}{i:Nat}(h:t.kids[i]?=some s):t.upto (i+1)=t.upto i++s.parts:=by
 unfold Tr.upto
 rw[List.take_succ,h]
 simp
theorem Tr.upto_all(t:Tr):t.upto t.kids.length=t.parts:=by rw[Tr.parts_eq,Tr.upto,List.take_length]
theorem Tr.kid_deep{t s:Tr}(h:s∈t.kids):s.deep<t.deep:=by
 cases t with
 | lf=>exact nomatch h
 | un=>simp[Tr.kids] at h;subst h;simp[Tr.deep]
 | bi=>simp[Tr.kids] at h;rcases h with h | h<;>subst h<;>simp[Tr.deep]<;>omega
theorem Tr.kid_len{t s:Tr}(h:s∈t.kids):s.parts.length<t.parts.length:=by
 cases t with
 | lf=>exact nomatch h
 | un=>simp[Tr.kids] at h;subst h;simp[Tr.parts]
 | bi=>simp[Tr.kids] at h;rcases h with h | h<;>subst h<;>simp[Tr.parts]<;>omega
theorem Tr.upto_len(t:Tr):∀i,(t.upto i).length≤t.parts.length:=fun i=>by
 rw[←Tr.upto_all t]
 cases t with
 | lf=>simp[Tr.upto,Tr.kids]
 | un=>rcases i with _ | i<;>simp[Tr.upto,Tr.kids]
 | bi=>rcases i with _ | _ | i<;>simp[Tr.upto,Tr.kids]
theorem Tr.words_eq(t:Tr):∃w0 ws,t.words=w0::ws∧ws.length=t.kids.length:=by cases t<;>exact⟨_,_,rfl,rfl⟩
theorem at_zero{x:V}{xs:List V}:atI (x::xs) 0=some x:=by
 have h:(0:Int)<((x::xs).length:Int):=by simp
 simp only[atI,ixN]
 rw[if_pos (Int.le_refl 0)]
 simp
theorem cut1{x:V}{xs:List V}:cutV (x::xs) (some 1) none=xs:=by
 simp[cutV,HT.sIx]
theorem cut1n{x:V}{xs:List V}:¬(HT.sIx (x::xs).length 0 (some 1)=0∧HT.sIx (x::xs).length (x::xs).length none=(x::xs).length):=by
 rintro⟨h,_⟩
 simp[HT.sIx] at h
def Tr.told(t:Tr)(w0:Str)(ws:List Str)(i:Nat):List Str:=w0::((t.kids.zip ws).take i).flatMap fun p=>[p.1.text,p.2]
theorem Tr.told_succ{t s:Tr}{w0 w:Str}{ws:List Str}{i:Nat}(h1:t.kids[i]?=some s)(h2:ws[i]?=some w):t.told w0 ws (i+1)=t.told w0 ws i++[s.text,w]:=by
 have h:(t.kids.zip ws)[i]?=some (s,w):=by rw[List.getElem?_zip_eq_some];exact⟨h1,h2⟩
 unfold Tr.told
 rw[List.take_succ,h]
 simp
theorem Tr.told_all{t:Tr}{w0:Str}{ws:List Str}(h:t.words=w0::ws):Txt.join "" (t.told w0 ws t.kids.length)=t.text:=by
 cases t with
 | lf=>simp[Tr.words] at h;obtain⟨rfl,rfl⟩:=h;rfl
 | un=>simp[Tr.words] at h;obtain⟨rfl,rfl⟩:=h;rfl
 | bi=>simp[Tr.words] at h;obtain⟨rfl,rfl⟩:=h;rfl
theorem Tr.told_len(t:Tr)(w0:Str)(ws:List Str)(i:Nat):(t.told w0 ws i).length≤5:=by
 cases t<;>rcases ws with _ | ⟨a,_ | ⟨b,r⟩⟩<;>rcases i with _ | _ | i<;>simp[Tr.told,Tr.kids]
theorem Tr.part_len:∀{t s:Tr},s∈t.parts→s.parts.length≤t.parts.length
 | .lf a n b w,s,h=>by
  have e:s=.lf a n b w:=by simpa [Tr.parts] using h
  subst e
  exact Nat.le_refl _
 | .un ..,s,h=>by
  rcases List.mem_cons.mp h with e | e
  ·subst e
   exact Nat.le_refl _
  ·have:=Tr.part_len e
   simp only[Tr.parts,List.length_cons]
   omega
 | .bi ..,s,h=>by
  rcases List.mem_cons.mp h with e | e
  ·subst e
   exact Nat.le_refl _
  ·rcases List.mem_append.mp e with e | e
   ·have:=Tr.part_len e
    simp only[Tr.parts,List.length_cons,List.length_append]
    omega
   ·have:=Tr.part_len e
    simp only[Tr.parts,List.length_cons,List.length_append]
    omega
def spR(sp:Sp)(d:Nat):Sp:=fun vs H Q E=>0<d∧sp vs H Q E
theorem spR_zero{sp:Sp}{vs:List V}{H:Hp}{Q:VK}{E:XK}(h:spR sp 0 vs H Q E):False:=absurd h.1 (by decide)
theorem RuleO.mt{K:PySem.W.Frag}{CR:Addr}{CL:List Addr}{H:Hp}{x:Addr}{n:Int}{b:Nat}(R:RuleO K CR CL H x n b):∃C dx fs,(∀sp:Sp,(C,sp)∈CL.map fun c=>(c,sp))∧H x=some (.ins C dx fs)∧fs.lookup (Str.ofString "turn")=none∧fs.lookup (Str.ofString "size")=none∧fs.lookup (Str.ofString "on")=none:=by
 obtain⟨C,dx,p,pm,pw,h1,h2,h3,h4⟩:=R.ex
 exact⟨C,dx,_,fun sp=>List.mem_map.mpr ⟨C,h1,rfl⟩,h3,rfl,rfl,rfl⟩
def spNo:Sp:=fun _ _ _ _=>False
def spSigns7(K:PySem.W.Frag):Sp:=fun vs H Q _=>∃(p:Addr) (k:Int),vs=[.ref p,.int k]∧SqT K H p []∧∀H',Same H H'→Q (.int 0) H'
def spLeast7(K:PySem.W.Frag):Sp:=fun vs H Q _=>∃(p:Addr) (b:Int),vs=[.int b,.ref p]∧SqT K H p []∧∀H',Same H H'→Q (.int b) H'
def spRefM7(K:PySem.W.Frag):Sp:=fun vs H Q _=>∃(p:Addr) (b:Int),vs=[.int b,.ref p]∧SqT K H p []∧0≤b∧b≤20000∧∀H',Same H H'→Q .non H'
def spPer7(K:PySem.W.Frag):Sp:=fun vs H Q _=>∃(p:Addr),vs=[.ref p]∧SqT K H p []∧∀H',Same H H'→Q (.int 1) H'
def spUpto7(CM:Addr):Sp:=fun vs H Q _=>∃(x dx p:Addr) (k b:Int) (fs:List (Str×V)),vs=[.ref x,.int k]∧H x=some (.ins CM dx fs)∧fs.lookup (Str.ofString "base")=some (.int b)∧fs.lookup (Str.ofString "terms")=some (.ref p)∧H p=some (.tup [])∧0≤b∧b≤1000∧0≤k∧k≤1000∧∀H',Same H H'→Q (.int (b*k)) H'
def mF7(b:Int)(p:Addr):List (Str×V):=[("base",.int b),("terms",.ref p),("full_count",.int 1),("full_sum",.int b)]
def Me7(CM:Addr)(H:Hp)(y:Addr)(b:Int):Prop:=∃dx p,H y=some (.ins CM dx (mF7 b p))∧H p=some (.tup [])
theorem Me7.same{CM:Addr}{H H':Hp}{y:Addr}{b:Int}(M:Me7 CM H y b)(s:Same H H'):Me7 CM H' y b:=by
 obtain⟨dx,p,h1,h2⟩:=M
 exact⟨dx,p,s _ _ h1,s _ _ h2⟩
theorem Me7.kb{CM x C d:Addr}{H H':Hp}{y:Addr}{b:Int}{fs:List (Str×V)}(M:Me7 CM H y b)(hx:H x=some (.ins C d fs))(ne:y≠x)(k:KB x H H'):Me7 CM H' y b:=by
 obtain⟨dx,p,h1,h2⟩:=M
 exact⟨dx,p,k _ _ ne h1,k _ _ (ne_of h2 hx (fun z=>nomatch z)) h2⟩
def spInitM7(CM:Addr):Sp:=fun vs H Q _=>∃(x dx:Addr) (b:Int),vs=[.ref x,.int b,.non]∧H x=some (.ins CM dx [])∧1≤b∧b≤1000∧∀H',KB x H H'→Me7 CM H' x b→Q .non H'
def spAt7(CM:Addr):Sp:=fun vs H Q _=>∃(x:Addr) (k b:Int),vs=[.ref x,.int k]∧Me7 CM H x b∧∀H',Same H H'→Q (.int b) H'
def spPeriod7(CM:Addr):Sp:=fun vs H Q _=>∃(x:Addr) (b:Int),vs=[.ref x]∧Me7 CM H x b∧Q (.int 1) H
def spRefMo7(K:PySem.W.Frag):Sp:=fun vs H Q _=>∃(l:Addr) (k:Int),vs=[.ref l,.int 1]∧SqL K H l ([k].map V.int)∧1≤k∧k≤1000∧Q .non H
def sF7(s:Int)(p y:Addr):List (Str×V):=[("start",.int s),("months",.ref p),("leap",.int 1),("years",.ref y)]
def Sun7(CS CM:Addr)(H:Hp)(x:Addr)(s k:Int):Prop:=∃dx p y,H x=some (.ins CS dx (sF7 s p y))∧H p=some (.tup [.int k])∧Me7 CM H y k
theorem Sun7.same{CS CM:Addr}{H H':Hp}{x:Addr}{s k:Int}(S:Sun7 CS CM H x s k)(e:Same H H'):Sun7 CS CM H' x s k:=by
 obtain⟨dx,p,y,h1,h2,h3⟩:=S
 exact⟨dx,p,y,e _ _ h1,e _ _ h2,h3.same e⟩
theorem Sun7.but{CS CM:Addr}{H:Hp}{x l:Addr}{s k:Int}{xs ys:List V}(S:Sun7 CS CM H x s k)(hl:H l=some (.lst xs)):Sun7 CS CM (upd H l (.lst ys)) x s k:=by
 obtain⟨dx,p,y,h1,h2,dm,q,h3,h4⟩:=S
 have f:∀{a:Addr} {o:HO},(∀zs,o≠.lst zs)→H a=some o→upd H l (.lst ys) a=some o:=fun{a o} ho h=>by
  rw[upd_ne (fun e=>by rw[e,hl] at h;exact ho xs (Option.some.inj h).symm)]
  exact h
 exact⟨dx,p,y,f (fun _ z=>nomatch z) h1,f (fun _ z=>nomatch z) h2,dm,q,f (fun _ z=>nomatch z) h3,f (fun _ z=>nomatch z) h4⟩
def spInitS7(CS CM:Addr):Sp:=fun vs H Q _=>∃(x dx ll:Addr) (s k:Int),vs=[.ref x,.int s,.ref ll,.int 1,.non]∧H x=some (.ins CS dx [])∧H ll=some (.lst [.int k])∧1≤k∧k≤1000∧∀H',KB x H H'→Sun7 CS CM H' x s k→Q .non H'
def spYS7(CS CM:Addr):Sp:=fun vs H Q _=>∃(x:Addr) (n s k:Int),vs=[.ref x,.int n]∧Sun7 CS CM H x s k∧1≤k∧k≤1000∧0≤n∧n≤1000∧∀H',Same H H'→Q (.int (s+k*n)) H'
def spLens7(CS CM:Addr):Sp:=fun vs H Q _=>∃(x:Addr) (n s k:Int),vs=[.ref x,.int n]∧Sun7 CS CM H x s k∧∀(p:Addr) H',H p=none→Same H H'→H' p=some (.lst [.int k])→Q (.ref p) H'
def spCyc7(CS CM:Addr):Sp:=fun vs H Q _=>∃(x:Addr) (s k:Int),vs=[.ref x]∧Sun7 CS CM H x s k∧1≤k∧k≤1000∧∀(p:Addr) H',Same H H'→H' p=some (.tup [.int 1,.int k])→Q (.ref p) H'
def oI(o:Option Int):V:=match o with | none=>.non | some i=>.int i
def spWant7:Sp:=fun vs H Q _=>∃(d:Option Int) (st:Int),vs=[.int 1,oI d,.int st]∧d≠some 0∧1≤st∧Q .non H
def spDoM7:Sp:=fun vs H Q _=>∃(f n:Int) (d:Option Int),vs=[.int f,.int n,oI d]∧0≤f∧f≤1000000∧0≤n∧n≤1000∧∀(l:Addr) (ds:List Int) (H':Hp),H l=none→Same H H'→H' l=some (.lst (ds.map V.int))→ds.length≤1000→Q (.ref l) H'
def spDoY7(CS CM:Addr):Sp:=fun vs H Q _=>∃(x:Addr) (s k y:Int) (d:Option Int),vs=[.ref x,.int y,.int 1,oI d]∧Sun7 CS CM H x s k∧0≤s∧s≤1∧1≤k∧k≤1000∧0≤y∧y≤100∧∀(l:Addr) (ds:List Int) (H':Hp),H l=none→Same H H'→H' l=some (.lst (ds.map V.int))→ds.length≤1000→Q (.ref l) H'
def spDated7(CS CM:Addr):Sp:=fun vs H Q _=>∃(x:Addr) (s k st:Int) (d:Option Int),vs=[.ref x,.int 1,oI d,.int st,.int 1]∧Sun7 CS CM H x s k∧0≤s∧s≤1∧1≤k∧k≤1000∧d≠some 0∧1≤st∧st≤100∧
 ∀(p:Addr) (c:Nat) (H':Hp),Same H H'→H' p=some (.tup [.int (k*st),.int (c:Int)])→c<2^(k*st).toNat→Q (.ref p) H'
theorem put7{H:Hp}{x:Addr}{o:HO}{m:Hp→Prop}(h:∀H',KB x H H'→H' x=some o→m H'):m (upd H x o):=h _ (fun y _ ne e=>by rw[upd_ne ne];exact e) upd_same
theorem bt_log{k:Nat}{x:Int}(h:Bt k x)(hk:k≤1920)(h0:0<k):x.natAbs.log2<1920:=by
 unfold Bt at h
 by_cases z:x.natAbs=0
 ·rw[z];decide
 ·exact Nat.lt_of_lt_of_le ((Nat.log2_lt z).mpr h) hk
theorem four{a b c d:V}:([a,b,c,d]:List V).length≤sizeLine:=by show 4≤sizeLine;decide
theorem len_app7(a b:Str):(a++b).length=a.length+b.length:=by
 show(a.cps++b.cps).size=_
 rw[Array.size_append]
 rfl
def MadeT(K:PySem.W.Frag)(CR:Addr)(CL:List Addr)(C:Addr)(H:Hp)(x:Addr)(Q:VK)(n:Int)(ks:List Addr)(G:Nat→List Str→Prop):Prop:=(∃dx,H x=some (.ins C dx []))∧∀(b:Nat) ws H',KB x H H'→Nod K CR CL H' x n b ks ws→G b ws→Q .non H'
theorem made_nod{K:PySem.W.Frag}{CR:Addr}{CL:List Addr}{C x dx p pm pw:Addr}{H2 H':Hp}{n:Int}{b:Nat}{ks:List Addr}{ws:List Str}(hC:C∈CL)(R:RC K CR C)(hx:H2 x=some (.ins C dx []))(hp:H2 p=some (.tup [.int n,.int (b:Int)]))(hm:H2 pm=some (.tup (ks.map .ref)))(hw:H2 pw=some (.tup (ws.map .str)))(k:KB x H2 H')(e:H' x=some (.ins C dx (rF p pm pw)))(n0:0<n)(n1:n≤150000)(lt:b<2^n.toNat)(wl:(ws.map (·.length)).sum≤8000):Nod K CR CL H' x n b ks ws:=
 ⟨⟨C,dx,p,pm,pw,hC,R,e,k _ _ (ne_of hp hx (fun z=>nomatch z)) hp,k _ _ (ne_of hm hx (fun z=>nomatch z)) hm,k _ _ (ne_of hw hx (fun z=>nomatch z)) hw⟩,n0,n1,lt,wl⟩
def L1(_:Nat)(ws:List Str):Prop:=∃w,ws=[w]
def L2'(_:Nat)(ws:List Str):Prop:=∃w0 w1,ws=[w0,w1]
def L3(_:Nat)(ws:List Str):Prop:=∃w0 w1 w2,ws=[w0,w1,w2]
def noDate(w:Str):Prop:=Txt.startswith w (Str.ofString "date ")=false
def spI0T(K:PySem.W.Frag)(CR:Addr)(CL:List Addr)(C:Addr)(b0:Nat):Sp:=fun vs H Q _=>∃x,vs=[.ref x]∧MadeT K CR CL C H x Q 1 [] (fun b ws=>b=b0∧∃w,ws=[w]∧noDate w)
def spIEachT(K:PySem.W.Frag)(CR:Addr)(CL:List Addr)(C:Addr):Sp:=fun vs H Q _=>∃(x:Addr) (n r:Int),vs=[.ref x,.int n,.int r]∧1≤n∧n≤1000∧MadeT K CR CL C H x Q n [] (fun b ws=>RB n [r] b∧∃w,ws=[w]∧noDate w)
def spI1T(K:PySem.W.Frag)(CR:Addr)(CL:List Addr)(C:Addr):Sp:=fun vs H Q _=>∃(x r:Addr) (n:Int) (b:Nat),vs=[.ref x,.ref r]∧RuleO K CR CL H r n b∧MadeT K CR CL C H x Q n [r] L2'
def spILT(K:PySem.W.Frag)(CR:Addr)(CL:List Addr)(C:Addr):Sp:=fun vs H Q _=>∃(x r:Addr) (k n:Int) (b:Nat),vs=[.ref x,.int k,.ref r]∧Bt 200 k∧RuleO K CR CL H r n b∧MadeT K CR CL C H x Q n [r] L2'
def spIVT(K:PySem.W.Frag)(CR:Addr)(CL:List Addr)(C:Addr):Sp:=fun vs H Q _=>∃(x r:Addr) (k d n:Int) (b:Nat),vs=[.ref x,.int k,.ref r,.int d]∧1≤k∧k≤1000∧n*k≤150000∧Bt 200 d∧RuleO K CR CL H r n b∧MadeT K CR CL C H x Q (n*k) [r] L2'
def spI2T(K:PySem.W.Frag)(CR:Addr)(CL:List Addr)(C:Addr):Sp:=fun vs H Q _=>∃(x r t:Addr) (n1 n2:Int) (b1 b2:Nat),vs=[.ref x,.ref r,.ref t]∧RuleO K CR CL H r n1 b1∧RuleO K CR CL H t n2 b2∧lcmI n1 n2≤150000∧MadeT K CR CL C H x Q (lcmI n1 n2) [r,t] L3
def spIKT(K:PySem.W.Frag)(CR:Addr)(CL:List Addr)(C:Addr):Sp:=fun vs H Q _=>∃(x r t:Addr) (k n1 n2:Int) (b1 b2:Nat),vs=[.ref x,.int k,.ref r,.ref t]∧k≠0∧Bt 200 k∧RuleO K CR CL H r n1 b1∧RuleO K CR CL H t n2 b2∧lcmI n1 n2≤150000∧MadeT K CR CL C H x Q (lcmI n1 n2) [r,t] L3
def spIDT(K:PySem.W.Frag)(CR:Addr)(CL:List Addr)(C CS CM:Addr):Sp:=fun vs H Q _=>∃(x y:Addr) (z:Str) (s k st:Int) (d:Option Int),vs=[.ref x,.str z,.ref y,.int 1,oI d,.int st,.int 1]∧z.length≤100∧Sun7 CS CM H y s k∧0≤s∧s≤1∧1≤k∧k≤1000∧d≠some 0∧(∀j,d=some j→j.natAbs.log2<1920)∧1≤st∧st≤100∧MadeT K CR CL C H x Q (k*st) [] L1
def spEachT7:Sp:=fun vs H Q _=>∃n r:Int,vs=[.int n,.int r]∧1≤n∧n≤1000∧∀z,z.length≤3900→noDate z→Q (.str z) H
def spWText7:Sp:=fun vs H Q _=>∃m:Option Int,vs=[oI m]∧(∀i,m=some i→i.natAbs.log2<1920)∧∀z:Str,z.length≤1921→Q (.str z) H
def spDText7:Sp:=fun vs H Q _=>∃(z:Str) (i:Option Int) (st:Int),vs=[.str z,.int 1,oI i,.int st,.int 1]∧z.length≤100∧(∀j,i=some j→j.natAbs.log2<1920)∧1≤st∧st≤100∧∀(y:Str) (H':Hp),Same H H'→y.length≤8000→Q (.str y) H'
def spKthZ(K:PySem.W.Frag):Sp:=fun vs H Q _=>∃(k:Int) (a1 a2:Addr) (n1 n2:Int) (b1 b2:Nat),vs=[.int k,.ref a1,.ref a2]∧Two81 K H a1 a2 n1 n2 b1 b2∧k≠0∧lcmI n1 n2≤150000∧
 ∀(p:Addr) (c:Nat) (H':Hp),Same H H'→H' p=some (.tup [.int (lcmI n1 n2),.int (c:Int)])→c<2^(lcmI n1 n2).toNat→Q (.ref p) H'
def spEveryZ(K:PySem.W.Frag):Sp:=fun vs H Q _=>∃(k d:Int) (a:Addr) (n:Int) (b:Nat),vs=[.int k,.ref a,.int d]∧SqT K H a [.int n,.int (b:Int)]∧0<n∧n≤150000∧b<2^n.toNat∧Bt 250 d∧Bt 400 k∧1≤k∧n*k≤150000∧
 ∀(p:Addr) (c:Nat) (H':Hp),Same H H'→H' p=some (.tup [.int (n*k),.int (c:Int)])→c<2^(n*k).toNat→Q (.ref p) H'
theorem le_mulr{n k:Int}(hn:0<n)(hk:0<k):k≤n*k:=by
 have:=Int.mul_le_mul_of_nonneg_right (show 1≤n by omega) (Int.le_of_lt hk)
 omega
theorem date_eq:(Str.ofString "date ").cps= #[100,97,116,101,32]:=by decide +kernel
theorem starts_cut{z:Str}(h:Txt.startswith z (Str.ofString "date ")=true):z.cps.toList.take 5=[100,97,116,101,32]:=by
 unfold Txt.startswith at h
 have h2:=(Bool.and_eq_true_iff.mp h).2
 unfold Builtin.Str.subAt at h2
 have e:=eq_of_beq h2
 have l:(Str.ofString "date ").length=5:=by decide +kernel
 rw[date_eq,l] at e
 have e2:=congrArg Array.toList e
 rw[Array.toList_extract] at e2
 simpa using e2
theorem starts_blank{z:Str}(h:Txt.startswith z (Str.ofString "date ")=true):32∈z.cps.toList:=by
 refine List.mem_of_mem_take (i:=5) ?_
 rw[starts_cut h]
 simp
theorem no_date{z:Str}{c:Nat}(h:z.cps.toList.head?=some c)(hc:c≠100):noDate z:=by
 unfold noDate
 cases e:Txt.startswith z (Str.ofString "date ") with
 | false=>rfl
 | true=>
  have t:=starts_cut e
  cases hl:z.cps.toList with
  | nil=>rw[hl] at h;cases h
  | cons a r=>
   rw[hl] at h t
   injection h with h
   injection t with t _
   exact absurd (h.symm.trans t) hc
theorem hd_app{a b:Str}{c:Nat}(h:a.cps.toList.head?=some c):(a++b).cps.toList.head?=some c:=by
 show(a.cps++b.cps).toList.head?=_
 rw[Array.toList_append]
 cases hl:a.cps.toList with
 | nil=>rw[hl] at h;cases h
 | cons x r=>rw[hl] at h;exact h
theorem log7{i:Int}(h1: -1000000≤i)(h2:i≤1000000):i.natAbs.log2<1920:=bt_log (bt_of (by omega) (by omega)) (by decide) (by decide)
theorem glue_le(y:Str):∀(zs:List Str) (acc:Array Nat),(zs.foldl (fun acc (p:Str)=>acc++y.cps++p.cps) acc).size=acc.size+(zs.map (·.length)).sum+zs.length*y.length
 | [],acc=>by simp
 | z::zs,acc=>by
  rw[List.foldl_cons,glue_le y zs,Array.size_append,Array.size_append,List.map_cons,List.sum_cons,List.length_cons,Nat.succ_mul]
  show acc.size+y.length+z.length+_+_=_
  omega
theorem glued_le(y:Str)(zs:List Str):(Txt.join y zs).length≤(zs.map (·.length)).sum+zs.length*y.length:=by
 cases zs with
 | nil=>exact Nat.zero_le _
 | cons z zs=>
  show((zs.foldl (fun acc (p:Str)=>acc++y.cps++p.cps) z.cps)).size≤_
  rw[glue_le,List.map_cons,List.sum_cons,List.length_cons,Nat.succ_mul]
  show z.length+_+_≤_
  omega
def spDivW:Sp:=fun vs H Q _=>∃x y:Int,vs=[.int x,.int y]∧0<x∧0<y∧Q (.int (Int.gcd x y:Int)) H
theorem gcd7(a b:Int):Int.gcd b (a%b)=Int.gcd a b:=by
 have e:=Int.emod_add_mul_ediv a b
 refine Nat.dvd_antisymm (Int.dvd_coe_gcd ?_ ?_ |> Int.ofNat_dvd.mp) (Int.dvd_coe_gcd ?_ ?_ |> Int.ofNat_dvd.mp)
 ·have h1:=Int.gcd_dvd_left (a:=b) (b:=a%b)
  have h2:=Int.gcd_dvd_right (a:=b) (b:=a%b)
  have:=Int.dvd_add h2 (Int.dvd_trans h1 (Int.dvd_mul_right b (a/b)))
  rwa [e] at this
 ·exact Int.gcd_dvd_left ..
 ·exact Int.gcd_dvd_right ..
 ·have h1:=Int.gcd_dvd_left (a:=a) (b:=b)
  have h2:=Int.gcd_dvd_right (a:=a) (b:=b)
  rw[Int.emod_def]
  exact Int.dvd_sub h1 (Int.dvd_trans h2 (Int.dvd_mul_right b (a/b)))
theorem pe_bmC{X:Cx}{M:List Str}{x:Str}{scope:Scope}{cl:List (Str×Addr)}{C:Addr}{s₀:Shared}{H₀:Hp}{fp:List Addr}{T id:String}{name:Str}{r:V→List V→Hp→VK→Prop}{o e:Expr}{es:List Expr}{to:TE}{t:TA}{apos cpos:Pos}(pa:PlainAttrs T)(slot:Slot T name id)(hty:typeOf (.builtin id)=pure (.type "method_descriptor"))(hm:MtR (compCx X M x scope cl C s₀ H₀ fp) id r)(ho:PE (compCx X M x scope cl C s₀ H₀ fp) o to)(ha:PA (compCx X M x scope cl C s₀ H₀ fp) (e::es) t)
 (hbase:attributeBase o name (compCx X M x scope cl C s₀ H₀ fp).env (eval o (compCx X M x scope cl C s₀ H₀ fp).env)=eval o (compCx X M x scope cl C s₀ H₀ fp).env:=by rfl)
 (hfew:((backTo cpos (starEach (e::es) (compCx X M x scope cl C s₀ H₀ fp).env)).all (fun x=>!x.1)&&(backToKw cpos (keywordEach [] (compCx X M x scope cl C s₀ H₀ fp).env)).all (fun x=>x.1.isSome)
  &&decide ((e::es).length+([]:List Keyword).length+(if ([]:List Keyword).isEmpty then 0 else 1)<30))=true:=by rfl)
 (hline:(apos.endLine==cpos.line)=true:=by rfl)(hs:starEach (e::es) (compCx X M x scope cl C s₀ H₀ fp).env=(false,eval e (compCx X M x scope cl C s₀ H₀ fp).env)::starEach es (compCx X M x scope cl C s₀ H₀ fp).env:=by rfl)(hplain:(backTo cpos (starEach es (compCx X M x scope cl C s₀ H₀ fp).env)).any (·.1)=false:=by rfl):
 PE (compCx X M x scope cl C s₀ H₀ fp) (.Call (.Attribute o name apos) (e::es) [] cpos) (tBM X.K T r to t):=pe_bm pa slot hty hm ho ha hbase hfew hline hs hplain
theorem op_eqTc{X:Cx}{M:List Str}{x:Str}{scope:Scope}{cl:List (Str×Addr)}{C:Addr}{s₀:Shared}{H₀:Hp}{fp:List Addr}(hu:X.A.units<cLine):OpR (compCx X M x scope cl C s₀ H₀ fp) (compareOp .Eq) (rEqT X.K):=op_eqT hu
section
variable(K:PySem.W.Frag)(CR:Addr)(CL:List Addr)
def NodeT(H:Hp)(p:Addr)(t:Tr):Prop:=H p=some (.tup [.ref t.adr,.int t.sz,.int (t.parts.length:Int)])∧TrH K CR CL H t∧t.sz≤120∧t.parts.length≤41
def spPartsIn:Sp:=fun vs H Q _=>∃t:Tr,vs=[.ref t.adr]∧TrH K CR CL H t∧t.parts.length≤41∧∀H',Same H H'→Q (.int (t.parts.length:Int)) H'
def spToldBy:Sp:=fun vs H Q _=>∃(p:Addr) (z c:Nat),vs=[.ref p]∧H p=some (.tup [.int (z:Int),.int (c:Int)])∧0<z∧z≤1000∧c<2^z∧(c=0→z=1)∧
 (∀x w H',Same H H'→Nod K CR CL H' x z c [] [w]→noDate w→Q (.ref x) H')∧(1<(dl c z).length→∀H',Same H H'→Q .non H')
def nmOf(z:Str):Str:=((splS 32 z)[1]?).getD z
def nmsT(t:Tr):List Str:=((t.parts.map Tr.text).filter fun z=>Txt.startswith z (Str.ofString "date ")).map nmOf
def spShorter:Sp:=fun vs H Q _=>∃t:Tr,vs=[.ref t.adr]∧TrH K CR CL H t∧t.parts.length≤41∧t.sz≤120∧∀(z c:Nat) (f:Tr) H',Same H H'→Lst t.sz.toNat t.bits z c→TrH K CR CL H' f→Lst f.sz.toNat f.bits z c→f.sz∣t.sz→(f∈t.parts∨nmsT f=[])→
 (∀s∈t.parts,Lst s.sz.toNat s.bits z c→f.parts.length≤s.parts.length)→((∃d,∀i,i<z→c.testBit i=true→i=d)→f.parts.length=1)→f.parts.length≤41→Q (.ref f.adr) H'
def spLeaf67:Sp:=fun vs H Q _=>∃(wd z0 z1:Str) (x:Int) (ln:Addr),vs=[.str wd,.int x,.ref ln]∧SqL K H ln [.str z0,.str z1]∧z0.length≤100∧z1.length≤100∧∀p t H',Same H H'→NodeT K CR CL H' p t→t.parts.length=1→Q (.ref p) H'
def spPair67:Sp:=fun vs H Q _=>∃(wd:Str) (r t:Addr) (n1 n2:Int) (b1 b2:Nat),vs=[.str wd,.ref r,.ref t]∧RuleO K CR CL H r n1 b1∧RuleO K CR CL H t n2 b2∧lcmI n1 n2≤150000∧∀x b w0 w1 w2 H',Same H H'→Nod K CR CL H' x (lcmI n1 n2) b [r,t] [w0,w1,w2]→Q (.ref x) H'
def spMade67:Sp:=fun vs H Q _=>∃(wd:Str) (x:Int) (p1 p2:Addr) (t1 t2:Tr),vs=[.str wd,.int x,.ref p1,.ref p2]∧NodeT K CR CL H p1 t1∧NodeT K CR CL H p2 t2∧t1.parts.length≤40∧t2.parts.length≤40∧∀v H',Same H H'→(v=.non∨∃p t,v=.ref p∧NodeT K CR CL H' p t)→Q v H'
def spRule67:Sp:=fun vs H Q _=>∃(a:Addr) (ns:List Int),vs=[.ref a]∧SqL K H a (ns.map V.int)∧ns.length≤63∧∀(t:Tr) H',Same H H'→TrH K CR CL H' t→t.sz≤120→t.parts.length≤41→Q (.ref t.adr) H'
def spLong67:Sp:=fun vs H Q _=>∃(p:Addr) (n z:Int) (b:Nat),vs=[.ref p,.int z]∧SqT K H p [.int n,.int (b:Int)]∧0<n∧0<z∧z≤120∧n∣z∧b<2^n.toNat∧∀c:Nat,Strt n.toNat b z.toNat c→Q (.int (c:Int)) H
def spOneP67:Sp:=fun vs H Q _=>∃(n:Int) (b:Nat),vs=[.int (b:Int),.int n]∧0<n∧n≤120∧b<2^n.toNat∧∀(r:Bool) H',Same H H'→(r=true→OneP n.toNat b)→Q (.bl r) H'
def spNames67:Sp:=fun vs H Q _=>∃t:Tr,vs=[.ref t.adr]∧TrH K CR CL H t∧t.parts.length≤41∧∀l H',H l=none→Same H H'→H' l=some (.lst ((nmsT t).map V.str))→Q (.ref l) H'
def spAlike67:Sp:=fun vs H Q _=>∃t f:Tr,vs=[.ref t.adr,.ref f.adr]∧TrH K CR CL H t∧TrH K CR CL H f∧t.sz≤120∧f.sz∣t.sz∧Strt f.sz.toNat f.bits t.sz.toNat t.bits∧∀H',Same H H'→Q (.bl true) H'
end
section
variable{K:PySem.W.Frag}{CR:Addr}{CL:List Addr}{C:Addr}{H:Hp}{y dy:Addr}{Q:VK}{E:XK}
theorem mk_same{o:HO}(hy:H y=none)(hdy:H dy=none)(ne:dy≠y):Same H (upd (upd H dy (.own y)) y o):=(same_new hdy _).trans (same_new (by rw[upd_ne (Ne.symm ne)];exact hy) _)
theorem MadeT.go{n:Int}{ks:List Addr}{G:Nat→List Str→Prop}(hy:H y=none)(hdy:H dy=none)(ne:dy≠y)(q:∀b ws H',Same H H'→Nod K CR CL H' y n b ks ws→G b ws→Q .non H'):MadeT K CR CL C (upd (upd H dy (.own y)) y (.ins C dy [])) y Q n ks G:=
 ⟨⟨dy,upd_same⟩,fun b ws H' k N g=>q b ws H' (made_same hy hdy ne k) N g⟩
theorem mk2T{r t:Addr}{n1 n2:Int}{b1 b2:Nat}(R1:RuleO K CR CL H r n1 b1)(R2:RuleO K CR CL H t n2 b2)(lz:lcmI n1 n2≤150000)(hy:H y=none)(hdy:H dy=none)(ne:dy≠y)(q:∀b w0 w1 w2 H',Same H H'→Nod K CR CL H' y (lcmI n1 n2) b [r,t] [w0,w1,w2]→Q .non H'):spI2T K CR CL C [.ref y,.ref r,.ref t] (upd (upd H dy (.own y)) y (.ins C dy [])) Q E:=
 ⟨y,r,t,n1,n2,b1,b2,rfl,R1.same (mk_same hy hdy ne),R2.same (mk_same hy hdy ne),lz,.go hy hdy ne fun b ws H' s N ⟨w0,w1,w2,e⟩=>q b w0 w1 w2 H' s (e ▸ N)⟩
end
theorem eqV2(a b c d:Int):eqVs [V.int a,V.int b] [V.int c,V.int d]=decide (a=c∧b=d):=by
 rw[show [V.int a,V.int b]=[a,b].map V.int from rfl,show[V.int c,V.int d]=[c,d].map V.int from rfl,eqVs_ints]
 simp
theorem dl_nil{c z:Nat}(lt:c<2^z)(h:dl c z=[]):c=0:=bits_ext lt (Nat.two_pow_pos z) fun i hi=>by
 rw[Nat.zero_testBit]
 cases e:c.testBit i with
 | false=>rfl
 | true=>exact absurd (mem_dl.mpr ⟨hi,e⟩) (by rw[h];simp)
theorem each_bits{z c b d:Nat}(lt:c<2^z)(h:dl c z=[d])(B:RB (z:Int) [(d:Int)] b):b=c:=by
 have dz:d<z∧c.testBit d=true:=mem_dl.mp (by rw[h];simp)
 have bl:=B.lt
 rw[Int.toNat_natCast] at bl
 refine bits_ext bl lt fun i hi=>?_
 have e:=B.bit (i:Int)
 unfold On hit at e
 rw[←Int.natCast_emod,Int.toNat_natCast,Nat.mod_eq_of_lt hi] at e
 rw[e,Bool.eq_iff_iff]
 have m:c.testBit i=true↔i=d:=by
  constructor
  ·intro hc
   have:i∈dl c z:=mem_dl.mpr ⟨hi,hc⟩
   rw[h] at this
   simpa using this
  ·rintro rfl
   exact dz.2
 rw[m]
 simp only[List.any_cons,List.any_nil,Bool.or_false,decide_eq_true_eq]
 constructor
 ·intro q
  by_cases c1:d≤i
  ·rw[Int.emod_eq_of_lt (by omega) (by omega)] at q
   omega
  ·have q2:=Int.dvd_of_emod_eq_zero q
   have q3:(z:Int)∣(d:Int)-i:=by
    have:=Int.dvd_neg.mpr q2
    rwa [Int.neg_sub] at this
   have:=Int.le_of_dvd (by omega) q3
   omega
 ·rintro rfl
  simp
theorem few_len{c z:Nat}(h:∃d,∀i,i<z→c.testBit i=true→i=d):(dl c z).length≤1:=by
 obtain⟨d,hd⟩:=h
 have nd:(dl c z).Nodup:=by unfold dl;exact List.Pairwise.filter _ List.nodup_range
 match e:dl c z with
 | []=>simp
 | [a]=>simp
 | a::b::r=>
  have m1:=mem_dl.mp (show a∈dl c z by rw[e];simp)
  have m2:=mem_dl.mp (show b∈dl c z by rw[e];simp)
  rw[e] at nd
  have:=(List.nodup_cons.mp nd).1
  rw[hd a m1.1 m1.2,hd b m2.1 m2.2] at this
  simp at this
theorem nms_nil{a:Addr}{n:Int}{b:Nat}{w:Str}(h:noDate w):nmsT (.lf a n b w)=[]:=by
 show((([w]:List Str).filter fun z=>Txt.startswith z (Str.ofString "date ")).map nmOf)=[]
 unfold noDate at h
 rw[List.filter_cons,h]
 rfl
theorem nms_sub{t f:Tr}(h:f∈t.parts):∀z∈nmsT f,z∈nmsT t:=fun z hz=>by
 unfold nmsT at*
 obtain⟨y,hy,rfl⟩:=List.mem_map.mp hz
 obtain⟨h1,h2⟩:=List.mem_filter.mp hy
 obtain⟨s,hs,rfl⟩:=List.mem_map.mp h1
 exact List.mem_map.mpr ⟨_,List.mem_filter.mpr ⟨List.mem_map.mpr ⟨s,Tr.sub_parts h s hs,rfl⟩,h2⟩,rfl⟩
section
variable{K:PySem.W.Frag}{CR:Addr}{CL:List Addr}{H:Hp}{p y:Addr}{n:Int}{b:Nat}{w w0 w1 w2:Str}{t u:Tr}
theorem NodeT.lf(N:Nod K CR CL H y n b [] [w])(zl:n≤120)(hp:H p=none):NodeT K CR CL (upd H p (.tup [.ref y,.int n,.int 1])) p (.lf y n b w):=⟨upd_same,Nod.same N (same_new hp _),zl,by show 1≤41;decide⟩
theorem NodeT.un(N:Nod K CR CL H y n b [t.adr] [w0,w1])(T:TrH K CR CL H t)(dv:t.sz∣n)(zl:n≤120)(kl:t.parts.length≤40)(hp:H p=none):NodeT K CR CL (upd H p (.tup [.ref y,.int n,.int (1+(t.parts.length:Int))])) p (.un y n b w0 w1 t):=by
 have e:(1:Int)+(t.parts.length:Int)=((Tr.un y n b w0 w1 t).parts.length:Int):=by
  simp only[Tr.parts,List.length_cons]
  omega
 rw[e]
 exact⟨upd_same,⟨Nod.same N (same_new hp _),dv,T.same (same_new hp _)⟩,zl,by omega⟩
theorem NodeT.bi(N:Nod K CR CL H y n b [t.adr,u.adr] [w0,w1,w2])(T:TrH K CR CL H t)(U:TrH K CR CL H u)(dv:t.sz∣n)(du:u.sz∣n)(zl:n≤120)(kl:1+(t.parts.length:Int)+(u.parts.length:Int)≤40)(hp:H p=none):NodeT K CR CL (upd H p (.tup [.ref y,.int n,.int (1+(t.parts.length:Int)+(u.parts.length:Int))])) p (.bi y n b w0 w1 w2 t u):=by
 have e:(1:Int)+(t.parts.length:Int)+(u.parts.length:Int)=((Tr.bi y n b w0 w1 w2 t u).parts.length:Int):=by
  simp only[Tr.parts,List.length_cons,List.length_append]
  omega
 rw[e] at kl ⊢
 exact⟨upd_same,⟨Nod.same N (same_new hp _),dv,du,T.same (same_new hp _),U.same (same_new hp _)⟩,zl,by omega⟩
end
theorem spl_two{c:Nat}:∀{l:List Nat},c∈l→2≤(spl c l).length
 | [],h=>nomatch h
 | a::l,h=>by
  have n1:0<(spl c l).length:=List.length_pos_iff.mpr (spl_ne c l)
  by_cases e:a=c
  ·subst e
   rw[spl_at,List.length_cons]
   omega
  ·rw[spl_not l e,List.length_cons,List.length_drop]
   rcases List.mem_cons.mp h with z | z
   ·exact absurd z.symm e
   ·have:=spl_two z
    omega
theorem nm_at{z:Str}(h:Txt.startswith z (Str.ofString "date ")=true):atI ((splS 32 z).map V.str) 1=some (.str (nmOf z)):=by
 have l2:1<(splS 32 z).length:=by
  unfold splS
  rw[List.length_map]
  exact spl_two (starts_blank h)
 refine atI_nat (j:=1) ?_
 unfold nmOf
 rw[List.getElem?_map,List.getElem?_eq_getElem l2]
 rfl
theorem at_strs{ss:List Str}{k:Int}(h0:0≤k)(h1:k<(ss.length:Int)):∃z,z∈ss∧atI (ss.map V.str) k=some (.str z):=by
 have hk:k.toNat<ss.length:=by omega
 refine⟨ss[k.toNat],List.getElem_mem hk,?_⟩
 have:=atI_nat (xs:=ss.map V.str) (j:=k.toNat) (v:=.str ss[k.toNat]) (by rw[List.getElem?_map,List.getElem?_eq_getElem hk];rfl)
 rwa [show ((k.toNat:Nat):Int)=k by omega] at this
theorem at_nodes{zs:List (Addr×Tr)}{k:Int}(h0:0≤k)(h1:k<(zs.length:Int)):∃z,z∈zs∧atI (zs.map fun z=>V.ref z.1) k=some (.ref z.1):=by
 have hk:k.toNat<zs.length:=by omega
 refine⟨zs[k.toNat],List.getElem_mem hk,?_⟩
 have:=atI_nat (xs:=zs.map fun z=>V.ref z.1) (j:=k.toNat) (v:=.ref zs[k.toNat].1) (by rw[List.getElem?_map,List.getElem?_eq_getElem hk];rfl)
 rwa [show ((k.toNat:Nat):Int)=k by omega] at this
theorem at_lastN{zs:List (Addr×Tr)}(h:0<zs.length):∃z,z∈zs∧atI (zs.map fun z=>V.ref z.1) (-1)=some (.ref z.1):=by
 refine⟨zs[zs.length-1],List.getElem_mem (by omega),?_⟩
 unfold atI ixN
 rw[if_neg (by decide),if_pos (by rw[List.length_map];omega),List.length_map]
 show(zs.map fun z=>V.ref z.1)[((-1:Int)+(zs.length:Int)).toNat]?=_
 rw[show ((-1:Int)+(zs.length:Int)).toNat=zs.length-1 by omega,List.getElem?_map,List.getElem?_eq_getElem (by omega)]
 rfl
def Kp(H H':Hp):Prop:=∀y o,(∀xs,o≠.lst xs)→H y=some o→H' y=some o
theorem Kp.of{H H':Hp}(s:Same H H'):Kp H H':=fun y o _ e=>s y o e
theorem Kp.upd{H:Hp}{l:Addr}{xs ys:List V}(hl:H l=some (.lst xs)):Kp H (upd H l (.lst ys)):=fun y o ho e=>by
 rw[upd_ne (fun z=>by rw[z,hl] at e;exact ho xs (Option.some.inj e).symm)]
 exact e
section
variable{K:PySem.W.Frag}{CR:Addr}{CL:List Addr}{H H':Hp}
theorem Nod.kp{a:Addr}{n:Int}{b:Nat}{ks:List Addr}{ws:List Str}(N:Nod K CR CL H a n b ks ws)(s:Kp H H'):Nod K CR CL H' a n b ks ws:=by
 obtain⟨C,dx,p,pm,pw,c,r,e1,e2,e3,e4⟩:=N.ex
 exact⟨⟨C,dx,p,pm,pw,c,r,s _ _ (fun _ z=>nomatch z) e1,s _ _ (fun _ z=>nomatch z) e2,s _ _ (fun _ z=>nomatch z) e3,s _ _ (fun _ z=>nomatch z) e4⟩,N.n0,N.n1,N.lt,N.wl⟩
theorem TrH.kp(s:Kp H H'):∀{t:Tr},TrH K CR CL H t→TrH K CR CL H' t
 | .lf ..,h=>Nod.kp h s
 | .un ..,⟨h,d,g⟩=>⟨h.kp s,d,TrH.kp s g⟩
 | .bi ..,⟨h,d,e,g,g'⟩=>⟨h.kp s,d,e,TrH.kp s g,TrH.kp s g'⟩
theorem NodeT.kp{p:Addr}{t:Tr}(N:NodeT K CR CL H p t)(s:Kp H H'):NodeT K CR CL H' p t:=⟨s _ _ (fun _ z=>nomatch z) N.1,N.2.1.kp s,N.2.2⟩
def Row(K:PySem.W.Frag)(CR:Addr)(CL:List Addr)(H:Hp)(l:Addr)(zs:List (Addr×Tr)):Prop:=H l=some (.lst (zs.map fun z=>V.ref z.1))∧∀z∈zs,NodeT K CR CL H z.1 z.2∧z.2.parts.length≤40
theorem Row.same{l:Addr}{zs:List (Addr×Tr)}(R:Row K CR CL H l zs)(s:Same H H'):Row K CR CL H' l zs:=⟨s _ _ R.1,fun z hz=>⟨(R.2 z hz).1.kp (.of s),(R.2 z hz).2⟩⟩
theorem Row.app{l p:Addr}{t:Tr}{zs:List (Addr×Tr)}(R:Row K CR CL H l zs)(N:NodeT K CR CL H p t)(k:t.parts.length≤40):Row K CR CL (upd H l (.lst ((zs.map fun z=>V.ref z.1)++[.ref p]))) l (zs++[(p,t)]):=by
 refine⟨by rw[upd_same,List.map_append];rfl,fun z hz=>?_⟩
 rcases List.mem_append.mp hz with h | h
 ·exact⟨(R.2 z h).1.kp (.upd R.1),(R.2 z h).2⟩
 ·obtain rfl:=List.mem_singleton.mp h
  exact⟨N.kp (.upd R.1),k⟩
end
theorem flat_strs(ss:List Str):(ss.map V.str).all flatV=true:=by
 rw[List.all_map]
 exact List.all_eq_true.mpr fun _ _=>rfl
theorem in_strs{z:Str}{ss:List Str}(h:z∈ss):inV (V.str z) (ss.map V.str)=true:=by
 unfold inV
 rw[List.any_map,List.any_eq_true]
 exact⟨z,h,by simp[eqV]⟩
structure Errs(K:PySem.W.Frag)(mg:Str→Option Value)(c_FeastError c_NoNumber c_TooLong c_NoMeasure c_Rule c_All c_No c_Each c_Dated c_Not c_Both c_Either c_But c_Unlike c_Later c_Upon c_Until c_Near c_Till c_Kth c_Every c_Measure c_Calendar c_Sun:Addr):Prop where
 cl_Measure:Cls K c_Measure
 na_Measure_base:NoAttr K c_Measure "base"
 na_Measure_terms:NoAttr K c_Measure "terms"
 na_Measure_full_count:NoAttr K c_Measure "full_count"
 na_Measure_full_sum:NoAttr K c_Measure "full_sum"
 cl_Sun:Cls K c_Sun
 na_Sun_start:NoAttr K c_Sun "start"
 na_Sun_months:NoAttr K c_Sun "months"
 na_Sun_leap:NoAttr K c_Sun "leap"
 na_Sun_years:NoAttr K c_Sun "years"
 m_Rule:mg "Rule"=some (.ref c_Rule)
 cl_All:Cls K c_All
 rc_All:RC K c_Rule c_All
 cl_No:Cls K c_No
 rc_No:RC K c_Rule c_No
 cl_Each:Cls K c_Each
 rc_Each:RC K c_Rule c_Each
 cl_Dated:Cls K c_Dated
 rc_Dated:RC K c_Rule c_Dated
 cl_Not:Cls K c_Not
 rc_Not:RC K c_Rule c_Not
 cl_Both:Cls K c_Both
 rc_Both:RC K c_Rule c_Both
 cl_Either:Cls K c_Either
 rc_Either:RC K c_Rule c_Either
 cl_But:Cls K c_But
 rc_But:RC K c_Rule c_But
 cl_Unlike:Cls K c_Unlike
 rc_Unlike:RC K c_Rule c_Unlike
 cl_Later:Cls K c_Later
 rc_Later:RC K c_Rule c_Later
 cl_Upon:Cls K c_Upon
 rc_Upon:RC K c_Rule c_Upon
 cl_Until:Cls K c_Until
 rc_Until:RC K c_Rule c_Until
 cl_Near:Cls K c_Near
 rc_Near:RC K c_Rule c_Near
 cl_Till:Cls K c_Till
 rc_Till:RC K c_Rule c_Till
 cl_Kth:Cls K c_Kth
 rc_Kth:RC K c_Rule c_Kth
 cl_Every:Cls K c_Every
 rc_Every:RC K c_Rule c_Every
 xsp:PySem.W.specialIn K (.builtin "object.__class__") "__get__"=some (some (.builtin "getset_descriptor.__get__"))
 xtk:PySem.W.takesIn K (.builtin "object.__class__")=some true
section
variable{P:Program}{w:World}{K:PySem.W.Frag}{mg:Str→Option Value}{base:Heap}
variable{c_FeastError c_NoNumber c_TooLong c_NoMeasure c_Rule c_All c_No c_Each c_Dated c_Not c_Both c_Either c_But c_Unlike c_Later c_Upon c_Until c_Near c_Till c_Kth c_Every c_Measure c_Calendar c_Sun:Addr}
theorem sc_refuse_below_one:FnScope ["number"] ["number"] (defScope s_refuse_below_one):=⟨rfl,rfl,rfl,by decide +kernel,rfl,by decide +kernel,by decide +kernel⟩
theorem ok_refuse_below_one{f:Addr}{fd:FuncData}(F:Fun K "refuse_below_one" "refuse_below_one" s_refuse_below_one f fd):FnOk P w K mg base CX0 1 f fd ["number"] spRefuse:=by
 refine F.ok (k:=0) sc_refuse_below_one (fun vs H Q E h=>?_) (fun cdv A outer s H vs Q E hr h=>?_)
 ·obtain⟨n,rfl,_⟩:=h
  rfl
 obtain⟨n,rfl,hn,q⟩:=h
 refine⟨_,(pss_one (ps_if (pt_cmpR op_lt (pv 0) pe_int (nomark _))
  (pss_one ps_never)
  pss_nil)),?_⟩
 walk_at "rd"
 refine iteN (by omega) ?_
 walk_at "rd"
 exact q
theorem sc_refuse_too_long:FnScope ["size"] ["size"] (defScope s_refuse_too_long):=⟨rfl,rfl,rfl,by decide +kernel,rfl,by decide +kernel,by decide +kernel⟩
theorem ok_refuse_too_long{f:Addr}{fd:FuncData}(F:Fun K "refuse_too_long" "refuse_too_long" s_refuse_too_long f fd){tk_LONGEST:Tok}(m_LONGEST:mg "LONGEST"=some (.int 150000 tk_LONGEST)):FnOk P w K mg base CX0 1 f fd ["size"] spTooLong:=by
 refine F.ok (k:=0) sc_refuse_too_long (fun vs H Q E h=>?_) (fun cdv A outer s H vs Q E hr h=>?_)
 ·obtain⟨n,rfl,_⟩:=h
  rfl
 obtain⟨n,rfl,hn,q⟩:=h
 refine⟨_,(pss_one (ps_if (pt_cmpR op_gt (pv 0) (pe_glob rfl m_LONGEST (rel_int _ _)) (nomark _))
  (pss_one ps_never)
  pss_nil)),?_⟩
 walk_at "rd"
 refine iteN (by omega) ?_
 walk_at "rd"
 exact q
theorem sc_equation:FnScope ["one","other","row","below","times","rest"] ["one","other"] (defScope s_equation):=⟨rfl,rfl,rfl,by decide +kernel,rfl,by decide +kernel,by decide +kernel⟩
theorem ok_equation{f:Addr}{fd:FuncData}(F:Fun K "equation" "equation" s_equation f fd):FnOk P w K mg base CX0 1 f fd ["one","other"] spEq:=by
 refine F.ok (k:=0) sc_equation (fun vs H Q E h=>?_) (fun cdv A outer s H vs Q E hr h=>?_)
 ·obtain⟨a,b,rfl,_⟩:=h
  rfl
 obtain⟨a,b,rfl,ha,hb,q⟩:=h
 refine⟨_,(pss_cons (ps_set (i:=2) sc_equation.nd rfl (by first | exact Or.inl rfl | exact Or.inr rfl) (pe_tup (pa_cons pe_int (pa_cons pe_int (pa_cons (pv 0) pa_nil)))))
  (pss_cons (ps_set (i:=3) sc_equation.nd rfl (by first | exact Or.inl rfl | exact Or.inr rfl) (pe_tup (pa_cons pe_int (pa_cons pe_int (pa_cons (pv 1) pa_nil)))))
  (pss_cons (ps_while PassesOwn.never (pt_cmpR op_ne (pe_ix ix_tup (pv 3) pe_int (fun _ _=>rfl)) pe_int (nomark _))
   (pss_cons (ps_set (i:=4) sc_equation.nd rfl (by first | exact Or.inl rfl | exact Or.inr rfl) (pe_op op_fdivF (pe_ix ix_tup (pv 2) pe_int (fun _ _=>rfl)) (pe_ix ix_tup (pv 3) pe_int (fun _ _=>rfl))))
  (pss_cons (ps_set (i:=5) sc_equation.nd rfl (by first | exact Or.inl rfl | exact Or.inr rfl) (pe_tup (pa_cons (pe_op op_sub (pe_ix ix_tup (pv 2) pe_int (fun _ _=>rfl)) (pe_op op_mulB (pv 4) (pe_ix ix_tup (pv 3) pe_int (fun _ _=>rfl)))) (pa_cons (pe_op op_sub (pe_ix ix_tup (pv 2) pe_int (fun _ _=>rfl)) (pe_op op_mulB (pv 4) (pe_ix ix_tup (pv 3) pe_int (fun _ _=>rfl)))) (pa_cons (pe_op op_sub (pe_ix ix_tup (pv 2) pe_int (fun _ _=>rfl)) (pe_op op_mulB (pv 4) (pe_ix ix_tup (pv 3) pe_int (fun _ _=>rfl)))) pa_nil)))))
  (pss_cons (ps_set (i:=2) sc_equation.nd rfl (by first | exact Or.inl rfl | exact Or.inr rfl) (pv 3))
  (pss_one (ps_set (i:=3) sc_equation.nd rfl (by first | exact Or.inl rfl | exact Or.inr rfl) (pv 5)))))))
  (pss_cons (ps_if (pt_cmpR op_lt (pe_ix ix_tup (pv 2) pe_int (fun _ _=>rfl)) pe_int (nomark _))
   (pss_one (ps_ret (pe_tup (pa_cons (pe_un un_neg (pe_ix ix_tup (pv 2) pe_int (fun _ _=>rfl))) (pa_cons (pe_un un_neg (pe_ix ix_tup (pv 2) pe_int (fun _ _=>rfl))) (pa_cons (pe_un un_neg (pe_ix ix_tup (pv 2) pe_int (fun _ _=>rfl))) pa_nil))))))
   pss_nil)
  (pss_one (ps_ret (pv 2))))))),?_⟩
 walk_at "rd"
 refine⟨three,fun p1 hp1=>?_⟩
 walk_at "rd"
 refine⟨three,fun p2 hp2=>?_⟩
 walk_at "rd"
 have n12:p1≠p2:=fun z=>by rw[←z,upd_same] at hp2;cases hp2
 refine⟨fun m σ' H'=>∃(pr pb:Addr) (u v r u' v' r':Int) (t1 t2:Option V),σ'=[some (.int a),some (.int b),some (.ref pr),some (.ref pb),t1,t2]∧Same H H'∧
  H' pr=some (.tup [.int u,.int v,.int r])∧H' pb=some (.tup [.int u',.int v',.int r'])∧EqI a b u v r u' v' r'∧m=r'.natAbs,
  ⟨_,p1,p2,1,0,a,0,1,b,none,none,rfl,(same_new hp1 _).trans (same_new hp2 _),by rw[upd_ne n12];exact upd_same,upd_same,EqI.start a b,rfl⟩,?_⟩
 rintro m σ' H' ⟨pr,pb,u,v,r,u',v',r',t1,t2,rfl,sm,hpr,hpb,I,rfl⟩
 have B:=I.bounds
 have br:=bt_le2 (m:=510) ha hb (show r.natAbs≤a.natAbs+b.natAbs+4 by omega) (by decide)
 have br':=bt_le (m:=510) hb (show r'.natAbs≤4*b.natAbs+4 by omega) (by decide)
 have bu':=bt_le (m:=510) hb (show u'.natAbs≤4*b.natAbs+4 by omega) (by decide)
 have bv':=bt_le (m:=510) ha (show v'.natAbs≤4*a.natAbs+4 by omega) (by decide)
 walk_at "rd"
 refine rd_ixT (SqT.of hpb) at32 ?_
 walk_at "rd"
 by_cases hz:r'=0
 ·subst hz
  refine iteNS rfl ?_
  have D:=I.done
  walk_at "rd"
  refine rd_ixT (SqT.of hpr) at32 ?_
  walk_at "rd"
  refine ite2d (fun c=>?_) (fun c=>?_)
  ·walk_at "rd"
   refine rd_ixT (SqT.of hpr) at30 ?_
   walk_at "rd"
   refine rd_ixT (SqT.of hpr) at31 ?_
   walk_at "rd"
   refine rd_ixT (SqT.of hpr) at32 ?_
   walk_at "rd"
   refine⟨three,fun p hp=>?_⟩
   exact q p _ _ _ _ (sm.trans (same_new hp _)) upd_same (D.1 c)
  ·walk_at "rd"
   exact q pr _ _ _ _ sm hpr (D.2 c)
 ·refine iteNN (fun z=>hz (V.int.inj z)) ?_
  refine⟨_,fun σ' H' hh=>hh,?_⟩
  have St:=I.step hz
  have bq:=bt_le (m:=520) br (show (r.fdiv r').natAbs≤4*r.natAbs+4 by have:=quot_bound (r:=r) hz;omega) (by decide)
  walk_at "rd"
  refine rd_ixT (SqT.of hpr) at32 ?_
  walk_at "rd"
  refine rd_ixT (SqT.of hpb) at32 ?_
  refine rd_i ⟨hz,br'.mono (by decide)⟩ ?_
  walk_at "rd"
  refine rd_ixT (SqT.of hpr) at30 ?_
  walk_at "rd"
  refine rd_ixT (SqT.of hpb) at30 ?_
  refine rd_i ⟨520,510,bq,bu',by decide⟩ ?_
  walk_at "rd"
  refine rd_ixT (SqT.of hpr) at31 ?_
  walk_at "rd"
  refine rd_ixT (SqT.of hpb) at31 ?_
  refine rd_i ⟨520,510,bq,bv',by decide⟩ ?_
  walk_at "rd"
  refine rd_ixT (SqT.of hpr) at32 ?_
  walk_at "rd"
  refine rd_ixT (SqT.of hpb) at32 ?_
  refine rd_i ⟨520,510,bq,br',by decide⟩ ?_
  walk_at "rd"
  refine⟨three,fun p hp=>?_⟩
  walk_at "rd"
  exact⟨_,St.2,pb,p,u',v',r',_,_,_,_,_,rfl,sm.trans (same_new hp _),(same_new hp _) _ _ hpb,upd_same,St.1,rfl⟩
theorem sc_divisor:FnScope ["one","other"] ["one","other"] (defScope s_divisor):=⟨rfl,rfl,rfl,by decide +kernel,rfl,by decide +kernel,by decide +kernel⟩
theorem ok_divisor{f:Addr}{fd:FuncData}(F:Fun K "divisor" "divisor" s_divisor f fd)(c_equation:Cal P w K mg base 1 "equation" ["one","other"] spEq):FnOk P w K mg base CX0 2 f fd ["one","other"] spDivisor:=by
 refine F.ok (k:=1) sc_divisor (fun vs H Q E h=>?_) (fun cdv A outer s H vs Q E hr h=>?_)
 ·obtain⟨a,b,rfl,_⟩:=h
  rfl
 obtain⟨a,b,rfl,ha,hb,q⟩:=h
 refine⟨_,(pss_one (ps_ret (pe_ix ix_tup (pe_cal c_equation (hr.mono (by decide)) rfl (pa_cons (pv 0) (pa_cons (pv 1) pa_nil))) pe_int (fun _ _=>rfl)))),?_⟩
 walk_at "rd"
 refine⟨a,b,rfl,ha,hb,fun p u v g H' sm hp e=>?_⟩
 walk_at "rd"
 refine rd_ixT (SqT.of hp) at32 ?_
 rw[e.gd]
 exact q _ sm
theorem sc_common:FnScope ["one","other"] ["one","other"] (defScope s_common):=⟨rfl,rfl,rfl,by decide +kernel,rfl,by decide +kernel,by decide +kernel⟩
theorem ok_common{f:Addr}{fd:FuncData}(F:Fun K "common" "common" s_common f fd)(c_refuse_below_one:Cal P w K mg base 1 "refuse_below_one" ["number"] spRefuse)(c_divisor:Cal P w K mg base 2 "divisor" ["one","other"] spDivisor):FnOk P w K mg base CX0 3 f fd ["one","other"] spCommon:=by
 refine F.ok (k:=2) sc_common (fun vs H Q E h=>?_) (fun cdv A outer s H vs Q E hr h=>?_)
 ·obtain⟨a,b,rfl,_⟩:=h
  rfl
 obtain⟨a,b,rfl,a0,b0,ha,hb,q⟩:=h
 refine⟨_,(pss_cons (ps_expr (pe_cal c_refuse_below_one (hr.mono (by decide)) rfl (pa_cons (pv 0) pa_nil)))
  (pss_cons (ps_expr (pe_cal c_refuse_below_one (hr.mono (by decide)) rfl (pa_cons (pv 1) pa_nil)))
  (pss_one (ps_ret (pe_op op_mulB (pe_op op_fdivB (pv 0) (pe_cal c_divisor (hr.mono (by decide)) rfl (pa_cons (pv 0) (pa_cons (pv 1) pa_nil)))) (pv 1)))))),?_⟩
 walk_at "rd"
 refine⟨a,rfl,by omega,?_⟩
 walk_at "rd"
 refine⟨b,rfl,by omega,?_⟩
 walk_at "rd"
 refine⟨a,b,rfl,ha,hb,fun H' sm=>?_⟩
 have g0:=gcd_pos (b:=b) a0
 have g1:=gcd_le (b:=b) a0
 refine rd_i ⟨g0,(ha.le (x:=(Int.gcd a b:Int)) (by omega)).mono (by decide)⟩ ?_
 walk_at "rd"
 have d0:0≤a/(Int.gcd a b:Int):=Int.ediv_nonneg (by omega) (by omega)
 have d1:a/(Int.gcd a b:Int)≤a:=Int.ediv_le_self _ (by omega)
 refine rd_i ⟨500,500,ha.le (by omega),hb,by decide⟩ ?_
 exact q _ sm
theorem sc_round_by:FnScope ["size","days","pieces","day","bits","number","place"] ["size","days"] (defScope s_round_by):=⟨rfl,rfl,rfl,by decide +kernel,rfl,by decide +kernel,by decide +kernel⟩
theorem ok_round_by{f:Addr}{fd:FuncData}(F:Fun K "round_by" "round_by" s_round_by f fd)(c_refuse_below_one:Cal P w K mg base 1 "refuse_below_one" ["number"] spRefuse)(c_refuse_too_long:Cal P w K mg base 1 "refuse_too_long" ["size"] spTooLong)(z_range:mg "range"=none)(z_len:mg "len"=none){tk_PIECE:Tok}(m_PIECE:mg "PIECE"=some (.int 256 tk_PIECE)):FnOk P w K mg base CX0 2 f fd ["size","days"] (spRoundBy K):=by
 refine F.ok (k:=1) sc_round_by (fun vs H Q E h=>?_) (fun cdv A outer s H vs Q E hr h=>?_)
 ·obtain⟨a,ds,n,rfl,_⟩:=h
  rfl
 obtain⟨a,ds,n,rfl,hS,n0,n1,fin⟩:=h
 refine⟨_,(pss_cons (ps_expr (pe_cal c_refuse_below_one (hr.mono (by decide)) rfl (pa_cons (pv 0) pa_nil)))
  (pss_cons (ps_expr (pe_cal c_refuse_too_long (hr.mono (by decide)) rfl (pa_cons (pv 0) pa_nil)))
  (pss_cons (ps_set (i:=2) sc_round_by.nd rfl (by first | exact Or.inl rfl | exact Or.inr rfl) (pe_op op_rep (pe_lst (pa_cons pe_int pa_nil)) (pe_op op_add (pe_op op_fdivB (pv 0) (pe_glob rfl m_PIECE (rel_int _ _))) pe_int)))
  (pss_cons (ps_for PassesOwn.never rfl (pi_list (pv 1)) (pg_name (i:=3) sc_round_by.nd rfl (by first | exact Or.inl rfl | exact Or.inr rfl))
   (pss_cons (ps_set (i:=6) sc_round_by.nd rfl (by first | exact Or.inl rfl | exact Or.inr rfl) (pe_op op_mod (pv 3) (pv 0)))
  (pss_one (ps_asg (pe_op op_or (pe_ix ix_list (pv 2) (pe_op op_fdivB (pv 6) (pe_glob rfl m_PIECE (rel_int _ _))) (fun _ _=>rfl)) (pe_op op_shlB pe_int (pe_op op_mod (pv 6) (pe_glob rfl m_PIECE (rel_int _ _))))) (pg_sub (pv 2) (pe_op op_fdivB (pv 6) (pe_glob rfl m_PIECE (rel_int _ _))) set_list)))))
  (pss_cons (ps_set (i:=4) sc_round_by.nd rfl (by first | exact Or.inl rfl | exact Or.inr rfl) pe_int)
  (pss_cons (ps_for PassesOwn.never rfl (pi_range1 rfl z_range (pa_cons (pe_callB call_len_seq rfl z_len PySem.boot_len (pa_cons (pv 2) pa_nil)) pa_nil)) (pg_name (i:=5) sc_round_by.nd rfl (by first | exact Or.inl rfl | exact Or.inr rfl))
   (pss_one (ps_set (i:=4) sc_round_by.nd rfl (by first | exact Or.inl rfl | exact Or.inr rfl) (pe_op op_or (pv 4) (pe_op op_shlB (pe_ix ix_list (pv 2) (pv 5) (fun _ _=>rfl)) (pe_op op_mulB (pv 5) (pe_glob rfl m_PIECE (rel_int _ _))))))))
  (pss_one (ps_ret (pe_tup (pa_cons (pv 0) (pa_cons (pv 4) pa_nil))))))))))),?_⟩
 walk_at "rdx"
 refine⟨n,rfl,by omega,?_⟩
 walk_at "rdx"
 refine⟨n,rfl,n1,?_⟩
 walk_at "rdx"
 refine⟨(by show 1≤sizeLine;decide),fun l0 hl0=>?_⟩
 walk_at "rdx"
 refine rd_rep upd_same (by omega) (by omega) (by show 1*_≤sizeLine;unfold sizeLine;omega) (fun l hl=>?_)
 have s0:=same_new hl0 (.lst [.int 0])
 have s1:=s0.trans (same_new hl (.lst (List.replicate (n/256+1).toNat [V.int 0]).flatten))
 have t1:upd (upd H l0 (.lst [.int 0])) l (.lst (List.replicate (n/256+1).toNat [V.int 0]).flatten) l=some (.lst (pcsV 0 (n/256+1).toNat)):=by rw[upd_same,pcsV_zero]
 have hl':H l=none:=s0.free hl
 generalize upd (upd H l0 (.lst [.int 0])) l (.lst (List.replicate (n/256+1).toNat [V.int 0]).flatten)=H1 at s1 t1 ⊢
 generalize hk:(n/256+1).toNat=k at t1
 walk_at "rdx"
 refine⟨_,rfl,a,rfl,⟨_,s1.seq hS⟩,for_list (xs:=ds.map V.int) (fun i σ' H'=>Same H H'∧∃(b:Nat) (c c':Option V),H' l=some (.lst (pcsV b k))∧σ'=[some (.int n),some (.ref a),some (.ref l),c,none,none,c']∧RB n (ds.take i) b) ⟨s1,0,none,none,t1,rfl,?_⟩ ?_ ?_ ?_⟩
 ·simpa using RB.nil n
 ·rintro i σ' H' _ ⟨s,_⟩
  exact s.seq hS
 ·rintro i x σ' H' hx ⟨s,b,c,c',t,rfl,B⟩
  rw[List.getElem?_map] at hx
  obtain⟨d,hd,rfl⟩:=Option.map_eq_some_iff.mp hx
  have m0:=Int.emod_nonneg d (show n≠0 by omega)
  have m1:=Int.emod_lt_of_pos d (show 0<n by omega)
  walk_at "rdx"
  have B':=B.snoc (x:=d) (by omega)
  obtain⟨p,hp⟩:∃p:Nat,d%n=(p:Int):=⟨(d%n).toNat,by omega⟩
  rw[hp,Int.toNat_natCast] at B'
  rw[hp] at m1 ⊢
  have e1:(p:Int)/256=((p/256:Nat):Int):=by omega
  have e2:(p:Int)%256=((p%256:Nat):Int):=by omega
  rw[e1]
  have pk:p/256<k:=by omega
  refine rd_ixL (SqL.of t) (atI_nat (pcsV_at pk)) ?_
  walk_at "rdx"
  rw[e2]
  refine rd_i ⟨by omega,1,bt1,by omega⟩ ?_
  walk_at "rdx"
  rw[Int.toNat_natCast,pow_cast,bitOr_nat]
  try rw[e1]
  refine rd_setL t (by rw[pcsV_len];exact pk) ?_
  rw[pcsV_set pk]
  refine⟨same_app hl' s,_,_,_,upd_same,rfl,?_⟩
  rw[List.take_add_one,hd]
  exact B'
 ·rintro σ' H2 ⟨s2,b,c,c',t2,rfl,B⟩
  rw[List.length_map,List.take_length] at B
  walk_at "rdx"
  walk_at "rdf"
  walk_at "rdx"
  refine⟨l,_,rfl,.inl (SqL.of t2),?_⟩
  walk_at "rdx"
  rw[pcsV_len]
  refine⟨(k:Int),rfl,by omega,by omega,for_range (n:=((k:Int)).toNat) (fun i σ' H'=>H'=H2∧∃(c1:Option V),σ'=[some (.int n),some (.ref a),some (.ref l),c,some (.int ((b%2^(256*i):Nat):Int)),c1,c']∧i≤k) ⟨rfl,none,?_,by omega⟩ ?_ ?_⟩
  ·rw[Nat.mul_zero,Nat.pow_zero,Nat.mod_one]
   rfl
  ·rintro i σ' H' hi ⟨rfl,c1,rfl,_⟩
   have ik:i<k:=by omega
   walk_at "rdx"
   rw[Int.zero_add]
   refine rd_ixL (SqL.of t2) (atI_nat (pcsV_at ik)) ?_
   walk_at "rdx"
   refine rd_i ⟨20,10,bt_nat (by omega),(by unfold Bt;decide),by decide⟩ ?_
   walk_at "rdx"
   refine rd_i ⟨by omega,256,bt_nat (pc_lt _ _),by omega⟩ ?_
   walk_at "rdx"
   rw[show ((i:Int)*256).toNat=256*i by omega,shl_cast,bitOr_nat,pc_join]
   exact⟨rfl,_,rfl,by omega⟩
  ·rintro σ' H' ⟨rfl,c1,rfl,_⟩
   walk_at "rdx"
   have e:256*((k:Int)).toNat=256*(n/256+1).toNat:=by omega
   rw[e,rb_bits (by omega) B.lt]
   refine⟨two',fun p hp=>?_⟩
   exact fin p b _ (s2.trans (same_new hp _)) upd_same B
theorem sc_full_bits:FnScope ["size"] ["size"] (defScope s_full_bits):=⟨rfl,rfl,rfl,by decide +kernel,rfl,by decide +kernel,by decide +kernel⟩
theorem ok_full_bits{f:Addr}{fd:FuncData}(F:Fun K "full_bits" "full_bits" s_full_bits f fd):FnOk P w K mg base CX0 1 f fd ["size"] spFull:=by
 refine F.ok (k:=0) sc_full_bits (fun vs H Q E h=>?_) (fun cdv A outer s H vs Q E hr h=>?_)
 ·obtain⟨n,rfl,_⟩:=h
  rfl
 obtain⟨n,rfl,h0,h1,q⟩:=h
 refine⟨_,(pss_one (ps_ret (pe_op op_sub (pe_op op_shlB pe_int (pv 0)) pe_int))),?_⟩
 walk_at "rd"
 refine rd_i ⟨h0,1,(by unfold Bt;decide),by omega⟩ ?_
 walk_at "rd"
 rw[full_cast]
 exact q
theorem sc_on:FnScope ["turn","day"] ["turn","day"] (defScope s_on):=⟨rfl,rfl,rfl,by decide +kernel,rfl,by decide +kernel,by decide +kernel⟩
theorem ok_on{f:Addr}{fd:FuncData}(F:Fun K "on" "on" s_on f fd):FnOk P w K mg base CX0 1 f fd ["turn","day"] (spOn K):=by
 refine F.ok (k:=0) sc_on (fun vs H Q E h=>?_) (fun cdv A outer s H vs Q E hr h=>?_)
 ·obtain⟨a,n,d,b,rfl,_⟩:=h
  rfl
 obtain⟨a,n,d,b,rfl,hS,h0,q⟩:=h
 refine⟨_,(pss_one (ps_ret (pe_cmpR op_eq (pe_op op_and (pe_op op_shr (pe_ix ix_tup (pv 0) pe_int (fun _ _=>rfl)) (pe_op op_mod (pv 1) (pe_ix ix_tup (pv 0) pe_int (fun _ _=>rfl)))) pe_int) pe_int (nomark _)))),?_⟩
 walk_at "rd"
 refine rd_ixT hS at1 ?_
 walk_at "rd"
 refine rd_ixT hS at0 ?_
 refine rd_i h0 ?_
 walk_at "rd"
 refine rd_i (show (0:Int)≤d%n from Int.emod_nonneg d (by omega)) ?_
 walk_at "rd"
 rw[and_one]
 exact q
theorem sc_days_in:FnScope ["turn","days","first","piece"] ["turn"] (defScope s_days_in):=⟨rfl,rfl,rfl,by decide +kernel,rfl,by decide +kernel,by decide +kernel⟩
theorem ok_days_in{f:Addr}{fd:FuncData}(F:Fun K "days_in" "days_in" s_days_in f fd)(c_full_bits:Cal P w K mg base 1 "full_bits" ["size"] spFull)(z_range:mg "range"=none){tk_PIECE:Tok}(m_PIECE:mg "PIECE"=some (.int 256 tk_PIECE)):FnOk P w K mg base CX0 2 f fd ["turn"] (spDaysIn K):=by
 refine F.ok (k:=1) sc_days_in (fun vs H Q E h=>?_) (fun cdv A outer s H vs Q E hr h=>?_)
 ·obtain⟨a,n,b,rfl,_⟩:=h
  rfl
 obtain⟨a,n,b,rfl,hS,h0,h1,hb,q⟩:=h
 refine⟨_,(pss_cons (ps_set (i:=1) sc_days_in.nd rfl (by first | exact Or.inl rfl | exact Or.inr rfl) (pe_lst pa_nil))
  (pss_cons (ps_for PassesOwn.never rfl (pi_range3 rfl z_range (pa_cons pe_int (pa_cons (pe_ix ix_tup (pv 0) pe_int (fun _ _=>rfl)) (pa_cons (pe_glob rfl m_PIECE (rel_int _ _)) pa_nil)))) (pg_name (i:=2) sc_days_in.nd rfl (by first | exact Or.inl rfl | exact Or.inr rfl))
   (pss_cons (ps_set (i:=3) sc_days_in.nd rfl (by first | exact Or.inl rfl | exact Or.inr rfl) (pe_op op_and (pe_op op_shr (pe_ix ix_tup (pv 0) pe_int (fun _ _=>rfl)) (pv 2)) (pe_cal c_full_bits (hr.mono (by decide)) rfl (pa_cons (pe_glob rfl m_PIECE (rel_int _ _)) pa_nil))))
  (pss_one (ps_cut (ps_if (pt_cmpR op_gt (pv 3) pe_int (nomark _))
   (pss_one (ps_expr (pe_bm PySem.F.plainAttrs_list PySem.F.slot_list_extend PySem.F.type_list_extend mt_extend (pv 1) (pa_cons (pe_comp rfl (compOk_freeM ["turn","days","first","piece"] ["turn","days","first","piece"] rfl rfl (by with_unfolding_all rfl) (by decide +kernel) rfl (by decide +kernel) rfl (by decide +kernel) (by walk_at "fm") (by with_unfolding_all rfl) (by with_unfolding_all rfl)) (pi_range1 rfl z_range (pa_cons (pe_glob rfl m_PIECE (rel_int _ _)) pa_nil)) (fun _ _ _ _=>(pifs_one (pt_tru (pe_op op_and (pe_op op_shr (pv 4) (pv 0)) pe_int) (fun _=>rfl)))) (fun _ _ _ _=>(pe_op op_add (pv 3) (pv 0)))) pa_nil))))
   pss_nil)))))
  (pss_one (ps_ret (pv 1))))),?_⟩
 walk_at "rd"
 refine⟨(by show 0≤sizeLine;decide),fun l hl=>?_⟩
 have s1:=same_new hl (.lst [])
 have t1:upd H l (.lst []) l=some (.lst ((dli b (256*0)).map V.int)):=upd_same
 generalize upd H l (.lst [])=H1 at s1 t1 ⊢
 have hS1:=s1.tup hS
 walk_at "rd"
 walk_at "rdf"
 walk_at "rd"
 refine rd_ixT hS1 at0 ?_
 walk_at "rd"
 refine⟨0,n,256,rfl,by decide,by decide,small_step (by decide) (by decide) (by omega) (by omega) (by decide) (by decide),((n-1)/256+1).toNat,?_,?_⟩
 ·rw[rangeSize_up (by decide),if_pos h0,show n-0-1=n-1 by omega]
  omega
 refine for_rangeS (fun i σ' H'=>Same H H'∧H' l=some (.lst ((dli b (256*i)).map V.int))∧∃c c':Option V,σ'=[some (.ref a),some (.ref l),c,c']∧i≤700) ⟨s1,t1,none,none,rfl,by decide⟩ ?_ ?_
 ·rintro i σ' H2 hi ⟨s2,t2,c,c',rfl,_⟩
  have hS2:=s2.tup hS
  have i1:i<700:=by omega
  rw[show (0:Int)+(i:Int)*256=((256*i:Nat):Int) by omega]
  generalize hm:256*i=m at*
  walk_at "rd"
  refine rd_ixT hS2 at1 ?_
  walk_at "rd"
  refine rd_i (show (0:Int)≤(m:Int) by omega) ?_
  walk_at "rd"
  refine⟨256,rfl,by decide,by decide,?_⟩
  walk_at "rd"
  rw[Int.toNat_natCast,shr_cast,bitAnd_nat,Nat.and_two_pow_sub_one_eq_mod,Nat.shiftRight_eq_div_pow,show(256:Int).toNat=256 from rfl]
  refine rd_cut (fun σ' H'=>Same H H'∧H' l=some (.lst ((dli b (256*(i+1))).map V.int))∧∃c c':Option V,σ'=[some (.ref a),some (.ref l),c,c']∧i+1≤700) ?_ (fun σ' H' h=>h)
  walk_at "rd"
  refine ite2d (fun _=>?_) (fun p0=>?_)
  rotate_left
  ·walk_at "rd"
   refine⟨s2,?_,_,_,rfl,by omega⟩
   rw[t2,show 256*(i+1)=m+256 by omega,←dli_step]
   have:((((List.range 256).map fun i=>V.int (0+(i:Nat)))).filter fun v=>match v with | .int d=>b.testBit (m+d.toNat) | _=>false)=[]:=by
    rw[List.filter_eq_nil_iff]
    intro v hv
    obtain⟨j,hj,rfl⟩:=List.mem_map.mp hv
    have hj':j<256:=List.mem_range.mp hj
    show ¬b.testBit (m+(0+(j:Int)).toNat)=true
    rw[show (0+(j:Int)).toNat=j by omega]
    have e:(b/2^m%2^256).testBit j=b.testBit (m+j):=by
     rw[Nat.testBit_mod_two_pow,←Nat.shiftRight_eq_div_pow,Nat.testBit_shiftRight,decide_eq_true hj',Bool.true_and]
    rw[←e,show b/2^m%2^256=0 by omega,Nat.zero_testBit]
    exact Bool.false_ne_true
   rw[this,List.map_nil,List.append_nil]
  walk_at "rd"
  refine rd_ext rfl t2 ?_
  walk_at "rd"
  refine rd_comp (rd_rng1 ?_)
  walk_at "rd"
  refine⟨256,rfl,by decide,by decide,?_⟩
  refine comp_go walk_r ?_ (fun _ _ _=>trivial) (fun v=>match v with | .int d=>b.testBit (m+d.toNat) | _=>false) (fun v=>match v with | .int d=>V.int ((m:Int)+d) | _=>.non) (fun x hx D ys Q' hD h=>?_) (fun x hx _ D ys Q' hD h=>?_) (fun D hD=>?_)
  ·rw[List.length_map,List.length_range]
   exact small1000 (by decide)
  ·obtain⟨j,hj,rfl⟩:=List.mem_map.mp hx
   have hj':j<256:=List.mem_range.mp hj
   walk_at "rd"
   refine rd_i (show (0:Int)≤0+(j:Int) by omega) ?_
   walk_at "rd"
   rw[show (0+(j:Int)).toNat=j by omega,piece_bit,decide_eq_true hj',Bool.true_and]
   replace h:Q' (b.testBit (m+(0+(j:Int)).toNat)) _:=h
   rw[show (0+(j:Int)).toNat=j by omega] at h
   exact h
  ·obtain⟨j,hj,rfl⟩:=List.mem_map.mp hx
   walk_at "rd"
   exact h
  have s3:=same_new hD (.lst ((((List.range (Int.toNat 256)).map fun i=>V.int (0+(i:Nat))).filter fun v=>match v with | .int d=>b.testBit (m+d.toNat) | _=>false).map fun v=>match v with | .int d=>V.int ((m:Int)+d) | _=>.non))
  walk_at "rd"
  refine⟨l,D,_,_,rfl,rfl,s3 _ _ t2,upd_same,?_,?_⟩
  ·rw[List.length_map,List.length_map]
   refine Nat.le_trans (Nat.add_le_add (dli_len _ _) (List.length_filter_le _ _)) ?_
   rw[List.length_map,List.length_range]
   exact Nat.le_trans (show m+Int.toNat 256≤200000 by have:Int.toNat 256=256:=rfl;omega) (by decide)
  walk_at "rd"
  refine⟨same_app hl (s2.trans s3),?_,_,_,rfl,by omega⟩
  rw[upd_same,show Int.toNat 256=256 from rfl,dli_step,show 256*(i+1)=m+256 by omega]
 ·rintro σ' H2 ⟨s2,t2,c,c',rfl,_⟩
  walk_at "rd"
  refine q l _ hl s2 ?_
  rw[t2]
  unfold dli
  obtain⟨k,hk⟩:∃k,256*((n-1)/256+1).toNat=n.toNat+k:=⟨256*((n-1)/256+1).toNat-n.toNat,by omega⟩
  rw[hk,dl_over hb]
theorem sc_bits_by:FnScope ["turn","size","bits","width"] ["turn","size"] (defScope s_bits_by):=⟨rfl,rfl,rfl,by decide +kernel,rfl,by decide +kernel,by decide +kernel⟩
theorem ok_bits_by{f:Addr}{fd:FuncData}(F:Fun K "bits_by" "bits_by" s_bits_by f fd)(c_full_bits:Cal P w K mg base 1 "full_bits" ["size"] spFull):FnOk P w K mg base CX0 2 f fd ["turn","size"] (spBitsByL K):=by
 refine F.ok (k:=1) sc_bits_by (fun vs H Q E h=>?_) (fun cdv A outer s H vs Q E hr h=>?_)
 ·obtain⟨a,n,z,b,rfl,_⟩:=h
  rfl
 obtain⟨a,n,z,b,rfl,hS,h0,h1,hb,z0,z1,q⟩:=h
 refine⟨_,(pss_cons (ps_set (i:=2) sc_bits_by.nd rfl (by first | exact Or.inl rfl | exact Or.inr rfl) (pe_ix ix_tup (pv 0) pe_int (fun _ _=>rfl)))
  (pss_cons (ps_set (i:=3) sc_bits_by.nd rfl (by first | exact Or.inl rfl | exact Or.inr rfl) (pe_ix ix_tup (pv 0) pe_int (fun _ _=>rfl)))
  (pss_cons (ps_while PassesOwn.never (pt_cmpR op_lt (pv 3) (pv 1) (nomark _))
   (pss_cons (ps_set (i:=2) sc_bits_by.nd rfl (by first | exact Or.inl rfl | exact Or.inr rfl) (pe_op op_or (pv 2) (pe_op op_shlB (pv 2) (pv 3))))
  (pss_one (ps_set (i:=3) sc_bits_by.nd rfl (by first | exact Or.inl rfl | exact Or.inr rfl) (pe_op op_mulB (pv 3) pe_int)))))
  (pss_one (ps_ret (pe_op op_and (pv 2) (pe_cal c_full_bits (hr.mono (by decide)) rfl (pa_cons (pv 1) pa_nil)))))))),?_⟩
 walk_at "rd"
 refine rd_ixT hS at1 ?_
 walk_at "rd"
 refine rd_ixT hS at0 ?_
 walk_at "rd"
 refine⟨fun m σ' H'=>H'=H∧∃wd c:Nat,σ'=[some (.ref a),some (.int z),some (.int (c:Int)),some (.int (wd:Int))]∧n.toNat∣wd∧0<wd∧wd≤300000∧Strt n.toNat b wd c∧m=z.toNat-wd,
  ⟨_,rfl,n.toNat,b,?_,Nat.dvd_refl _,by omega,by omega,Strt.start hb,rfl⟩,?_⟩
 ·have e:((n.toNat:Nat):Int)=n:=by omega
  rw[e]
  rfl
 rintro m σ' H' ⟨rfl,wd,c,rfl,hd,w0,w1,S,rfl⟩
 walk_at "rd"
 refine ite2d (fun cc=>?_) (fun cc=>?_)
 ·refine⟨_,fun σ' H' hh=>hh,?_⟩
  walk_at "rd"
  refine rd_i ⟨by omega,wd,bt_nat S.lt,by omega⟩ ?_
  walk_at "rd"
  refine rd_i ⟨20,2,bt_nat (by omega),(by unfold Bt;decide),by decide⟩ ?_
  walk_at "rd"
  rw[Int.toNat_natCast,shl_cast,bitOr_nat]
  refine⟨z.toNat-wd*2,by omega,rfl,wd*2,c ||| (c <<< wd),?_,Nat.dvd_trans hd (Nat.dvd_mul_right _ _),by omega,by omega,S.dbl hd,rfl⟩
  rfl
 ·walk_at "rd"
  refine⟨z,rfl,by omega,by omega,?_⟩
  walk_at "rd"
  rw[bitAnd_nat]
  exact q _ (S.cut (by omega))
theorem sc_stretched:FnScope ["turn","size"] ["turn","size"] (defScope s_stretched):=⟨rfl,rfl,rfl,by decide +kernel,rfl,by decide +kernel,by decide +kernel⟩
theorem ok_stretched{f:Addr}{fd:FuncData}(F:Fun K "stretched" "stretched" s_stretched f fd)(c_refuse_below_one:Cal P w K mg base 1 "refuse_below_one" ["number"] spRefuse)(c_refuse_too_long:Cal P w K mg base 1 "refuse_too_long" ["size"] spTooLong)(c_bits_by:Cal P w K mg base 2 "bits_by" ["turn","size"] (spBitsByL K)):FnOk P w K mg base CX0 3 f fd ["turn","size"] (spStretched K):=by
 refine F.ok (k:=2) sc_stretched (fun vs H Q E h=>?_) (fun cdv A outer s H vs Q E hr h=>?_)
 ·obtain⟨a,n,z,b,rfl,_⟩:=h
  rfl
 obtain⟨a,n,z,b,rfl,hS,h0,h1,hb,z0,z1,hd,q⟩:=h
 refine⟨_,(pss_cons (ps_expr (pe_cal c_refuse_below_one (hr.mono (by decide)) rfl (pa_cons (pv 1) pa_nil)))
  (pss_cons (ps_if (pt_cmpR op_ne (pe_op op_mod (pv 1) (pe_ix ix_tup (pv 0) pe_int (fun _ _=>rfl))) pe_int (nomark _))
   (pss_one ps_never)
   pss_nil)
  (pss_cons (ps_expr (pe_cal c_refuse_too_long (hr.mono (by decide)) rfl (pa_cons (pv 1) pa_nil)))
  (pss_one (ps_ret (pe_tup (pa_cons (pv 1) (pa_cons (pe_cal c_bits_by (hr.mono (by decide)) rfl (pa_cons (pv 0) (pa_cons (pv 1) pa_nil))) pa_nil)))))))),?_⟩
 walk_at "rd"
 refine⟨z,rfl,by omega,?_⟩
 walk_at "rd"
 refine rd_ixT hS at0 ?_
 refine rd_i h0 ?_
 walk_at "rd"
 rw[Int.emod_eq_zero_of_dvd hd]
 refine iteNS rfl ?_
 walk_at "rd"
 refine⟨z,rfl,z1,?_⟩
 walk_at "rd"
 refine⟨a,n,z,b,rfl,hS,h0,(by omega),hb,z0,z1,fun c S=>?_⟩
 walk_at "rd"
 exact⟨(by show 2≤sizeLine;decide),fun p hp=>q p c hp S⟩
theorem sc_primes_of:FnScope ["number","primes","left","factor"] ["number"] (defScope s_primes_of):=⟨rfl,rfl,rfl,by decide +kernel,rfl,by decide +kernel,by decide +kernel⟩
theorem ok_primes_of{f:Addr}{fd:FuncData}(F:Fun K "primes_of" "primes_of" s_primes_of f fd):FnOk P w K mg base CX0 1 f fd ["number"] spPrimes:=by
 refine F.ok (k:=0) sc_primes_of (fun vs H Q E h=>?_) (fun cdv A outer s H vs Q E hr h=>?_)
 ·obtain⟨n,rfl,_⟩:=h
  rfl
 obtain⟨n,rfl,n0,n1,q⟩:=h
 refine⟨_,(pss_cons (ps_set (i:=1) sc_primes_of.nd rfl (by first | exact Or.inl rfl | exact Or.inr rfl) (pe_lst pa_nil))
  (pss_cons (ps_set (i:=2) sc_primes_of.nd rfl (by first | exact Or.inl rfl | exact Or.inr rfl) (pv 0))
  (pss_cons (ps_set (i:=3) sc_primes_of.nd rfl (by first | exact Or.inl rfl | exact Or.inr rfl) pe_int)
  (pss_cons (ps_while PassesOwn.never (pt_cmpR op_le (pe_op op_mulB (pv 3) (pv 3)) (pv 2) (nomark _))
   (pss_cons (ps_cut (ps_if (pt_cmpR op_eq (pe_op op_mod (pv 2) (pv 3)) pe_int (nomark _))
   (pss_one (ps_expr (pe_bm PySem.F.plainAttrs_list PySem.F.slot_list_append PySem.F.type_list_append mt_append (pv 1) (pa_cons (pv 3) pa_nil))))
   pss_nil))
  (pss_cons (ps_while PassesOwn.never (pt_cmpR op_eq (pe_op op_mod (pv 2) (pv 3)) pe_int (nomark _))
   (pss_one (ps_set (i:=2) sc_primes_of.nd rfl (by first | exact Or.inl rfl | exact Or.inr rfl) (pe_op op_fdivB (pv 2) (pv 3)))))
  (pss_one (ps_set (i:=3) sc_primes_of.nd rfl (by first | exact Or.inl rfl | exact Or.inr rfl) (pe_op op_add (pv 3) pe_int))))))
  (pss_cons (ps_cut (ps_if (pt_cmpR op_gt (pv 2) pe_int (nomark _))
   (pss_one (ps_expr (pe_bm PySem.F.plainAttrs_list PySem.F.slot_list_append PySem.F.type_list_append mt_append (pv 1) (pa_cons (pv 2) pa_nil))))
   pss_nil))
  (pss_one (ps_ret (pv 1)))))))),?_⟩
 walk_at "rd"
 refine⟨(by show 0≤sizeLine;decide),fun lp hlp=>?_⟩
 have s1:=same_new hlp (.lst [])
 have t1:upd H lp (.lst []) lp=some (.lst []):=upd_same
 generalize upd H lp (.lst [])=H1 at s1 t1 ⊢
 walk_at "rd"
 refine⟨fun m σ' H'=>∃(ps:List Nat) (l f:Nat),Same H H'∧H' lp=some (.lst (ps.map fun(p:Nat)=>V.int (p:Int)))∧PI0 n ps l f∧ps.length≤f∧f≤n+2∧σ'=[some (.int (n:Int)),some (.ref lp),some (.int (l:Int)),some (.int (f:Int))]∧m=n+3-f,
  ⟨_,[],n,2,s1,t1,PI0.start n0,by simp,by omega,rfl,rfl⟩,?_⟩
 rintro m σ' H' ⟨ps,l,f,s2,t2,I,lf,fn,rfl,rfl⟩
 have f2:=I.f2
 have l0:=I.l0
 have ln:=I.ln
 have efl:((f:Int)*(f:Int)≤(l:Int))↔f*f≤l:=by rw[←Int.natCast_mul];omega
 walk_at "rd"
 refine rd_i ⟨64,64,by unfold Bt;omega,by unfold Bt;omega,by decide⟩ ?_
 walk_at "rd"
 refine ite2d (fun cc=>?_) (fun cc=>?_)
 ·have ffl:=efl.mp cc
  have fl:f≤l:=by
   have:=Nat.le_mul_of_pos_left f (show 0<f by omega)
   omega
  refine⟨_,fun σ' H' hh=>hh,?_⟩
  walk_at "rd"
  refine rd_cut (fun σ' H'=>∃ps':List Nat,Same H H'∧H' lp=some (.lst (ps'.map fun(p:Nat)=>V.int (p:Int)))∧PI0 n ps' l f∧ps'.length≤f+1∧(f∣l→f∈ps')∧σ'=[some (.int (n:Int)),some (.ref lp),some (.int (l:Int)),some (.int (f:Int))]) ?_ ?_
  ·walk_at "rd"
   refine ite2d (fun c2=>?_) (fun c2=>?_)
   ·have hd:=vdvd.mp c2
    walk_at "rd"
    refine rd_append rfl t2 ?_
    walk_at "rd"
    refine rd_app t2 (by rw[List.length_map,sizeLine_eq];omega) ?_
    refine⟨ps++[f],same_app hlp s2,?_,I.app hd,by simp;omega,fun _=>by simp,rfl⟩
    rw[upd_same,List.map_append]
    rfl
   ·walk_at "rd"
    exact⟨ps,s2,t2,I,by omega,fun hd=>absurd (vdvd.mpr hd) c2,rfl⟩
  rintro σ' H2 ⟨ps',s3,t3,I',lf',hin,rfl⟩
  walk_at "rd"
  refine⟨fun m σ' H'=>H'=H2∧∃l':Nat,PI0 n ps' l' f∧(f∣l'→f∈ps')∧σ'=[some (.int (n:Int)),some (.ref lp),some (.int (l':Int)),some (.int (f:Int))]∧l'=m,⟨_,rfl,l,I',hin,rfl,rfl⟩,?_⟩
  rintro m σ' H' ⟨rfl,l',J,hin',rfl,rfl⟩
  walk_at "rd"
  refine ite2d (fun c2=>?_) (fun c2=>?_)
  ·have hd:=vdvd.mp c2
   obtain⟨J',lt⟩:=J.div hd (hin' hd)
   refine⟨_,fun σ' H' hh=>hh,?_⟩
   walk_at "rd"
   refine rd_i (cdiv_small (by omega) (by omega)) ?_
   walk_at "rd"
   rw[←Int.natCast_ediv]
   exact⟨_,lt,rfl,_,J',fun z=>hin' hd,rfl,rfl⟩
  ·have hd:¬f∣l':=fun z=>c2 (vdvd.mpr z)
   walk_at "rd"
   refine⟨n+3-(f+1),by omega,ps',l',f+1,s3,t3,J.next hd,lf',by omega,rfl,rfl⟩
 ·have ffl:¬f*f≤l:=fun z=>cc (efl.mpr z)
  walk_at "rd"
  refine rd_cut (fun σ' H'=>∃ps':List Nat,Same H H'∧H' lp=some (.lst (ps'.map fun(p:Nat)=>V.int (p:Int)))∧PrsN n ps'∧ps'.length≤200000∧σ'=[some (.int (n:Int)),some (.ref lp),some (.int (l:Int)),some (.int (f:Int))]) ?_ ?_
  ·walk_at "rd"
   refine ite2d (fun c2=>?_) (fun c2=>?_)
   ·walk_at "rd"
    refine rd_append rfl t2 ?_
    walk_at "rd"
    refine rd_app t2 (by rw[List.length_map,sizeLine_eq];omega) ?_
    refine⟨ps++[l],same_app hlp s2,?_,I.fin ffl (by omega),by simp;omega,rfl⟩
    rw[upd_same,List.map_append]
    rfl
   ·walk_at "rd"
    exact⟨ps,s2,t2,I.one (by omega),by omega,rfl⟩
  rintro σ' H2 ⟨ps',s3,t3,I',lf',rfl⟩
  walk_at "rd"
  exact q lp H2 ps' hlp s3 t3 I' lf'
theorem sc_comes_again:FnScope ["turn","size"] ["turn","size"] (defScope s_comes_again):=⟨rfl,rfl,rfl,by decide +kernel,rfl,by decide +kernel,by decide +kernel⟩
theorem ok_comes_again{f:Addr}{fd:FuncData}(F:Fun K "comes_again" "comes_again" s_comes_again f fd)(c_full_bits:Cal P w K mg base 1 "full_bits" ["size"] spFull):FnOk P w K mg base CX0 2 f fd ["turn","size"] (spAgain K):=by
 refine F.ok (k:=1) sc_comes_again (fun vs H Q E h=>?_) (fun cdv A outer s H vs Q E hr h=>?_)
 ·obtain⟨a,z,c,s,rfl,_⟩:=h
  rfl
 obtain⟨a,z,c,s,rfl,hS,s0,sz,z1,q⟩:=h
 refine⟨_,(pss_one (ps_ret (pe_cmpR op_eq (pe_op op_shr (pe_ix ix_tup (pv 0) pe_int (fun _ _=>rfl)) (pv 1)) (pe_op op_and (pe_ix ix_tup (pv 0) pe_int (fun _ _=>rfl)) (pe_cal c_full_bits (hr.mono (by decide)) rfl (pa_cons (pe_op op_sub (pe_ix ix_tup (pv 0) pe_int (fun _ _=>rfl)) (pv 1)) pa_nil))) (nomark _)))),?_⟩
 walk_at "rd"
 refine rd_ixT hS at1 ?_
 walk_at "rd"
 refine rd_i (show (0:Int)≤(s:Int) by omega) ?_
 walk_at "rd"
 refine rd_ixT hS at1 ?_
 walk_at "rd"
 refine rd_ixT hS at0 ?_
 walk_at "rd"
 refine⟨_,rfl,by omega,by omega,?_⟩
 walk_at "rd"
 rw[Int.toNat_natCast,shr_cast,bitAnd_nat,dec_nat,show((z:Int)-(s:Int)).toNat=z-s by omega]
 exact q
theorem sc_least:FnScope ["turn","size","bits","prime"] ["turn"] (defScope s_least):=⟨rfl,rfl,rfl,by decide +kernel,rfl,by decide +kernel,by decide +kernel⟩
theorem ok_least{f:Addr}{fd:FuncData}(F:Fun K "least" "least" s_least f fd)(c_primes_of:Cal P w K mg base 1 "primes_of" ["number"] spPrimes)(c_comes_again:Cal P w K mg base 2 "comes_again" ["turn","size"] (spAgain K))(c_full_bits:Cal P w K mg base 1 "full_bits" ["size"] spFull):FnOk P w K mg base CX0 3 f fd ["turn"] (spLeast K):=by
 refine F.ok (k:=2) sc_least (fun vs H Q E h=>?_) (fun cdv A outer s H vs Q E hr h=>?_)
 ·obtain⟨a,n,b,rfl,_⟩:=h
  rfl
 obtain⟨a,n,b,rfl,hS,n0,n1,hb,q⟩:=h
 refine⟨_,(pss_cons (ps_set (i:=1) sc_least.nd rfl (by first | exact Or.inl rfl | exact Or.inr rfl) (pe_ix ix_tup (pv 0) pe_int (fun _ _=>rfl)))
  (pss_cons (ps_set (i:=2) sc_least.nd rfl (by first | exact Or.inl rfl | exact Or.inr rfl) (pe_ix ix_tup (pv 0) pe_int (fun _ _=>rfl)))
  (pss_cons (ps_for PassesOwn.never rfl (pi_list (pe_cal c_primes_of (hr.mono (by decide)) rfl (pa_cons (pe_ix ix_tup (pv 0) pe_int (fun _ _=>rfl)) pa_nil))) (pg_name (i:=3) sc_least.nd rfl (by first | exact Or.inl rfl | exact Or.inr rfl))
   (pss_one (ps_while PassesOwn.never (PW.pt (pw_and (pt_cmpR op_eq (pe_op op_mod (pv 1) (pv 3)) pe_int (nomark _)) (pw_and1 (pt_val (pe_cal c_comes_again (hr.mono (by decide)) rfl (pa_cons (pe_tup (pa_cons (pv 1) (pa_cons (pv 2) pa_nil))) (pa_cons (pe_op op_fdivB (pv 1) (pv 3)) pa_nil)))))))
   (pss_cons (ps_set (i:=1) sc_least.nd rfl (by first | exact Or.inl rfl | exact Or.inr rfl) (pe_op op_fdivB (pv 1) (pv 3)))
  (pss_one (ps_set (i:=2) sc_least.nd rfl (by first | exact Or.inl rfl | exact Or.inr rfl) (pe_op op_and (pv 2) (pe_cal c_full_bits (hr.mono (by decide)) rfl (pa_cons (pv 1) pa_nil)))))))))
  (pss_one (ps_ret (pe_tup (pa_cons (pv 1) (pa_cons (pv 2) pa_nil)))))))),?_⟩
 walk_at "rd"
 refine rd_ixT hS at0 ?_
 walk_at "rd"
 refine rd_ixT hS at1 ?_
 walk_at "rd"
 walk_at "rdf"
 walk_at "rd"
 refine rd_ixT hS at0 ?_
 walk_at "rd"
 refine⟨n,rfl,n0,n1,fun lp H1 ps hlp s1 t1 PR hl=>?_⟩
 refine⟨lp,rfl,⟨_,SqL.of t1⟩,for_list (xs:=ps.map fun(p:Nat)=>V.int (p:Int)) (fun i σ' H'=>Same H1 H'∧∃(z c:Nat) (v:Option V),0<z∧z∣n∧c<2^z∧Strt z c n b∧(∀p∈ps.take i,Tight z c p)∧σ'=[some (.ref a),some (.int (z:Int)),some (.int (c:Int)),v])
  ⟨Same.refl _,n,b,_,n0,Nat.dvd_refl n,hb,Strt.start hb,(by simp),rfl⟩ ?_ ?_ ?_⟩
 ·rintro i σ' H' _ ⟨s2,_⟩
  exact SqL.of (s2 _ _ t1)
 ·rintro i x σ' H' hx ⟨s2,z,c,v,z0,zn,hc,st,ti,rfl⟩
  rw[List.getElem?_map] at hx
  obtain⟨p,hp,rfl⟩:=Option.map_eq_some_iff.mp hx
  obtain⟨p2,pn⟩:=PR.mem p (List.mem_of_getElem? hp)
  walk_at "rd"
  refine⟨fun m σ' H'=>Same H1 H'∧∃z c:Nat,0<z∧z∣n∧c<2^z∧Strt z c n b∧(∀p∈ps.take i,Tight z c p)∧σ'=[some (.ref a),some (.int (z:Int)),some (.int (c:Int)),some (.int (p:Int))]∧z=m,⟨_,s2,z,c,z0,zn,hc,st,ti,rfl,rfl⟩,?_⟩
  rintro m σ' H' ⟨s3,z,c,z0,zn,hc,st,ti,rfl,rfl⟩
  have zl:=Nat.le_of_dvd n0 zn
  have leave:∀H4,Same H1 H4→Tight z c p→Same H1 H4∧∃(z' c':Nat) (v:Option V),0<z'∧z'∣n∧c'<2^z'∧Strt z' c' n b∧(∀p∈ps.take (i+1),Tight z' c' p)∧[some (V.ref a),some (.int (z:Int)),some (.int (c:Int)),some (.int (p:Int))]=[some (.ref a),some (.int (z':Int)),some (.int (c':Int)),v]:=
   fun H4 s4 t=>⟨s4,z,c,_,z0,zn,hc,st,fun r hr=>(take_snoc hp hr).elim (ti r) (fun e=>e ▸ t),rfl⟩
  walk_at "rd"
  refine ite2d (fun c2=>?_) (fun c2=>?_)
  ·have hd:=vdvd.mp c2
   have zp:=Nat.div_pos (Nat.le_of_dvd z0 hd) (show 0<p by omega)
   have zpl:z/p<z:=Nat.div_lt_self z0 (by omega)
   have zpd:z/p∣z:=Nat.div_dvd_of_dvd hd
   walk_at "rd"
   refine⟨two',fun pt hpt=>?_⟩
   have s4:=s3.trans (same_new hpt (.tup [V.int (z:Int),V.int (c:Int)]))
   have t4:upd H' pt (.tup [V.int (z:Int),V.int (c:Int)]) pt=some (.tup [V.int (z:Int),V.int (c:Int)]):=upd_same
   generalize upd H' pt (.tup [V.int (z:Int),V.int (c:Int)])=H4 at s4 t4 ⊢
   walk_at "rd"
   refine rd_i (cdiv_small (by omega) (by omega)) ?_
   walk_at "rd"
   rw[←Int.natCast_ediv]
   refine⟨pt,z,c,z/p,rfl,SqT.of t4,zp,by omega,by omega,?_⟩
   walk_at "rd"
   have ai:=again_iff hc zp zpd z0
   refine ite2d (fun c3=>?_) (fun c3=>?_)
   ·have pr:=ai.mp c3
    have st':=pr.strt hc z0
    refine⟨_,fun σ' H' hh=>hh,?_⟩
    walk_at "rd"
    refine rd_i (cdiv_small (by omega) (by omega)) ?_
    walk_at "rd"
    rw[←Int.natCast_ediv]
    refine⟨_,rfl,by omega,by omega,?_⟩
    walk_at "rd"
    rw[bitAnd_nat,Int.toNat_natCast]
    exact⟨z/p,zpl,s4,z/p,_,zp,Nat.dvd_trans zpd zn,and_full_lt _ _,st'.comp st zpd z0,fun r hr=>(ti r hr).keep st' zpd zp z0 (by have:=(PR.mem r (List.mem_of_mem_take hr)).1;omega),rfl,rfl⟩
   ·exact leave H4 s4 fun z=>c3 (ai.mpr z.2)
  ·walk_at "rd"
   refine iteF ?_
   exact leave H' s3 fun z=>c2 (vdvd.mpr z.1)
 ·rintro σ' H' ⟨s2,z,c,v,z0,zn,hc,st,ti,rfl⟩
  rw[List.length_map,List.take_length] at ti
  walk_at "rd"
  refine⟨two',fun p hp=>?_⟩
  exact q p _ z c ((s1.trans s2).trans (same_new hp _)) upd_same (Lst.of PR n0 z0 zn hc st ti)
theorem sc_common_size:FnScope ["one","other","size"] ["one","other"] (defScope s_common_size):=⟨rfl,rfl,rfl,by decide +kernel,rfl,by decide +kernel,by decide +kernel⟩
theorem ok_common_size{f:Addr}{fd:FuncData}(F:Fun K "common_size" "common_size" s_common_size f fd)(c_common:Cal P w K mg base 3 "common" ["one","other"] spCommon)(c_refuse_too_long:Cal P w K mg base 1 "refuse_too_long" ["size"] spTooLong):FnOk P w K mg base CX0 4 f fd ["one","other"] (spCS K):=by
 refine F.ok (k:=3) sc_common_size (fun vs H Q E h=>?_) (fun cdv A outer s H vs Q E hr h=>?_)
 ·obtain⟨a1,a2,n1,n2,b1,b2,rfl,_⟩:=h
  rfl
 obtain⟨a1,a2,n1,n2,b1,b2,rfl,S1,S2,p1,p2,l1,l2,lz,q⟩:=h
 refine⟨_,(pss_cons (ps_set (i:=2) sc_common_size.nd rfl (by first | exact Or.inl rfl | exact Or.inr rfl) (pe_cal c_common (hr.mono (by decide)) rfl (pa_cons (pe_ix ix_tup (pv 0) pe_int (fun _ _=>rfl)) (pa_cons (pe_ix ix_tup (pv 1) pe_int (fun _ _=>rfl)) pa_nil))))
  (pss_cons (ps_expr (pe_cal c_refuse_too_long (hr.mono (by decide)) rfl (pa_cons (pv 2) pa_nil)))
  (pss_one (ps_ret (pv 2))))),?_⟩
 walk_at "rd"
 refine rd_ixT S1 at0 ?_
 walk_at "rd"
 refine rd_ixT S2 at0 ?_
 walk_at "rd"
 refine⟨n1,n2,rfl,p1,p2,bt_small (by omega) (by omega) (by decide),bt_small (by omega) (by omega) (by decide),fun H1 s1=>?_⟩
 walk_at "rd"
 refine⟨_,rfl,lz,?_⟩
 walk_at "rd"
 exact q _ s1
theorem sc_both:FnScope ["one","other","size"] ["one","other"] (defScope s_both):=⟨rfl,rfl,rfl,by decide +kernel,rfl,by decide +kernel,by decide +kernel⟩
theorem ok_both{f:Addr}{fd:FuncData}(F:Fun K "both" "both" s_both f fd)(c_common_size:Cal P w K mg base 4 "common_size" ["one","other"] (spCS K))(c_bits_by:Cal P w K mg base 2 "bits_by" ["turn","size"] (spBitsByL K)):FnOk P w K mg base CX0 5 f fd ["one","other"] (spJoin K):=by
 refine F.ok (k:=4) sc_both (fun vs H Q E h=>?_) (fun cdv A outer s H vs Q E hr h=>?_)
 ·obtain⟨a1,a2,n1,n2,b1,b2,rfl,_⟩:=h
  rfl
 obtain⟨a1,a2,n1,n2,b1,b2,rfl,W,lz,q⟩:=h
 have fl:=lcmI_facts W.p1 W.p2
 have l1:=W.l1
 have l2:=W.l2
 refine⟨_,(pss_cons (ps_set (i:=2) sc_both.nd rfl (by first | exact Or.inl rfl | exact Or.inr rfl) (pe_cal c_common_size (hr.mono (by decide)) rfl (pa_cons (pv 0) (pa_cons (pv 1) pa_nil))))
  (pss_one (ps_ret (pe_tup (pa_cons (pv 2) (pa_cons (pe_op op_and (pe_cal c_bits_by (hr.mono (by decide)) rfl (pa_cons (pv 0) (pa_cons (pv 2) pa_nil))) (pe_cal c_bits_by (hr.mono (by decide)) rfl (pa_cons (pv 1) (pa_cons (pv 2) pa_nil)))) pa_nil)))))),?_⟩
 walk_at "rdx"
 refine⟨a1,a2,n1,n2,b1,b2,rfl,W.s1,W.s2,W.p1,W.p2,W.l1,W.l2,lz,fun H1 s1=>?_⟩
 walk_at "rdx"
 refine⟨a1,n1,_,b1,rfl,s1.tup W.s1,W.p1,(by omega),W.k1,fl.1,lz,fun c1 T1=>?_⟩
 walk_at "rdx"
 refine⟨a2,n2,_,b2,rfl,s1.tup W.s2,W.p2,(by omega),W.k2,fl.1,lz,fun c2 T2=>?_⟩
 walk_at "rdx"
 rw[bitAnd_nat]
 refine⟨two',fun p hp=>?_⟩
 exact q p _ _ (s1.trans (same_new hp _)) upd_same (Nat.and_lt_two_pow _ T2.lt)
theorem sc_either:FnScope ["one","other","size"] ["one","other"] (defScope s_either):=⟨rfl,rfl,rfl,by decide +kernel,rfl,by decide +kernel,by decide +kernel⟩
theorem ok_either{f:Addr}{fd:FuncData}(F:Fun K "either" "either" s_either f fd)(c_common_size:Cal P w K mg base 4 "common_size" ["one","other"] (spCS K))(c_bits_by:Cal P w K mg base 2 "bits_by" ["turn","size"] (spBitsByL K)):FnOk P w K mg base CX0 5 f fd ["one","other"] (spJoin K):=by
 refine F.ok (k:=4) sc_either (fun vs H Q E h=>?_) (fun cdv A outer s H vs Q E hr h=>?_)
 ·obtain⟨a1,a2,n1,n2,b1,b2,rfl,_⟩:=h
  rfl
 obtain⟨a1,a2,n1,n2,b1,b2,rfl,W,lz,q⟩:=h
 have fl:=lcmI_facts W.p1 W.p2
 have l1:=W.l1
 have l2:=W.l2
 refine⟨_,(pss_cons (ps_set (i:=2) sc_either.nd rfl (by first | exact Or.inl rfl | exact Or.inr rfl) (pe_cal c_common_size (hr.mono (by decide)) rfl (pa_cons (pv 0) (pa_cons (pv 1) pa_nil))))
  (pss_one (ps_ret (pe_tup (pa_cons (pv 2) (pa_cons (pe_op op_or (pe_cal c_bits_by (hr.mono (by decide)) rfl (pa_cons (pv 0) (pa_cons (pv 2) pa_nil))) (pe_cal c_bits_by (hr.mono (by decide)) rfl (pa_cons (pv 1) (pa_cons (pv 2) pa_nil)))) pa_nil)))))),?_⟩
 walk_at "rdx"
 refine⟨a1,a2,n1,n2,b1,b2,rfl,W.s1,W.s2,W.p1,W.p2,W.l1,W.l2,lz,fun H1 s1=>?_⟩
 walk_at "rdx"
 refine⟨a1,n1,_,b1,rfl,s1.tup W.s1,W.p1,(by omega),W.k1,fl.1,lz,fun c1 T1=>?_⟩
 walk_at "rdx"
 refine⟨a2,n2,_,b2,rfl,s1.tup W.s2,W.p2,(by omega),W.k2,fl.1,lz,fun c2 T2=>?_⟩
 walk_at "rdx"
 rw[bitOr_nat]
 refine⟨two',fun p hp=>?_⟩
 exact q p _ _ (s1.trans (same_new hp _)) upd_same (Nat.or_lt_two_pow T1.lt T2.lt)
theorem sc_unlike:FnScope ["one","other","size"] ["one","other"] (defScope s_unlike):=⟨rfl,rfl,rfl,by decide +kernel,rfl,by decide +kernel,by decide +kernel⟩
theorem ok_unlike{f:Addr}{fd:FuncData}(F:Fun K "unlike" "unlike" s_unlike f fd)(c_common_size:Cal P w K mg base 4 "common_size" ["one","other"] (spCS K))(c_bits_by:Cal P w K mg base 2 "bits_by" ["turn","size"] (spBitsByL K)):FnOk P w K mg base CX0 5 f fd ["one","other"] (spJoin K):=by
 refine F.ok (k:=4) sc_unlike (fun vs H Q E h=>?_) (fun cdv A outer s H vs Q E hr h=>?_)
 ·obtain⟨a1,a2,n1,n2,b1,b2,rfl,_⟩:=h
  rfl
 obtain⟨a1,a2,n1,n2,b1,b2,rfl,W,lz,q⟩:=h
 have fl:=lcmI_facts W.p1 W.p2
 have l1:=W.l1
 have l2:=W.l2
 refine⟨_,(pss_cons (ps_set (i:=2) sc_unlike.nd rfl (by first | exact Or.inl rfl | exact Or.inr rfl) (pe_cal c_common_size (hr.mono (by decide)) rfl (pa_cons (pv 0) (pa_cons (pv 1) pa_nil))))
  (pss_one (ps_ret (pe_tup (pa_cons (pv 2) (pa_cons (pe_op op_xor (pe_cal c_bits_by (hr.mono (by decide)) rfl (pa_cons (pv 0) (pa_cons (pv 2) pa_nil))) (pe_cal c_bits_by (hr.mono (by decide)) rfl (pa_cons (pv 1) (pa_cons (pv 2) pa_nil)))) pa_nil)))))),?_⟩
 walk_at "rdx"
 refine⟨a1,a2,n1,n2,b1,b2,rfl,W.s1,W.s2,W.p1,W.p2,W.l1,W.l2,lz,fun H1 s1=>?_⟩
 walk_at "rdx"
 refine⟨a1,n1,_,b1,rfl,s1.tup W.s1,W.p1,(by omega),W.k1,fl.1,lz,fun c1 T1=>?_⟩
 walk_at "rdx"
 refine⟨a2,n2,_,b2,rfl,s1.tup W.s2,W.p2,(by omega),W.k2,fl.1,lz,fun c2 T2=>?_⟩
 walk_at "rdx"
 rw[bitXor_nat]
 refine⟨two',fun p hp=>?_⟩
 exact q p _ _ (s1.trans (same_new hp _)) upd_same (Nat.xor_lt_two_pow T1.lt T2.lt)
theorem sc_other_days:FnScope ["turn"] ["turn"] (defScope s_other_days):=⟨rfl,rfl,rfl,by decide +kernel,rfl,by decide +kernel,by decide +kernel⟩
theorem ok_other_days{f:Addr}{fd:FuncData}(F:Fun K "other_days" "other_days" s_other_days f fd)(c_full_bits:Cal P w K mg base 1 "full_bits" ["size"] spFull):FnOk P w K mg base CX0 2 f fd ["turn"] (spOther K):=by
 refine F.ok (k:=1) sc_other_days (fun vs H Q E h=>?_) (fun cdv A outer s H vs Q E hr h=>?_)
 ·obtain⟨a,n,b,rfl,_⟩:=h
  rfl
 obtain⟨a,n,b,rfl,S,n0,n1,hb,q⟩:=h
 refine⟨_,(pss_one (ps_ret (pe_tup (pa_cons (pe_ix ix_tup (pv 0) pe_int (fun _ _=>rfl)) (pa_cons (pe_op op_xor (pe_ix ix_tup (pv 0) pe_int (fun _ _=>rfl)) (pe_cal c_full_bits (hr.mono (by decide)) rfl (pa_cons (pe_ix ix_tup (pv 0) pe_int (fun _ _=>rfl)) pa_nil))) pa_nil))))),?_⟩
 walk_at "rd"
 refine rd_ixT S at0 ?_
 walk_at "rd"
 refine rd_ixT S at1 ?_
 walk_at "rd"
 refine rd_ixT S at0 ?_
 walk_at "rd"
 refine⟨n,rfl,by omega,by omega,?_⟩
 walk_at "rd"
 rw[bitXor_nat]
 refine⟨two',fun p hp=>q p _ hp ?_ fun i hi=>?_⟩
 ·exact Nat.xor_lt_two_pow hb (by have:=Nat.two_pow_pos n.toNat;omega)
 ·rw[Nat.testBit_xor,Nat.testBit_two_pow_sub_one]
  simp[hi]
theorem sc_without:FnScope ["one","other"] ["one","other"] (defScope s_without):=⟨rfl,rfl,rfl,by decide +kernel,rfl,by decide +kernel,by decide +kernel⟩
theorem ok_without{f:Addr}{fd:FuncData}(F:Fun K "without" "without" s_without f fd)(c_both:Cal P w K mg base 5 "both" ["one","other"] (spJoin K))(c_other_days:Cal P w K mg base 2 "other_days" ["turn"] (spOther K)):FnOk P w K mg base CX0 6 f fd ["one","other"] (spJoin K):=by
 refine F.ok (k:=5) sc_without (fun vs H Q E h=>?_) (fun cdv A outer s H vs Q E hr h=>?_)
 ·obtain⟨a1,a2,n1,n2,b1,b2,rfl,_⟩:=h
  rfl
 obtain⟨a1,a2,n1,n2,b1,b2,rfl,W,lz,q⟩:=h
 refine⟨_,(pss_one (ps_ret (pe_cal c_both (hr.mono (by decide)) rfl (pa_cons (pv 0) (pa_cons (pe_cal c_other_days (hr.mono (by decide)) rfl (pa_cons (pv 1) pa_nil)) pa_nil))))),?_⟩
 walk_at "rdx"
 refine⟨a2,n2,b2,rfl,W.s2,W.p2,W.l2,W.k2,fun p c hp hc hbit=>?_⟩
 walk_at "rdx"
 refine⟨a1,p,n1,n2,b1,c,rfl,⟨(same_new hp _).tup W.s1,SqT.of upd_same,W.p1,W.p2,W.l1,W.l2,W.k1,hc⟩,lz,fun p3 c3 H3 s3 hp3 B=>?_⟩
 exact q p3 c3 H3 ((same_new hp _).trans s3) hp3 B
theorem sc_later:FnScope ["turn","number","shift","bits"] ["turn","number"] (defScope s_later):=⟨rfl,rfl,rfl,by decide +kernel,rfl,by decide +kernel,by decide +kernel⟩
theorem ok_later{f:Addr}{fd:FuncData}(F:Fun K "later" "later" s_later f fd)(c_full_bits:Cal P w K mg base 1 "full_bits" ["size"] spFull):FnOk P w K mg base CX0 2 f fd ["turn","number"] (spLater K):=by
 refine F.ok (k:=1) sc_later (fun vs H Q E h=>?_) (fun cdv A outer s H vs Q E hr h=>?_)
 ·obtain⟨a,n,num,b,rfl,_⟩:=h
  rfl
 obtain⟨a,n,num,b,rfl,hS,h0,h1,hb,q⟩:=h
 refine⟨_,(pss_cons (ps_set (i:=2) sc_later.nd rfl (by first | exact Or.inl rfl | exact Or.inr rfl) (pe_op op_mod (pv 1) (pe_ix ix_tup (pv 0) pe_int (fun _ _=>rfl))))
  (pss_cons (ps_set (i:=3) sc_later.nd rfl (by first | exact Or.inl rfl | exact Or.inr rfl) (pe_op op_or (pe_op op_shlB (pe_ix ix_tup (pv 0) pe_int (fun _ _=>rfl)) (pv 2)) (pe_op op_shr (pe_ix ix_tup (pv 0) pe_int (fun _ _=>rfl)) (pe_op op_sub (pe_ix ix_tup (pv 0) pe_int (fun _ _=>rfl)) (pv 2)))))
  (pss_one (ps_ret (pe_tup (pa_cons (pe_ix ix_tup (pv 0) pe_int (fun _ _=>rfl)) (pa_cons (pe_op op_and (pv 3) (pe_cal c_full_bits (hr.mono (by decide)) rfl (pa_cons (pe_ix ix_tup (pv 0) pe_int (fun _ _=>rfl)) pa_nil))) pa_nil))))))),?_⟩
 have m0:=Int.emod_nonneg num (show n≠0 by omega)
 have m1:=Int.emod_lt_of_pos num h0
 walk_at "rd"
 refine rd_ixT hS at0 ?_
 refine rd_i h0 ?_
 walk_at "rd"
 refine rd_ixT hS at1 ?_
 walk_at "rd"
 refine rd_i ⟨m0,n.toNat,bt_nat hb,by omega⟩ ?_
 walk_at "rd"
 refine rd_ixT hS at1 ?_
 walk_at "rd"
 refine rd_ixT hS at0 ?_
 walk_at "rd"
 refine rd_i (show (0:Int)≤n-num%n by omega) ?_
 walk_at "rd"
 refine rd_ixT hS at0 ?_
 walk_at "rd"
 refine rd_ixT hS at0 ?_
 walk_at "rd"
 refine⟨n,rfl,by omega,by omega,?_⟩
 walk_at "rd"
 have e:(n-num%n).toNat=n.toNat-(num%n).toNat:=by omega
 rw[shl_cast,shr_cast,bitOr_nat,bitAnd_nat,e]
 refine⟨(by show 2≤sizeLine;decide),fun p hp=>?_⟩
 exact q p hp
theorem sc_refuse_wanted:FnScope ["month","day","step"] ["month","day","step"] (defScope s_refuse_wanted):=⟨rfl,rfl,rfl,by decide +kernel,rfl,by decide +kernel,by decide +kernel⟩
theorem ok_refuse_wanted{f:Addr}{fd:FuncData}(F:Fun K "refuse_wanted" "refuse_wanted" s_refuse_wanted f fd)(c_refuse_below_one:Cal P w K mg base 1 "refuse_below_one" ["number"] spRefuse):FnOk P w K mg base CX0 2 f fd ["month","day","step"] spWant7:=by
 refine F.ok (k:=1) sc_refuse_wanted (fun vs H Q E h=>?_) (fun cdv A outer s H vs Q E hr h=>?_)
 ·obtain⟨d,st,rfl,_⟩:=h
  cases d<;>rfl
 obtain⟨d,st,rfl,d0,st1,q⟩:=h
 refine⟨_,(pss_cons (ps_cut (ps_if (pt_cmpR op_notN (pv 0) pe_non (nomark _))
  (pss_one (ps_expr (pe_cal c_refuse_below_one (hr.mono (by decide)) rfl (pa_cons (pv 0) pa_nil))))
  pss_nil))
  (pss_cons (ps_if (pt_cmpR op_eq (pv 1) pe_int (nomark _))
   (pss_one ps_never)
   pss_nil)
  (pss_one (ps_expr (pe_cal c_refuse_below_one (hr.mono (by decide)) rfl (pa_cons (pv 2) pa_nil)))))),?_⟩
 walk_at "rd"
 refine rd_cut (fun σ' H'=>H'=H∧σ'=[some (.int 1),some (oI d),some (.int st)]) ?_ ?_
 ·walk_at "rd"
  refine⟨rfl,?_⟩
  walk_at "rd"
  refine iteT ?_
  walk_at "rd"
  exact⟨1,rfl,by omega,⟨rfl,rfl⟩⟩
 rintro σ' H' ⟨rfl,rfl⟩
 cases d with
 | none=>
  walk_at "rd"
  refine iteN (fun e=>nomatch e) ?_
  walk_at "rd"
  exact⟨st,rfl,st1,q⟩
 | some i=>
  walk_at "rd"
  refine iteN (fun e=>d0 (congrArg some (V.int.inj e))) ?_
  walk_at "rd"
  exact⟨st,rfl,st1,q⟩
theorem sc_days_of_month:FnScope ["first","length","day","place"] ["first","length","day"] (defScope s_days_of_month):=⟨rfl,rfl,rfl,by decide +kernel,rfl,by decide +kernel,by decide +kernel⟩
theorem ok_days_of_month{f:Addr}{fd:FuncData}(F:Fun K "days_of_month" "days_of_month" s_days_of_month f fd)(z_list:mg "list"=none)(z_range:mg "range"=none):FnOk P w K mg base CX0 1 f fd ["first","length","day"] spDoM7:=by
 refine F.ok (k:=0) sc_days_of_month (fun vs H Q E h=>?_) (fun cdv A outer s H vs Q E hr h=>?_)
 ·obtain⟨f,n,d,rfl,_⟩:=h
  cases d<;>rfl
 obtain⟨f,n,d,rfl,f0,f1,n0,n1,q⟩:=h
 refine⟨_,(pss_cons (ps_if (pt_cmpR op_isN (pv 2) pe_non (nomark _))
  (pss_one (ps_ret (pe_lrangeA rfl rfl z_list rfl z_range (pa_cons (pv 0) (pa_cons (pe_op op_add (pv 0) (pv 1)) pa_nil)))))
  pss_nil)
  (pss_cons (ps_cut (ps_set (i:=3) sc_days_of_month.nd rfl (by first | exact Or.inl rfl | exact Or.inr rfl) (pe_ifExp (pt_cmpR op_gt (pv 2) pe_int (nomark _)) (pe_op op_sub (pv 2) pe_int) (pe_op op_add (pv 1) (pv 2)))))
  (pss_cons (ps_if (PW.pt (pw_or (pt_cmpR op_lt (pv 3) pe_int (nomark _)) (pw_or1 (pt_cmpR op_ge (pv 3) (pv 1) (nomark _)))))
   (pss_one (ps_ret (pe_lst pa_nil)))
   pss_nil)
  (pss_one (ps_ret (pe_lst (pa_cons (pe_op op_add (pv 0) (pv 3)) pa_nil))))))),?_⟩
 cases d with
 | none=>
  walk_at "rdx"
  refine⟨rfl,?_⟩
  walk_at "rdx"
  refine iteT ?_
  walk_at "rdx"
  refine⟨f,f+n,rfl,by omega,by omega,fun l hl=>?_⟩
  refine q l ((List.range (f+n-f).toNat).map fun i:Nat=>f+(i:Int)) _ hl (same_new hl _) ?_ (by rw[List.length_map,List.length_range];omega)
  rw[upd_same,List.map_map]
  rfl
 | some i=>
  rw[show oI (some i)=V.int i from rfl]
  walk_at "rdx"
  refine⟨rfl,?_⟩
  walk_at "rdx"
  refine iteF ?_
  walk_at "rdx"
  refine rd_cut (fun σ' H'=>H'=H∧∃pl:Int,σ'=[some (.int f),some (.int n),some (.int i),some (.int pl)]) ?_ ?_
  ·walk_at "rdx"
   refine ite2d (fun h=>?_) (fun h=>?_)
   ·walk_at "rdx"
    exact⟨rfl,_,rfl⟩
   ·walk_at "rdx"
    exact⟨rfl,_,rfl⟩
  rintro σ' H' ⟨rfl,pl,rfl⟩
  walk_at "rdx"
  refine ite2d (fun h1=>iteT ?_) (fun h1=>?_)
  ·walk_at "rdx"
   refine⟨Nat.zero_le _,fun l hl=>?_⟩
   exact q l [] _ hl (same_new hl _) upd_same (by simp)
  walk_at "rdx"
  refine ite2d (fun h2=>?_) (fun h2=>?_)
  ·walk_at "rdx"
   refine⟨Nat.zero_le _,fun l hl=>?_⟩
   exact q l [] _ hl (same_new hl _) upd_same (by simp)
  ·walk_at "rdx"
   refine⟨(by show 1≤sizeLine;decide),fun l hl=>?_⟩
   exact q l [_] _ hl (same_new hl _) upd_same (by simp)
theorem sc_ones_in:FnScope ["bits","fields","width","each_second"] ["bits"] (defScope s_ones_in):=⟨rfl,rfl,rfl,by decide +kernel,rfl,by decide +kernel,by decide +kernel⟩
theorem ok_ones_in{f:Addr}{fd:FuncData}(F:Fun K "ones_in" "ones_in" s_ones_in f fd)(c_bits_by:Cal P w K mg base 2 "bits_by" ["turn","size"] (spBitsByL K))(c_full_bits:Cal P w K mg base 1 "full_bits" ["size"] spFull):FnOk P w K mg base CX0 3 f fd ["bits"] spOnes:=by
 refine F.ok (k:=2) sc_ones_in (fun vs H Q E h=>?_) (fun cdv A outer s H vs Q E hr h=>?_)
 ·obtain⟨b,n,rfl,_⟩:=h
  rfl
 obtain⟨b,n,rfl,hb,hn,q⟩:=h
 refine⟨_,(pss_cons (ps_set (i:=1) sc_ones_in.nd rfl (by first | exact Or.inl rfl | exact Or.inr rfl) (pv 0))
  (pss_cons (ps_set (i:=2) sc_ones_in.nd rfl (by first | exact Or.inl rfl | exact Or.inr rfl) pe_int)
  (pss_cons (ps_while PassesOwn.never (pt_cmpR op_gt (pe_op op_shr (pv 1) (pv 2)) pe_int (nomark _))
   (pss_cons (ps_set (i:=3) sc_ones_in.nd rfl (by first | exact Or.inl rfl | exact Or.inr rfl) (pe_cal c_bits_by (hr.mono (by decide)) rfl (pa_cons (pe_tup (pa_cons (pe_op op_mulB pe_int (pv 2)) (pa_cons (pe_cal c_full_bits (hr.mono (by decide)) rfl (pa_cons (pv 2) pa_nil)) pa_nil))) (pa_cons (pe_bm0 PySem.F.plainAttrs_int PySem.F.slot_int_bit_length PySem.F.type_int_bit_length mt_bits (pv 1)) pa_nil))))
  (pss_cons (ps_set (i:=1) sc_ones_in.nd rfl (by first | exact Or.inl rfl | exact Or.inr rfl) (pe_op op_add (pe_op op_and (pv 1) (pv 3)) (pe_op op_and (pe_op op_shr (pv 1) (pv 2)) (pv 3))))
  (pss_one (ps_set (i:=2) sc_ones_in.nd rfl (by first | exact Or.inl rfl | exact Or.inr rfl) (pe_op op_mulB pe_int (pv 2)))))))
  (pss_one (ps_ret (pv 1)))))),?_⟩
 walk_at "rd"
 refine⟨fun m σ' H'=>Same H H'∧∃f w:Nat,∃x:Option V,σ'=[some (.int (b:Int)),some (.int (f:Int)),some (.int (w:Int)),x]∧0<w∧w≤300000∧f<2^n∧Dg w f (cnt b n)∧m=n-w,
  ⟨_,Same.refl _,b,1,none,rfl,by decide,by decide,hb,Dg.start n b hb,rfl⟩,?_⟩
 rintro m σ' H1 ⟨s1,f,w,x,rfl,w0,w1,hf,D,rfl⟩
 walk_at "rd"
 refine rd_i (show (0:Int)≤(w:Int) by omega) ?_
 walk_at "rd"
 rw[Int.toNat_natCast,shr_cast]
 refine ite2d (fun cc=>?_) (fun cc=>?_)
 ·have f1:2^w≤f:=by
   have h1:0<f >>> w:=by omega
   rw[Nat.shiftRight_eq_div_pow] at h1
   exact Nat.le_of_not_lt fun z=>by rw[Nat.div_eq_of_lt z] at h1;omega
  have wn:w<n:=by
   refine Nat.lt_of_not_le fun z=>?_
   have:=Nat.pow_le_pow_right (show 0<2 by decide) z
   omega
  have f0:f≠0:=by have:=Nat.two_pow_pos w;omega
  have l1:f<2^(f.log2+1):=Nat.lt_log2_self
  have l2:f.log2+1≤n:=by
   have:=Nat.log2_self_le f0
   refine Nat.lt_of_not_le fun z=>?_
   have:=Nat.pow_le_pow_right (show 0<2 by decide) z
   omega
  refine⟨_,fun σ' H' hh=>hh,?_⟩
  walk_at "rd"
  refine rd_i ⟨3,20,(by unfold Bt;decide),bt_nat (by omega),by decide⟩ ?_
  walk_at "rd"
  refine⟨(w:Int),rfl,by omega,by omega,?_⟩
  walk_at "rd"
  rw[Int.toNat_natCast,show(2:Int)*(w:Int)=((2*w:Nat):Int) by omega]
  refine⟨two',fun p hp=>?_⟩
  have s2:=same_new hp (.tup [.int ((2*w:Nat):Int),.int ((2^w-1:Nat):Int)])
  have t2:upd H1 p (.tup [.int ((2*w:Nat):Int),.int ((2^w-1:Nat):Int)]) p=some (.tup [.int ((2*w:Nat):Int),.int ((2^w-1:Nat):Int)]):=upd_same
  generalize upd H1 p (.tup [.int ((2*w:Nat):Int),.int ((2^w-1:Nat):Int)])=H2 at s2 t2 ⊢
  walk_at "rd"
  rw[intBits_nat f0]
  walk_at "rd"
  refine⟨p,_,_,_,rfl,SqT.of t2,by omega,by omega,?_,by omega,by omega,fun c S=>?_⟩
  ·rw[Int.toNat_natCast]
   have:=Nat.pow_le_pow_right (show 0<2 by decide) (show w≤2*w by omega)
   have:=Nat.two_pow_pos w
   omega
  rw[Int.toNat_natCast,show(((f.log2+1:Nat):Int)).toNat=f.log2+1 by omega] at S
  walk_at "rd"
  refine rd_i (show (0:Int)≤(w:Int) by omega) ?_
  walk_at "rd"
  refine rd_i ⟨3,20,(by unfold Bt;decide),bt_nat (by omega),by decide⟩ ?_
  walk_at "rd"
  have E1:=ev_mask w0 l1 S 0
  have E2:=ev_mask w0 l1 S w
  rw[Nat.pow_zero,Nat.div_one] at E1
  obtain⟨d1,d2⟩:=D.pair w0 E1 E2
  rw[Int.toNat_natCast,shr_cast,Nat.shiftRight_eq_div_pow,bitAnd_nat,bitAnd_nat]
  refine⟨n-2*w,by omega,s1.trans s2,(f &&& c)+(f/2^w &&& c),2*w,some (.int (c:Int)),?_,by omega,by omega,by omega,d1,rfl⟩
  rw[Int.natCast_add]
  rfl
 ·have fl:f<2^w:=by
   have h1:f >>> w=0:=Nat.eq_zero_of_not_pos fun z=>cc (Int.natCast_pos.mpr z)
   rw[Nat.shiftRight_eq_div_pow] at h1
   exact Nat.lt_of_not_le fun z=>by
    have:=(Nat.le_div_iff_mul_le (Nat.two_pow_pos w)).mpr (show 1*2^w≤f by omega)
    omega
  walk_at "rd"
  rw[D.last fl]
  exact q _ s1
theorem sc_days_ahead:FnScope ["turn","day","part"] ["turn","day"] (defScope s_days_ahead):=⟨rfl,rfl,rfl,by decide +kernel,rfl,by decide +kernel,by decide +kernel⟩
theorem ok_days_ahead{f:Addr}{fd:FuncData}(F:Fun K "days_ahead" "days_ahead" s_days_ahead f fd)(c_full_bits:Cal P w K mg base 1 "full_bits" ["size"] spFull)(c_ones_in:Cal P w K mg base 3 "ones_in" ["bits"] spOnes):FnOk P w K mg base CX0 4 f fd ["turn","day"] (spAhead K):=by
 refine F.ok (k:=3) sc_days_ahead (fun vs H Q E h=>?_) (fun cdv A outer s H vs Q E hr h=>?_)
 ·obtain⟨a,n,d,b,rfl,_⟩:=h
  rfl
 obtain⟨a,n,d,b,rfl,hS,h0,h1,hb,bd,q⟩:=h
 have m0:=Int.emod_nonneg d (show n≠0 by omega)
 have m1:=Int.emod_lt_of_pos d h0
 refine⟨_,(pss_cons (ps_set (i:=2) sc_days_ahead.nd rfl (by first | exact Or.inl rfl | exact Or.inr rfl) (pe_op op_and (pe_ix ix_tup (pv 0) pe_int (fun _ _=>rfl)) (pe_cal c_full_bits (hr.mono (by decide)) rfl (pa_cons (pe_op op_mod (pv 1) (pe_ix ix_tup (pv 0) pe_int (fun _ _=>rfl))) pa_nil))))
  (pss_one (ps_ret (pe_op op_add (pe_op op_mulB (pe_op op_fdivB (pv 1) (pe_ix ix_tup (pv 0) pe_int (fun _ _=>rfl))) (pe_cal c_ones_in (hr.mono (by decide)) rfl (pa_cons (pe_ix ix_tup (pv 0) pe_int (fun _ _=>rfl)) pa_nil))) (pe_cal c_ones_in (hr.mono (by decide)) rfl (pa_cons (pv 2) pa_nil)))))),?_⟩
 walk_at "rd"
 refine rd_ixT hS at1 ?_
 walk_at "rd"
 refine rd_ixT hS at0 ?_
 refine rd_i h0 ?_
 walk_at "rd"
 refine⟨d%n,rfl,m0,by omega,?_⟩
 walk_at "rd"
 rw[bitAnd_nat]
 refine rd_ixT hS at0 ?_
 walk_at "rd"
 refine rd_i (cdiv_small h0 (by omega)) ?_
 walk_at "rd"
 refine rd_ixT hS at1 ?_
 walk_at "rd"
 refine⟨b,n.toNat,rfl,hb,by omega,fun H1 s1=>?_⟩
 have cl:=cnt_le b n.toNat
 refine rd_i ⟨260,20,bt_div bd h0,bt_nat (by omega),by decide⟩ ?_
 walk_at "rd"
 refine⟨_,(d%n).toNat,rfl,and_full_lt _ _,by omega,fun H2 s2=>?_⟩
 walk_at "rd"
 rw[cnt_same (c:=b) fun i hi=>and_full_bit _ _ _ hi]
 exact q _ (s1.trans s2)
theorem sc_how_many:FnScope ["turn","first","end"] ["turn","first","end"] (defScope s_how_many):=⟨rfl,rfl,rfl,by decide +kernel,rfl,by decide +kernel,by decide +kernel⟩
theorem ok_how_many{f:Addr}{fd:FuncData}(F:Fun K "how_many" "how_many" s_how_many f fd)(c_days_ahead:Cal P w K mg base 4 "days_ahead" ["turn","day"] (spAhead K)):FnOk P w K mg base CX0 5 f fd ["turn","first","end"] (spMany K):=by
 refine F.ok (k:=4) sc_how_many (fun vs H Q E h=>?_) (fun cdv A outer s H vs Q E hr h=>?_)
 ·obtain⟨a,n,f',e,b,rfl,_⟩:=h
  rfl
 obtain⟨a,n,f',e,b,rfl,hS,h0,h1,hb,b1,b2,q⟩:=h
 refine⟨_,(pss_one (ps_ret (pe_op op_sub (pe_cal c_days_ahead (hr.mono (by decide)) rfl (pa_cons (pv 0) (pa_cons (pv 2) pa_nil))) (pe_cal c_days_ahead (hr.mono (by decide)) rfl (pa_cons (pv 0) (pa_cons (pv 1) pa_nil)))))),?_⟩
 walk_at "rd"
 refine⟨a,n,e,b,rfl,hS,h0,h1,hb,b2.mono (by decide),fun H1 s1=>?_⟩
 walk_at "rd"
 refine⟨a,n,f',b,rfl,s1.tup hS,h0,h1,hb,b1.mono (by decide),fun H2 s2=>?_⟩
 walk_at "rd"
 exact q _ (s1.trans s2)
theorem sc_gathered:FnScope ["turn","barred","step","join","told","free","stride"] ["turn","barred","step","join"] (defScope s_gathered):=⟨rfl,rfl,rfl,by decide +kernel,rfl,by decide +kernel,by decide +kernel⟩
theorem ok_gathered{f:Addr}{fd:FuncData}(F:Fun K "gathered" "gathered" s_gathered f fd)(c_other_days:Cal P w K mg base 2 "other_days" ["turn"] (spOther K))(c_both:Cal P w K mg base 5 "both" ["one","other"] (spJoin K))(c_later:Cal P w K mg base 2 "later" ["turn","number"] (spLater K))(c_either:Cal P w K mg base 5 "either" ["one","other"] (spJoin K))(c_unlike:Cal P w K mg base 5 "unlike" ["one","other"] (spJoin K))(z_abs:mg "abs"=none):FnOk P w K mg base CX0 6 f fd ["turn","barred","step","join"] (spGathS K mg [("either",spJoin K),("unlike",spJoin K)]):=by
 refine F.ok (k:=5) sc_gathered (fun vs H Q E h=>?_) (fun cdv A outer s H vs Q E hr h=>?_)
 ·obtain⟨a1,a2,f',n,e,b,c,x,rfl,_⟩:=h
  rfl
 obtain⟨a1,a2,f',n,e,b,c,x,rfl,hxj,hmg,S1,S2,n0,n1,hb,hc,he,q⟩:=h
 refine⟨_,(pss_cons (ps_set (i:=4) sc_gathered.nd rfl (by first | exact Or.inl rfl | exact Or.inr rfl) (pv 0))
  (pss_cons (ps_set (i:=5) sc_gathered.nd rfl (by first | exact Or.inl rfl | exact Or.inr rfl) (pe_cal c_other_days (hr.mono (by decide)) rfl (pa_cons (pv 1) pa_nil)))
  (pss_cons (ps_set (i:=6) sc_gathered.nd rfl (by first | exact Or.inl rfl | exact Or.inr rfl) (pv 2))
  (pss_cons (ps_while PassesOwn.never (pt_cmpR op_lt (pe_callB call_abs rfl z_abs PyProof.Rows.boot_abs (pa_cons (pv 6) pa_nil)) (pe_ix ix_tup (pv 0) pe_int (fun _ _=>rfl)) (nomark _))
   (pss_cons (ps_set (i:=4) sc_gathered.nd rfl (by first | exact Or.inl rfl | exact Or.inr rfl) (pe_calV (i:=3) (k:=5) (CalVs.cons c_either (CalVs.cons c_unlike CalVs.nil)) (hr.mono (by decide)) rfl (by first | exact Or.inl rfl | exact Or.inr (Or.inl rfl) | exact Or.inr (Or.inr rfl)) (pa_cons (pv 4) (pa_cons (pe_cal c_both (hr.mono (by decide)) rfl (pa_cons (pe_cal c_later (hr.mono (by decide)) rfl (pa_cons (pv 4) (pa_cons (pv 6) pa_nil))) (pa_cons (pv 5) pa_nil))) pa_nil))))
  (pss_cons (ps_set (i:=5) sc_gathered.nd rfl (by first | exact Or.inl rfl | exact Or.inr rfl) (pe_cal c_both (hr.mono (by decide)) rfl (pa_cons (pv 5) (pa_cons (pe_cal c_later (hr.mono (by decide)) rfl (pa_cons (pv 5) (pa_cons (pv 6) pa_nil))) pa_nil))))
  (pss_one (ps_set (i:=6) sc_gathered.nd rfl (by first | exact Or.inl rfl | exact Or.inr rfl) (pe_op op_mulB pe_int (pv 6)))))))
  (pss_one (ps_ret (pv 4))))))),?_⟩
 walk_at "rdx"
 refine⟨a2,n,c,rfl,S2,n0,n1,hc,fun pf fc hpf lf bf=>?_⟩
 have s1:=same_new hpf (.tup [.int n,.int (fc:Int)])
 have t1:upd H pf (.tup [.int n,.int (fc:Int)]) pf=some (.tup [.int n,.int (fc:Int)]):=upd_same
 generalize upd H pf (.tup [.int n,.int (fc:Int)])=H1 at s1 t1 ⊢
 have ls:=lcm_self n0
 walk_at "rdx"
 refine⟨fun m σ' H'=>Same H H'∧∃(pt pf:Addr) (g fr k:Nat),0<k∧k≤300000∧H' pt=some (.tup [.int n,.int (g:Int)])∧SqT K H' pf [.int n,.int (fr:Int)]∧g<2^n.toNat∧fr<2^n.toNat∧
  σ'=[some (.ref a1),some (.ref a2),some (.int e),some (.ref f'),some (.ref pt),some (.ref pf),some (.int (e*(k:Int)))]∧m=n.toNat-k,
  ⟨_,s1,a1,pf,b,fc,1,by decide,by decide,s1 _ _ S1,SqT.of t1,hb,lf,(by rw[show e*((1:Nat):Int)=e by omega];rfl),rfl⟩,?_⟩
 rintro m σ' H2 ⟨s2,pt,pf,g,fr,k,k0,k1,Tt,Tf,lg,lfr,rfl,rfl⟩
 have ek:(e*(k:Int)).natAbs=k:=by rcases he with h | h<;>rw[h]<;>omega
 walk_at "rdx"
 refine⟨_,rfl,?_⟩
 walk_at "rdx"
 refine rd_ixT (SqT.of (s2 _ _ S1)) at0 ?_
 walk_at "rdx"
 have mulb:∀x:Int,e*x=x∨e*x= -x:=fun x=>by rcases he with h | h<;>rw[h]<;>omega
 refine ite2d (fun hlt=>?_) (fun hge=>?_)
 ·have kn:(k:Int)<n:=by
   have:=mulb k
   split at hlt<;>omega
  refine⟨fun σ' H'=>∃m',m'<n.toNat-k∧Same H H'∧∃(pt pf:Addr) (g fr k:Nat),0<k∧k≤300000∧H' pt=some (.tup [.int n,.int (g:Int)])∧SqT K H' pf [.int n,.int (fr:Int)]∧g<2^n.toNat∧fr<2^n.toNat∧
   σ'=[some (.ref a1),some (.ref a2),some (.int e),some (.ref f'),some (.ref pt),some (.ref pf),some (.int (e*(k:Int)))]∧m'=n.toNat-k,fun σ' H' hh=>hh,?_⟩
  walk_at "rdx"
  refine rd_callV rfl hxj hmg ?_
  walk_at "rdx"
  refine⟨pt,n,_,g,rfl,SqT.of Tt,n0,n1,lg,fun p1 h1=>?_⟩
  have s3:=same_new h1 (.tup [.int n,.int ((lat n.toNat g (e*(k:Int)%n).toNat:Nat):Int)])
  have t3:upd H2 p1 (.tup [.int n,.int ((lat n.toNat g (e*(k:Int)%n).toNat:Nat):Int)]) p1=some _:=upd_same
  generalize upd H2 p1 (.tup [.int n,.int ((lat n.toNat g (e*(k:Int)%n).toNat:Nat):Int)])=H3 at s3 t3 ⊢
  walk_at "rdx"
  refine⟨p1,pf,n,n,_,fr,rfl,⟨SqT.of t3,s3.tup Tf,n0,n0,n1,n1,lat_lt _ _ _,lfr⟩,by rw[ls];exact n1,fun p2 c2 H4 s4 t4 B2=>?_⟩
  rw[ls] at t4 B2
  walk_at "rdx"
  refine⟨pt,p2,n,n,g,c2,rfl,⟨SqT.of (s4 _ _ (s3 _ _ Tt)),SqT.of t4,n0,n0,n1,n1,lg,B2⟩,(by rw[ls];exact n1),fun p3 c3 H5 s5 t5 B3=>?_⟩
  rw[ls] at t5 B3
  walk_at "rdx"
  refine⟨pf,n,_,fr,rfl,s5.tup (s4.tup (s3.tup Tf)),n0,n1,lfr,fun p4 h4=>?_⟩
  have s6:=same_new h4 (.tup [.int n,.int ((lat n.toNat fr (e*(k:Int)%n).toNat:Nat):Int)])
  have t6:upd H5 p4 (.tup [.int n,.int ((lat n.toNat fr (e*(k:Int)%n).toNat:Nat):Int)]) p4=some _:=upd_same
  generalize upd H5 p4 (.tup [.int n,.int ((lat n.toNat fr (e*(k:Int)%n).toNat:Nat):Int)])=H6 at s6 t6 ⊢
  walk_at "rdx"
  refine⟨pf,p4,n,n,fr,_,rfl,⟨s6.tup (s5.tup (s4.tup (s3.tup Tf))),SqT.of t6,n0,n0,n1,n1,lfr,lat_lt _ _ _⟩,by rw[ls];exact n1,fun p5 c5 H7 s7 t7 B5=>?_⟩
  rw[ls] at t7 B5
  walk_at "rdx"
  refine rd_i ⟨2,20,bt_nat (by decide),(by show(e*(k:Int)).natAbs<2^20;rw[ek];omega),by decide⟩ ?_
  walk_at "rdx"
  refine⟨n.toNat-2*k,by omega,s2.trans (s3.trans (s4.trans (s5.trans (s6.trans s7)))),p3,p5,c3,c5,2*k,by omega,by omega,s7 _ _ (s6 _ _ t5),SqT.of t7,B3,B5,?_,rfl⟩
  ·have:e*((2*k:Nat):Int)=2*(e*(k:Int)):=by rw[Int.natCast_mul,Int.mul_left_comm];rfl
   rw[this]
   rfl
 ·have kn:n.toNat≤k:=by
   have:=mulb k
   split at hge<;>omega
  walk_at "rdx"
  exact q pt g H2 s2 Tt lg
theorem sc_upon:FnScope ["R","S","size","days"] ["R","S"] (defScope s_upon):=⟨rfl,rfl,rfl,by decide +kernel,rfl,by decide +kernel,by decide +kernel⟩
theorem ok_upon{f:Addr}{fd:FuncData}(F:Fun K "upon" "upon" s_upon f fd)(c_common_size:Cal P w K mg base 4 "common_size" ["one","other"] (spCS K))(c_stretched:Cal P w K mg base 3 "stretched" ["turn","size"] (spStretched K))(c_both:Cal P w K mg base 5 "both" ["one","other"] (spJoin K))(c_gathered:Cal P w K mg base 6 "gathered" ["turn","barred","step","join"] (spGathS K mg [("either",spJoin K),("unlike",spJoin K)]))(c_later:Cal P w K mg base 2 "later" ["turn","number"] (spLater K))(c_either:Cal P w K mg base 5 "either" ["one","other"] (spJoin K)){fv_either:Addr}(v_either:mg "either"=some (.ref fv_either)):FnOk P w K mg base CX0 7 f fd ["R","S"] (spJoin K):=by
 refine F.ok (k:=6) sc_upon (fun vs H Q E h=>?_) (fun cdv A outer s H vs Q E hr h=>?_)
 ·obtain⟨a1,a2,n1,n2,b1,b2,rfl,_⟩:=h
  rfl
 obtain⟨a1,a2,n1,n2,b1,b2,rfl,W,lz,q⟩:=h
 have fl:=lcmI_facts W.p1 W.p2
 refine⟨_,(pss_cons (ps_set (i:=2) sc_upon.nd rfl (by first | exact Or.inl rfl | exact Or.inr rfl) (pe_cal c_common_size (hr.mono (by decide)) rfl (pa_cons (pv 0) (pa_cons (pv 1) pa_nil))))
  (pss_cons (ps_set (i:=3) sc_upon.nd rfl (by first | exact Or.inl rfl | exact Or.inr rfl) (pe_cal c_stretched (hr.mono (by decide)) rfl (pa_cons (pv 0) (pa_cons (pv 2) pa_nil))))
  (pss_one (ps_ret (pe_cal c_both (hr.mono (by decide)) rfl (pa_cons (pv 3) (pa_cons (pe_cal c_gathered (hr.mono (by decide)) rfl (pa_cons (pe_cal c_stretched (hr.mono (by decide)) rfl (pa_cons (pv 1) (pa_cons (pv 2) pa_nil))) (pa_cons (pe_cal c_later (hr.mono (by decide)) rfl (pa_cons (pv 3) (pa_cons pe_int pa_nil))) (pa_cons pe_int (pa_cons (pe_glob rfl v_either (rel_ref _)) pa_nil))))) pa_nil))))))),?_⟩
 walk_at "rdx"
 refine⟨a1,a2,n1,n2,b1,b2,rfl,W.s1,W.s2,W.p1,W.p2,W.l1,W.l2,lz,fun H1 s1=>?_⟩
 generalize hz:lcmI n1 n2=z at*
 have z0:=fl.1
 have d1:n1∣z:=fl.2.1
 have d2:n2∣z:=fl.2.2.1
 have ls:=lcm_self z0
 walk_at "rdx"
 refine⟨a1,n1,z,b1,rfl,s1.tup W.s1,W.p1,W.l1,W.k1,z0,lz,d1,fun pr cr hr1 Sr=>?_⟩
 have s2:=same_new hr1 (.tup [.int z,.int (cr:Int)])
 have t2:upd H1 pr (.tup [.int z,.int (cr:Int)]) pr=some (.tup [.int z,.int (cr:Int)]):=upd_same
 generalize upd H1 pr (.tup [.int z,.int (cr:Int)])=H2 at s2 t2 ⊢
 walk_at "rdx"
 refine⟨a2,n2,z,b2,rfl,s2.tup (s1.tup W.s2),W.p2,W.l2,W.k2,z0,lz,d2,fun ps cs hs1 Ss=>?_⟩
 have s3:=same_new hs1 (.tup [.int z,.int (cs:Int)])
 have t3:upd H2 ps (.tup [.int z,.int (cs:Int)]) ps=some (.tup [.int z,.int (cs:Int)]):=upd_same
 generalize upd H2 ps (.tup [.int z,.int (cs:Int)])=H3 at s3 t3 ⊢
 walk_at "rdx"
 refine⟨pr,z,_,cr,rfl,s3.tup (SqT.of t2),z0,lz,Sr.lt,fun pl hl1=>?_⟩
 have s4:=same_new hl1 (.tup [.int z,.int ((lat z.toNat cr (1%z).toNat:Nat):Int)])
 have t4:upd H3 pl (.tup [.int z,.int ((lat z.toNat cr (1%z).toNat:Nat):Int)]) pl=some _:=upd_same
 generalize upd H3 pl (.tup [.int z,.int ((lat z.toNat cr (1%z).toNat:Nat):Int)])=H4 at s4 t4 ⊢
 walk_at "rdx"
 refine⟨ps,pl,_,z,1,cs,_,_,rfl,List.mem_cons_self,v_either,s4 _ _ t3,SqT.of t4,z0,lz,Ss.lt,lat_lt _ _ _,.inl rfl,fun pg g H5 s5 t5 lg=>?_⟩
 walk_at "rdx"
 refine⟨pr,pg,z,z,cr,g,rfl,⟨s5.tup (s4.tup (s3.tup (SqT.of t2))),SqT.of t5,z0,z0,lz,lz,Sr.lt,lg⟩,by rw[ls];exact lz,fun p c H6 s6 t6 B=>?_⟩
 rw[ls] at t6 B
 exact q p c H6 (s1.trans (s2.trans (s3.trans (s4.trans (s5.trans s6))))) t6 B
theorem sc_until:FnScope ["R","S","size","days"] ["R","S"] (defScope s_until):=⟨rfl,rfl,rfl,by decide +kernel,rfl,by decide +kernel,by decide +kernel⟩
theorem ok_until{f:Addr}{fd:FuncData}(F:Fun K "until" "until" s_until f fd)(c_common_size:Cal P w K mg base 4 "common_size" ["one","other"] (spCS K))(c_stretched:Cal P w K mg base 3 "stretched" ["turn","size"] (spStretched K))(c_both:Cal P w K mg base 5 "both" ["one","other"] (spJoin K))(c_gathered:Cal P w K mg base 6 "gathered" ["turn","barred","step","join"] (spGathS K mg [("either",spJoin K),("unlike",spJoin K)]))(c_later:Cal P w K mg base 2 "later" ["turn","number"] (spLater K))(c_either:Cal P w K mg base 5 "either" ["one","other"] (spJoin K)){fv_either:Addr}(v_either:mg "either"=some (.ref fv_either)):FnOk P w K mg base CX0 7 f fd ["R","S"] (spJoin K):=by
 refine F.ok (k:=6) sc_until (fun vs H Q E h=>?_) (fun cdv A outer s H vs Q E hr h=>?_)
 ·obtain⟨a1,a2,n1,n2,b1,b2,rfl,_⟩:=h
  rfl
 obtain⟨a1,a2,n1,n2,b1,b2,rfl,W,lz,q⟩:=h
 have fl:=lcmI_facts W.p1 W.p2
 refine⟨_,(pss_cons (ps_set (i:=2) sc_until.nd rfl (by first | exact Or.inl rfl | exact Or.inr rfl) (pe_cal c_common_size (hr.mono (by decide)) rfl (pa_cons (pv 0) (pa_cons (pv 1) pa_nil))))
  (pss_cons (ps_set (i:=3) sc_until.nd rfl (by first | exact Or.inl rfl | exact Or.inr rfl) (pe_cal c_stretched (hr.mono (by decide)) rfl (pa_cons (pv 0) (pa_cons (pv 2) pa_nil))))
  (pss_one (ps_ret (pe_cal c_both (hr.mono (by decide)) rfl (pa_cons (pv 3) (pa_cons (pe_cal c_gathered (hr.mono (by decide)) rfl (pa_cons (pe_cal c_stretched (hr.mono (by decide)) rfl (pa_cons (pv 1) (pa_cons (pv 2) pa_nil))) (pa_cons (pe_cal c_later (hr.mono (by decide)) rfl (pa_cons (pv 3) (pa_cons (pe_un un_neg pe_int) pa_nil))) (pa_cons (pe_un un_neg pe_int) (pa_cons (pe_glob rfl v_either (rel_ref _)) pa_nil))))) pa_nil))))))),?_⟩
 walk_at "rdx"
 refine⟨a1,a2,n1,n2,b1,b2,rfl,W.s1,W.s2,W.p1,W.p2,W.l1,W.l2,lz,fun H1 s1=>?_⟩
 generalize hz:lcmI n1 n2=z at*
 have z0:=fl.1
 have d1:n1∣z:=fl.2.1
 have d2:n2∣z:=fl.2.2.1
 have ls:=lcm_self z0
 walk_at "rdx"
 refine⟨a1,n1,z,b1,rfl,s1.tup W.s1,W.p1,W.l1,W.k1,z0,lz,d1,fun pr cr hr1 Sr=>?_⟩
 have s2:=same_new hr1 (.tup [.int z,.int (cr:Int)])
 have t2:upd H1 pr (.tup [.int z,.int (cr:Int)]) pr=some (.tup [.int z,.int (cr:Int)]):=upd_same
 generalize upd H1 pr (.tup [.int z,.int (cr:Int)])=H2 at s2 t2 ⊢
 walk_at "rdx"
 refine⟨a2,n2,z,b2,rfl,s2.tup (s1.tup W.s2),W.p2,W.l2,W.k2,z0,lz,d2,fun ps cs hs1 Ss=>?_⟩
 have s3:=same_new hs1 (.tup [.int z,.int (cs:Int)])
 have t3:upd H2 ps (.tup [.int z,.int (cs:Int)]) ps=some (.tup [.int z,.int (cs:Int)]):=upd_same
 generalize upd H2 ps (.tup [.int z,.int (cs:Int)])=H3 at s3 t3 ⊢
 walk_at "rdx"
 refine⟨pr,z,_,cr,rfl,s3.tup (SqT.of t2),z0,lz,Sr.lt,fun pl hl1=>?_⟩
 have s4:=same_new hl1 (.tup [.int z,.int ((lat z.toNat cr (-1%z).toNat:Nat):Int)])
 have t4:upd H3 pl (.tup [.int z,.int ((lat z.toNat cr (-1%z).toNat:Nat):Int)]) pl=some _:=upd_same
 generalize upd H3 pl (.tup [.int z,.int ((lat z.toNat cr (-1%z).toNat:Nat):Int)])=H4 at s4 t4 ⊢
 walk_at "rdx"
 refine⟨ps,pl,_,z,-1,cs,_,_,rfl,List.mem_cons_self,v_either,s4 _ _ t3,SqT.of t4,z0,lz,Ss.lt,lat_lt _ _ _,.inr rfl,fun pg g H5 s5 t5 lg=>?_⟩
 walk_at "rdx"
 refine⟨pr,pg,z,z,cr,g,rfl,⟨s5.tup (s4.tup (s3.tup (SqT.of t2))),SqT.of t5,z0,z0,lz,lz,Sr.lt,lg⟩,by rw[ls];exact lz,fun p c H6 s6 t6 B=>?_⟩
 rw[ls] at t6 B
 exact q p c H6 (s1.trans (s2.trans (s3.trans (s4.trans (s5.trans s6))))) t6 B
theorem sc_till:FnScope ["R","S","size"] ["R","S"] (defScope s_till):=⟨rfl,rfl,rfl,by decide +kernel,rfl,by decide +kernel,by decide +kernel⟩
theorem ok_till{f:Addr}{fd:FuncData}(F:Fun K "till" "till" s_till f fd)(c_common_size:Cal P w K mg base 4 "common_size" ["one","other"] (spCS K))(c_gathered:Cal P w K mg base 6 "gathered" ["turn","barred","step","join"] (spGathS K mg [("either",spJoin K),("unlike",spJoin K)]))(c_stretched:Cal P w K mg base 3 "stretched" ["turn","size"] (spStretched K))(c_either:Cal P w K mg base 5 "either" ["one","other"] (spJoin K)){fv_either:Addr}(v_either:mg "either"=some (.ref fv_either)):FnOk P w K mg base CX0 7 f fd ["R","S"] (spJoin K):=by
 refine F.ok (k:=6) sc_till (fun vs H Q E h=>?_) (fun cdv A outer s H vs Q E hr h=>?_)
 ·obtain⟨a1,a2,n1,n2,b1,b2,rfl,_⟩:=h
  rfl
 obtain⟨a1,a2,n1,n2,b1,b2,rfl,W,lz,q⟩:=h
 have fl:=lcmI_facts W.p1 W.p2
 refine⟨_,(pss_cons (ps_set (i:=2) sc_till.nd rfl (by first | exact Or.inl rfl | exact Or.inr rfl) (pe_cal c_common_size (hr.mono (by decide)) rfl (pa_cons (pv 0) (pa_cons (pv 1) pa_nil))))
  (pss_one (ps_ret (pe_cal c_gathered (hr.mono (by decide)) rfl (pa_cons (pe_cal c_stretched (hr.mono (by decide)) rfl (pa_cons (pv 0) (pa_cons (pv 2) pa_nil))) (pa_cons (pe_cal c_stretched (hr.mono (by decide)) rfl (pa_cons (pv 1) (pa_cons (pv 2) pa_nil))) (pa_cons pe_int (pa_cons (pe_glob rfl v_either (rel_ref _)) pa_nil)))))))),?_⟩
 walk_at "rdx"
 refine⟨a1,a2,n1,n2,b1,b2,rfl,W.s1,W.s2,W.p1,W.p2,W.l1,W.l2,lz,fun H1 s1=>?_⟩
 generalize hz:lcmI n1 n2=z at*
 have z0:=fl.1
 have d1:n1∣z:=fl.2.1
 have d2:n2∣z:=fl.2.2.1
 have ls:=lcm_self z0
 walk_at "rdx"
 refine⟨a1,n1,z,b1,rfl,s1.tup W.s1,W.p1,W.l1,W.k1,z0,lz,d1,fun pr cr hr1 Sr=>?_⟩
 have s2:=same_new hr1 (.tup [.int z,.int (cr:Int)])
 have t2:upd H1 pr (.tup [.int z,.int (cr:Int)]) pr=some (.tup [.int z,.int (cr:Int)]):=upd_same
 generalize upd H1 pr (.tup [.int z,.int (cr:Int)])=H2 at s2 t2 ⊢
 walk_at "rdx"
 refine⟨a2,n2,z,b2,rfl,s2.tup (s1.tup W.s2),W.p2,W.l2,W.k2,z0,lz,d2,fun ps cs hs1 Ss=>?_⟩
 have s3:=same_new hs1 (.tup [.int z,.int (cs:Int)])
 have t3:upd H2 ps (.tup [.int z,.int (cs:Int)]) ps=some (.tup [.int z,.int (cs:Int)]):=upd_same
 generalize upd H2 ps (.tup [.int z,.int (cs:Int)])=H3 at s3 t3 ⊢
 walk_at "rdx"
 refine⟨pr,ps,_,z,1,cr,cs,_,rfl,List.mem_cons_self,v_either,s3 _ _ t2,SqT.of t3,z0,lz,Sr.lt,Ss.lt,.inl rfl,fun pg g H5 s5 t5 lg=>?_⟩
 exact q pg g H5 (s1.trans (s2.trans (s3.trans s5))) t5 lg
theorem sc_nearer_ahead:FnScope ["R","days","behind","first_nearer"] ["R"] (defScope s_nearer_ahead):=⟨rfl,rfl,rfl,by decide +kernel,rfl,by decide +kernel,by decide +kernel⟩
theorem ok_nearer_ahead{f:Addr}{fd:FuncData}(F:Fun K "nearer_ahead" "nearer_ahead" s_nearer_ahead f fd)(c_days_in:Cal P w K mg base 2 "days_in" ["turn"] (spDaysIn K))(c_till:Cal P w K mg base 7 "till" ["R","S"] (spJoin K))(c_round_by:Cal P w K mg base 2 "round_by" ["size","days"] (spRoundBy K))(z_zip:mg "zip"=none):FnOk P w K mg base CX0 8 f fd ["R"] (spNearS K):=by
 refine F.ok (k:=7) sc_nearer_ahead (fun vs H Q E h=>?_) (fun cdv A outer s H vs Q E hr h=>?_)
 ·obtain⟨a,n,b,rfl,_⟩:=h
  rfl
 obtain⟨a,n,b,rfl,hS,h0,h1,hb,q⟩:=h
 refine⟨_,(pss_cons (ps_set (i:=1) sc_nearer_ahead.nd rfl (by first | exact Or.inl rfl | exact Or.inr rfl) (pe_cal c_days_in (hr.mono (by decide)) rfl (pa_cons (pv 0) pa_nil)))
  (pss_cons (ps_set (i:=2) sc_nearer_ahead.nd rfl (by first | exact Or.inl rfl | exact Or.inr rfl) (pe_op op_cat (pe_slice sl_list (pv 1) (po_some pe_int) po_none) (pe_comp rfl (compOk_freeM ["R","days","behind","first_nearer"] ["R","days","behind","first_nearer"] rfl rfl (by with_unfolding_all rfl) (by decide +kernel) rfl (by decide +kernel) rfl (by decide +kernel) (by walk_at "fm") (by with_unfolding_all rfl) (by with_unfolding_all rfl)) (pi_list (pe_slice sl_list (pv 1) po_none (po_some pe_int))) (fun _ _ _ _=>pifs_nil) (fun _ _ _ _=>(pe_op op_add (pv 0) (pe_ix ix_tup_c (pv 1) pe_int (fun _ _=>rfl)))))))
  (pss_cons (ps_setCompT (i:=3) sc_nearer_ahead.nd rfl (by first | exact Or.inl rfl | exact Or.inr rfl) (xs:=["day","other"]) rfl (compOkT_freeM ["day","other"] ["R","days","behind","first_nearer"] ["R","days","behind","first_nearer"] rfl rfl (by with_unfolding_all rfl) (by decide +kernel) rfl (by decide +kernel) (by decide +kernel) (by decide +kernel) (by walk_at "fm") (by with_unfolding_all rfl) (by with_unfolding_all rfl)) (pi_zip rfl z_zip (pa_cons (pv 1) (pa_cons (pv 2) pa_nil))) (fun _ _ _ _=>pifs_nil) (fun _ _ _ _=>(pg_tup_c (n:=2) rfl (pgs_cons (pg_name (i:=0) (show (["day","other","R","days","behind","first_nearer"]:List Str).Nodup from by decide +kernel) rfl (by first | exact Or.inl rfl | exact Or.inr rfl)) (pgs_cons (pg_name (i:=1) (show (["day","other","R","days","behind","first_nearer"]:List Str).Nodup from by decide +kernel) rfl (by first | exact Or.inl rfl | exact Or.inr rfl)) pgs_nil)))) (fun _ _ _ _=>(pe_op op_add (pe_op op_fdivB (pe_op op_add (pv 0) (pv 1)) pe_int) pe_int)))
  (pss_one (ps_ret (pe_cal c_till (hr.mono (by decide)) rfl (pa_cons (pv 0) (pa_cons (pe_cal c_round_by (hr.mono (by decide)) rfl (pa_cons (pe_ix ix_tup (pv 0) pe_int (fun _ _=>rfl)) (pa_cons (pv 3) pa_nil))) pa_nil)))))))),?_⟩
 walk_at "rdx"
 refine⟨a,n,b,rfl,hS,h0,h1,hb,fun l H1 hl s1 t1=>?_⟩
 have mem:=dli_mem (b:=b) h0
 have srt:=dli_pair b n.toNat
 have len:=dli_len b n.toNat
 generalize dli b n.toNat=ds at t1 mem srt len
 walk_at "rdx"
 refine rd_slL (SqL.of t1) (fun l2 hl2=>?_)
 rw[cut_from1]
 have s2:=same_new hl2 (.lst ((ds.drop 1).map V.int))
 have t2:upd H1 l2 (.lst ((ds.drop 1).map V.int)) l2=some _:=upd_same
 generalize upd H1 l2 (.lst ((ds.drop 1).map V.int))=H2 at s2 t2 ⊢
 refine rd_comp (rd_iL ?_)
 walk_at "rdx"
 refine rd_slL (SqL.of (s2 _ _ t1)) (fun l3 hl3=>?_)
 rw[cut_upto1,←List.map_take]
 have s3:=same_new hl3 (.lst ((ds.take 1).map V.int))
 have t3:upd H2 l3 (.lst ((ds.take 1).map V.int)) l3=some _:=upd_same
 generalize upd H2 l3 (.lst ((ds.take 1).map V.int))=H3 at s3 t3 ⊢
 have s13:=s1.trans (s2.trans s3)
 refine⟨l3,rfl,⟨_,SqL.of t3⟩,?_⟩
 refine comp_go walk_l ?_ (fun D ys hD=>(same_new hD _).seq (SqL.of t3)) (fun _=>true) (fun v=>match v with | .int d=>V.int (d+n) | _=>.non) (fun x hx D ys Q' hD h=>h) (fun x hx _ D ys Q' hD h=>?_) (fun D hD=>?_)
 ·rw[List.length_map,List.length_take]
  exact Nat.lt_of_le_of_lt (Nat.min_le_left _ _) (by decide)
 ·obtain⟨d,hd,rfl⟩:=List.mem_map.mp hx
  walk_at "rdx"
  refine rd_ixT ((same_new hD _).tup (s13.tup hS)) at0 ?_
  walk_at "rdx"
  exact h
 rw[List.filter_eq_self.mpr (fun _ _=>rfl),List.map_map]
 rw[show ((fun v:V=>match v with | .int d=>V.int (d+n) | _=>.non) ∘ V.int)=V.int ∘ (· +n) from rfl,←List.map_map]
 have s4:=same_new hD (.lst (((ds.take 1).map (· +n)).map V.int))
 have t4:upd H3 D (.lst (((ds.take 1).map (· +n)).map V.int)) D=some _:=upd_same
 generalize upd H3 D (.lst (((ds.take 1).map (· +n)).map V.int))=H4 at s4 t4 ⊢
 walk_at "rdx"
 have bl:=behind_len n ds
 refine rd_cat ((s3.trans s4) _ _ t2) t4 ?_ (fun l5 hl5=>?_)
 ·rw[←List.length_append,←List.map_append,List.length_map]
  exact Nat.le_trans (Nat.le_of_eq bl) (Nat.le_trans (show ds.length≤150000 by omega) (by decide))
 rw[←List.map_append]
 show gName _ _ _ (upd H4 l5 (.lst ((behindOf n ds).map V.int))) _
 have s5:=same_new hl5 (.lst ((behindOf n ds).map V.int))
 have t5:upd H4 l5 (.lst ((behindOf n ds).map V.int)) l5=some _:=upd_same
 generalize upd H4 l5 (.lst ((behindOf n ds).map V.int))=H5 at s5 t5 ⊢
 have s15:=s13.trans (s4.trans s5)
 have t15:=(s2.trans (s3.trans (s4.trans s5))) _ _ t1
 walk_at "rdx"
 refine rd_compT (rd_zip ?_)
 walk_at "rdx"
 refine⟨l,l5,rfl,⟨_,_,SqL.of t15,SqL.of t5⟩,?_⟩
 refine comp_zip (SqL.of t15) (SqL.of t5) ?_ (fun x y=>(x+y)/2+1) (fun x y H' Q' h=>?_) (fun D6 H6 hD6 s6 t6=>?_)
 ·exact Nat.lt_of_le_of_lt (show ds.length≤150000 by omega) (by decide)
 ·walk_at "rdx"
  exact h
 walk_at "rdx"
 refine rd_ixT (s6.tup (s15.tup hS)) at0 ?_
 walk_at "rdx"
 have ls:=lcm_self h0
 refine⟨D6,mids n ds,n,rfl,SqL.of t6,h0,h1,fun p c H7 s7 t7 B=>?_⟩
 walk_at "rdx"
 refine⟨a,p,n,n,b,c,rfl,⟨(s6.trans s7).tup (s15.tup hS),SqT.of t7,h0,h0,h1,h1,hb,B.lt⟩,by rw[ls];exact h1,fun p8 e H8 s8 t8 le=>?_⟩
 rw[ls] at t8 le
 exact q p8 e H8 (s15.trans (s6.trans (s7.trans s8))) t8 le
theorem sc_near:FnScope ["R","S","early"] ["R","S"] (defScope s_near):=⟨rfl,rfl,rfl,by decide +kernel,rfl,by decide +kernel,by decide +kernel⟩
theorem ok_near{f:Addr}{fd:FuncData}(F:Fun K "near" "near" s_near f fd)(c_nearer_ahead:Cal P w K mg base 8 "nearer_ahead" ["R"] (spNearS K))(c_either:Cal P w K mg base 5 "either" ["one","other"] (spJoin K))(c_until:Cal P w K mg base 7 "until" ["R","S"] (spJoin K))(c_both:Cal P w K mg base 5 "both" ["one","other"] (spJoin K))(c_upon:Cal P w K mg base 7 "upon" ["R","S"] (spJoin K))(c_without:Cal P w K mg base 6 "without" ["one","other"] (spJoin K)):FnOk P w K mg base CX0 9 f fd ["R","S"] (spJoin K):=by
 refine F.ok (k:=8) sc_near (fun vs H Q E h=>?_) (fun cdv A outer s H vs Q E hr h=>?_)
 ·obtain⟨a1,a2,n1,n2,b1,b2,rfl,_⟩:=h
  rfl
 obtain⟨a1,a2,n1,n2,b1,b2,rfl,W,lz,q⟩:=h
 have p1:=W.p1
 have p2:=W.p2
 have fl:=lcmI_facts p1 p2
 have fl':=lcmI_comm p1 p2
 refine⟨_,(pss_cons (ps_set (i:=2) sc_near.nd rfl (by first | exact Or.inl rfl | exact Or.inr rfl) (pe_cal c_nearer_ahead (hr.mono (by decide)) rfl (pa_cons (pv 0) pa_nil)))
  (pss_one (ps_ret (pe_cal c_either (hr.mono (by decide)) rfl (pa_cons (pe_cal c_until (hr.mono (by decide)) rfl (pa_cons (pv 0) (pa_cons (pe_cal c_both (hr.mono (by decide)) rfl (pa_cons (pv 1) (pa_cons (pv 2) pa_nil))) pa_nil))) (pa_cons (pe_cal c_upon (hr.mono (by decide)) rfl (pa_cons (pv 0) (pa_cons (pe_cal c_without (hr.mono (by decide)) rfl (pa_cons (pv 1) (pa_cons (pv 2) pa_nil))) pa_nil))) pa_nil)))))),?_⟩
 walk_at "rdx"
 refine⟨a1,n1,b1,rfl,W.s1,p1,W.l1,W.k1,fun pe e H1 s1 t1 le=>?_⟩
 walk_at "rdx"
 refine⟨a2,pe,n2,n1,b2,e,rfl,⟨s1.tup W.s2,SqT.of t1,p2,p1,W.l2,W.l1,W.k2,le⟩,by rw[←fl'];exact lz,fun pb cb H2 s2 t2 Bb=>?_⟩
 rw[←fl'] at t2 Bb
 generalize hz:lcmI n1 n2=z at*
 have z0:=fl.1
 have d1:n1∣z:=fl.2.1
 have d2:n2∣z:=fl.2.2.1
 have lz1:lcmI n1 z=z:=lcm_dvd p1 z0 d1
 have ls:=lcm_self z0
 walk_at "rdx"
 refine⟨a1,pb,n1,z,b1,cb,rfl,⟨(s1.trans s2).tup W.s1,SqT.of t2,p1,z0,W.l1,lz,W.k1,Bb⟩,by rw[lz1];exact lz,fun pu cu H3 s3 t3 lu=>?_⟩
 rw[lz1] at t3 lu
 have s13:=s1.trans (s2.trans s3)
 walk_at "rdx"
 refine⟨a2,pe,n2,n1,b2,e,rfl,⟨s13.tup W.s2,SqT.of ((s2.trans s3) _ _ t1),p2,p1,W.l2,W.l1,W.k2,le⟩,by rw[←fl'];exact lz,fun pw cw H4 s4 t4 Bw=>?_⟩
 rw[←fl'] at t4 Bw
 walk_at "rdx"
 refine⟨a1,pw,n1,z,b1,cw,rfl,⟨(s13.trans s4).tup W.s1,SqT.of t4,p1,z0,W.l1,lz,W.k1,Bw⟩,by rw[lz1];exact lz,fun pv cv H5 s5 t5 lv=>?_⟩
 rw[lz1] at t5 lv
 walk_at "rdx"
 refine⟨pu,pv,z,z,cu,cv,rfl,⟨SqT.of ((s4.trans s5) _ _ t3),SqT.of t5,z0,z0,lz,lz,lu,lv⟩,by rw[ls];exact lz,fun p c H6 s6 t6 B=>?_⟩
 rw[ls] at t6 B
 exact q p c H6 (s13.trans (s4.trans (s5.trans s6))) t6 B
theorem sc_kth:FnScope ["number","R","S","size","step","ends","days","place","odd"] ["number","R","S"] (defScope s_kth):=⟨rfl,rfl,rfl,by decide +kernel,rfl,by decide +kernel,by decide +kernel⟩
theorem ok_kth{f:Addr}{fd:FuncData}(F:Fun K "kth" "kth" s_kth f fd)(c_common_size:Cal P w K mg base 4 "common_size" ["one","other"] (spCS K))(c_stretched:Cal P w K mg base 3 "stretched" ["turn","size"] (spStretched K))(c_later:Cal P w K mg base 2 "later" ["turn","number"] (spLater K))(c_both:Cal P w K mg base 5 "both" ["one","other"] (spJoin K))(c_gathered:Cal P w K mg base 6 "gathered" ["turn","barred","step","join"] (spGathS K mg [("either",spJoin K),("unlike",spJoin K)]))(c_unlike:Cal P w K mg base 5 "unlike" ["one","other"] (spJoin K))(c_without:Cal P w K mg base 6 "without" ["one","other"] (spJoin K))(c_upon:Cal P w K mg base 7 "upon" ["R","S"] (spJoin K))(c_until:Cal P w K mg base 7 "until" ["R","S"] (spJoin K))(z_abs:mg "abs"=none){fv_unlike:Addr}(v_unlike:mg "unlike"=some (.ref fv_unlike)):FnOk P w K mg base CX0 8 f fd ["number","R","S"] (spKthZ K):=by
 refine F.ok (k:=7) sc_kth (fun vs H Q E h=>?_) (fun cdv A outer s H vs Q E hr h=>?_)
 ·obtain⟨k,a1,a2,n1,n2,b1,b2,rfl,_⟩:=h
  rfl
 obtain⟨k,a1,a2,n1,n2,b1,b2,rfl,W,k0,lz,q⟩:=h
 have fl:=lcmI_facts W.p1 W.p2
 refine⟨_,(pss_cons (ps_if (pt_cmpR op_eq (pv 0) pe_int (nomark _))
  (pss_one ps_never)
  pss_nil)
  (pss_cons (ps_set (i:=3) sc_kth.nd rfl (by first | exact Or.inl rfl | exact Or.inr rfl) (pe_cal c_common_size (hr.mono (by decide)) rfl (pa_cons (pv 1) (pa_cons (pv 2) pa_nil))))
  (pss_cons (ps_cut (ps_set (i:=4) sc_kth.nd rfl (by first | exact Or.inl rfl | exact Or.inr rfl) (pe_ifExp (pt_cmpR op_gt (pv 0) pe_int (nomark _)) pe_int (pe_un un_neg pe_int))))
  (pss_cons (ps_cut (ps_set (i:=5) sc_kth.nd rfl (by first | exact Or.inl rfl | exact Or.inr rfl) (pe_ifExp (pt_cmpR op_gt (pv 0) pe_int (nomark _)) (pe_cal c_stretched (hr.mono (by decide)) rfl (pa_cons (pv 2) (pa_cons (pv 3) pa_nil))) (pe_cal c_later (hr.mono (by decide)) rfl (pa_cons (pe_cal c_stretched (hr.mono (by decide)) rfl (pa_cons (pv 2) (pa_cons (pv 3) pa_nil))) (pa_cons (pe_un un_neg pe_int) pa_nil))))))
  (pss_cons (ps_set (i:=6) sc_kth.nd rfl (by first | exact Or.inl rfl | exact Or.inr rfl) (pe_cal c_stretched (hr.mono (by decide)) rfl (pa_cons (pv 1) (pa_cons (pv 3) pa_nil))))
  (pss_cons (ps_set (i:=7) sc_kth.nd rfl (by first | exact Or.inl rfl | exact Or.inr rfl) (pe_callB call_abs rfl z_abs PyProof.Rows.boot_abs (pa_cons (pv 0) pa_nil)))
  (pss_cons (ps_while PassesOwn.never (PW.pt (pw_and (pt_cmpR op_gt (pv 7) pe_int (nomark _)) (pw_and1 (pt_cmpR op_gt (pe_ix ix_tup (pv 6) pe_int (fun _ _=>rfl)) pe_int (nomark _)))))
   (pss_cons (ps_set (i:=8) sc_kth.nd rfl (by first | exact Or.inl rfl | exact Or.inr rfl) (pe_cal c_both (hr.mono (by decide)) rfl (pa_cons (pv 6) (pa_cons (pe_cal c_gathered (hr.mono (by decide)) rfl (pa_cons (pv 6) (pa_cons (pv 5) (pa_cons (pv 4) (pa_cons (pe_glob rfl v_unlike (rel_ref _)) pa_nil))))) pa_nil))))
  (pss_cons (ps_cut (ps_set (i:=6) sc_kth.nd rfl (by first | exact Or.inl rfl | exact Or.inr rfl) (pe_ifExp (pt_cmpR op_eq (pe_op op_mod (pv 7) pe_int) pe_int (nomark _)) (pv 8) (pe_cal c_without (hr.mono (by decide)) rfl (pa_cons (pv 6) (pa_cons (pv 8) pa_nil))))))
  (pss_one (ps_set (i:=7) sc_kth.nd rfl (by first | exact Or.inl rfl | exact Or.inr rfl) (pe_op op_fdivB (pe_op op_add (pv 7) pe_int) pe_int))))))
  (pss_one (ps_ret (pe_ifExp (pt_cmpR op_gt (pv 0) pe_int (nomark _)) (pe_cal c_upon (hr.mono (by decide)) rfl (pa_cons (pv 6) (pa_cons (pv 5) pa_nil))) (pe_cal c_until (hr.mono (by decide)) rfl (pa_cons (pv 6) (pa_cons (pv 5) pa_nil))))))))))))),?_⟩
 walk_at "rdx"
 refine iteN (fun c=>k0 (by injection c)) ?_
 walk_at "rdx"
 refine⟨a1,a2,n1,n2,b1,b2,rfl,W.s1,W.s2,W.p1,W.p2,W.l1,W.l2,lz,fun H1 s1=>?_⟩
 generalize hz:lcmI n1 n2=z at*
 have z0:=fl.1
 have d1:n1∣z:=fl.2.1
 have d2:n2∣z:=fl.2.2.1
 have ls:=lcm_self z0
 have str2:∀(H':Hp) (Q':VK) (E':XK),Same H H'→(∀(p:Addr) (c:Nat),H' p=none→c<2^z.toNat→Q' (.ref p) (upd H' p (.tup [.int z,.int (c:Int)])))→spStretched K ([.ref a2,.int z]++[]) H' Q' E':=fun H' Q' E' s hq=>
  ⟨a2,n2,z,b2,rfl,s.tup W.s2,W.p2,W.l2,W.k2,z0,lz,d2,fun p c hp S=>hq p c hp S.lt⟩
 walk_at "rdx"
 obtain⟨e,he⟩:∃e:Int,(0<k→e=1)∧(¬0<k→e= -1):=⟨if 0<k then 1 else -1,fun c=>if_pos c,fun c=>if_neg c⟩
 have he':e=1∨e= -1:=by
  by_cases c:0<k
  ·exact .inl (he.1 c)
  ·exact .inr (he.2 c)
 refine rd_cut (fun σ' H'=>σ'=[some (.int k),some (.ref a1),some (.ref a2),some (.int z),some (.int e),none,none,none,none]∧H'=H1) ?_ ?_
 ·walk_at "rdx"
  refine ite2d (fun c=>?_) (fun c=>?_)
  ·rw[he.1 c]
   walk_at "rdx"
   exact⟨rfl,rfl⟩
  ·rw[he.2 c]
   walk_at "rdx"
   exact⟨rfl,rfl⟩
 rintro σ' H1' ⟨rfl,rfl⟩
 walk_at "rdx"
 refine rd_cut (fun σ' H'=>∃(pe:Addr) (ce:Nat),σ'=[some (.int k),some (.ref a1),some (.ref a2),some (.int z),some (.int e),some (.ref pe),none,none,none]∧Same H1' H'∧H' pe=some (.tup [.int z,.int (ce:Int)])∧ce<2^z.toNat) ?_ ?_
 ·walk_at "rdx"
  refine ite2d (fun c=>?_) (fun c=>?_)
  ·walk_at "rdx"
   refine str2 _ _ _ s1 fun ps cs hs1 Ss=>?_
   walk_at "rdx"
   exact⟨ps,cs,rfl,same_new hs1 _,upd_same,Ss⟩
  ·walk_at "rdx"
   refine str2 _ _ _ s1 fun ps cs hs1 Ss=>?_
   walk_at "rdx"
   refine⟨ps,z,-1,cs,rfl,SqT.of upd_same,z0,lz,Ss,fun p hp=>?_⟩
   walk_at "rdx"
   exact⟨p,_,rfl,(same_new hs1 _).trans (same_new hp _),upd_same,lat_lt _ _ _⟩
 rintro σ' H2 ⟨pe,ce,rfl,s2,t2,lce⟩
 walk_at "rdx"
 refine⟨a1,n1,z,b1,rfl,s2.tup (s1.tup W.s1),W.p1,W.l1,W.k1,z0,lz,d1,fun pr cr hr1 Sr=>?_⟩
 have s3:=same_new hr1 (.tup [.int z,.int (cr:Int)])
 have t3:upd H2 pr (.tup [.int z,.int (cr:Int)]) pr=some (.tup [.int z,.int (cr:Int)]):=upd_same
 generalize upd H2 pr (.tup [.int z,.int (cr:Int)])=H3 at s3 t3 ⊢
 walk_at "rdx"
 refine⟨_,rfl,?_⟩
 obtain⟨p0,hp0⟩:∃p0:Int,(if k<0 then -k else k)=p0:=⟨_,rfl⟩
 have ap:p0=(k.natAbs:Int):=by split at hp0<;>omega
 rw[hp0]
 walk_at "rdx"
 refine⟨fun m σ' H'=>Same H3 H'∧∃(pd:Addr) (t:Nat) (p:Int) (od:Option V),1≤p∧p≤p0∧H' pd=some (.tup [.int z,.int (t:Int)])∧t<2^z.toNat∧
  σ'=[some (.int k),some (.ref a1),some (.ref a2),some (.int z),some (.int e),some (.ref pe),some (.ref pd),some (.int p),od]∧m=p.toNat,
  ⟨_,Same.refl _,pr,cr,p0,none,by omega,by omega,t3,Sr.lt,rfl,rfl⟩,?_⟩
 rintro m σ' H4 ⟨s4,pd,t,p,od,p1,pp,td,lt,rfl,rfl⟩
 walk_at "rdx"
 have te:=s4 _ _ (s3 _ _ t2)
 have last:∀(Q':VK) (E':XK),(∀(p':Addr) (c':Nat) (H':Hp),Same H4 H'→H' p'=some (.tup [.int z,.int (c':Int)])→c'<2^z.toNat→Q' (.ref p') H')→spJoin K ([.ref pd,.ref pe]++[]) H4 Q' E':=fun Q' E' hq=>
  ⟨pd,pe,z,z,t,ce,rfl,⟨SqT.of td,SqT.of te,z0,z0,lz,lz,lt,lce⟩,(by rw[ls];exact lz),fun p' c' H' s' t' lc'=>by rw[ls] at t' lc';exact hq p' c' H' s' t' lc'⟩
 have fin:∀p' (c':Nat) H',Same H4 H'→H' p'=some (.tup [.int z,.int (c':Int)])→c'<2^z.toNat→Q (.ref p') H':=fun p' c' H' s' t' lc'=>q p' c' H' (s1.trans (s2.trans (s3.trans (s4.trans s')))) t' lc'
 refine ite2d (fun hp=>?_) (fun hp=>?_)
 ·walk_at "rdx"
  refine rd_ixT (SqT.of td) at1 ?_
  walk_at "rdx"
  refine ite2d (fun ht=>?_) (fun ht=>?_)
  ·refine⟨fun σ' H'=>∃m',m'<p.toNat∧Same H3 H'∧∃(pd:Addr) (t:Nat) (p:Int) (od:Option V),1≤p∧p≤p0∧H' pd=some (.tup [.int z,.int (t:Int)])∧t<2^z.toNat∧
   σ'=[some (.int k),some (.ref a1),some (.ref a2),some (.int z),some (.int e),some (.ref pe),some (.ref pd),some (.int p),od]∧m'=p.toNat,fun σ' H' hh=>hh,?_⟩
   walk_at "rdx"
   refine⟨pd,pe,_,z,e,t,ce,_,rfl,List.mem_cons_of_mem _ List.mem_cons_self,v_unlike,td,SqT.of te,z0,lz,lt,lce,he',fun pg g H5 s5 t5 lg=>?_⟩
   walk_at "rdx"
   refine⟨pd,pg,z,z,t,g,rfl,⟨s5.tup (SqT.of td),SqT.of t5,z0,z0,lz,lz,lt,lg⟩,(by rw[ls];exact lz),fun po c H6 s6 t6 B=>?_⟩
   rw[ls] at t6 B
   have td6:=s6 _ _ (s5 _ _ td)
   walk_at "rdx"
   refine rd_cut (fun σ' H'=>∃(pn:Addr) (t':Nat),σ'=[some (.int k),some (.ref a1),some (.ref a2),some (.int z),some (.int e),some (.ref pe),some (.ref pn),some (.int p),some (.ref po)]∧Same H6 H'∧H' pn=some (.tup [.int z,.int (t':Int)])∧t'<2^z.toNat) ?_ ?_
   ·walk_at "rdx"
    refine ite2d (fun o=>?_) (fun o=>?_)
    ·walk_at "rdx"
     exact⟨po,c,rfl,Same.refl _,t6,B⟩
    ·walk_at "rdx"
     refine⟨pd,po,z,z,t,c,rfl,⟨SqT.of td6,SqT.of t6,z0,z0,lz,lz,lt,B⟩,(by rw[ls];exact lz),fun pn t' H7 s7 t7 B7=>?_⟩
     rw[ls] at t7 B7
     walk_at "rdx"
     exact⟨pn,t',rfl,s7,t7,B7⟩
   rintro σ' H7 ⟨pn,t',rfl,s7,t7,lt'⟩
   walk_at "rdx"
   exact⟨_,(by omega:((p+1)/2).toNat<p.toNat),s4.trans (s5.trans (s6.trans s7)),pn,t',(p+1)/2,_,by omega,by omega,t7,lt',rfl,rfl⟩
  ·walk_at "rdx"
   refine ite2d (fun c=>?_) (fun c=>?_)
   ·walk_at "rdx"
    exact last _ _ fin
   ·walk_at "rdx"
    exact last _ _ fin
 ·refine iteF ?_
  walk_at "rdx"
  refine ite2d (fun c=>?_) (fun c=>?_)
  ·walk_at "rdx"
   exact last _ _ fin
  ·walk_at "rdx"
   exact last _ _ fin
theorem sc_every:FnScope ["number","R","day","size","days","first","places"] ["number","R","day"] (defScope s_every):=⟨rfl,rfl,rfl,by decide +kernel,rfl,by decide +kernel,by decide +kernel⟩
theorem ok_every{f:Addr}{fd:FuncData}(F:Fun K "every" "every" s_every f fd)(c_refuse_below_one:Cal P w K mg base 1 "refuse_below_one" ["number"] spRefuse)(c_refuse_too_long:Cal P w K mg base 1 "refuse_too_long" ["size"] spTooLong)(c_days_in:Cal P w K mg base 2 "days_in" ["turn"] (spDaysIn K))(c_how_many:Cal P w K mg base 5 "how_many" ["turn","first","end"] (spMany K))(c_round_by:Cal P w K mg base 2 "round_by" ["size","days"] (spRoundBy K))(z_list:mg "list"=none)(z_range:mg "range"=none)(z_len:mg "len"=none):FnOk P w K mg base CX0 6 f fd ["number","R","day"] (spEveryZ K):=by
 refine F.ok (k:=5) sc_every (fun vs H Q E h=>?_) (fun cdv A outer s H vs Q E hr h=>?_)
 ·obtain⟨k,d,a,n,b,rfl,_⟩:=h
  rfl
 obtain⟨k,d,a,n,b,rfl,hS,h0,h1,hb,bd,bk,k1,lz,q⟩:=h
 have bn:Bt 64 n:=bt_small (by omega) (by omega) (by decide)
 refine⟨_,(pss_cons (ps_expr (pe_cal c_refuse_below_one (hr.mono (by decide)) rfl (pa_cons (pv 0) pa_nil)))
  (pss_cons (ps_set (i:=3) sc_every.nd rfl (by first | exact Or.inl rfl | exact Or.inr rfl) (pe_op op_mulB (pe_ix ix_tup (pv 1) pe_int (fun _ _=>rfl)) (pv 0)))
  (pss_cons (ps_expr (pe_cal c_refuse_too_long (hr.mono (by decide)) rfl (pa_cons (pv 3) pa_nil)))
  (pss_cons (ps_set (i:=4) sc_every.nd rfl (by first | exact Or.inl rfl | exact Or.inr rfl) (pe_cal c_days_in (hr.mono (by decide)) rfl (pa_cons (pv 1) pa_nil)))
  (pss_cons (ps_set (i:=5) sc_every.nd rfl (by first | exact Or.inl rfl | exact Or.inr rfl) (pe_op op_mod (pe_cal c_how_many (hr.mono (by decide)) rfl (pa_cons (pv 1) (pa_cons pe_int (pa_cons (pv 2) pa_nil)))) (pv 0)))
  (pss_cons (ps_set (i:=6) sc_every.nd rfl (by first | exact Or.inl rfl | exact Or.inr rfl) (pe_lrange3 rfl rfl z_list rfl z_range (pa_cons (pv 5) (pa_cons (pe_op op_mulB (pe_callB call_len_seq rfl z_len PySem.boot_len (pa_cons (pv 4) pa_nil)) (pv 0)) (pa_cons (pv 0) pa_nil)))))
  (pss_one (ps_ret (pe_cal c_round_by (hr.mono (by decide)) rfl (pa_cons (pv 3) (pa_cons (pe_comp rfl (compOk_freeM ["number","R","day","size","days","first","places"] ["number","R","day","size","days","first","places"] rfl rfl (by with_unfolding_all rfl) (by decide +kernel) rfl (by decide +kernel) rfl (by decide +kernel) (by walk_at "fm") (by with_unfolding_all rfl) (by with_unfolding_all rfl)) (pi_list (pv 6)) (fun _ _ _ _=>pifs_nil) (fun _ _ _ _=>(pe_op op_add (pe_op op_mulB (pe_op op_fdivB (pv 0) (pe_callB call_len_c rfl z_len PySem.boot_len (pa_cons (pv 5) pa_nil))) (pe_ix ix_tup_c (pv 2) pe_int (fun _ _=>rfl))) (pe_ix ix_list_c (pv 5) (pe_op op_mod (pv 0) (pe_callB call_len_c rfl z_len PySem.boot_len (pa_cons (pv 5) pa_nil))) (fun _ _=>rfl))))) pa_nil))))))))))),?_⟩
 walk_at "rdx"
 refine⟨k,rfl,k1,?_⟩
 walk_at "rdx"
 refine rd_ixT hS at0 ?_
 walk_at "rdx"
 refine rd_i ⟨64,400,bn,bk,by decide⟩ ?_
 walk_at "rdx"
 refine⟨n*k,rfl,lz,?_⟩
 have kn:=le_mulr h0 (show 0<k by omega)
 walk_at "rdx"
 refine⟨a,n,b,rfl,hS,h0,h1,hb,fun ld H1 _ s1 t1=>?_⟩
 have len:=dli_len b n.toNat
 generalize dli b n.toNat=ds at t1 len
 have hS1:=s1.tup hS
 walk_at "rdx"
 refine⟨a,n,0,d,b,rfl,hS1,h0,h1,hb,(by unfold Bt;decide),bd,fun H2 s2=>?_⟩
 rw[CC_zero,Int.sub_zero]
 walk_at "rdx"
 have f0:=Int.emod_nonneg (CC n b d) (show k≠0 by omega)
 have f1:=Int.emod_lt_of_pos (CC n b d) (show 0<k by omega)
 have t2:=s2 _ _ t1
 have hS2:=s2.tup hS1
 refine⟨ld,_,rfl,.inl (SqL.of t2),?_⟩
 rw[List.length_map]
 walk_at "rdx"
 refine rd_i ⟨64,64,bt_small (by omega) (by omega) (by decide),bt_small (by omega) (by omega) (by decide),by decide⟩ ?_
 walk_at "rdx"
 have mk:(ds.length:Int)*k≤n*k:=Int.mul_le_mul_of_nonneg_right (by omega) (by omega)
 have mk0:0≤(ds.length:Int)*k:=Int.mul_nonneg (by omega) (by omega)
 refine⟨CC n b d%k,(ds.length:Int)*k,k,ds.length,.inl rfl,by omega,by omega,small_step (by omega) (by omega) (by omega) (by omega) (by omega) (by omega),?_,by omega,fun lp hlp=>?_⟩
 ·rw[rangeSize_up (by omega)]
  rcases Nat.eq_zero_or_pos ds.length with z | z
  ·rw[z,if_neg (by simp;omega)]
   rfl
  ·have e1:(ds.length:Int)*k-CC n b d%k-1=(k-1-CC n b d%k)+k*((ds.length:Int)-1):=by
    rw[Int.mul_sub,Int.mul_comm k]
    omega
   have e2:k≤(ds.length:Int)*k:=le_mulr (by omega) (by omega)
   rw[if_pos (by omega),e1,Int.add_mul_ediv_left _ _ (by omega),Int.ediv_eq_zero_of_lt (by omega) (by omega)]
   omega
 have s3:=same_new hlp (.lst ((List.range ds.length).map fun(i:Nat)=>V.int (CC n b d%k+(i:Int)*k)))
 have t3:=s3 _ _ t2
 have p3:upd H2 lp (.lst ((List.range ds.length).map fun(i:Nat)=>V.int (CC n b d%k+(i:Int)*k))) lp=some (.lst ((List.range ds.length).map fun(i:Nat)=>V.int (CC n b d%k+(i:Int)*k))):=upd_same
 have hS3:=s3.tup hS2
 generalize upd H2 lp (.lst ((List.range ds.length).map fun(i:Nat)=>V.int (CC n b d%k+(i:Int)*k)))=H3 at s3 t3 p3 hS3 ⊢
 walk_at "rdx"
 refine rd_comp (rd_iL ?_)
 walk_at "rdx"
 refine⟨lp,rfl,⟨_,SqL.of p3⟩,?_⟩
 refine comp_go walk_l ?_ (fun D' ys hD'=>(same_new hD' _).seq (SqL.of p3)) (fun _=>true) (fun v=>match v with | .int P=>.int (dayOf n ds P) | _=>.non) (fun x hx D' ys Q' hD' h=>h) (fun x hx _ D' ys Q' hD' h=>?_) (fun D' hD'=>?_)
 ·rw[List.length_map,List.length_range]
  exact Nat.lt_of_le_of_lt (show ds.length≤150000 by omega) (by decide)
 ·obtain⟨i,hi,rfl⟩:=List.mem_map.mp hx
  have hi':=List.mem_range.mp hi
  replace h:Q' (.int (dayOf n ds (CC n b d%k+(i:Int)*k))) _:=h
  have ik:(i:Int)*k≤(ds.length:Int)*k:=Int.mul_le_mul_of_nonneg_right (by omega) (by omega)
  have ik0:0≤(i:Int)*k:=Int.mul_nonneg (by omega) (by omega)
  generalize hP:CC n b d%k+(i:Int)*k=P at h ⊢
  have m0:=Int.emod_nonneg P (show (ds.length:Int)≠0 by omega)
  have m1:=Int.emod_lt_of_pos P (show (0:Int)<(ds.length:Int) by omega)
  obtain⟨x,hx⟩:∃x,ds[(P%(ds.length:Int)).toNat]?=some x:=⟨_,List.getElem?_eq_getElem (by omega)⟩
  have ed:dayOf n ds P=P/(ds.length:Int)*n+x:=by
   unfold dayOf
   rw[hx]
   rfl
  rw[ed] at h
  have P0:0≤P:=by omega
  have P1:P/(ds.length:Int)≤P:=Int.ediv_le_self _ P0
  have P2:0≤P/(ds.length:Int):=Int.ediv_nonneg P0 (by omega)
  have t4:=same_new hD' (.lst ys) _ _ t3
  walk_at "rdx"
  refine⟨ld,_,rfl,.inl (SqL.of t4),?_⟩
  rw[List.length_map]
  walk_at "rdx"
  refine rd_i (cdiv_small (by omega) (by omega)) ?_
  walk_at "rdx"
  refine rd_ixT ((same_new hD' _).tup hS3) at0 ?_
  refine rd_i ⟨64,64,bt_small (by omega) (by omega) (by decide),bn,by decide⟩ ?_
  walk_at "rdx"
  refine⟨ld,_,rfl,.inl (SqL.of t4),?_⟩
  rw[List.length_map]
  walk_at "rdx"
  rw[show P%(ds.length:Int)=(((P%(ds.length:Int)).toNat:Nat):Int) by omega]
  refine rd_ixL (SqL.of t4) (atI_nat (at_map hx)) ?_
  walk_at "rdx"
  exact h
 have e:((((List.range ds.length).map fun(i:Nat)=>V.int (CC n b d%k+(i:Int)*k)).filter fun _=>true).map fun v=>match v with | .int P=>V.int (dayOf n ds P) | _=>.non)=(((List.range ds.length).map fun(i:Nat)=>dayOf n ds (CC n b d%k+(i:Int)*k)).map V.int):=by
  rw[List.filter_eq_self.mpr (fun _ _=>rfl),List.map_map,List.map_map]
  rfl
 rw[e]
 walk_at "rdx"
 refine⟨D',_,n*k,rfl,SqL.of upd_same,by omega,lz,fun p c H5 s5 t5 B=>?_⟩
 exact q p c H5 ((((s1.trans s2).trans s3).trans (same_new hD' _)).trans s5) t5 B.lt
theorem sc_term_on:FnScope ["term","k"] ["term","k"] (defScope s_term_on):=⟨rfl,rfl,rfl,by decide +kernel,rfl,by decide +kernel,by decide +kernel⟩
theorem ok_term_on{f:Addr}{fd:FuncData}(F:Fun K "term_on" "term_on" s_term_on f fd):FnOk P w K mg base CX0 1 f fd ["term","k"] spNo:=by
 refine F.ok (k:=0) sc_term_on (fun vs H Q E h=>?_) (fun cdv A outer s H vs Q E hr h=>?_)
 ·exact h.elim
 exact h.elim
theorem sc_signs_upto:FnScope ["terms","k"] ["terms","k"] (defScope s_signs_upto):=⟨rfl,rfl,rfl,by decide +kernel,rfl,by decide +kernel,by decide +kernel⟩
theorem ok_signs_upto{f:Addr}{fd:FuncData}(F:Fun K "signs_upto" "signs_upto" s_signs_upto f fd)(z_sum:mg "sum"=none):FnOk P w K mg base CX0 1 f fd ["terms","k"] (spSigns7 K):=by
 refine F.ok (k:=0) sc_signs_upto (fun vs H Q E h=>?_) (fun cdv A outer s H vs Q E hr h=>?_)
 ·obtain⟨p,k,rfl,_⟩:=h
  rfl
 obtain⟨p,k,rfl,hS,q⟩:=h
 refine⟨_,(pss_one (ps_ret (pe_callB (call_sum rfl) rfl z_sum PyProof.Rows.boot_sum (pa_cons (pe_comp rfl (compOk_freeM ["terms","k"] ["terms","k"] rfl rfl (by with_unfolding_all rfl) (by decide +kernel) rfl (by decide +kernel) rfl (by decide +kernel) (by walk_at "fm") (by with_unfolding_all rfl) (by with_unfolding_all rfl)) (pi_tup (pv 0)) (fun _ _ _ _=>pifs_nil) (fun _ _ _ _=>(pe_op op_mulB (pe_ix ix_tup_c (pv 0) pe_int (fun _ _=>rfl)) (pe_op op_fdivB (pe_op op_add (pe_op op_mulB (pe_ix ix_tup_c (pv 0) pe_int (fun _ _=>rfl)) (pv 2)) (pe_ix ix_tup_c (pv 0) pe_int (fun _ _=>rfl))) (pe_ix ix_tup_c (pv 0) pe_int (fun _ _=>rfl)))))) pa_nil)))),?_⟩
 walk_at "rd"
 refine comp_t rfl hS (by decide) (fun _=>true) (fun v=>v) (fun x hx=>nomatch hx) (fun x hx=>nomatch hx) (fun D hD=>?_)
 walk_at "rd"
 exact⟨D,[],rfl,SqL.of upd_same,q _ (same_new hD _)⟩
theorem sc_is_term:FnScope ["term"] ["term"] (defScope s_is_term):=⟨rfl,rfl,rfl,by decide +kernel,rfl,by decide +kernel,by decide +kernel⟩
theorem ok_is_term{f:Addr}{fd:FuncData}(F:Fun K "is_term" "is_term" s_is_term f fd){tk_GREATEST_N:Tok}(m_GREATEST_N:mg "GREATEST_N"=some (.int 1000 tk_GREATEST_N)):FnOk P w K mg base CX0 1 f fd ["term"] spNo:=by
 refine F.ok (k:=0) sc_is_term (fun vs H Q E h=>?_) (fun cdv A outer s H vs Q E hr h=>?_)
 ·exact h.elim
 exact h.elim
theorem sc_least_length:FnScope ["base","terms"] ["base","terms"] (defScope s_least_length):=⟨rfl,rfl,rfl,by decide +kernel,rfl,by decide +kernel,by decide +kernel⟩
theorem ok_least_length{f:Addr}{fd:FuncData}(F:Fun K "least_length" "least_length" s_least_length f fd)(z_len:mg "len"=none):FnOk P w K mg base CX0 1 f fd ["base","terms"] (spLeast7 K):=by
 refine F.ok (k:=0) sc_least_length (fun vs H Q E h=>?_) (fun cdv A outer s H vs Q E hr h=>?_)
 ·obtain⟨p,b,rfl,_⟩:=h
  rfl
 obtain⟨p,b,rfl,hS,q⟩:=h
 refine⟨_,(pss_one (ps_ret (pe_op op_sub (pv 0) (pe_callB call_len_seq rfl z_len PySem.boot_len (pa_cons (pe_comp rfl (compOk_nil ["base","terms"] rfl (by decide +kernel) rfl (by decide +kernel) rfl (by decide +kernel) (by decide +kernel)) (pi_tup (pv 1)) (fun _ _ _ _=>(pifs_one (pt_cmpR op_eq (pe_ix ix_tup_c (pv 0) pe_int (fun _ _=>rfl)) (pe_un un_neg pe_int) (nomark _)))) (fun _ _ _ _=>(pv 0))) pa_nil))))),?_⟩
 walk_at "rd"
 refine comp_t rfl hS (by decide) (fun _=>true) (fun v=>v) (fun x hx=>nomatch hx) (fun x hx=>nomatch hx) (fun D hD=>?_)
 walk_at "rd"
 refine⟨D,[],rfl,.inl (SqL.of upd_same),?_⟩
 walk_at "rd"
 rw[show b-(([]:List V).length:Int)=b from Int.sub_zero b]
 exact q _ (same_new hD _)
theorem sc_refuse_measure:FnScope ["base","terms"] ["base","terms"] (defScope s_refuse_measure):=⟨rfl,rfl,rfl,by decide +kernel,rfl,by decide +kernel,by decide +kernel⟩
theorem ok_refuse_measure{f:Addr}{fd:FuncData}(F:Fun K "refuse_measure" "refuse_measure" s_refuse_measure f fd)(c_is_term:Cal P w K mg base 1 "is_term" ["term"] spNo)(c_least_length:Cal P w K mg base 1 "least_length" ["base","terms"] (spLeast7 K))(z_len:mg "len"=none)(z_all:mg "all"=none){tk_GREATEST_BASE:Tok}(m_GREATEST_BASE:mg "GREATEST_BASE"=some (.int 20000 tk_GREATEST_BASE)){tk_MOST_TERMS:Tok}(m_MOST_TERMS:mg "MOST_TERMS"=some (.int 6 tk_MOST_TERMS)):FnOk P w K mg base CX0 2 f fd ["base","terms"] (spRefM7 K):=by
 refine F.ok (k:=1) sc_refuse_measure (fun vs H Q E h=>?_) (fun cdv A outer s H vs Q E hr h=>?_)
 ·obtain⟨p,b,rfl,_⟩:=h
  rfl
 obtain⟨p,b,rfl,hS,b0,b1,q⟩:=h
 refine⟨_,(pss_cons (ps_if (PW.pt (pw_or (pt_cmpR op_lt (pv 0) pe_int (nomark _)) (pw_or1 (pt_cmpR op_gt (pv 0) (pe_glob rfl m_GREATEST_BASE (rel_int _ _)) (nomark _)))))
  (pss_one ps_never)
  pss_nil)
  (pss_cons (ps_if (pt_cmpR op_gt (pe_callB call_len_seq rfl z_len PySem.boot_len (pa_cons (pv 1) pa_nil)) (pe_glob rfl m_MOST_TERMS (rel_int _ _)) (nomark _))
   (pss_one ps_never)
   pss_nil)
  (pss_cons (ps_if (pt_not (pt_val (pe_callB (call_all rfl) rfl z_all PyProof.Rows.boot_all (pa_cons (pe_comp rfl (compOk_nil ["base","terms"] rfl (by decide +kernel) rfl (by decide +kernel) rfl (by decide +kernel) (by decide +kernel)) (pi_tup (pv 1)) (fun _ _ _ _=>pifs_nil) (fun _ _ _ _=>(pe_cal c_is_term (hr.mono (by decide)) rfl (pa_cons (pv 0) pa_nil)))) pa_nil))))
   (pss_one ps_never)
   pss_nil)
  (pss_one (ps_if (pt_cmpR op_lt (pe_cal c_least_length (hr.mono (by decide)) rfl (pa_cons (pv 0) (pa_cons (pv 1) pa_nil))) pe_int (nomark _))
   (pss_one ps_never)
   pss_nil))))),?_⟩
 walk_at "rd"
 refine iteN (by omega) ?_
 walk_at "rd"
 refine iteN (by omega) ?_
 walk_at "rd"
 refine⟨p,[],rfl,.inr hS,?_⟩
 walk_at "rd"
 refine iteN (by decide) ?_
 walk_at "rd"
 refine comp_t rfl hS (by decide) (fun _=>true) (fun v=>v) (fun x hx=>nomatch hx) (fun x hx=>nomatch hx) (fun D hD=>?_)
 have s1:=same_new hD (.lst ((([]:List V).filter fun _=>true).map fun v=>v))
 walk_at "rd"
 refine⟨D,[],rfl,SqL.of upd_same,?_⟩
 walk_at "rd"
 refine iteF ?_
 walk_at "rd"
 refine⟨p,b,rfl,s1.tup hS,fun H2 s2=>?_⟩
 walk_at "rd"
 refine iteN (by omega) ?_
 walk_at "rd"
 exact q _ (s1.trans s2)
theorem sc_period_of:FnScope ["terms","told","term"] ["terms"] (defScope s_period_of):=⟨rfl,rfl,rfl,by decide +kernel,rfl,by decide +kernel,by decide +kernel⟩
theorem ok_period_of{f:Addr}{fd:FuncData}(F:Fun K "period_of" "period_of" s_period_of f fd)(c_common:Cal P w K mg base 3 "common" ["one","other"] spCommon):FnOk P w K mg base CX0 4 f fd ["terms"] (spPer7 K):=by
 refine F.ok (k:=3) sc_period_of (fun vs H Q E h=>?_) (fun cdv A outer s H vs Q E hr h=>?_)
 ·obtain⟨p,rfl,_⟩:=h
  rfl
 obtain⟨p,rfl,hS,q⟩:=h
 refine⟨_,(pss_cons (ps_set (i:=1) sc_period_of.nd rfl (by first | exact Or.inl rfl | exact Or.inr rfl) pe_int)
  (pss_cons (ps_for PassesOwn.never rfl (pi_tup (pv 0)) (pg_name (i:=2) sc_period_of.nd rfl (by first | exact Or.inl rfl | exact Or.inr rfl))
   (pss_one (ps_set (i:=1) sc_period_of.nd rfl (by first | exact Or.inl rfl | exact Or.inr rfl) (pe_cal c_common (hr.mono (by decide)) rfl (pa_cons (pv 1) (pa_cons (pe_ix ix_tup (pv 2) pe_int (fun _ _=>rfl)) pa_nil))))))
  (pss_one (ps_ret (pv 1))))),?_⟩
 walk_at "rd"
 walk_at "rdf"
 walk_at "rd"
 refine⟨p,rfl,⟨_,hS⟩,for_tup (xs:=[]) (fun i σ' H'=>Same H H'∧∃c:Option V,σ'=[some (.ref p),some (.int 1),c]) ⟨Same.refl _,none,rfl⟩ ?_ ?_ ?_⟩
 ·rintro i σ' H' _ ⟨s,_⟩
  exact s.tup hS
 ·rintro i x σ' H' hx
  simp at hx
 ·rintro σ' H' ⟨s,c,rfl⟩
  walk_at "rd"
  exact q _ s
theorem sc_Measure_upto:FnScope ["self","k"] ["self","k"] (defScope s_Measure_upto):=⟨rfl,rfl,rfl,by decide +kernel,rfl,by decide +kernel,by decide +kernel⟩
theorem ok_Measure_upto{f:Addr}{fd:FuncData}(F:Fun K "upto" "Measure.upto" s_Measure_upto f fd)(er:Errs K mg c_FeastError c_NoNumber c_TooLong c_NoMeasure c_Rule c_All c_No c_Each c_Dated c_Not c_Both c_Either c_But c_Unlike c_Later c_Upon c_Until c_Near c_Till c_Kth c_Every c_Measure c_Calendar c_Sun)(c_signs_upto:Cal P w K mg base 1 "signs_upto" ["terms","k"] (spSigns7 K)):FnOk P w K mg base CX0 2 f fd ["self","k"] (spUpto7 c_Measure):=by
 refine F.ok (k:=1) sc_Measure_upto (fun vs H Q E h=>?_) (fun cdv A outer s H vs Q E hr h=>?_)
 ·obtain⟨x,dx,p,k,b,fs,rfl,_⟩:=h
  rfl
 obtain⟨x,dx,p,k,b,fs,rfl,hx,fb,ft,hp,b0,b1,k0,k1,q⟩:=h
 refine⟨_,(pss_one (ps_ret (pe_op op_add (pe_op op_mulB (pe_fld (pv 0) (by rfl)) (pv 1)) (pe_cal c_signs_upto (hr.mono (by decide)) rfl (pa_cons (pe_fld (pv 0) (by rfl)) (pa_cons (pv 1) pa_nil)))))),?_⟩
 walk_at "rd"
 refine⟨x,c_Measure,dx,fs,_,rfl,hx,er.cl_Measure,er.na_Measure_base,fb,?_⟩
 walk_at "rd"
 refine rd_i ⟨64,64,bt_small (by omega) (by omega) (by decide),bt_small (by omega) (by omega) (by decide),by decide⟩ ?_
 walk_at "rd"
 refine⟨x,c_Measure,dx,fs,_,rfl,hx,er.cl_Measure,er.na_Measure_terms,ft,?_⟩
 walk_at "rd"
 refine⟨p,k,rfl,SqT.of hp,fun H' s=>?_⟩
 walk_at "rd"
 rw[Int.add_zero]
 exact q _ s
theorem sc_Measure___init__:FnScope ["self","base","terms"] ["self","base","terms"] (defScope s_Measure___init__):=⟨rfl,rfl,rfl,by decide +kernel,rfl,by decide +kernel,by decide +kernel⟩
theorem ok_Measure___init__{f:Addr}{fd:FuncData}{ds:Array Value}(F:FunD K "__init__" "Measure.__init__" s_Measure___init__ f fd ds)(er:Errs K mg c_FeastError c_NoNumber c_TooLong c_NoMeasure c_Rule c_All c_No c_Each c_Dated c_Not c_Both c_Either c_But c_Unlike c_Later c_Upon c_Until c_Near c_Till c_Kth c_Every c_Measure c_Calendar c_Sun)(c_refuse_measure:Cal P w K mg base 2 "refuse_measure" ["base","terms"] (spRefM7 K))(c_period_of:Cal P w K mg base 4 "period_of" ["terms"] (spPer7 K))(c_Measure_upto:CalM P w K mg base CX0 2 c_Measure "upto" ["self","k"] (spUpto7 c_Measure))(z_tuple:mg "tuple"=none):FnOk P w K mg base CX0 5 f fd ["self","base","terms"] (spInitM7 c_Measure):=by
 refine F.ok (k:=4) sc_Measure___init__ (fun vs H Q E h=>?_) (fun cdv A outer s H vs Q E hr h=>?_)
 ·obtain⟨x,dx,b,rfl,_⟩:=h
  rfl
 obtain⟨x,dx,b,rfl,hx,b0,b1,q⟩:=h
 refine⟨_,(pss_cons (ps_fld (pv 0) (pv 1) (by rfl))
  (pss_cons (ps_fld (pv 0) (pe_ifExp (pt_cmpR op_isN (pv 2) pe_non (nomark _)) (pe_tup pa_nil) (pe_callTy call_tuple_of rfl z_tuple PyProof.Rows.boot_tuple (pa_cons (pv 2) pa_nil))) (by rfl))
  (pss_cons (ps_expr (pe_cal c_refuse_measure (hr.mono (by decide)) rfl (pa_cons (pe_fld (pv 0) (by rfl)) (pa_cons (pe_fld (pv 0) (by rfl)) pa_nil))))
  (pss_cons (ps_fld (pv 0) (pe_cal c_period_of (hr.mono (by decide)) rfl (pa_cons (pe_fld (pv 0) (by rfl)) pa_nil)) (by rfl))
  (pss_cons (ps_fld (pv 0) (pe_mcal c_Measure_upto er.cl_Measure (hr.mono (by decide)) (pv 0) (pa_cons (pe_fld (pv 0) (by rfl)) pa_nil)) (by rfl))
  (pss_one (ps_if (pt_cmpR op_eq (pe_fld (pv 0) (by rfl)) pe_int (nomark _))
   (pss_one ps_never)
   pss_nil))))))),?_⟩
 walk_at "rdx"
 refine⟨x,c_Measure,dx,[],rfl,hx,er.cl_Measure,er.na_Measure_base,by decide,?_⟩
 refine put7 fun H1 k1 x1=>?_
 walk_at "rdx"
 refine⟨rfl,?_⟩
 walk_at "rdx"
 refine iteD rfl ?_
 walk_at "rdx"
 refine⟨Nat.zero_le _,fun p hp=>?_⟩
 have px:x≠p:=ne_of_none x1 hp
 refine fresh hp fun H1' s1' t1'=>?_
 have x1:=s1' _ _ x1
 walk_at "rdx"
 refine⟨x,c_Measure,dx,_,rfl,x1,er.cl_Measure,er.na_Measure_terms,(by show 1<1000;decide),?_⟩
 refine put7 fun H2 k2 x2=>?_
 have p2:=k2 _ _ (Ne.symm px) t1'
 walk_at "rdx"
 refine⟨x,c_Measure,dx,_,_,rfl,x2,er.cl_Measure,er.na_Measure_base,rfl,?_⟩
 walk_at "rdx"
 refine⟨x,c_Measure,dx,_,_,rfl,x2,er.cl_Measure,er.na_Measure_terms,rfl,?_⟩
 walk_at "rdx"
 refine⟨p,b,rfl,SqT.of p2,by omega,by omega,fun H3 s3=>?_⟩
 have x3:=s3 _ _ x2
 walk_at "rdx"
 refine⟨x,c_Measure,dx,_,_,rfl,x3,er.cl_Measure,er.na_Measure_terms,rfl,?_⟩
 walk_at "rdx"
 refine⟨p,rfl,SqT.of (s3 _ _ p2),fun H4 s4=>?_⟩
 have x4:=s4 _ _ x3
 have p4:=(s3.trans s4) _ _ p2
 walk_at "rdx"
 refine⟨x,c_Measure,dx,_,rfl,x4,er.cl_Measure,er.na_Measure_full_count,(by show 2<1000;decide),?_⟩
 refine put7 fun H5 k5 x5=>?_
 have p5:=k5 _ _ (Ne.symm px) p4
 walk_at "rdx"
 refine⟨x,dx,_,rfl,x5,rfl,?_⟩
 walk_at "rdx"
 refine⟨x,c_Measure,dx,_,_,rfl,x5,er.cl_Measure,er.na_Measure_full_count,rfl,?_⟩
 walk_at "rdx"
 refine⟨x,dx,p,1,b,_,rfl,x5,rfl,rfl,p5,by omega,by omega,by omega,by omega,fun H6 s6=>?_⟩
 rw[Int.mul_one]
 have x6:=s6 _ _ x5
 walk_at "rdx"
 refine⟨x,c_Measure,dx,_,rfl,x6,er.cl_Measure,er.na_Measure_full_sum,(by show 3<1000;decide),?_⟩
 refine put7 fun H7 k7 x7=>?_
 walk_at "rdx"
 refine⟨x,c_Measure,dx,_,_,rfl,x7,er.cl_Measure,er.na_Measure_full_sum,rfl,?_⟩
 walk_at "rdx"
 refine iteN (fun z=>by have:=V.int.inj z;omega) ?_
 walk_at "rdx"
 refine q _ (fun y o hy e=>k7 _ _ hy (s6 _ _ (k5 _ _ hy ((s3.trans s4) _ _ (k2 _ _ hy (s1' _ _ (k1 _ _ hy e))))))) ⟨dx,p,x7,k7 _ _ (Ne.symm px) (s6 _ _ p5)⟩
theorem sc_Measure_at:FnScope ["self","k"] ["self","k"] (defScope s_Measure_at):=⟨rfl,rfl,rfl,by decide +kernel,rfl,by decide +kernel,by decide +kernel⟩
theorem ok_Measure_at{f:Addr}{fd:FuncData}(F:Fun K "at" "Measure.at" s_Measure_at f fd)(er:Errs K mg c_FeastError c_NoNumber c_TooLong c_NoMeasure c_Rule c_All c_No c_Each c_Dated c_Not c_Both c_Either c_But c_Unlike c_Later c_Upon c_Until c_Near c_Till c_Kth c_Every c_Measure c_Calendar c_Sun)(c_term_on:Cal P w K mg base 1 "term_on" ["term","k"] spNo)(z_sum:mg "sum"=none):FnOk P w K mg base CX0 2 f fd ["self","k"] (spAt7 c_Measure):=by
 refine F.ok (k:=1) sc_Measure_at (fun vs H Q E h=>?_) (fun cdv A outer s H vs Q E hr h=>?_)
 ·obtain⟨x,k,b,rfl,_⟩:=h
  rfl
 obtain⟨x,k,b,rfl,⟨dx,p,hx,hp⟩,q⟩:=h
 refine⟨_,(pss_one (ps_ret (pe_op op_add (pe_fld (pv 0) (by rfl)) (pe_callB (call_sum rfl) rfl z_sum PyProof.Rows.boot_sum (pa_cons (pe_comp rfl (compOk_freeM ["self","k"] ["self","k"] rfl rfl (by with_unfolding_all rfl) (by decide +kernel) rfl (by decide +kernel) rfl (by decide +kernel) (by walk_at "fm") (by with_unfolding_all rfl) (by with_unfolding_all rfl)) (pi_tup (pe_fld (pv 0) (by rfl))) (fun _ _ _ _=>(pifs_one (pt_val (pe_cal c_term_on (hr.mono (by decide)) rfl (pa_cons (pv 0) (pa_cons (pv 2) pa_nil)))))) (fun _ _ _ _=>(pe_ix ix_tup_c (pv 0) pe_int (fun _ _=>rfl)))) pa_nil))))),?_⟩
 walk_at "rdx"
 refine⟨x,c_Measure,dx,_,_,rfl,hx,er.cl_Measure,er.na_Measure_base,rfl,?_⟩
 walk_at "rdx"
 refine rd_comp (rd_iT ?_)
 walk_at "rdx"
 refine⟨x,c_Measure,dx,_,_,rfl,hx,er.cl_Measure,er.na_Measure_terms,rfl,?_⟩
 refine⟨p,rfl,⟨_,SqT.of hp⟩,comp_go walk_t (by decide) (fun D ys hD=>(same_new hD _).tup (SqT.of hp)) (fun _=>true) (fun v=>v) (fun y hy=>nomatch hy) (fun y hy=>nomatch hy) (fun D hD=>?_)⟩
 walk_at "rdx"
 refine⟨D,[],rfl,SqL.of upd_same,?_⟩
 walk_at "rdx"
 rw[show b+([]:List Int).sum=b from Int.add_zero b]
 exact q _ (same_new hD _)
theorem sc_Measure_period:FnScope ["self"] ["self"] (defScope s_Measure_period):=⟨rfl,rfl,rfl,by decide +kernel,rfl,by decide +kernel,by decide +kernel⟩
theorem ok_Measure_period{f:Addr}{fd:FuncData}(F:Fun K "period" "Measure.period" s_Measure_period f fd)(er:Errs K mg c_FeastError c_NoNumber c_TooLong c_NoMeasure c_Rule c_All c_No c_Each c_Dated c_Not c_Both c_Either c_But c_Unlike c_Later c_Upon c_Until c_Near c_Till c_Kth c_Every c_Measure c_Calendar c_Sun):FnOk P w K mg base CX0 1 f fd ["self"] (spPeriod7 c_Measure):=by
 refine F.ok (k:=0) sc_Measure_period (fun vs H Q E h=>?_) (fun cdv A outer s H vs Q E hr h=>?_)
 ·obtain⟨x,b,rfl,_⟩:=h
  rfl
 obtain⟨x,b,rfl,⟨dx,p,hx,hp⟩,q⟩:=h
 refine⟨_,(pss_one (ps_ret (pe_fld (pv 0) (by rfl)))),?_⟩
 walk_at "rdx"
 refine⟨x,c_Measure,dx,_,_,rfl,hx,er.cl_Measure,er.na_Measure_full_count,rfl,?_⟩
 exact q
theorem sc_refuse_months:FnScope ["lengths","leap"] ["lengths","leap"] (defScope s_refuse_months):=⟨rfl,rfl,rfl,by decide +kernel,rfl,by decide +kernel,by decide +kernel⟩
theorem ok_refuse_months{f:Addr}{fd:FuncData}(F:Fun K "refuse_months" "refuse_months" s_refuse_months f fd)(z_len:mg "len"=none)(z_min:mg "min"=none)(z_max:mg "max"=none){tk_MOST_MONTHS:Tok}(m_MOST_MONTHS:mg "MOST_MONTHS"=some (.int 20 tk_MOST_MONTHS)){tk_LONGEST_MONTH:Tok}(m_LONGEST_MONTH:mg "LONGEST_MONTH"=some (.int 1000 tk_LONGEST_MONTH)):FnOk P w K mg base CX0 1 f fd ["lengths","leap"] (spRefMo7 K):=by
 refine F.ok (k:=0) sc_refuse_months (fun vs H Q E h=>?_) (fun cdv A outer s H vs Q E hr h=>?_)
 ·obtain⟨l,k,rfl,_⟩:=h
  rfl
 obtain⟨l,k,rfl,hS,k0,k1,q⟩:=h
 refine⟨_,(pss_cons (ps_if (PW.pt (pw_or (pt_cmpR op_lt (pe_callB call_len_seq rfl z_len PySem.boot_len (pa_cons (pv 0) pa_nil)) pe_int (nomark _)) (pw_or1 (pt_cmpR op_gt (pe_callB call_len_seq rfl z_len PySem.boot_len (pa_cons (pv 0) pa_nil)) (pe_glob rfl m_MOST_MONTHS (rel_int _ _)) (nomark _)))))
  (pss_one ps_never)
  pss_nil)
  (pss_cons (ps_if (PW.pt (pw_or (pt_cmpR op_lt (pe_callB (call_minL rfl) rfl z_min PyProof.Rows.boot_min (pa_cons (pv 0) pa_nil)) pe_int (nomark _)) (pw_or1 (pt_cmpR op_gt (pe_callB (call_maxL rfl) rfl z_max PyProof.Rows.boot_max (pa_cons (pv 0) pa_nil)) (pe_glob rfl m_LONGEST_MONTH (rel_int _ _)) (nomark _)))))
   (pss_one ps_never)
   pss_nil)
  (pss_one (ps_if (PW.pt (pw_or (pt_cmpR op_lt (pv 1) pe_int (nomark _)) (pw_or1 (pt_cmpR op_gt (pv 1) (pe_callB call_len_seq rfl z_len PySem.boot_len (pa_cons (pv 0) pa_nil)) (nomark _)))))
   (pss_one ps_never)
   pss_nil)))),?_⟩
 walk_at "rdx"
 refine⟨l,_,rfl,.inl hS,?_⟩
 walk_at "rdx"
 refine iteN (by simp) ?_
 walk_at "rdx"
 refine⟨l,_,rfl,.inl hS,?_⟩
 walk_at "rdx"
 refine iteN (by simp) ?_
 walk_at "rdx"
 refine⟨l,[k],rfl,hS,(fun z=>nomatch z),fun m hm _=>?_⟩
 have hm:=List.mem_singleton.mp hm
 walk_at "rdx"
 refine iteN (by omega) ?_
 walk_at "rdx"
 refine⟨l,[k],rfl,hS,(fun z=>nomatch z),fun m hm _=>?_⟩
 have hm:=List.mem_singleton.mp hm
 walk_at "rdx"
 refine iteN (by omega) ?_
 walk_at "rdx"
 refine iteN (by omega) ?_
 walk_at "rdx"
 refine⟨l,_,rfl,.inl hS,?_⟩
 walk_at "rdx"
 refine iteN (by simp) ?_
 walk_at "rdx"
 exact q
theorem sc_Sun___init__:FnScope ["self","start","lengths","leap","terms"] ["self","start","lengths","leap","terms"] (defScope s_Sun___init__):=⟨rfl,rfl,rfl,by decide +kernel,rfl,by decide +kernel,by decide +kernel⟩
theorem ok_Sun___init__{f:Addr}{fd:FuncData}{ds:Array Value}(F:FunD K "__init__" "Sun.__init__" s_Sun___init__ f fd ds)(er:Errs K mg c_FeastError c_NoNumber c_TooLong c_NoMeasure c_Rule c_All c_No c_Each c_Dated c_Not c_Both c_Either c_But c_Unlike c_Later c_Upon c_Until c_Near c_Till c_Kth c_Every c_Measure c_Calendar c_Sun)(c_refuse_months:Cal P w K mg base 1 "refuse_months" ["lengths","leap"] (spRefMo7 K))(c_Measure___init__:CalI P w K mg base CX0 5 "Measure" c_Measure ["self","base","terms"] (spInitM7 c_Measure))(c_least_length:Cal P w K mg base 1 "least_length" ["base","terms"] (spLeast7 K))(z_tuple:mg "tuple"=none)(z_sum:mg "sum"=none):FnOk P w K mg base CX0 7 f fd ["self","start","lengths","leap","terms"] (spInitS7 c_Sun c_Measure):=by
 refine F.ok (k:=6) sc_Sun___init__ (fun vs H Q E h=>?_) (fun cdv A outer s H vs Q E hr h=>?_)
 ·obtain⟨x,dx,ll,s,k,rfl,_⟩:=h
  rfl
 obtain⟨x,dx,ll,s,k,rfl,hx,hl,k0,k1,q⟩:=h
 have lx:ll≠x:=ne_of hl hx (by intro z;cases z)
 refine⟨_,(pss_cons (ps_expr (pe_cal c_refuse_months (hr.mono (by decide)) rfl (pa_cons (pv 2) (pa_cons (pv 3) pa_nil))))
  (pss_cons (ps_fld (pv 0) (pv 1) (by rfl))
  (pss_cons (ps_fld (pv 0) (pe_callTy call_tuple_of rfl z_tuple PyProof.Rows.boot_tuple (pa_cons (pv 2) pa_nil)) (by rfl))
  (pss_cons (ps_fld (pv 0) (pv 3) (by rfl))
  (pss_cons (ps_fld (pv 0) (pe_mk c_Measure___init__ (hr.mono (by decide)) rfl (pa_cons (pe_callB (call_sum rfl) rfl z_sum PyProof.Rows.boot_sum (pa_cons (pv 2) pa_nil)) (pa_cons (pv 4) pa_nil))) (by rfl))
  (pss_cons (ps_if (pt_cmpR op_lt (pe_cal c_least_length (hr.mono (by decide)) rfl (pa_cons (pe_ix ix_list (pv 2) (pe_op op_sub (pv 3) pe_int) (fun _ _=>rfl)) (pa_cons (pe_fld (pe_fld (pv 0) (by rfl)) (by rfl)) pa_nil))) pe_int (nomark _))
   (pss_one ps_never)
   pss_nil)
  (pss_one (ps_if (pt_cmpR op_lt (pe_cal c_least_length (hr.mono (by decide)) rfl (pa_cons (pe_fld (pe_fld (pv 0) (by rfl)) (by rfl)) (pa_cons (pe_fld (pe_fld (pv 0) (by rfl)) (by rfl)) pa_nil))) pe_int (nomark _))
   (pss_one ps_never)
   pss_nil)))))))),?_⟩
 walk_at "rdx"
 refine⟨ll,k,rfl,SqL.of hl,k0,k1,?_⟩
 walk_at "rdx"
 refine⟨x,c_Sun,dx,[],rfl,hx,er.cl_Sun,er.na_Sun_start,by decide,?_⟩
 refine put7 fun H1 k1' x1=>?_
 walk_at "rdx"
 refine⟨ll,_,rfl,.inl ⟨SqL.of (k1' _ _ lx hl),fun p hp=>?_⟩⟩
 have px:x≠p:=ne_of_none x1 hp
 refine fresh hp fun H1' s1' t1'=>?_
 have x1:=s1' _ _ x1
 walk_at "rdx"
 refine⟨x,c_Sun,dx,_,rfl,x1,er.cl_Sun,er.na_Sun_months,(by show 1<1000;decide),?_⟩
 refine put7 fun H2 k2 x2=>?_
 walk_at "rdx"
 refine⟨x,c_Sun,dx,_,rfl,x2,er.cl_Sun,er.na_Sun_leap,(by show 2<1000;decide),?_⟩
 refine put7 fun H3 k3 x3=>?_
 have k03:KB x H H3:=fun y o hy e=>k3 y o hy (k2 y o hy (s1' _ _ (k1' y o hy e)))
 have l3:=k03 _ _ lx hl
 have t3:=k3 _ _ (Ne.symm px) (k2 _ _ (Ne.symm px) t1')
 walk_at "rdx"
 refine⟨ll,[k],rfl,SqL.of l3,?_⟩
 rw[show ([k]:List Int).sum=k from Int.add_zero k]
 walk_at "rdx"
 refine fun y dy hy hdy ne=>⟨y,dy,k,rfl,upd_same,k0,k1,fun H4 k4 M4=>⟨rfl,?_⟩⟩
 have s4:=made_same hy hdy ne k4
 have x4:=s4 _ _ x3
 have yx:y≠x:=fun e=>by subst e;rw[x3] at hy;cases hy
 walk_at "rdx"
 refine⟨x,c_Sun,dx,_,rfl,x4,er.cl_Sun,er.na_Sun_years,(by show 3<1000;decide),?_⟩
 refine put7 fun H5 k5 x5=>?_
 have M5:=M4.kb x4 yx k5
 have t5:=k5 _ _ (Ne.symm px) (s4 _ _ t3)
 have l5:=k5 _ _ lx (s4 _ _ l3)
 have k05:KB x H H5:=fun y o hy e=>k5 y o hy (s4 _ _ (k03 y o hy e))
 obtain⟨d5,tp,e5,T5⟩:=id M5
 walk_at "rdx"
 refine rd_ixL (SqL.of l5) at_zero ?_
 walk_at "rdx"
 refine⟨x,c_Sun,dx,_,_,rfl,x5,er.cl_Sun,er.na_Sun_years,rfl,?_⟩
 walk_at "rdx"
 refine⟨y,c_Measure,d5,_,_,rfl,e5,er.cl_Measure,er.na_Measure_terms,rfl,?_⟩
 walk_at "rdx"
 refine⟨tp,_,rfl,SqT.of T5,fun H6 s6=>?_⟩
 walk_at "rdx"
 refine iteN (by omega) ?_
 walk_at "rdx"
 have x6:=s6 _ _ x5
 have e6:=s6 _ _ e5
 refine⟨x,c_Sun,dx,_,_,rfl,x6,er.cl_Sun,er.na_Sun_years,rfl,?_⟩
 walk_at "rdx"
 refine⟨y,c_Measure,d5,_,_,rfl,e6,er.cl_Measure,er.na_Measure_base,rfl,?_⟩
 walk_at "rdx"
 refine⟨x,c_Sun,dx,_,_,rfl,x6,er.cl_Sun,er.na_Sun_years,rfl,?_⟩
 walk_at "rdx"
 refine⟨y,c_Measure,d5,_,_,rfl,e6,er.cl_Measure,er.na_Measure_terms,rfl,?_⟩
 walk_at "rdx"
 refine⟨tp,_,rfl,SqT.of (s6 _ _ T5),fun H7 s7=>?_⟩
 walk_at "rdx"
 refine iteN (by omega) ?_
 walk_at "rdx"
 refine q _ (fun y o hy e=>s7 _ _ (s6 _ _ (k05 y o hy e))) ⟨dx,p,y,s7 _ _ x6,s7 _ _ (s6 _ _ t5),(M5.same s6).same s7⟩
theorem sc_Sun_year_start:FnScope ["self","year"] ["self","year"] (defScope s_Sun_year_start):=⟨rfl,rfl,rfl,by decide +kernel,rfl,by decide +kernel,by decide +kernel⟩
theorem ok_Sun_year_start{f:Addr}{fd:FuncData}(F:Fun K "year_start" "Sun.year_start" s_Sun_year_start f fd)(er:Errs K mg c_FeastError c_NoNumber c_TooLong c_NoMeasure c_Rule c_All c_No c_Each c_Dated c_Not c_Both c_Either c_But c_Unlike c_Later c_Upon c_Until c_Near c_Till c_Kth c_Every c_Measure c_Calendar c_Sun)(c_Measure_upto:CalM P w K mg base CX0 2 c_Measure "upto" ["self","k"] (spUpto7 c_Measure)):FnOk P w K mg base CX0 3 f fd ["self","year"] (spYS7 c_Sun c_Measure):=by
 refine F.ok (k:=2) sc_Sun_year_start (fun vs H Q E h=>?_) (fun cdv A outer s H vs Q E hr h=>?_)
 ·obtain⟨x,n,s,k,rfl,_⟩:=h
  rfl
 obtain⟨x,n,s,k,rfl,⟨dx,p,y,hx,hp,d2,tp,e2,T2⟩,k0,k1,n0,n1,q⟩:=h
 refine⟨_,(pss_one (ps_ret (pe_op op_add (pe_fld (pv 0) (by rfl)) (pe_mcal c_Measure_upto er.cl_Measure (hr.mono (by decide)) (pe_fld (pv 0) (by rfl)) (pa_cons (pv 1) pa_nil))))),?_⟩
 walk_at "rdx"
 refine⟨x,c_Sun,dx,_,_,rfl,hx,er.cl_Sun,er.na_Sun_start,rfl,?_⟩
 walk_at "rdx"
 refine⟨x,c_Sun,dx,_,_,rfl,hx,er.cl_Sun,er.na_Sun_years,rfl,?_⟩
 walk_at "rdx"
 refine⟨y,d2,_,rfl,e2,rfl,?_⟩
 walk_at "rdx"
 refine⟨y,d2,tp,n,k,_,rfl,e2,rfl,rfl,T2,by omega,by omega,n0,n1,fun H' s'=>?_⟩
 walk_at "rdx"
 exact q _ s'
theorem sc_Sun_lengths:FnScope ["self","year","told"] ["self","year"] (defScope s_Sun_lengths):=⟨rfl,rfl,rfl,by decide +kernel,rfl,by decide +kernel,by decide +kernel⟩
theorem ok_Sun_lengths{f:Addr}{fd:FuncData}(F:Fun K "lengths" "Sun.lengths" s_Sun_lengths f fd)(er:Errs K mg c_FeastError c_NoNumber c_TooLong c_NoMeasure c_Rule c_All c_No c_Each c_Dated c_Not c_Both c_Either c_But c_Unlike c_Later c_Upon c_Until c_Near c_Till c_Kth c_Every c_Measure c_Calendar c_Sun)(c_Measure_at:CalM P w K mg base CX0 2 c_Measure "at" ["self","k"] (spAt7 c_Measure))(z_list:mg "list"=none):FnOk P w K mg base CX0 3 f fd ["self","year"] (spLens7 c_Sun c_Measure):=by
 refine F.ok (k:=2) sc_Sun_lengths (fun vs H Q E h=>?_) (fun cdv A outer s H vs Q E hr h=>?_)
 ·obtain⟨x,n,s,k,rfl,_⟩:=h
  rfl
 obtain⟨x,n,s,k,rfl,⟨dx,p,y,hx,hp,M⟩,q⟩:=h
 refine⟨_,(pss_cons (ps_set (i:=2) sc_Sun_lengths.nd rfl (by first | exact Or.inl rfl | exact Or.inr rfl) (pe_callTy call_list_of rfl z_list PyProof.Rows.boot_list (pa_cons (pe_fld (pv 0) (by rfl)) pa_nil)))
  (pss_cons (ps_asg (pe_op op_sub (pe_op op_add (pe_ix ix_list (pv 2) (pe_op op_sub (pe_fld (pv 0) (by rfl)) pe_int) (fun _ _=>rfl)) (pe_mcal c_Measure_at er.cl_Measure (hr.mono (by decide)) (pe_fld (pv 0) (by rfl)) (pa_cons (pv 1) pa_nil))) (pe_fld (pe_fld (pv 0) (by rfl)) (by rfl))) (pg_sub (pv 2) (pe_op op_sub (pe_fld (pv 0) (by rfl)) pe_int) set_list))
  (pss_one (ps_ret (pv 2))))),?_⟩
 walk_at "rdx"
 refine⟨x,c_Sun,dx,_,_,rfl,hx,er.cl_Sun,er.na_Sun_months,rfl,?_⟩
 walk_at "rdx"
 refine⟨p,_,rfl,.inr (SqT.of hp),fun l hl=>?_⟩
 refine fresh hl fun H1 s1 t1=>?_
 have M1:=M.same s1
 obtain⟨d2,tp,e2,T2⟩:=id M1
 have x1:=s1 _ _ hx
 walk_at "rdx"
 refine⟨x,c_Sun,dx,_,_,rfl,x1,er.cl_Sun,er.na_Sun_leap,rfl,?_⟩
 walk_at "rdx"
 refine rd_ixL (SqL.of t1) at_zero ?_
 walk_at "rdx"
 refine⟨x,c_Sun,dx,_,_,rfl,x1,er.cl_Sun,er.na_Sun_years,rfl,?_⟩
 walk_at "rdx"
 refine⟨y,d2,_,rfl,e2,rfl,?_⟩
 walk_at "rdx"
 refine⟨y,n,k,rfl,M1,fun H2 s2=>?_⟩
 have x2:=s2 _ _ x1
 walk_at "rdx"
 refine⟨x,c_Sun,dx,_,_,rfl,x2,er.cl_Sun,er.na_Sun_years,rfl,?_⟩
 walk_at "rdx"
 refine⟨y,c_Measure,d2,_,_,rfl,s2 _ _ e2,er.cl_Measure,er.na_Measure_base,rfl,?_⟩
 walk_at "rdx"
 refine⟨x,c_Sun,dx,_,_,rfl,x2,er.cl_Sun,er.na_Sun_leap,rfl,?_⟩
 walk_at "rdx"
 have t2:=s2 _ _ t1
 refine rd_setL (k:=0) t2 (by simp) ?_
 walk_at "rdx"
 refine q l _ hl (fun b o h=>?_) (by rw[upd_same];show _=some (HO.lst [V.int k]);rw[show k+k-k=k by omega];rfl)
 rw[upd_ne (ne_of_none h hl)]
 exact s2 _ _ (s1 _ _ h)
theorem sc_Sun_cycle:FnScope ["self","years"] ["self"] (defScope s_Sun_cycle):=⟨rfl,rfl,rfl,by decide +kernel,rfl,by decide +kernel,by decide +kernel⟩
theorem ok_Sun_cycle{f:Addr}{fd:FuncData}(F:Fun K "cycle" "Sun.cycle" s_Sun_cycle f fd)(er:Errs K mg c_FeastError c_NoNumber c_TooLong c_NoMeasure c_Rule c_All c_No c_Each c_Dated c_Not c_Both c_Either c_But c_Unlike c_Later c_Upon c_Until c_Near c_Till c_Kth c_Every c_Measure c_Calendar c_Sun)(c_Measure_period:CalM P w K mg base CX0 1 c_Measure "period" ["self"] (spPeriod7 c_Measure))(c_Measure_upto:CalM P w K mg base CX0 2 c_Measure "upto" ["self","k"] (spUpto7 c_Measure)):FnOk P w K mg base CX0 3 f fd ["self"] (spCyc7 c_Sun c_Measure):=by
 refine F.ok (k:=2) sc_Sun_cycle (fun vs H Q E h=>?_) (fun cdv A outer s H vs Q E hr h=>?_)
 ·obtain⟨x,s,k,rfl,_⟩:=h
  rfl
 obtain⟨x,s,k,rfl,⟨dx,p,y,hx,hp,M⟩,k0,k1,q⟩:=h
 obtain⟨d2,tp,e2,T2⟩:=id M
 refine⟨_,(pss_cons (ps_set (i:=1) sc_Sun_cycle.nd rfl (by first | exact Or.inl rfl | exact Or.inr rfl) (pe_mcal0 c_Measure_period er.cl_Measure (hr.mono (by decide)) (pe_fld (pv 0) (by rfl))))
  (pss_one (ps_ret (pe_tup (pa_cons (pv 1) (pa_cons (pe_mcal c_Measure_upto er.cl_Measure (hr.mono (by decide)) (pe_fld (pv 0) (by rfl)) (pa_cons (pv 1) pa_nil)) pa_nil)))))),?_⟩
 walk_at "rdx"
 refine⟨x,c_Sun,dx,_,_,rfl,hx,er.cl_Sun,er.na_Sun_years,rfl,?_⟩
 walk_at "rdx"
 refine⟨y,d2,_,rfl,e2,rfl,?_⟩
 walk_at "rdx"
 refine⟨y,k,rfl,M,?_⟩
 walk_at "rdx"
 refine⟨x,c_Sun,dx,_,_,rfl,hx,er.cl_Sun,er.na_Sun_years,rfl,?_⟩
 walk_at "rdx"
 refine⟨y,d2,_,rfl,e2,rfl,?_⟩
 walk_at "rdx"
 refine⟨y,d2,tp,1,k,_,rfl,e2,rfl,rfl,T2,by omega,by omega,by omega,by omega,fun H' s'=>?_⟩
 rw[Int.mul_one]
 walk_at "rdx"
 refine⟨two,fun c hc=>?_⟩
 exact q _ _ (s'.trans (same_new hc _)) upd_same
theorem sc_days_of_year:FnScope ["calendar","year","month","day","told","first","number","length"] ["calendar","year","month","day"] (defScope s_days_of_year):=⟨rfl,rfl,rfl,by decide +kernel,rfl,by decide +kernel,by decide +kernel⟩
theorem ok_days_of_year{f:Addr}{fd:FuncData}(F:Fun K "days_of_year" "days_of_year" s_days_of_year f fd)(er:Errs K mg c_FeastError c_NoNumber c_TooLong c_NoMeasure c_Rule c_All c_No c_Each c_Dated c_Not c_Both c_Either c_But c_Unlike c_Later c_Upon c_Until c_Near c_Till c_Kth c_Every c_Measure c_Calendar c_Sun)(c_Sun_year_start:CalM P w K mg base CX0 3 c_Sun "year_start" ["self","year"] (spYS7 c_Sun c_Measure))(c_Sun_lengths:CalM P w K mg base CX0 3 c_Sun "lengths" ["self","year"] (spLens7 c_Sun c_Measure))(c_days_of_month:Cal P w K mg base 1 "days_of_month" ["first","length","day"] spDoM7):FnOk P w K mg base CX0 4 f fd ["calendar","year","month","day"] (spDoY7 c_Sun c_Measure):=by
 refine F.ok (k:=3) sc_days_of_year (fun vs H Q E h=>?_) (fun cdv A outer s H vs Q E hr h=>?_)
 ·obtain⟨x,s,k,y,d,rfl,_⟩:=h
  cases d<;>rfl
 obtain⟨x,s,k,y,d,rfl,S,s0,s1',k0,k1,y0,y1,q⟩:=h
 have ky:0≤k*y:=Int.mul_nonneg (by omega) y0
 have ky1:k*y≤1000*100:=Int.mul_le_mul k1 y1 y0 (by decide)
 refine⟨_,(pss_cons (ps_set (i:=4) sc_days_of_year.nd rfl (by first | exact Or.inl rfl | exact Or.inr rfl) (pe_lst pa_nil))
  (pss_cons (ps_set (i:=5) sc_days_of_year.nd rfl (by first | exact Or.inl rfl | exact Or.inr rfl) (pe_mcal c_Sun_year_start er.cl_Sun (hr.mono (by decide)) (pv 0) (pa_cons (pv 1) pa_nil)))
  (pss_cons (ps_set (i:=6) sc_days_of_year.nd rfl (by first | exact Or.inl rfl | exact Or.inr rfl) pe_int)
  (pss_cons (ps_for PassesOwn.never rfl (pi_list (pe_mcal c_Sun_lengths er.cl_Sun (hr.mono (by decide)) (pv 0) (pa_cons (pv 1) pa_nil))) (pg_name (i:=7) sc_days_of_year.nd rfl (by first | exact Or.inl rfl | exact Or.inr rfl))
   (pss_cons (ps_cut (ps_if (PW.pt (pw_or (pt_cmpR op_isN (pv 2) pe_non (nomark _)) (pw_or1 (pt_cmpR op_eq (pv 2) (pv 6) (nomark _)))))
   (pss_one (ps_expr (pe_bm PySem.F.plainAttrs_list PySem.F.slot_list_extend PySem.F.type_list_extend mt_extend (pv 4) (pa_cons (pe_cal c_days_of_month (hr.mono (by decide)) rfl (pa_cons (pv 5) (pa_cons (pv 7) (pa_cons (pv 3) pa_nil)))) pa_nil))))
   pss_nil))
  (pss_cons (ps_set (i:=5) sc_days_of_year.nd rfl (by first | exact Or.inl rfl | exact Or.inr rfl) (pe_op op_add (pv 5) (pv 7)))
  (pss_one (ps_set (i:=6) sc_days_of_year.nd rfl (by first | exact Or.inl rfl | exact Or.inr rfl) (pe_op op_add (pv 6) pe_int))))))
  (pss_one (ps_ret (pv 4))))))),?_⟩
 walk_at "rd"
 refine⟨Nat.zero_le _,fun t0 ht0=>?_⟩
 refine fresh ht0 fun H1 s1 e1=>?_
 have S1:=S.same s1
 walk_at "rd"
 obtain⟨dx,p,yy,hx,_⟩:=id S1
 refine⟨x,dx,_,rfl,hx,rfl,?_⟩
 walk_at "rd"
 refine⟨x,y,s,k,rfl,S1,k0,k1,y0,by omega,fun H2 s2=>?_⟩
 have S2:=S1.same s2
 have e2:=s2 _ _ e1
 have s12:=s1.trans s2
 walk_at "rd"
 refine rd_for (rd_iL ?_)
 walk_at "rd"
 obtain⟨dx',p',yy',hx',_⟩:=id S2
 refine⟨x,dx',_,rfl,hx',rfl,?_⟩
 walk_at "rd"
 refine⟨x,y,s,k,rfl,S2,fun l H3 hl s3 t3=>?_⟩
 have e3:=s3 _ _ e2
 have s13:=s12.trans s3
 have lt:l≠t0:=fun z=>by rw[z,e2] at hl;cases hl
 refine⟨l,rfl,⟨_,SqL.of t3⟩,for_list (xs:=[.int k]) (fun i σ' H'=>Same H H'∧H' l=some (.lst [.int k])∧∃(v:Option V) (ds:List Int) (f:Int),ds.length≤1000*i∧(i=0→f=s+k*y)∧H' t0=some (.lst (ds.map V.int))∧σ'=[some (.ref x),some (.int y),some (.int 1),some (oI d),some (.ref t0),some (.int f),some (.int (1+(i:Int))),v]) ⟨s13,t3,none,[],_,Nat.zero_le _,fun _=>rfl,e3,rfl⟩ ?_ ?_ ?_⟩
 ·rintro i σ' H' hk ⟨_,t,_⟩
  exact SqL.of t
 ·rintro i v0 σ' H' hv ⟨sH,tl,v,ds,f,dl,hf,td,rfl⟩
  have i0:i=0:=by
   rcases i with _ | i
   ·rfl
   ·simp at hv
  subst i0
  obtain rfl:=hf rfl
  obtain rfl:V.int k=v0:=by simpa using hv
  walk_at "rd"
  refine rd_cut (fun σ' H'=>Same H H'∧H' l=some (.lst [.int k])∧∃ds:List Int,ds.length≤1000∧H' t0=some (.lst (ds.map V.int))∧σ'=[some (.ref x),some (.int y),some (.int 1),some (oI d),some (.ref t0),some (.int (s+k*y)),some (.int (1+((0:Nat):Int))),some (.int k)]) ?_ ?_
  ·walk_at "rd"
   refine⟨rfl,?_⟩
   walk_at "rd"
   refine iteF ?_
   walk_at "rd"
   refine iteD rfl ?_
   walk_at "rd"
   refine rd_ext rfl td ?_
   walk_at "rd"
   refine⟨_,k,d,rfl,by omega,by omega,by omega,by omega,fun l5 es H5 h5 s5 t5 el=>?_⟩
   refine rd_nil ?_
   refine⟨t0,l5,_,_,rfl,rfl,s5 _ _ td,t5,?_,?_⟩
   ·rw[List.length_map,List.length_map,sizeLine_eq]
    omega
   ·rw[←List.map_append]
    refine⟨fun r o ho=>?_,?_,ds++es,by rw[List.length_append];omega,upd_same,rfl⟩
    ·rw[upd_ne fun z=>by rw[z,ht0] at ho;cases ho]
     exact s5 _ _ (sH _ _ ho)
    ·rw[upd_ne lt]
     exact s5 _ _ tl
  rintro σ' H4 ⟨sH,tl,es,el,td,rfl⟩
  walk_at "rd"
  exact⟨sH,tl,some (.int k),es,_,by omega,(fun z=>nomatch z),td,rfl⟩
 rintro σ' H' ⟨sH,tl,v,ds,f,dl,_,td,rfl⟩
 walk_at "rd"
 exact q t0 ds _ ht0 sH td (by simpa using dl)
theorem sc_dated:FnScope ["calendar","month","day","step","rest","cycle","years","size","days","year"] ["calendar","month","day","step","rest"] (defScope s_dated):=⟨rfl,rfl,rfl,by decide +kernel,rfl,by decide +kernel,by decide +kernel⟩
theorem ok_dated{f:Addr}{fd:FuncData}{ds:Array Value}(F:FunD K "dated" "dated" s_dated f fd ds)(er:Errs K mg c_FeastError c_NoNumber c_TooLong c_NoMeasure c_Rule c_All c_No c_Each c_Dated c_Not c_Both c_Either c_But c_Unlike c_Later c_Upon c_Until c_Near c_Till c_Kth c_Every c_Measure c_Calendar c_Sun)(c_refuse_wanted:Cal P w K mg base 2 "refuse_wanted" ["month","day","step"] spWant7)(c_Sun_cycle:CalM P w K mg base CX0 3 c_Sun "cycle" ["self"] (spCyc7 c_Sun c_Measure))(c_common:Cal P w K mg base 3 "common" ["one","other"] spCommon)(c_refuse_too_long:Cal P w K mg base 1 "refuse_too_long" ["size"] spTooLong)(c_days_of_year:Cal P w K mg base 4 "days_of_year" ["calendar","year","month","day"] (spDoY7 c_Sun c_Measure))(c_round_by:Cal P w K mg base 2 "round_by" ["size","days"] (spRoundBy K))(z_range:mg "range"=none):FnOk P w K mg base CX0 5 f fd ["calendar","month","day","step","rest"] (spDated7 c_Sun c_Measure):=by
 refine F.ok (k:=4) sc_dated (fun vs H Q E h=>?_) (fun cdv A outer s H vs Q E hr h=>?_)
 ·obtain⟨x,s,k,st,d,rfl,_⟩:=h
  cases d<;>rfl
 obtain⟨x,s,k,st,d,rfl,S,s0,s1',k0,k1,d0,st0,st1,q⟩:=h
 refine⟨_,(pss_cons (ps_expr (pe_cal c_refuse_wanted (hr.mono (by decide)) rfl (pa_cons (pv 1) (pa_cons (pv 2) (pa_cons (pv 3) pa_nil)))))
  (pss_cons (ps_set (i:=5) sc_dated.nd rfl (by first | exact Or.inl rfl | exact Or.inr rfl) (pe_mcal0 c_Sun_cycle er.cl_Sun (hr.mono (by decide)) (pv 0)))
  (pss_cons (ps_set (i:=6) sc_dated.nd rfl (by first | exact Or.inl rfl | exact Or.inr rfl) (pe_cal c_common (hr.mono (by decide)) rfl (pa_cons (pe_ix ix_tup (pv 5) pe_int (fun _ _=>rfl)) (pa_cons (pv 3) pa_nil))))
  (pss_cons (ps_set (i:=7) sc_dated.nd rfl (by first | exact Or.inl rfl | exact Or.inr rfl) (pe_op op_mulB (pe_op op_fdivB (pv 6) (pe_ix ix_tup (pv 5) pe_int (fun _ _=>rfl))) (pe_ix ix_tup (pv 5) pe_int (fun _ _=>rfl))))
  (pss_cons (ps_expr (pe_cal c_refuse_too_long (hr.mono (by decide)) rfl (pa_cons (pv 7) pa_nil)))
  (pss_cons (ps_set (i:=8) sc_dated.nd rfl (by first | exact Or.inl rfl | exact Or.inr rfl) (pe_lst pa_nil))
  (pss_cons (ps_for PassesOwn.never rfl (pi_range3 rfl z_range (pa_cons (pe_op op_mod (pv 4) (pv 3)) (pa_cons (pv 6) (pa_cons (pv 3) pa_nil)))) (pg_name (i:=9) sc_dated.nd rfl (by first | exact Or.inl rfl | exact Or.inr rfl))
   (pss_one (ps_expr (pe_bm PySem.F.plainAttrs_list PySem.F.slot_list_extend PySem.F.type_list_extend mt_extend (pv 8) (pa_cons (pe_cal c_days_of_year (hr.mono (by decide)) rfl (pa_cons (pv 0) (pa_cons (pv 9) (pa_cons (pv 1) (pa_cons (pv 2) pa_nil))))) pa_nil)))))
  (pss_one (ps_ret (pe_cal c_round_by (hr.mono (by decide)) rfl (pa_cons (pv 7) (pa_cons (pv 8) pa_nil)))))))))))),?_⟩
 walk_at "rd"
 refine⟨d,st,rfl,d0,st0,?_⟩
 walk_at "rd"
 obtain⟨dx,p,yy,hx,_⟩:=id S
 refine⟨x,dx,_,rfl,hx,rfl,?_⟩
 walk_at "rd"
 refine⟨x,s,k,rfl,S,k0,k1,fun c H1 s1 t1=>?_⟩
 walk_at "rd"
 refine rd_ixT (SqT.of t1) at0 ?_
 walk_at "rd"
 refine⟨_,_,rfl,by omega,by omega,bt_small (by omega) (by omega) (by decide),bt_small (by omega) (by omega) (by decide),fun H2 s2=>?_⟩
 have lc:lcmI 1 st=st:=lcm_dvd (by omega) (by omega) (Int.one_dvd st)
 rw[lc]
 walk_at "rd"
 refine rd_ixT (SqT.of (s2 _ _ t1)) at0 ?_
 walk_at "rd"
 refine rd_ixT (SqT.of (s2 _ _ t1)) at1 ?_
 walk_at "rd"
 rw[Int.ediv_one]
 refine rd_i ⟨64,64,bt_small (by omega) (by omega) (by decide),bt_small (by omega) (by omega) (by decide),by decide⟩ ?_
 have z0:0<k*st:=Int.mul_pos (by omega) (by omega)
 have z1:k*st≤1000*100:=Int.mul_le_mul k1 st1 (by omega) (by decide)
 walk_at "rd"
 rw[Int.mul_comm st k]
 generalize hZ:k*st=Z at*
 refine⟨_,rfl,by omega,?_⟩
 walk_at "rd"
 refine⟨Nat.zero_le _,fun l hl=>?_⟩
 have hlH:H l=none:=(s1.trans s2).free hl
 refine fresh hl fun H3 s3 t3=>?_
 have S3:=((S.same s1).same s2).same s3
 walk_at "rd"
 refine rd_for (rd_rng3 ?_)
 walk_at "rd"
 have r0:=Int.emod_nonneg 1 (show st≠0 by omega)
 have r1:=Int.emod_lt_of_pos 1 (show 0<st by omega)
 generalize 1%st=R at*
 obtain⟨n,hn,hk⟩:∃n:Nat,(n:Int)=Builtin.Range.rangeSize R st st∧n≤1:=by
  rw[rangeSize_up (by omega),if_pos r1]
  have h1:(st-R-1)/st=0:=Int.ediv_eq_zero_of_lt (by omega) (by omega)
  exact⟨1,by rw[h1];rfl,Nat.le_refl _⟩
 refine⟨R,st,st,rfl,by omega,by omega,?_,n,hn,for_rangeS (fun i σ' H'=>Same H H'∧i≤n∧∃(ds:List Int) (v:Option V),ds.length≤1000*i∧H' l=some (.lst (ds.map V.int))∧Sun7 c_Sun c_Measure H' x s k∧σ'=[some (.ref x),some (.int 1),some (oI d),some (.int st),some (.int 1),some (.ref c),some (.int st),some (.int Z),some (.ref l),v]) ⟨(s1.trans s2).trans s3,Nat.zero_le _,[],none,Nat.zero_le _,t3,S3,rfl⟩ ?_ ?_⟩
 ·exact small_step (by omega) (by omega) (by omega) (by omega) (by omega) (by omega)
 ·rintro i σ' H' hi ⟨sH,i1,ds,v,dl,tl,SH,rfl⟩
  have i0:i=0:=by omega
  subst i0
  rw[show R+((0:Nat):Int)*st=R by simp]
  walk_at "rd"
  refine rd_ext rfl tl ?_
  walk_at "rd"
  refine⟨x,s,k,R,d,rfl,SH,s0,s1',k0,k1,r0,by omega,fun l5 es H5 h5 s5 t5 el=>?_⟩
  refine rd_nil ?_
  have tl5:=s5 _ _ tl
  refine⟨l,l5,_,_,rfl,rfl,tl5,t5,?_,?_⟩
  ·rw[List.length_map,List.length_map,sizeLine_eq]
   omega
  ·rw[←List.map_append]
   refine⟨fun u o ho=>?_,by omega,ds++es,_,by rw[List.length_append];omega,upd_same,(SH.same s5).but tl5,rfl⟩
   rw[upd_ne fun z=>by rw[z,hlH] at ho;cases ho]
   exact s5 _ _ (sH _ _ ho)
 ·rintro σ' H' ⟨sH,_,ds,v,dl,tl,SH,rfl⟩
  walk_at "rd"
  refine⟨l,ds,Z,rfl,SqL.of tl,by omega,by omega,fun p b H6 s6 t6 B=>?_⟩
  exact q p b H6 (sH.trans s6) t6 B.lt
theorem sc_Rule___init__:FnScope ["self","kept","made_of","words"] ["self","kept","made_of","words"] (defScope s_Rule___init__):=⟨rfl,rfl,rfl,by decide +kernel,rfl,by decide +kernel,by decide +kernel⟩
theorem ok_Rule___init__{f:Addr}{fd:FuncData}{ds:Array Value}(F:FunD K "__init__" "Rule.__init__" s_Rule___init__ f fd ds)(er:Errs K mg c_FeastError c_NoNumber c_TooLong c_NoMeasure c_Rule c_All c_No c_Each c_Dated c_Not c_Both c_Either c_But c_Unlike c_Later c_Upon c_Until c_Near c_Till c_Kth c_Every c_Measure c_Calendar c_Sun):FnOk P w K mg base CX0 1 f fd ["self","kept","made_of","words"] (spRInit K c_Rule):=by
 refine F.ok (k:=0) sc_Rule___init__ (fun vs H Q E h=>?_) (fun cdv A outer s H vs Q E hr h=>?_)
 ·obtain⟨x,p,pm,pw,C,dx,rfl,_⟩:=h
  rfl
 obtain⟨x,p,pm,pw,C,dx,rfl,hx,R,q⟩:=h
 refine⟨_,(pss_cons (ps_fld (pv 0) (pe_ifExp (pt_cmpR op_isN (pv 1) pe_non (nomark _)) (pe_tup (pa_cons pe_int (pa_cons pe_int pa_nil))) (pv 1)) (by rfl))
  (pss_cons (ps_fld (pv 0) (pe_ifExp (pt_cmpR op_isN (pv 2) pe_non (nomark _)) (pe_tup pa_nil) (pv 2)) (by rfl))
  (pss_one (ps_fld (pv 0) (pe_ifExp (pt_cmpR op_isN (pv 3) pe_non (nomark _)) (pe_tup (pa_cons pe_str pa_nil)) (pv 3)) (by rfl))))),?_⟩
 walk_at "rd"
 refine rd_ifE ?_
 walk_at "rd"
 refine⟨rfl,rd_bl (iteN (fun e=>nomatch e) ?_)⟩
 walk_at "rd"
 refine⟨x,C,dx,[],rfl,hx,R.cl,R.k,by decide,?_⟩
 walk_at "rd"
 refine rd_ifE ?_
 walk_at "rd"
 refine⟨rfl,rd_bl (iteN (fun e=>nomatch e) ?_)⟩
 walk_at "rd"
 refine⟨x,C,dx,_,rfl,upd_same,R.cl,R.m,(show 1<1000 by decide),?_⟩
 walk_at "rd"
 refine rd_ifE ?_
 walk_at "rd"
 refine⟨rfl,rd_bl (iteN (fun e=>nomatch e) ?_)⟩
 walk_at "rd"
 refine⟨x,C,dx,_,rfl,upd_same,R.cl,R.w,(show 2<1000 by decide),?_⟩
 walk_at "rd"
 refine q _ (fun y o ne e=>?_) upd_same
 rw[upd_ne ne,upd_ne ne,upd_ne ne]
 exact e
theorem sc_Rule_on:FnScope ["self","day"] ["self","day"] (defScope s_Rule_on):=⟨rfl,rfl,rfl,by decide +kernel,rfl,by decide +kernel,by decide +kernel⟩
theorem ok_Rule_on{k d:Nat}{f:Addr}{fd:FuncData}(F:Fun K "on" "Rule.on" s_Rule_on f fd)(er:Errs K mg c_FeastError c_NoNumber c_TooLong c_NoMeasure c_Rule c_All c_No c_Each c_Dated c_Not c_Both c_Either c_But c_Unlike c_Later c_Upon c_Until c_Near c_Till c_Kth c_Every c_Measure c_Calendar c_Sun)(c_on_rounds:Cal P w K mg base 1 "on_rounds" ["turn","day"] (spOn K))(cr:CalL P w K mg base CX0 k "on" ["self","day"] ([c_All,c_No,c_Each,c_Dated,c_Not,c_Both,c_Either,c_But,c_Unlike,c_Later,c_Upon,c_Until,c_Near,c_Till,c_Kth,c_Every].map fun C=>(C,(spR (spOnM K c_Rule [c_All,c_No,c_Each,c_Dated,c_Not,c_Both,c_Either,c_But,c_Unlike,c_Later,c_Upon,c_Until,c_Near,c_Till,c_Kth,c_Every])) d)))(hk:1≤k):FnOk P w K mg base CX0 (k+1) f fd ["self","day"] ((spR (spOnM K c_Rule [c_All,c_No,c_Each,c_Dated,c_Not,c_Both,c_Either,c_But,c_Unlike,c_Later,c_Upon,c_Until,c_Near,c_Till,c_Kth,c_Every])) (d+1)):=by
 refine F.ok (k:=k) sc_Rule_on (fun vs H Q E h=>?_) (fun cdv A outer s H vs Q E hr h=>?_)
 ·obtain⟨_,x,n,d,b,rfl,_⟩:=h
  rfl
 obtain⟨_,x,n,d,b,rfl,R,q⟩:=h
 obtain⟨C,dx,p,pm,pw,hC,rc,hx,hp⟩:=R.ex
 refine⟨_,(pss_one (ps_ret (pe_cal c_on_rounds (hr.mono (Nat.le_trans (by decide) hk)) rfl (pa_cons (pe_fld (pv 0) (by rfl)) (pa_cons (pv 1) pa_nil))))),?_⟩
 walk_at "rd"
 refine⟨x,C,dx,_,_,rfl,hx,rc.cl,rc.k,rfl,?_⟩
 walk_at "rd"
 exact⟨p,n,d,b,rfl,SqT.of hp,R.n0,q⟩
theorem sc_Rule_size:FnScope ["self"] ["self"] (defScope s_Rule_size):=⟨rfl,rfl,rfl,by decide +kernel,rfl,by decide +kernel,by decide +kernel⟩
theorem ok_Rule_size{k d:Nat}{f:Addr}{fd:FuncData}(F:Fun K "size" "Rule.size" s_Rule_size f fd)(er:Errs K mg c_FeastError c_NoNumber c_TooLong c_NoMeasure c_Rule c_All c_No c_Each c_Dated c_Not c_Both c_Either c_But c_Unlike c_Later c_Upon c_Until c_Near c_Till c_Kth c_Every c_Measure c_Calendar c_Sun)(cr:CalL P w K mg base CX0 k "size" ["self"] ([c_All,c_No,c_Each,c_Dated,c_Not,c_Both,c_Either,c_But,c_Unlike,c_Later,c_Upon,c_Until,c_Near,c_Till,c_Kth,c_Every].map fun C=>(C,(spR (spSizeM K c_Rule [c_All,c_No,c_Each,c_Dated,c_Not,c_Both,c_Either,c_But,c_Unlike,c_Later,c_Upon,c_Until,c_Near,c_Till,c_Kth,c_Every])) d)))(hk:1≤k):FnOk P w K mg base CX0 (k+1) f fd ["self"] ((spR (spSizeM K c_Rule [c_All,c_No,c_Each,c_Dated,c_Not,c_Both,c_Either,c_But,c_Unlike,c_Later,c_Upon,c_Until,c_Near,c_Till,c_Kth,c_Every])) (d+1)):=by
 refine F.ok (k:=k) sc_Rule_size (fun vs H Q E h=>?_) (fun cdv A outer s H vs Q E hr h=>?_)
 ·obtain⟨_,x,n,b,rfl,_⟩:=h
  rfl
 obtain⟨_,x,n,b,rfl,R,q⟩:=h
 obtain⟨C,dx,p,pm,pw,hC,rc,hx,hp⟩:=R.ex
 refine⟨_,(pss_one (ps_ret (pe_ix ix_tup (pe_fld (pv 0) (by rfl)) pe_int (fun _ _=>rfl)))),?_⟩
 walk_at "rd"
 refine⟨x,C,dx,_,_,rfl,hx,rc.cl,rc.k,rfl,?_⟩
 walk_at "rd"
 refine rd_ixT (SqT.of hp) at0 ?_
 exact q
theorem sc_Rule_turn:FnScope ["self"] ["self"] (defScope s_Rule_turn):=⟨rfl,rfl,rfl,by decide +kernel,rfl,by decide +kernel,by decide +kernel⟩
theorem ok_Rule_turn{k d:Nat}{f:Addr}{fd:FuncData}(F:Fun K "turn" "Rule.turn" s_Rule_turn f fd)(er:Errs K mg c_FeastError c_NoNumber c_TooLong c_NoMeasure c_Rule c_All c_No c_Each c_Dated c_Not c_Both c_Either c_But c_Unlike c_Later c_Upon c_Until c_Near c_Till c_Kth c_Every c_Measure c_Calendar c_Sun)(cr:CalL P w K mg base CX0 k "turn" ["self"] ([c_All,c_No,c_Each,c_Dated,c_Not,c_Both,c_Either,c_But,c_Unlike,c_Later,c_Upon,c_Until,c_Near,c_Till,c_Kth,c_Every].map fun C=>(C,(spR (spTurnM K c_Rule [c_All,c_No,c_Each,c_Dated,c_Not,c_Both,c_Either,c_But,c_Unlike,c_Later,c_Upon,c_Until,c_Near,c_Till,c_Kth,c_Every])) d)))(hk:1≤k):FnOk P w K mg base CX0 (k+1) f fd ["self"] ((spR (spTurnM K c_Rule [c_All,c_No,c_Each,c_Dated,c_Not,c_Both,c_Either,c_But,c_Unlike,c_Later,c_Upon,c_Until,c_Near,c_Till,c_Kth,c_Every])) (d+1)):=by
 refine F.ok (k:=k) sc_Rule_turn (fun vs H Q E h=>?_) (fun cdv A outer s H vs Q E hr h=>?_)
 ·obtain⟨_,x,n,b,rfl,_⟩:=h
  rfl
 obtain⟨_,x,n,b,rfl,R,q⟩:=h
 obtain⟨C,dx,p,pm,pw,hC,rc,hx,hp⟩:=R.ex
 refine⟨_,(pss_one (ps_ret (pe_fld (pv 0) (by rfl)))),?_⟩
 walk_at "rd"
 exact⟨x,C,dx,_,_,rfl,hx,rc.cl,rc.k,rfl,q p hp⟩
theorem sc_Rule_parts:FnScope ["self","told","rule"] ["self"] (defScope s_Rule_parts):=⟨rfl,rfl,rfl,by decide +kernel,rfl,by decide +kernel,by decide +kernel⟩
theorem ok_Rule_parts{k d:Nat}{f:Addr}{fd:FuncData}(F:Fun K "parts" "Rule.parts" s_Rule_parts f fd)(er:Errs K mg c_FeastError c_NoNumber c_TooLong c_NoMeasure c_Rule c_All c_No c_Each c_Dated c_Not c_Both c_Either c_But c_Unlike c_Later c_Upon c_Until c_Near c_Till c_Kth c_Every c_Measure c_Calendar c_Sun)(cr:CalL P w K mg base CX0 k "parts" ["self"] ([c_All,c_No,c_Each,c_Dated,c_Not,c_Both,c_Either,c_But,c_Unlike,c_Later,c_Upon,c_Until,c_Near,c_Till,c_Kth,c_Every].map fun C=>(C,(spParts K c_Rule [c_All,c_No,c_Each,c_Dated,c_Not,c_Both,c_Either,c_But,c_Unlike,c_Later,c_Upon,c_Until,c_Near,c_Till,c_Kth,c_Every]) d)))(hk:1≤k):FnOk P w K mg base CX0 (k+1) f fd ["self"] ((spParts K c_Rule [c_All,c_No,c_Each,c_Dated,c_Not,c_Both,c_Either,c_But,c_Unlike,c_Later,c_Upon,c_Until,c_Near,c_Till,c_Kth,c_Every]) (d+1)):=by
 refine F.ok (k:=k) sc_Rule_parts (fun vs H Q E h=>?_) (fun cdv A outer s H vs Q E hr h=>?_)
 ·obtain⟨t,rfl,_⟩:=h
  rfl
 obtain⟨t,rfl,T,dp,ln,q⟩:=h
 obtain⟨C,dx,p,pm,pw,hC,rc,hx,hp,hm,hw,bd,hk⟩:=T.node
 refine⟨_,(pss_cons (ps_set (i:=1) sc_Rule_parts.nd rfl (by first | exact Or.inl rfl | exact Or.inr rfl) (pe_lst (pa_cons (pv 0) pa_nil)))
  (pss_cons (ps_for PassesOwn.never rfl (pi_tup (pe_fld (pv 0) (by rfl))) (pg_name (i:=2) sc_Rule_parts.nd rfl (by first | exact Or.inl rfl | exact Or.inr rfl))
   (pss_one (ps_expr (pe_bm PySem.F.plainAttrs_list PySem.F.slot_list_extend PySem.F.type_list_extend mt_extend (pv 1) (pa_cons (pe_mcalL0 cr (hr.mono (Nat.le_refl _)) (pv 2)) pa_nil)))))
  (pss_one (ps_ret (pv 1))))),?_⟩
 walk_at "rd"
 refine⟨by show 1≤sizeLine;decide,fun l hl=>?_⟩
 refine fresh hl fun H1 s1 t1=>?_
 walk_at "rd"
 walk_at "rdf"
 walk_at "rd"
 refine⟨t.adr,C,dx,_,_,rfl,s1 _ _ hx,rc.cl,rc.m,rfl,pm,rfl,⟨_,SqT.of (s1 _ _ hm)⟩,for_tup (xs:=t.kids.map fun s=>.ref s.adr) (fun i σ' H'=>Same H H'∧H' l=some (.lst ((t.upto i).map fun s=>.ref s.adr))∧∃v,σ'=[some (.ref t.adr),some (.ref l),v]) ⟨s1,t1,none,rfl⟩ ?_ ?_ ?_⟩
 ·rintro i σ' H' _ ⟨s,_⟩
  exact SqT.of (s _ _ hm)
 ·rintro i x σ' H' hx' ⟨sH,tl,v,rfl⟩
  rw[List.getElem?_map] at hx'
  obtain⟨u,hu,rfl⟩:=Option.map_eq_some_iff.mp hx'
  have um:=List.mem_of_getElem? hu
  have uT:=(hk u um).same sH
  obtain⟨C',dx',p',pm',pw',hC',rc',hx2,_⟩:=uT.node
  have ud:=Tr.kid_deep um
  have ul:=Tr.kid_len um
  walk_at "rd"
  refine rd_ext rfl tl ?_
  walk_at "rd"
  refine⟨u.adr,C',dx',_,_,List.mem_map.mpr ⟨C',hC',rfl⟩,rfl,hx2,rfl,?_⟩
  walk_at "rd"
  refine⟨u,rfl,uT,by omega,by omega,fun l5 H5 hl5 s5 t5=>?_⟩
  refine rd_nil ?_
  have le:=Tr.upto_len t (i+1)
  rw[Tr.upto_succ hu] at le
  refine⟨l,l5,_,_,rfl,rfl,s5 _ _ tl,t5,?_,?_⟩
  ·rw[List.length_map,List.length_map,sizeLine_eq,←List.length_append]
   omega
  ·refine⟨fun r o ho=>?_,?_,some (.ref u.adr),rfl⟩
   ·rw[upd_ne fun z=>by rw[z,hl] at ho;cases ho]
    exact s5 _ _ (sH _ _ ho)
   ·rw[upd_same,Tr.upto_succ hu,List.map_append]
 ·rintro σ' H' ⟨s,tl,v,rfl⟩
  rw[List.length_map,Tr.upto_all] at tl
  walk_at "rd"
  exact q l H' hl s tl
theorem sc_Rule_shown:FnScope ["self","told","rule","word"] ["self"] (defScope s_Rule_shown):=⟨rfl,rfl,rfl,by decide +kernel,rfl,by decide +kernel,by decide +kernel⟩
theorem ok_Rule_shown{k d:Nat}{f:Addr}{fd:FuncData}(F:Fun K "shown" "Rule.shown" s_Rule_shown f fd)(er:Errs K mg c_FeastError c_NoNumber c_TooLong c_NoMeasure c_Rule c_All c_No c_Each c_Dated c_Not c_Both c_Either c_But c_Unlike c_Later c_Upon c_Until c_Near c_Till c_Kth c_Every c_Measure c_Calendar c_Sun)(z_zip:mg "zip"=none)(cr:CalL P w K mg base CX0 k "shown" ["self"] ([c_All,c_No,c_Each,c_Dated,c_Not,c_Both,c_Either,c_But,c_Unlike,c_Later,c_Upon,c_Until,c_Near,c_Till,c_Kth,c_Every].map fun C=>(C,(spShown K c_Rule [c_All,c_No,c_Each,c_Dated,c_Not,c_Both,c_Either,c_But,c_Unlike,c_Later,c_Upon,c_Until,c_Near,c_Till,c_Kth,c_Every]) d)))(hk:1≤k):FnOk P w K mg base CX0 (k+1) f fd ["self"] ((spShown K c_Rule [c_All,c_No,c_Each,c_Dated,c_Not,c_Both,c_Either,c_But,c_Unlike,c_Later,c_Upon,c_Until,c_Near,c_Till,c_Kth,c_Every]) (d+1)):=by
 refine F.ok (k:=k) sc_Rule_shown (fun vs H Q E h=>?_) (fun cdv A outer s H vs Q E hr h=>?_)
 ·obtain⟨t,rfl,_⟩:=h
  rfl
 obtain⟨t,rfl,T,dp,ln,q⟩:=h
 obtain⟨C,dx,p,pm,pw,hC,rc,hx,hp,hm,hw,bd,hk⟩:=T.node
 obtain⟨w0,ws,ew,wl⟩:=t.words_eq
 rw[ew,List.map_cons] at hw
 refine⟨_,(pss_cons (ps_set (i:=1) sc_Rule_shown.nd rfl (by first | exact Or.inl rfl | exact Or.inr rfl) (pe_lst (pa_cons (pe_ix ix_tup (pe_fld (pv 0) (by rfl)) pe_int (fun _ _=>rfl)) pa_nil)))
  (pss_cons (ps_for PassesOwn.never rfl (pi_zipT rfl z_zip (pa_cons (pe_fld (pv 0) (by rfl)) (pa_cons (pe_slice sl_tup (pe_fld (pv 0) (by rfl)) (po_some pe_int) po_none) pa_nil))) (pg_tup rfl (pgs_cons (pg_name (i:=2) sc_Rule_shown.nd rfl (by first | exact Or.inl rfl | exact Or.inr rfl)) (pgs_cons (pg_name (i:=3) sc_Rule_shown.nd rfl (by first | exact Or.inl rfl | exact Or.inr rfl)) pgs_nil)))
   (pss_one (ps_expr (pe_bm PySem.F.plainAttrs_list PySem.F.slot_list_extend PySem.F.type_list_extend mt_extend (pv 1) (pa_cons (pe_lst (pa_cons (pe_mcalL0 cr (hr.mono (Nat.le_refl _)) (pv 2)) (pa_cons (pv 3) pa_nil))) pa_nil)))))
  (pss_one (ps_ret (pe_bm PySem.F.plainAttrs_str PySem.F.slot_str_join PySem.F.type_str_join mt_join pe_str (pa_cons (pv 1) pa_nil)))))),?_⟩
 walk_at "rd"
 refine⟨t.adr,C,dx,_,_,rfl,hx,rc.cl,rc.w,rfl,?_⟩
 walk_at "rd"
 refine rd_ixT (v:=.str w0) (SqT.of hw) at_zero ?_
 walk_at "rd"
 refine⟨by show 1≤sizeLine;decide,fun l hl=>?_⟩
 refine fresh hl fun H1 s1 t1=>?_
 walk_at "rd"
 refine rd_for (rd_zipT ?_)
 walk_at "rd"
 refine⟨t.adr,C,dx,_,_,rfl,s1 _ _ hx,rc.cl,rc.m,rfl,?_⟩
 walk_at "rd"
 refine⟨t.adr,C,dx,_,_,rfl,s1 _ _ hx,rc.cl,rc.w,rfl,?_⟩
 walk_at "rd"
 refine⟨pw,_,rfl,SqT.of (s1 _ _ hw),cut1n,fun p5 hp5=>?_⟩
 rw[cut1]
 refine fresh hp5 fun H2 s2 t2=>?_
 walk_at "rd"
 refine⟨pm,p5,rfl,⟨_,_,SqT.of ((s1.trans s2) _ _ hm),SqT.of t2⟩,for_zipT (xs:=t.kids.map fun s=>.ref s.adr) (ys:=ws.map V.str) (fun i σ' H'=>Same H H'∧H' p5=some (.tup (ws.map V.str))∧H' l=some (.lst ((t.told w0 ws i).map V.str))∧∃v1 v2,σ'=[some (.ref t.adr),some (.ref l),v1,v2]) ⟨s1.trans s2,t2,s2 _ _ t1,none,none,rfl⟩ ?_ ?_ ?_⟩
 ·rintro i σ' H' _ ⟨s,tp,_⟩
  exact⟨SqT.of (s _ _ hm),SqT.of tp⟩
 ·rintro i x y T5 σ' H' hx' hy' hT ⟨sH,tp,tl,v1,v2,rfl⟩
  rw[List.getElem?_map] at hx' hy'
  obtain⟨u,hu,rfl⟩:=Option.map_eq_some_iff.mp hx'
  obtain⟨w5,hw5,rfl⟩:=Option.map_eq_some_iff.mp hy'
  have um:=List.mem_of_getElem? hu
  refine fresh hT fun H3 s3 t3=>?_
  have uT:=(hk u um).same (sH.trans s3)
  obtain⟨C',dx',p',pm',pw',hC',rc',hx2,_⟩:=uT.node
  have ud:=Tr.kid_deep um
  have ul:=Tr.kid_len um
  refine rd_gtup (SqT.of t3) rfl ?_
  walk_at "rd"
  refine rd_ext rfl (s3 _ _ tl) ?_
  walk_at "rd"
  refine⟨u.adr,C',dx',_,_,List.mem_map.mpr ⟨C',hC',rfl⟩,rfl,hx2,rfl,?_⟩
  walk_at "rd"
  refine⟨u,rfl,uT,by omega,by omega,fun H5 s5=>?_⟩
  walk_at "rd"
  refine⟨(by show 2≤sizeLine;decide),fun l6 hl6=>?_⟩
  refine fresh hl6 fun H6 s6 t6=>?_
  refine rd_nil ?_
  have s56:=s3.trans (s5.trans s6)
  have le:=Tr.told_len t w0 ws i
  refine⟨l,l6,_,_,rfl,rfl,s56 _ _ tl,t6,?_,?_⟩
  ·rw[List.length_map,sizeLine_eq]
   show(t.told w0 ws i).length+2≤_
   omega
  ·refine⟨fun r o ho=>?_,?_,?_,_,_,rfl⟩
   ·rw[upd_ne fun z=>by rw[z,hl] at ho;cases ho]
    exact s56 _ _ (sH _ _ ho)
   ·rw[upd_ne fun z=>by rw[z] at tp;rw[tl] at tp;cases tp]
    exact s56 _ _ tp
   ·rw[upd_same,Tr.told_succ hu hw5,List.map_append]
    rfl
 ·rintro σ' H' ⟨s,tp,tl,v1,v2,rfl⟩
  rw[List.length_map,List.length_map,wl,Nat.min_self] at tl
  walk_at "rd"
  refine rd_bm ?_
  walk_at "rd"
  refine⟨rfl,?_⟩
  walk_at "rd"
  refine⟨_,l,_,rfl,rfl,SqL.of tl,?_,?_⟩
  ·have e:=Tr.told_all ew
   have e1:=join_len (t.told w0 ws t.kids.length)
   have e2:=T.text_le
   have e3:(Str.ofString "").length=0:=by decide +kernel
   rw[e] at e1
   rw[e3,←e1]
   omega
  ·rw[Tr.told_all ew]
   exact q _ s
theorem sc_All___init__:FnScope ["self"] ["self"] (defScope s_All___init__):=⟨rfl,rfl,rfl,by decide +kernel,rfl,by decide +kernel,by decide +kernel⟩
theorem ok_All___init__{f:Addr}{fd:FuncData}(F:Fun K "__init__" "All.__init__" s_All___init__ f fd)(er:Errs K mg c_FeastError c_NoNumber c_TooLong c_NoMeasure c_Rule c_All c_No c_Each c_Dated c_Not c_Both c_Either c_But c_Unlike c_Later c_Upon c_Until c_Near c_Till c_Kth c_Every c_Measure c_Calendar c_Sun)(c_Rule___init__:CalB P w K mg base 1 "Rule" ["self","kept","made_of","words"] (spRInit K c_Rule)):FnOk P w K mg base CX0 3 f fd ["self"] (spI0T K c_Rule [c_All,c_No,c_Each,c_Dated,c_Not,c_Both,c_Either,c_But,c_Unlike,c_Later,c_Upon,c_Until,c_Near,c_Till,c_Kth,c_Every] c_All 1):=by
 refine F.ok (k:=2) sc_All___init__ (fun vs H Q E h=>?_) (fun cdv A outer s H vs Q E hr h=>?_)
 ·obtain⟨x,rfl,_⟩:=h
  rfl
 obtain⟨x,rfl,⟨dx,hx⟩,q⟩:=h
 refine⟨_,(pss_one (ps_expr (pe_binit c_Rule___init__ (hr.mono (by decide)) rfl (pa_cons (pv 0) (pa_cons (pe_tup (pa_cons pe_int (pa_cons pe_int pa_nil))) (pa_cons (pe_tup pa_nil) (pa_cons (pe_tup (pa_cons pe_str pa_nil)) pa_nil))))))),?_⟩
 walk_at "rd"
 refine⟨two',fun p hp=>?_⟩
 refine fresh hp fun H1 s1 t1=>?_
 have t1:H1 p=some (.tup [.int 1,.int ((1:Nat):Int)]):=t1
 walk_at "rd"
 refine⟨(by show 0≤sizeLine;decide),fun pm hpm=>?_⟩
 refine fresh hpm fun H2 s2 t2=>?_
 walk_at "rd"
 refine⟨(by show 1≤sizeLine;decide),fun pw hpw=>?_⟩
 refine fresh hpw fun H3 s3 t3=>?_
 have s3':=s3
 have t2:H2 pm=some (.tup (([]:List Addr).map .ref)):=t2
 have t3:H3 pw=some (.tup (([Str.ofString "all"]:List Str).map .str)):=t3
 have s3:=s2.trans s3
 have hx3:=(s1.trans s3) _ _ hx
 walk_at "rd"
 exact⟨x,p,pm,pw,c_All,dx,rfl,hx3,er.rc_All,fun H' k e=>q _ _ H' (k.pre (s1.trans s3)) (made_nod (List.mem_of_getElem? (i:=0) rfl) er.rc_All hx3 (s3 _ _ t1) (s3' _ _ t2) t3 k e (by decide) (by decide) (by decide) (by decide +kernel)) ⟨rfl,_,rfl,by unfold noDate;decide +kernel⟩⟩
theorem sc_No___init__:FnScope ["self"] ["self"] (defScope s_No___init__):=⟨rfl,rfl,rfl,by decide +kernel,rfl,by decide +kernel,by decide +kernel⟩
theorem ok_No___init__{f:Addr}{fd:FuncData}(F:Fun K "__init__" "No.__init__" s_No___init__ f fd)(er:Errs K mg c_FeastError c_NoNumber c_TooLong c_NoMeasure c_Rule c_All c_No c_Each c_Dated c_Not c_Both c_Either c_But c_Unlike c_Later c_Upon c_Until c_Near c_Till c_Kth c_Every c_Measure c_Calendar c_Sun)(c_Rule___init__:CalB P w K mg base 1 "Rule" ["self","kept","made_of","words"] (spRInit K c_Rule)):FnOk P w K mg base CX0 3 f fd ["self"] (spI0T K c_Rule [c_All,c_No,c_Each,c_Dated,c_Not,c_Both,c_Either,c_But,c_Unlike,c_Later,c_Upon,c_Until,c_Near,c_Till,c_Kth,c_Every] c_No 0):=by
 refine F.ok (k:=2) sc_No___init__ (fun vs H Q E h=>?_) (fun cdv A outer s H vs Q E hr h=>?_)
 ·obtain⟨x,rfl,_⟩:=h
  rfl
 obtain⟨x,rfl,⟨dx,hx⟩,q⟩:=h
 refine⟨_,(pss_one (ps_expr (pe_binit c_Rule___init__ (hr.mono (by decide)) rfl (pa_cons (pv 0) (pa_cons (pe_tup (pa_cons pe_int (pa_cons pe_int pa_nil))) (pa_cons (pe_tup pa_nil) (pa_cons (pe_tup (pa_cons pe_str pa_nil)) pa_nil))))))),?_⟩
 walk_at "rd"
 refine⟨two',fun p hp=>?_⟩
 refine fresh hp fun H1 s1 t1=>?_
 have t1:H1 p=some (.tup [.int 1,.int ((0:Nat):Int)]):=t1
 walk_at "rd"
 refine⟨(by show 0≤sizeLine;decide),fun pm hpm=>?_⟩
 refine fresh hpm fun H2 s2 t2=>?_
 walk_at "rd"
 refine⟨(by show 1≤sizeLine;decide),fun pw hpw=>?_⟩
 refine fresh hpw fun H3 s3 t3=>?_
 have s3':=s3
 have t2:H2 pm=some (.tup (([]:List Addr).map .ref)):=t2
 have t3:H3 pw=some (.tup (([Str.ofString "none"]:List Str).map .str)):=t3
 have s3:=s2.trans s3
 have hx3:=(s1.trans s3) _ _ hx
 walk_at "rd"
 exact⟨x,p,pm,pw,c_No,dx,rfl,hx3,er.rc_No,fun H' k e=>q _ _ H' (k.pre (s1.trans s3)) (made_nod (List.mem_of_getElem? (i:=1) rfl) er.rc_No hx3 (s3 _ _ t1) (s3' _ _ t2) t3 k e (by decide) (by decide) (by decide) (by decide +kernel)) ⟨rfl,_,rfl,by unfold noDate;decide +kernel⟩⟩
theorem sc_each_text:FnScope ["step","rest","least_rest"] ["step","rest"] (defScope s_each_text):=⟨rfl,rfl,rfl,by decide +kernel,rfl,by decide +kernel,by decide +kernel⟩
theorem ok_each_text{f:Addr}{fd:FuncData}(F:Fun K "each_text" "each_text" s_each_text f fd):FnOk P w K mg base CX0 1 f fd ["step","rest"] spEachT7:=by
 refine F.ok (k:=0) sc_each_text (fun vs H Q E h=>?_) (fun cdv A outer s H vs Q E hr h=>?_)
 ·obtain⟨n,r,rfl,_⟩:=h
  rfl
 obtain⟨n,r,rfl,n0,n1,q⟩:=h
 refine⟨_,(pss_cons (ps_set (i:=2) sc_each_text.nd rfl (by first | exact Or.inl rfl | exact Or.inr rfl) (pe_op op_mod (pv 1) (pv 0)))
  (pss_one (ps_ret (pe_join (pj_cons pe_str (pj_cons (pe_fmt hr.toN (pv 0)) (pj_cons pe_str (pj_cons (pe_fmt hr.toN (pv 2)) pj_nil)))))))),?_⟩
 walk_at "rd"
 refine rd_join ?_
 have m0:=Int.emod_nonneg r (show n≠0 by omega)
 have m1:=Int.emod_lt_of_pos r (show 0<n by omega)
 have g1:n.natAbs.log2<1920:=log7 (by omega) (by omega)
 have g2:(r%n).natAbs.log2<1920:=log7 (by omega) (by omega)
 refine rd_jc 0 (by decide) (by decide) fun l1=>rd_ji _ l1 (by decide) rfl g1 fun l2=>rd_jc _ l2 (by decide) fun l3=>rd_ji _ l3 (by decide) rfl g2 fun l4=>rd_jnil (fits l4 (by decide)) ?_
 refine q _ ?_ ?_
 ·rw[len_app7,len_app7,len_app7,len_app7]
  have e0:Str.empty.length=0:=by decide +kernel
  have e1:(Str.ofString "each ").length=5:=by decide +kernel
  have e2:(Str.ofString " from ").length=6:=by decide +kernel
  have e3:=intT_len g1
  have e4:=intT_len g2
  omega
 ·exact no_date (c:=101) (hd_app (hd_app (hd_app (by decide +kernel)))) (by decide)
theorem sc_Each___init__:FnScope ["self","size","rest","kept"] ["self","size","rest"] (defScope s_Each___init__):=⟨rfl,rfl,rfl,by decide +kernel,rfl,by decide +kernel,by decide +kernel⟩
theorem ok_Each___init__{f:Addr}{fd:FuncData}(F:Fun K "__init__" "Each.__init__" s_Each___init__ f fd)(er:Errs K mg c_FeastError c_NoNumber c_TooLong c_NoMeasure c_Rule c_All c_No c_Each c_Dated c_Not c_Both c_Either c_But c_Unlike c_Later c_Upon c_Until c_Near c_Till c_Kth c_Every c_Measure c_Calendar c_Sun)(c_round_by:Cal P w K mg base 2 "round_by" ["size","days"] (spRoundBy K))(c_Rule___init__:CalB P w K mg base 1 "Rule" ["self","kept","made_of","words"] (spRInit K c_Rule))(c_each_text:Cal P w K mg base 1 "each_text" ["step","rest"] spEachT7):FnOk P w K mg base CX0 3 f fd ["self","size","rest"] (spIEachT K c_Rule [c_All,c_No,c_Each,c_Dated,c_Not,c_Both,c_Either,c_But,c_Unlike,c_Later,c_Upon,c_Until,c_Near,c_Till,c_Kth,c_Every] c_Each):=by
 refine F.ok (k:=2) sc_Each___init__ (fun vs H Q E h=>?_) (fun cdv A outer s H vs Q E hr h=>?_)
 ·obtain⟨x,n,r,rfl,_⟩:=h
  rfl
 obtain⟨x,n,r,rfl,n0,n1,⟨dx,hx⟩,q⟩:=h
 refine⟨_,(pss_cons (ps_set (i:=3) sc_Each___init__.nd rfl (by first | exact Or.inl rfl | exact Or.inr rfl) (pe_cal c_round_by (hr.mono (by decide)) rfl (pa_cons (pv 1) (pa_cons (pe_lst (pa_cons (pv 2) pa_nil)) pa_nil))))
  (pss_one (ps_expr (pe_binit c_Rule___init__ (hr.mono (by decide)) rfl (pa_cons (pv 0) (pa_cons (pv 3) (pa_cons (pe_tup pa_nil) (pa_cons (pe_tup (pa_cons (pe_cal c_each_text (hr.mono (by decide)) rfl (pa_cons (pv 1) (pa_cons (pv 2) pa_nil))) pa_nil)) pa_nil)))))))),?_⟩
 walk_at "rd"
 refine⟨(by show 1≤sizeLine;decide),fun l hl=>?_⟩
 refine fresh hl fun H0 s0 t0=>?_
 have t0:H0 l=some (.lst ([r].map V.int)):=t0
 walk_at "rd"
 refine⟨l,[r],n,rfl,SqL.of t0,by omega,by omega,fun p b H1 s1 t1 B=>?_⟩
 have s1:=s0.trans s1
 walk_at "rd"
 refine⟨(by show 0≤sizeLine;decide),fun pm hpm=>?_⟩
 refine fresh hpm fun H2 s2 t2=>?_
 walk_at "rd"
 refine⟨n,r,rfl,n0,n1,fun z hz nd=>?_⟩
 walk_at "rd"
 refine⟨(by show 1≤sizeLine;decide),fun pw hpw=>?_⟩
 refine fresh hpw fun H3 s3 t3=>?_
 have s3':=s3
 have t2:H2 pm=some (.tup (([]:List Addr).map .ref)):=t2
 have t3:H3 pw=some (.tup (([z]:List Str).map .str)):=t3
 have s3:=s2.trans s3
 have hx3:=(s1.trans s3) _ _ hx
 walk_at "rd"
 exact⟨x,p,pm,pw,c_Each,dx,rfl,hx3,er.rc_Each,fun H' k e=>q _ _ H' (k.pre (s1.trans s3)) (made_nod (List.mem_of_getElem? (i:=2) rfl) er.rc_Each hx3 (s3 _ _ t1) (s3' _ _ t2) t3 k e (by omega) (by omega) B.lt (by show z.length+0≤8000;omega)) ⟨B,_,rfl,nd⟩⟩
theorem sc_wanted_text:FnScope ["number"] ["number"] (defScope s_wanted_text):=⟨rfl,rfl,rfl,by decide +kernel,rfl,by decide +kernel,by decide +kernel⟩
theorem ok_wanted_text{f:Addr}{fd:FuncData}(F:Fun K "wanted_text" "wanted_text" s_wanted_text f fd)(z_str:mg "str"=none):FnOk P w K mg base CX0 1 f fd ["number"] spWText7:=by
 refine F.ok (k:=0) sc_wanted_text (fun vs H Q E h=>?_) (fun cdv A outer s H vs Q E hr h=>?_)
 ·obtain⟨m,rfl,_⟩:=h
  rfl
 obtain⟨m,rfl,hm,q⟩:=h
 refine⟨_,(pss_one (ps_ret (pe_ifExp (pt_cmpR op_isN (pv 0) pe_non (nomark _)) pe_str (pe_callTy call_str_int rfl z_str PyProof.Rows.boot_str (pa_cons (pv 0) pa_nil))))),?_⟩
 cases m with
 | none=>
  walk_at "rd"
  try refine rd_ifE ?_
  walk_at "rd"
  refine⟨rfl,?_⟩
  walk_at "rd"
  refine iteT ?_
  walk_at "rd"
  exact q _ (by decide +kernel)
 | some j=>
  rw[show oI (some j)=V.int j from rfl]
  walk_at "rd"
  try refine rd_ifE ?_
  walk_at "rd"
  refine⟨rfl,?_⟩
  walk_at "rd"
  refine iteF ?_
  walk_at "rd"
  exact⟨_,rfl,hm j rfl,q _ (intT_len (hm j rfl))⟩
theorem sc_dated_text:FnScope ["name","month","day","step","rest","words"] ["name","month","day","step","rest"] (defScope s_dated_text):=⟨rfl,rfl,rfl,by decide +kernel,rfl,by decide +kernel,by decide +kernel⟩
theorem ok_dated_text{f:Addr}{fd:FuncData}(F:Fun K "dated_text" "dated_text" s_dated_text f fd)(c_wanted_text:Cal P w K mg base 1 "wanted_text" ["number"] spWText7)(c_each_text:Cal P w K mg base 1 "each_text" ["step","rest"] spEachT7):FnOk P w K mg base CX0 2 f fd ["name","month","day","step","rest"] spDText7:=by
 refine F.ok (k:=1) sc_dated_text (fun vs H Q E h=>?_) (fun cdv A outer s H vs Q E hr h=>?_)
 ·obtain⟨z,i,st,rfl,_⟩:=h
  cases i<;>rfl
 obtain⟨z,i,st,rfl,tzl,hi,st0,st1,q⟩:=h
 refine⟨_,(pss_cons (ps_set (i:=5) sc_dated_text.nd rfl (by first | exact Or.inl rfl | exact Or.inr rfl) (pe_lst (pa_cons pe_str (pa_cons (pv 0) (pa_cons (pe_cal c_wanted_text (hr.mono (by decide)) rfl (pa_cons (pv 1) pa_nil)) (pa_cons (pe_cal c_wanted_text (hr.mono (by decide)) rfl (pa_cons (pv 2) pa_nil)) pa_nil))))))
  (pss_cons (ps_cut (ps_if (pt_cmpR op_gt (pv 3) pe_int (nomark _))
   (pss_one (ps_expr (pe_bm PySem.F.plainAttrs_list PySem.F.slot_list_append PySem.F.type_list_append mt_append (pv 5) (pa_cons (pe_cal c_each_text (hr.mono (by decide)) rfl (pa_cons (pv 3) (pa_cons (pv 4) pa_nil))) pa_nil))))
   pss_nil))
  (pss_one (ps_ret (pe_bm PySem.F.plainAttrs_str PySem.F.slot_str_join PySem.F.type_str_join mt_join pe_str (pa_cons (pv 5) pa_nil)))))),?_⟩
 walk_at "rd"
 refine⟨some 1,rfl,(fun j e=>by cases e;decide),fun z1 t1l=>?_⟩
 walk_at "rd"
 refine⟨i,rfl,hi,fun z2 t2l=>?_⟩
 walk_at "rd"
 refine⟨four,fun l hl=>?_⟩
 refine fresh hl fun H1 s1 e1=>?_
 have e1:H1 l=some (.lst (([Str.ofString "date",z,z1,z2]:List Str).map V.str)):=e1
 walk_at "rd"
 refine rd_cut (fun σ' H'=>Same H H'∧∃(zs:List Str) (w0 w1 w2 w3 w4:V),H' l=some (.lst (zs.map V.str))∧(zs.map (·.length)).sum+zs.length*1≤8000∧σ'=[some w0,some w1,some w2,some w3,some w4,some (.ref l)]) ?_ ?_
 ·walk_at "rd"
  refine ite2d (fun c=>?_) (fun c=>?_)
  ·walk_at "rd"
   refine rd_append rfl e1 ?_
   walk_at "rd"
   refine⟨_,_,rfl,by omega,by omega,fun z3 t3l _=>?_⟩
   refine rd_nil ?_
   refine rd_app e1 (by show 4<sizeLine;decide) ?_
   walk_at "rd"
   refine⟨same_app hl s1,[Str.ofString "date",z,z1,z2,z3],_,_,_,_,_,upd_same,?_,rfl⟩
   show(4+(z.length+(z1.length+(z2.length+(z3.length+0)))))+5*1≤8000
   omega
  ·walk_at "rd"
   refine⟨s1,[Str.ofString "date",z,z1,z2],_,_,_,_,_,e1,?_,rfl⟩
   show(4+(z.length+(z1.length+(z2.length+0))))+4*1≤8000
   omega
 rintro σ' H2 ⟨s2,zs,w0,w1,w2,w3,w4,e2,hz,rfl⟩
 walk_at "rd"
 refine rd_bm ?_
 walk_at "rd"
 refine⟨rfl,?_⟩
 walk_at "rd"
 have e1:(Str.ofString " ").length=1:=by decide +kernel
 refine⟨_,l,zs,rfl,rfl,SqL.of e2,by rw[e1];omega,q _ _ s2 ?_⟩
 have:=glued_le (Str.ofString " ") zs
 rw[e1] at this
 omega
theorem sc_Dated___init__:FnScope ["self","name","calendar","month","day","step","rest","kept"] ["self","name","calendar","month","day","step","rest"] (defScope s_Dated___init__):=⟨rfl,rfl,rfl,by decide +kernel,rfl,by decide +kernel,by decide +kernel⟩
theorem ok_Dated___init__{f:Addr}{fd:FuncData}{ds:Array Value}(F:FunD K "__init__" "Dated.__init__" s_Dated___init__ f fd ds)(er:Errs K mg c_FeastError c_NoNumber c_TooLong c_NoMeasure c_Rule c_All c_No c_Each c_Dated c_Not c_Both c_Either c_But c_Unlike c_Later c_Upon c_Until c_Near c_Till c_Kth c_Every c_Measure c_Calendar c_Sun)(c_dated:Cal P w K mg base 5 "dated" ["calendar","month","day","step","rest"] (spDated7 c_Sun c_Measure))(c_Rule___init__:CalB P w K mg base 1 "Rule" ["self","kept","made_of","words"] (spRInit K c_Rule))(c_dated_text:Cal P w K mg base 2 "dated_text" ["name","month","day","step","rest"] spDText7):FnOk P w K mg base CX0 6 f fd ["self","name","calendar","month","day","step","rest"] (spIDT K c_Rule [c_All,c_No,c_Each,c_Dated,c_Not,c_Both,c_Either,c_But,c_Unlike,c_Later,c_Upon,c_Until,c_Near,c_Till,c_Kth,c_Every] c_Dated c_Sun c_Measure):=by
 refine F.ok (k:=5) sc_Dated___init__ (fun vs H Q E h=>?_) (fun cdv A outer s H vs Q E hr h=>?_)
 ·obtain⟨x,y,z,s,k,st,d,rfl,_⟩:=h
  cases d<;>rfl
 obtain⟨x,y,z,s,k,st,d,rfl,tz,S,s0,s1',k0,k1,d0,hd,st0,st1,⟨dx,hx⟩,q⟩:=h
 have z0:0<k*st:=Int.mul_pos (by omega) (by omega)
 have z1:k*st≤1000*100:=Int.mul_le_mul k1 st1 (by omega) (by decide)
 refine⟨_,(pss_cons (ps_set (i:=7) sc_Dated___init__.nd rfl (by first | exact Or.inl rfl | exact Or.inr rfl) (pe_cal c_dated (hr.mono (by decide)) rfl (pa_cons (pv 2) (pa_cons (pv 3) (pa_cons (pv 4) (pa_cons (pv 5) (pa_cons (pv 6) pa_nil)))))))
  (pss_one (ps_expr (pe_binit c_Rule___init__ (hr.mono (by decide)) rfl (pa_cons (pv 0) (pa_cons (pv 7) (pa_cons (pe_tup pa_nil) (pa_cons (pe_tup (pa_cons (pe_cal c_dated_text (hr.mono (by decide)) rfl (pa_cons (pv 1) (pa_cons (pv 3) (pa_cons (pv 4) (pa_cons (pv 5) (pa_cons (pv 6) pa_nil)))))) pa_nil)) pa_nil)))))))),?_⟩
 walk_at "rd"
 refine⟨y,s,k,st,d,rfl,S,s0,s1',k0,k1,d0,st0,st1,fun p c H1 s1 t1 lt=>?_⟩
 walk_at "rd"
 refine⟨(by show 0≤sizeLine;decide),fun pm hpm=>?_⟩
 refine fresh hpm fun H2 s2 t2=>?_
 walk_at "rd"
 refine⟨z,d,st,rfl,tz,hd,st0,st1,fun zt Hy sy ly=>?_⟩
 walk_at "rd"
 refine⟨(by show 1≤sizeLine;decide),fun pw hpw=>?_⟩
 refine fresh hpw fun H3 s3 t3=>?_
 have s3':=sy.trans s3
 have s3:=s3'
 have t2:H2 pm=some (.tup (([]:List Addr).map .ref)):=t2
 have t3:H3 pw=some (.tup (([zt]:List Str).map .str)):=t3
 have s3:=s2.trans s3
 have hx3:=(s1.trans s3) _ _ hx
 walk_at "rd"
 exact⟨x,p,pm,pw,c_Dated,dx,rfl,hx3,er.rc_Dated,fun H' k e=>q _ _ H' (k.pre (s1.trans s3)) (made_nod (List.mem_of_getElem? (i:=3) rfl) er.rc_Dated hx3 (s3 _ _ t1) (s3' _ _ t2) t3 k e z0 (by omega) lt (by show zt.length+0≤8000;omega)) ⟨_,rfl⟩⟩
theorem sc_Not___init__:FnScope ["self","R"] ["self","R"] (defScope s_Not___init__):=⟨rfl,rfl,rfl,by decide +kernel,rfl,by decide +kernel,by decide +kernel⟩
theorem ok_Not___init__{f:Addr}{fd:FuncData}(F:Fun K "__init__" "Not.__init__" s_Not___init__ f fd)(er:Errs K mg c_FeastError c_NoNumber c_TooLong c_NoMeasure c_Rule c_All c_No c_Each c_Dated c_Not c_Both c_Either c_But c_Unlike c_Later c_Upon c_Until c_Near c_Till c_Kth c_Every c_Measure c_Calendar c_Sun)(c_Rule___init__:CalB P w K mg base 1 "Rule" ["self","kept","made_of","words"] (spRInit K c_Rule))(c_other_days:Cal P w K mg base 2 "other_days" ["turn"] (spOther K))(c_Rec_turn:CalL P w K mg base CX0 2 "turn" ["self"] ([c_All,c_No,c_Each,c_Dated,c_Not,c_Both,c_Either,c_But,c_Unlike,c_Later,c_Upon,c_Until,c_Near,c_Till,c_Kth,c_Every].map fun C=>(C,(spR (spTurnM K c_Rule [c_All,c_No,c_Each,c_Dated,c_Not,c_Both,c_Either,c_But,c_Unlike,c_Later,c_Upon,c_Until,c_Near,c_Till,c_Kth,c_Every])) 1))):FnOk P w K mg base CX0 3 f fd ["self","R"] (spI1T K c_Rule [c_All,c_No,c_Each,c_Dated,c_Not,c_Both,c_Either,c_But,c_Unlike,c_Later,c_Upon,c_Until,c_Near,c_Till,c_Kth,c_Every] c_Not):=by
 refine F.ok (k:=2) sc_Not___init__ (fun vs H Q E h=>?_) (fun cdv A outer s H vs Q E hr h=>?_)
 ·obtain⟨x,r,n,b,rfl,_⟩:=h
  rfl
 obtain⟨x,r,n,b,rfl,R,⟨dx,hx⟩,q⟩:=h
 refine⟨_,(pss_one (ps_expr (pe_binit c_Rule___init__ (hr.mono (by decide)) rfl (pa_cons (pv 0) (pa_cons (pe_cal c_other_days (hr.mono (by decide)) rfl (pa_cons (pe_mcalL0 c_Rec_turn (hr.mono (by decide)) (pv 1)) pa_nil)) (pa_cons (pe_tup (pa_cons (pv 1) pa_nil)) (pa_cons (pe_tup (pa_cons pe_str (pa_cons pe_str pa_nil))) pa_nil))))))),?_⟩
 walk_at "rd"
 obtain⟨C,dr,fs,m,hr,l1,_⟩:=R.mt
 refine⟨r,C,dr,fs,_,m _,rfl,hr,l1,?_⟩
 walk_at "rd"
 refine⟨Nat.one_pos,r,n,b,rfl,R,fun p hp=>?_⟩
 walk_at "rd"
 refine⟨p,n,b,rfl,SqT.of hp,R.n0,R.n1,R.lt,fun p2 c hp2 hc hbit=>?_⟩
 refine fresh hp2 fun H1 s1 t1=>?_
 walk_at "rd"
 refine⟨(by show 1≤sizeLine;decide),fun pm hpm=>?_⟩
 refine fresh hpm fun H2 s2 t2=>?_
 walk_at "rd"
 refine⟨two',fun pw hpw=>?_⟩
 refine fresh hpw fun H3 s3 t3=>?_
 have s3':=s3
 have t2:H2 pm=some (.tup (([r]:List Addr).map .ref)):=t2
 have t3:H3 pw=some (.tup (([Str.ofString "(not ",Str.ofString ")"]:List Str).map .str)):=t3
 have s3:=s2.trans s3
 have hx3:=(s1.trans s3) _ _ hx
 walk_at "rd"
 exact⟨x,p2,pm,pw,c_Not,dx,rfl,hx3,er.rc_Not,fun H' k e=>q _ _ H' (k.pre (s1.trans s3)) (made_nod (List.mem_of_getElem? (i:=4) rfl) er.rc_Not hx3 (s3 _ _ t1) (s3' _ _ t2) t3 k e R.n0 R.n1 hc (by decide +kernel)) ⟨_,_,rfl⟩⟩
theorem sc_Both___init__:FnScope ["self","R","S"] ["self","R","S"] (defScope s_Both___init__):=⟨rfl,rfl,rfl,by decide +kernel,rfl,by decide +kernel,by decide +kernel⟩
theorem ok_Both___init__{f:Addr}{fd:FuncData}(F:Fun K "__init__" "Both.__init__" s_Both___init__ f fd)(er:Errs K mg c_FeastError c_NoNumber c_TooLong c_NoMeasure c_Rule c_All c_No c_Each c_Dated c_Not c_Both c_Either c_But c_Unlike c_Later c_Upon c_Until c_Near c_Till c_Kth c_Every c_Measure c_Calendar c_Sun)(c_Rule___init__:CalB P w K mg base 1 "Rule" ["self","kept","made_of","words"] (spRInit K c_Rule))(c_both:Cal P w K mg base 5 "both" ["one","other"] (spJoin K))(c_Rec_turn:CalL P w K mg base CX0 2 "turn" ["self"] ([c_All,c_No,c_Each,c_Dated,c_Not,c_Both,c_Either,c_But,c_Unlike,c_Later,c_Upon,c_Until,c_Near,c_Till,c_Kth,c_Every].map fun C=>(C,(spR (spTurnM K c_Rule [c_All,c_No,c_Each,c_Dated,c_Not,c_Both,c_Either,c_But,c_Unlike,c_Later,c_Upon,c_Until,c_Near,c_Till,c_Kth,c_Every])) 1))):FnOk P w K mg base CX0 6 f fd ["self","R","S"] (spI2T K c_Rule [c_All,c_No,c_Each,c_Dated,c_Not,c_Both,c_Either,c_But,c_Unlike,c_Later,c_Upon,c_Until,c_Near,c_Till,c_Kth,c_Every] c_Both):=by
 refine F.ok (k:=5) sc_Both___init__ (fun vs H Q E h=>?_) (fun cdv A outer s H vs Q E hr h=>?_)
 ·obtain⟨x,r,t,n1,n2,b1,b2,rfl,_⟩:=h
  rfl
 obtain⟨x,r,t,n1,n2,b1,b2,rfl,R1,R2,lz,⟨dx,hx⟩,q⟩:=h
 have fl:=lcmI_facts R1.n0 R2.n0
 refine⟨_,(pss_one (ps_expr (pe_binit c_Rule___init__ (hr.mono (by decide)) rfl (pa_cons (pv 0) (pa_cons (pe_cal c_both (hr.mono (by decide)) rfl (pa_cons (pe_mcalL0 c_Rec_turn (hr.mono (by decide)) (pv 1)) (pa_cons (pe_mcalL0 c_Rec_turn (hr.mono (by decide)) (pv 2)) pa_nil))) (pa_cons (pe_tup (pa_cons (pv 1) (pa_cons (pv 2) pa_nil))) (pa_cons (pe_tup (pa_cons pe_str (pa_cons pe_str (pa_cons pe_str pa_nil)))) pa_nil))))))),?_⟩
 walk_at "rd"
 obtain⟨C,dr,fs,m,hr,l1,_⟩:=R1.mt
 refine⟨r,C,dr,fs,_,m _,rfl,hr,l1,?_⟩
 walk_at "rd"
 refine⟨Nat.one_pos,r,n1,b1,rfl,R1,fun p hp=>?_⟩
 walk_at "rd"
 obtain⟨C',dr',fs',m',hr',l1',_⟩:=R2.mt
 refine⟨t,C',dr',fs',_,m' _,rfl,hr',l1',?_⟩
 walk_at "rd"
 refine⟨Nat.one_pos,t,n2,b2,rfl,R2,fun p' hp'=>?_⟩
 walk_at "rd"
 refine⟨p,p',n1,n2,b1,b2,rfl,⟨SqT.of hp,SqT.of hp',R1.n0,R2.n0,R1.n1,R2.n1,R1.lt,R2.lt⟩,lz,fun p2 c H1 s1 t1 lt=>?_⟩
 walk_at "rd"
 refine⟨two',fun pm hpm=>?_⟩
 refine fresh hpm fun H2 s2 t2=>?_
 walk_at "rd"
 refine⟨(by show 3≤sizeLine;decide),fun pw hpw=>?_⟩
 refine fresh hpw fun H3 s3 t3=>?_
 have s3':=s3
 have t2:H2 pm=some (.tup (([r,t]:List Addr).map .ref)):=t2
 have t3:H3 pw=some (.tup (([Str.ofString "(",Str.ofString " and ",Str.ofString ")"]:List Str).map .str)):=t3
 have s3:=s2.trans s3
 have hx3:=(s1.trans s3) _ _ hx
 walk_at "rd"
 exact⟨x,p2,pm,pw,c_Both,dx,rfl,hx3,er.rc_Both,fun H' k e=>q _ _ H' (k.pre (s1.trans s3)) (made_nod (List.mem_of_getElem? (i:=5) rfl) er.rc_Both hx3 (s3 _ _ t1) (s3' _ _ t2) t3 k e fl.1 lz lt (by decide +kernel)) ⟨_,_,_,rfl⟩⟩
theorem sc_Either___init__:FnScope ["self","R","S"] ["self","R","S"] (defScope s_Either___init__):=⟨rfl,rfl,rfl,by decide +kernel,rfl,by decide +kernel,by decide +kernel⟩
theorem ok_Either___init__{f:Addr}{fd:FuncData}(F:Fun K "__init__" "Either.__init__" s_Either___init__ f fd)(er:Errs K mg c_FeastError c_NoNumber c_TooLong c_NoMeasure c_Rule c_All c_No c_Each c_Dated c_Not c_Both c_Either c_But c_Unlike c_Later c_Upon c_Until c_Near c_Till c_Kth c_Every c_Measure c_Calendar c_Sun)(c_Rule___init__:CalB P w K mg base 1 "Rule" ["self","kept","made_of","words"] (spRInit K c_Rule))(c_either:Cal P w K mg base 5 "either" ["one","other"] (spJoin K))(c_Rec_turn:CalL P w K mg base CX0 2 "turn" ["self"] ([c_All,c_No,c_Each,c_Dated,c_Not,c_Both,c_Either,c_But,c_Unlike,c_Later,c_Upon,c_Until,c_Near,c_Till,c_Kth,c_Every].map fun C=>(C,(spR (spTurnM K c_Rule [c_All,c_No,c_Each,c_Dated,c_Not,c_Both,c_Either,c_But,c_Unlike,c_Later,c_Upon,c_Until,c_Near,c_Till,c_Kth,c_Every])) 1))):FnOk P w K mg base CX0 6 f fd ["self","R","S"] (spI2T K c_Rule [c_All,c_No,c_Each,c_Dated,c_Not,c_Both,c_Either,c_But,c_Unlike,c_Later,c_Upon,c_Until,c_Near,c_Till,c_Kth,c_Every] c_Either):=by
 refine F.ok (k:=5) sc_Either___init__ (fun vs H Q E h=>?_) (fun cdv A outer s H vs Q E hr h=>?_)
 ·obtain⟨x,r,t,n1,n2,b1,b2,rfl,_⟩:=h
  rfl
 obtain⟨x,r,t,n1,n2,b1,b2,rfl,R1,R2,lz,⟨dx,hx⟩,q⟩:=h
 have fl:=lcmI_facts R1.n0 R2.n0
 refine⟨_,(pss_one (ps_expr (pe_binit c_Rule___init__ (hr.mono (by decide)) rfl (pa_cons (pv 0) (pa_cons (pe_cal c_either (hr.mono (by decide)) rfl (pa_cons (pe_mcalL0 c_Rec_turn (hr.mono (by decide)) (pv 1)) (pa_cons (pe_mcalL0 c_Rec_turn (hr.mono (by decide)) (pv 2)) pa_nil))) (pa_cons (pe_tup (pa_cons (pv 1) (pa_cons (pv 2) pa_nil))) (pa_cons (pe_tup (pa_cons pe_str (pa_cons pe_str (pa_cons pe_str pa_nil)))) pa_nil))))))),?_⟩
 walk_at "rd"
 obtain⟨C,dr,fs,m,hr,l1,_⟩:=R1.mt
 refine⟨r,C,dr,fs,_,m _,rfl,hr,l1,?_⟩
 walk_at "rd"
 refine⟨Nat.one_pos,r,n1,b1,rfl,R1,fun p hp=>?_⟩
 walk_at "rd"
 obtain⟨C',dr',fs',m',hr',l1',_⟩:=R2.mt
 refine⟨t,C',dr',fs',_,m' _,rfl,hr',l1',?_⟩
 walk_at "rd"
 refine⟨Nat.one_pos,t,n2,b2,rfl,R2,fun p' hp'=>?_⟩
 walk_at "rd"
 refine⟨p,p',n1,n2,b1,b2,rfl,⟨SqT.of hp,SqT.of hp',R1.n0,R2.n0,R1.n1,R2.n1,R1.lt,R2.lt⟩,lz,fun p2 c H1 s1 t1 lt=>?_⟩
 walk_at "rd"
 refine⟨two',fun pm hpm=>?_⟩
 refine fresh hpm fun H2 s2 t2=>?_
 walk_at "rd"
 refine⟨(by show 3≤sizeLine;decide),fun pw hpw=>?_⟩
 refine fresh hpw fun H3 s3 t3=>?_
 have s3':=s3
 have t2:H2 pm=some (.tup (([r,t]:List Addr).map .ref)):=t2
 have t3:H3 pw=some (.tup (([Str.ofString "(",Str.ofString " or ",Str.ofString ")"]:List Str).map .str)):=t3
 have s3:=s2.trans s3
 have hx3:=(s1.trans s3) _ _ hx
 walk_at "rd"
 exact⟨x,p2,pm,pw,c_Either,dx,rfl,hx3,er.rc_Either,fun H' k e=>q _ _ H' (k.pre (s1.trans s3)) (made_nod (List.mem_of_getElem? (i:=6) rfl) er.rc_Either hx3 (s3 _ _ t1) (s3' _ _ t2) t3 k e fl.1 lz lt (by decide +kernel)) ⟨_,_,_,rfl⟩⟩
theorem sc_But___init__:FnScope ["self","R","S"] ["self","R","S"] (defScope s_But___init__):=⟨rfl,rfl,rfl,by decide +kernel,rfl,by decide +kernel,by decide +kernel⟩
theorem ok_But___init__{f:Addr}{fd:FuncData}(F:Fun K "__init__" "But.__init__" s_But___init__ f fd)(er:Errs K mg c_FeastError c_NoNumber c_TooLong c_NoMeasure c_Rule c_All c_No c_Each c_Dated c_Not c_Both c_Either c_But c_Unlike c_Later c_Upon c_Until c_Near c_Till c_Kth c_Every c_Measure c_Calendar c_Sun)(c_Rule___init__:CalB P w K mg base 1 "Rule" ["self","kept","made_of","words"] (spRInit K c_Rule))(c_without:Cal P w K mg base 6 "without" ["one","other"] (spJoin K))(c_Rec_turn:CalL P w K mg base CX0 2 "turn" ["self"] ([c_All,c_No,c_Each,c_Dated,c_Not,c_Both,c_Either,c_But,c_Unlike,c_Later,c_Upon,c_Until,c_Near,c_Till,c_Kth,c_Every].map fun C=>(C,(spR (spTurnM K c_Rule [c_All,c_No,c_Each,c_Dated,c_Not,c_Both,c_Either,c_But,c_Unlike,c_Later,c_Upon,c_Until,c_Near,c_Till,c_Kth,c_Every])) 1))):FnOk P w K mg base CX0 7 f fd ["self","R","S"] (spI2T K c_Rule [c_All,c_No,c_Each,c_Dated,c_Not,c_Both,c_Either,c_But,c_Unlike,c_Later,c_Upon,c_Until,c_Near,c_Till,c_Kth,c_Every] c_But):=by
 refine F.ok (k:=6) sc_But___init__ (fun vs H Q E h=>?_) (fun cdv A outer s H vs Q E hr h=>?_)
 ·obtain⟨x,r,t,n1,n2,b1,b2,rfl,_⟩:=h
  rfl
 obtain⟨x,r,t,n1,n2,b1,b2,rfl,R1,R2,lz,⟨dx,hx⟩,q⟩:=h
 have fl:=lcmI_facts R1.n0 R2.n0
 refine⟨_,(pss_one (ps_expr (pe_binit c_Rule___init__ (hr.mono (by decide)) rfl (pa_cons (pv 0) (pa_cons (pe_cal c_without (hr.mono (by decide)) rfl (pa_cons (pe_mcalL0 c_Rec_turn (hr.mono (by decide)) (pv 1)) (pa_cons (pe_mcalL0 c_Rec_turn (hr.mono (by decide)) (pv 2)) pa_nil))) (pa_cons (pe_tup (pa_cons (pv 1) (pa_cons (pv 2) pa_nil))) (pa_cons (pe_tup (pa_cons pe_str (pa_cons pe_str (pa_cons pe_str pa_nil)))) pa_nil))))))),?_⟩
 walk_at "rd"
 obtain⟨C,dr,fs,m,hr,l1,_⟩:=R1.mt
 refine⟨r,C,dr,fs,_,m _,rfl,hr,l1,?_⟩
 walk_at "rd"
 refine⟨Nat.one_pos,r,n1,b1,rfl,R1,fun p hp=>?_⟩
 walk_at "rd"
 obtain⟨C',dr',fs',m',hr',l1',_⟩:=R2.mt
 refine⟨t,C',dr',fs',_,m' _,rfl,hr',l1',?_⟩
 walk_at "rd"
 refine⟨Nat.one_pos,t,n2,b2,rfl,R2,fun p' hp'=>?_⟩
 walk_at "rd"
 refine⟨p,p',n1,n2,b1,b2,rfl,⟨SqT.of hp,SqT.of hp',R1.n0,R2.n0,R1.n1,R2.n1,R1.lt,R2.lt⟩,lz,fun p2 c H1 s1 t1 lt=>?_⟩
 walk_at "rd"
 refine⟨two',fun pm hpm=>?_⟩
 refine fresh hpm fun H2 s2 t2=>?_
 walk_at "rd"
 refine⟨(by show 3≤sizeLine;decide),fun pw hpw=>?_⟩
 refine fresh hpw fun H3 s3 t3=>?_
 have s3':=s3
 have t2:H2 pm=some (.tup (([r,t]:List Addr).map .ref)):=t2
 have t3:H3 pw=some (.tup (([Str.ofString "(",Str.ofString " but ",Str.ofString ")"]:List Str).map .str)):=t3
 have s3:=s2.trans s3
 have hx3:=(s1.trans s3) _ _ hx
 walk_at "rd"
 exact⟨x,p2,pm,pw,c_But,dx,rfl,hx3,er.rc_But,fun H' k e=>q _ _ H' (k.pre (s1.trans s3)) (made_nod (List.mem_of_getElem? (i:=7) rfl) er.rc_But hx3 (s3 _ _ t1) (s3' _ _ t2) t3 k e fl.1 lz lt (by decide +kernel)) ⟨_,_,_,rfl⟩⟩
theorem sc_Unlike___init__:FnScope ["self","R","S"] ["self","R","S"] (defScope s_Unlike___init__):=⟨rfl,rfl,rfl,by decide +kernel,rfl,by decide +kernel,by decide +kernel⟩
theorem ok_Unlike___init__{f:Addr}{fd:FuncData}(F:Fun K "__init__" "Unlike.__init__" s_Unlike___init__ f fd)(er:Errs K mg c_FeastError c_NoNumber c_TooLong c_NoMeasure c_Rule c_All c_No c_Each c_Dated c_Not c_Both c_Either c_But c_Unlike c_Later c_Upon c_Until c_Near c_Till c_Kth c_Every c_Measure c_Calendar c_Sun)(c_Rule___init__:CalB P w K mg base 1 "Rule" ["self","kept","made_of","words"] (spRInit K c_Rule))(c_unlike:Cal P w K mg base 5 "unlike" ["one","other"] (spJoin K))(c_Rec_turn:CalL P w K mg base CX0 2 "turn" ["self"] ([c_All,c_No,c_Each,c_Dated,c_Not,c_Both,c_Either,c_But,c_Unlike,c_Later,c_Upon,c_Until,c_Near,c_Till,c_Kth,c_Every].map fun C=>(C,(spR (spTurnM K c_Rule [c_All,c_No,c_Each,c_Dated,c_Not,c_Both,c_Either,c_But,c_Unlike,c_Later,c_Upon,c_Until,c_Near,c_Till,c_Kth,c_Every])) 1))):FnOk P w K mg base CX0 6 f fd ["self","R","S"] (spI2T K c_Rule [c_All,c_No,c_Each,c_Dated,c_Not,c_Both,c_Either,c_But,c_Unlike,c_Later,c_Upon,c_Until,c_Near,c_Till,c_Kth,c_Every] c_Unlike):=by
 refine F.ok (k:=5) sc_Unlike___init__ (fun vs H Q E h=>?_) (fun cdv A outer s H vs Q E hr h=>?_)
 ·obtain⟨x,r,t,n1,n2,b1,b2,rfl,_⟩:=h
  rfl
 obtain⟨x,r,t,n1,n2,b1,b2,rfl,R1,R2,lz,⟨dx,hx⟩,q⟩:=h
 have fl:=lcmI_facts R1.n0 R2.n0
 refine⟨_,(pss_one (ps_expr (pe_binit c_Rule___init__ (hr.mono (by decide)) rfl (pa_cons (pv 0) (pa_cons (pe_cal c_unlike (hr.mono (by decide)) rfl (pa_cons (pe_mcalL0 c_Rec_turn (hr.mono (by decide)) (pv 1)) (pa_cons (pe_mcalL0 c_Rec_turn (hr.mono (by decide)) (pv 2)) pa_nil))) (pa_cons (pe_tup (pa_cons (pv 1) (pa_cons (pv 2) pa_nil))) (pa_cons (pe_tup (pa_cons pe_str (pa_cons pe_str (pa_cons pe_str pa_nil)))) pa_nil))))))),?_⟩
 walk_at "rd"
 obtain⟨C,dr,fs,m,hr,l1,_⟩:=R1.mt
 refine⟨r,C,dr,fs,_,m _,rfl,hr,l1,?_⟩
 walk_at "rd"
 refine⟨Nat.one_pos,r,n1,b1,rfl,R1,fun p hp=>?_⟩
 walk_at "rd"
 obtain⟨C',dr',fs',m',hr',l1',_⟩:=R2.mt
 refine⟨t,C',dr',fs',_,m' _,rfl,hr',l1',?_⟩
 walk_at "rd"
 refine⟨Nat.one_pos,t,n2,b2,rfl,R2,fun p' hp'=>?_⟩
 walk_at "rd"
 refine⟨p,p',n1,n2,b1,b2,rfl,⟨SqT.of hp,SqT.of hp',R1.n0,R2.n0,R1.n1,R2.n1,R1.lt,R2.lt⟩,lz,fun p2 c H1 s1 t1 lt=>?_⟩
 walk_at "rd"
 refine⟨two',fun pm hpm=>?_⟩
 refine fresh hpm fun H2 s2 t2=>?_
 walk_at "rd"
 refine⟨(by show 3≤sizeLine;decide),fun pw hpw=>?_⟩
 refine fresh hpw fun H3 s3 t3=>?_
 have s3':=s3
 have t2:H2 pm=some (.tup (([r,t]:List Addr).map .ref)):=t2
 have t3:H3 pw=some (.tup (([Str.ofString "(",Str.ofString " unlike ",Str.ofString ")"]:List Str).map .str)):=t3
 have s3:=s2.trans s3
 have hx3:=(s1.trans s3) _ _ hx
 walk_at "rd"
 exact⟨x,p2,pm,pw,c_Unlike,dx,rfl,hx3,er.rc_Unlike,fun H' k e=>q _ _ H' (k.pre (s1.trans s3)) (made_nod (List.mem_of_getElem? (i:=8) rfl) er.rc_Unlike hx3 (s3 _ _ t1) (s3' _ _ t2) t3 k e fl.1 lz lt (by decide +kernel)) ⟨_,_,_,rfl⟩⟩
theorem sc_Upon___init__:FnScope ["self","R","S"] ["self","R","S"] (defScope s_Upon___init__):=⟨rfl,rfl,rfl,by decide +kernel,rfl,by decide +kernel,by decide +kernel⟩
theorem ok_Upon___init__{f:Addr}{fd:FuncData}(F:Fun K "__init__" "Upon.__init__" s_Upon___init__ f fd)(er:Errs K mg c_FeastError c_NoNumber c_TooLong c_NoMeasure c_Rule c_All c_No c_Each c_Dated c_Not c_Both c_Either c_But c_Unlike c_Later c_Upon c_Until c_Near c_Till c_Kth c_Every c_Measure c_Calendar c_Sun)(c_Rule___init__:CalB P w K mg base 1 "Rule" ["self","kept","made_of","words"] (spRInit K c_Rule))(c_upon:Cal P w K mg base 7 "upon" ["R","S"] (spJoin K))(c_Rec_turn:CalL P w K mg base CX0 2 "turn" ["self"] ([c_All,c_No,c_Each,c_Dated,c_Not,c_Both,c_Either,c_But,c_Unlike,c_Later,c_Upon,c_Until,c_Near,c_Till,c_Kth,c_Every].map fun C=>(C,(spR (spTurnM K c_Rule [c_All,c_No,c_Each,c_Dated,c_Not,c_Both,c_Either,c_But,c_Unlike,c_Later,c_Upon,c_Until,c_Near,c_Till,c_Kth,c_Every])) 1))):FnOk P w K mg base CX0 8 f fd ["self","R","S"] (spI2T K c_Rule [c_All,c_No,c_Each,c_Dated,c_Not,c_Both,c_Either,c_But,c_Unlike,c_Later,c_Upon,c_Until,c_Near,c_Till,c_Kth,c_Every] c_Upon):=by
 refine F.ok (k:=7) sc_Upon___init__ (fun vs H Q E h=>?_) (fun cdv A outer s H vs Q E hr h=>?_)
 ·obtain⟨x,r,t,n1,n2,b1,b2,rfl,_⟩:=h
  rfl
 obtain⟨x,r,t,n1,n2,b1,b2,rfl,R1,R2,lz,⟨dx,hx⟩,q⟩:=h
 have fl:=lcmI_facts R1.n0 R2.n0
 refine⟨_,(pss_one (ps_expr (pe_binit c_Rule___init__ (hr.mono (by decide)) rfl (pa_cons (pv 0) (pa_cons (pe_cal c_upon (hr.mono (by decide)) rfl (pa_cons (pe_mcalL0 c_Rec_turn (hr.mono (by decide)) (pv 1)) (pa_cons (pe_mcalL0 c_Rec_turn (hr.mono (by decide)) (pv 2)) pa_nil))) (pa_cons (pe_tup (pa_cons (pv 1) (pa_cons (pv 2) pa_nil))) (pa_cons (pe_tup (pa_cons pe_str (pa_cons pe_str (pa_cons pe_str pa_nil)))) pa_nil))))))),?_⟩
 walk_at "rd"
 obtain⟨C,dr,fs,m,hr,l1,_⟩:=R1.mt
 refine⟨r,C,dr,fs,_,m _,rfl,hr,l1,?_⟩
 walk_at "rd"
 refine⟨Nat.one_pos,r,n1,b1,rfl,R1,fun p hp=>?_⟩
 walk_at "rd"
 obtain⟨C',dr',fs',m',hr',l1',_⟩:=R2.mt
 refine⟨t,C',dr',fs',_,m' _,rfl,hr',l1',?_⟩
 walk_at "rd"
 refine⟨Nat.one_pos,t,n2,b2,rfl,R2,fun p' hp'=>?_⟩
 walk_at "rd"
 refine⟨p,p',n1,n2,b1,b2,rfl,⟨SqT.of hp,SqT.of hp',R1.n0,R2.n0,R1.n1,R2.n1,R1.lt,R2.lt⟩,lz,fun p2 c H1 s1 t1 lt=>?_⟩
 walk_at "rd"
 refine⟨two',fun pm hpm=>?_⟩
 refine fresh hpm fun H2 s2 t2=>?_
 walk_at "rd"
 refine⟨(by show 3≤sizeLine;decide),fun pw hpw=>?_⟩
 refine fresh hpw fun H3 s3 t3=>?_
 have s3':=s3
 have t2:H2 pm=some (.tup (([r,t]:List Addr).map .ref)):=t2
 have t3:H3 pw=some (.tup (([Str.ofString "(",Str.ofString " upon ",Str.ofString ")"]:List Str).map .str)):=t3
 have s3:=s2.trans s3
 have hx3:=(s1.trans s3) _ _ hx
 walk_at "rd"
 exact⟨x,p2,pm,pw,c_Upon,dx,rfl,hx3,er.rc_Upon,fun H' k e=>q _ _ H' (k.pre (s1.trans s3)) (made_nod (List.mem_of_getElem? (i:=10) rfl) er.rc_Upon hx3 (s3 _ _ t1) (s3' _ _ t2) t3 k e fl.1 lz lt (by decide +kernel)) ⟨_,_,_,rfl⟩⟩
theorem sc_Until___init__:FnScope ["self","R","S"] ["self","R","S"] (defScope s_Until___init__):=⟨rfl,rfl,rfl,by decide +kernel,rfl,by decide +kernel,by decide +kernel⟩
theorem ok_Until___init__{f:Addr}{fd:FuncData}(F:Fun K "__init__" "Until.__init__" s_Until___init__ f fd)(er:Errs K mg c_FeastError c_NoNumber c_TooLong c_NoMeasure c_Rule c_All c_No c_Each c_Dated c_Not c_Both c_Either c_But c_Unlike c_Later c_Upon c_Until c_Near c_Till c_Kth c_Every c_Measure c_Calendar c_Sun)(c_Rule___init__:CalB P w K mg base 1 "Rule" ["self","kept","made_of","words"] (spRInit K c_Rule))(c_until:Cal P w K mg base 7 "until" ["R","S"] (spJoin K))(c_Rec_turn:CalL P w K mg base CX0 2 "turn" ["self"] ([c_All,c_No,c_Each,c_Dated,c_Not,c_Both,c_Either,c_But,c_Unlike,c_Later,c_Upon,c_Until,c_Near,c_Till,c_Kth,c_Every].map fun C=>(C,(spR (spTurnM K c_Rule [c_All,c_No,c_Each,c_Dated,c_Not,c_Both,c_Either,c_But,c_Unlike,c_Later,c_Upon,c_Until,c_Near,c_Till,c_Kth,c_Every])) 1))):FnOk P w K mg base CX0 8 f fd ["self","R","S"] (spI2T K c_Rule [c_All,c_No,c_Each,c_Dated,c_Not,c_Both,c_Either,c_But,c_Unlike,c_Later,c_Upon,c_Until,c_Near,c_Till,c_Kth,c_Every] c_Until):=by
 refine F.ok (k:=7) sc_Until___init__ (fun vs H Q E h=>?_) (fun cdv A outer s H vs Q E hr h=>?_)
 ·obtain⟨x,r,t,n1,n2,b1,b2,rfl,_⟩:=h
  rfl
 obtain⟨x,r,t,n1,n2,b1,b2,rfl,R1,R2,lz,⟨dx,hx⟩,q⟩:=h
 have fl:=lcmI_facts R1.n0 R2.n0
 refine⟨_,(pss_one (ps_expr (pe_binit c_Rule___init__ (hr.mono (by decide)) rfl (pa_cons (pv 0) (pa_cons (pe_cal c_until (hr.mono (by decide)) rfl (pa_cons (pe_mcalL0 c_Rec_turn (hr.mono (by decide)) (pv 1)) (pa_cons (pe_mcalL0 c_Rec_turn (hr.mono (by decide)) (pv 2)) pa_nil))) (pa_cons (pe_tup (pa_cons (pv 1) (pa_cons (pv 2) pa_nil))) (pa_cons (pe_tup (pa_cons pe_str (pa_cons pe_str (pa_cons pe_str pa_nil)))) pa_nil))))))),?_⟩
 walk_at "rd"
 obtain⟨C,dr,fs,m,hr,l1,_⟩:=R1.mt
 refine⟨r,C,dr,fs,_,m _,rfl,hr,l1,?_⟩
 walk_at "rd"
 refine⟨Nat.one_pos,r,n1,b1,rfl,R1,fun p hp=>?_⟩
 walk_at "rd"
 obtain⟨C',dr',fs',m',hr',l1',_⟩:=R2.mt
 refine⟨t,C',dr',fs',_,m' _,rfl,hr',l1',?_⟩
 walk_at "rd"
 refine⟨Nat.one_pos,t,n2,b2,rfl,R2,fun p' hp'=>?_⟩
 walk_at "rd"
 refine⟨p,p',n1,n2,b1,b2,rfl,⟨SqT.of hp,SqT.of hp',R1.n0,R2.n0,R1.n1,R2.n1,R1.lt,R2.lt⟩,lz,fun p2 c H1 s1 t1 lt=>?_⟩
 walk_at "rd"
 refine⟨two',fun pm hpm=>?_⟩
 refine fresh hpm fun H2 s2 t2=>?_
 walk_at "rd"
 refine⟨(by show 3≤sizeLine;decide),fun pw hpw=>?_⟩
 refine fresh hpw fun H3 s3 t3=>?_
 have s3':=s3
 have t2:H2 pm=some (.tup (([r,t]:List Addr).map .ref)):=t2
 have t3:H3 pw=some (.tup (([Str.ofString "(",Str.ofString " until ",Str.ofString ")"]:List Str).map .str)):=t3
 have s3:=s2.trans s3
 have hx3:=(s1.trans s3) _ _ hx
 walk_at "rd"
 exact⟨x,p2,pm,pw,c_Until,dx,rfl,hx3,er.rc_Until,fun H' k e=>q _ _ H' (k.pre (s1.trans s3)) (made_nod (List.mem_of_getElem? (i:=11) rfl) er.rc_Until hx3 (s3 _ _ t1) (s3' _ _ t2) t3 k e fl.1 lz lt (by decide +kernel)) ⟨_,_,_,rfl⟩⟩
theorem sc_Near___init__:FnScope ["self","R","S"] ["self","R","S"] (defScope s_Near___init__):=⟨rfl,rfl,rfl,by decide +kernel,rfl,by decide +kernel,by decide +kernel⟩
theorem ok_Near___init__{f:Addr}{fd:FuncData}(F:Fun K "__init__" "Near.__init__" s_Near___init__ f fd)(er:Errs K mg c_FeastError c_NoNumber c_TooLong c_NoMeasure c_Rule c_All c_No c_Each c_Dated c_Not c_Both c_Either c_But c_Unlike c_Later c_Upon c_Until c_Near c_Till c_Kth c_Every c_Measure c_Calendar c_Sun)(c_Rule___init__:CalB P w K mg base 1 "Rule" ["self","kept","made_of","words"] (spRInit K c_Rule))(c_near:Cal P w K mg base 9 "near" ["R","S"] (spJoin K))(c_Rec_turn:CalL P w K mg base CX0 2 "turn" ["self"] ([c_All,c_No,c_Each,c_Dated,c_Not,c_Both,c_Either,c_But,c_Unlike,c_Later,c_Upon,c_Until,c_Near,c_Till,c_Kth,c_Every].map fun C=>(C,(spR (spTurnM K c_Rule [c_All,c_No,c_Each,c_Dated,c_Not,c_Both,c_Either,c_But,c_Unlike,c_Later,c_Upon,c_Until,c_Near,c_Till,c_Kth,c_Every])) 1))):FnOk P w K mg base CX0 10 f fd ["self","R","S"] (spI2T K c_Rule [c_All,c_No,c_Each,c_Dated,c_Not,c_Both,c_Either,c_But,c_Unlike,c_Later,c_Upon,c_Until,c_Near,c_Till,c_Kth,c_Every] c_Near):=by
 refine F.ok (k:=9) sc_Near___init__ (fun vs H Q E h=>?_) (fun cdv A outer s H vs Q E hr h=>?_)
 ·obtain⟨x,r,t,n1,n2,b1,b2,rfl,_⟩:=h
  rfl
 obtain⟨x,r,t,n1,n2,b1,b2,rfl,R1,R2,lz,⟨dx,hx⟩,q⟩:=h
 have fl:=lcmI_facts R1.n0 R2.n0
 refine⟨_,(pss_one (ps_expr (pe_binit c_Rule___init__ (hr.mono (by decide)) rfl (pa_cons (pv 0) (pa_cons (pe_cal c_near (hr.mono (by decide)) rfl (pa_cons (pe_mcalL0 c_Rec_turn (hr.mono (by decide)) (pv 1)) (pa_cons (pe_mcalL0 c_Rec_turn (hr.mono (by decide)) (pv 2)) pa_nil))) (pa_cons (pe_tup (pa_cons (pv 1) (pa_cons (pv 2) pa_nil))) (pa_cons (pe_tup (pa_cons pe_str (pa_cons pe_str (pa_cons pe_str pa_nil)))) pa_nil))))))),?_⟩
 walk_at "rd"
 obtain⟨C,dr,fs,m,hr,l1,_⟩:=R1.mt
 refine⟨r,C,dr,fs,_,m _,rfl,hr,l1,?_⟩
 walk_at "rd"
 refine⟨Nat.one_pos,r,n1,b1,rfl,R1,fun p hp=>?_⟩
 walk_at "rd"
 obtain⟨C',dr',fs',m',hr',l1',_⟩:=R2.mt
 refine⟨t,C',dr',fs',_,m' _,rfl,hr',l1',?_⟩
 walk_at "rd"
 refine⟨Nat.one_pos,t,n2,b2,rfl,R2,fun p' hp'=>?_⟩
 walk_at "rd"
 refine⟨p,p',n1,n2,b1,b2,rfl,⟨SqT.of hp,SqT.of hp',R1.n0,R2.n0,R1.n1,R2.n1,R1.lt,R2.lt⟩,lz,fun p2 c H1 s1 t1 lt=>?_⟩
 walk_at "rd"
 refine⟨two',fun pm hpm=>?_⟩
 refine fresh hpm fun H2 s2 t2=>?_
 walk_at "rd"
 refine⟨(by show 3≤sizeLine;decide),fun pw hpw=>?_⟩
 refine fresh hpw fun H3 s3 t3=>?_
 have s3':=s3
 have t2:H2 pm=some (.tup (([r,t]:List Addr).map .ref)):=t2
 have t3:H3 pw=some (.tup (([Str.ofString "(",Str.ofString " near ",Str.ofString ")"]:List Str).map .str)):=t3
 have s3:=s2.trans s3
 have hx3:=(s1.trans s3) _ _ hx
 walk_at "rd"
 exact⟨x,p2,pm,pw,c_Near,dx,rfl,hx3,er.rc_Near,fun H' k e=>q _ _ H' (k.pre (s1.trans s3)) (made_nod (List.mem_of_getElem? (i:=12) rfl) er.rc_Near hx3 (s3 _ _ t1) (s3' _ _ t2) t3 k e fl.1 lz lt (by decide +kernel)) ⟨_,_,_,rfl⟩⟩
theorem sc_Till___init__:FnScope ["self","R","S"] ["self","R","S"] (defScope s_Till___init__):=⟨rfl,rfl,rfl,by decide +kernel,rfl,by decide +kernel,by decide +kernel⟩
theorem ok_Till___init__{f:Addr}{fd:FuncData}(F:Fun K "__init__" "Till.__init__" s_Till___init__ f fd)(er:Errs K mg c_FeastError c_NoNumber c_TooLong c_NoMeasure c_Rule c_All c_No c_Each c_Dated c_Not c_Both c_Either c_But c_Unlike c_Later c_Upon c_Until c_Near c_Till c_Kth c_Every c_Measure c_Calendar c_Sun)(c_Rule___init__:CalB P w K mg base 1 "Rule" ["self","kept","made_of","words"] (spRInit K c_Rule))(c_till:Cal P w K mg base 7 "till" ["R","S"] (spJoin K))(c_Rec_turn:CalL P w K mg base CX0 2 "turn" ["self"] ([c_All,c_No,c_Each,c_Dated,c_Not,c_Both,c_Either,c_But,c_Unlike,c_Later,c_Upon,c_Until,c_Near,c_Till,c_Kth,c_Every].map fun C=>(C,(spR (spTurnM K c_Rule [c_All,c_No,c_Each,c_Dated,c_Not,c_Both,c_Either,c_But,c_Unlike,c_Later,c_Upon,c_Until,c_Near,c_Till,c_Kth,c_Every])) 1))):FnOk P w K mg base CX0 8 f fd ["self","R","S"] (spI2T K c_Rule [c_All,c_No,c_Each,c_Dated,c_Not,c_Both,c_Either,c_But,c_Unlike,c_Later,c_Upon,c_Until,c_Near,c_Till,c_Kth,c_Every] c_Till):=by
 refine F.ok (k:=7) sc_Till___init__ (fun vs H Q E h=>?_) (fun cdv A outer s H vs Q E hr h=>?_)
 ·obtain⟨x,r,t,n1,n2,b1,b2,rfl,_⟩:=h
  rfl
 obtain⟨x,r,t,n1,n2,b1,b2,rfl,R1,R2,lz,⟨dx,hx⟩,q⟩:=h
 have fl:=lcmI_facts R1.n0 R2.n0
 refine⟨_,(pss_one (ps_expr (pe_binit c_Rule___init__ (hr.mono (by decide)) rfl (pa_cons (pv 0) (pa_cons (pe_cal c_till (hr.mono (by decide)) rfl (pa_cons (pe_mcalL0 c_Rec_turn (hr.mono (by decide)) (pv 1)) (pa_cons (pe_mcalL0 c_Rec_turn (hr.mono (by decide)) (pv 2)) pa_nil))) (pa_cons (pe_tup (pa_cons (pv 1) (pa_cons (pv 2) pa_nil))) (pa_cons (pe_tup (pa_cons pe_str (pa_cons pe_str (pa_cons pe_str pa_nil)))) pa_nil))))))),?_⟩
 walk_at "rd"
 obtain⟨C,dr,fs,m,hr,l1,_⟩:=R1.mt
 refine⟨r,C,dr,fs,_,m _,rfl,hr,l1,?_⟩
 walk_at "rd"
 refine⟨Nat.one_pos,r,n1,b1,rfl,R1,fun p hp=>?_⟩
 walk_at "rd"
 obtain⟨C',dr',fs',m',hr',l1',_⟩:=R2.mt
 refine⟨t,C',dr',fs',_,m' _,rfl,hr',l1',?_⟩
 walk_at "rd"
 refine⟨Nat.one_pos,t,n2,b2,rfl,R2,fun p' hp'=>?_⟩
 walk_at "rd"
 refine⟨p,p',n1,n2,b1,b2,rfl,⟨SqT.of hp,SqT.of hp',R1.n0,R2.n0,R1.n1,R2.n1,R1.lt,R2.lt⟩,lz,fun p2 c H1 s1 t1 lt=>?_⟩
 walk_at "rd"
 refine⟨two',fun pm hpm=>?_⟩
 refine fresh hpm fun H2 s2 t2=>?_
 walk_at "rd"
 refine⟨(by show 3≤sizeLine;decide),fun pw hpw=>?_⟩
 refine fresh hpw fun H3 s3 t3=>?_
 have s3':=s3
 have t2:H2 pm=some (.tup (([r,t]:List Addr).map .ref)):=t2
 have t3:H3 pw=some (.tup (([Str.ofString "(",Str.ofString " till ",Str.ofString ")"]:List Str).map .str)):=t3
 have s3:=s2.trans s3
 have hx3:=(s1.trans s3) _ _ hx
 walk_at "rd"
 exact⟨x,p2,pm,pw,c_Till,dx,rfl,hx3,er.rc_Till,fun H' k e=>q _ _ H' (k.pre (s1.trans s3)) (made_nod (List.mem_of_getElem? (i:=13) rfl) er.rc_Till hx3 (s3 _ _ t1) (s3' _ _ t2) t3 k e fl.1 lz lt (by decide +kernel)) ⟨_,_,_,rfl⟩⟩
theorem sc_Later___init__:FnScope ["self","number","R"] ["self","number","R"] (defScope s_Later___init__):=⟨rfl,rfl,rfl,by decide +kernel,rfl,by decide +kernel,by decide +kernel⟩
theorem ok_Later___init__{f:Addr}{fd:FuncData}(F:Fun K "__init__" "Later.__init__" s_Later___init__ f fd)(er:Errs K mg c_FeastError c_NoNumber c_TooLong c_NoMeasure c_Rule c_All c_No c_Each c_Dated c_Not c_Both c_Either c_But c_Unlike c_Later c_Upon c_Until c_Near c_Till c_Kth c_Every c_Measure c_Calendar c_Sun)(c_Rule___init__:CalB P w K mg base 1 "Rule" ["self","kept","made_of","words"] (spRInit K c_Rule))(c_later:Cal P w K mg base 2 "later" ["turn","number"] (spLater K))(c_Rec_turn:CalL P w K mg base CX0 2 "turn" ["self"] ([c_All,c_No,c_Each,c_Dated,c_Not,c_Both,c_Either,c_But,c_Unlike,c_Later,c_Upon,c_Until,c_Near,c_Till,c_Kth,c_Every].map fun C=>(C,(spR (spTurnM K c_Rule [c_All,c_No,c_Each,c_Dated,c_Not,c_Both,c_Either,c_But,c_Unlike,c_Later,c_Upon,c_Until,c_Near,c_Till,c_Kth,c_Every])) 1))):FnOk P w K mg base CX0 3 f fd ["self","number","R"] (spILT K c_Rule [c_All,c_No,c_Each,c_Dated,c_Not,c_Both,c_Either,c_But,c_Unlike,c_Later,c_Upon,c_Until,c_Near,c_Till,c_Kth,c_Every] c_Later):=by
 refine F.ok (k:=2) sc_Later___init__ (fun vs H Q E h=>?_) (fun cdv A outer s H vs Q E hr h=>?_)
 ·obtain⟨x,r,k,n,b,rfl,_⟩:=h
  rfl
 obtain⟨x,r,num,n,b,rfl,bk,R,⟨dx,hx⟩,q⟩:=h
 have lg:num.natAbs.log2<1920:=bt_log bk (by decide) (by decide)
 refine⟨_,(pss_one (ps_expr (pe_binit c_Rule___init__ (hr.mono (by decide)) rfl (pa_cons (pv 0) (pa_cons (pe_cal c_later (hr.mono (by decide)) rfl (pa_cons (pe_mcalL0 c_Rec_turn (hr.mono (by decide)) (pv 2)) (pa_cons (pv 1) pa_nil))) (pa_cons (pe_tup (pa_cons (pv 2) pa_nil)) (pa_cons (pe_tup (pa_cons (pe_join (pj_cons pe_str (pj_cons (pe_fmt hr.toN (pv 1)) (pj_cons pe_str pj_nil)))) (pa_cons pe_str pa_nil))) pa_nil))))))),?_⟩
 walk_at "rd"
 obtain⟨C,dr,fs,m,hr,l1,_⟩:=R.mt
 refine⟨r,C,dr,fs,_,m _,rfl,hr,l1,?_⟩
 walk_at "rd"
 refine⟨Nat.one_pos,r,n,b,rfl,R,fun p hp=>?_⟩
 walk_at "rd"
 refine⟨p,n,num,b,rfl,SqT.of hp,R.n0,R.n1,R.lt,fun p2 hp2=>?_⟩
 refine fresh hp2 fun H1 s1 t1=>?_
 walk_at "rd"
 refine⟨(by show 1≤sizeLine;decide),fun pm hpm=>?_⟩
 refine fresh hpm fun H2 s2 t2=>?_
 walk_at "rd"
 refine rd_join ?_
 refine rd_jc 0 (by decide) (by decide) fun l1=>rd_ji _ l1 (by decide) rfl lg fun l2=>rd_jc _ l2 (by decide) fun l3=>rd_jnil (fits l3 (by decide)) ?_
 have hz:(Str.empty++Str.ofString "("++intT num++Str.ofString " later ").length≤2000:=by
  rw[len_app7,len_app7,len_app7]
  have e0:Str.empty.length=0:=by decide +kernel
  have e1:(Str.ofString "(").length=1:=by decide +kernel
  have e2:(Str.ofString " later ").length=7:=by decide +kernel
  have e3:=intT_len lg
  omega
 generalize (Str.empty++Str.ofString "("++intT num++Str.ofString " later ")=zt at*
 walk_at "rd"
 refine⟨two',fun pw hpw=>?_⟩
 refine fresh hpw fun H3 s3 t3=>?_
 have s3':=s3
 have t2:H2 pm=some (.tup (([r]:List Addr).map .ref)):=t2
 have t3:H3 pw=some (.tup (([zt,Str.ofString ")"]:List Str).map .str)):=t3
 have s3:=s2.trans s3
 have hx3:=(s1.trans s3) _ _ hx
 walk_at "rd"
 exact⟨x,p2,pm,pw,c_Later,dx,rfl,hx3,er.rc_Later,fun H' k e=>q _ _ H' (k.pre (s1.trans s3)) (made_nod (List.mem_of_getElem? (i:=9) rfl) er.rc_Later hx3 (s3 _ _ t1) (s3' _ _ t2) t3 k e R.n0 R.n1 (lat_lt _ _ _) (by show zt.length+(1+0)≤8000;omega)) ⟨_,_,rfl⟩⟩
theorem sc_Kth___init__:FnScope ["self","number","R","S","kept"] ["self","number","R","S"] (defScope s_Kth___init__):=⟨rfl,rfl,rfl,by decide +kernel,rfl,by decide +kernel,by decide +kernel⟩
theorem ok_Kth___init__{f:Addr}{fd:FuncData}(F:Fun K "__init__" "Kth.__init__" s_Kth___init__ f fd)(er:Errs K mg c_FeastError c_NoNumber c_TooLong c_NoMeasure c_Rule c_All c_No c_Each c_Dated c_Not c_Both c_Either c_But c_Unlike c_Later c_Upon c_Until c_Near c_Till c_Kth c_Every c_Measure c_Calendar c_Sun)(c_kth:Cal P w K mg base 8 "kth" ["number","R","S"] (spKthZ K))(c_Rec_turn:CalL P w K mg base CX0 2 "turn" ["self"] ([c_All,c_No,c_Each,c_Dated,c_Not,c_Both,c_Either,c_But,c_Unlike,c_Later,c_Upon,c_Until,c_Near,c_Till,c_Kth,c_Every].map fun C=>(C,(spR (spTurnM K c_Rule [c_All,c_No,c_Each,c_Dated,c_Not,c_Both,c_Either,c_But,c_Unlike,c_Later,c_Upon,c_Until,c_Near,c_Till,c_Kth,c_Every])) 1)))(c_Rule___init__:CalB P w K mg base 1 "Rule" ["self","kept","made_of","words"] (spRInit K c_Rule)):FnOk P w K mg base CX0 9 f fd ["self","number","R","S"] (spIKT K c_Rule [c_All,c_No,c_Each,c_Dated,c_Not,c_Both,c_Either,c_But,c_Unlike,c_Later,c_Upon,c_Until,c_Near,c_Till,c_Kth,c_Every] c_Kth):=by
 refine F.ok (k:=8) sc_Kth___init__ (fun vs H Q E h=>?_) (fun cdv A outer s H vs Q E hr h=>?_)
 ·obtain⟨x,r,t,k,n1,n2,b1,b2,rfl,_⟩:=h
  rfl
 obtain⟨x,r,t,num,n1,n2,b1,b2,rfl,k0,bk,R1,R2,lz,⟨dx,hx⟩,q⟩:=h
 have fl:=lcmI_facts R1.n0 R2.n0
 have lg:num.natAbs.log2<1920:=bt_log bk (by decide) (by decide)
 refine⟨_,(pss_cons (ps_set (i:=4) sc_Kth___init__.nd rfl (by first | exact Or.inl rfl | exact Or.inr rfl) (pe_cal c_kth (hr.mono (by decide)) rfl (pa_cons (pv 1) (pa_cons (pe_mcalL0 c_Rec_turn (hr.mono (by decide)) (pv 2)) (pa_cons (pe_mcalL0 c_Rec_turn (hr.mono (by decide)) (pv 3)) pa_nil)))))
  (pss_one (ps_expr (pe_binit c_Rule___init__ (hr.mono (by decide)) rfl (pa_cons (pv 0) (pa_cons (pv 4) (pa_cons (pe_tup (pa_cons (pv 2) (pa_cons (pv 3) pa_nil))) (pa_cons (pe_tup (pa_cons (pe_join (pj_cons pe_str (pj_cons (pe_fmt hr.toN (pv 1)) (pj_cons pe_str pj_nil)))) (pa_cons pe_str (pa_cons pe_str pa_nil)))) pa_nil)))))))),?_⟩
 walk_at "rd"
 obtain⟨C,dr,fs,m,hr,l1,_⟩:=R1.mt
 refine⟨r,C,dr,fs,_,m _,rfl,hr,l1,?_⟩
 walk_at "rd"
 refine⟨Nat.one_pos,r,n1,b1,rfl,R1,fun p hp=>?_⟩
 walk_at "rd"
 obtain⟨C',dr',fs',m',hr',l1',_⟩:=R2.mt
 refine⟨t,C',dr',fs',_,m' _,rfl,hr',l1',?_⟩
 walk_at "rd"
 refine⟨Nat.one_pos,t,n2,b2,rfl,R2,fun p' hp'=>?_⟩
 walk_at "rd"
 refine⟨num,p,p',n1,n2,b1,b2,rfl,⟨SqT.of hp,SqT.of hp',R1.n0,R2.n0,R1.n1,R2.n1,R1.lt,R2.lt⟩,k0,lz,fun p2 c H1 s1 t1 lt=>?_⟩
 walk_at "rd"
 refine⟨two',fun pm hpm=>?_⟩
 refine fresh hpm fun H2 s2 t2=>?_
 walk_at "rd"
 refine rd_join ?_
 refine rd_jc 0 (by decide) (by decide) fun l1=>rd_ji _ l1 (by decide) rfl lg fun l2=>rd_jc _ l2 (by decide) fun l3=>rd_jnil (fits l3 (by decide)) ?_
 have hz:(Str.empty++Str.ofString "("++intT num++Str.ofString " of ").length≤2000:=by
  rw[len_app7,len_app7,len_app7]
  have e0:Str.empty.length=0:=by decide +kernel
  have e1:(Str.ofString "(").length=1:=by decide +kernel
  have e2:(Str.ofString " of ").length=4:=by decide +kernel
  have e3:=intT_len lg
  omega
 generalize (Str.empty++Str.ofString "("++intT num++Str.ofString " of ")=zt at*
 walk_at "rd"
 refine⟨(by show 3≤sizeLine;decide),fun pw hpw=>?_⟩
 refine fresh hpw fun H3 s3 t3=>?_
 have s3':=s3
 have t2:H2 pm=some (.tup (([r,t]:List Addr).map .ref)):=t2
 have t3:H3 pw=some (.tup (([zt,Str.ofString " from ",Str.ofString ")"]:List Str).map .str)):=t3
 have s3:=s2.trans s3
 have hx3:=(s1.trans s3) _ _ hx
 walk_at "rd"
 exact⟨x,p2,pm,pw,c_Kth,dx,rfl,hx3,er.rc_Kth,fun H' k e=>q _ _ H' (k.pre (s1.trans s3)) (made_nod (List.mem_of_getElem? (i:=14) rfl) er.rc_Kth hx3 (s3 _ _ t1) (s3' _ _ t2) t3 k e fl.1 lz lt (by show zt.length+(6+(1+0))≤8000;omega)) ⟨_,_,_,rfl⟩⟩
theorem sc_Every___init__:FnScope ["self","number","R","day","kept"] ["self","number","R","day"] (defScope s_Every___init__):=⟨rfl,rfl,rfl,by decide +kernel,rfl,by decide +kernel,by decide +kernel⟩
theorem ok_Every___init__{f:Addr}{fd:FuncData}(F:Fun K "__init__" "Every.__init__" s_Every___init__ f fd)(er:Errs K mg c_FeastError c_NoNumber c_TooLong c_NoMeasure c_Rule c_All c_No c_Each c_Dated c_Not c_Both c_Either c_But c_Unlike c_Later c_Upon c_Until c_Near c_Till c_Kth c_Every c_Measure c_Calendar c_Sun)(c_every:Cal P w K mg base 6 "every" ["number","R","day"] (spEveryZ K))(c_Rec_turn:CalL P w K mg base CX0 2 "turn" ["self"] ([c_All,c_No,c_Each,c_Dated,c_Not,c_Both,c_Either,c_But,c_Unlike,c_Later,c_Upon,c_Until,c_Near,c_Till,c_Kth,c_Every].map fun C=>(C,(spR (spTurnM K c_Rule [c_All,c_No,c_Each,c_Dated,c_Not,c_Both,c_Either,c_But,c_Unlike,c_Later,c_Upon,c_Until,c_Near,c_Till,c_Kth,c_Every])) 1)))(c_Rule___init__:CalB P w K mg base 1 "Rule" ["self","kept","made_of","words"] (spRInit K c_Rule)):FnOk P w K mg base CX0 7 f fd ["self","number","R","day"] (spIVT K c_Rule [c_All,c_No,c_Each,c_Dated,c_Not,c_Both,c_Either,c_But,c_Unlike,c_Later,c_Upon,c_Until,c_Near,c_Till,c_Kth,c_Every] c_Every):=by
 refine F.ok (k:=6) sc_Every___init__ (fun vs H Q E h=>?_) (fun cdv A outer s H vs Q E hr h=>?_)
 ·obtain⟨x,r,k,d,n,b,rfl,_⟩:=h
  rfl
 obtain⟨x,r,num,d0,n,b,rfl,k0,k1,nk,bd,R,⟨dx,hx⟩,q⟩:=h
 have z0:0<n*num:=Int.mul_pos R.n0 (by omega)
 have lg:num.natAbs.log2<1920:=log7 (by omega) (by omega)
 have lh:d0.natAbs.log2<1920:=bt_log bd (by decide) (by decide)
 refine⟨_,(pss_cons (ps_set (i:=4) sc_Every___init__.nd rfl (by first | exact Or.inl rfl | exact Or.inr rfl) (pe_cal c_every (hr.mono (by decide)) rfl (pa_cons (pv 1) (pa_cons (pe_mcalL0 c_Rec_turn (hr.mono (by decide)) (pv 2)) (pa_cons (pv 3) pa_nil)))))
  (pss_one (ps_expr (pe_binit c_Rule___init__ (hr.mono (by decide)) rfl (pa_cons (pv 0) (pa_cons (pv 4) (pa_cons (pe_tup (pa_cons (pv 2) pa_nil)) (pa_cons (pe_tup (pa_cons (pe_join (pj_cons pe_str (pj_cons (pe_fmt hr.toN (pv 1)) (pj_cons pe_str pj_nil)))) (pa_cons (pe_join (pj_cons pe_str (pj_cons (pe_fmt hr.toN (pv 3)) (pj_cons pe_str pj_nil)))) pa_nil))) pa_nil)))))))),?_⟩
 walk_at "rd"
 obtain⟨C,dr,fs,m,hr,l1,_⟩:=R.mt
 refine⟨r,C,dr,fs,_,m _,rfl,hr,l1,?_⟩
 walk_at "rd"
 refine⟨Nat.one_pos,r,n,b,rfl,R,fun p hp=>?_⟩
 walk_at "rd"
 refine⟨num,d0,p,n,b,rfl,SqT.of hp,R.n0,R.n1,R.lt,bd.mono (by decide),bt_small (by omega) (by omega) (by decide),k0,nk,fun p2 c H1 s1 t1 lt=>?_⟩
 walk_at "rd"
 refine⟨(by show 1≤sizeLine;decide),fun pm hpm=>?_⟩
 refine fresh hpm fun H2 s2 t2=>?_
 walk_at "rd"
 refine rd_join ?_
 refine rd_jc 0 (by decide) (by decide) fun l1=>rd_ji _ l1 (by decide) rfl lg fun l2=>rd_jc _ l2 (by decide) fun l3=>rd_jnil (fits l3 (by decide)) ?_
 have hz:(Str.empty++Str.ofString "(every "++intT num++Str.ofString " of ").length≤2000:=by
  rw[len_app7,len_app7,len_app7]
  have e0:Str.empty.length=0:=by decide +kernel
  have e1:(Str.ofString "(every ").length=7:=by decide +kernel
  have e2:(Str.ofString " of ").length=4:=by decide +kernel
  have e3:=intT_len lg
  omega
 generalize (Str.empty++Str.ofString "(every "++intT num++Str.ofString " of ")=zt at*
 walk_at "rd"
 refine rd_join ?_
 refine rd_jc 0 (by decide) (by decide) fun l1=>rd_ji _ l1 (by decide) rfl lh fun l2=>rd_jc _ l2 (by decide) fun l3=>rd_jnil (fits l3 (by decide)) ?_
 have hy:(Str.empty++Str.ofString " from "++intT d0++Str.ofString ")").length≤2000:=by
  rw[len_app7,len_app7,len_app7]
  have e0:Str.empty.length=0:=by decide +kernel
  have e1:(Str.ofString " from ").length=6:=by decide +kernel
  have e2:(Str.ofString ")").length=1:=by decide +kernel
  have e3:=intT_len lh
  omega
 generalize (Str.empty++Str.ofString " from "++intT d0++Str.ofString ")")=zu at*
 walk_at "rd"
 refine⟨two',fun pw hpw=>?_⟩
 refine fresh hpw fun H3 s3 t3=>?_
 have s3':=s3
 have t2:H2 pm=some (.tup (([r]:List Addr).map .ref)):=t2
 have t3:H3 pw=some (.tup (([zt,zu]:List Str).map .str)):=t3
 have s3:=s2.trans s3
 have hx3:=(s1.trans s3) _ _ hx
 walk_at "rd"
 exact⟨x,p2,pm,pw,c_Every,dx,rfl,hx3,er.rc_Every,fun H' k e=>q _ _ H' (k.pre (s1.trans s3)) (made_nod (List.mem_of_getElem? (i:=15) rfl) er.rc_Every hx3 (s3 _ _ t1) (s3' _ _ t2) t3 k e z0 nk lt (by show zt.length+(zu.length+0)≤8000;omega)) ⟨_,_,rfl⟩⟩
theorem sc_told_by_one:FnScope ["turn","days"] ["turn"] (defScope s_told_by_one):=⟨rfl,rfl,rfl,by decide +kernel,rfl,by decide +kernel,by decide +kernel⟩
theorem ok_told_by_one{f:Addr}{fd:FuncData}(F:Fun K "told_by_one" "told_by_one" s_told_by_one f fd)(er:Errs K mg c_FeastError c_NoNumber c_TooLong c_NoMeasure c_Rule c_All c_No c_Each c_Dated c_Not c_Both c_Either c_But c_Unlike c_Later c_Upon c_Until c_Near c_Till c_Kth c_Every c_Measure c_Calendar c_Sun)(c_All___init__:CalI P w K mg base CX0 3 "All" c_All ["self"] (spI0T K c_Rule [c_All,c_No,c_Each,c_Dated,c_Not,c_Both,c_Either,c_But,c_Unlike,c_Later,c_Upon,c_Until,c_Near,c_Till,c_Kth,c_Every] c_All 1))(c_No___init__:CalI P w K mg base CX0 3 "No" c_No ["self"] (spI0T K c_Rule [c_All,c_No,c_Each,c_Dated,c_Not,c_Both,c_Either,c_But,c_Unlike,c_Later,c_Upon,c_Until,c_Near,c_Till,c_Kth,c_Every] c_No 0))(c_days_in:Cal P w K mg base 2 "days_in" ["turn"] (spDaysIn K))(c_Each___init__:CalI P w K mg base CX0 3 "Each" c_Each ["self","size","rest"] (spIEachT K c_Rule [c_All,c_No,c_Each,c_Dated,c_Not,c_Both,c_Either,c_But,c_Unlike,c_Later,c_Upon,c_Until,c_Near,c_Till,c_Kth,c_Every] c_Each))(z_len:mg "len"=none):FnOk P w K mg base CX0 5 f fd ["turn"] (spToldBy K c_Rule [c_All,c_No,c_Each,c_Dated,c_Not,c_Both,c_Either,c_But,c_Unlike,c_Later,c_Upon,c_Until,c_Near,c_Till,c_Kth,c_Every]):=by
 refine F.ok (k:=4) sc_told_by_one (fun vs H Q E h=>?_) (fun cdv A outer s H vs Q E hr h=>?_)
 ·obtain⟨p,z,c,rfl,_⟩:=h
  rfl
 obtain⟨p,z,c,rfl,hp,z0,z1,lt,cz,q1,q2⟩:=h
 refine⟨_,(pss_cons (ps_if (pt_cmpR (op_eqT hr.units0) (pv 0) (pe_tup (pa_cons pe_int (pa_cons pe_int pa_nil))) (nomark _))
  (pss_one (ps_ret (pe_mk0 c_All___init__ (hr.mono (by decide)) rfl)))
  pss_nil)
  (pss_cons (ps_if (pt_cmpR (op_eqT hr.units0) (pv 0) (pe_tup (pa_cons pe_int (pa_cons pe_int pa_nil))) (nomark _))
   (pss_one (ps_ret (pe_mk0 c_No___init__ (hr.mono (by decide)) rfl)))
   pss_nil)
  (pss_cons (ps_set (i:=1) sc_told_by_one.nd rfl (by first | exact Or.inl rfl | exact Or.inr rfl) (pe_cal c_days_in (hr.mono (by decide)) rfl (pa_cons (pv 0) pa_nil)))
  (pss_cons (ps_if (pt_cmpR op_gt (pe_callB call_len_seq rfl z_len PySem.boot_len (pa_cons (pv 1) pa_nil)) pe_int (nomark _))
   (pss_one (ps_ret pe_non))
   pss_nil)
  (pss_one (ps_ret (pe_mk c_Each___init__ (hr.mono (by decide)) rfl (pa_cons (pe_ix ix_tup (pv 0) pe_int (fun _ _=>rfl)) (pa_cons (pe_ix ix_list (pv 1) pe_int (fun _ _=>rfl)) pa_nil))))))))),?_⟩
 walk_at "rd"
 refine⟨two',fun p1 hp1=>?_⟩
 refine fresh hp1 fun H1 s1 t1=>?_
 walk_at "rd"
 refine rd_eqT (SqT.of (s1 _ _ hp)) (SqT.of t1) rfl rfl ?_
 rw[eqV2]
 refine rd_bl (ite2d (fun e=>?_) (fun e1=>?_))
 ·obtain⟨rfl,rfl⟩:z=1∧c=1:=by omega
  walk_at "rd"
  exact fun y dy hy hdy ne=>⟨y,rfl,.go hy hdy ne fun b ws H' s N ⟨eb,w,ew,nd⟩=>⟨rfl,q1 y w H' (s1.trans s) (by subst eb ew;exact N) nd⟩⟩
 walk_at "rd"
 refine⟨two',fun p2 hp2=>?_⟩
 refine fresh hp2 fun H2 s2 t2=>?_
 have s2:=s1.trans s2
 walk_at "rd"
 refine rd_eqT (SqT.of (s2 _ _ hp)) (SqT.of t2) rfl rfl ?_
 rw[eqV2]
 refine rd_bl (ite2d (fun e=>?_) (fun e2=>?_))
 ·obtain⟨rfl,rfl⟩:z=1∧c=0:=by omega
  walk_at "rd"
  exact fun y dy hy hdy ne=>⟨y,rfl,.go hy hdy ne fun b ws H' s N ⟨eb,w,ew,nd⟩=>⟨rfl,q1 y w H' (s2.trans s) (by subst eb ew;exact N) nd⟩⟩
 have c0:c≠0:=fun e=>by
  have:=cz e
  omega
 walk_at "rd"
 refine⟨p,z,c,rfl,SqT.of (s2 _ _ hp),by omega,by omega,lt,fun l H3 hl s3 t3=>?_⟩
 have s3:=s2.trans s3
 rw[Int.toNat_natCast] at t3
 walk_at "rd"
 refine⟨l,_,rfl,.inl (SqL.of t3),?_⟩
 rw[List.length_map,show(dli c z).length=(dl c z).length from List.length_map ..]
 walk_at "rd"
 refine ite2d (fun e=>?_) (fun e=>?_)
 ·walk_at "rd"
  exact q2 (by omega) _ s3
 ·obtain⟨d,hd⟩:∃d,dl c z=[d]:=by
   match h:dl c z with
   | []=>exact absurd (dl_nil lt h) c0
   | [d]=>exact⟨d,rfl⟩
   | a::b::r=>rw[h] at e;simp at e;omega
  have t3:H3 l=some (.lst [.int (d:Int)]):=by rw[t3,show dli c z=[(d:Int)] by unfold dli;rw[hd];rfl];rfl
  walk_at "rd"
  refine rd_ixT (SqT.of (s3 _ _ hp)) at0 ?_
  walk_at "rd"
  refine rd_ixL (SqL.of t3) at_zero ?_
  walk_at "rd"
  exact fun y dy hy hdy ne=>⟨y,z,d,rfl,by omega,by omega,.go hy hdy ne fun b ws H' s N ⟨B,w,ew,nd⟩=>⟨rfl,q1 y w H' (s3.trans s) (by rw[each_bits lt hd B] at N;subst ew;exact N) nd⟩⟩
theorem sc_parts_in:FnScope ["rule"] ["rule"] (defScope s_parts_in):=⟨rfl,rfl,rfl,by decide +kernel,rfl,by decide +kernel,by decide +kernel⟩
theorem ok_parts_in{f:Addr}{fd:FuncData}(F:Fun K "parts_in" "parts_in" s_parts_in f fd)(c_Rec_parts:CalL P w K mg base CX0 61 "parts" ["self"] ([c_All,c_No,c_Each,c_Dated,c_Not,c_Both,c_Either,c_But,c_Unlike,c_Later,c_Upon,c_Until,c_Near,c_Till,c_Kth,c_Every].map fun C=>(C,(spParts K c_Rule [c_All,c_No,c_Each,c_Dated,c_Not,c_Both,c_Either,c_But,c_Unlike,c_Later,c_Upon,c_Until,c_Near,c_Till,c_Kth,c_Every]) 60)))(z_len:mg "len"=none):FnOk P w K mg base CX0 62 f fd ["rule"] (spPartsIn K c_Rule [c_All,c_No,c_Each,c_Dated,c_Not,c_Both,c_Either,c_But,c_Unlike,c_Later,c_Upon,c_Until,c_Near,c_Till,c_Kth,c_Every]):=by
 refine F.ok (k:=61) sc_parts_in (fun vs H Q E h=>?_) (fun cdv A outer s H vs Q E hr h=>?_)
 ·obtain⟨t,rfl,_⟩:=h
  rfl
 obtain⟨t,rfl,T,ln,q⟩:=h
 have dl:=t.deep_lt
 obtain⟨C,dx,p,pm,pw,hC,rc,hx,_⟩:=T.node
 refine⟨_,(pss_one (ps_ret (pe_callB call_len_seq rfl z_len PySem.boot_len (pa_cons (pe_mcalL0 c_Rec_parts (hr.mono (by decide)) (pv 0)) pa_nil)))),?_⟩
 walk_at "rd"
 refine⟨t.adr,C,dx,_,_,List.mem_map.mpr ⟨C,hC,rfl⟩,rfl,hx,rfl,?_⟩
 walk_at "rd"
 refine⟨t,rfl,T,by omega,by omega,fun l H' hl s tl=>?_⟩
 walk_at "rd"
 refine⟨l,_,rfl,.inl (SqL.of tl),?_⟩
 rw[List.length_map]
 exact q _ s
theorem sc_shorter:FnScope ["rule","turn","told"] ["rule"] (defScope s_shorter):=⟨rfl,rfl,rfl,by decide +kernel,rfl,by decide +kernel,by decide +kernel⟩
theorem ok_shorter{f:Addr}{fd:FuncData}(F:Fun K "shorter" "shorter" s_shorter f fd)(c_least:Cal P w K mg base 3 "least" ["turn"] (spLeast K))(c_Rec_turn:CalL P w K mg base CX0 2 "turn" ["self"] ([c_All,c_No,c_Each,c_Dated,c_Not,c_Both,c_Either,c_But,c_Unlike,c_Later,c_Upon,c_Until,c_Near,c_Till,c_Kth,c_Every].map fun C=>(C,(spR (spTurnM K c_Rule [c_All,c_No,c_Each,c_Dated,c_Not,c_Both,c_Either,c_But,c_Unlike,c_Later,c_Upon,c_Until,c_Near,c_Till,c_Kth,c_Every])) 1)))(c_told_by_one:Cal P w K mg base 5 "told_by_one" ["turn"] (spToldBy K c_Rule [c_All,c_No,c_Each,c_Dated,c_Not,c_Both,c_Either,c_But,c_Unlike,c_Later,c_Upon,c_Until,c_Near,c_Till,c_Kth,c_Every]))(c_Rec_parts:CalL P w K mg base CX0 61 "parts" ["self"] ([c_All,c_No,c_Each,c_Dated,c_Not,c_Both,c_Either,c_But,c_Unlike,c_Later,c_Upon,c_Until,c_Near,c_Till,c_Kth,c_Every].map fun C=>(C,(spParts K c_Rule [c_All,c_No,c_Each,c_Dated,c_Not,c_Both,c_Either,c_But,c_Unlike,c_Later,c_Upon,c_Until,c_Near,c_Till,c_Kth,c_Every]) 60)))(c_parts_in:Cal P w K mg base 62 "parts_in" ["rule"] (spPartsIn K c_Rule [c_All,c_No,c_Each,c_Dated,c_Not,c_Both,c_Either,c_But,c_Unlike,c_Later,c_Upon,c_Until,c_Near,c_Till,c_Kth,c_Every]))(z_min:mg "min"=none):FnOk P w K mg base CX0 66 f fd ["rule"] (spShorter K c_Rule [c_All,c_No,c_Each,c_Dated,c_Not,c_Both,c_Either,c_But,c_Unlike,c_Later,c_Upon,c_Until,c_Near,c_Till,c_Kth,c_Every]):=by
 refine F.ok (k:=65) sc_shorter (fun vs H Q E h=>?_) (fun cdv A outer s H vs Q E hr h=>?_)
 ·obtain⟨t,rfl,_⟩:=h
  rfl
 obtain⟨t,rfl,T,ln,sz,q⟩:=h
 have n0:=T.rule.n0
 have n1:=T.rule.n1
 have dl':=t.deep_lt
 have ez:((t.sz.toNat:Nat):Int)=t.sz:=by omega
 refine⟨_,(pss_cons (ps_set (i:=1) sc_shorter.nd rfl (by first | exact Or.inl rfl | exact Or.inr rfl) (pe_cal c_least (hr.mono (by decide)) rfl (pa_cons (pe_mcalL0 c_Rec_turn (hr.mono (by decide)) (pv 0)) pa_nil)))
  (pss_cons (ps_set (i:=2) sc_shorter.nd rfl (by first | exact Or.inl rfl | exact Or.inr rfl) (pe_cal c_told_by_one (hr.mono (by decide)) rfl (pa_cons (pv 1) pa_nil)))
  (pss_cons (ps_if (pt_cmpR op_notN (pv 2) pe_non (nomark _))
   (pss_one (ps_ret (pv 2)))
   pss_nil)
  (pss_one (ps_ret (pe_minK rfl c_parts_in (hr.mono (by decide)) rfl z_min rfl (pa_cons (pe_comp rfl (compOk_freeM ["rule","turn","told"] ["rule","turn","told"] rfl rfl (by with_unfolding_all rfl) (by decide +kernel) rfl (by decide +kernel) rfl (by decide +kernel) (by walk_at "fm") (by with_unfolding_all rfl) (by with_unfolding_all rfl)) (pi_list (pe_mcalL0 c_Rec_parts (hr.mono (by decide)) (pv 0))) (fun _ _ _ _=>(pifs_one (pt_cmpR (op_eqTc hr.units0) (pe_cal c_least (hr.mono (by decide)) rfl (pa_cons (pe_mcalL0 c_Rec_turn (hr.mono (by decide)) (pv 0)) pa_nil)) (pv 2) (nomark _)))) (fun _ _ _ _=>(pv 0))) pa_nil))))))),?_⟩
 walk_at "rd"
 obtain⟨C,dr,fs,m,hr1,l1,_⟩:=T.rule.mt
 refine⟨t.adr,C,dr,fs,_,m _,rfl,hr1,l1,?_⟩
 walk_at "rd"
 refine⟨Nat.one_pos,t.adr,t.sz,t.bits,rfl,T.rule,fun p hp=>?_⟩
 walk_at "rd"
 refine⟨p,t.sz.toNat,t.bits,rfl,SqT.of (by rw[ez];exact hp),by omega,by omega,T.rule.lt,fun p2 H1 z c s1 t1 L=>?_⟩
 have zl:=Nat.le_of_dvd (by omega) L.dv
 have zd:(z:Int)∣t.sz:=by rw[←ez];exact Int.natCast_dvd_natCast.mpr L.dv
 walk_at "rd"
 refine⟨p2,z,c,rfl,t1,L.z0,by omega,L.lt,(fun e=>by subst e;exact L.nil),fun x w H2 s2 N nd=>?_,fun many H2 s2=>?_⟩
 ·walk_at "rd"
  refine⟨rfl,?_⟩
  walk_at "rd"
  refine iteT ?_
  walk_at "rd"
  exact q z c (.lf x z c w) H2 (s1.trans s2) L N (by show Lst (z:Int).toNat c z c;rw[Int.toNat_natCast];exact L.same) zd (.inr (nms_nil nd)) (fun s _ _=>s.parts_pos) (fun _=>rfl) (by show 1≤41;decide)
 ·have s12:=s1.trans s2
  have T2:=T.same s12
  walk_at "rd"
  refine⟨rfl,?_⟩
  walk_at "rd"
  refine iteF ?_
  walk_at "rd"
  unfold tMinK
  walk_at "rd"
  refine rd_comp (rd_iL ?_)
  walk_at "rd"
  obtain⟨C,dx,p3,pm,pw,hC,rc,hx,_⟩:=T2.node
  refine⟨t.adr,C,dx,_,_,List.mem_map.mpr ⟨C,hC,rfl⟩,rfl,hx,rfl,?_⟩
  walk_at "rd"
  refine⟨t,rfl,T2,by omega,by omega,fun l H3 hl s3 t3=>?_⟩
  have T3:=T2.same s3
  have t13:=(s2.trans s3) _ _ t1
  refine⟨l,rfl,⟨_,SqL.of t3⟩,comp_inv (xs:=t.parts.map fun s=>V.ref s.adr) walk_l (by rw[List.length_map,sizeLine_eq];omega) (fun D i ys H4=>H4 D=some (.lst ys)∧Same H3 H4∧∃ss:List Tr,ys=ss.map (fun s=>.ref s.adr)∧ss.length≤i∧(∀s∈ss,s∈t.parts∧Lst s.sz.toNat s.bits z c)∧∀j s,j<i→t.parts[j]?=some s→Lst s.sz.toNat s.bits z c→s∈ss) (fun D hD=>⟨upd_same,same_new hD _,[],rfl,Nat.zero_le _,(fun s h=>nomatch h),fun j s h=>absurd h (Nat.not_lt_zero j)⟩) ?_ ?_ ?_⟩
  ·rintro D i ys H4 hD ⟨h1,h2,ss,rfl,h4,_⟩
   exact⟨h1,by rw[List.length_map];exact h4,SqL.of (h2 _ _ t3)⟩
  ·rintro D i x ys H4 hD hx' ⟨h1,h2,ss,rfl,h4,h5,h6⟩
   rw[List.getElem?_map] at hx'
   obtain⟨s,hs,rfl⟩:=Option.map_eq_some_iff.mp hx'
   have sm:=List.mem_of_getElem? hs
   obtain⟨S3,sd⟩:=T3.part sm
   have S4:=S3.same h2
   have k0:=S4.rule.n0
   have k1:=S4.rule.n1
   have es:((s.sz.toNat:Nat):Int)=s.sz:=by omega
   walk_at "rd"
   obtain⟨C5,dr5,fs5,m5,hr5,l5,_⟩:=S4.rule.mt
   refine⟨s.adr,C5,dr5,fs5,_,m5 _,rfl,hr5,l5,?_⟩
   walk_at "rd"
   refine⟨Nat.one_pos,s.adr,s.sz,s.bits,rfl,S4.rule,fun p5 hp5=>?_⟩
   walk_at "rd"
   refine⟨p5,s.sz.toNat,s.bits,rfl,SqT.of (by rw[es];exact hp5),by omega,by omega,S4.rule.lt,fun p6 H5 z5 c5 s5 t5 L5=>?_⟩
   walk_at "rd"
   refine rd_eqT (SqT.of t5) (SqT.of (s5 _ _ (h2 _ _ t13))) rfl rfl ?_
   rw[eqV2]
   refine⟨_,rfl,?_⟩
   refine ite2d (fun e=>?_) (fun e=>?_)
   ·obtain⟨e1,e2⟩:z5=z∧c5=c:=by omega
    rw[e1,e2] at L5
    refine⟨_,rfl,s5 _ _ h1,upd_same,same_app hD (h2.trans s5),ss++[s],by rw[List.map_append];rfl,by rw[List.length_append];exact Nat.succ_le_succ h4,fun r hr=>?_,fun j r hj hr Lr=>?_⟩
    ·rcases List.mem_append.mp hr with h | h
     ·exact h5 r h
     ·obtain rfl:=List.mem_singleton.mp h
      exact⟨sm,L5⟩
    ·by_cases cj:j<i
     ·exact List.mem_append_left _ (h6 j r cj hr Lr)
     ·obtain rfl:j=i:=by omega
      rw[hs] at hr
      cases hr
      exact List.mem_append_right _ (List.mem_singleton.mpr rfl)
   ·refine⟨s5 _ _ h1,h2.trans s5,ss,rfl,by omega,h5,fun j r hj hr Lr=>?_⟩
    by_cases cj:j<i
    ·exact h6 j r cj hr Lr
    ·obtain rfl:j=i:=by omega
     rw[hs] at hr
     cases hr
     obtain⟨e1,e2⟩:=L5.uniq Lr (by omega)
     exact absurd ⟨by rw[e1],by rw[e2]⟩ e
  ·rintro D ys H4 hD ⟨h1,h2,ss,rfl,h4,h5,h6⟩
   rw[List.length_map] at h6 h4
   have al:∀r∈t.parts,Lst r.sz.toNat r.bits z c→r∈ss:=fun r hr Lr=>by
    obtain⟨j,hj,e⟩:=List.mem_iff_getElem.mp hr
    exact h6 j r hj (by rw[List.getElem?_eq_getElem hj,e]) Lr
   have tm:=al t t.self_mem L
   have S4:∀s∈ss,TrH K c_Rule [c_All,c_No,c_Each,c_Dated,c_Not,c_Both,c_Either,c_But,c_Unlike,c_Later,c_Upon,c_Until,c_Near,c_Till,c_Kth,c_Every] H4 s:=fun s hs=>((T3.part (h5 s hs).1).1).same h2
   refine rd_nil ?_
   refine⟨D,_,fun i=>((((ss[i]?).map fun s=>s.parts.length).getD 0:Nat):Int),fun H=>Same H4 H,rfl,?_,Same.refl _,fun H5 s5=>SqL.of (s5 _ _ h1),fun i v H5 hv s5=>?_,fun i v H5 hv hk s5=>?_⟩
   ·intro e
    rw[List.map_eq_nil_iff.mp e] at tm
    cases tm
   ·rw[List.getElem?_map] at hv
    obtain⟨s,hs,rfl⟩:=Option.map_eq_some_iff.mp hv
    have sm:=List.mem_of_getElem? hs
    exact⟨s,rfl,(S4 s sm).same s5,by have:=Tr.part_len (h5 s sm).1;omega,fun H6 s6=>⟨by simp only[hs];rfl,s5.trans s6⟩⟩
   ·rw[List.getElem?_map] at hv
    obtain⟨s,hs,rfl⟩:=Option.map_eq_some_iff.mp hv
    have sm:=List.mem_of_getElem? hs
    have min:∀r∈ss,s.parts.length≤r.parts.length:=fun r hr=>by
     obtain⟨j,hj,e⟩:=List.mem_iff_getElem.mp hr
     have:=hk j (by rw[List.length_map];exact hj)
     simp only[hs,List.getElem?_eq_getElem hj,e,Option.map_some,Option.getD_some] at this
     omega
    exact q z c s H5 (s12.trans (s3.trans (h2.trans s5))) L ((S4 s sm).same s5) (h5 s sm).2 (T3.part (h5 s sm).1).2 (.inl (h5 s sm).1) (fun r hr Lr=>min r (al r hr Lr)) (fun one=>absurd (few_len one) (by omega)) (by have:=Tr.part_len (h5 s sm).1;omega)
theorem sc_law_cell_at:FnScope ["_law_script","_law_k"] ["_law_script","_law_k"] (defScope s_law_cell_at):=⟨rfl,rfl,rfl,by decide +kernel,rfl,by decide +kernel,by decide +kernel⟩
theorem ok_law_cell_at{f:Addr}{fd:FuncData}(F:Fun K "_law_cell_at" "_law_cell_at" s_law_cell_at f fd)(z_len:mg "len"=none):FnOk P w K mg base CX0 1 f fd ["_law_script","_law_k"] (spCell K):=by
 refine F.ok (k:=0) sc_law_cell_at (fun vs H Q E h=>?_) (fun cdv A outer s H vs Q E hr h=>?_)
 ·obtain⟨a,ns,k,rfl,_⟩:=h
  rfl
 obtain⟨a,ns,k,rfl,hS,h0,hl,q⟩:=h
 refine⟨_,(pss_cons (ps_if (pt_cmpR op_lt (pv 1) (pe_callB call_len_seq rfl z_len PySem.boot_len (pa_cons (pv 0) pa_nil)) (nomark _))
  (pss_one (ps_ret (pe_ix ix_list (pv 0) (pv 1) (fun _ _=>rfl))))
  pss_nil)
  (pss_one (ps_ret pe_int))),?_⟩
 walk_at "rd"
 refine⟨a,_,rfl,.inl hS,?_⟩
 walk_at "rd"
 rw[List.length_map]
 refine ite2d (fun c=>?_) (fun c=>?_)
 ·walk_at "rd"
  refine rd_ixL hS (at_ints h0 c) ?_
  exact q
 ·walk_at "rd"
  have e:ns.getD k.toNat 0=0:=by
   simp[List.getD,List.getElem?_eq_none (show ns.length≤k.toNat by omega)]
  rw[e] at q
  exact q
theorem sc_law_divisor:FnScope ["_law_one","_law_other"] ["_law_one","_law_other"] (defScope s_law_divisor):=⟨rfl,rfl,rfl,by decide +kernel,rfl,by decide +kernel,by decide +kernel⟩
theorem ok_law_divisor{f:Addr}{fd:FuncData}(F:Fun K "_law_divisor" "_law_divisor" s_law_divisor f fd):FnOk P w K mg base CX0 1 f fd ["_law_one","_law_other"] spDivW:=by
 refine F.ok (k:=0) sc_law_divisor (fun vs H Q E h=>?_) (fun cdv A outer s H vs Q E hr h=>?_)
 ·obtain⟨x,y,rfl,_⟩:=h
  rfl
 obtain⟨x,y,rfl,x0,y0,q⟩:=h
 refine⟨_,(pss_cons (ps_while PassesOwn.never (pt_cmpR op_ne (pv 1) pe_int (nomark _))
  (pss_one (ps_par (i:=0) (j:=1) rfl sc_law_divisor.nd rfl rfl (by decide) rfl rfl (pa_cons (pv 1) (pa_cons (pe_op op_mod (pv 0) (pv 1)) pa_nil)) (by with_unfolding_all rfl))))
  (pss_one (ps_ret (pv 0)))),?_⟩
 walk_at "rd"
 refine⟨fun m σ' H'=>H'=H∧∃u v:Int,σ'=[some (.int u),some (.int v)]∧0<u∧0≤v∧Int.gcd u v=Int.gcd x y∧v.toNat=m,⟨_,rfl,x,y,rfl,x0,by omega,rfl,rfl⟩,?_⟩
 rintro m σ' H' ⟨rfl,u,v,rfl,u0,v0,hg,rfl⟩
 walk_at "rd"
 by_cases hv:v=0
 ·subst hv
  refine iteNS rfl ?_
  walk_at "rd"
  rw[Int.gcd_zero_right] at hg
  have:((Int.gcd x y:Nat):Int)=u:=by omega
  rw[this] at q
  exact q
 ·refine iteNN (fun z=>hv (V.int.inj z)) ?_
  refine⟨_,fun σ' H' hh=>hh,?_⟩
  walk_at "rd"
  refine⟨_,_,rfl,?_⟩
  have m0:=Int.emod_nonneg u hv
  have m1:=Int.emod_lt_of_pos u (show 0<v by omega)
  refine⟨(u%v).toNat,by omega,rfl,v,u%v,rfl,by omega,m0,?_,rfl⟩
  rw[←hg]
  exact gcd7 u v
theorem sc_law_leaf:FnScope ["_law_word","_law_beside","_law_names_here","_law_size","_law_many","_law_day","_law_step"] ["_law_word","_law_beside","_law_names_here"] (defScope s_law_leaf):=⟨rfl,rfl,rfl,by decide +kernel,rfl,by decide +kernel,by decide +kernel⟩
theorem ok_law_leaf{f:Addr}{fd:FuncData}(F:Fun K "_law_leaf" "_law_leaf" s_law_leaf f fd)(er:Errs K mg c_FeastError c_NoNumber c_TooLong c_NoMeasure c_Rule c_All c_No c_Each c_Dated c_Not c_Both c_Either c_But c_Unlike c_Later c_Upon c_Until c_Near c_Till c_Kth c_Every c_Measure c_Calendar c_Sun)(c_All___init__:CalI P w K mg base CX0 3 "All" c_All ["self"] (spI0T K c_Rule [c_All,c_No,c_Each,c_Dated,c_Not,c_Both,c_Either,c_But,c_Unlike,c_Later,c_Upon,c_Until,c_Near,c_Till,c_Kth,c_Every] c_All 1))(c_No___init__:CalI P w K mg base CX0 3 "No" c_No ["self"] (spI0T K c_Rule [c_All,c_No,c_Each,c_Dated,c_Not,c_Both,c_Either,c_But,c_Unlike,c_Later,c_Upon,c_Until,c_Near,c_Till,c_Kth,c_Every] c_No 0))(c_Dated___init__:CalI P w K mg base CX0 6 "Dated" c_Dated ["self","name","calendar","month","day","step","rest"] (spIDT K c_Rule [c_All,c_No,c_Each,c_Dated,c_Not,c_Both,c_Either,c_But,c_Unlike,c_Later,c_Upon,c_Until,c_Near,c_Till,c_Kth,c_Every] c_Dated c_Sun c_Measure))(c_Sun___init___d2:CalID P w K mg base CX0 7 "Sun" c_Sun ["self","start","lengths","leap","terms"] [(.int 1),.non] (spInitS7 c_Sun c_Measure))(c_Each___init__:CalI P w K mg base CX0 3 "Each" c_Each ["self","size","rest"] (spIEachT K c_Rule [c_All,c_No,c_Each,c_Dated,c_Not,c_Both,c_Either,c_But,c_Unlike,c_Later,c_Upon,c_Until,c_Near,c_Till,c_Kth,c_Every] c_Each)):FnOk P w K mg base CX0 9 f fd ["_law_word","_law_beside","_law_names_here"] (spLeaf67 K c_Rule [c_All,c_No,c_Each,c_Dated,c_Not,c_Both,c_Either,c_But,c_Unlike,c_Later,c_Upon,c_Until,c_Near,c_Till,c_Kth,c_Every]):=by
 refine F.ok (k:=8) sc_law_leaf (fun vs H Q E h=>?_) (fun cdv A outer s H vs Q E hr h=>?_)
 ·obtain⟨wd,z0,z1,x,ln,rfl,_⟩:=h
  rfl
 obtain⟨wd,z0,z1,x,ln,rfl,hn,l0,l1,q⟩:=h
 refine⟨_,(pss_cons (ps_if (pt_cmpR op_eq (pv 0) pe_str (nomark _))
  (pss_one (ps_ret (pe_tup (pa_cons (pe_mk0 c_All___init__ (hr.mono (by decide)) rfl) (pa_cons pe_int (pa_cons pe_int pa_nil))))))
  pss_nil)
  (pss_cons (ps_if (pt_cmpR op_eq (pv 0) pe_str (nomark _))
   (pss_one (ps_ret (pe_tup (pa_cons (pe_mk0 c_No___init__ (hr.mono (by decide)) rfl) (pa_cons pe_int (pa_cons pe_int pa_nil))))))
   pss_nil)
  (pss_cons (ps_if (pt_cmpR op_eq (pv 0) pe_str (nomark _))
   (pss_cons (ps_set (i:=4) sc_law_leaf.nd rfl (by first | exact Or.inl rfl | exact Or.inr rfl) (pe_ix ix_list (pe_lst (pa_cons pe_int (pa_cons pe_int pa_nil))) (pe_op op_mod (pv 1) pe_int) (fun _ _=>rfl)))
  (pss_cons (ps_set (i:=5) sc_law_leaf.nd rfl (by first | exact Or.inl rfl | exact Or.inr rfl) (pe_ix ix_list (pe_lst (pa_cons pe_non (pa_cons pe_int (pa_cons (pe_un un_neg pe_int) (pa_cons pe_int (pa_cons pe_int (pa_cons (pe_un un_neg pe_int) pa_nil))))))) (pe_op op_mod (pe_op op_fdivB (pv 1) pe_int) pe_int) (fun _ _=>rfl)))
  (pss_cons (ps_set (i:=6) sc_law_leaf.nd rfl (by first | exact Or.inl rfl | exact Or.inr rfl) (pe_op op_add pe_int (pe_op op_mod (pe_op op_fdivB (pv 1) pe_int) pe_int)))
  (pss_one (ps_ret (pe_tup (pa_cons (pe_mk c_Dated___init__ (hr.mono (by decide)) rfl (pa_cons (pe_ix ix_list (pv 2) (pe_op op_mod (pv 1) pe_int) (fun _ _=>rfl)) (pa_cons (pe_mkD c_Sun___init___d2 (hr.mono (by decide)) rfl (pa_cons (pe_op op_mod (pv 1) pe_int) (pa_cons (pe_lst (pa_cons (pv 4) pa_nil)) pa_nil))) (pa_cons pe_int (pa_cons (pv 5) (pa_cons (pv 6) (pa_cons pe_int pa_nil))))))) (pa_cons (pe_op op_mulB (pv 4) (pv 6)) (pa_cons pe_int pa_nil)))))))))
   pss_nil)
  (pss_cons (ps_set (i:=3) sc_law_leaf.nd rfl (by first | exact Or.inl rfl | exact Or.inr rfl) (pe_op op_add pe_int (pe_op op_mod (pv 1) pe_int)))
  (pss_one (ps_ret (pe_tup (pa_cons (pe_mk c_Each___init__ (hr.mono (by decide)) rfl (pa_cons (pv 3) (pa_cons (pe_op op_mod (pe_op op_fdivB (pv 1) pe_int) (pe_op op_pow pe_int pe_int)) pa_nil))) (pa_cons (pv 3) (pa_cons pe_int pa_nil)))))))))),?_⟩
 walk_at "rdc"
 refine ite2d (fun c=>?_) (fun c=>?_)
 ·walk_at "rdc"
  refine fun y dy hy hdy ne=>⟨y,rfl,.go hy hdy ne fun b ws H' s N ⟨eb,w,ew,nd⟩=>⟨rfl,?_⟩⟩
  subst eb ew
  walk_at "rdc"
  refine⟨(by show 3≤sizeLine;decide),fun p hp=>?_⟩
  exact q p (.lf y 1 1 w) _ (s.trans (same_new hp _)) ⟨upd_same,Nod.same N (same_new hp _),by show(1:Int)≤120;decide,by show 1≤41;decide⟩ rfl
 walk_at "rdc"
 refine ite2d (fun c=>?_) (fun c=>?_)
 ·walk_at "rdc"
  refine fun y dy hy hdy ne=>⟨y,rfl,.go hy hdy ne fun b ws H' s N ⟨eb,w,ew,nd⟩=>⟨rfl,?_⟩⟩
  subst eb ew
  walk_at "rdc"
  refine⟨(by show 3≤sizeLine;decide),fun p hp=>?_⟩
  exact q p (.lf y 1 0 w) _ (s.trans (same_new hp _)) ⟨upd_same,Nod.same N (same_new hp _),by show(1:Int)≤120;decide,by show 1≤41;decide⟩ rfl
 walk_at "rdc"
 refine ite2d (fun c=>?_) (fun c=>?_)
 ·walk_at "rdc"
  refine⟨(by show 2≤sizeLine;decide),fun l2 hl2=>?_⟩
  refine fresh hl2 fun H2 s2 t2=>?_
  obtain⟨k,hk,ek⟩:∃k:Int,(k=3∨k=7)∧atI [V.int 3,V.int 7] (x%2)=some (.int k):=by
   rcases Int.emod_two_eq x with e | e<;>rw[e]
   ·exact⟨3,.inl rfl,rfl⟩
   ·exact⟨7,.inr rfl,rfl⟩
  walk_at "rdc"
  refine rd_ixL (SqL.of t2) ek ?_
  walk_at "rdc"
  refine⟨(by show 6≤sizeLine;decide),fun l3 hl3=>?_⟩
  refine fresh hl3 fun H3 s3 t3=>?_
  obtain⟨d,d0,dl,ed⟩:∃d:Option Int,d≠some 0∧(∀j,d=some j→ -1000000≤j∧j≤1000000)∧atI [V.non,V.int 1,V.int (-1),V.int 2,V.int 5,V.int (-2)] (x/2%6)=some (oI d):=by
   have a0:=Int.emod_nonneg (x/2) (show (6:Int)≠0 by decide)
   have a1:=Int.emod_lt_of_pos (x/2) (show (0:Int)<6 by decide)
   obtain e | e | e | e | e | e:x/2%6=0∨x/2%6=1∨x/2%6=2∨x/2%6=3∨x/2%6=4∨x/2%6=5:=by omega
   ·rw[e];exact⟨none,by decide,(fun j h=>by cases h),rfl⟩
   ·rw[e];exact⟨some 1,by decide,(fun j h=>by cases h;decide),rfl⟩
   ·rw[e];exact⟨some (-1),by decide,(fun j h=>by cases h;decide),rfl⟩
   ·rw[e];exact⟨some 2,by decide,(fun j h=>by cases h;decide),rfl⟩
   ·rw[e];exact⟨some 5,by decide,(fun j h=>by cases h;decide),rfl⟩
   ·rw[e];exact⟨some (-2),by decide,(fun j h=>by cases h;decide),rfl⟩
  walk_at "rdc"
  refine rd_ixL (SqL.of t3) ed ?_
  obtain⟨nm,hnm,enm⟩:∃nm:Str,nm.length≤100∧atI [V.str z0,V.str z1] (x%2)=some (.str nm):=by
   rcases Int.emod_two_eq x with e | e<;>rw[e]
   ·exact⟨z0,l0,rfl⟩
   ·exact⟨z1,l1,rfl⟩
  walk_at "rdc"
  refine rd_ixL ((s2.trans s3).seq hn) enm ?_
  walk_at "rdc"
  refine⟨(by show 1≤sizeLine;decide),fun l4 hl4=>?_⟩
  refine fresh hl4 fun H4 s4 t4=>?_
  have s4:=s2.trans (s3.trans s4)
  walk_at "rdc"
  have b0:=Int.emod_nonneg x (show (2:Int)≠0 by decide)
  have b1:=Int.emod_lt_of_pos x (show (0:Int)<2 by decide)
  have c0:=Int.emod_nonneg (x/12) (show (2:Int)≠0 by decide)
  have c1:=Int.emod_lt_of_pos (x/12) (show (0:Int)<2 by decide)
  have st0:1≤1+x/12%2:=by omega
  have st1:1+x/12%2≤2:=by omega
  clear c0 c1
  refine fun y dy hy hdy ne=>⟨y,dy,l4,x%2,k,rfl,upd_same,mk_same hy hdy ne _ _ t4,by omega,by omega,fun H5 k5 S5=>⟨rfl,?_⟩⟩
  have s5:=made_same hy hdy ne k5
  generalize 1+x/12%2=st at st0 st1 ⊢
  walk_at "rdc"
  refine fun y2 dy2 hy2 hdy2 ne2=>⟨y2,y,nm,x%2,k,st,d,rfl,hnm,S5.same (mk_same hy2 hdy2 ne2),by omega,by omega,by omega,by omega,d0,fun j hj=>log7 (dl j hj).1 (dl j hj).2,by omega,by omega,.go hy2 hdy2 ne2 fun b ws H6 s6 N ⟨w,ew⟩=>⟨rfl,?_⟩⟩
  subst ew
  walk_at "rdc"
  refine rd_i ⟨64,64,bt_small (by omega) (by omega) (by decide),bt_small (by omega) (by omega) (by decide),by decide⟩ ?_
  walk_at "rdc"
  refine⟨(by show 3≤sizeLine;decide),fun p hp=>?_⟩
  exact q p _ _ ((s4.trans s5).trans (s6.trans (same_new hp _))) (.lf N (by rcases hk with h | h<;>subst h<;>omega) hp) rfl
 walk_at "rdc"
 rw[p40]
 have a0:=Int.emod_nonneg x (show (9:Int)≠0 by decide)
 have a1:=Int.emod_lt_of_pos x (show (0:Int)<9 by decide)
 refine fun y dy hy hdy ne=>⟨y,1+x%9,_,rfl,by omega,by omega,.go hy hdy ne fun b ws H' s N ⟨B,w,ew,nd⟩=>⟨rfl,?_⟩⟩
 subst ew
 walk_at "rdc"
 refine⟨(by show 3≤sizeLine;decide),fun p hp=>?_⟩
 exact q p _ _ (s.trans (same_new hp _)) (.lf N (by omega) hp) rfl
theorem sc_law_pair:FnScope ["_law_word","_law_one","_law_other"] ["_law_word","_law_one","_law_other"] (defScope s_law_pair):=⟨rfl,rfl,rfl,by decide +kernel,rfl,by decide +kernel,by decide +kernel⟩
theorem ok_law_pair{f:Addr}{fd:FuncData}(F:Fun K "_law_pair" "_law_pair" s_law_pair f fd)(er:Errs K mg c_FeastError c_NoNumber c_TooLong c_NoMeasure c_Rule c_All c_No c_Each c_Dated c_Not c_Both c_Either c_But c_Unlike c_Later c_Upon c_Until c_Near c_Till c_Kth c_Every c_Measure c_Calendar c_Sun)(c_Both___init__:CalI P w K mg base CX0 6 "Both" c_Both ["self","R","S"] (spI2T K c_Rule [c_All,c_No,c_Each,c_Dated,c_Not,c_Both,c_Either,c_But,c_Unlike,c_Later,c_Upon,c_Until,c_Near,c_Till,c_Kth,c_Every] c_Both))(c_Either___init__:CalI P w K mg base CX0 6 "Either" c_Either ["self","R","S"] (spI2T K c_Rule [c_All,c_No,c_Each,c_Dated,c_Not,c_Both,c_Either,c_But,c_Unlike,c_Later,c_Upon,c_Until,c_Near,c_Till,c_Kth,c_Every] c_Either))(c_But___init__:CalI P w K mg base CX0 7 "But" c_But ["self","R","S"] (spI2T K c_Rule [c_All,c_No,c_Each,c_Dated,c_Not,c_Both,c_Either,c_But,c_Unlike,c_Later,c_Upon,c_Until,c_Near,c_Till,c_Kth,c_Every] c_But))(c_Unlike___init__:CalI P w K mg base CX0 6 "Unlike" c_Unlike ["self","R","S"] (spI2T K c_Rule [c_All,c_No,c_Each,c_Dated,c_Not,c_Both,c_Either,c_But,c_Unlike,c_Later,c_Upon,c_Until,c_Near,c_Till,c_Kth,c_Every] c_Unlike))(c_Upon___init__:CalI P w K mg base CX0 8 "Upon" c_Upon ["self","R","S"] (spI2T K c_Rule [c_All,c_No,c_Each,c_Dated,c_Not,c_Both,c_Either,c_But,c_Unlike,c_Later,c_Upon,c_Until,c_Near,c_Till,c_Kth,c_Every] c_Upon))(c_Until___init__:CalI P w K mg base CX0 8 "Until" c_Until ["self","R","S"] (spI2T K c_Rule [c_All,c_No,c_Each,c_Dated,c_Not,c_Both,c_Either,c_But,c_Unlike,c_Later,c_Upon,c_Until,c_Near,c_Till,c_Kth,c_Every] c_Until))(c_Near___init__:CalI P w K mg base CX0 10 "Near" c_Near ["self","R","S"] (spI2T K c_Rule [c_All,c_No,c_Each,c_Dated,c_Not,c_Both,c_Either,c_But,c_Unlike,c_Later,c_Upon,c_Until,c_Near,c_Till,c_Kth,c_Every] c_Near))(c_Till___init__:CalI P w K mg base CX0 8 "Till" c_Till ["self","R","S"] (spI2T K c_Rule [c_All,c_No,c_Each,c_Dated,c_Not,c_Both,c_Either,c_But,c_Unlike,c_Later,c_Upon,c_Until,c_Near,c_Till,c_Kth,c_Every] c_Till)):FnOk P w K mg base CX0 12 f fd ["_law_word","_law_one","_law_other"] (spPair67 K c_Rule [c_All,c_No,c_Each,c_Dated,c_Not,c_Both,c_Either,c_But,c_Unlike,c_Later,c_Upon,c_Until,c_Near,c_Till,c_Kth,c_Every]):=by
 refine F.ok (k:=11) sc_law_pair (fun vs H Q E h=>?_) (fun cdv A outer s H vs Q E hr h=>?_)
 ·obtain⟨wd,r,t,n1,n2,b1,b2,rfl,_⟩:=h
  rfl
 obtain⟨wd,r,t,n1,n2,b1,b2,rfl,R1,R2,lz,q⟩:=h
 refine⟨_,(pss_cons (ps_if (pt_cmpR op_eq (pv 0) pe_str (nomark _))
  (pss_one (ps_ret (pe_mk c_Both___init__ (hr.mono (by decide)) rfl (pa_cons (pv 1) (pa_cons (pv 2) pa_nil)))))
  pss_nil)
  (pss_cons (ps_if (pt_cmpR op_eq (pv 0) pe_str (nomark _))
   (pss_one (ps_ret (pe_mk c_Either___init__ (hr.mono (by decide)) rfl (pa_cons (pv 1) (pa_cons (pv 2) pa_nil)))))
   pss_nil)
  (pss_cons (ps_if (pt_cmpR op_eq (pv 0) pe_str (nomark _))
   (pss_one (ps_ret (pe_mk c_But___init__ (hr.mono (by decide)) rfl (pa_cons (pv 1) (pa_cons (pv 2) pa_nil)))))
   pss_nil)
  (pss_cons (ps_if (pt_cmpR op_eq (pv 0) pe_str (nomark _))
   (pss_one (ps_ret (pe_mk c_Unlike___init__ (hr.mono (by decide)) rfl (pa_cons (pv 1) (pa_cons (pv 2) pa_nil)))))
   pss_nil)
  (pss_cons (ps_if (pt_cmpR op_eq (pv 0) pe_str (nomark _))
   (pss_one (ps_ret (pe_mk c_Upon___init__ (hr.mono (by decide)) rfl (pa_cons (pv 1) (pa_cons (pv 2) pa_nil)))))
   pss_nil)
  (pss_cons (ps_if (pt_cmpR op_eq (pv 0) pe_str (nomark _))
   (pss_one (ps_ret (pe_mk c_Until___init__ (hr.mono (by decide)) rfl (pa_cons (pv 1) (pa_cons (pv 2) pa_nil)))))
   pss_nil)
  (pss_cons (ps_if (pt_cmpR op_eq (pv 0) pe_str (nomark _))
   (pss_one (ps_ret (pe_mk c_Near___init__ (hr.mono (by decide)) rfl (pa_cons (pv 1) (pa_cons (pv 2) pa_nil)))))
   pss_nil)
  (pss_one (ps_ret (pe_mk c_Till___init__ (hr.mono (by decide)) rfl (pa_cons (pv 1) (pa_cons (pv 2) pa_nil)))))))))))),?_⟩
 walk_at "rdc"
 refine ite2d (fun c=>?_) (fun c=>?_)
 ·walk_at "rdc"
  exact fun y dy hy hdy ne=>mk2T R1 R2 lz hy hdy ne fun b w0 w1 w2 H' s N=>⟨rfl,q y b w0 w1 w2 H' s N⟩
 walk_at "rdc"
 refine ite2d (fun c=>?_) (fun c=>?_)
 ·walk_at "rdc"
  exact fun y dy hy hdy ne=>mk2T R1 R2 lz hy hdy ne fun b w0 w1 w2 H' s N=>⟨rfl,q y b w0 w1 w2 H' s N⟩
 walk_at "rdc"
 refine ite2d (fun c=>?_) (fun c=>?_)
 ·walk_at "rdc"
  exact fun y dy hy hdy ne=>mk2T R1 R2 lz hy hdy ne fun b w0 w1 w2 H' s N=>⟨rfl,q y b w0 w1 w2 H' s N⟩
 walk_at "rdc"
 refine ite2d (fun c=>?_) (fun c=>?_)
 ·walk_at "rdc"
  exact fun y dy hy hdy ne=>mk2T R1 R2 lz hy hdy ne fun b w0 w1 w2 H' s N=>⟨rfl,q y b w0 w1 w2 H' s N⟩
 walk_at "rdc"
 refine ite2d (fun c=>?_) (fun c=>?_)
 ·walk_at "rdc"
  exact fun y dy hy hdy ne=>mk2T R1 R2 lz hy hdy ne fun b w0 w1 w2 H' s N=>⟨rfl,q y b w0 w1 w2 H' s N⟩
 walk_at "rdc"
 refine ite2d (fun c=>?_) (fun c=>?_)
 ·walk_at "rdc"
  exact fun y dy hy hdy ne=>mk2T R1 R2 lz hy hdy ne fun b w0 w1 w2 H' s N=>⟨rfl,q y b w0 w1 w2 H' s N⟩
 walk_at "rdc"
 refine ite2d (fun c=>?_) (fun c=>?_)
 ·walk_at "rdc"
  exact fun y dy hy hdy ne=>mk2T R1 R2 lz hy hdy ne fun b w0 w1 w2 H' s N=>⟨rfl,q y b w0 w1 w2 H' s N⟩
 walk_at "rdc"
 exact fun y dy hy hdy ne=>mk2T R1 R2 lz hy hdy ne fun b w0 w1 w2 H' s N=>⟨rfl,q y b w0 w1 w2 H' s N⟩
theorem sc_law_made:FnScope ["_law_word","_law_beside","_law_one","_law_other","_law_number","_law_first","_law_size","_law_many"] ["_law_word","_law_beside","_law_one","_law_other"] (defScope s_law_made):=⟨rfl,rfl,rfl,by decide +kernel,rfl,by decide +kernel,by decide +kernel⟩
theorem ok_law_made{f:Addr}{fd:FuncData}(F:Fun K "_law_made" "_law_made" s_law_made f fd)(er:Errs K mg c_FeastError c_NoNumber c_TooLong c_NoMeasure c_Rule c_All c_No c_Each c_Dated c_Not c_Both c_Either c_But c_Unlike c_Later c_Upon c_Until c_Near c_Till c_Kth c_Every c_Measure c_Calendar c_Sun)(c_Not___init__:CalI P w K mg base CX0 3 "Not" c_Not ["self","R"] (spI1T K c_Rule [c_All,c_No,c_Each,c_Dated,c_Not,c_Both,c_Either,c_But,c_Unlike,c_Later,c_Upon,c_Until,c_Near,c_Till,c_Kth,c_Every] c_Not))(c_Later___init__:CalI P w K mg base CX0 3 "Later" c_Later ["self","number","R"] (spILT K c_Rule [c_All,c_No,c_Each,c_Dated,c_Not,c_Both,c_Either,c_But,c_Unlike,c_Later,c_Upon,c_Until,c_Near,c_Till,c_Kth,c_Every] c_Later))(c_Every___init__:CalI P w K mg base CX0 7 "Every" c_Every ["self","number","R","day"] (spIVT K c_Rule [c_All,c_No,c_Each,c_Dated,c_Not,c_Both,c_Either,c_But,c_Unlike,c_Later,c_Upon,c_Until,c_Near,c_Till,c_Kth,c_Every] c_Every))(c__law_divisor:Cal P w K mg base 1 "_law_divisor" ["_law_one","_law_other"] spDivW)(c_Kth___init__:CalI P w K mg base CX0 9 "Kth" c_Kth ["self","number","R","S"] (spIKT K c_Rule [c_All,c_No,c_Each,c_Dated,c_Not,c_Both,c_Either,c_But,c_Unlike,c_Later,c_Upon,c_Until,c_Near,c_Till,c_Kth,c_Every] c_Kth))(c__law_pair:Cal P w K mg base 12 "_law_pair" ["_law_word","_law_one","_law_other"] (spPair67 K c_Rule [c_All,c_No,c_Each,c_Dated,c_Not,c_Both,c_Either,c_But,c_Unlike,c_Later,c_Upon,c_Until,c_Near,c_Till,c_Kth,c_Every])):FnOk P w K mg base CX0 13 f fd ["_law_word","_law_beside","_law_one","_law_other"] (spMade67 K c_Rule [c_All,c_No,c_Each,c_Dated,c_Not,c_Both,c_Either,c_But,c_Unlike,c_Later,c_Upon,c_Until,c_Near,c_Till,c_Kth,c_Every]):=by
 refine F.ok (k:=12) sc_law_made (fun vs H Q E h=>?_) (fun cdv A outer s H vs Q E hr h=>?_)
 ·obtain⟨wd,x,p1,p2,t1,t2,rfl,_⟩:=h
  rfl
 obtain⟨wd,x,p1,p2,t1,t2,rfl,⟨e1,T1,z1,k1⟩,⟨e2,T2,z2,k2⟩,m1,m2,q⟩:=h
 have n1:=T1.rule.n0
 have n2:=T2.rule.n0
 have fl:=lcmI_facts n1 n2
 have x0:=Int.emod_nonneg x (show (3:Int)≠0 by decide)
 have x1:=Int.emod_lt_of_pos x (show (0:Int)<3 by decide)
 refine⟨_,(pss_cons (ps_set (i:=4) sc_law_made.nd rfl (by first | exact Or.inl rfl | exact Or.inr rfl) (pe_op op_add pe_int (pe_op op_mod (pv 1) pe_int)))
  (pss_cons (ps_set (i:=5) sc_law_made.nd rfl (by first | exact Or.inl rfl | exact Or.inr rfl) (pe_op op_sub (pe_op op_mod (pe_op op_fdivB (pv 1) pe_int) (pe_op op_pow pe_int pe_int)) (pe_op op_mulB pe_int (pe_op op_pow pe_int pe_int))))
  (pss_cons (ps_if (pt_cmpR op_eq (pv 0) pe_str (nomark _))
   (pss_one (ps_ret (pe_tup (pa_cons (pe_mk c_Not___init__ (hr.mono (by decide)) rfl (pa_cons (pe_ix ix_tup (pv 2) pe_int (fun _ _=>rfl)) pa_nil)) (pa_cons (pe_ix ix_tup (pv 2) pe_int (fun _ _=>rfl)) (pa_cons (pe_op op_add pe_int (pe_ix ix_tup (pv 2) pe_int (fun _ _=>rfl))) pa_nil))))))
   pss_nil)
  (pss_cons (ps_if (pt_cmpR op_eq (pv 0) pe_str (nomark _))
   (pss_one (ps_ret (pe_tup (pa_cons (pe_mk c_Later___init__ (hr.mono (by decide)) rfl (pa_cons (pv 5) (pa_cons (pe_ix ix_tup (pv 2) pe_int (fun _ _=>rfl)) pa_nil))) (pa_cons (pe_ix ix_tup (pv 2) pe_int (fun _ _=>rfl)) (pa_cons (pe_op op_add pe_int (pe_ix ix_tup (pv 2) pe_int (fun _ _=>rfl))) pa_nil))))))
   pss_nil)
  (pss_cons (ps_cut (ps_if (PW.pt (pw_and (pt_cmpR op_eq (pv 0) pe_str (nomark _)) (pw_and1 (pt_cmpR op_le (pe_op op_mulB (pe_ix ix_tup (pv 2) pe_int (fun _ _=>rfl)) (pv 4)) pe_int (nomark _)))))
   (pss_one (ps_ret (pe_tup (pa_cons (pe_mk c_Every___init__ (hr.mono (by decide)) rfl (pa_cons (pv 4) (pa_cons (pe_ix ix_tup (pv 2) pe_int (fun _ _=>rfl)) (pa_cons (pv 5) pa_nil)))) (pa_cons (pe_op op_mulB (pe_ix ix_tup (pv 2) pe_int (fun _ _=>rfl)) (pv 4)) (pa_cons (pe_op op_add pe_int (pe_ix ix_tup (pv 2) pe_int (fun _ _=>rfl))) pa_nil))))))
   pss_nil))
  (pss_cons (ps_set (i:=6) sc_law_made.nd rfl (by first | exact Or.inl rfl | exact Or.inr rfl) (pe_op op_mulB (pe_op op_fdivB (pe_ix ix_tup (pv 2) pe_int (fun _ _=>rfl)) (pe_cal c__law_divisor (hr.mono (by decide)) rfl (pa_cons (pe_ix ix_tup (pv 2) pe_int (fun _ _=>rfl)) (pa_cons (pe_ix ix_tup (pv 3) pe_int (fun _ _=>rfl)) pa_nil)))) (pe_ix ix_tup (pv 3) pe_int (fun _ _=>rfl))))
  (pss_cons (ps_set (i:=7) sc_law_made.nd rfl (by first | exact Or.inl rfl | exact Or.inr rfl) (pe_op op_add (pe_op op_add pe_int (pe_ix ix_tup (pv 2) pe_int (fun _ _=>rfl))) (pe_ix ix_tup (pv 3) pe_int (fun _ _=>rfl))))
  (pss_cons (ps_if (PW.pt (pw_or (pt_cmpR op_gt (pv 6) pe_int (nomark _)) (pw_or (pt_cmpR op_gt (pv 7) pe_int (nomark _)) (pw_or1 (pt_cmpR op_eq (pv 0) pe_str (nomark _))))))
   (pss_one (ps_ret pe_non))
   pss_nil)
  (pss_cons (ps_if (pt_cmpR op_eq (pv 0) pe_str (nomark _))
   (pss_cons (ps_cut (ps_if (pt_cmpR op_gt (pe_op op_mod (pv 1) pe_int) pe_int (nomark _))
   (pss_one (ps_set (i:=4) sc_law_made.nd rfl (by first | exact Or.inl rfl | exact Or.inr rfl) (pe_un un_neg (pv 4))))
   pss_nil))
  (pss_one (ps_ret (pe_tup (pa_cons (pe_mk c_Kth___init__ (hr.mono (by decide)) rfl (pa_cons (pv 4) (pa_cons (pe_ix ix_tup (pv 2) pe_int (fun _ _=>rfl)) (pa_cons (pe_ix ix_tup (pv 3) pe_int (fun _ _=>rfl)) pa_nil)))) (pa_cons (pv 6) (pa_cons (pv 7) pa_nil)))))))
   pss_nil)
  (pss_one (ps_ret (pe_tup (pa_cons (pe_cal c__law_pair (hr.mono (by decide)) rfl (pa_cons (pv 0) (pa_cons (pe_ix ix_tup (pv 2) pe_int (fun _ _=>rfl)) (pa_cons (pe_ix ix_tup (pv 3) pe_int (fun _ _=>rfl)) pa_nil)))) (pa_cons (pv 6) (pa_cons (pv 7) pa_nil))))))))))))))),?_⟩
 walk_at "rdc"
 rw[p39]
 refine rd_i ⟨64,200,bt_small (by omega) (by omega) (by decide),bt_of (by omega) (by omega),by decide⟩ ?_
 walk_at "rdc"
 rw[p40]
 have g0:=Int.emod_nonneg (x/6) (show (10000000000000000000000000000000000000000:Int)≠0 by decide)
 have g1:=Int.emod_lt_of_pos (x/6) (show (0:Int)<10000000000000000000000000000000000000000 by decide)
 obtain⟨g,hg⟩:∃g:Int,x/6%10000000000000000000000000000000000000000-5*1000000000000000000000000000000000000000=g:=⟨_,rfl⟩
 rw[hg]
 have bg:Bt 200 g:=bt_of (by omega) (by omega)
 generalize hN:1+x%3=N at*
 refine ite2d (fun c=>?_) (fun c=>?_)
 ·walk_at "rdc"
  refine rd_ixT (SqT.of e1) at30 ?_
  walk_at "rdc"
  refine fun y dy hy hdy ne=>⟨y,t1.adr,t1.sz,t1.bits,rfl,T1.rule.same (mk_same hy hdy ne),.go hy hdy ne fun b ws H' s N ⟨w0,w1,ew⟩=>⟨rfl,?_⟩⟩
  subst ew
  walk_at "rdc"
  refine rd_ixT (SqT.of (s _ _ e1)) at31 ?_
  walk_at "rdc"
  refine rd_ixT (SqT.of (s _ _ e1)) at32 ?_
  walk_at "rdc"
  refine⟨(by show 3≤sizeLine;decide),fun p hp=>?_⟩
  exact q _ _ (s.trans (same_new hp _)) (.inr ⟨p,_,rfl,.un N (T1.same s) (Int.dvd_refl _) z1 m1 hp⟩)
 walk_at "rdc"
 refine ite2d (fun c=>?_) (fun c=>?_)
 ·walk_at "rdc"
  refine rd_ixT (SqT.of e1) at30 ?_
  walk_at "rdc"
  refine fun y dy hy hdy ne=>⟨y,t1.adr,g,t1.sz,t1.bits,rfl,bg,T1.rule.same (mk_same hy hdy ne),.go hy hdy ne fun b ws H' s N ⟨w0,w1,ew⟩=>⟨rfl,?_⟩⟩
  subst ew
  walk_at "rdc"
  refine rd_ixT (SqT.of (s _ _ e1)) at31 ?_
  walk_at "rdc"
  refine rd_ixT (SqT.of (s _ _ e1)) at32 ?_
  walk_at "rdc"
  refine⟨(by show 3≤sizeLine;decide),fun p hp=>?_⟩
  exact q _ _ (s.trans (same_new hp _)) (.inr ⟨p,_,rfl,.un N (T1.same s) (Int.dvd_refl _) z1 m1 hp⟩)
 walk_at "rdc"
 refine rd_cut (fun σ' H'=>H'=H∧σ'=[some (.str wd),some (.int x),some (.ref p1),some (.ref p2),some (.int N),some (.int g),none,none]) ?_ ?_
 ·walk_at "rdc"
  refine ite2d (fun c=>?_) (fun c=>?_)
  ·walk_at "rdc"
   refine rd_ixT (SqT.of e1) at31 ?_
   walk_at "rdc"
   refine rd_i ⟨64,64,bt_small (by omega) (by omega) (by decide),bt_small (by omega) (by omega) (by decide),by decide⟩ ?_
   walk_at "rdc"
   refine ite2d (fun cn=>?_) (fun cn=>?_)
   ·walk_at "rdc"
    refine rd_ixT (SqT.of e1) at30 ?_
    walk_at "rdc"
    refine fun y dy hy hdy ne=>⟨y,t1.adr,N,g,t1.sz,t1.bits,rfl,by omega,by omega,by omega,bg,T1.rule.same (mk_same hy hdy ne),.go hy hdy ne fun b ws H' s N ⟨w0,w1,ew⟩=>⟨rfl,?_⟩⟩
    subst ew
    walk_at "rdc"
    refine rd_ixT (SqT.of (s _ _ e1)) at31 ?_
    walk_at "rdc"
    refine rd_i ⟨64,64,bt_small (by omega) (by omega) (by decide),bt_small (by omega) (by omega) (by decide),by decide⟩ ?_
    walk_at "rdc"
    refine rd_ixT (SqT.of (s _ _ e1)) at32 ?_
    walk_at "rdc"
    refine⟨(by show 3≤sizeLine;decide),fun p hp=>?_⟩
    exact q _ _ (s.trans (same_new hp _)) (.inr ⟨p,_,rfl,.un N (T1.same s) (Int.dvd_mul_right _ _) cn m1 hp⟩)
   ·walk_at "rdc"
    exact⟨rfl,rfl⟩
  ·refine iteF ?_
   walk_at "rdc"
   exact⟨rfl,rfl⟩
 rintro σ' H' ⟨rfl,rfl⟩
 walk_at "rdc"
 refine rd_ixT (SqT.of e1) at31 ?_
 walk_at "rdc"
 refine rd_ixT (SqT.of e1) at31 ?_
 walk_at "rdc"
 refine rd_ixT (SqT.of e2) at31 ?_
 walk_at "rdc"
 have gp:=gcd_pos (b:=t2.sz) n1
 have gl:=gcd_le (b:=t2.sz) n1
 refine⟨t1.sz,t2.sz,rfl,n1,n2,?_⟩
 refine rd_i (cdiv_small gp (by omega)) ?_
 walk_at "rdc"
 refine rd_ixT (SqT.of e2) at31 ?_
 have q0:=Int.ediv_nonneg (a:=t1.sz) (b:=(Int.gcd t1.sz t2.sz:Int)) (by omega) (by omega)
 have q1:=Int.ediv_le_self (a:=t1.sz) (Int.gcd t1.sz t2.sz:Int) (by omega)
 refine rd_i ⟨64,64,bt_small (by omega) (by omega) (by decide),bt_small (by omega) (by omega) (by decide),by decide⟩ ?_
 have el:t1.sz/(Int.gcd t1.sz t2.sz:Int)*t2.sz=lcmI t1.sz t2.sz:=rfl
 rw[el]
 walk_at "rdc"
 refine rd_ixT (SqT.of e1) at32 ?_
 walk_at "rdc"
 refine rd_ixT (SqT.of e2) at32 ?_
 walk_at "rdc"
 refine ite2d (fun c1=>?_) (fun c1=>?_)
 ·refine iteT ?_
  walk_at "rdc"
  exact q _ _ (Same.refl _) (.inl rfl)
 walk_at "rdc"
 refine ite2d (fun c2=>?_) (fun c2=>?_)
 ·refine iteT ?_
  walk_at "rdc"
  exact q _ _ (Same.refl _) (.inl rfl)
 walk_at "rdc"
 refine ite2d (fun c3=>?_) (fun c3=>?_)
 ·walk_at "rdc"
  exact q _ _ (Same.refl _) (.inl rfl)
 walk_at "rdc"
 refine ite2d (fun co=>?_) (fun co=>?_)
 ·walk_at "rdc"
  refine rd_cut (fun σ' H''=>H''=H'∧∃M:Int,M≠0∧ -10≤M∧M≤10∧σ'=[some (.str wd),some (.int x),some (.ref p1),some (.ref p2),some (.int M),some (.int g),some (.int (lcmI t1.sz t2.sz)),some (.int (1+(t1.parts.length:Int)+(t2.parts.length:Int)))]) ?_ ?_
  ·walk_at "rdc"
   refine ite2d (fun cx=>?_) (fun cx=>?_)
   ·walk_at "rdc"
    exact⟨rfl,-N,by omega,by omega,by omega,rfl⟩
   ·walk_at "rdc"
    exact⟨rfl,N,by omega,by omega,by omega,rfl⟩
  rintro σ' H'' ⟨rfl,M,M0,M1,M2,rfl⟩
  walk_at "rdc"
  refine rd_ixT (SqT.of e1) at30 ?_
  walk_at "rdc"
  refine rd_ixT (SqT.of e2) at30 ?_
  walk_at "rdc"
  refine fun y dy hy hdy ne=>⟨y,t1.adr,t2.adr,M,t1.sz,t2.sz,t1.bits,t2.bits,rfl,M0,bt_of (by omega) (by omega),T1.rule.same (mk_same hy hdy ne),T2.rule.same (mk_same hy hdy ne),by omega,.go hy hdy ne fun b ws H6 s6 N ⟨w0,w1,w2,ew⟩=>⟨rfl,?_⟩⟩
  subst ew
  walk_at "rdc"
  refine⟨(by show 3≤sizeLine;decide),fun p hp=>?_⟩
  exact q _ _ (s6.trans (same_new hp _)) (.inr ⟨p,_,rfl,.bi N (T1.same s6) (T2.same s6) fl.2.1 fl.2.2.1 (by omega) (by omega) hp⟩)
 ·walk_at "rdc"
  refine rd_ixT (SqT.of e1) at30 ?_
  walk_at "rdc"
  refine rd_ixT (SqT.of e2) at30 ?_
  walk_at "rdc"
  refine⟨wd,t1.adr,t2.adr,t1.sz,t2.sz,t1.bits,t2.bits,rfl,T1.rule,T2.rule,by omega,fun y b w0 w1 w2 H6 s6 N=>?_⟩
  walk_at "rdc"
  refine⟨(by show 3≤sizeLine;decide),fun p hp=>?_⟩
  exact q _ _ (s6.trans (same_new hp _)) (.inr ⟨p,_,rfl,.bi N (T1.same s6) (T2.same s6) fl.2.1 fl.2.2.1 (by omega) (by omega) hp⟩)
theorem sc_law_rule:FnScope ["_law_script","_law_leaves","_law_words","_law_names_here","_law_nodes","_law_k","_law_word","_law_beside","_law_one","_law_other","_law_found"] ["_law_script"] (defScope s_law_rule):=⟨rfl,rfl,rfl,by decide +kernel,rfl,by decide +kernel,by decide +kernel⟩
theorem ok_law_rule{f:Addr}{fd:FuncData}(F:Fun K "_law_rule" "_law_rule" s_law_rule f fd)(c__law_cell_at:Cal P w K mg base 1 "_law_cell_at" ["_law_script","_law_k"] (spCell K))(c__law_leaf:Cal P w K mg base 9 "_law_leaf" ["_law_word","_law_beside","_law_names_here"] (spLeaf67 K c_Rule [c_All,c_No,c_Each,c_Dated,c_Not,c_Both,c_Either,c_But,c_Unlike,c_Later,c_Upon,c_Until,c_Near,c_Till,c_Kth,c_Every]))(c__law_made:Cal P w K mg base 13 "_law_made" ["_law_word","_law_beside","_law_one","_law_other"] (spMade67 K c_Rule [c_All,c_No,c_Each,c_Dated,c_Not,c_Both,c_Either,c_But,c_Unlike,c_Later,c_Upon,c_Until,c_Near,c_Till,c_Kth,c_Every]))(z_range:mg "range"=none)(z_min:mg "min"=none)(z_len:mg "len"=none):FnOk P w K mg base CX0 14 f fd ["_law_script"] (spRule67 K c_Rule [c_All,c_No,c_Each,c_Dated,c_Not,c_Both,c_Either,c_But,c_Unlike,c_Later,c_Upon,c_Until,c_Near,c_Till,c_Kth,c_Every]):=by
 refine F.ok (k:=13) sc_law_rule (fun vs H Q E h=>?_) (fun cdv A outer s H vs Q E hr h=>?_)
 ·obtain⟨a,ns,rfl,_⟩:=h
  rfl
 obtain⟨a,ns,rfl,hS,nl,q⟩:=h
 refine bss_ex ⟨_,(bss_cons (bs_set (i:=1) sc_law_rule.nd rfl (by first | exact Or.inl rfl | exact Or.inr rfl) (be_strs (ss:=["each","date","each","none","all"]) (by rfl)))
  (bss_cons (bs_set (i:=2) sc_law_rule.nd rfl (by first | exact Or.inl rfl | exact Or.inr rfl) (be_strs (ss:=["and","upon","or","not","of","not","until","later","but","near","each","till","every"]) (by rfl)))
  (bss_cons (bs_set (i:=2) sc_law_rule.nd rfl (by first | exact Or.inl rfl | exact Or.inr rfl) (be_op op_cat (be (pv 2)) (be_strs (ss:=["unlike","date","none","all","and","or"]) (by rfl))))
  (bss_cons (bs (ps_set (i:=3) sc_law_rule.nd rfl (by first | exact Or.inl rfl | exact Or.inr rfl) (pe_lst (pa_cons pe_str (pa_cons (pe_ix ix_list (pe_lst (pa_cons pe_str (pa_cons pe_str (pa_cons pe_str (pa_cons pe_str pa_nil))))) (pe_op op_mod (pe_cal c__law_cell_at (hr.mono (by decide)) rfl (pa_cons (pv 0) (pa_cons pe_int pa_nil))) pe_int) (fun _ _=>rfl)) pa_nil)))))
  (bss_cons (bs (ps_set (i:=4) sc_law_rule.nd rfl (by first | exact Or.inl rfl | exact Or.inr rfl) (pe_lst (pa_cons (pe_cal c__law_leaf (hr.mono (by decide)) rfl (pa_cons pe_str (pa_cons (pe_cal c__law_cell_at (hr.mono (by decide)) rfl (pa_cons (pv 0) (pa_cons pe_int pa_nil))) (pa_cons (pv 3) pa_nil)))) pa_nil))))
  (bss_cons (bs (ps_expr (pe_bm PySem.F.plainAttrs_list PySem.F.slot_list_append PySem.F.type_list_append mt_append (pv 4) (pa_cons (pe_cal c__law_leaf (hr.mono (by decide)) rfl (pa_cons (pe_ix ix_list (pv 1) (pe_op op_mod (pe_cal c__law_cell_at (hr.mono (by decide)) rfl (pa_cons (pv 0) (pa_cons pe_int pa_nil))) pe_int) (fun _ _=>rfl)) (pa_cons (pe_cal c__law_cell_at (hr.mono (by decide)) rfl (pa_cons (pv 0) (pa_cons pe_int pa_nil))) (pa_cons (pv 3) pa_nil)))) pa_nil))))
  (bss_cons (bs (ps_for PassesOwn.never rfl (pi_range3 rfl z_range (pa_cons pe_int (pa_cons (pe_callB (call_min2 rfl) rfl z_min PyProof.Rows.boot_min (pa_cons (pe_callB call_len_seq rfl z_len PySem.boot_len (pa_cons (pv 0) pa_nil)) (pa_cons pe_int pa_nil))) (pa_cons pe_int pa_nil)))) (pg_name (i:=5) sc_law_rule.nd rfl (by first | exact Or.inl rfl | exact Or.inr rfl))
   (pss_cons (ps_set (i:=6) sc_law_rule.nd rfl (by first | exact Or.inl rfl | exact Or.inr rfl) (pe_ix ix_list (pv 2) (pe_op op_mod (pe_ix ix_list (pv 0) (pv 5) (fun _ _=>rfl)) pe_int) (fun _ _=>rfl)))
  (pss_cons (ps_set (i:=7) sc_law_rule.nd rfl (by first | exact Or.inl rfl | exact Or.inr rfl) (pe_cal c__law_cell_at (hr.mono (by decide)) rfl (pa_cons (pv 0) (pa_cons (pe_op op_add (pv 5) pe_int) pa_nil))))
  (pss_cons (ps_set (i:=8) sc_law_rule.nd rfl (by first | exact Or.inl rfl | exact Or.inr rfl) (pe_ix ix_list (pv 4) (pe_op op_sub (pe_op op_sub (pe_callB call_len_seq rfl z_len PySem.boot_len (pa_cons (pv 4) pa_nil)) pe_int) (pe_op op_mod (pe_op op_mod (pe_op op_fdivB (pe_ix ix_list (pv 0) (pv 5) (fun _ _=>rfl)) pe_int) pe_int) (pe_callB call_len_seq rfl z_len PySem.boot_len (pa_cons (pv 4) pa_nil)))) (fun _ _=>rfl)))
  (pss_cons (ps_cut (ps_if (pt_cmpR op_eq (pe_op op_mod (pe_op op_fdivB (pe_ix ix_list (pv 0) (pv 5) (fun _ _=>rfl)) pe_int) pe_int) pe_int (nomark _))
   (pss_one (ps_set (i:=8) sc_law_rule.nd rfl (by first | exact Or.inl rfl | exact Or.inr rfl) (pe_ix ix_list (pv 4) (pe_op op_mod (pe_op op_fdivB (pe_ix ix_list (pv 0) (pv 5) (fun _ _=>rfl)) pe_int) (pe_callB call_len_seq rfl z_len PySem.boot_len (pa_cons (pv 4) pa_nil))) (fun _ _=>rfl))))
   pss_nil))
  (pss_cons (ps_set (i:=9) sc_law_rule.nd rfl (by first | exact Or.inl rfl | exact Or.inr rfl) (pe_ix ix_list (pv 4) (pe_op op_mod (pe_op op_mod (pe_op op_fdivB (pe_ix ix_list (pv 0) (pv 5) (fun _ _=>rfl)) pe_int) pe_int) (pe_callB call_len_seq rfl z_len PySem.boot_len (pa_cons (pv 4) pa_nil))) (fun _ _=>rfl)))
  (pss_cons (ps_set (i:=10) sc_law_rule.nd rfl (by first | exact Or.inl rfl | exact Or.inr rfl) pe_non)
  (pss_cons (ps_cut (ps_if (pt_cmpR op_in_seq (pv 6) (pv 1) (by rfl))
   (pss_one (ps_set (i:=10) sc_law_rule.nd rfl (by first | exact Or.inl rfl | exact Or.inr rfl) (pe_cal c__law_leaf (hr.mono (by decide)) rfl (pa_cons (pv 6) (pa_cons (pv 7) (pa_cons (pv 3) pa_nil))))))
   (pss_one (ps_set (i:=10) sc_law_rule.nd rfl (by first | exact Or.inl rfl | exact Or.inr rfl) (pe_cal c__law_made (hr.mono (by decide)) rfl (pa_cons (pv 6) (pa_cons (pv 7) (pa_cons (pv 8) (pa_cons (pv 9) pa_nil)))))))))
  (pss_one (ps_cut (ps_if (PW.pt (pw_and (pt_cmpR op_notN (pv 10) pe_non (nomark _)) (pw_and1 (pt_cmpR op_lt (pe_ix ix_tup (pv 10) pe_int (fun _ _=>rfl)) pe_int (nomark _)))))
   (pss_one (ps_expr (pe_bm PySem.F.plainAttrs_list PySem.F.slot_list_append PySem.F.type_list_append mt_append (pv 4) (pa_cons (pv 10) pa_nil))))
   pss_nil))))))))))))
  (bss_one (bs (ps_ret (pe_ix ix_tup (pe_ix ix_list (pv 4) (pe_un un_neg pe_int) (fun _ _=>rfl)) pe_int (fun _ _=>rfl)))))))))))),?_⟩
 walk_at "rdc"
 refine rd_strs ?_
 refine⟨(by show 5≤sizeLine;decide),fun lv hlv=>?_⟩
 refine fresh hlv fun H1 s1 t1=>?_
 walk_at "rdc"
 refine rd_strs ?_
 refine⟨(by show 13≤sizeLine;decide),fun lw0 hlw0=>?_⟩
 refine fresh hlw0 fun H2 s2 t2=>?_
 walk_at "rdc"
 refine rd_strs ?_
 refine⟨(by show 6≤sizeLine;decide),fun lw1 hlw1=>?_⟩
 refine fresh hlw1 fun H3 s3 t3=>?_
 walk_at "rdc"
 refine⟨lw0,lw1,_,_,rfl,rfl,s3 _ _ t2,t3,(by show 13+6≤sizeLine;decide),fun lw hlw=>?_⟩
 refine fresh hlw fun H4 s4 t4=>?_
 rw[←List.map_append] at t4
 have tv4:=(s2.trans (s3.trans s4)) _ _ t1
 have s4:=s1.trans (s2.trans (s3.trans s4))
 clear t2 t3 t1
 walk_at "rdc"
 refine⟨(by show 4≤sizeLine;decide),fun lm hlm=>?_⟩
 refine fresh hlm fun H5 s5 t5=>?_
 have s45:=s4.trans s5
 walk_at "rdc"
 refine rd_cell (s45.seq hS) nl (by omega) ?_
 walk_at "rdc"
 have c0:=Int.emod_nonneg (ns.getD (0:Int).toNat 0) (show (4:Int)≠0 by decide)
 have c1:=Int.emod_lt_of_pos (ns.getD (0:Int).toNat 0) (show (0:Int)<4 by decide)
 obtain⟨nm,hnm,enm⟩:=at_strs (ss:=[Str.ofString "moon",Str.ofString "moon",Str.ofString "moon",Str.ofString "sun"]) c0 c1
 have lnm:nm.length≤100:=by
  rcases List.mem_cons.mp hnm with h | h
  ·subst h;decide +kernel
  rcases List.mem_cons.mp h with h | h
  ·subst h;decide +kernel
  rcases List.mem_cons.mp h with h | h
  ·subst h;decide +kernel
  ·obtain rfl:=List.mem_singleton.mp h
   decide +kernel
 refine rd_ixL (SqL.of t5) enm ?_
 walk_at "rdc"
 refine⟨(by show 2≤sizeLine;decide),fun ln hln=>?_⟩
 refine fresh hln fun H6 s6 t6=>?_
 have s46:=s5.trans s6
 have tv6:=s46 _ _ tv4
 have tw6:=s46 _ _ t4
 have s6:=s4.trans s46
 clear s46 s45 s5 t5 tv4 t4 s4 hnm enm c0 c1
 walk_at "rdc"
 refine rd_cell (s6.seq hS) nl (by omega) ?_
 walk_at "rdc"
 refine⟨_,_,nm,_,ln,rfl,SqL.of t6,(by decide +kernel),lnm,fun p1 u1 H7 s7 N1 k1=>?_⟩
 walk_at "rdc"
 refine⟨(by show 1≤sizeLine;decide),fun L hL=>?_⟩
 have hL7:=hL
 refine fresh hL fun H8 s8 t8=>?_
 have R8:Row K c_Rule [c_All,c_No,c_Each,c_Dated,c_Not,c_Both,c_Either,c_But,c_Unlike,c_Later,c_Upon,c_Until,c_Near,c_Till,c_Kth,c_Every] H8 L [(p1,u1)]:=⟨t8,fun z hz=>by obtain rfl:=List.mem_singleton.mp hz;exact⟨N1.kp (.of s8),by show u1.parts.length≤40;omega⟩⟩
 walk_at "rdc"
 refine rd_append rfl t8 ?_
 have s08:=s6.trans (s7.trans s8)
 have tv8:=(s7.trans s8) _ _ tv6
 have tn8:=(s7.trans s8) _ _ t6
 walk_at "rdc"
 refine rd_cell (s08.seq hS) nl (by omega) ?_
 walk_at "rdc"
 obtain⟨wl,_,ewl⟩:=at_strs (ss:=[Str.ofString "each",Str.ofString "date",Str.ofString "each",Str.ofString "none",Str.ofString "all"]) (Int.emod_nonneg (ns.getD (2:Int).toNat 0) (show (5:Int)≠0 by decide)) (Int.emod_lt_of_pos (ns.getD (2:Int).toNat 0) (show (0:Int)<5 by decide))
 refine rd_ixL (SqL.of tv8) ewl ?_
 walk_at "rdc"
 refine rd_cell (s08.seq hS) nl (by omega) ?_
 walk_at "rdc"
 refine⟨_,_,nm,_,ln,rfl,SqL.of tn8,(by decide +kernel),lnm,fun p2 u2 H9 s9 N2 k2=>?_⟩
 refine rd_nil ?_
 have R9:=R8.same s9
 refine rd_app R9.1 (by show 1<sizeLine;decide) ?_
 have RA:=R9.app N2 (by omega)
 have sA:Same H7 (upd H9 L (.lst (([(p1,u1)].map fun z=>V.ref z.1)++[.ref p2]))):=same_app hL7 (s8.trans s9)
 generalize upd H9 L (.lst (([(p1,u1)].map fun z=>V.ref z.1)++[.ref p2]))=HA at RA sA ⊢
 have tv7:=s7 _ _ tv6
 have tw7:=s7 _ _ tw6
 have tn7:=s7 _ _ t6
 have hS7:=(s6.trans s7).seq hS
 have s07:=s6.trans s7
 clear R8 R9 s8 s9 N1 N2 s08 tv8 tn8 ewl t8
 walk_at "rdc"
 refine rd_for (rd_rng3 ?_)
 walk_at "rdc"
 refine⟨a,_,rfl,.inl (sA.seq hS7),?_⟩
 rw[List.length_map]
 walk_at "rdc"
 refine⟨_,_,rfl,?_⟩
 obtain⟨M,hM⟩:∃M:Int,(if (24:Int)<(ns.length:Int) then (24:Int) else (ns.length:Int))=M:=⟨_,rfl⟩
 have M0:0≤M∧M≤24∧M≤(ns.length:Int):=by split at hM<;>omega
 rw[hM]
 walk_at "rdc"
 obtain⟨n,hn,n10,hk⟩:∃n:Nat,(n:Int)=Builtin.Range.rangeSize 4 M 2∧n≤10∧∀k:Nat,k<n→4+(k:Int)*2<M:=by
  rw[rangeSize_up (by omega)]
  by_cases c:4<M
  ·rw[if_pos c]
   exact⟨((M-4-1)/2+1).toNat,by omega,by omega,fun k hk=>by omega⟩
  ·rw[if_neg c]
   exact⟨0,rfl,by omega,fun k hk=>absurd hk (Nat.not_lt_zero k)⟩
 obtain⟨ws,ews,tw7⟩:∃ws:List Str,ws.length=19∧H7 lw=some (.lst (ws.map V.str)):=⟨_,rfl,tw7⟩
 obtain⟨lvs,tv7⟩:∃ws:List Str,H7 lv=some (.lst (ws.map V.str)):=⟨_,tv7⟩
 refine⟨4,M,2,rfl,by omega,by omega,small_step (by omega) (by omega) (by omega) (by omega) (by omega) (by omega),n,hn,for_rangeS (fun i σ' H'=>Same H7 H'∧∃(zs:List (Addr×Tr)) (v5 v6 v7 v8 v9 v10:Option V),Row K c_Rule [c_All,c_No,c_Each,c_Dated,c_Not,c_Both,c_Either,c_But,c_Unlike,c_Later,c_Upon,c_Until,c_Near,c_Till,c_Kth,c_Every] H' L zs∧2≤zs.length∧zs.length≤2+i∧σ'=[some (.ref a),some (.ref lv),some (.ref lw),some (.ref ln),some (.ref L),v5,v6,v7,v8,v9,v10]) ⟨sA,[(p1,u1),(p2,u2)],none,none,none,none,none,none,RA,(by show 2≤2;decide),(by show 2≤2+0;decide),rfl⟩ ?_ ?_⟩
 ·rintro i σ' H' hi ⟨sH,zs,v5,v6,v7,v8,v9,v10,R,z2,zi,rfl⟩
  have kM:=hk i hi
  generalize hkk:(4:Int)+(i:Int)*2=kk at kM ⊢
  have hSH:=sH.seq hS7
  have hat:=at_ints (ns:=ns) (k:=kk) (by omega) (by omega)
  generalize ns.getD kk.toNat 0=x at hat
  have lenR:=R.1
  walk_at "rdc"
  refine rd_ixL hSH hat ?_
  walk_at "rdc"
  obtain⟨wd,_,ewd⟩:=at_strs (ss:=ws) (Int.emod_nonneg x (show (19:Int)≠0 by decide)) (by rw[ews];exact Int.emod_lt_of_pos x (by decide))
  refine rd_ixL (SqL.of (sH _ _ tw7)) ewd ?_
  walk_at "rdc"
  refine rd_cell hSH nl (by omega) ?_
  generalize ns.getD (kk+1).toNat 0=y
  walk_at "rdc"
  refine⟨L,_,rfl,.inl (SqL.of R.1),?_⟩
  rw[List.length_map]
  walk_at "rdc"
  refine rd_ixL hSH hat ?_
  walk_at "rdc"
  refine⟨L,_,rfl,.inl (SqL.of R.1),?_⟩
  rw[List.length_map]
  walk_at "rdc"
  have zl:(0:Int)<(zs.length:Int):=by omega
  have a0:=Int.emod_nonneg (x/38%3) (show (zs.length:Int)≠0 by omega)
  have a1:=Int.emod_lt_of_pos (x/38%3) zl
  obtain⟨o1,ho1,eo1⟩:=at_nodes (zs:=zs) (k:=(zs.length:Int)-1-x/38%3%(zs.length:Int)) (by omega) (by omega)
  refine rd_ixL (SqL.of R.1) eo1 ?_
  walk_at "rdc"
  refine rd_cut (fun σ' H''=>H''=H'∧∃o,o∈zs∧σ'=[some (.ref a),some (.ref lv),some (.ref lw),some (.ref ln),some (.ref L),some (.int kk),some (.str wd),some (.int y),some (.ref o.1),v9,v10]) ?_ ?_
  ·walk_at "rdc"
   refine rd_ixL hSH hat ?_
   walk_at "rdc"
   refine ite2d (fun c=>?_) (fun c=>?_)
   ·walk_at "rdc"
    refine rd_ixL hSH hat ?_
    walk_at "rdc"
    refine⟨L,_,rfl,.inl (SqL.of R.1),?_⟩
    rw[List.length_map]
    walk_at "rdc"
    obtain⟨o2,ho2,eo2⟩:=at_nodes (zs:=zs) (Int.emod_nonneg (x/2280) (show (zs.length:Int)≠0 by omega)) (Int.emod_lt_of_pos (x/2280) zl)
    refine rd_ixL (SqL.of R.1) eo2 ?_
    walk_at "rdc"
    exact⟨rfl,o2,ho2,rfl⟩
   ·walk_at "rdc"
    exact⟨rfl,o1,ho1,rfl⟩
  rintro σ' H'' ⟨rfl,o,ho,rfl⟩
  walk_at "rdc"
  refine rd_ixL hSH hat ?_
  walk_at "rdc"
  refine⟨L,_,rfl,.inl (SqL.of R.1),?_⟩
  rw[List.length_map]
  walk_at "rdc"
  obtain⟨o3,ho3,eo3⟩:=at_nodes (zs:=zs) (Int.emod_nonneg (x/114%20) (show (zs.length:Int)≠0 by omega)) (Int.emod_lt_of_pos (x/114%20) zl)
  refine rd_ixL (SqL.of R.1) eo3 ?_
  walk_at "rdc"
  refine rd_cut (fun σ' H3=>Same H'' H3∧∃v,(v=.non∨∃p t,v=.ref p∧NodeT K c_Rule [c_All,c_No,c_Each,c_Dated,c_Not,c_Both,c_Either,c_But,c_Unlike,c_Later,c_Upon,c_Until,c_Near,c_Till,c_Kth,c_Every] H3 p t)∧σ'=[some (.ref a),some (.ref lv),some (.ref lw),some (.ref ln),some (.ref L),some (.int kk),some (.str wd),some (.int y),some (.ref o.1),some (.ref o3.1),some v]) ?_ ?_
  ·walk_at "rdc"
   refine⟨lv,_,rfl,.inl (SqL.of (sH _ _ tv7)),rfl,flat_strs lvs,?_⟩
   walk_at "rdc"
   cases hb:inV (V.str wd) (lvs.map V.str) with
   | true=>
    refine iteT ?_
    walk_at "rdc"
    refine⟨wd,_,nm,y,ln,rfl,SqL.of (sH _ _ tn7),(by decide +kernel),lnm,fun p t H3 s3 N k=>?_⟩
    walk_at "rdc"
    exact⟨s3,_,.inr ⟨p,t,rfl,N⟩,rfl⟩
   | false=>
    refine iteF ?_
    walk_at "rdc"
    refine⟨wd,y,o.1,o3.1,o.2,o3.2,rfl,(R.2 o ho).1,(R.2 o3 ho3).1,(R.2 o ho).2,(R.2 o3 ho3).2,fun v H3 s3 hv=>?_⟩
    walk_at "rdc"
    exact⟨s3,v,hv,rfl⟩
  rintro σ' H3 ⟨s3,v,hv,rfl⟩
  have R3:=R.same s3
  have sH3:=sH.trans s3
  walk_at "rdc"
  refine rd_cut (fun σ' H4=>Same H7 H4∧∃zs',Row K c_Rule [c_All,c_No,c_Each,c_Dated,c_Not,c_Both,c_Either,c_But,c_Unlike,c_Later,c_Upon,c_Until,c_Near,c_Till,c_Kth,c_Every] H4 L zs'∧2≤zs'.length∧zs'.length≤2+(i+1)∧σ'=[some (.ref a),some (.ref lv),some (.ref lw),some (.ref ln),some (.ref L),some (.int kk),some (.str wd),some (.int y),some (.ref o.1),some (.ref o3.1),some v]) ?_ ?_
  ·rcases hv with rfl | ⟨p,t,rfl,N⟩
   ·walk_at "rdc"
    refine⟨rfl,?_⟩
    walk_at "rdc"
    refine iteF ?_
    walk_at "rdc"
    exact⟨sH3,zs,R3,z2,by omega,rfl⟩
   ·walk_at "rdc"
    refine⟨rfl,?_⟩
    walk_at "rdc"
    refine iteT ?_
    walk_at "rdc"
    refine rd_ixT (SqT.of N.1) at32 ?_
    walk_at "rdc"
    refine ite2d (fun c=>?_) (fun c=>?_)
    ·walk_at "rdc"
     refine rd_append rfl R3.1 ?_
     walk_at "rdc"
     refine rd_app R3.1 (by rw[List.length_map,sizeLine_eq];omega) ?_
     exact⟨same_app hL7 sH3,zs++[(p,t)],R3.app N (by omega),by rw[List.length_append];omega,by rw[List.length_append];show zs.length+1≤_;omega,rfl⟩
    ·walk_at "rdc"
     exact⟨sH3,zs,R3,z2,by omega,rfl⟩
  rintro σ' H4 ⟨s4,zs',R4,z4,z5,rfl⟩
  exact⟨s4,zs',_,_,_,_,_,_,R4,z4,z5,rfl⟩
 ·rintro σ' H' ⟨sH,zs,v5,v6,v7,v8,v9,v10,R,z2,zi,rfl⟩
  obtain⟨z,hz,ez⟩:=at_lastN (zs:=zs) (by omega)
  obtain⟨⟨N1,N2,N3,N4⟩,N5⟩:=R.2 z hz
  walk_at "rdc"
  refine rd_ixL (SqL.of R.1) ez ?_
  walk_at "rdc"
  refine rd_ixT (SqT.of N1) at30 ?_
  exact q z.2 _ (s07.trans sH) N2 N3 (by omega)
theorem sc_law_long:FnScope ["_law_turn","_law_size"] ["_law_turn","_law_size"] (defScope s_law_long):=⟨rfl,rfl,rfl,by decide +kernel,rfl,by decide +kernel,by decide +kernel⟩
theorem ok_law_long{f:Addr}{fd:FuncData}(F:Fun K "_law_long" "_law_long" s_law_long f fd):FnOk P w K mg base CX0 1 f fd ["_law_turn","_law_size"] (spLong67 K):=by
 refine F.ok (k:=0) sc_law_long (fun vs H Q E h=>?_) (fun cdv A outer s H vs Q E hr h=>?_)
 ·obtain⟨p,n,z,b,rfl,_⟩:=h
  rfl
 obtain⟨p,n,z,b,rfl,hS,n0,z0,z1,⟨m,rfl⟩,hb,q⟩:=h
 refine⟨_,(pss_one (ps_ret (pe_op op_mulB (pe_ix ix_tup (pv 0) pe_int (fun _ _=>rfl)) (pe_op op_fdivB (pe_op op_sub (pe_op op_shlB pe_int (pv 1)) pe_int) (pe_op op_sub (pe_op op_shlB pe_int (pe_ix ix_tup (pv 0) pe_int (fun _ _=>rfl))) pe_int))))),?_⟩
 have m0:0<m:=by
  rcases Int.lt_or_le 0 m with h | h
  ·exact h
  ·have:=Int.mul_nonpos_of_nonneg_of_nonpos (a:=n) (b:=m) (by omega) h
   omega
 obtain⟨n,rfl⟩:∃k:Nat,n=(k:Int):=⟨n.toNat,by omega⟩
 obtain⟨m,rfl⟩:∃k:Nat,m=(k:Int):=⟨m.toNat,by omega⟩
 rw[←Int.natCast_mul] at z0 z1 q ⊢
 rw[Int.toNat_natCast] at hb
 have nz:n≤n*m:=Nat.le_mul_of_pos_right n (by omega)
 walk_at "rdc"
 refine rd_ixT hS at1 ?_
 walk_at "rdc"
 refine rd_i ⟨by omega,1,bt1,by omega⟩ ?_
 walk_at "rdc"
 refine rd_ixT hS at0 ?_
 walk_at "rdc"
 refine rd_i ⟨by omega,1,bt1,by omega⟩ ?_
 walk_at "rdc"
 rw[full_cast,full_cast,Int.toNat_natCast,Int.toNat_natCast]
 have p2:2≤2^n:=by
  have:=Nat.pow_le_pow_right (show 0<2 by decide) (show 1≤n by omega)
  omega
 have lb:(2^n-1:Nat)<2^9000:=Nat.lt_of_lt_of_le (show 2^n-1<2^n by omega) (Nat.pow_le_pow_right (by decide) (by omega))
 refine rd_i ⟨by omega,bt_nat lb⟩ ?_
 rw[←Int.natCast_ediv]
 have S:=laid_strt (s:=n) (b:=b) (by omega) hb m
 have lq:(2^(n*m)-1)/(2^n-1)<2^(n*m):=by
  have:=Nat.div_le_self (2^(n*m)-1) (2^n-1)
  have:=Nat.two_pow_pos (n*m)
  omega
 refine rd_i ⟨n,n*m,bt_nat hb,bt_nat lq,by omega⟩ ?_
 walk_at "rdc"
 rw[←Int.natCast_mul]
 exact q _ (by rw[Int.toNat_natCast,Int.toNat_natCast];exact S)
theorem sc_law_one_part:FnScope ["_law_bits","_law_size","_law_days","_law_apart"] ["_law_bits","_law_size"] (defScope s_law_one_part):=⟨rfl,rfl,rfl,by decide +kernel,rfl,by decide +kernel,by decide +kernel⟩
theorem ok_law_one_part{f:Addr}{fd:FuncData}(F:Fun K "_law_one_part" "_law_one_part" s_law_one_part f fd)(z_range:mg "range"=none)(z_len:mg "len"=none):FnOk P w K mg base CX0 1 f fd ["_law_bits","_law_size"] spOneP67:=by
 refine F.ok (k:=0) sc_law_one_part (fun vs H Q E h=>?_) (fun cdv A outer s H vs Q E hr h=>?_)
 ·obtain⟨n,b,rfl,_⟩:=h
  rfl
 obtain⟨n,b,rfl,n0,n1,hb,q⟩:=h
 refine⟨_,(pss_cons (ps_set (i:=2) sc_law_one_part.nd rfl (by first | exact Or.inl rfl | exact Or.inr rfl) (pe_comp rfl (compOk_freeM ["_law_bits","_law_size","_law_days","_law_apart"] ["_law_bits","_law_size","_law_days","_law_apart"] rfl rfl (by with_unfolding_all rfl) (by decide +kernel) rfl (by decide +kernel) rfl (by decide +kernel) (by walk_at "fm") (by with_unfolding_all rfl) (by with_unfolding_all rfl)) (pi_range1 rfl z_range (pa_cons (pv 1) pa_nil)) (fun _ _ _ _=>(pifs_one (pt_cmpR op_eq (pe_op op_and (pe_op op_shr (pv 1) (pv 0)) pe_int) pe_int (nomark _)))) (fun _ _ _ _=>(pv 0))))
  (pss_cons (ps_if (pt_cmpR (op_eqL hr.units) (pv 2) (pe_lst pa_nil) (nomark _))
   (pss_one (ps_ret pe_bl))
   pss_nil)
  (pss_cons (ps_if (pt_cmpR op_ne (pe_op op_mod (pv 1) (pe_callB call_len_seq rfl z_len PySem.boot_len (pa_cons (pv 2) pa_nil))) pe_int (nomark _))
   (pss_one (ps_ret pe_bl))
   pss_nil)
  (pss_cons (ps_set (i:=3) sc_law_one_part.nd rfl (by first | exact Or.inl rfl | exact Or.inr rfl) (pe_op op_fdivB (pv 1) (pe_callB call_len_seq rfl z_len PySem.boot_len (pa_cons (pv 2) pa_nil))))
  (pss_one (ps_ret (pe_cmpR (op_eqL hr.units) (pv 2) (pe_comp rfl (compOk_freeM ["_law_bits","_law_size","_law_days","_law_apart"] ["_law_bits","_law_size","_law_days","_law_apart"] rfl rfl (by with_unfolding_all rfl) (by decide +kernel) rfl (by decide +kernel) rfl (by decide +kernel) (by walk_at "fm") (by with_unfolding_all rfl) (by with_unfolding_all rfl)) (pi_range1 rfl z_range (pa_cons (pe_callB call_len_seq rfl z_len PySem.boot_len (pa_cons (pv 2) pa_nil)) pa_nil)) (fun _ _ _ _=>pifs_nil) (fun _ _ _ _=>(pe_op op_add (pe_ix ix_list_c (pv 3) pe_int (fun _ _=>rfl)) (pe_op op_mulB (pv 0) (pv 4))))) (nomark _)))))))),?_⟩
 walk_at "rdc"
 refine rd_comp (rd_rng1 ?_)
 walk_at "rdc"
 refine⟨n,rfl,by omega,by omega,?_⟩
 refine comp_go walk_r ?_ (fun _ _ _=>trivial) (fun v=>match v with | .int d=>b.testBit d.toNat | _=>false) (fun v=>v) (fun x hx D ys Q' hD h=>?_) (fun x hx _ D ys Q' hD h=>⟨_,rfl,h⟩) (fun D hD=>?_)
 ·rw[List.length_map,List.length_range,sizeLine_eq]
  omega
 ·obtain⟨i,hi,rfl⟩:=List.mem_map.mp hx
  walk_at "rdc"
  refine rd_i (show (0:Int)≤0+(i:Int) by omega) ?_
  walk_at "rdc"
  rw[and_one]
  exact h
 have e:=filt (fun v=>match v with | .int d=>b.testBit d.toNat | _=>false) (fun d=>b.testBit d.toNat) (fun d=>rfl) (fun i=>0+(i:Int)) (List.range n.toNat)
 rw[e]
 generalize hds:((List.range n.toNat).map fun(i:Nat)=>0+(i:Int)).filter (fun d=>b.testBit d.toNat)=ds
 have mem:∀d,d∈ds↔0≤d∧d<n∧b.testBit d.toNat=true:=fun d=>by
  rw[←hds,List.mem_filter,List.mem_map]
  constructor
  ·rintro⟨⟨i,hi,rfl⟩,h⟩
   have:=List.mem_range.mp hi
   exact⟨by omega,by omega,h⟩
  ·rintro⟨h1,h2,h3⟩
   exact⟨⟨d.toNat,List.mem_range.mpr (by omega),by omega⟩,h3⟩
 have dlen:ds.length≤120:=by
  rw[←hds]
  refine Nat.le_trans (List.length_filter_le _ _) ?_
  rw[List.length_map,List.length_range]
  omega
 refine fresh hD fun H1 s1 t1=>?_
 walk_at "rdc"
 refine⟨(by show 0≤sizeLine;decide),fun pe hpe=>?_⟩
 refine fresh hpe fun H2 s2 t2=>?_
 have t1:=s2 _ _ t1
 have s2:=s1.trans s2
 walk_at "rdc"
 refine rd_eqL (SqL.of t1) (ms:=[]) (SqL.of t2) ?_
 walk_at "rdc"
 refine ite2d (fun e0=>?_) (fun ne=>?_)
 ·walk_at "rdc"
  refine q true _ s2 fun _=>.inl (bits_ext hb (Nat.two_pow_pos _) fun i hi=>?_)
  rw[Nat.zero_testBit]
  cases hb':b.testBit i with
  | false=>rfl
  | true=>
   have:=(mem (i:Int)).mpr ⟨by omega,by omega,by rw[Int.toNat_natCast];exact hb'⟩
   rw[e0] at this
   cases this
 obtain⟨f,r,hf⟩:∃f r,ds=f::r:=by
  cases ds with
  | nil=>exact absurd rfl ne
  | cons f r=>exact⟨f,r,rfl⟩
 have m0:0<ds.length:=by rw[hf];simp
 walk_at "rdc"
 refine⟨D,_,rfl,.inl (SqL.of t1),?_⟩
 rw[List.length_map]
 walk_at "rdc"
 by_cases hm:n%(ds.length:Int)=0
 ·refine iteNS (by rw[hm]) ?_
  walk_at "rdc"
  refine⟨D,_,rfl,.inl (SqL.of t1),?_⟩
  rw[List.length_map]
  walk_at "rdc"
  refine rd_i (cdiv_small (by omega) (by omega)) ?_
  walk_at "rdc"
  have q0:=Int.ediv_nonneg (a:=n) (b:=(ds.length:Int)) (by omega) (by omega)
  have q1:=Int.ediv_le_self (a:=n) (ds.length:Int) (by omega)
  obtain⟨a,ha⟩:∃a:Nat,n/(ds.length:Int)=(a:Int):=⟨(n/(ds.length:Int)).toNat,by omega⟩
  have an:(ds.length:Int)*(a:Int)=n:=by
   have:=Int.emod_add_mul_ediv n (ds.length:Int)
   rw[hm,ha] at this
   omega
  rw[ha] at q0 q1 ⊢
  have ff:=(mem f).mp (by rw[hf];exact List.mem_cons_self)
  obtain⟨f,rfl⟩:∃k:Nat,f=(k:Int):=⟨f.toNat,by omega⟩
  have hat:atI (ds.map V.int) 0=some (V.int (f:Int)):=by
   rw[hf]
   exact at_zero
  refine rd_comp (rd_rng1 ?_)
  walk_at "rdc"
  refine⟨D,_,rfl,.inl (SqL.of t1),?_⟩
  rw[List.length_map]
  walk_at "rdc"
  refine⟨(ds.length:Int),rfl,by omega,by omega,?_⟩
  refine comp_go walk_r ?_ (fun _ _ _=>trivial) (fun _=>true) (fun v=>match v with | .int k=>.int ((f:Int)+k*(a:Int)) | _=>.non) (fun x hx D' ys Q' hD' h=>h) (fun x hx _ D' ys Q' hD' h=>?_) (fun D' hD'=>?_)
  ·rw[List.length_map,List.length_range,sizeLine_eq]
   omega
  ·obtain⟨i,hi,rfl⟩:=List.mem_map.mp hx
   have hi':=List.mem_range.mp hi
   walk_at "rdc"
   refine rd_ixL (SqL.of (same_new hD' _ _ _ t1)) hat ?_
   walk_at "rdc"
   refine rd_i ⟨64,64,bt_small (by omega) (by omega) (by decide),bt_small (by omega) (by omega) (by decide),by decide⟩ ?_
   walk_at "rdc"
   exact h
  have e2:((((List.range (ds.length:Int).toNat).map fun(i:Nat)=>V.int (0+(i:Int))).filter fun _=>true).map fun v=>match v with | .int k=>V.int ((f:Int)+k*(a:Int)) | _=>.non)=((List.range ds.length).map fun(k:Nat)=>(f:Int)+(k:Int)*(a:Int)).map V.int:=by
   rw[List.filter_eq_self.mpr (fun _ _=>rfl),List.map_map,List.map_map,Int.toNat_natCast]
   refine List.map_congr_left fun k _=>?_
   show V.int ((f:Int)+(0+(k:Int))*(a:Int))=V.int ((f:Int)+(k:Int)*(a:Int))
   rw[Int.zero_add]
  rw[e2]
  refine fresh hD' fun H3 s3 t3=>?_
  walk_at "rdc"
  refine rd_eqL (SqL.of (s3 _ _ t1)) (SqL.of t3) ?_
  refine q _ _ (s2.trans s3) fun h=>?_
  have eq:=of_decide_eq_true h
  have mem2:∀d,d∈ds↔∃k:Nat,k<ds.length∧(f:Int)+(k:Int)*(a:Int)=d:=fun d=>by
   conv=>lhs;rw[eq]
   rw[List.mem_map]
   exact⟨fun ⟨k,hk,e⟩=>⟨k,List.mem_range.mp hk,e⟩,fun⟨k,hk,e⟩=>⟨k,List.mem_range.mpr hk,e⟩⟩
  refine even_one (m:=ds.length) (a:=a) (f:=f) m0 ?_ (fun _=>?_) (fun i hi=>?_) (by omega)
  ·have:((a*ds.length:Nat):Int)=n:=by
    rw[Int.natCast_mul,Int.mul_comm]
    exact an
   omega
  ·have:=(mem _).mp ((mem2 _).mpr ⟨ds.length-1,by omega,rfl⟩)
   have e3:((f+(ds.length-1)*a:Nat):Int)=(f:Int)+((ds.length-1:Nat):Int)*(a:Int):=by rw[Int.natCast_add,Int.natCast_mul]
   omega
  ·have ec:∀k:Nat,((f+k*a:Nat):Int)=(f:Int)+(k:Int)*(a:Int):=fun k=>by rw[Int.natCast_add,Int.natCast_mul]
   constructor
   ·intro hc
    obtain⟨k,hk,e⟩:=(mem2 _).mp ((mem (i:Int)).mpr ⟨by omega,by omega,by rw[Int.toNat_natCast];exact hc⟩)
    exact⟨k,hk,by have:=ec k;omega⟩
   ·rintro⟨k,hk,rfl⟩
    have:=(mem _).mp ((mem2 ((f+k*a:Nat):Int)).mpr ⟨k,hk,(ec k).symm⟩)
    rw[Int.toNat_natCast] at this
    exact this.2.2
 ·refine iteNN (fun z=>hm (V.int.inj z)) ?_
  walk_at "rdc"
  exact q false _ s2 (fun h=>nomatch h)
theorem sc_law_names:FnScope ["_law_rule_here","_law_shown"] ["_law_rule_here"] (defScope s_law_names):=⟨rfl,rfl,rfl,by decide +kernel,rfl,by decide +kernel,by decide +kernel⟩
theorem ok_law_names{f:Addr}{fd:FuncData}(F:Fun K "_law_names" "_law_names" s_law_names f fd)(c_Rec_shown:CalL P w K mg base CX0 61 "shown" ["self"] ([c_All,c_No,c_Each,c_Dated,c_Not,c_Both,c_Either,c_But,c_Unlike,c_Later,c_Upon,c_Until,c_Near,c_Till,c_Kth,c_Every].map fun C=>(C,(spShown K c_Rule [c_All,c_No,c_Each,c_Dated,c_Not,c_Both,c_Either,c_But,c_Unlike,c_Later,c_Upon,c_Until,c_Near,c_Till,c_Kth,c_Every]) 60)))(c_Rec_parts:CalL P w K mg base CX0 61 "parts" ["self"] ([c_All,c_No,c_Each,c_Dated,c_Not,c_Both,c_Either,c_But,c_Unlike,c_Later,c_Upon,c_Until,c_Near,c_Till,c_Kth,c_Every].map fun C=>(C,(spParts K c_Rule [c_All,c_No,c_Each,c_Dated,c_Not,c_Both,c_Either,c_But,c_Unlike,c_Later,c_Upon,c_Until,c_Near,c_Till,c_Kth,c_Every]) 60))):FnOk P w K mg base CX0 62 f fd ["_law_rule_here"] (spNames67 K c_Rule [c_All,c_No,c_Each,c_Dated,c_Not,c_Both,c_Either,c_But,c_Unlike,c_Later,c_Upon,c_Until,c_Near,c_Till,c_Kth,c_Every]):=by
 refine F.ok (k:=61) sc_law_names (fun vs H Q E h=>?_) (fun cdv A outer s H vs Q E hr h=>?_)
 ·obtain⟨t,rfl,_⟩:=h
  rfl
 obtain⟨t,rfl,T,ln,q⟩:=h
 have dl':=t.deep_lt
 obtain⟨C,dx,p,pm,pw,hC,rc,hx,_⟩:=T.node
 refine⟨_,(pss_cons (ps_setComp (i:=1) sc_law_names.nd rfl (by first | exact Or.inl rfl | exact Or.inr rfl) rfl (compOk_nil ["_law_rule_here","_law_shown"] rfl (by decide +kernel) rfl (by decide +kernel) rfl (by decide +kernel) (by decide +kernel)) (pi_list (pe_mcalL0 c_Rec_parts (hr.mono (by decide)) (pv 0))) (fun _ _ _ _=>pifs_nil) (fun _ _ _ _=>(pe_mcalL0 c_Rec_shown (hr.mono (by decide)) (pv 0))))
  (pss_one (ps_ret (pe_comp rfl (compOk_nil ["_law_rule_here","_law_shown"] rfl (by decide +kernel) rfl (by decide +kernel) rfl (by decide +kernel) (by decide +kernel)) (pi_list (pv 1)) (fun _ _ _ _=>(pifs_one (pt_val (pe_bmC PySem.F.plainAttrs_str PySem.F.slot_str_startswith PySem.F.type_str_startswith mt_startswith (pv 0) (pa_cons pe_str pa_nil))))) (fun _ _ _ _=>(pe_ix ix_list_c (pe_bmC PySem.F.plainAttrs_str PySem.F.slot_str_split PySem.F.type_str_split mt_split (pv 0) (pa_cons pe_str pa_nil)) pe_int (fun _ _=>rfl))))))),?_⟩
 walk_at "rdc"
 refine rd_comp (rd_iL ?_)
 walk_at "rdc"
 refine⟨t.adr,C,dx,_,_,List.mem_map.mpr ⟨C,hC,rfl⟩,rfl,hx,rfl,?_⟩
 walk_at "rdc"
 refine⟨t,rfl,T,by omega,by omega,fun l H1 hl s1 t1=>?_⟩
 have T1:=T.same s1
 refine⟨l,rfl,⟨_,SqL.of t1⟩,comp_inv (xs:=t.parts.map fun s=>V.ref s.adr) walk_l (by rw[List.length_map,sizeLine_eq];omega) (fun D i ys H2=>H2 D=some (.lst ys)∧Same H1 H2∧ys=((t.parts.take i).map Tr.text).map V.str∧i≤t.parts.length) (fun D hD=>⟨upd_same,same_new hD _,rfl,Nat.zero_le _⟩) ?_ ?_ ?_⟩
 ·rintro D i ys H2 hD ⟨h1,h2,rfl,h4⟩
  exact⟨h1,by rw[List.length_map,List.length_map,List.length_take];omega,SqL.of (h2 _ _ t1)⟩
 ·rintro D i x ys H2 hD hx' ⟨h1,h2,rfl,h4⟩
  rw[List.getElem?_map] at hx'
  obtain⟨s,hs,rfl⟩:=Option.map_eq_some_iff.mp hx'
  have sm:=List.mem_of_getElem? hs
  have S:=((T1.part sm).1).same h2
  have pl:=Tr.part_len sm
  have sd:=s.deep_lt
  have il:=(List.getElem?_eq_some_iff.mp hs).1
  refine rd_true (iteT ?_)
  walk_at "rdc"
  obtain⟨C',dx',p',pm',pw',hC',rc',hx2,_⟩:=S.node
  refine⟨s.adr,C',dx',_,_,List.mem_map.mpr ⟨C',hC',rfl⟩,rfl,hx2,rfl,?_⟩
  walk_at "rdc"
  refine⟨s,rfl,S,by omega,by omega,fun H3 s3=>?_⟩
  refine⟨s3 _ _ h1,upd_same,same_app hD (h2.trans s3),?_,by omega⟩
  rw[List.take_add_one,hs,Option.toList_some,List.map_append,List.map_append]
  rfl
 rintro D ys H2 hD ⟨h1,h2,rfl,h4⟩
 rw[List.length_map,List.take_length] at h1
 have tl:∀z∈t.parts.map Tr.text,z.length≤1000000:=fun z hz=>by
  obtain⟨s,hs,rfl⟩:=List.mem_map.mp hz
  have:=((T.part hs).1).text_le
  have:=Tr.part_len hs
  omega
 walk_at "rdc"
 refine rd_comp (rd_iL ?_)
 walk_at "rdc"
 refine⟨D,rfl,⟨_,SqL.of h1⟩,comp_inv (xs:=(t.parts.map Tr.text).map V.str) walk_l (by rw[List.length_map,List.length_map,sizeLine_eq];omega) (fun D' i ys H3=>H3 D'=some (.lst ys)∧Same H2 H3∧ys=((((t.parts.map Tr.text).take i).filter fun z=>Txt.startswith z (Str.ofString "date ")).map nmOf).map V.str) (fun D' hD'=>⟨upd_same,same_new hD' _,rfl⟩) ?_ ?_ ?_⟩
 ·rintro D' i ys H3 hD' ⟨g1,g2,rfl⟩
  refine⟨g1,?_,SqL.of (g2 _ _ h1)⟩
  rw[List.length_map,List.length_map]
  exact Nat.le_trans (List.length_filter_le _ _) (by rw[List.length_take];omega)
 ·rintro D' i x ys H3 hD' hx' ⟨g1,g2,rfl⟩
  rw[List.getElem?_map] at hx'
  obtain⟨z,hz,rfl⟩:=Option.map_eq_some_iff.mp hx'
  have zl:=tl z (List.mem_of_getElem? hz)
  have tk:(t.parts.map Tr.text).take (i+1)=(t.parts.map Tr.text).take i++[z]:=by rw[List.take_add_one,hz];rfl
  walk_at "rdc"
  refine rd_bm ?_
  walk_at "rdc"
  refine⟨rfl,?_⟩
  walk_at "rdc"
  refine⟨z,_,rfl,rfl,?_⟩
  refine rd_bl ?_
  cases hst:Txt.startswith z (Str.ofString "date ") with
  | false=>
   refine iteF ?_
   refine⟨g1,g2,?_⟩
   rw[tk,List.filter_append,List.filter_cons,hst]
   simp
  | true=>
   refine iteT ?_
   walk_at "rdc"
   refine rd_bm ?_
   walk_at "rdc"
   refine⟨rfl,?_⟩
   walk_at "rdc"
   refine⟨z,32,rfl,by rw[show Str.ofString " "=⟨#[32]⟩ from by decide +kernel],by decide,zl,fun l5 hl5=>?_⟩
   walk_at "rdc"
   refine rd_ixL (SqL.of upd_same) (nm_at hst) ?_
   refine⟨same_new hl5 _ _ _ g1,upd_same,same_app hD' (g2.trans (same_new hl5 _)),?_⟩
   rw[tk,List.filter_append,List.filter_cons,hst]
   simp
 rintro D' ys H3 hD' ⟨g1,g2,rfl⟩
 rw[List.length_map,List.take_length] at g1
 exact q D' _ ((s1.trans h2).free hD') (s1.trans (h2.trans g2)) g1
theorem sc_law_alike:FnScope ["_law_rule_here","_law_found","_law_size","_law_bits"] ["_law_rule_here","_law_found"] (defScope s_law_alike):=⟨rfl,rfl,rfl,by decide +kernel,rfl,by decide +kernel,by decide +kernel⟩
theorem ok_law_alike{f:Addr}{fd:FuncData}(F:Fun K "_law_alike" "_law_alike" s_law_alike f fd)(c_Rec_turn:CalL P w K mg base CX0 2 "turn" ["self"] ([c_All,c_No,c_Each,c_Dated,c_Not,c_Both,c_Either,c_But,c_Unlike,c_Later,c_Upon,c_Until,c_Near,c_Till,c_Kth,c_Every].map fun C=>(C,(spR (spTurnM K c_Rule [c_All,c_No,c_Each,c_Dated,c_Not,c_Both,c_Either,c_But,c_Unlike,c_Later,c_Upon,c_Until,c_Near,c_Till,c_Kth,c_Every])) 1)))(c_Rec_size:CalL P w K mg base CX0 2 "size" ["self"] ([c_All,c_No,c_Each,c_Dated,c_Not,c_Both,c_Either,c_But,c_Unlike,c_Later,c_Upon,c_Until,c_Near,c_Till,c_Kth,c_Every].map fun C=>(C,(spR (spSizeM K c_Rule [c_All,c_No,c_Each,c_Dated,c_Not,c_Both,c_Either,c_But,c_Unlike,c_Later,c_Upon,c_Until,c_Near,c_Till,c_Kth,c_Every])) 1)))(c__law_long:Cal P w K mg base 1 "_law_long" ["_law_turn","_law_size"] (spLong67 K)):FnOk P w K mg base CX0 3 f fd ["_law_rule_here","_law_found"] (spAlike67 K c_Rule [c_All,c_No,c_Each,c_Dated,c_Not,c_Both,c_Either,c_But,c_Unlike,c_Later,c_Upon,c_Until,c_Near,c_Till,c_Kth,c_Every]):=by
 refine F.ok (k:=2) sc_law_alike (fun vs H Q E h=>?_) (fun cdv A outer s H vs Q E hr h=>?_)
 ·obtain⟨t,f,rfl,_⟩:=h
  rfl
 obtain⟨t,u,rfl,T,U,sz,dv,st,q⟩:=h
 have n0:=T.rule.n0
 have m0:=U.rule.n0
 have ul:=Int.le_of_dvd n0 dv
 refine⟨_,(pss_cons (ps_asg (pe_mcalL0 c_Rec_turn (hr.mono (by decide)) (pv 0)) (pg_tup rfl (pgs_cons (pg_name (i:=2) sc_law_alike.nd rfl (by first | exact Or.inl rfl | exact Or.inr rfl)) (pgs_cons (pg_name (i:=3) sc_law_alike.nd rfl (by first | exact Or.inl rfl | exact Or.inr rfl)) pgs_nil))))
  (pss_cons (ps_if (PW.pt (pw_or (pt_cmpR op_lt (pe_mcalL0 c_Rec_size (hr.mono (by decide)) (pv 1)) pe_int (nomark _)) (pw_or (pt_cmpR op_ne (pe_op op_mod (pv 2) (pe_mcalL0 c_Rec_size (hr.mono (by decide)) (pv 1))) pe_int (nomark _)) (pw_or1 (pt_cmpR op_ne (pe_ix ix_tup (pe_mcalL0 c_Rec_turn (hr.mono (by decide)) (pv 1)) pe_int (fun _ _=>rfl)) (pe_mcalL0 c_Rec_size (hr.mono (by decide)) (pv 1)) (nomark _))))))
   (pss_one (ps_ret pe_bl))
   pss_nil)
  (pss_one (ps_ret (pe_cmpR op_eq (pe_cal c__law_long (hr.mono (by decide)) rfl (pa_cons (pe_mcalL0 c_Rec_turn (hr.mono (by decide)) (pv 1)) (pa_cons (pv 2) pa_nil))) (pv 3) (nomark _)))))),?_⟩
 walk_at "rdc"
 obtain⟨C,dr,fs,m,hr1,l1,_⟩:=T.rule.mt
 refine⟨t.adr,C,dr,fs,_,m _,rfl,hr1,l1,?_⟩
 walk_at "rdc"
 refine⟨Nat.one_pos,t.adr,t.sz,t.bits,rfl,T.rule,fun p hp=>?_⟩
 refine rd_gtup (SqT.of hp) rfl ?_
 walk_at "rdc"
 obtain⟨C2,dr2,fs2,m2,hr2,_,l2,_⟩:=U.rule.mt
 refine⟨u.adr,C2,dr2,fs2,_,m2 _,rfl,hr2,l2,?_⟩
 walk_at "rdc"
 refine⟨Nat.one_pos,u.adr,u.sz,u.bits,rfl,U.rule,?_⟩
 walk_at "rdc"
 refine iteN (by omega) ?_
 walk_at "rdc"
 refine⟨u.adr,C2,dr2,fs2,_,m2 _,rfl,hr2,l2,?_⟩
 walk_at "rdc"
 refine⟨Nat.one_pos,u.adr,u.sz,u.bits,rfl,U.rule,?_⟩
 walk_at "rdc"
 rw[Int.emod_eq_zero_of_dvd dv]
 refine iteNS rfl ?_
 walk_at "rdc"
 obtain⟨C3,dr3,fs3,m3,hr3,l3,_⟩:=U.rule.mt
 refine⟨u.adr,C3,dr3,fs3,_,m3 _,rfl,hr3,l3,?_⟩
 walk_at "rdc"
 refine⟨Nat.one_pos,u.adr,u.sz,u.bits,rfl,U.rule,fun p5 hp5=>?_⟩
 walk_at "rdc"
 refine rd_ixT (SqT.of hp5) at0 ?_
 walk_at "rdc"
 refine⟨u.adr,C2,dr2,fs2,_,m2 _,rfl,hr2,l2,?_⟩
 walk_at "rdc"
 refine⟨Nat.one_pos,u.adr,u.sz,u.bits,rfl,U.rule,?_⟩
 walk_at "rdc"
 refine iteNS rfl ?_
 walk_at "rdc"
 refine⟨u.adr,C3,dr3,fs3,_,m3 _,rfl,hr3,l3,?_⟩
 walk_at "rdc"
 refine⟨Nat.one_pos,u.adr,u.sz,u.bits,rfl,U.rule,fun p6 hp6=>?_⟩
 walk_at "rdc"
 refine⟨p6,u.sz,t.sz,u.bits,rfl,SqT.of hp6,m0,n0,sz,dv,U.rule.lt,fun c S=>?_⟩
 walk_at "rdc"
 rw[Strt.one S st,decide_eq_true rfl]
 exact q _ (Same.refl _)
theorem sc_law:FnScope ["_law_script","_law_day","_law_rule_here","_law_text","_law_found","_law_size","_law_bits","_law_many","_law_part","_law_names_here","_law_name"] ["_law_script"] (defScope s_law):=⟨rfl,rfl,rfl,by decide +kernel,rfl,by decide +kernel,by decide +kernel⟩
theorem ok_law{f:Addr}{fd:FuncData}(F:Fun K "law" "law" s_law f fd)(er:Errs K mg c_FeastError c_NoNumber c_TooLong c_NoMeasure c_Rule c_All c_No c_Each c_Dated c_Not c_Both c_Either c_But c_Unlike c_Later c_Upon c_Until c_Near c_Till c_Kth c_Every c_Measure c_Calendar c_Sun)(c__law_cell_at:Cal P w K mg base 1 "_law_cell_at" ["_law_script","_law_k"] (spCell K))(c__law_rule:Cal P w K mg base 14 "_law_rule" ["_law_script"] (spRule67 K c_Rule [c_All,c_No,c_Each,c_Dated,c_Not,c_Both,c_Either,c_But,c_Unlike,c_Later,c_Upon,c_Until,c_Near,c_Till,c_Kth,c_Every]))(c_Rec_shown:CalL P w K mg base CX0 61 "shown" ["self"] ([c_All,c_No,c_Each,c_Dated,c_Not,c_Both,c_Either,c_But,c_Unlike,c_Later,c_Upon,c_Until,c_Near,c_Till,c_Kth,c_Every].map fun C=>(C,(spShown K c_Rule [c_All,c_No,c_Each,c_Dated,c_Not,c_Both,c_Either,c_But,c_Unlike,c_Later,c_Upon,c_Until,c_Near,c_Till,c_Kth,c_Every]) 60)))(c_shorter:Cal P w K mg base 66 "shorter" ["rule"] (spShorter K c_Rule [c_All,c_No,c_Each,c_Dated,c_Not,c_Both,c_Either,c_But,c_Unlike,c_Later,c_Upon,c_Until,c_Near,c_Till,c_Kth,c_Every]))(c__law_alike:Cal P w K mg base 3 "_law_alike" ["_law_rule_here","_law_found"] (spAlike67 K c_Rule [c_All,c_No,c_Each,c_Dated,c_Not,c_Both,c_Either,c_But,c_Unlike,c_Later,c_Upon,c_Until,c_Near,c_Till,c_Kth,c_Every]))(c_Rec_on:CalL P w K mg base CX0 2 "on" ["self","day"] ([c_All,c_No,c_Each,c_Dated,c_Not,c_Both,c_Either,c_But,c_Unlike,c_Later,c_Upon,c_Until,c_Near,c_Till,c_Kth,c_Every].map fun C=>(C,(spR (spOnM K c_Rule [c_All,c_No,c_Each,c_Dated,c_Not,c_Both,c_Either,c_But,c_Unlike,c_Later,c_Upon,c_Until,c_Near,c_Till,c_Kth,c_Every])) 1)))(c_Rec_turn:CalL P w K mg base CX0 2 "turn" ["self"] ([c_All,c_No,c_Each,c_Dated,c_Not,c_Both,c_Either,c_But,c_Unlike,c_Later,c_Upon,c_Until,c_Near,c_Till,c_Kth,c_Every].map fun C=>(C,(spR (spTurnM K c_Rule [c_All,c_No,c_Each,c_Dated,c_Not,c_Both,c_Either,c_But,c_Unlike,c_Later,c_Upon,c_Until,c_Near,c_Till,c_Kth,c_Every])) 1)))(c_Rec_parts:CalL P w K mg base CX0 61 "parts" ["self"] ([c_All,c_No,c_Each,c_Dated,c_Not,c_Both,c_Either,c_But,c_Unlike,c_Later,c_Upon,c_Until,c_Near,c_Till,c_Kth,c_Every].map fun C=>(C,(spParts K c_Rule [c_All,c_No,c_Each,c_Dated,c_Not,c_Both,c_Either,c_But,c_Unlike,c_Later,c_Upon,c_Until,c_Near,c_Till,c_Kth,c_Every]) 60)))(c__law_long:Cal P w K mg base 1 "_law_long" ["_law_turn","_law_size"] (spLong67 K))(c__law_one_part:Cal P w K mg base 1 "_law_one_part" ["_law_bits","_law_size"] spOneP67)(c__law_names:Cal P w K mg base 62 "_law_names" ["_law_rule_here"] (spNames67 K c_Rule [c_All,c_No,c_Each,c_Dated,c_Not,c_Both,c_Either,c_But,c_Unlike,c_Later,c_Upon,c_Until,c_Near,c_Till,c_Kth,c_Every]))(z_isinstance:mg "isinstance"=none)(z_len:mg "len"=none):FnOk P w K mg base CX0 67 f fd ["_law_script"] (spLaw K):=by
 refine F.ok (k:=66) sc_law (fun vs H Q E h=>?_) (fun cdv A outer s H vs Q E hr h=>?_)
 ·obtain⟨a,ns,rfl,_⟩:=h
  rfl
 obtain⟨a,ns,rfl,hS,h63,hB,q⟩:=h
 refine⟨_,(pss_cons (ps_set (i:=1) sc_law.nd rfl (by first | exact Or.inl rfl | exact Or.inr rfl) (pe_op op_sub (pe_op op_mod (pe_cal c__law_cell_at (hr.mono (by decide)) rfl (pa_cons (pv 0) (pa_cons pe_int pa_nil))) (pe_op op_pow pe_int pe_int)) (pe_op op_mulB pe_int (pe_op op_pow pe_int pe_int))))
  (pss_cons (ps_set (i:=2) sc_law.nd rfl (by first | exact Or.inl rfl | exact Or.inr rfl) (pe_cal c__law_rule (hr.mono (by decide)) rfl (pa_cons (pv 0) pa_nil)))
  (pss_cons (ps_set (i:=3) sc_law.nd rfl (by first | exact Or.inl rfl | exact Or.inr rfl) (pe_mcalL0 c_Rec_shown (hr.mono (by decide)) (pv 2)))
  (pss_cons (ps_set (i:=4) sc_law.nd rfl (by first | exact Or.inl rfl | exact Or.inr rfl) (pe_cal c_shorter (hr.mono (by decide)) rfl (pa_cons (pv 2) pa_nil)))
  (pss_cons (ps_if (pt_not (pt_val (pe_callB call_isiO rfl z_isinstance PyProof.Rows.boot_isinstance (pa_cons (pv 4) (pa_cons (pe_glob rfl er.m_Rule (rel_ref _)) pa_nil)))))
   (pss_one (ps_ret pe_bl))
   pss_nil)
  (pss_cons (ps_if (PW.pt (pw_or (pt_not (pt_val (pe_cal c__law_alike (hr.mono (by decide)) rfl (pa_cons (pv 2) (pa_cons (pv 4) pa_nil))))) (pw_or1 (pt_cmpR op_ne (pe_mcalL c_Rec_on (hr.mono (by decide)) (pv 4) (pa_cons (pv 1) pa_nil)) (pe_mcalL c_Rec_on (hr.mono (by decide)) (pv 2) (pa_cons (pv 1) pa_nil)) (nomark _)))))
   (pss_one (ps_ret pe_bl))
   pss_nil)
  (pss_cons (ps_asg (pe_mcalL0 c_Rec_turn (hr.mono (by decide)) (pv 2)) (pg_tup rfl (pgs_cons (pg_name (i:=5) sc_law.nd rfl (by first | exact Or.inl rfl | exact Or.inr rfl)) (pgs_cons (pg_name (i:=6) sc_law.nd rfl (by first | exact Or.inl rfl | exact Or.inr rfl)) pgs_nil))))
  (pss_cons (ps_set (i:=7) sc_law.nd rfl (by first | exact Or.inl rfl | exact Or.inr rfl) (pe_callB call_len_seq rfl z_len PySem.boot_len (pa_cons (pe_mcalL0 c_Rec_parts (hr.mono (by decide)) (pv 4)) pa_nil)))
  (pss_cons (ps_for PassesOwn.never rfl (pi_list (pe_mcalL0 c_Rec_parts (hr.mono (by decide)) (pv 2))) (pg_name (i:=8) sc_law.nd rfl (by first | exact Or.inl rfl | exact Or.inr rfl))
   (pss_one (ps_if (PW.pt (pw_and (pt_cmpR op_eq (pe_cal c__law_long (hr.mono (by decide)) rfl (pa_cons (pe_mcalL0 c_Rec_turn (hr.mono (by decide)) (pv 8)) (pa_cons (pv 5) pa_nil))) (pv 6) (nomark _)) (pw_and1 (pt_cmpR op_lt (pe_callB call_len_seq rfl z_len PySem.boot_len (pa_cons (pe_mcalL0 c_Rec_parts (hr.mono (by decide)) (pv 8)) pa_nil)) (pv 7) (nomark _)))))
   (pss_one (ps_ret pe_bl))
   pss_nil)))
  (pss_cons (ps_cut (ps_if (PW.pt (pw_and (pt_val (pe_cal c__law_one_part (hr.mono (by decide)) rfl (pa_cons (pv 6) (pa_cons (pv 5) pa_nil)))) (pw_and1 (pt_cmpR op_ne (pv 7) pe_int (nomark _)))))
   (pss_one (ps_ret pe_bl))
   pss_nil))
  (pss_cons (ps_set (i:=9) sc_law.nd rfl (by first | exact Or.inl rfl | exact Or.inr rfl) (pe_cal c__law_names (hr.mono (by decide)) rfl (pa_cons (pv 2) pa_nil)))
  (pss_cons (ps_for PassesOwn.never rfl (pi_list (pe_cal c__law_names (hr.mono (by decide)) rfl (pa_cons (pv 4) pa_nil))) (pg_name (i:=10) sc_law.nd rfl (by first | exact Or.inl rfl | exact Or.inr rfl))
   (pss_one (ps_if (pt_cmpR op_notIn_seq (pv 10) (pv 9) (by rfl))
   (pss_one (ps_ret pe_bl))
   pss_nil)))
  (pss_one (ps_ret (pe_cmpR op_eq (pe_mcalL0 c_Rec_shown (hr.mono (by decide)) (pv 2)) (pv 3) (nomark _)))))))))))))))),?_⟩
 walk_at "rdc"
 generalize ns.getD (Int.toNat 0) 0=c0
 rw[p39]
 refine rd_i ⟨64,200,bt_small (by omega) (by omega) (by decide),bt_of (by omega) (by omega),by decide⟩ ?_
 rw[p40]
 walk_at "rdc"
 generalize c0%10000000000000000000000000000000000000000-5*1000000000000000000000000000000000000000=dd
 refine⟨a,ns,rfl,hS,h63,fun t H1 s1 T sz kl=>?_⟩
 have dl':=t.deep_lt
 have n0:=T.rule.n0
 walk_at "rdc"
 obtain⟨C1,d1,_,_,_,hC1,_,hx1,_⟩:=T.node
 refine⟨t.adr,C1,d1,_,_,List.mem_map.mpr ⟨C1,hC1,rfl⟩,rfl,hx1,rfl,?_⟩
 walk_at "rdc"
 refine⟨t,rfl,T,by omega,by omega,fun H2 s2=>?_⟩
 have T2:=T.same s2
 walk_at "rdc"
 refine⟨t,rfl,T2,kl,sz,fun z c u H3 s3 L U LU dv pn mn one ul=>?_⟩
 have T3:=T2.same s3
 have m0:=U.rule.n0
 have ud:=u.deep_lt
 have St:Strt u.sz.toNat u.bits t.sz.toNat t.bits:=Strt.of2 L.st LU.st LU.dv (by omega)
 obtain⟨CT,ty,isr⟩:=U.rule.ty er.xsp er.xtk
 walk_at "rdc"
 refine rd_isiO ty isr ?_
 refine rd_bl ?_
 refine iteF ?_
 walk_at "rdc"
 refine⟨t,u,rfl,T3,U,sz,dv,St,fun H4 s4=>?_⟩
 have T4:=T3.same s4
 have U4:=U.same s4
 refine rd_bl ?_
 refine iteF ?_
 walk_at "rdc"
 obtain⟨C2,dr2,fs2,m2,hr2,_,_,l12⟩:=U4.rule.mt
 refine⟨u.adr,C2,dr2,fs2,_,m2 _,rfl,hr2,l12,?_⟩
 walk_at "rdc"
 refine⟨Nat.one_pos,u.adr,u.sz,dd,u.bits,rfl,U4.rule,?_⟩
 walk_at "rdc"
 obtain⟨C3,dr3,fs3,m3,hr3,_,_,l13⟩:=T4.rule.mt
 refine⟨t.adr,C3,dr3,fs3,_,m3 _,rfl,hr3,l13,?_⟩
 walk_at "rdc"
 refine⟨Nat.one_pos,t.adr,t.sz,dd,t.bits,rfl,T4.rule,?_⟩
 walk_at "rdc"
 refine iteNS (by rw[Strt.on m0 n0 dv St dd]) ?_
 walk_at "rdc"
 obtain⟨C4,dr4,fs4,m4,hr4,l14,_⟩:=T4.rule.mt
 refine⟨t.adr,C4,dr4,fs4,_,m4 _,rfl,hr4,l14,?_⟩
 walk_at "rdc"
 refine⟨Nat.one_pos,t.adr,t.sz,t.bits,rfl,T4.rule,fun p4 hp4=>?_⟩
 refine rd_gtup (SqT.of hp4) rfl ?_
 walk_at "rdc"
 obtain⟨C5,d5,_,_,_,hC5,_,hx5,_⟩:=U4.node
 refine⟨u.adr,C5,d5,_,_,List.mem_map.mpr ⟨C5,hC5,rfl⟩,rfl,hx5,rfl,?_⟩
 walk_at "rdc"
 refine⟨u,rfl,U4,by omega,by omega,fun l5 H5 hl5 s5 t5=>?_⟩
 have T5:=T4.same s5
 walk_at "rdc"
 refine⟨l5,_,rfl,.inl (SqL.of t5),?_⟩
 rw[List.length_map]
 walk_at "rdc"
 refine rd_for (rd_iL ?_)
 walk_at "rdc"
 obtain⟨C6,d6,_,_,_,hC6,_,hx6,_⟩:=T5.node
 refine⟨t.adr,C6,d6,_,_,List.mem_map.mpr ⟨C6,hC6,rfl⟩,rfl,hx6,rfl,?_⟩
 walk_at "rdc"
 refine⟨t,rfl,T5,by omega,by omega,fun l6 H6 hl6 s6 t6=>?_⟩
 have T6:=T5.same s6
 refine⟨l6,rfl,⟨_,SqL.of t6⟩,for_list (xs:=t.parts.map fun s=>V.ref s.adr) (fun i σ' H'=>Same H6 H'∧∃v,σ'=[some (.ref a),some (.int dd),some (.ref t.adr),some (.str t.text),some (.ref u.adr),some (.int t.sz),some (.int (t.bits:Int)),some (.int (u.parts.length:Int)),v,none,none]) ⟨Same.refl _,none,rfl⟩ ?_ ?_ ?_⟩
 ·rintro i σ' H' _ ⟨s,_⟩
  exact SqL.of (s _ _ t6)
 ·rintro i x σ' H' hx ⟨sH,v,rfl⟩
  rw[List.getElem?_map] at hx
  obtain⟨s,hs,rfl⟩:=Option.map_eq_some_iff.mp hx
  have sm:=List.mem_of_getElem? hs
  have S:=((T6.part sm).1).same sH
  have sd:=(T6.part sm).2
  have pl:=Tr.part_len sm
  have dls:=s.deep_lt
  have k0:=S.rule.n0
  walk_at "rdc"
  obtain⟨C7,dr7,fs7,m7,hr7,l17,_⟩:=S.rule.mt
  refine⟨s.adr,C7,dr7,fs7,_,m7 _,rfl,hr7,l17,?_⟩
  walk_at "rdc"
  refine⟨Nat.one_pos,s.adr,s.sz,s.bits,rfl,S.rule,fun p7 hp7=>?_⟩
  walk_at "rdc"
  refine⟨p7,s.sz,t.sz,s.bits,rfl,SqT.of hp7,k0,n0,sz,sd,S.rule.lt,fun c7 S7=>?_⟩
  walk_at "rdc"
  refine ite2d (fun e=>?_) (fun e=>?_)
  ·walk_at "rdc"
   obtain⟨C8,d8,_,_,_,hC8,_,hx8,_⟩:=S.node
   refine⟨s.adr,C8,d8,_,_,List.mem_map.mpr ⟨C8,hC8,rfl⟩,rfl,hx8,rfl,?_⟩
   walk_at "rdc"
   refine⟨s,rfl,S,by omega,by omega,fun l8 H8 hl8 s8 t8=>?_⟩
   walk_at "rdc"
   refine⟨l8,_,rfl,.inl (SqL.of t8),?_⟩
   rw[List.length_map]
   walk_at "rdc"
   have ec:c7=t.bits:=by have:=V.int.inj e;omega
   rw[ec] at S7
   have ds:s.sz.toNat∣t.sz.toNat:=Int.natCast_dvd_natCast.mp (by rw[show ((s.sz.toNat:Nat):Int)=s.sz by omega,show((t.sz.toNat:Nat):Int)=t.sz by omega];exact sd)
   have ml:=mn s sm (L.down S7 ds (by omega) (by omega) S.rule.lt)
   refine iteN (by omega) ?_
   walk_at "rdc"
   exact⟨sH.trans s8,_,rfl⟩
  ·refine iteF ?_
   walk_at "rdc"
   exact⟨sH,_,rfl⟩
 rintro σ' H7 ⟨s7,v8,rfl⟩
 have T7:=T6.same s7
 have U7:=U4.same (s5.trans (s6.trans s7))
 walk_at "rdc"
 refine rd_cut (fun σ' H'=>Same H7 H'∧σ'=[some (.ref a),some (.int dd),some (.ref t.adr),some (.str t.text),some (.ref u.adr),some (.int t.sz),some (.int (t.bits:Int)),some (.int (u.parts.length:Int)),v8,none,none]) ?_ ?_
 ·walk_at "rdc"
  refine⟨t.sz,t.bits,rfl,n0,sz,T.rule.lt,fun r H8 s8 hr'=>?_⟩
  walk_at "rdc"
  cases r with
  | true=>
   refine iteT ?_
   walk_at "rdc"
   refine iteNS (by rw[one (L.few (by omega) (hr' rfl))];rfl) ?_
   walk_at "rdc"
   exact⟨s8,rfl⟩
  | false=>
   refine iteF ?_
   refine iteF ?_
   walk_at "rdc"
   exact⟨s8,rfl⟩
 rintro σ' H8 ⟨s8,rfl⟩
 have T8:=T7.same s8
 have U8:=U7.same s8
 walk_at "rdc"
 refine⟨t,rfl,T8,kl,fun ln H9 hln s9 t9=>?_⟩
 have T9:=T8.same s9
 have U9:=U8.same s9
 walk_at "rdc"
 refine rd_for (rd_iL ?_)
 walk_at "rdc"
 refine⟨u,rfl,U9,ul,fun lu HA hlu sA tA=>?_⟩
 have TA:=T9.same sA
 refine⟨lu,rfl,⟨_,SqL.of tA⟩,for_list (xs:=(nmsT u).map V.str) (fun i σ' H'=>H'=HA∧∃v,σ'=[some (.ref a),some (.int dd),some (.ref t.adr),some (.str t.text),some (.ref u.adr),some (.int t.sz),some (.int (t.bits:Int)),some (.int (u.parts.length:Int)),v8,some (.ref ln),v]) ⟨rfl,none,rfl⟩ ?_ ?_ ?_⟩
 ·rintro i σ' H' _ ⟨rfl,_⟩
  exact SqL.of tA
 ·rintro i x σ' H' hx ⟨rfl,v,rfl⟩
  rw[List.getElem?_map] at hx
  obtain⟨z',hz,rfl⟩:=Option.map_eq_some_iff.mp hx
  have zm:z'∈nmsT t:=by
   have:=List.mem_of_getElem? hz
   rcases pn with h | h
   ·exact nms_sub h z' this
   ·rw[h] at this
    cases this
  walk_at "rdc"
  refine⟨ln,_,rfl,.inl (SqL.of (sA _ _ t9)),rfl,flat_strs _,?_⟩
  walk_at "rdc"
  rw[in_strs zm]
  refine iteF ?_
  walk_at "rdc"
  exact⟨rfl,_,rfl⟩
 rintro σ' H' ⟨rfl,v,rfl⟩
 walk_at "rdc"
 obtain⟨C9,d9,_,_,_,hC9,_,hx9,_⟩:=TA.node
 refine⟨t.adr,C9,d9,_,_,List.mem_map.mpr ⟨C9,hC9,rfl⟩,rfl,hx9,rfl,?_⟩
 walk_at "rdc"
 refine⟨t,rfl,TA,by omega,by omega,fun HB sB=>?_⟩
 walk_at "rdc"
 rw[decide_eq_true rfl]
 exact q _
end
theorem all_mk{l:PySem.W.OpenLaw}{w:World}{K:PySem.W.Frag}{h:Heap}{mg:Str→Option Value}{fa f17 f18 f42 f46 f51 f52 f64 f90:Addr}{c_FeastError c_NoNumber c_TooLong c_NoMeasure c_Rule c_All c_No c_Each c_Dated c_Not c_Both c_Either c_But c_Unlike c_Later c_Upon c_Until c_Near c_Till c_Kth c_Every c_Measure c_Calendar c_Sun:Addr}(X:K.In h)(G:h.Ns mainGlobals mg)(hfa:mg "law"=some (.ref fa))
 {od17 an17 od18 an18 od42 an42 od46 an46 od51 an51 od52 an52 od64 an64 od90 an90:Option Addr}{sl17 sl18 sl42 sl46 sl51 sl52 sl64 sl90:Array (Option Value)}{oc17 kV17 dc17 pm17 cd17 ct17 oc18 kV18 dc18 pm18 cd18 ct18 oc42 kV42 dc42 pm42 cd42 ct42 oc46 kV46 dc46 pm46 cd46 ct46 oc51 kV51 dc51 pm51 cd51 ct51 oc52 kV52 dc52 pm52 cd52 ct52 oc64 kV64 dc64 pm64 cd64 ct64 oc90 kV90 dc90 pm90 cd90 ct90:Value}{tk_LONGEST:Tok}{tk_PIECE:Tok}{tk_GREATEST_N:Tok}{tk_GREATEST_BASE:Tok}{tk_MOST_TERMS:Tok}{tk_MOST_MONTHS:Tok}{tk_LONGEST_MONTH:Tok}
 {T42:Addr}{to42:Value}{td42:Option Addr}{tn42:Nat}{ts42:Array (Option Value)}
 {T46:Addr}{to46:Value}{td46:Option Addr}{tn46:Nat}{ts46:Array (Option Value)}{tkd_Sun___init___0:Tok}
 {T51:Addr}{to51:Value}{td51:Option Addr}{tn51:Nat}{ts51:Array (Option Value)}{tkd_dated_2:Tok}{tkd_dated_3:Tok}
 {T52:Addr}{to52:Value}{td52:Option Addr}{tn52:Nat}{ts52:Array (Option Value)}
 {T64:Addr}{to64:Value}{td64:Option Addr}{tn64:Nat}{ts64:Array (Option Value)}{tkd_Dated___init___2:Tok}{tkd_Dated___init___3:Tok}
 (n_FeastError:PySem.W.nsIn K mainGlobals "FeastError"=some (some (.ref c_FeastError)))
 (n_NoNumber:PySem.W.nsIn K mainGlobals "NoNumber"=some (some (.ref c_NoNumber)))
 (n_TooLong:PySem.W.nsIn K mainGlobals "TooLong"=some (some (.ref c_TooLong)))
 (n_NoMeasure:PySem.W.nsIn K mainGlobals "NoMeasure"=some (some (.ref c_NoMeasure)))
 (n_Measure:PySem.W.nsIn K mainGlobals "Measure"=some (some (.ref c_Measure)))
 (pg_Measure:PySem.W.plainGet K c_Measure Str.empty=true)
 (k_Measure:PySem.W.hasDictIn K c_Measure=true)
 (po_Measure:PySem.W.plainOver K c_Measure=true)
 (sa_Measure:PySem.W.findIn K (.ref c_Measure) "__setattr__"=some (some (.builtin "object.__setattr__")))
 (mk_Measure:PySem.W.makesIn K c_Measure=true)
 (kp_Measure:PySem.W.keepIn K (.ref c_Measure)=true)
 (na_Measure_base:PySem.W.findIn K (.ref c_Measure) "base"=some none)
 (na_Measure_terms:PySem.W.findIn K (.ref c_Measure) "terms"=some none)
 (na_Measure_full_count:PySem.W.findIn K (.ref c_Measure) "full_count"=some none)
 (na_Measure_full_sum:PySem.W.findIn K (.ref c_Measure) "full_sum"=some none)
 (n_Sun:PySem.W.nsIn K mainGlobals "Sun"=some (some (.ref c_Sun)))
 (pg_Sun:PySem.W.plainGet K c_Sun Str.empty=true)
 (k_Sun:PySem.W.hasDictIn K c_Sun=true)
 (po_Sun:PySem.W.plainOver K c_Sun=true)
 (sa_Sun:PySem.W.findIn K (.ref c_Sun) "__setattr__"=some (some (.builtin "object.__setattr__")))
 (mk_Sun:PySem.W.makesIn K c_Sun=true)
 (kp_Sun:PySem.W.keepIn K (.ref c_Sun)=true)
 (na_Sun_start:PySem.W.findIn K (.ref c_Sun) "start"=some none)
 (na_Sun_months:PySem.W.findIn K (.ref c_Sun) "months"=some none)
 (na_Sun_leap:PySem.W.findIn K (.ref c_Sun) "leap"=some none)
 (na_Sun_years:PySem.W.findIn K (.ref c_Sun) "years"=some none)
 (n_Calendar:PySem.W.nsIn K mainGlobals "Calendar"=some (some (.ref c_Calendar)))
 (n_Rule:PySem.W.nsIn K mainGlobals "Rule"=some (some (.ref c_Rule)))
 (n_All:PySem.W.nsIn K mainGlobals "All"=some (some (.ref c_All)))
 (pg_All:PySem.W.plainGet K c_All Str.empty=true)
 (k_All:PySem.W.hasDictIn K c_All=true)
 (po_All:PySem.W.plainOver K c_All=true)
 (sa_All:PySem.W.findIn K (.ref c_All) "__setattr__"=some (some (.builtin "object.__setattr__")))
 (mk_All:PySem.W.makesIn K c_All=true)
 (kp_All:PySem.W.keepIn K (.ref c_All)=true)
 (na_All_kept:PySem.W.findIn K (.ref c_All) "kept"=some none)
 (na_All_made_of:PySem.W.findIn K (.ref c_All) "made_of"=some none)
 (na_All_words:PySem.W.findIn K (.ref c_All) "words"=some none)
 (ca_All:PySem.W.findIn K (.ref c_All) "__class__"=some (some (.builtin "object.__class__")))
 (ob_All:PySem.W.mroIn K c_All (.type "object")=some true)
 (i_All_Rule:PySem.W.kitOne K (.ref c_All) (.ref c_Rule)=some true)
 (n_No:PySem.W.nsIn K mainGlobals "No"=some (some (.ref c_No)))
 (pg_No:PySem.W.plainGet K c_No Str.empty=true)
 (k_No:PySem.W.hasDictIn K c_No=true)
 (po_No:PySem.W.plainOver K c_No=true)
 (sa_No:PySem.W.findIn K (.ref c_No) "__setattr__"=some (some (.builtin "object.__setattr__")))
 (mk_No:PySem.W.makesIn K c_No=true)
 (kp_No:PySem.W.keepIn K (.ref c_No)=true)
 (na_No_kept:PySem.W.findIn K (.ref c_No) "kept"=some none)
 (na_No_made_of:PySem.W.findIn K (.ref c_No) "made_of"=some none)
 (na_No_words:PySem.W.findIn K (.ref c_No) "words"=some none)
 (ca_No:PySem.W.findIn K (.ref c_No) "__class__"=some (some (.builtin "object.__class__")))
 (ob_No:PySem.W.mroIn K c_No (.type "object")=some true)
 (i_No_Rule:PySem.W.kitOne K (.ref c_No) (.ref c_Rule)=some true)
 (n_Each:PySem.W.nsIn K mainGlobals "Each"=some (some (.ref c_Each)))
 (pg_Each:PySem.W.plainGet K c_Each Str.empty=true)
 (k_Each:PySem.W.hasDictIn K c_Each=true)
 (po_Each:PySem.W.plainOver K c_Each=true)
 (sa_Each:PySem.W.findIn K (.ref c_Each) "__setattr__"=some (some (.builtin "object.__setattr__")))
 (mk_Each:PySem.W.makesIn K c_Each=true)
 (kp_Each:PySem.W.keepIn K (.ref c_Each)=true)
 (na_Each_kept:PySem.W.findIn K (.ref c_Each) "kept"=some none)
 (na_Each_made_of:PySem.W.findIn K (.ref c_Each) "made_of"=some none)
 (na_Each_words:PySem.W.findIn K (.ref c_Each) "words"=some none)
 (ca_Each:PySem.W.findIn K (.ref c_Each) "__class__"=some (some (.builtin "object.__class__")))
 (ob_Each:PySem.W.mroIn K c_Each (.type "object")=some true)
 (i_Each_Rule:PySem.W.kitOne K (.ref c_Each) (.ref c_Rule)=some true)
 (n_Dated:PySem.W.nsIn K mainGlobals "Dated"=some (some (.ref c_Dated)))
 (pg_Dated:PySem.W.plainGet K c_Dated Str.empty=true)
 (k_Dated:PySem.W.hasDictIn K c_Dated=true)
 (po_Dated:PySem.W.plainOver K c_Dated=true)
 (sa_Dated:PySem.W.findIn K (.ref c_Dated) "__setattr__"=some (some (.builtin "object.__setattr__")))
 (mk_Dated:PySem.W.makesIn K c_Dated=true)
 (kp_Dated:PySem.W.keepIn K (.ref c_Dated)=true)
 (na_Dated_kept:PySem.W.findIn K (.ref c_Dated) "kept"=some none)
 (na_Dated_made_of:PySem.W.findIn K (.ref c_Dated) "made_of"=some none)
 (na_Dated_words:PySem.W.findIn K (.ref c_Dated) "words"=some none)
 (ca_Dated:PySem.W.findIn K (.ref c_Dated) "__class__"=some (some (.builtin "object.__class__")))
 (ob_Dated:PySem.W.mroIn K c_Dated (.type "object")=some true)
 (i_Dated_Rule:PySem.W.kitOne K (.ref c_Dated) (.ref c_Rule)=some true)
 (n_Not:PySem.W.nsIn K mainGlobals "Not"=some (some (.ref c_Not)))
 (pg_Not:PySem.W.plainGet K c_Not Str.empty=true)
 (k_Not:PySem.W.hasDictIn K c_Not=true)
 (po_Not:PySem.W.plainOver K c_Not=true)
 (sa_Not:PySem.W.findIn K (.ref c_Not) "__setattr__"=some (some (.builtin "object.__setattr__")))
 (mk_Not:PySem.W.makesIn K c_Not=true)
 (kp_Not:PySem.W.keepIn K (.ref c_Not)=true)
 (na_Not_kept:PySem.W.findIn K (.ref c_Not) "kept"=some none)
 (na_Not_made_of:PySem.W.findIn K (.ref c_Not) "made_of"=some none)
 (na_Not_words:PySem.W.findIn K (.ref c_Not) "words"=some none)
 (ca_Not:PySem.W.findIn K (.ref c_Not) "__class__"=some (some (.builtin "object.__class__")))
 (ob_Not:PySem.W.mroIn K c_Not (.type "object")=some true)
 (i_Not_Rule:PySem.W.kitOne K (.ref c_Not) (.ref c_Rule)=some true)
 (n_Both:PySem.W.nsIn K mainGlobals "Both"=some (some (.ref c_Both)))
 (pg_Both:PySem.W.plainGet K c_Both Str.empty=true)
 (k_Both:PySem.W.hasDictIn K c_Both=true)
 (po_Both:PySem.W.plainOver K c_Both=true)
 (sa_Both:PySem.W.findIn K (.ref c_Both) "__setattr__"=some (some (.builtin "object.__setattr__")))
 (mk_Both:PySem.W.makesIn K c_Both=true)
 (kp_Both:PySem.W.keepIn K (.ref c_Both)=true)
 (na_Both_kept:PySem.W.findIn K (.ref c_Both) "kept"=some none)
 (na_Both_made_of:PySem.W.findIn K (.ref c_Both) "made_of"=some none)
 (na_Both_words:PySem.W.findIn K (.ref c_Both) "words"=some none)
 (ca_Both:PySem.W.findIn K (.ref c_Both) "__class__"=some (some (.builtin "object.__class__")))
 (ob_Both:PySem.W.mroIn K c_Both (.type "object")=some true)
 (i_Both_Rule:PySem.W.kitOne K (.ref c_Both) (.ref c_Rule)=some true)
 (n_Either:PySem.W.nsIn K mainGlobals "Either"=some (some (.ref c_Either)))
 (pg_Either:PySem.W.plainGet K c_Either Str.empty=true)
 (k_Either:PySem.W.hasDictIn K c_Either=true)
 (po_Either:PySem.W.plainOver K c_Either=true)
 (sa_Either:PySem.W.findIn K (.ref c_Either) "__setattr__"=some (some (.builtin "object.__setattr__")))
 (mk_Either:PySem.W.makesIn K c_Either=true)
 (kp_Either:PySem.W.keepIn K (.ref c_Either)=true)
 (na_Either_kept:PySem.W.findIn K (.ref c_Either) "kept"=some none)
 (na_Either_made_of:PySem.W.findIn K (.ref c_Either) "made_of"=some none)
 (na_Either_words:PySem.W.findIn K (.ref c_Either) "words"=some none)
 (ca_Either:PySem.W.findIn K (.ref c_Either) "__class__"=some (some (.builtin "object.__class__")))
 (ob_Either:PySem.W.mroIn K c_Either (.type "object")=some true)
 (i_Either_Rule:PySem.W.kitOne K (.ref c_Either) (.ref c_Rule)=some true)
 (n_But:PySem.W.nsIn K mainGlobals "But"=some (some (.ref c_But)))
 (pg_But:PySem.W.plainGet K c_But Str.empty=true)
 (k_But:PySem.W.hasDictIn K c_But=true)
 (po_But:PySem.W.plainOver K c_But=true)
 (sa_But:PySem.W.findIn K (.ref c_But) "__setattr__"=some (some (.builtin "object.__setattr__")))
 (mk_But:PySem.W.makesIn K c_But=true)
 (kp_But:PySem.W.keepIn K (.ref c_But)=true)
 (na_But_kept:PySem.W.findIn K (.ref c_But) "kept"=some none)
 (na_But_made_of:PySem.W.findIn K (.ref c_But) "made_of"=some none)
 (na_But_words:PySem.W.findIn K (.ref c_But) "words"=some none)
 (ca_But:PySem.W.findIn K (.ref c_But) "__class__"=some (some (.builtin "object.__class__")))
 (ob_But:PySem.W.mroIn K c_But (.type "object")=some true)
 (i_But_Rule:PySem.W.kitOne K (.ref c_But) (.ref c_Rule)=some true)
 (n_Unlike:PySem.W.nsIn K mainGlobals "Unlike"=some (some (.ref c_Unlike)))
 (pg_Unlike:PySem.W.plainGet K c_Unlike Str.empty=true)
 (k_Unlike:PySem.W.hasDictIn K c_Unlike=true)
 (po_Unlike:PySem.W.plainOver K c_Unlike=true)
 (sa_Unlike:PySem.W.findIn K (.ref c_Unlike) "__setattr__"=some (some (.builtin "object.__setattr__")))
 (mk_Unlike:PySem.W.makesIn K c_Unlike=true)
 (kp_Unlike:PySem.W.keepIn K (.ref c_Unlike)=true)
 (na_Unlike_kept:PySem.W.findIn K (.ref c_Unlike) "kept"=some none)
 (na_Unlike_made_of:PySem.W.findIn K (.ref c_Unlike) "made_of"=some none)
 (na_Unlike_words:PySem.W.findIn K (.ref c_Unlike) "words"=some none)
 (ca_Unlike:PySem.W.findIn K (.ref c_Unlike) "__class__"=some (some (.builtin "object.__class__")))
 (ob_Unlike:PySem.W.mroIn K c_Unlike (.type "object")=some true)
 (i_Unlike_Rule:PySem.W.kitOne K (.ref c_Unlike) (.ref c_Rule)=some true)
 (n_Later:PySem.W.nsIn K mainGlobals "Later"=some (some (.ref c_Later)))
 (pg_Later:PySem.W.plainGet K c_Later Str.empty=true)
 (k_Later:PySem.W.hasDictIn K c_Later=true)
 (po_Later:PySem.W.plainOver K c_Later=true)
 (sa_Later:PySem.W.findIn K (.ref c_Later) "__setattr__"=some (some (.builtin "object.__setattr__")))
 (mk_Later:PySem.W.makesIn K c_Later=true)
 (kp_Later:PySem.W.keepIn K (.ref c_Later)=true)
 (na_Later_kept:PySem.W.findIn K (.ref c_Later) "kept"=some none)
 (na_Later_made_of:PySem.W.findIn K (.ref c_Later) "made_of"=some none)
 (na_Later_words:PySem.W.findIn K (.ref c_Later) "words"=some none)
 (ca_Later:PySem.W.findIn K (.ref c_Later) "__class__"=some (some (.builtin "object.__class__")))
 (ob_Later:PySem.W.mroIn K c_Later (.type "object")=some true)
 (i_Later_Rule:PySem.W.kitOne K (.ref c_Later) (.ref c_Rule)=some true)
 (n_Upon:PySem.W.nsIn K mainGlobals "Upon"=some (some (.ref c_Upon)))
 (pg_Upon:PySem.W.plainGet K c_Upon Str.empty=true)
 (k_Upon:PySem.W.hasDictIn K c_Upon=true)
 (po_Upon:PySem.W.plainOver K c_Upon=true)
 (sa_Upon:PySem.W.findIn K (.ref c_Upon) "__setattr__"=some (some (.builtin "object.__setattr__")))
 (mk_Upon:PySem.W.makesIn K c_Upon=true)
 (kp_Upon:PySem.W.keepIn K (.ref c_Upon)=true)
 (na_Upon_kept:PySem.W.findIn K (.ref c_Upon) "kept"=some none)
 (na_Upon_made_of:PySem.W.findIn K (.ref c_Upon) "made_of"=some none)
 (na_Upon_words:PySem.W.findIn K (.ref c_Upon) "words"=some none)
 (ca_Upon:PySem.W.findIn K (.ref c_Upon) "__class__"=some (some (.builtin "object.__class__")))
 (ob_Upon:PySem.W.mroIn K c_Upon (.type "object")=some true)
 (i_Upon_Rule:PySem.W.kitOne K (.ref c_Upon) (.ref c_Rule)=some true)
 (n_Until:PySem.W.nsIn K mainGlobals "Until"=some (some (.ref c_Until)))
 (pg_Until:PySem.W.plainGet K c_Until Str.empty=true)
 (k_Until:PySem.W.hasDictIn K c_Until=true)
 (po_Until:PySem.W.plainOver K c_Until=true)
 (sa_Until:PySem.W.findIn K (.ref c_Until) "__setattr__"=some (some (.builtin "object.__setattr__")))
 (mk_Until:PySem.W.makesIn K c_Until=true)
 (kp_Until:PySem.W.keepIn K (.ref c_Until)=true)
 (na_Until_kept:PySem.W.findIn K (.ref c_Until) "kept"=some none)
 (na_Until_made_of:PySem.W.findIn K (.ref c_Until) "made_of"=some none)
 (na_Until_words:PySem.W.findIn K (.ref c_Until) "words"=some none)
 (ca_Until:PySem.W.findIn K (.ref c_Until) "__class__"=some (some (.builtin "object.__class__")))
 (ob_Until:PySem.W.mroIn K c_Until (.type "object")=some true)
 (i_Until_Rule:PySem.W.kitOne K (.ref c_Until) (.ref c_Rule)=some true)
 (n_Near:PySem.W.nsIn K mainGlobals "Near"=some (some (.ref c_Near)))
 (pg_Near:PySem.W.plainGet K c_Near Str.empty=true)
 (k_Near:PySem.W.hasDictIn K c_Near=true)
 (po_Near:PySem.W.plainOver K c_Near=true)
 (sa_Near:PySem.W.findIn K (.ref c_Near) "__setattr__"=some (some (.builtin "object.__setattr__")))
 (mk_Near:PySem.W.makesIn K c_Near=true)
 (kp_Near:PySem.W.keepIn K (.ref c_Near)=true)
 (na_Near_kept:PySem.W.findIn K (.ref c_Near) "kept"=some none)
 (na_Near_made_of:PySem.W.findIn K (.ref c_Near) "made_of"=some none)
 (na_Near_words:PySem.W.findIn K (.ref c_Near) "words"=some none)
 (ca_Near:PySem.W.findIn K (.ref c_Near) "__class__"=some (some (.builtin "object.__class__")))
 (ob_Near:PySem.W.mroIn K c_Near (.type "object")=some true)
 (i_Near_Rule:PySem.W.kitOne K (.ref c_Near) (.ref c_Rule)=some true)
 (n_Till:PySem.W.nsIn K mainGlobals "Till"=some (some (.ref c_Till)))
 (pg_Till:PySem.W.plainGet K c_Till Str.empty=true)
 (k_Till:PySem.W.hasDictIn K c_Till=true)
 (po_Till:PySem.W.plainOver K c_Till=true)
 (sa_Till:PySem.W.findIn K (.ref c_Till) "__setattr__"=some (some (.builtin "object.__setattr__")))
 (mk_Till:PySem.W.makesIn K c_Till=true)
 (kp_Till:PySem.W.keepIn K (.ref c_Till)=true)
 (na_Till_kept:PySem.W.findIn K (.ref c_Till) "kept"=some none)
 (na_Till_made_of:PySem.W.findIn K (.ref c_Till) "made_of"=some none)
 (na_Till_words:PySem.W.findIn K (.ref c_Till) "words"=some none)
 (ca_Till:PySem.W.findIn K (.ref c_Till) "__class__"=some (some (.builtin "object.__class__")))
 (ob_Till:PySem.W.mroIn K c_Till (.type "object")=some true)
 (i_Till_Rule:PySem.W.kitOne K (.ref c_Till) (.ref c_Rule)=some true)
 (n_Kth:PySem.W.nsIn K mainGlobals "Kth"=some (some (.ref c_Kth)))
 (pg_Kth:PySem.W.plainGet K c_Kth Str.empty=true)
 (k_Kth:PySem.W.hasDictIn K c_Kth=true)
 (po_Kth:PySem.W.plainOver K c_Kth=true)
 (sa_Kth:PySem.W.findIn K (.ref c_Kth) "__setattr__"=some (some (.builtin "object.__setattr__")))
 (mk_Kth:PySem.W.makesIn K c_Kth=true)
 (kp_Kth:PySem.W.keepIn K (.ref c_Kth)=true)
 (na_Kth_kept:PySem.W.findIn K (.ref c_Kth) "kept"=some none)
 (na_Kth_made_of:PySem.W.findIn K (.ref c_Kth) "made_of"=some none)
 (na_Kth_words:PySem.W.findIn K (.ref c_Kth) "words"=some none)
 (ca_Kth:PySem.W.findIn K (.ref c_Kth) "__class__"=some (some (.builtin "object.__class__")))
 (ob_Kth:PySem.W.mroIn K c_Kth (.type "object")=some true)
 (i_Kth_Rule:PySem.W.kitOne K (.ref c_Kth) (.ref c_Rule)=some true)
 (n_Every:PySem.W.nsIn K mainGlobals "Every"=some (some (.ref c_Every)))
 (pg_Every:PySem.W.plainGet K c_Every Str.empty=true)
 (k_Every:PySem.W.hasDictIn K c_Every=true)
 (po_Every:PySem.W.plainOver K c_Every=true)
 (sa_Every:PySem.W.findIn K (.ref c_Every) "__setattr__"=some (some (.builtin "object.__setattr__")))
 (mk_Every:PySem.W.makesIn K c_Every=true)
 (kp_Every:PySem.W.keepIn K (.ref c_Every)=true)
 (na_Every_kept:PySem.W.findIn K (.ref c_Every) "kept"=some none)
 (na_Every_made_of:PySem.W.findIn K (.ref c_Every) "made_of"=some none)
 (na_Every_words:PySem.W.findIn K (.ref c_Every) "words"=some none)
 (ca_Every:PySem.W.findIn K (.ref c_Every) "__class__"=some (some (.builtin "object.__class__")))
 (ob_Every:PySem.W.mroIn K c_Every (.type "object")=some true)
 (i_Every_Rule:PySem.W.kitOne K (.ref c_Every) (.ref c_Rule)=some true)
 (bsp_Rule:PySem.W.specialIn K (.ref c_Rule) "__getattribute__"=some (some (.builtin "type.__getattribute__")))
 (brd_Rule:PySem.W.readsIn K c_Rule (.type "type")=true)
 (xsp:PySem.W.specialIn K (.builtin "object.__class__") "__get__"=some (some (.builtin "getset_descriptor.__get__")))
 (xtk:PySem.W.takesIn K (.builtin "object.__class__")=some true)
 (q0:FnG K "refuse_below_one" "refuse_below_one" "refuse_below_one" s_refuse_below_one)
 (q1:FnG K "refuse_too_long" "refuse_too_long" "refuse_too_long" s_refuse_too_long)
 (q2:FnG K "equation" "equation" "equation" s_equation)
 (q3:FnG K "divisor" "divisor" "divisor" s_divisor)
 (q4:FnG K "common" "common" "common" s_common)
 (q5:FnG K "round_by" "round_by" "round_by" s_round_by)
 (q6:FnG K "full_bits" "full_bits" "full_bits" s_full_bits)
 (q7:FnG K "on" "on" "on" s_on)
 (q8:FnG K "on_rounds" "on" "on" s_on)
 (q9:FnG K "days_in" "days_in" "days_in" s_days_in)
 (q10:FnG K "bits_by" "bits_by" "bits_by" s_bits_by)
 (q11:FnG K "stretched" "stretched" "stretched" s_stretched)
 (q12:FnG K "primes_of" "primes_of" "primes_of" s_primes_of)
 (q13:FnG K "comes_again" "comes_again" "comes_again" s_comes_again)
 (q14:FnG K "least" "least" "least" s_least)
 (q15:FnG K "common_size" "common_size" "common_size" s_common_size)
 (q16:FnG K "both" "both" "both" s_both)
 (a17:PySem.W.nsIn K mainGlobals "either"=some (some (.ref f17)))(l17:K.lookup f17=some ⟨oc17,od17,.func (PySem.W.fnOf "either" "either" (defArgs s_either) (defBody s_either) (defScope s_either) .none kV17 dc17 pm17 an17 cd17 ct17),sl17⟩)(c17:PySem.W.codeIn K cd17 "either"=true)(k17:PySem.W.keepIn K (.ref f17)=true)
 (a18:PySem.W.nsIn K mainGlobals "unlike"=some (some (.ref f18)))(l18:K.lookup f18=some ⟨oc18,od18,.func (PySem.W.fnOf "unlike" "unlike" (defArgs s_unlike) (defBody s_unlike) (defScope s_unlike) .none kV18 dc18 pm18 an18 cd18 ct18),sl18⟩)(c18:PySem.W.codeIn K cd18 "unlike"=true)(k18:PySem.W.keepIn K (.ref f18)=true)
 (q19:FnG K "other_days" "other_days" "other_days" s_other_days)
 (q20:FnG K "without" "without" "without" s_without)
 (q21:FnG K "later" "later" "later" s_later)
 (q22:FnG K "refuse_wanted" "refuse_wanted" "refuse_wanted" s_refuse_wanted)
 (q23:FnG K "days_of_month" "days_of_month" "days_of_month" s_days_of_month)
 (q24:FnG K "ones_in" "ones_in" "ones_in" s_ones_in)
 (q25:FnG K "days_ahead" "days_ahead" "days_ahead" s_days_ahead)
 (q26:FnG K "how_many" "how_many" "how_many" s_how_many)
 (q27:FnG K "gathered" "gathered" "gathered" s_gathered)
 (q28:FnG K "upon" "upon" "upon" s_upon)
 (q29:FnG K "until" "until" "until" s_until)
 (q30:FnG K "till" "till" "till" s_till)
 (q31:FnG K "nearer_ahead" "nearer_ahead" "nearer_ahead" s_nearer_ahead)
 (q32:FnG K "near" "near" "near" s_near)
 (q33:FnG K "kth" "kth" "kth" s_kth)
 (q34:FnG K "every" "every" "every" s_every)
 (q35:FnG K "term_on" "term_on" "term_on" s_term_on)
 (q36:FnG K "signs_upto" "signs_upto" "signs_upto" s_signs_upto)
 (q37:FnG K "is_term" "is_term" "is_term" s_is_term)
 (q38:FnG K "least_length" "least_length" "least_length" s_least_length)
 (q39:FnG K "refuse_measure" "refuse_measure" "refuse_measure" s_refuse_measure)
 (q40:FnG K "period_of" "period_of" "period_of" s_period_of)
 (q41:FnM K c_Measure "upto" "upto" "Measure.upto" s_Measure_upto)
 (a42:PySem.W.findIn K (.ref c_Measure) "__init__"=some (some (.ref f42)))(l42:K.lookup f42=some ⟨oc42,od42,.func (PySem.W.fnOf "__init__" "Measure.__init__" (defArgs s_Measure___init__) (defBody s_Measure___init__) (defScope s_Measure___init__) (.ref T42) kV42 dc42 pm42 an42 cd42 ct42),sl42⟩)(c42:PySem.W.codeIn K cd42 "Measure.__init__"=true)(k42:PySem.W.keepIn K (.ref f42)=true)
 (t42:K.lookup T42=some ⟨to42,td42,.seq #[.none] tn42,ts42⟩)
 (u42:PySem.W.typeIn K (.ref f42)=some (.type "function"))
 (q43:FnM K c_Measure "at" "at" "Measure.at" s_Measure_at)
 (q44:FnM K c_Measure "period" "period" "Measure.period" s_Measure_period)
 (q45:FnG K "refuse_months" "refuse_months" "refuse_months" s_refuse_months)
 (a46:PySem.W.findIn K (.ref c_Sun) "__init__"=some (some (.ref f46)))(l46:K.lookup f46=some ⟨oc46,od46,.func (PySem.W.fnOf "__init__" "Sun.__init__" (defArgs s_Sun___init__) (defBody s_Sun___init__) (defScope s_Sun___init__) (.ref T46) kV46 dc46 pm46 an46 cd46 ct46),sl46⟩)(c46:PySem.W.codeIn K cd46 "Sun.__init__"=true)(k46:PySem.W.keepIn K (.ref f46)=true)
 (t46:K.lookup T46=some ⟨to46,td46,.seq #[(.int 1 tkd_Sun___init___0),.none] tn46,ts46⟩)
 (u46:PySem.W.typeIn K (.ref f46)=some (.type "function"))
 (q47:FnM K c_Sun "year_start" "year_start" "Sun.year_start" s_Sun_year_start)
 (q48:FnM K c_Sun "lengths" "lengths" "Sun.lengths" s_Sun_lengths)
 (q49:FnM K c_Sun "cycle" "cycle" "Sun.cycle" s_Sun_cycle)
 (q50:FnG K "days_of_year" "days_of_year" "days_of_year" s_days_of_year)
 (a51:PySem.W.nsIn K mainGlobals "dated"=some (some (.ref f51)))(l51:K.lookup f51=some ⟨oc51,od51,.func (PySem.W.fnOf "dated" "dated" (defArgs s_dated) (defBody s_dated) (defScope s_dated) (.ref T51) kV51 dc51 pm51 an51 cd51 ct51),sl51⟩)(c51:PySem.W.codeIn K cd51 "dated"=true)(k51:PySem.W.keepIn K (.ref f51)=true)
 (t51:K.lookup T51=some ⟨to51,td51,.seq #[.none,.none,(.int 1 tkd_dated_2),(.int 0 tkd_dated_3)] tn51,ts51⟩)
 (a52:PySem.W.findIn K (.ref c_Rule) "__init__"=some (some (.ref f52)))(l52:K.lookup f52=some ⟨oc52,od52,.func (PySem.W.fnOf "__init__" "Rule.__init__" (defArgs s_Rule___init__) (defBody s_Rule___init__) (defScope s_Rule___init__) (.ref T52) kV52 dc52 pm52 an52 cd52 ct52),sl52⟩)(c52:PySem.W.codeIn K cd52 "Rule.__init__"=true)(k52:PySem.W.keepIn K (.ref f52)=true)
 (t52:K.lookup T52=some ⟨to52,td52,.seq #[.none,.none,.none] tn52,ts52⟩)
 (bfc52:PySem.W.findCls K (.ref c_Rule) (.type "type") "__init__"=some (.val (.ref f52)))
 (q53_0:FnM K c_All "on" "on" "Rule.on" s_Rule_on)
 (q53_1:FnM K c_No "on" "on" "Rule.on" s_Rule_on)
 (q53_2:FnM K c_Each "on" "on" "Rule.on" s_Rule_on)
 (q53_3:FnM K c_Dated "on" "on" "Rule.on" s_Rule_on)
 (q53_4:FnM K c_Not "on" "on" "Rule.on" s_Rule_on)
 (q53_5:FnM K c_Both "on" "on" "Rule.on" s_Rule_on)
 (q53_6:FnM K c_Either "on" "on" "Rule.on" s_Rule_on)
 (q53_7:FnM K c_But "on" "on" "Rule.on" s_Rule_on)
 (q53_8:FnM K c_Unlike "on" "on" "Rule.on" s_Rule_on)
 (q53_9:FnM K c_Later "on" "on" "Rule.on" s_Rule_on)
 (q53_10:FnM K c_Upon "on" "on" "Rule.on" s_Rule_on)
 (q53_11:FnM K c_Until "on" "on" "Rule.on" s_Rule_on)
 (q53_12:FnM K c_Near "on" "on" "Rule.on" s_Rule_on)
 (q53_13:FnM K c_Till "on" "on" "Rule.on" s_Rule_on)
 (q53_14:FnM K c_Kth "on" "on" "Rule.on" s_Rule_on)
 (q53_15:FnM K c_Every "on" "on" "Rule.on" s_Rule_on)
 (q54_0:FnM K c_All "size" "size" "Rule.size" s_Rule_size)
 (q54_1:FnM K c_No "size" "size" "Rule.size" s_Rule_size)
 (q54_2:FnM K c_Each "size" "size" "Rule.size" s_Rule_size)
 (q54_3:FnM K c_Dated "size" "size" "Rule.size" s_Rule_size)
 (q54_4:FnM K c_Not "size" "size" "Rule.size" s_Rule_size)
 (q54_5:FnM K c_Both "size" "size" "Rule.size" s_Rule_size)
 (q54_6:FnM K c_Either "size" "size" "Rule.size" s_Rule_size)
 (q54_7:FnM K c_But "size" "size" "Rule.size" s_Rule_size)
 (q54_8:FnM K c_Unlike "size" "size" "Rule.size" s_Rule_size)
 (q54_9:FnM K c_Later "size" "size" "Rule.size" s_Rule_size)
 (q54_10:FnM K c_Upon "size" "size" "Rule.size" s_Rule_size)
 (q54_11:FnM K c_Until "size" "size" "Rule.size" s_Rule_size)
 (q54_12:FnM K c_Near "size" "size" "Rule.size" s_Rule_size)
 (q54_13:FnM K c_Till "size" "size" "Rule.size" s_Rule_size)
 (q54_14:FnM K c_Kth "size" "size" "Rule.size" s_Rule_size)
 (q54_15:FnM K c_Every "size" "size" "Rule.size" s_Rule_size)
 (q55_0:FnM K c_All "turn" "turn" "Rule.turn" s_Rule_turn)
 (q55_1:FnM K c_No "turn" "turn" "Rule.turn" s_Rule_turn)
 (q55_2:FnM K c_Each "turn" "turn" "Rule.turn" s_Rule_turn)
 (q55_3:FnM K c_Dated "turn" "turn" "Rule.turn" s_Rule_turn)
 (q55_4:FnM K c_Not "turn" "turn" "Rule.turn" s_Rule_turn)
 (q55_5:FnM K c_Both "turn" "turn" "Rule.turn" s_Rule_turn)
 (q55_6:FnM K c_Either "turn" "turn" "Rule.turn" s_Rule_turn)
 (q55_7:FnM K c_But "turn" "turn" "Rule.turn" s_Rule_turn)
 (q55_8:FnM K c_Unlike "turn" "turn" "Rule.turn" s_Rule_turn)
 (q55_9:FnM K c_Later "turn" "turn" "Rule.turn" s_Rule_turn)
 (q55_10:FnM K c_Upon "turn" "turn" "Rule.turn" s_Rule_turn)
 (q55_11:FnM K c_Until "turn" "turn" "Rule.turn" s_Rule_turn)
 (q55_12:FnM K c_Near "turn" "turn" "Rule.turn" s_Rule_turn)
 (q55_13:FnM K c_Till "turn" "turn" "Rule.turn" s_Rule_turn)
 (q55_14:FnM K c_Kth "turn" "turn" "Rule.turn" s_Rule_turn)
 (q55_15:FnM K c_Every "turn" "turn" "Rule.turn" s_Rule_turn)
 (q56_0:FnM K c_All "parts" "parts" "Rule.parts" s_Rule_parts)
 (q56_1:FnM K c_No "parts" "parts" "Rule.parts" s_Rule_parts)
 (q56_2:FnM K c_Each "parts" "parts" "Rule.parts" s_Rule_parts)
 (q56_3:FnM K c_Dated "parts" "parts" "Rule.parts" s_Rule_parts)
 (q56_4:FnM K c_Not "parts" "parts" "Rule.parts" s_Rule_parts)
 (q56_5:FnM K c_Both "parts" "parts" "Rule.parts" s_Rule_parts)
 (q56_6:FnM K c_Either "parts" "parts" "Rule.parts" s_Rule_parts)
 (q56_7:FnM K c_But "parts" "parts" "Rule.parts" s_Rule_parts)
 (q56_8:FnM K c_Unlike "parts" "parts" "Rule.parts" s_Rule_parts)
 (q56_9:FnM K c_Later "parts" "parts" "Rule.parts" s_Rule_parts)
 (q56_10:FnM K c_Upon "parts" "parts" "Rule.parts" s_Rule_parts)
 (q56_11:FnM K c_Until "parts" "parts" "Rule.parts" s_Rule_parts)
 (q56_12:FnM K c_Near "parts" "parts" "Rule.parts" s_Rule_parts)
 (q56_13:FnM K c_Till "parts" "parts" "Rule.parts" s_Rule_parts)
 (q56_14:FnM K c_Kth "parts" "parts" "Rule.parts" s_Rule_parts)
 (q56_15:FnM K c_Every "parts" "parts" "Rule.parts" s_Rule_parts)
 (q57_0:FnM K c_All "shown" "shown" "Rule.shown" s_Rule_shown)
 (q57_1:FnM K c_No "shown" "shown" "Rule.shown" s_Rule_shown)
 (q57_2:FnM K c_Each "shown" "shown" "Rule.shown" s_Rule_shown)
 (q57_3:FnM K c_Dated "shown" "shown" "Rule.shown" s_Rule_shown)
 (q57_4:FnM K c_Not "shown" "shown" "Rule.shown" s_Rule_shown)
 (q57_5:FnM K c_Both "shown" "shown" "Rule.shown" s_Rule_shown)
 (q57_6:FnM K c_Either "shown" "shown" "Rule.shown" s_Rule_shown)
 (q57_7:FnM K c_But "shown" "shown" "Rule.shown" s_Rule_shown)
 (q57_8:FnM K c_Unlike "shown" "shown" "Rule.shown" s_Rule_shown)
 (q57_9:FnM K c_Later "shown" "shown" "Rule.shown" s_Rule_shown)
 (q57_10:FnM K c_Upon "shown" "shown" "Rule.shown" s_Rule_shown)
 (q57_11:FnM K c_Until "shown" "shown" "Rule.shown" s_Rule_shown)
 (q57_12:FnM K c_Near "shown" "shown" "Rule.shown" s_Rule_shown)
 (q57_13:FnM K c_Till "shown" "shown" "Rule.shown" s_Rule_shown)
 (q57_14:FnM K c_Kth "shown" "shown" "Rule.shown" s_Rule_shown)
 (q57_15:FnM K c_Every "shown" "shown" "Rule.shown" s_Rule_shown)
 (q58:FnM K c_All "__init__" "__init__" "All.__init__" s_All___init__)
 (q59:FnM K c_No "__init__" "__init__" "No.__init__" s_No___init__)
 (q60:FnG K "each_text" "each_text" "each_text" s_each_text)
 (q61:FnM K c_Each "__init__" "__init__" "Each.__init__" s_Each___init__)
 (q62:FnG K "wanted_text" "wanted_text" "wanted_text" s_wanted_text)
 (q63:FnG K "dated_text" "dated_text" "dated_text" s_dated_text)
 (a64:PySem.W.findIn K (.ref c_Dated) "__init__"=some (some (.ref f64)))(l64:K.lookup f64=some ⟨oc64,od64,.func (PySem.W.fnOf "__init__" "Dated.__init__" (defArgs s_Dated___init__) (defBody s_Dated___init__) (defScope s_Dated___init__) (.ref T64) kV64 dc64 pm64 an64 cd64 ct64),sl64⟩)(c64:PySem.W.codeIn K cd64 "Dated.__init__"=true)(k64:PySem.W.keepIn K (.ref f64)=true)
 (t64:K.lookup T64=some ⟨to64,td64,.seq #[.none,.none,(.int 1 tkd_Dated___init___2),(.int 0 tkd_Dated___init___3)] tn64,ts64⟩)
 (u64:PySem.W.typeIn K (.ref f64)=some (.type "function"))
 (q65:FnM K c_Not "__init__" "__init__" "Not.__init__" s_Not___init__)
 (q66:FnM K c_Both "__init__" "__init__" "Both.__init__" s_Both___init__)
 (q67:FnM K c_Either "__init__" "__init__" "Either.__init__" s_Either___init__)
 (q68:FnM K c_But "__init__" "__init__" "But.__init__" s_But___init__)
 (q69:FnM K c_Unlike "__init__" "__init__" "Unlike.__init__" s_Unlike___init__)
 (q70:FnM K c_Upon "__init__" "__init__" "Upon.__init__" s_Upon___init__)
 (q71:FnM K c_Until "__init__" "__init__" "Until.__init__" s_Until___init__)
 (q72:FnM K c_Near "__init__" "__init__" "Near.__init__" s_Near___init__)
 (q73:FnM K c_Till "__init__" "__init__" "Till.__init__" s_Till___init__)
 (q74:FnM K c_Later "__init__" "__init__" "Later.__init__" s_Later___init__)
 (q75:FnM K c_Kth "__init__" "__init__" "Kth.__init__" s_Kth___init__)
 (q76:FnM K c_Every "__init__" "__init__" "Every.__init__" s_Every___init__)
 (q77:FnG K "told_by_one" "told_by_one" "told_by_one" s_told_by_one)
 (q78:FnG K "parts_in" "parts_in" "parts_in" s_parts_in)
 (q79:FnG K "shorter" "shorter" "shorter" s_shorter)
 (q80:FnG K "_law_cell_at" "_law_cell_at" "_law_cell_at" s_law_cell_at)
 (q81:FnG K "_law_divisor" "_law_divisor" "_law_divisor" s_law_divisor)
 (q82:FnG K "_law_leaf" "_law_leaf" "_law_leaf" s_law_leaf)
 (q83:FnG K "_law_pair" "_law_pair" "_law_pair" s_law_pair)
 (q84:FnG K "_law_made" "_law_made" "_law_made" s_law_made)
 (q85:FnG K "_law_rule" "_law_rule" "_law_rule" s_law_rule)
 (q86:FnG K "_law_long" "_law_long" "_law_long" s_law_long)
 (q87:FnG K "_law_one_part" "_law_one_part" "_law_one_part" s_law_one_part)
 (q88:FnG K "_law_names" "_law_names" "_law_names" s_law_names)
 (q89:FnG K "_law_alike" "_law_alike" "_law_alike" s_law_alike)
 (a90:PySem.W.nsIn K mainGlobals "law"=some (some (.ref f90)))(l90:K.lookup f90=some ⟨oc90,od90,.func (PySem.W.fnOf "law" "law" (defArgs s_law) (defBody s_law) (defScope s_law) .none kV90 dc90 pm90 an90 cd90 ct90),sl90⟩)(c90:PySem.W.codeIn K cd90 "law"=true)(k90:PySem.W.keepIn K (.ref f90)=true)
 (z_range:PySem.W.nsIn K mainGlobals "range"=some none)
 (z_len:PySem.W.nsIn K mainGlobals "len"=some none)
 (z_list:PySem.W.nsIn K mainGlobals "list"=some none)
 (z_abs:PySem.W.nsIn K mainGlobals "abs"=some none)
 (z_zip:PySem.W.nsIn K mainGlobals "zip"=some none)
 (z_sum:PySem.W.nsIn K mainGlobals "sum"=some none)
 (z_all:PySem.W.nsIn K mainGlobals "all"=some none)
 (z_tuple:PySem.W.nsIn K mainGlobals "tuple"=some none)
 (z_min:PySem.W.nsIn K mainGlobals "min"=some none)
 (z_max:PySem.W.nsIn K mainGlobals "max"=some none)
 (z_str:PySem.W.nsIn K mainGlobals "str"=some none)
 (z_isinstance:PySem.W.nsIn K mainGlobals "isinstance"=some none)
 (m_LONGEST:PySem.W.nsIn K mainGlobals "LONGEST"=some (some (.int 150000 tk_LONGEST)))
 (m_PIECE:PySem.W.nsIn K mainGlobals "PIECE"=some (some (.int 256 tk_PIECE)))
 (m_GREATEST_N:PySem.W.nsIn K mainGlobals "GREATEST_N"=some (some (.int 1000 tk_GREATEST_N)))
 (m_GREATEST_BASE:PySem.W.nsIn K mainGlobals "GREATEST_BASE"=some (some (.int 20000 tk_GREATEST_BASE)))
 (m_MOST_TERMS:PySem.W.nsIn K mainGlobals "MOST_TERMS"=some (some (.int 6 tk_MOST_TERMS)))
 (m_MOST_MONTHS:PySem.W.nsIn K mainGlobals "MOST_MONTHS"=some (some (.int 20 tk_MOST_MONTHS)))
 (m_LONGEST_MONTH:PySem.W.nsIn K mainGlobals "LONGEST_MONTH"=some (some (.int 1000 tk_LONGEST_MONTH)))
 :∃fd:FuncData,(∀(s:Shared) (v:Value),BindsTo s fd ⟨[v],[]⟩ [("_law_script",v)])∧∀base:Heap,K.In base→base.Ns mainGlobals mg→FnOk l.prog w K mg base CX0 67 fa fd ["_law_script"] (spLaw K):=by
 have e:=hfa.symm.trans (PySem.W.mg_of X G a90)
 cases e
 have F17:=fun_mk (st:=s_either) l17 c17 k17
 have b17:=F17.binds (ps:=["one","other"]) fun _ _ _ _ _ _ us hl=>by obtain⟨_,_,rfl⟩:=len2 hl;rfl
 have F18:=fun_mk (st:=s_unlike) l18 c18 k18
 have b18:=F18.binds (ps:=["one","other"]) fun _ _ _ _ _ _ us hl=>by obtain⟨_,_,rfl⟩:=len2 hl;rfl
 have F42:=fun_mkD (st:=s_Measure___init__) l42 c42 k42 t42 rfl
 have b42:=FunD.bindsD (ps:=["self","base","terms"]) (dv:=[]) 3 rfl F42 fun _ _ _ _ _ _ _ us hl=>by obtain⟨_,_,_,rfl⟩:=len3 hl;exact⟨_,rfl,rfl⟩
 have F46:=fun_mkD (st:=s_Sun___init__) l46 c46 k46 t46 rfl
 have b46:=FunD.bindsD (ps:=["self","start","lengths","leap","terms"]) (dv:=[]) 5 rfl F46 fun _ _ _ _ _ _ _ us hl=>by obtain⟨_,_,_,_,_,rfl⟩:=len5 hl;exact⟨_,rfl,rfl⟩
 have b46_2:=FunD.bindsD (ps:=["self","start","lengths","leap","terms"]) (dv:=[(.int 1 tkd_Sun___init___0),.none]) 3 rfl F46 fun _ _ _ _ _ _ _ us hl=>by obtain⟨_,_,_,rfl⟩:=len3 hl;exact⟨_,rfl,rfl⟩
 have F51:=fun_mkD (st:=s_dated) l51 c51 k51 t51 rfl
 have b51:=FunD.bindsD (ps:=["calendar","month","day","step","rest"]) (dv:=[]) 5 rfl F51 fun _ _ _ _ _ _ _ us hl=>by obtain⟨_,_,_,_,_,rfl⟩:=len5 hl;exact⟨_,rfl,rfl⟩
 have F52:=fun_mkD (st:=s_Rule___init__) l52 c52 k52 t52 rfl
 have b52:=FunD.bindsD (ps:=["self","kept","made_of","words"]) (dv:=[]) 4 rfl F52 fun _ _ _ _ _ _ _ us hl=>by obtain⟨_,_,_,_,rfl⟩:=len4 hl;exact⟨_,rfl,rfl⟩
 have F64:=fun_mkD (st:=s_Dated___init__) l64 c64 k64 t64 rfl
 have b64:=FunD.bindsD (ps:=["self","name","calendar","month","day","step","rest"]) (dv:=[]) 7 rfl F64 fun _ _ _ _ _ _ _ us hl=>by obtain⟨_,_,_,_,_,_,_,rfl⟩:=len7 hl;exact⟨_,rfl,rfl⟩
 have F90:=fun_mk (st:=s_law) l90 c90 k90
 have y_range:=PySem.W.mg_none_of X G z_range
 have y_len:=PySem.W.mg_none_of X G z_len
 have y_list:=PySem.W.mg_none_of X G z_list
 have y_abs:=PySem.W.mg_none_of X G z_abs
 have y_zip:=PySem.W.mg_none_of X G z_zip
 have y_sum:=PySem.W.mg_none_of X G z_sum
 have y_all:=PySem.W.mg_none_of X G z_all
 have y_tuple:=PySem.W.mg_none_of X G z_tuple
 have y_min:=PySem.W.mg_none_of X G z_min
 have y_max:=PySem.W.mg_none_of X G z_max
 have y_str:=PySem.W.mg_none_of X G z_str
 have y_isinstance:=PySem.W.mg_none_of X G z_isinstance
 have y_LONGEST:=PySem.W.mg_of X G m_LONGEST
 have y_PIECE:=PySem.W.mg_of X G m_PIECE
 have y_GREATEST_N:=PySem.W.mg_of X G m_GREATEST_N
 have y_GREATEST_BASE:=PySem.W.mg_of X G m_GREATEST_BASE
 have y_MOST_TERMS:=PySem.W.mg_of X G m_MOST_TERMS
 have y_MOST_MONTHS:=PySem.W.mg_of X G m_MOST_MONTHS
 have y_LONGEST_MONTH:=PySem.W.mg_of X G m_LONGEST_MONTH
 refine⟨PySem.W.fnOf "law" "law" (defArgs s_law) (defBody s_law) (defScope s_law) .none kV90 dc90 pm90 an90 cd90 ct90,fun s v=>.of_eq rfl,fun base _ _=>?_⟩
 have er:Errs K mg c_FeastError c_NoNumber c_TooLong c_NoMeasure c_Rule c_All c_No c_Each c_Dated c_Not c_Both c_Either c_But c_Unlike c_Later c_Upon c_Until c_Near c_Till c_Kth c_Every c_Measure c_Calendar c_Sun:=⟨⟨pg_Measure,k_Measure,po_Measure,sa_Measure⟩,na_Measure_base,na_Measure_terms,na_Measure_full_count,na_Measure_full_sum,⟨pg_Sun,k_Sun,po_Sun,sa_Sun⟩,na_Sun_start,na_Sun_months,na_Sun_leap,na_Sun_years,PySem.W.mg_of X G n_Rule,⟨pg_All,k_All,po_All,sa_All⟩,⟨⟨pg_All,k_All,po_All,sa_All⟩,na_All_kept,na_All_made_of,na_All_words,ca_All,ob_All,i_All_Rule⟩,⟨pg_No,k_No,po_No,sa_No⟩,⟨⟨pg_No,k_No,po_No,sa_No⟩,na_No_kept,na_No_made_of,na_No_words,ca_No,ob_No,i_No_Rule⟩,⟨pg_Each,k_Each,po_Each,sa_Each⟩,⟨⟨pg_Each,k_Each,po_Each,sa_Each⟩,na_Each_kept,na_Each_made_of,na_Each_words,ca_Each,ob_Each,i_Each_Rule⟩,⟨pg_Dated,k_Dated,po_Dated,sa_Dated⟩,⟨⟨pg_Dated,k_Dated,po_Dated,sa_Dated⟩,na_Dated_kept,na_Dated_made_of,na_Dated_words,ca_Dated,ob_Dated,i_Dated_Rule⟩,⟨pg_Not,k_Not,po_Not,sa_Not⟩,⟨⟨pg_Not,k_Not,po_Not,sa_Not⟩,na_Not_kept,na_Not_made_of,na_Not_words,ca_Not,ob_Not,i_Not_Rule⟩,⟨pg_Both,k_Both,po_Both,sa_Both⟩,⟨⟨pg_Both,k_Both,po_Both,sa_Both⟩,na_Both_kept,na_Both_made_of,na_Both_words,ca_Both,ob_Both,i_Both_Rule⟩,⟨pg_Either,k_Either,po_Either,sa_Either⟩,⟨⟨pg_Either,k_Either,po_Either,sa_Either⟩,na_Either_kept,na_Either_made_of,na_Either_words,ca_Either,ob_Either,i_Either_Rule⟩,⟨pg_But,k_But,po_But,sa_But⟩,⟨⟨pg_But,k_But,po_But,sa_But⟩,na_But_kept,na_But_made_of,na_But_words,ca_But,ob_But,i_But_Rule⟩,⟨pg_Unlike,k_Unlike,po_Unlike,sa_Unlike⟩,⟨⟨pg_Unlike,k_Unlike,po_Unlike,sa_Unlike⟩,na_Unlike_kept,na_Unlike_made_of,na_Unlike_words,ca_Unlike,ob_Unlike,i_Unlike_Rule⟩,⟨pg_Later,k_Later,po_Later,sa_Later⟩,⟨⟨pg_Later,k_Later,po_Later,sa_Later⟩,na_Later_kept,na_Later_made_of,na_Later_words,ca_Later,ob_Later,i_Later_Rule⟩,⟨pg_Upon,k_Upon,po_Upon,sa_Upon⟩,⟨⟨pg_Upon,k_Upon,po_Upon,sa_Upon⟩,na_Upon_kept,na_Upon_made_of,na_Upon_words,ca_Upon,ob_Upon,i_Upon_Rule⟩,⟨pg_Until,k_Until,po_Until,sa_Until⟩,⟨⟨pg_Until,k_Until,po_Until,sa_Until⟩,na_Until_kept,na_Until_made_of,na_Until_words,ca_Until,ob_Until,i_Until_Rule⟩,⟨pg_Near,k_Near,po_Near,sa_Near⟩,⟨⟨pg_Near,k_Near,po_Near,sa_Near⟩,na_Near_kept,na_Near_made_of,na_Near_words,ca_Near,ob_Near,i_Near_Rule⟩,⟨pg_Till,k_Till,po_Till,sa_Till⟩,⟨⟨pg_Till,k_Till,po_Till,sa_Till⟩,na_Till_kept,na_Till_made_of,na_Till_words,ca_Till,ob_Till,i_Till_Rule⟩,⟨pg_Kth,k_Kth,po_Kth,sa_Kth⟩,⟨⟨pg_Kth,k_Kth,po_Kth,sa_Kth⟩,na_Kth_kept,na_Kth_made_of,na_Kth_words,ca_Kth,ob_Kth,i_Kth_Rule⟩,⟨pg_Every,k_Every,po_Every,sa_Every⟩,⟨⟨pg_Every,k_Every,po_Every,sa_Every⟩,na_Every_kept,na_Every_made_of,na_Every_words,ca_Every,ob_Every,i_Every_Rule⟩,xsp,xtk⟩
 have C_refuse_below_one:Cal l.prog w K mg base 1 "refuse_below_one" ["number"] spRefuse:=cal_of X G q0 (by walk_at "b1") fun F=>ok_refuse_below_one F
 have C_refuse_too_long:Cal l.prog w K mg base 1 "refuse_too_long" ["size"] spTooLong:=cal_of X G q1 (by walk_at "b1") fun F=>ok_refuse_too_long F y_LONGEST
 have C_equation:Cal l.prog w K mg base 1 "equation" ["one","other"] spEq:=cal_of X G q2 (by walk_at "b2") fun F=>ok_equation F
 have C_divisor:Cal l.prog w K mg base 2 "divisor" ["one","other"] spDivisor:=cal_of X G q3 (by walk_at "b2") fun F=>ok_divisor F C_equation
 have C_common:Cal l.prog w K mg base 3 "common" ["one","other"] spCommon:=cal_of X G q4 (by walk_at "b2") fun F=>ok_common F C_refuse_below_one C_divisor
 have C_round_by:Cal l.prog w K mg base 2 "round_by" ["size","days"] (spRoundBy K):=cal_of X G q5 (by walk_at "b2") fun F=>ok_round_by F C_refuse_below_one C_refuse_too_long y_range y_len y_PIECE
 have C_full_bits:Cal l.prog w K mg base 1 "full_bits" ["size"] spFull:=cal_of X G q6 (by walk_at "b1") fun F=>ok_full_bits F
 have C_on:Cal l.prog w K mg base 1 "on" ["turn","day"] (spOn K):=cal_of X G q7 (by walk_at "b2") fun F=>ok_on F
 have C_on_rounds:Cal l.prog w K mg base 1 "on_rounds" ["turn","day"] (spOn K):=cal_of X G q8 (by walk_at "b2") fun F=>ok_on F
 have C_days_in:Cal l.prog w K mg base 2 "days_in" ["turn"] (spDaysIn K):=cal_of X G q9 (by walk_at "b1") fun F=>ok_days_in F C_full_bits y_range y_PIECE
 have C_bits_by:Cal l.prog w K mg base 2 "bits_by" ["turn","size"] (spBitsByL K):=cal_of X G q10 (by walk_at "b2") fun F=>ok_bits_by F C_full_bits
 have C_stretched:Cal l.prog w K mg base 3 "stretched" ["turn","size"] (spStretched K):=cal_of X G q11 (by walk_at "b2") fun F=>ok_stretched F C_refuse_below_one C_refuse_too_long C_bits_by
 have C_primes_of:Cal l.prog w K mg base 1 "primes_of" ["number"] spPrimes:=cal_of X G q12 (by walk_at "b1") fun F=>ok_primes_of F
 have C_comes_again:Cal l.prog w K mg base 2 "comes_again" ["turn","size"] (spAgain K):=cal_of X G q13 (by walk_at "b2") fun F=>ok_comes_again F C_full_bits
 have C_least:Cal l.prog w K mg base 3 "least" ["turn"] (spLeast K):=cal_of X G q14 (by walk_at "b1") fun F=>ok_least F C_primes_of C_comes_again C_full_bits
 have C_common_size:Cal l.prog w K mg base 4 "common_size" ["one","other"] (spCS K):=cal_of X G q15 (by walk_at "b2") fun F=>ok_common_size F C_common C_refuse_too_long
 have C_both:Cal l.prog w K mg base 5 "both" ["one","other"] (spJoin K):=cal_of X G q16 (by walk_at "b2") fun F=>ok_both F C_common_size C_bits_by
 have C_either:Cal l.prog w K mg base 5 "either" ["one","other"] (spJoin K):=⟨⟨f17,_,ok_either F17 C_common_size C_bits_by,b17,k17,PySem.W.mg_of X G a17⟩⟩
 have C_unlike:Cal l.prog w K mg base 5 "unlike" ["one","other"] (spJoin K):=⟨⟨f18,_,ok_unlike F18 C_common_size C_bits_by,b18,k18,PySem.W.mg_of X G a18⟩⟩
 have C_other_days:Cal l.prog w K mg base 2 "other_days" ["turn"] (spOther K):=cal_of X G q19 (by walk_at "b1") fun F=>ok_other_days F C_full_bits
 have C_without:Cal l.prog w K mg base 6 "without" ["one","other"] (spJoin K):=cal_of X G q20 (by walk_at "b2") fun F=>ok_without F C_both C_other_days
 have C_later:Cal l.prog w K mg base 2 "later" ["turn","number"] (spLater K):=cal_of X G q21 (by walk_at "b2") fun F=>ok_later F C_full_bits
 have C_refuse_wanted:Cal l.prog w K mg base 2 "refuse_wanted" ["month","day","step"] spWant7:=cal_of X G q22 (by walk_at "b3") fun F=>ok_refuse_wanted F C_refuse_below_one
 have C_days_of_month:Cal l.prog w K mg base 1 "days_of_month" ["first","length","day"] spDoM7:=cal_of X G q23 (by walk_at "b3") fun F=>ok_days_of_month F y_list y_range
 have C_ones_in:Cal l.prog w K mg base 3 "ones_in" ["bits"] spOnes:=cal_of X G q24 (by walk_at "b1") fun F=>ok_ones_in F C_bits_by C_full_bits
 have C_days_ahead:Cal l.prog w K mg base 4 "days_ahead" ["turn","day"] (spAhead K):=cal_of X G q25 (by walk_at "b2") fun F=>ok_days_ahead F C_full_bits C_ones_in
 have C_how_many:Cal l.prog w K mg base 5 "how_many" ["turn","first","end"] (spMany K):=cal_of X G q26 (by walk_at "b3") fun F=>ok_how_many F C_days_ahead
 have C_gathered:Cal l.prog w K mg base 6 "gathered" ["turn","barred","step","join"] (spGathS K mg [("either",spJoin K),("unlike",spJoin K)]):=cal_of X G q27 (by walk_at "b4") fun F=>ok_gathered F C_other_days C_both C_later C_either C_unlike y_abs
 have C_upon:Cal l.prog w K mg base 7 "upon" ["R","S"] (spJoin K):=cal_of X G q28 (by walk_at "b2") fun F=>ok_upon F C_common_size C_stretched C_both C_gathered C_later C_either (PySem.W.mg_of X G a17)
 have C_until:Cal l.prog w K mg base 7 "until" ["R","S"] (spJoin K):=cal_of X G q29 (by walk_at "b2") fun F=>ok_until F C_common_size C_stretched C_both C_gathered C_later C_either (PySem.W.mg_of X G a17)
 have C_till:Cal l.prog w K mg base 7 "till" ["R","S"] (spJoin K):=cal_of X G q30 (by walk_at "b2") fun F=>ok_till F C_common_size C_gathered C_stretched C_either (PySem.W.mg_of X G a17)
 have C_nearer_ahead:Cal l.prog w K mg base 8 "nearer_ahead" ["R"] (spNearS K):=cal_of X G q31 (by walk_at "b1") fun F=>ok_nearer_ahead F C_days_in C_till C_round_by y_zip
 have C_near:Cal l.prog w K mg base 9 "near" ["R","S"] (spJoin K):=cal_of X G q32 (by walk_at "b2") fun F=>ok_near F C_nearer_ahead C_either C_until C_both C_upon C_without
 have C_kth:Cal l.prog w K mg base 8 "kth" ["number","R","S"] (spKthZ K):=cal_of X G q33 (by walk_at "b3") fun F=>ok_kth F C_common_size C_stretched C_later C_both C_gathered C_unlike C_without C_upon C_until y_abs (PySem.W.mg_of X G a18)
 have C_every:Cal l.prog w K mg base 6 "every" ["number","R","day"] (spEveryZ K):=cal_of X G q34 (by walk_at "b3") fun F=>ok_every F C_refuse_below_one C_refuse_too_long C_days_in C_how_many C_round_by y_list y_range y_len
 have C_term_on:Cal l.prog w K mg base 1 "term_on" ["term","k"] spNo:=cal_of X G q35 (by walk_at "b2") fun F=>ok_term_on F
 have C_signs_upto:Cal l.prog w K mg base 1 "signs_upto" ["terms","k"] (spSigns7 K):=cal_of X G q36 (by walk_at "b2") fun F=>ok_signs_upto F y_sum
 have C_is_term:Cal l.prog w K mg base 1 "is_term" ["term"] spNo:=cal_of X G q37 (by walk_at "b1") fun F=>ok_is_term F y_GREATEST_N
 have C_least_length:Cal l.prog w K mg base 1 "least_length" ["base","terms"] (spLeast7 K):=cal_of X G q38 (by walk_at "b2") fun F=>ok_least_length F y_len
 have C_refuse_measure:Cal l.prog w K mg base 2 "refuse_measure" ["base","terms"] (spRefM7 K):=cal_of X G q39 (by walk_at "b2") fun F=>ok_refuse_measure F C_is_term C_least_length y_len y_all y_GREATEST_BASE y_MOST_TERMS
 have C_period_of:Cal l.prog w K mg base 4 "period_of" ["terms"] (spPer7 K):=cal_of X G q40 (by walk_at "b1") fun F=>ok_period_of F C_common
 have C_Measure_upto:CalM l.prog w K mg base CX0 2 c_Measure "upto" ["self","k"] (spUpto7 c_Measure):=calM_of q41 (by walk_at "b2") fun F=>ok_Measure_upto F er C_signs_upto
 have C_Measure___init__:CalI l.prog w K mg base CX0 5 "Measure" c_Measure ["self","base","terms"] (spInitM7 c_Measure):=⟨⟨f42,_,ok_Measure___init__ F42 er C_refuse_measure C_period_of C_Measure_upto y_tuple,b42,⟨mk_Measure,a42,beq_iff_eq.mpr u42,kp_Measure⟩,PySem.W.mg_of X G n_Measure⟩⟩
 have C_Measure_at:CalM l.prog w K mg base CX0 2 c_Measure "at" ["self","k"] (spAt7 c_Measure):=calM_of q43 (by walk_at "b2") fun F=>ok_Measure_at F er C_term_on y_sum
 have C_Measure_period:CalM l.prog w K mg base CX0 1 c_Measure "period" ["self"] (spPeriod7 c_Measure):=calM_of q44 (by walk_at "b1") fun F=>ok_Measure_period F er
 have C_refuse_months:Cal l.prog w K mg base 1 "refuse_months" ["lengths","leap"] (spRefMo7 K):=cal_of X G q45 (by walk_at "b2") fun F=>ok_refuse_months F y_len y_min y_max y_MOST_MONTHS y_LONGEST_MONTH
 have C_Sun___init__:CalI l.prog w K mg base CX0 7 "Sun" c_Sun ["self","start","lengths","leap","terms"] (spInitS7 c_Sun c_Measure):=⟨⟨f46,_,ok_Sun___init__ F46 er C_refuse_months C_Measure___init__ C_least_length y_tuple y_sum,b46,⟨mk_Sun,a46,beq_iff_eq.mpr u46,kp_Sun⟩,PySem.W.mg_of X G n_Sun⟩⟩
 have C_Sun___init___d2:CalID l.prog w K mg base CX0 7 "Sun" c_Sun ["self","start","lengths","leap","terms"] [(.int 1),.non] (spInitS7 c_Sun c_Measure):=⟨⟨f46,_,_,ok_Sun___init__ F46 er C_refuse_months C_Measure___init__ C_least_length y_tuple y_sum,b46_2,(.cons (by first | exact rfl | exact rel_int _ _ | trivial) (.cons (by first | exact rfl | exact rel_int _ _ | trivial) .nil)),⟨mk_Sun,a46,beq_iff_eq.mpr u46,kp_Sun⟩,PySem.W.mg_of X G n_Sun⟩⟩
 have C_Sun_year_start:CalM l.prog w K mg base CX0 3 c_Sun "year_start" ["self","year"] (spYS7 c_Sun c_Measure):=calM_of q47 (by walk_at "b2") fun F=>ok_Sun_year_start F er C_Measure_upto
 have C_Sun_lengths:CalM l.prog w K mg base CX0 3 c_Sun "lengths" ["self","year"] (spLens7 c_Sun c_Measure):=calM_of q48 (by walk_at "b2") fun F=>ok_Sun_lengths F er C_Measure_at y_list
 have C_Sun_cycle:CalM l.prog w K mg base CX0 3 c_Sun "cycle" ["self"] (spCyc7 c_Sun c_Measure):=calM_of q49 (by walk_at "b1") fun F=>ok_Sun_cycle F er C_Measure_period C_Measure_upto
 have C_days_of_year:Cal l.prog w K mg base 4 "days_of_year" ["calendar","year","month","day"] (spDoY7 c_Sun c_Measure):=cal_of X G q50 (by walk_at "b4") fun F=>ok_days_of_year F er C_Sun_year_start C_Sun_lengths C_days_of_month
 have C_dated:Cal l.prog w K mg base 5 "dated" ["calendar","month","day","step","rest"] (spDated7 c_Sun c_Measure):=⟨⟨f51,_,ok_dated F51 er C_refuse_wanted C_Sun_cycle C_common C_refuse_too_long C_days_of_year C_round_by y_range,b51,k51,PySem.W.mg_of X G a51⟩⟩
 have C_Rule___init__:CalB l.prog w K mg base 1 "Rule" ["self","kept","made_of","words"] (spRInit K c_Rule):=⟨⟨f52,c_Rule,_,ok_Rule___init__ F52 er,b52,⟨PySem.W.mg_of X G n_Rule,bsp_Rule,brd_Rule,bfc52,k52⟩⟩⟩
 have C_Rec_on:CalL l.prog w K mg base CX0 2 "on" ["self","day"] ([c_All,c_No,c_Each,c_Dated,c_Not,c_Both,c_Either,c_But,c_Unlike,c_Later,c_Upon,c_Until,c_Near,c_Till,c_Kth,c_Every].map fun C=>(C,(spR (spOnM K c_Rule [c_All,c_No,c_Each,c_Dated,c_Not,c_Both,c_Either,c_But,c_Unlike,c_Later,c_Upon,c_Until,c_Near,c_Till,c_Kth,c_Every])) 1)):=rec_calL (k0:=1) (Cs:=[c_All,c_No,c_Each,c_Dated,c_Not,c_Both,c_Either,c_But,c_Unlike,c_Later,c_Upon,c_Until,c_Near,c_Till,c_Kth,c_Every]) (sp:=(spR (spOnM K c_Rule [c_All,c_No,c_Each,c_Dated,c_Not,c_Both,c_Either,c_But,c_Unlike,c_Later,c_Upon,c_Until,c_Near,c_Till,c_Kth,c_Every]))) (all_cons ⟨er.cl_All,q53_0⟩ (all_cons ⟨er.cl_No,q53_1⟩ (all_cons ⟨er.cl_Each,q53_2⟩ (all_cons ⟨er.cl_Dated,q53_3⟩ (all_cons ⟨er.cl_Not,q53_4⟩ (all_cons ⟨er.cl_Both,q53_5⟩ (all_cons ⟨er.cl_Either,q53_6⟩ (all_cons ⟨er.cl_But,q53_7⟩ (all_cons ⟨er.cl_Unlike,q53_8⟩ (all_cons ⟨er.cl_Later,q53_9⟩ (all_cons ⟨er.cl_Upon,q53_10⟩ (all_cons ⟨er.cl_Until,q53_11⟩ (all_cons ⟨er.cl_Near,q53_12⟩ (all_cons ⟨er.cl_Till,q53_13⟩ (all_cons ⟨er.cl_Kth,q53_14⟩ (all_cons ⟨er.cl_Every,q53_15⟩ all_nil)))))))))))))))) (by walk_at "b2") (fun _ _ _ _ h=>spR_zero h) (fun d _ _ CL F=>ok_Rule_on F er C_on_rounds CL (Nat.le_add_right _ _)) 1
 have C_Rec_size:CalL l.prog w K mg base CX0 2 "size" ["self"] ([c_All,c_No,c_Each,c_Dated,c_Not,c_Both,c_Either,c_But,c_Unlike,c_Later,c_Upon,c_Until,c_Near,c_Till,c_Kth,c_Every].map fun C=>(C,(spR (spSizeM K c_Rule [c_All,c_No,c_Each,c_Dated,c_Not,c_Both,c_Either,c_But,c_Unlike,c_Later,c_Upon,c_Until,c_Near,c_Till,c_Kth,c_Every])) 1)):=rec_calL (k0:=1) (Cs:=[c_All,c_No,c_Each,c_Dated,c_Not,c_Both,c_Either,c_But,c_Unlike,c_Later,c_Upon,c_Until,c_Near,c_Till,c_Kth,c_Every]) (sp:=(spR (spSizeM K c_Rule [c_All,c_No,c_Each,c_Dated,c_Not,c_Both,c_Either,c_But,c_Unlike,c_Later,c_Upon,c_Until,c_Near,c_Till,c_Kth,c_Every]))) (all_cons ⟨er.cl_All,q54_0⟩ (all_cons ⟨er.cl_No,q54_1⟩ (all_cons ⟨er.cl_Each,q54_2⟩ (all_cons ⟨er.cl_Dated,q54_3⟩ (all_cons ⟨er.cl_Not,q54_4⟩ (all_cons ⟨er.cl_Both,q54_5⟩ (all_cons ⟨er.cl_Either,q54_6⟩ (all_cons ⟨er.cl_But,q54_7⟩ (all_cons ⟨er.cl_Unlike,q54_8⟩ (all_cons ⟨er.cl_Later,q54_9⟩ (all_cons ⟨er.cl_Upon,q54_10⟩ (all_cons ⟨er.cl_Until,q54_11⟩ (all_cons ⟨er.cl_Near,q54_12⟩ (all_cons ⟨er.cl_Till,q54_13⟩ (all_cons ⟨er.cl_Kth,q54_14⟩ (all_cons ⟨er.cl_Every,q54_15⟩ all_nil)))))))))))))))) (by walk_at "b1") (fun _ _ _ _ h=>spR_zero h) (fun d _ _ CL F=>ok_Rule_size F er CL (Nat.le_add_right _ _)) 1
 have C_Rec_turn:CalL l.prog w K mg base CX0 2 "turn" ["self"] ([c_All,c_No,c_Each,c_Dated,c_Not,c_Both,c_Either,c_But,c_Unlike,c_Later,c_Upon,c_Until,c_Near,c_Till,c_Kth,c_Every].map fun C=>(C,(spR (spTurnM K c_Rule [c_All,c_No,c_Each,c_Dated,c_Not,c_Both,c_Either,c_But,c_Unlike,c_Later,c_Upon,c_Until,c_Near,c_Till,c_Kth,c_Every])) 1)):=rec_calL (k0:=1) (Cs:=[c_All,c_No,c_Each,c_Dated,c_Not,c_Both,c_Either,c_But,c_Unlike,c_Later,c_Upon,c_Until,c_Near,c_Till,c_Kth,c_Every]) (sp:=(spR (spTurnM K c_Rule [c_All,c_No,c_Each,c_Dated,c_Not,c_Both,c_Either,c_But,c_Unlike,c_Later,c_Upon,c_Until,c_Near,c_Till,c_Kth,c_Every]))) (all_cons ⟨er.cl_All,q55_0⟩ (all_cons ⟨er.cl_No,q55_1⟩ (all_cons ⟨er.cl_Each,q55_2⟩ (all_cons ⟨er.cl_Dated,q55_3⟩ (all_cons ⟨er.cl_Not,q55_4⟩ (all_cons ⟨er.cl_Both,q55_5⟩ (all_cons ⟨er.cl_Either,q55_6⟩ (all_cons ⟨er.cl_But,q55_7⟩ (all_cons ⟨er.cl_Unlike,q55_8⟩ (all_cons ⟨er.cl_Later,q55_9⟩ (all_cons ⟨er.cl_Upon,q55_10⟩ (all_cons ⟨er.cl_Until,q55_11⟩ (all_cons ⟨er.cl_Near,q55_12⟩ (all_cons ⟨er.cl_Till,q55_13⟩ (all_cons ⟨er.cl_Kth,q55_14⟩ (all_cons ⟨er.cl_Every,q55_15⟩ all_nil)))))))))))))))) (by walk_at "b1") (fun _ _ _ _ h=>spR_zero h) (fun d _ _ CL F=>ok_Rule_turn F er CL (Nat.le_add_right _ _)) 1
 have C_Rec_parts:CalL l.prog w K mg base CX0 61 "parts" ["self"] ([c_All,c_No,c_Each,c_Dated,c_Not,c_Both,c_Either,c_But,c_Unlike,c_Later,c_Upon,c_Until,c_Near,c_Till,c_Kth,c_Every].map fun C=>(C,(spParts K c_Rule [c_All,c_No,c_Each,c_Dated,c_Not,c_Both,c_Either,c_But,c_Unlike,c_Later,c_Upon,c_Until,c_Near,c_Till,c_Kth,c_Every]) 60)):=rec_calL (k0:=1) (Cs:=[c_All,c_No,c_Each,c_Dated,c_Not,c_Both,c_Either,c_But,c_Unlike,c_Later,c_Upon,c_Until,c_Near,c_Till,c_Kth,c_Every]) (sp:=(spParts K c_Rule [c_All,c_No,c_Each,c_Dated,c_Not,c_Both,c_Either,c_But,c_Unlike,c_Later,c_Upon,c_Until,c_Near,c_Till,c_Kth,c_Every])) (all_cons ⟨er.cl_All,q56_0⟩ (all_cons ⟨er.cl_No,q56_1⟩ (all_cons ⟨er.cl_Each,q56_2⟩ (all_cons ⟨er.cl_Dated,q56_3⟩ (all_cons ⟨er.cl_Not,q56_4⟩ (all_cons ⟨er.cl_Both,q56_5⟩ (all_cons ⟨er.cl_Either,q56_6⟩ (all_cons ⟨er.cl_But,q56_7⟩ (all_cons ⟨er.cl_Unlike,q56_8⟩ (all_cons ⟨er.cl_Later,q56_9⟩ (all_cons ⟨er.cl_Upon,q56_10⟩ (all_cons ⟨er.cl_Until,q56_11⟩ (all_cons ⟨er.cl_Near,q56_12⟩ (all_cons ⟨er.cl_Till,q56_13⟩ (all_cons ⟨er.cl_Kth,q56_14⟩ (all_cons ⟨er.cl_Every,q56_15⟩ all_nil)))))))))))))))) (by walk_at "b1") (fun _ _ _ _ h=>spParts_zero h) (fun d _ _ CL F=>ok_Rule_parts F er CL (Nat.le_add_right _ _)) 60
 have C_Rec_shown:CalL l.prog w K mg base CX0 61 "shown" ["self"] ([c_All,c_No,c_Each,c_Dated,c_Not,c_Both,c_Either,c_But,c_Unlike,c_Later,c_Upon,c_Until,c_Near,c_Till,c_Kth,c_Every].map fun C=>(C,(spShown K c_Rule [c_All,c_No,c_Each,c_Dated,c_Not,c_Both,c_Either,c_But,c_Unlike,c_Later,c_Upon,c_Until,c_Near,c_Till,c_Kth,c_Every]) 60)):=rec_calL (k0:=1) (Cs:=[c_All,c_No,c_Each,c_Dated,c_Not,c_Both,c_Either,c_But,c_Unlike,c_Later,c_Upon,c_Until,c_Near,c_Till,c_Kth,c_Every]) (sp:=(spShown K c_Rule [c_All,c_No,c_Each,c_Dated,c_Not,c_Both,c_Either,c_But,c_Unlike,c_Later,c_Upon,c_Until,c_Near,c_Till,c_Kth,c_Every])) (all_cons ⟨er.cl_All,q57_0⟩ (all_cons ⟨er.cl_No,q57_1⟩ (all_cons ⟨er.cl_Each,q57_2⟩ (all_cons ⟨er.cl_Dated,q57_3⟩ (all_cons ⟨er.cl_Not,q57_4⟩ (all_cons ⟨er.cl_Both,q57_5⟩ (all_cons ⟨er.cl_Either,q57_6⟩ (all_cons ⟨er.cl_But,q57_7⟩ (all_cons ⟨er.cl_Unlike,q57_8⟩ (all_cons ⟨er.cl_Later,q57_9⟩ (all_cons ⟨er.cl_Upon,q57_10⟩ (all_cons ⟨er.cl_Until,q57_11⟩ (all_cons ⟨er.cl_Near,q57_12⟩ (all_cons ⟨er.cl_Till,q57_13⟩ (all_cons ⟨er.cl_Kth,q57_14⟩ (all_cons ⟨er.cl_Every,q57_15⟩ all_nil)))))))))))))))) (by walk_at "b1") (fun _ _ _ _ h=>spShown_zero h) (fun d _ _ CL F=>ok_Rule_shown F er y_zip CL (Nat.le_add_right _ _)) 60
 have C_All___init__:CalI l.prog w K mg base CX0 3 "All" c_All ["self"] (spI0T K c_Rule [c_All,c_No,c_Each,c_Dated,c_Not,c_Both,c_Either,c_But,c_Unlike,c_Later,c_Upon,c_Until,c_Near,c_Till,c_Kth,c_Every] c_All 1):=calI_of X G mk_All kp_All n_All q58 (by walk_at "b1") fun F=>ok_All___init__ F er C_Rule___init__
 have C_No___init__:CalI l.prog w K mg base CX0 3 "No" c_No ["self"] (spI0T K c_Rule [c_All,c_No,c_Each,c_Dated,c_Not,c_Both,c_Either,c_But,c_Unlike,c_Later,c_Upon,c_Until,c_Near,c_Till,c_Kth,c_Every] c_No 0):=calI_of X G mk_No kp_No n_No q59 (by walk_at "b1") fun F=>ok_No___init__ F er C_Rule___init__
 have C_each_text:Cal l.prog w K mg base 1 "each_text" ["step","rest"] spEachT7:=cal_of X G q60 (by walk_at "b2") fun F=>ok_each_text F
 have C_Each___init__:CalI l.prog w K mg base CX0 3 "Each" c_Each ["self","size","rest"] (spIEachT K c_Rule [c_All,c_No,c_Each,c_Dated,c_Not,c_Both,c_Either,c_But,c_Unlike,c_Later,c_Upon,c_Until,c_Near,c_Till,c_Kth,c_Every] c_Each):=calI_of X G mk_Each kp_Each n_Each q61 (by walk_at "b3") fun F=>ok_Each___init__ F er C_round_by C_Rule___init__ C_each_text
 have C_wanted_text:Cal l.prog w K mg base 1 "wanted_text" ["number"] spWText7:=cal_of X G q62 (by walk_at "b1") fun F=>ok_wanted_text F y_str
 have C_dated_text:Cal l.prog w K mg base 2 "dated_text" ["name","month","day","step","rest"] spDText7:=cal_of X G q63 (by walk_at "b5") fun F=>ok_dated_text F C_wanted_text C_each_text
 have C_Dated___init__:CalI l.prog w K mg base CX0 6 "Dated" c_Dated ["self","name","calendar","month","day","step","rest"] (spIDT K c_Rule [c_All,c_No,c_Each,c_Dated,c_Not,c_Both,c_Either,c_But,c_Unlike,c_Later,c_Upon,c_Until,c_Near,c_Till,c_Kth,c_Every] c_Dated c_Sun c_Measure):=⟨⟨f64,_,ok_Dated___init__ F64 er C_dated C_Rule___init__ C_dated_text,b64,⟨mk_Dated,a64,beq_iff_eq.mpr u64,kp_Dated⟩,PySem.W.mg_of X G n_Dated⟩⟩
 have C_Not___init__:CalI l.prog w K mg base CX0 3 "Not" c_Not ["self","R"] (spI1T K c_Rule [c_All,c_No,c_Each,c_Dated,c_Not,c_Both,c_Either,c_But,c_Unlike,c_Later,c_Upon,c_Until,c_Near,c_Till,c_Kth,c_Every] c_Not):=calI_of X G mk_Not kp_Not n_Not q65 (by walk_at "b2") fun F=>ok_Not___init__ F er C_Rule___init__ C_other_days C_Rec_turn
 have C_Both___init__:CalI l.prog w K mg base CX0 6 "Both" c_Both ["self","R","S"] (spI2T K c_Rule [c_All,c_No,c_Each,c_Dated,c_Not,c_Both,c_Either,c_But,c_Unlike,c_Later,c_Upon,c_Until,c_Near,c_Till,c_Kth,c_Every] c_Both):=calI_of X G mk_Both kp_Both n_Both q66 (by walk_at "b3") fun F=>ok_Both___init__ F er C_Rule___init__ C_both C_Rec_turn
 have C_Either___init__:CalI l.prog w K mg base CX0 6 "Either" c_Either ["self","R","S"] (spI2T K c_Rule [c_All,c_No,c_Each,c_Dated,c_Not,c_Both,c_Either,c_But,c_Unlike,c_Later,c_Upon,c_Until,c_Near,c_Till,c_Kth,c_Every] c_Either):=calI_of X G mk_Either kp_Either n_Either q67 (by walk_at "b3") fun F=>ok_Either___init__ F er C_Rule___init__ C_either C_Rec_turn
 have C_But___init__:CalI l.prog w K mg base CX0 7 "But" c_But ["self","R","S"] (spI2T K c_Rule [c_All,c_No,c_Each,c_Dated,c_Not,c_Both,c_Either,c_But,c_Unlike,c_Later,c_Upon,c_Until,c_Near,c_Till,c_Kth,c_Every] c_But):=calI_of X G mk_But kp_But n_But q68 (by walk_at "b3") fun F=>ok_But___init__ F er C_Rule___init__ C_without C_Rec_turn
 have C_Unlike___init__:CalI l.prog w K mg base CX0 6 "Unlike" c_Unlike ["self","R","S"] (spI2T K c_Rule [c_All,c_No,c_Each,c_Dated,c_Not,c_Both,c_Either,c_But,c_Unlike,c_Later,c_Upon,c_Until,c_Near,c_Till,c_Kth,c_Every] c_Unlike):=calI_of X G mk_Unlike kp_Unlike n_Unlike q69 (by walk_at "b3") fun F=>ok_Unlike___init__ F er C_Rule___init__ C_unlike C_Rec_turn
 have C_Upon___init__:CalI l.prog w K mg base CX0 8 "Upon" c_Upon ["self","R","S"] (spI2T K c_Rule [c_All,c_No,c_Each,c_Dated,c_Not,c_Both,c_Either,c_But,c_Unlike,c_Later,c_Upon,c_Until,c_Near,c_Till,c_Kth,c_Every] c_Upon):=calI_of X G mk_Upon kp_Upon n_Upon q70 (by walk_at "b3") fun F=>ok_Upon___init__ F er C_Rule___init__ C_upon C_Rec_turn
 have C_Until___init__:CalI l.prog w K mg base CX0 8 "Until" c_Until ["self","R","S"] (spI2T K c_Rule [c_All,c_No,c_Each,c_Dated,c_Not,c_Both,c_Either,c_But,c_Unlike,c_Later,c_Upon,c_Until,c_Near,c_Till,c_Kth,c_Every] c_Until):=calI_of X G mk_Until kp_Until n_Until q71 (by walk_at "b3") fun F=>ok_Until___init__ F er C_Rule___init__ C_until C_Rec_turn
 have C_Near___init__:CalI l.prog w K mg base CX0 10 "Near" c_Near ["self","R","S"] (spI2T K c_Rule [c_All,c_No,c_Each,c_Dated,c_Not,c_Both,c_Either,c_But,c_Unlike,c_Later,c_Upon,c_Until,c_Near,c_Till,c_Kth,c_Every] c_Near):=calI_of X G mk_Near kp_Near n_Near q72 (by walk_at "b3") fun F=>ok_Near___init__ F er C_Rule___init__ C_near C_Rec_turn
 have C_Till___init__:CalI l.prog w K mg base CX0 8 "Till" c_Till ["self","R","S"] (spI2T K c_Rule [c_All,c_No,c_Each,c_Dated,c_Not,c_Both,c_Either,c_But,c_Unlike,c_Later,c_Upon,c_Until,c_Near,c_Till,c_Kth,c_Every] c_Till):=calI_of X G mk_Till kp_Till n_Till q73 (by walk_at "b3") fun F=>ok_Till___init__ F er C_Rule___init__ C_till C_Rec_turn
 have C_Later___init__:CalI l.prog w K mg base CX0 3 "Later" c_Later ["self","number","R"] (spILT K c_Rule [c_All,c_No,c_Each,c_Dated,c_Not,c_Both,c_Either,c_But,c_Unlike,c_Later,c_Upon,c_Until,c_Near,c_Till,c_Kth,c_Every] c_Later):=calI_of X G mk_Later kp_Later n_Later q74 (by walk_at "b3") fun F=>ok_Later___init__ F er C_Rule___init__ C_later C_Rec_turn
 have C_Kth___init__:CalI l.prog w K mg base CX0 9 "Kth" c_Kth ["self","number","R","S"] (spIKT K c_Rule [c_All,c_No,c_Each,c_Dated,c_Not,c_Both,c_Either,c_But,c_Unlike,c_Later,c_Upon,c_Until,c_Near,c_Till,c_Kth,c_Every] c_Kth):=calI_of X G mk_Kth kp_Kth n_Kth q75 (by walk_at "b4") fun F=>ok_Kth___init__ F er C_kth C_Rec_turn C_Rule___init__
 have C_Every___init__:CalI l.prog w K mg base CX0 7 "Every" c_Every ["self","number","R","day"] (spIVT K c_Rule [c_All,c_No,c_Each,c_Dated,c_Not,c_Both,c_Either,c_But,c_Unlike,c_Later,c_Upon,c_Until,c_Near,c_Till,c_Kth,c_Every] c_Every):=calI_of X G mk_Every kp_Every n_Every q76 (by walk_at "b4") fun F=>ok_Every___init__ F er C_every C_Rec_turn C_Rule___init__
 have C_told_by_one:Cal l.prog w K mg base 5 "told_by_one" ["turn"] (spToldBy K c_Rule [c_All,c_No,c_Each,c_Dated,c_Not,c_Both,c_Either,c_But,c_Unlike,c_Later,c_Upon,c_Until,c_Near,c_Till,c_Kth,c_Every]):=cal_of X G q77 (by walk_at "b1") fun F=>ok_told_by_one F er C_All___init__ C_No___init__ C_days_in C_Each___init__ y_len
 have C_parts_in:Cal l.prog w K mg base 62 "parts_in" ["rule"] (spPartsIn K c_Rule [c_All,c_No,c_Each,c_Dated,c_Not,c_Both,c_Either,c_But,c_Unlike,c_Later,c_Upon,c_Until,c_Near,c_Till,c_Kth,c_Every]):=cal_of X G q78 (by walk_at "b1") fun F=>ok_parts_in F C_Rec_parts y_len
 have C_shorter:Cal l.prog w K mg base 66 "shorter" ["rule"] (spShorter K c_Rule [c_All,c_No,c_Each,c_Dated,c_Not,c_Both,c_Either,c_But,c_Unlike,c_Later,c_Upon,c_Until,c_Near,c_Till,c_Kth,c_Every]):=cal_of X G q79 (by walk_at "b1") fun F=>ok_shorter F C_least C_Rec_turn C_told_by_one C_Rec_parts C_parts_in y_min
 have C_law_cell_at:Cal l.prog w K mg base 1 "_law_cell_at" ["_law_script","_law_k"] (spCell K):=cal_of X G q80 (by walk_at "b2") fun F=>ok_law_cell_at F y_len
 have C_law_divisor:Cal l.prog w K mg base 1 "_law_divisor" ["_law_one","_law_other"] spDivW:=cal_of X G q81 (by walk_at "b2") fun F=>ok_law_divisor F
 have C_law_leaf:Cal l.prog w K mg base 9 "_law_leaf" ["_law_word","_law_beside","_law_names_here"] (spLeaf67 K c_Rule [c_All,c_No,c_Each,c_Dated,c_Not,c_Both,c_Either,c_But,c_Unlike,c_Later,c_Upon,c_Until,c_Near,c_Till,c_Kth,c_Every]):=cal_of X G q82 (by walk_at "b3") fun F=>ok_law_leaf F er C_All___init__ C_No___init__ C_Dated___init__ C_Sun___init___d2 C_Each___init__
 have C_law_pair:Cal l.prog w K mg base 12 "_law_pair" ["_law_word","_law_one","_law_other"] (spPair67 K c_Rule [c_All,c_No,c_Each,c_Dated,c_Not,c_Both,c_Either,c_But,c_Unlike,c_Later,c_Upon,c_Until,c_Near,c_Till,c_Kth,c_Every]):=cal_of X G q83 (by walk_at "b3") fun F=>ok_law_pair F er C_Both___init__ C_Either___init__ C_But___init__ C_Unlike___init__ C_Upon___init__ C_Until___init__ C_Near___init__ C_Till___init__
 have C_law_made:Cal l.prog w K mg base 13 "_law_made" ["_law_word","_law_beside","_law_one","_law_other"] (spMade67 K c_Rule [c_All,c_No,c_Each,c_Dated,c_Not,c_Both,c_Either,c_But,c_Unlike,c_Later,c_Upon,c_Until,c_Near,c_Till,c_Kth,c_Every]):=cal_of X G q84 (by walk_at "b4") fun F=>ok_law_made F er C_Not___init__ C_Later___init__ C_Every___init__ C_law_divisor C_Kth___init__ C_law_pair
 have C_law_rule:Cal l.prog w K mg base 14 "_law_rule" ["_law_script"] (spRule67 K c_Rule [c_All,c_No,c_Each,c_Dated,c_Not,c_Both,c_Either,c_But,c_Unlike,c_Later,c_Upon,c_Until,c_Near,c_Till,c_Kth,c_Every]):=cal_of X G q85 (by walk_at "b1") fun F=>ok_law_rule F C_law_cell_at C_law_leaf C_law_made y_range y_min y_len
 have C_law_long:Cal l.prog w K mg base 1 "_law_long" ["_law_turn","_law_size"] (spLong67 K):=cal_of X G q86 (by walk_at "b2") fun F=>ok_law_long F
 have C_law_one_part:Cal l.prog w K mg base 1 "_law_one_part" ["_law_bits","_law_size"] spOneP67:=cal_of X G q87 (by walk_at "b2") fun F=>ok_law_one_part F y_range y_len
 have C_law_names:Cal l.prog w K mg base 62 "_law_names" ["_law_rule_here"] (spNames67 K c_Rule [c_All,c_No,c_Each,c_Dated,c_Not,c_Both,c_Either,c_But,c_Unlike,c_Later,c_Upon,c_Until,c_Near,c_Till,c_Kth,c_Every]):=cal_of X G q88 (by walk_at "b1") fun F=>ok_law_names F C_Rec_shown C_Rec_parts
 have C_law_alike:Cal l.prog w K mg base 3 "_law_alike" ["_law_rule_here","_law_found"] (spAlike67 K c_Rule [c_All,c_No,c_Each,c_Dated,c_Not,c_Both,c_Either,c_But,c_Unlike,c_Later,c_Upon,c_Until,c_Near,c_Till,c_Kth,c_Every]):=cal_of X G q89 (by walk_at "b2") fun F=>ok_law_alike F C_Rec_turn C_Rec_size C_law_long
 exact ok_law F90 er C_law_cell_at C_law_rule C_Rec_shown C_shorter C_law_alike C_Rec_on C_Rec_turn C_Rec_parts C_law_long C_law_one_part C_law_names y_isinstance y_len
end Fw
def PySem.W.Fast.tw17574860849264407648:Unit:=()
def PySem.W.Fast.tw2895653226632650368:Unit:=()
def PySem.W.Fast.tw16830010660560590145:Unit:=()
def PySem.W.Fast.tw18168991947365130758:Unit:=()
def PySem.W.Fast.tw14154569288459203221:Unit:=()
def PySem.W.Fast.tw14126673817320965724:Unit:=()
def PySem.W.Fast.tw18225723237105785091:Unit:=()
def PySem.W.Fast.tw9133637396802683873:Unit:=()
def PySem.W.Fast.tw9585513045335309613:Unit:=()
def PySem.W.Fast.tw10768515300288318642:Unit:=()
def PySem.W.Fast.tw17441819481146956938:Unit:=()
def PySem.W.Fast.tw7152185087309310883:Unit:=()
def PySem.W.Fast.tw686232867209634163:Unit:=()
def PySem.W.Fast.tw2652317747008118701:Unit:=()
def PySem.W.Fast.tw2137657934233774096:Unit:=()
def PySem.W.Fast.tw6073992742854946170:Unit:=()
def PySem.W.Fast.tw8978680716428553494:Unit:=()
def PySem.W.Fast.tw9234653499731815321:Unit:=()
def PySem.W.Fast.tw17175763951680226358:Unit:=()
def PySem.W.Fast.tw16159381011974611335:Unit:=()
def PySem.W.Fast.tw2767194754588284751:Unit:=()
def PySem.W.Fast.tw582798780920653592:Unit:=()
def PySem.W.Fast.tw8915039625251829876:Unit:=()
def PySem.W.Fast.tw7542337932974364515:Unit:=()
def PySem.W.Fast.tw9826811807803275497:Unit:=()
def PySem.W.Fast.tw3650147879743001807:Unit:=()
def PySem.W.Fast.tw2690529119346830116:Unit:=()
def PySem.W.Fast.tw17446258330492538088:Unit:=()
def PySem.W.Fast.tw4347536134863708841:Unit:=()
def PySem.W.Fast.tw4888730049880430041:Unit:=()
def PySem.W.Fast.tw9811628377042621674:Unit:=()
def PySem.W.Fast.tw3091554266532888507:Unit:=()
def PySem.W.Fast.tw11987219357993347219:Unit:=()
def PySem.W.Fast.tw524961514233922165:Unit:=()
def PySem.W.Fast.tw9502131869417751855:Unit:=()
def PySem.W.Fast.tw12029502351767000117:Unit:=()
def PySem.W.Fast.tw11492371151712517928:Unit:=()
def PySem.W.Fast.tw17239589430452241149:Unit:=()
def PySem.W.Fast.tw11721905238087364101:Unit:=()
def PySem.W.Fast.tw2639165204299265630:Unit:=()
def PySem.W.Fast.tw8712214666083126057:Unit:=()
def PySem.W.Fast.tw1447126989214430824:Unit:=()
def PySem.W.Fast.tw14606979784348815992:Unit:=()
def PySem.W.Fast.tw8510428863934689097:Unit:=()
def PySem.W.Fast.tw17121768640168018861:Unit:=()
def PySem.W.Fast.tw3170982388422848745:Unit:=()
def PySem.W.Fast.tw6637696800088487214:Unit:=()
def PySem.W.Fast.tw6513864898883934517:Unit:=()
def PySem.W.Fast.tw880628111130145766:Unit:=()
def PySem.W.Fast.tw5372853690759426202:Unit:=()
def PySem.W.Fast.tw16891361857914224546:Unit:=()
def PySem.W.Fast.tw6491665550430525598:Unit:=()
def PySem.W.Fast.tw18242161083500058934:Unit:=()
def PySem.W.Fast.tw1711472603557334280:Unit:=()
def PySem.W.Fast.tw11013932947307822005:Unit:=()
def PySem.W.Fast.tw18318188052539441161:Unit:=()
def PySem.W.Fast.tw14052042236824359045:Unit:=()
def PySem.W.Fast.tw2388888097577650945:Unit:=()
def PySem.W.Fast.tw7412938447852426002:Unit:=()
def PySem.W.Fast.tw2468684607489439015:Unit:=()
def PySem.W.Fast.tw9892215243552468843:Unit:=()
def PySem.W.Fast.tw12846928276903229264:Unit:=()
def PySem.W.Fast.tw11918615818069893105:Unit:=()
def PySem.W.Fast.tw3957525818218424069:Unit:=()
def PySem.W.Fast.tw13370976762818518249:Unit:=()
def PySem.W.Fast.tw13440729468593414926:Unit:=()
def PySem.W.Fast.tw7515043878485194041:Unit:=()
def PySem.W.Fast.tw12727172709863860962:Unit:=()
def PySem.W.Fast.tw16608092694201215025:Unit:=()
def PySem.W.Fast.tw3637606262343715616:Unit:=()
def PySem.W.Fast.tw17911017028540900160:Unit:=()
def PySem.W.Fast.tw4845570519243790828:Unit:=()
def PySem.W.Fast.tw16650095360148078008:Unit:=()
def PySem.W.Fast.tw1450451625046574480:Unit:=()
def PySem.W.Fast.tw1711047116904549758:Unit:=()
def PySem.W.Fast.tw9788154481619164053:Unit:=()
def PySem.W.Fast.tw14022285837930529705:Unit:=()
def PySem.W.Fast.tw17175912606273343073:Unit:=()
def PySem.W.Fast.tw13065129217951557618:Unit:=()
def PySem.W.Fast.tw1654083969237989508:Unit:=()
def PySem.W.Fast.tw2877200656528672674:Unit:=()
def PySem.W.Fast.tw5683885914294167129:Unit:=()
def PySem.W.Fast.tw8855379096792417626:Unit:=()
def PySem.W.Fast.tw10375528069725619529:Unit:=()
def PySem.W.Fast.tw11349525807575640850:Unit:=()
def PySem.W.Fast.tw16207846395774837782:Unit:=()
def PySem.W.Fast.tw2163766941592402526:Unit:=()
def PySem.W.Fast.tw18386291226956974880:Unit:=()
def PySem.W.Fast.tw9462340075494981633:Unit:=()
def PySem.W.Fast.tw15889036713978739965:Unit:=()
def PySem.W.Fast.tw11487836384509358819:Unit:=()
def PySem.W.Fast.tw8495405910179562845:Unit:=()
def PySem.W.Fast.tw14260642169941289796:Unit:=()
def PySem.W.Fast.tw13954629281869477795:Unit:=()
def PySem.W.Fast.tw355489883933782915:Unit:=()
def PySem.W.Fast.tw8276129443610605168:Unit:=()
def PySem.W.Fast.tw6770735889906613342:Unit:=()
def PySem.W.Fast.tw12812828866448236067:Unit:=()
def PySem.W.Fast.tw7268573499868649587:Unit:=()
def PySem.W.Fast.tw11088349772972591780:Unit:=()
def PySem.W.Fast.tw12389404880568484368:Unit:=()
def PySem.W.Fast.tw10779697497497912480:Unit:=()
def PySem.W.Fast.tw8865310732242055689:Unit:=()
def PySem.W.Fast.tw12811363546950829152:PySem.Program:=PySem.Challenge.pw_feastwheel_k67_put_shorter
theorem PySem.W.Fast.te12811363546950829152:PySem.Challenge.pw_feastwheel_k67_put_shorter=PySem.W.Fast.tw12811363546950829152:=rfl
open PySem PySem.W PyProof.Rows
local macro_rules | `(tactic| walk_at "qg")=> `(tactic| (refine' L2.fnG_mk ?_ ?_ ?_ ?_<;>first | k_is | skip))
local macro_rules | `(tactic| walk_at "qm")=> `(tactic| (refine' L2.fnM_mk ?_ ?_ ?_ ?_ ?_<;>first | k_is | skip))
set_option maxRecDepth 100000 in
set_option maxHeartbeats 0 in
theorem PySem.Challenge.cw_feastwheel_k67_put_shorter_holds : PySem.Challenge.rw_feastwheel_k67_put_shorter.Holds := by
 w_on;o_law;k_head;(case hw=>w_witness2)
 k_fill
 refine L2.walk_ofB (l:=PySem.Challenge.rw_feastwheel_k67_put_shorter) (k:=67) rfl rfl ⟨rfl,by decide,by decide,rfl⟩ (fun w h Y=>PySem.W.kIn_of Y) ?F
 case F=>
  intro w mg fa h KX G hmg
  refine' Fw.all_mk KX G hmg ?n_FeastError ?n_NoNumber ?n_TooLong ?n_NoMeasure ?n_Measure ?pg_Measure ?k_Measure ?po_Measure ?sa_Measure ?mk_Measure ?kp_Measure ?na_Measure_base ?na_Measure_terms ?na_Measure_full_count ?na_Measure_full_sum ?n_Sun ?pg_Sun ?k_Sun ?po_Sun ?sa_Sun ?mk_Sun ?kp_Sun ?na_Sun_start ?na_Sun_months ?na_Sun_leap ?na_Sun_years ?n_Calendar ?n_Rule ?n_All ?pg_All ?k_All ?po_All ?sa_All ?mk_All ?kp_All ?na_All_kept ?na_All_made_of ?na_All_words ?ca_All ?ob_All ?i_All_Rule ?n_No ?pg_No ?k_No ?po_No ?sa_No ?mk_No ?kp_No ?na_No_kept ?na_No_made_of ?na_No_words ?ca_No ?ob_No ?i_No_Rule ?n_Each ?pg_Each ?k_Each ?po_Each ?sa_Each ?mk_Each ?kp_Each ?na_Each_kept ?na_Each_made_of ?na_Each_words ?ca_Each ?ob_Each ?i_Each_Rule ?n_Dated ?pg_Dated ?k_Dated ?po_Dated ?sa_Dated ?mk_Dated ?kp_Dated ?na_Dated_kept ?na_Dated_made_of ?na_Dated_words ?ca_Dated ?ob_Dated ?i_Dated_Rule ?n_Not ?pg_Not ?k_Not ?po_Not ?sa_Not ?mk_Not ?kp_Not ?na_Not_kept ?na_Not_made_of ?na_Not_words ?ca_Not ?ob_Not ?i_Not_Rule ?n_Both ?pg_Both ?k_Both ?po_Both ?sa_Both ?mk_Both ?kp_Both ?na_Both_kept ?na_Both_made_of ?na_Both_words ?ca_Both ?ob_Both ?i_Both_Rule ?n_Either ?pg_Either ?k_Either ?po_Either ?sa_Either ?mk_Either ?kp_Either ?na_Either_kept ?na_Either_made_of ?na_Either_words ?ca_Either ?ob_Either ?i_Either_Rule ?n_But ?pg_But ?k_But ?po_But ?sa_But ?mk_But ?kp_But ?na_But_kept ?na_But_made_of ?na_But_words ?ca_But ?ob_But ?i_But_Rule ?n_Unlike ?pg_Unlike ?k_Unlike ?po_Unlike ?sa_Unlike ?mk_Unlike ?kp_Unlike ?na_Unlike_kept ?na_Unlike_made_of ?na_Unlike_words ?ca_Unlike ?ob_Unlike ?i_Unlike_Rule ?n_Later ?pg_Later ?k_Later ?po_Later ?sa_Later ?mk_Later ?kp_Later ?na_Later_kept ?na_Later_made_of ?na_Later_words ?ca_Later ?ob_Later ?i_Later_Rule ?n_Upon ?pg_Upon ?k_Upon ?po_Upon ?sa_Upon ?mk_Upon ?kp_Upon ?na_Upon_kept ?na_Upon_made_of ?na_Upon_words ?ca_Upon ?ob_Upon ?i_Upon_Rule ?n_Until ?pg_Until ?k_Until ?po_Until ?sa_Until ?mk_Until ?kp_Until ?na_Until_kept ?na_Until_made_of ?na_Until_words ?ca_Until ?ob_Until ?i_Until_Rule ?n_Near ?pg_Near ?k_Near ?po_Near ?sa_Near ?mk_Near ?kp_Near ?na_Near_kept ?na_Near_made_of ?na_Near_words ?ca_Near ?ob_Near ?i_Near_Rule ?n_Till ?pg_Till ?k_Till ?po_Till ?sa_Till ?mk_Till ?kp_Till ?na_Till_kept ?na_Till_made_of ?na_Till_words ?ca_Till ?ob_Till ?i_Till_Rule ?n_Kth ?pg_Kth ?k_Kth ?po_Kth ?sa_Kth ?mk_Kth ?kp_Kth ?na_Kth_kept ?na_Kth_made_of ?na_Kth_words ?ca_Kth ?ob_Kth ?i_Kth_Rule ?n_Every ?pg_Every ?k_Every ?po_Every ?sa_Every ?mk_Every ?kp_Every ?na_Every_kept ?na_Every_made_of ?na_Every_words ?ca_Every ?ob_Every ?i_Every_Rule ?bsp_Rule ?brd_Rule ?xsp ?xtk ?q0 ?q1 ?q2 ?q3 ?q4 ?q5 ?q6 ?q7 ?q8 ?q9 ?q10 ?q11 ?q12 ?q13 ?q14 ?q15 ?q16 ?a17 ?l17 ?c17 ?k17 ?a18 ?l18 ?c18 ?k18 ?q19 ?q20 ?q21 ?q22 ?q23 ?q24 ?q25 ?q26 ?q27 ?q28 ?q29 ?q30 ?q31 ?q32 ?q33 ?q34 ?q35 ?q36 ?q37 ?q38 ?q39 ?q40 ?q41 ?a42 ?l42 ?c42 ?k42 ?t42 ?u42 ?q43 ?q44 ?q45 ?a46 ?l46 ?c46 ?k46 ?t46 ?u46 ?q47 ?q48 ?q49 ?q50 ?a51 ?l51 ?c51 ?k51 ?t51 ?a52 ?l52 ?c52 ?k52 ?t52 ?bfc52 ?q53_0 ?q53_1 ?q53_2 ?q53_3 ?q53_4 ?q53_5 ?q53_6 ?q53_7 ?q53_8 ?q53_9 ?q53_10 ?q53_11 ?q53_12 ?q53_13 ?q53_14 ?q53_15 ?q54_0 ?q54_1 ?q54_2 ?q54_3 ?q54_4 ?q54_5 ?q54_6 ?q54_7 ?q54_8 ?q54_9 ?q54_10 ?q54_11 ?q54_12 ?q54_13 ?q54_14 ?q54_15 ?q55_0 ?q55_1 ?q55_2 ?q55_3 ?q55_4 ?q55_5 ?q55_6 ?q55_7 ?q55_8 ?q55_9 ?q55_10 ?q55_11 ?q55_12 ?q55_13 ?q55_14 ?q55_15 ?q56_0 ?q56_1 ?q56_2 ?q56_3 ?q56_4 ?q56_5 ?q56_6 ?q56_7 ?q56_8 ?q56_9 ?q56_10 ?q56_11 ?q56_12 ?q56_13 ?q56_14 ?q56_15 ?q57_0 ?q57_1 ?q57_2 ?q57_3 ?q57_4 ?q57_5 ?q57_6 ?q57_7 ?q57_8 ?q57_9 ?q57_10 ?q57_11 ?q57_12 ?q57_13 ?q57_14 ?q57_15 ?q58 ?q59 ?q60 ?q61 ?q62 ?q63 ?a64 ?l64 ?c64 ?k64 ?t64 ?u64 ?q65 ?q66 ?q67 ?q68 ?q69 ?q70 ?q71 ?q72 ?q73 ?q74 ?q75 ?q76 ?q77 ?q78 ?q79 ?q80 ?q81 ?q82 ?q83 ?q84 ?q85 ?q86 ?q87 ?q88 ?q89 ?a90 ?l90 ?c90 ?k90 ?z_range ?z_len ?z_list ?z_abs ?z_zip ?z_sum ?z_all ?z_tuple ?z_min ?z_max ?z_str ?z_isinstance ?m_LONGEST ?m_PIECE ?m_GREATEST_N ?m_GREATEST_BASE ?m_MOST_TERMS ?m_MOST_MONTHS ?m_LONGEST_MONTH
  (case n_FeastError=>k_is)
  (case n_NoNumber=>k_is)
  (case n_TooLong=>k_is)
  (case n_NoMeasure=>k_is)
  (case n_Measure=>k_is)
  (case pg_Measure=>k_is)
  (case k_Measure=>k_is)
  (case po_Measure=>k_is)
  (case sa_Measure=>k_is)
  (case mk_Measure=>k_is)
  (case kp_Measure=>k_is)
  (case na_Measure_base=>k_is)
  (case na_Measure_terms=>k_is)
  (case na_Measure_full_count=>k_is)
  (case na_Measure_full_sum=>k_is)
  (case n_Sun=>k_is)
  (case pg_Sun=>k_is)
  (case k_Sun=>k_is)
  (case po_Sun=>k_is)
  (case sa_Sun=>k_is)
  (case mk_Sun=>k_is)
  (case kp_Sun=>k_is)
  (case na_Sun_start=>k_is)
  (case na_Sun_months=>k_is)
  (case na_Sun_leap=>k_is)
  (case na_Sun_years=>k_is)
  (case n_Calendar=>k_is)
  (case n_Rule=>k_is)
  (case n_All=>k_is)
  (case pg_All=>k_is)
  (case k_All=>k_is)
  (case po_All=>k_is)
  (case sa_All=>k_is)
  (case mk_All=>k_is)
  (case kp_All=>k_is)
  (case na_All_kept=>k_is)
  (case na_All_made_of=>k_is)
  (case na_All_words=>k_is)
  (case ca_All=>k_is)
  (case ob_All=>k_is)
  (case i_All_Rule=>kit_is)
  (case n_No=>k_is)
  (case pg_No=>k_is)
  (case k_No=>k_is)
  (case po_No=>k_is)
  (case sa_No=>k_is)
  (case mk_No=>k_is)
  (case kp_No=>k_is)
  (case na_No_kept=>k_is)
  (case na_No_made_of=>k_is)
  (case na_No_words=>k_is)
  (case ca_No=>k_is)
  (case ob_No=>k_is)
  (case i_No_Rule=>kit_is)
  (case n_Each=>k_is)
  (case pg_Each=>k_is)
  (case k_Each=>k_is)
  (case po_Each=>k_is)
  (case sa_Each=>k_is)
  (case mk_Each=>k_is)
  (case kp_Each=>k_is)
  (case na_Each_kept=>k_is)
  (case na_Each_made_of=>k_is)
  (case na_Each_words=>k_is)
  (case ca_Each=>k_is)
  (case ob_Each=>k_is)
  (case i_Each_Rule=>kit_is)
  (case n_Dated=>k_is)
  (case pg_Dated=>k_is)
  (case k_Dated=>k_is)
  (case po_Dated=>k_is)
  (case sa_Dated=>k_is)
  (case mk_Dated=>k_is)
  (case kp_Dated=>k_is)
  (case na_Dated_kept=>k_is)
  (case na_Dated_made_of=>k_is)
  (case na_Dated_words=>k_is)
  (case ca_Dated=>k_is)
  (case ob_Dated=>k_is)
  (case i_Dated_Rule=>kit_is)
  (case n_Not=>k_is)
  (case pg_Not=>k_is)
  (case k_Not=>k_is)
  (case po_Not=>k_is)
  (case sa_Not=>k_is)
  (case mk_Not=>k_is)
  (case kp_Not=>k_is)
  (case na_Not_kept=>k_is)
  (case na_Not_made_of=>k_is)
  (case na_Not_words=>k_is)
  (case ca_Not=>k_is)
  (case ob_Not=>k_is)
  (case i_Not_Rule=>kit_is)
  (case n_Both=>k_is)
  (case pg_Both=>k_is)
  (case k_Both=>k_is)
  (case po_Both=>k_is)
  (case sa_Both=>k_is)
  (case mk_Both=>k_is)
  (case kp_Both=>k_is)
  (case na_Both_kept=>k_is)
  (case na_Both_made_of=>k_is)
  (case na_Both_words=>k_is)
  (case ca_Both=>k_is)
  (case ob_Both=>k_is)
  (case i_Both_Rule=>kit_is)
  (case n_Either=>k_is)
  (case pg_Either=>k_is)
  (case k_Either=>k_is)
  (case po_Either=>k_is)
  (case sa_Either=>k_is)
  (case mk_Either=>k_is)
  (case kp_Either=>k_is)
  (case na_Either_kept=>k_is)
  (case na_Either_made_of=>k_is)
  (case na_Either_words=>k_is)
  (case ca_Either=>k_is)
  (case ob_Either=>k_is)
  (case i_Either_Rule=>kit_is)
  (case n_But=>k_is)
  (case pg_But=>k_is)
  (case k_But=>k_is)
  (case po_But=>k_is)
  (case sa_But=>k_is)
  (case mk_But=>k_is)
  (case kp_But=>k_is)
  (case na_But_kept=>k_is)
  (case na_But_made_of=>k_is)
  (case na_But_words=>k_is)
  (case ca_But=>k_is)
  (case ob_But=>k_is)
  (case i_But_Rule=>kit_is)
  (case n_Unlike=>k_is)
  (case pg_Unlike=>k_is)
  (case k_Unlike=>k_is)
  (case po_Unlike=>k_is)
  (case sa_Unlike=>k_is)
  (case mk_Unlike=>k_is)
  (case kp_Unlike=>k_is)
  (case na_Unlike_kept=>k_is)
  (case na_Unlike_made_of=>k_is)
  (case na_Unlike_words=>k_is)
  (case ca_Unlike=>k_is)
  (case ob_Unlike=>k_is)
  (case i_Unlike_Rule=>kit_is)
  (case n_Later=>k_is)
  (case pg_Later=>k_is)
  (case k_Later=>k_is)
  (case po_Later=>k_is)
  (case sa_Later=>k_is)
  (case mk_Later=>k_is)
  (case kp_Later=>k_is)
  (case na_Later_kept=>k_is)
  (case na_Later_made_of=>k_is)
  (case na_Later_words=>k_is)
  (case ca_Later=>k_is)
  (case ob_Later=>k_is)
  (case i_Later_Rule=>kit_is)
  (case n_Upon=>k_is)
  (case pg_Upon=>k_is)
  (case k_Upon=>k_is)
  (case po_Upon=>k_is)
  (case sa_Upon=>k_is)
  (case mk_Upon=>k_is)
  (case kp_Upon=>k_is)
  (case na_Upon_kept=>k_is)
  (case na_Upon_made_of=>k_is)
  (case na_Upon_words=>k_is)
  (case ca_Upon=>k_is)
  (case ob_Upon=>k_is)
  (case i_Upon_Rule=>kit_is)
  (case n_Until=>k_is)
  (case pg_Until=>k_is)
  (case k_Until=>k_is)
  (case po_Until=>k_is)
  (case sa_Until=>k_is)
  (case mk_Until=>k_is)
  (case kp_Until=>k_is)
  (case na_Until_kept=>k_is)
  (case na_Until_made_of=>k_is)
  (case na_Until_words=>k_is)
  (case ca_Until=>k_is)
  (case ob_Until=>k_is)
  (case i_Until_Rule=>kit_is)
  (case n_Near=>k_is)
  (case pg_Near=>k_is)
  (case k_Near=>k_is)
  (case po_Near=>k_is)
  (case sa_Near=>k_is)
  (case mk_Near=>k_is)
  (case kp_Near=>k_is)
  (case na_Near_kept=>k_is)
  (case na_Near_made_of=>k_is)
  (case na_Near_words=>k_is)
  (case ca_Near=>k_is)
  (case ob_Near=>k_is)
  (case i_Near_Rule=>kit_is)
  (case n_Till=>k_is)
  (case pg_Till=>k_is)
  (case k_Till=>k_is)
  (case po_Till=>k_is)
  (case sa_Till=>k_is)
  (case mk_Till=>k_is)
  (case kp_Till=>k_is)
  (case na_Till_kept=>k_is)
  (case na_Till_made_of=>k_is)
  (case na_Till_words=>k_is)
  (case ca_Till=>k_is)
  (case ob_Till=>k_is)
  (case i_Till_Rule=>kit_is)
  (case n_Kth=>k_is)
  (case pg_Kth=>k_is)
  (case k_Kth=>k_is)
  (case po_Kth=>k_is)
  (case sa_Kth=>k_is)
  (case mk_Kth=>k_is)
  (case kp_Kth=>k_is)
  (case na_Kth_kept=>k_is)
  (case na_Kth_made_of=>k_is)
  (case na_Kth_words=>k_is)
  (case ca_Kth=>k_is)
  (case ob_Kth=>k_is)
  (case i_Kth_Rule=>kit_is)
  (case n_Every=>k_is)
  (case pg_Every=>k_is)
  (case k_Every=>k_is)
  (case po_Every=>k_is)
  (case sa_Every=>k_is)
  (case mk_Every=>k_is)
  (case kp_Every=>k_is)
  (case na_Every_kept=>k_is)
  (case na_Every_made_of=>k_is)
  (case na_Every_words=>k_is)
  (case ca_Every=>k_is)
  (case ob_Every=>k_is)
  (case i_Every_Rule=>kit_is)
  (case bsp_Rule=>k_is)
  (case brd_Rule=>k_is)
  (case xsp=>k_is)
  (case xtk=>k_is)
  (case q0=>walk_at "qg")
  (case q1=>walk_at "qg")
  (case q2=>walk_at "qg")
  (case q3=>walk_at "qg")
  (case q4=>walk_at "qg")
  (case q5=>walk_at "qg")
  (case q6=>walk_at "qg")
  (case q7=>walk_at "qg")
  (case q8=>walk_at "qg")
  (case q9=>walk_at "qg")
  (case q10=>walk_at "qg")
  (case q11=>walk_at "qg")
  (case q12=>walk_at "qg")
  (case q13=>walk_at "qg")
  (case q14=>walk_at "qg")
  (case q15=>walk_at "qg")
  (case q16=>walk_at "qg")
  (case a17=>k_is)
  (case l17=>k_is)
  (case c17=>k_is)
  (case k17=>k_is)
  (case a18=>k_is)
  (case l18=>k_is)
  (case c18=>k_is)
  (case k18=>k_is)
  (case q19=>walk_at "qg")
  (case q20=>walk_at "qg")
  (case q21=>walk_at "qg")
  (case q22=>walk_at "qg")
  (case q23=>walk_at "qg")
  (case q24=>walk_at "qg")
  (case q25=>walk_at "qg")
  (case q26=>walk_at "qg")
  (case q27=>walk_at "qg")
  (case q28=>walk_at "qg")
  (case q29=>walk_at "qg")
  (case q30=>walk_at "qg")
  (case q31=>walk_at "qg")
  (case q32=>walk_at "qg")
  (case q33=>walk_at "qg")
  (case q34=>walk_at "qg")
  (case q35=>walk_at "qg")
  (case q36=>walk_at "qg")
  (case q37=>walk_at "qg")
  (case q38=>walk_at "qg")
  (case q39=>walk_at "qg")
  (case q40=>walk_at "qg")
  (case q41=>walk_at "qm")
  (case a42=>k_is)
  (case l42=>k_is)
  (case c42=>k_is)
  (case k42=>k_is)
  (case t42=>k_is)
  (case u42=>k_is)
  (case q43=>walk_at "qm")
  (case q44=>walk_at "qm")
  (case q45=>walk_at "qg")
  (case a46=>k_is)
  (case l46=>k_is)
  (case c46=>k_is)
  (case k46=>k_is)
  (case t46=>k_is)
  (case u46=>k_is)
  (case q47=>walk_at "qm")
  (case q48=>walk_at "qm")
  (case q49=>walk_at "qm")
  (case q50=>walk_at "qg")
  (case a51=>k_is)
  (case l51=>k_is)
  (case c51=>k_is)
  (case k51=>k_is)
  (case t51=>k_is)
  (case a52=>k_is)
  (case l52=>k_is)
  (case c52=>k_is)
  (case k52=>k_is)
  (case t52=>k_is)
  (case bfc52=>k_is)
  (case q53_0=>walk_at "qm")
  (case q53_1=>walk_at "qm")
  (case q53_2=>walk_at "qm")
  (case q53_3=>walk_at "qm")
  (case q53_4=>walk_at "qm")
  (case q53_5=>walk_at "qm")
  (case q53_6=>walk_at "qm")
  (case q53_7=>walk_at "qm")
  (case q53_8=>walk_at "qm")
  (case q53_9=>walk_at "qm")
  (case q53_10=>walk_at "qm")
  (case q53_11=>walk_at "qm")
  (case q53_12=>walk_at "qm")
  (case q53_13=>walk_at "qm")
  (case q53_14=>walk_at "qm")
  (case q53_15=>walk_at "qm")
  (case q54_0=>walk_at "qm")
  (case q54_1=>walk_at "qm")
  (case q54_2=>walk_at "qm")
  (case q54_3=>walk_at "qm")
  (case q54_4=>walk_at "qm")
  (case q54_5=>walk_at "qm")
  (case q54_6=>walk_at "qm")
  (case q54_7=>walk_at "qm")
  (case q54_8=>walk_at "qm")
  (case q54_9=>walk_at "qm")
  (case q54_10=>walk_at "qm")
  (case q54_11=>walk_at "qm")
  (case q54_12=>walk_at "qm")
  (case q54_13=>walk_at "qm")
  (case q54_14=>walk_at "qm")
  (case q54_15=>walk_at "qm")
  (case q55_0=>walk_at "qm")
  (case q55_1=>walk_at "qm")
  (case q55_2=>walk_at "qm")
  (case q55_3=>walk_at "qm")
  (case q55_4=>walk_at "qm")
  (case q55_5=>walk_at "qm")
  (case q55_6=>walk_at "qm")
  (case q55_7=>walk_at "qm")
  (case q55_8=>walk_at "qm")
  (case q55_9=>walk_at "qm")
  (case q55_10=>walk_at "qm")
  (case q55_11=>walk_at "qm")
  (case q55_12=>walk_at "qm")
  (case q55_13=>walk_at "qm")
  (case q55_14=>walk_at "qm")
  (case q55_15=>walk_at "qm")
  (case q56_0=>walk_at "qm")
  (case q56_1=>walk_at "qm")
  (case q56_2=>walk_at "qm")
  (case q56_3=>walk_at "qm")
  (case q56_4=>walk_at "qm")
  (case q56_5=>walk_at "qm")
  (case q56_6=>walk_at "qm")
  (case q56_7=>walk_at "qm")
  (case q56_8=>walk_at "qm")
  (case q56_9=>walk_at "qm")
  (case q56_10=>walk_at "qm")
  (case q56_11=>walk_at "qm")
  (case q56_12=>walk_at "qm")
  (case q56_13=>walk_at "qm")
  (case q56_14=>walk_at "qm")
  (case q56_15=>walk_at "qm")
  (case q57_0=>walk_at "qm")
  (case q57_1=>walk_at "qm")
  (case q57_2=>walk_at "qm")
  (case q57_3=>walk_at "qm")
  (case q57_4=>walk_at "qm")
  (case q57_5=>walk_at "qm")
  (case q57_6=>walk_at "qm")
  (case q57_7=>walk_at "qm")
  (case q57_8=>walk_at "qm")
  (case q57_9=>walk_at "qm")
  (case q57_10=>walk_at "qm")
  (case q57_11=>walk_at "qm")
  (case q57_12=>walk_at "qm")
  (case q57_13=>walk_at "qm")
  (case q57_14=>walk_at "qm")
  (case q57_15=>walk_at "qm")
  (case q58=>walk_at "qm")
  (case q59=>walk_at "qm")
  (case q60=>walk_at "qg")
  (case q61=>walk_at "qm")
  (case q62=>walk_at "qg")
  (case q63=>walk_at "qg")
  (case a64=>k_is)
  (case l64=>k_is)
  (case c64=>k_is)
  (case k64=>k_is)
  (case t64=>k_is)
  (case u64=>k_is)
  (case q65=>walk_at "qm")
  (case q66=>walk_at "qm")
  (case q67=>walk_at "qm")
  (case q68=>walk_at "qm")
  (case q69=>walk_at "qm")
  (case q70=>walk_at "qm")
  (case q71=>walk_at "qm")
  (case q72=>walk_at "qm")
  (case q73=>walk_at "qm")
  (case q74=>walk_at "qm")
  (case q75=>walk_at "qm")
  (case q76=>walk_at "qm")
  (case q77=>walk_at "qg")
  (case q78=>walk_at "qg")
  (case q79=>walk_at "qg")
  (case q80=>walk_at "qg")
  (case q81=>walk_at "qg")
  (case q82=>walk_at "qg")
  (case q83=>walk_at "qg")
  (case q84=>walk_at "qg")
  (case q85=>walk_at "qg")
  (case q86=>walk_at "qg")
  (case q87=>walk_at "qg")
  (case q88=>walk_at "qg")
  (case q89=>walk_at "qg")
  (case a90=>k_is)
  (case l90=>k_is)
  (case c90=>k_is)
  (case k90=>k_is)
  (case z_range=>k_is)
  (case z_len=>k_is)
  (case z_list=>k_is)
  (case z_abs=>k_is)
  (case z_zip=>k_is)
  (case z_sum=>k_is)
  (case z_all=>k_is)
  (case z_tuple=>k_is)
  (case z_min=>k_is)
  (case z_max=>k_is)
  (case z_str=>k_is)
  (case z_isinstance=>k_is)
  (case m_LONGEST=>k_is)
  (case m_PIECE=>k_is)
  (case m_GREATEST_N=>k_is)
  (case m_GREATEST_BASE=>k_is)
  (case m_MOST_TERMS=>k_is)
  (case m_MOST_MONTHS=>k_is)
  (case m_LONGEST_MONTH=>k_is)
#print axioms PySem.Challenge.cw_feastwheel_k67_put_shorter_holds
