import PyProof.Rows.All
import Wide.All
import OpenK.AllK
import Wide.FinOn
import Lean
import PyProof.EqAt
import PyProof.EqKinds
import PyProof.TupleCall
import PySem.Challenge.RW_feastwheel_k65_rules_refused
set_option Elab.async false
set_option linter.all false
set_option maxRecDepth 100000
namespace L2
open PySem PySem.Spec PyProof.Rows
abbrev Key:=Sum Int Str
def keyIs:Key→Value→Bool
 | .inl k,v=>Value.isInt k v
 | .inr x,v=>Value.isStrOf x v
def keyH(w:World):Key→Int
 | .inl k=>hashInt k
 | .inr x=>hashStr w x
theorem keyIs_shape:∀{k:Key} {v:Value},keyIs k v=true→(∃i t,k=Sum.inl i∧v=Value.int i t)∨(∃x t,k=Sum.inr x∧v=Value.str x t)
 | .inl i,v,h=>by
  obtain⟨t,e⟩:=Value.isInt_shape (k:=i) (v:=v) h
  exact .inl ⟨i,t,rfl,e⟩
 | .inr x,v,h=>by
  obtain⟨t,e⟩:=Value.isStrOf_shape (x:=x) (v:=v) h
  exact .inr ⟨x,t,rfl,e⟩
theorem key_ll(a b:Int):decide ((Sum.inl a:Key)=Sum.inl b)=(a==b):=by
 by_cases e:a=b
 ·subst e;simp
 ·have h:¬(Sum.inl a:Key)=Sum.inl b:=fun q=>e (Sum.inl.inj q)
  rw[decide_eq_false h]
  exact(beq_eq_false_iff_ne.mpr e).symm
theorem key_rr(a b:Str):decide ((Sum.inr a:Key)=Sum.inr b)=decide (a=b):=by
 by_cases e:a=b
 ·subst e;simp
 ·have h:¬(Sum.inr a:Key)=Sum.inr b:=fun q=>e (Sum.inr.inj q)
  rw[decide_eq_false h,decide_eq_false e]
theorem key_lr(a:Int)(b:Str):decide ((Sum.inl a:Key)=Sum.inr b)=false:=decide_eq_false (fun q=>nomatch q)
theorem key_rl(a:Str)(b:Int):decide ((Sum.inr a:Key)=Sum.inl b)=false:=decide_eq_false (fun q=>nomatch q)
def mixKind(prog:Program)(w:World):PySem.KeyKind prog w Key where
 is:=keyIs
 hash:=keyH w
 inj:=fun v a b ha hb=>by
  rcases keyIs_shape ha with ⟨i,t,rfl,rfl⟩ | ⟨x,t,rfl,rfl⟩
  ·rcases keyIs_shape hb with ⟨j,u,rfl,e⟩ | ⟨y,u,rfl,e⟩
   ·injection e with e1 _;rw[e1]
   ·exact nomatch e
  ·rcases keyIs_shape hb with ⟨j,u,rfl,e⟩ | ⟨y,u,rfl,e⟩
   ·exact nomatch e
   ·injection e with e1 _;rw[e1]
 byValue:=fun k v h=>by
  rcases keyIs_shape h with ⟨i,t,rfl,rfl⟩ | ⟨x,t,rfl,rfl⟩<;>rfl
 pyHash:=fun hv h=>by
  rcases keyIs_shape hv with ⟨i,t,rfl,rfl⟩ | ⟨x,t,rfl,rfl⟩
  ·exact wpAny_pyHash_int h
  ·exact wpAny_pyHash_str h
 eqBool:=fun hu hv h=>by
  rcases keyIs_shape hu with ⟨i,t,rfl,rfl⟩ | ⟨x,t,rfl,rfl⟩
  ·rcases keyIs_shape hv with ⟨j,u,rfl,rfl⟩ | ⟨y,u,rfl,rfl⟩
   ·rw[key_ll] at h;exact wpAny_eqBool_int h
   ·rw[key_lr] at h;exact SeqAt.EqAt.int_str i t y u _ _ _ _ h
  ·rcases keyIs_shape hv with ⟨j,u,rfl,rfl⟩ | ⟨y,u,rfl,rfl⟩
   ·rw[key_rl] at h;exact SeqAt.EqAt.str_int x t j u _ _ _ _ h
   ·rw[key_rr] at h;exact wpAny_eqBool_str h
 «strs»:=fun k x t v h=>by
  rcases keyIs_shape h with ⟨i,u,rfl,e⟩ | ⟨y,u,rfl,e⟩
  ·exact nomatch e
  ·injection e with e1 _
   subst e1
   cases v<;>rfl
end L2
namespace L2
open PySem PySem.Spec PyProof.Rows
inductive V where
 | non | bl (b:Bool) | int (i:Int) | str (x:Str) | byt (b:Array UInt8) | flt (b:UInt64) | ref (a:Addr) | ty (n:String)
 deriving DecidableEq
def RelV:V→Value→Prop
 | .non,u=>u=Value.none
 | .bl b,u=>u=Value.bool b
 | .int i,u=>∃t,u=Value.int i t
 | .str x,u=>∃t,u=Value.str x t
 | .byt b,u=>∃t,u=Value.bytes b t
 | .flt b,u=>∃t,u=Value.float b t
 | .ref a,u=>u=Value.ref a
 | .ty n,u=>u=Value.type n
abbrev Vals:List V→List Value→Prop:=Paired RelV
theorem Vals.length{xs:List V}{us:List Value}(r:Vals xs us):xs.length=us.length:=Paired.length r
theorem Vals.get:∀{xs:List V} {us:List Value} {i:Nat} {x:V},Vals xs us→xs[i]?=some x→∃u,us[i]?=some u∧RelV x u
 | _,_,_,_,.nil,e=>by simp at e
 | _,_,0,_,.cons r _,e=>by simp at e;subst e;exact⟨_,rfl,r⟩
 | _,_,i+1,x,.cons _ t,e=>by
  obtain⟨u,h1,h2⟩:=Vals.get (i:=i) (x:=x) t (by simpa using e)
  exact⟨u,by simpa using h1,h2⟩
theorem Vals.set{x:V}{u:Value}(r:RelV x u):∀{xs:List V} {us:List Value} (i:Nat),Vals xs us→Vals (xs.set i x) (us.set i u)
 | _,_,_,.nil=>.nil
 | _,_,0,.cons _ t=>.cons r t
 | _,_,i+1,.cons q t=>.cons q (Vals.set r i t)
theorem Vals.append:∀{xs ys:List V} {us ws:List Value},Vals xs us→Vals ys ws→Vals (xs++ys) (us++ws)
 | _,_,_,_,.nil,s=>s
 | _,_,_,_,.cons r t,s=>.cons r (Vals.append t s)
theorem Vals.take:∀{xs:List V} {us:List Value} (n:Nat),Vals xs us→Vals (xs.take n) (us.take n)
 | _,_,0,_=>.nil
 | _,_,_+1,.nil=>.nil
 | _,_,n+1,.cons r t=>.cons r (Vals.take n t)
theorem Vals.drop:∀{xs:List V} {us:List Value} (n:Nat),Vals xs us→Vals (xs.drop n) (us.drop n)
 | _,_,0,r=>r
 | _,_,_+1,.nil=>.nil
 | _,_,n+1,.cons _ t=>Vals.drop n t
def RelO:Option V→Option Value→Prop
 | some v,some u=>RelV v u
 | none,none=>True
 | _,_=>False
def KV{κ:Type}:List (κ×V)→List (κ×Value)→Prop:=Paired fun(p:κ×V) (q:κ×Value)=>p.1=q.1∧RelV p.2 q.2
def kV:Key→V
 | .inl i=>.int i
 | .inr x=>.str x
inductive HO where
 | lst (xs:List V)
 | tup (xs:List V)
 | dK (kvs:List (Key×V)) | dT (kvs:List (List Key×V))
 | set (S:Int→Bool) (n:Nat)
 | ins (C dx:Addr) (fs:List (Str×V))
 | own (x:Addr)
 | xd (fs:List (Str×V))
 | met (f x:Addr)
 | rng (lo hi:Int)
 | frz (o:Obj) (u:HO)
 | tbl (ps:Array Value)
 | ext (φ:Heap→Prop)
abbrev Hp:=Addr→Option HO
def upd(H:Hp)(a:Addr)(o:HO):Hp:=fun b=>if b=a then some o else H b
theorem upd_same{H:Hp}{a:Addr}{o:HO}:upd H a o a=some o:=by unfold upd;rw[if_pos rfl]
theorem upd_ne{H:Hp}{a b:Addr}{o:HO}(h:b≠a):upd H a o b=H b:=by unfold upd;rw[if_neg h]
theorem upd_upd{H:Hp}{a:Addr}{o u:HO}:upd (upd H a o) a u=upd H a u:=by
 funext b;unfold upd;split<;>rfl
theorem ne_of{H:Hp}{a b:Addr}{o u:HO}(h:H a=some o)(h':H b=some u)(d:o≠u):a≠b:=by
 intro e;subst e;rw[h] at h';exact d (Option.some.inj h')
theorem ne_of_none{H:Hp}{a b:Addr}{o:HO}(h:H a=some o)(h':H b=none):a≠b:=by
 intro e;subst e;rw[h] at h';cases h'
section
variable(P:Program)(w:World)
def ObjOk(H:Hp)(h:Heap)(a:Addr):HO→Prop
 | .lst xs=>xs.length≤sizeLine∧∃(its:List Value) (n:Nat),Vals xs its∧h.get? a=some { cls:=.type "list",data:=.seq its.toArray n }
 | .tup xs=>xs.length≤sizeLine∧∃its:List Value,Vals xs its∧IsTup h a its.toArray
 | .dK kvs=>kvs.length≤sizeLine∧(a==sysModules)=false∧∃vs,KV kvs vs∧h.DictOf (mixKind P w) a vs
 | .dT kvs=>kvs.length≤sizeLine∧(a==sysModules)=false∧∃xs:List (List Key×Addr×Value),
  Paired (fun (p:List Key×V) (q:List Key×Addr×Value)=>p.1=q.1∧H q.2.1=some (.tup (p.1.map kV))∧RelV p.2 q.2.2) kvs xs∧
  ∃o es ep,h.get? a=some o∧o.ExactDict∧o.data=.dict es ep∧es.toList=xs.map (entryOfKey (tupleKind (mixKind P w)))∧(xs.map (·.1)).Nodup
 | .set S n=>h.SetOf (intKind P w) a S n
 | .ins C dx fs=>H dx=some (.own a)∧fs.length≤1000∧dx≠a∧h.get? a=some (PySem.W.instObj C dx)∧
  ∃mA,h.Ns1 dx mA∧(∀f,RelO (fs.lookup f) (mA f))∧PySem.Within mA (fs.map (·.1))
 | .own _=>∃o,h.get? a=some o
 | .xd fs=>∃mA,h.Ns1 a mA∧∀f,RelO (fs.lookup f) (mA f)
 | .rng lo hi=>∃t u v,h.get? a=some { cls:=.type "range",data:=.fields #[.int lo t,.int hi u,.int 1 v] }
 | .frz o u=>h.get? a=some o∧ObjOk H h a u
 | .tbl ps=>h.get? a=some { cls:=.none,data:=.fields ps }
 | .met f x=>h.get? a=some (PySem.W.methodObj (.ref f) (.ref x))
 | .ext φ=>φ h∧(∃o,h.get? a=some o)∧∀h1 h2:Heap,φ h1→(∀o,h1.get? a=some o→h2.get? a=some o)→φ h2
def HOk(H:Hp)(h:Heap):Prop:=∀a o,H a=some o→ObjOk P w H h a o
end
section
variable{P:Program}{w:World}{H H':Hp}{h h':Heap}{a:Addr}{o:HO}
theorem ObjOk.lt(x:ObjOk P w H h a o):a<h.objs.size:=by
 cases o with
 | lst xs=>obtain⟨_,_,_,_,e⟩:=x;exact Heap.lt_size e
 | tup xs=>obtain⟨_,_,_,p⟩:=x;exact p.lt
 | dK kvs=>obtain⟨_,_,_,_,o,_,_,e,_⟩:=x;exact Heap.lt_size e
 | dT kvs=>obtain⟨_,_,_,_,o,_,_,e,_⟩:=x;exact Heap.lt_size e
 | set S n=>obtain⟨o,_,_,_,e,_⟩:=x;exact Heap.lt_size e
 | ins C dx fs=>obtain⟨_,_,_,e,_⟩:=x;exact Heap.lt_size e
 | own y=>obtain⟨_,e⟩:=x;exact Heap.lt_size e
 | xd fs=>obtain⟨_,⟨_,_,_,e,_⟩,_⟩:=x;exact Heap.lt_size e
 | rng lo hi=>obtain⟨_,_,_,e⟩:=x;exact Heap.lt_size e
 | frz ob u=>obtain⟨e,_⟩:=x;exact Heap.lt_size e
 | tbl ps=>exact Heap.lt_size (show h.get? a=some _ from x)
 | met f y=>exact Heap.lt_size (show h.get? a=some _ from x)
 | ext φ=>obtain⟨_,⟨_,e⟩,_⟩:=x;exact Heap.lt_size e
theorem Paired.mapP{α β:Type}{F G:α→β→Prop}:∀{l₁:List α} {l₂:List β},Paired F l₁ l₂→(∀a b,F a b→G a b)→Paired G l₁ l₂
 | _,_,.nil,_=>.nil
 | _,_,.cons r t,f=>.cons (f _ _ r) (Paired.mapP t f)
theorem ObjOk.stay(x:ObjOk P w H h a o)(k:∀b u,(b=a∨H b=some (.own a))→h.get? b=some u→h'.get? b=some u)
 (ho:∀b,H b=some (.own a)→H' b=some (.own a))(ht:∀b xs,H b=some (.tup xs)→H' b=some (.tup xs)):ObjOk P w H' h' a o:=by
 induction o with
 | lst xs=>obtain⟨z,its,n,r,e⟩:=x;exact⟨z,its,n,r,k _ _ (.inl rfl) e⟩
 | tup xs=>obtain⟨z,its,r,ob,e,c⟩:=x;exact⟨z,its,r,ob,k _ _ (.inl rfl) e,c⟩
 | dK kvs=>obtain⟨z,y,vs,r,ob,es,ep,e,c⟩:=x;exact⟨z,y,vs,r,ob,es,ep,k _ _ (.inl rfl) e,c⟩
 | dT kvs=>
  obtain⟨z,y,xs,r,ob,es,ep,e,c⟩:=x
  exact⟨z,y,xs,Paired.mapP r fun p q z=>⟨z.1,ht _ _ z.2.1,z.2.2⟩,ob,es,ep,k _ _ (.inl rfl) e,c⟩
 | set S n=>obtain⟨ob,es,ep,t,e,c⟩:=x;exact⟨ob,es,ep,t,k _ _ (.inl rfl) e,c⟩
 | ins C dx fs=>
  obtain⟨d,z,ne,e,mA,⟨od,es,ep,e2,c⟩,r⟩:=x
  exact⟨ho _ d,z,ne,k _ _ (.inl rfl) e,mA,⟨od,es,ep,k _ _ (.inr d) e2,c⟩,r⟩
 | own y=>obtain⟨ob,e⟩:=x;exact⟨ob,k _ _ (.inl rfl) e⟩
 | xd fs=>obtain⟨mA,⟨od,es,ep,e,c⟩,r⟩:=x;exact⟨mA,⟨od,es,ep,k _ _ (.inl rfl) e,c⟩,r⟩
 | rng lo hi=>obtain⟨t,u,v,e⟩:=x;exact⟨t,u,v,k _ _ (.inl rfl) e⟩
 | frz ob u ih=>obtain⟨e,q⟩:=x;exact⟨k _ _ (.inl rfl) e,ih q⟩
 | tbl ps=>
  have e:h.get? a=some { cls:=.none,data:=.fields ps }:=x
  show h'.get? a=some { cls:=.none,data:=.fields ps }
  exact k a _ (.inl rfl) e
 | met f y=>
  have e:h.get? a=some (PySem.W.methodObj (.ref f) (.ref y)):=x
  show h'.get? a=some (PySem.W.methodObj (.ref f) (.ref y))
  exact k a _ (.inl rfl) e
 | ext φ=>obtain⟨p,⟨o,e⟩,st⟩:=x;exact⟨st _ _ p fun o q=>k _ _ (.inl rfl) q,⟨o,k _ _ (.inl rfl) e⟩,st⟩
theorem HOk.lt(x:HOk P w H h)(e:H a=some o):a<h.objs.size:=(x a o e).lt
theorem HOk.fresh(x:HOk P w H h)(e:h.objs.size≤a):H a=none:=by
 cases q:H a with
 | none=>rfl
 | some u=>exact absurd (Nat.lt_of_lt_of_le (x.lt q) e) (Nat.lt_irrefl _)
theorem HOk.kept(x:HOk P w H h)(k:∀b u,h.get? b=some u→h'.get? b=some u):HOk P w H h':=fun a o e=>
 (x a o e).stay (fun b u _ q=>k b u q) (fun _ q=>q) fun _ _ q=>q
theorem HOk.laid(x:HOk P w H h)(k:∀b u,h.get? b=some u→h'.get? b=some u)(hp:h.objs.size≤a)(new:ObjOk P w (upd H a o) h' a o):HOk P w (upd H a o) h':=fun b u e=>by
 have hn:=x.fresh hp
 by_cases hb:b=a
 ·subst hb;rw[upd_same] at e;cases e;exact new
 ·rw[upd_ne hb] at e
  exact(x b u e).stay (fun c v _ q=>k c v q) (fun c q=>by rw[upd_ne (ne_of_none q hn)];exact q) fun c xs q=>by rw[upd_ne (ne_of_none q hn)];exact q
end
def Rd(H:Hp)(a:Addr)(u:HO):Prop:=H a=some u∨∃o,H a=some (.frz o u)
theorem Rd.of{H:Hp}{a:Addr}{u:HO}(h:H a=some u):Rd H a u:=.inl h
theorem Rd.ok{P:Program}{w:World}{H:Hp}{h:Heap}{a:Addr}{u:HO}(r:Rd H a u)(x:HOk P w H h):ObjOk P w H h a u:=by
 rcases r with r | ⟨o,r⟩
 ·exact x a u r
 ·obtain⟨_,q⟩:=x a _ r
  exact q
def Mut:Option HO→Prop
 | some (.lst _)=>True
 | some (.dK _)=>True
 | some (.dT _)=>True
 | some (.set _ _)=>True
 | some (.ins _ _ _)=>True
 | some (.ext _)=>True
 | _=>False
section
variable{P:Program}{w:World}{H:Hp}{h h':Heap}{x e:Addr}{o':HO}
theorem HOk.write(ok:HOk P w H h)(mu:Mut (H x))(he:e=x∨H e=some (.own x))(k:∀b u,b≠e→h.get? b=some u→h'.get? b=some u)(heo:∃u,h'.get? e=some u)
 (new:ObjOk P w (upd H x o') h' x o'):HOk P w (upd H x o') h':=fun b u q=>by
 have nown:∀c y,H c=some (.own y)→c≠x:=fun c y r z=>by subst z;rw[r] at mu;exact mu
 have ntup:∀c xs,H c=some (.tup xs)→c≠x:=fun c xs r z=>by subst z;rw[r] at mu;exact mu
 by_cases hb:b=x
 ·subst hb;rw[upd_same] at q;cases q;exact new
 ·rw[upd_ne hb] at q
  by_cases hbe:b=e
  ·have q':H b=some (.own x):=by
    rcases he with z | z
    ·exact absurd (hbe.trans z) hb
    ·rw[hbe];exact z
   rw[q] at q';cases q'
   obtain⟨v,hv⟩:=heo
   exact⟨v,by rw[hbe];exact hv⟩
  ·refine(ok b u q).stay (fun c v hc r=>k c v ?_ r) (fun c r=>by rw[upd_ne (nown c b r)];exact r) fun c xs r=>by rw[upd_ne (ntup c xs r)];exact r
   rcases hc with rfl | hc
   ·exact hbe
   ·rintro rfl
    rcases he with z | z
    ·exact nown c b hc z
    ·rw[hc] at z;cases z;exact hb rfl
end
structure Un(fs ex:List Addr)(H H':Hp)(h h':Heap):Prop where
 keep:∀b o,h.get? b=some o→H b=none→b∉fs→b∉ex→h'.get? b=some o
 slot:∀b o,h.get? b=some o→H b=none→b∈fs→b∉ex→∃sl,h'.get? b=some { o with slots:=sl }
 free:∀b o,h.get? b=some o→H b=none→b∉ex→H' b=none
 there:∀b o,h.get? b=some o→b∉ex→∃o',h'.get? b=some o'
 tups:∀b xs,H b=some (.tup xs)→H' b=some (.tup xs)
 frzs:∀b o u,H b=some (.frz o u)→H' b=some (.frz o u)
 tbls:∀b ps,H b=some (.tbl ps)→∃more,H' b=some (.tbl (ps++more))
section
variable{fs fs' ex ex':List Addr}{H H1 H2:Hp}{h h1 h2 h':Heap}{a x e:Addr}{o:HO}
theorem Un.any(u:Un fs ex H H1 h h1){b:Addr}{ob:Obj}(q:h.get? b=some ob)(n:H b=none)(hx:b∉ex):∃sl,h1.get? b=some { ob with slots:=sl }:=by
 by_cases hb:b∈fs
 ·exact u.slot b ob q n hb hx
 ·exact⟨ob.slots,u.keep b ob q n hb hx⟩
theorem Un.trans(a:Un fs ex H H1 h h1)(b:Un fs ex H1 H2 h1 h2):Un fs ex H H2 h h2 where
 keep:=fun c ob q n hc hx=>b.keep c ob (a.keep c ob q n hc hx) (a.free c ob q n hx) hc hx
 slot:=fun c ob q n hc hx=>by
  obtain⟨sl,e1⟩:=a.slot c ob q n hc hx
  obtain⟨sl',e2⟩:=b.slot c _ e1 (a.free c ob q n hx) hc hx
  exact⟨sl',e2⟩
 free:=fun c ob q n hx=>by
  obtain⟨o',e1⟩:=a.there c ob q hx
  exact b.free c o' e1 (a.free c ob q n hx) hx
 there:=fun c ob q hx=>by
  obtain⟨o',e1⟩:=a.there c ob q hx
  exact b.there c o' e1 hx
 tups:=fun c xs q=>b.tups c xs (a.tups c xs q)
 frzs:=fun c ob xs q=>b.frzs c ob xs (a.frzs c ob xs q)
 tbls:=fun c ps q=>by
  obtain⟨m1,e1⟩:=a.tbls c ps q
  obtain⟨m2,e2⟩:=b.tbls c _ e1
  exact⟨m1++m2,by rw[e2,Array.append_assoc]⟩
theorem Un.kept(k:∀b u,h.get? b=some u→h'.get? b=some u):Un fs ex H H h h':=
 ⟨fun b ob q _ _ _=>k b ob q,fun b ob q _ _ _=>⟨ob.slots,k b ob q⟩,fun _ _ _ n _=>n,fun b ob q _=>⟨ob,k b ob q⟩,fun _ _ q=>q,fun _ _ _ q=>q,fun _ ps q=>⟨#[],by rw[q];simp⟩⟩
theorem Un.refl:Un fs ex H H h h:=Un.kept fun _ _ q=>q
theorem Un.laid(k:∀b u,h.get? b=some u→h'.get? b=some u)(hp:h.objs.size≤a)(hn:H a=none):Un fs ex H (upd H a o) h h' where
 keep:=fun b u q _ _ _=>k b u q
 slot:=fun b u q _ _ _=>⟨u.slots,k b u q⟩
 free:=fun b u q n _=>by rw[upd_ne (Nat.ne_of_lt (Nat.lt_of_lt_of_le (Heap.lt_size q) hp))];exact n
 there:=fun b u q _=>⟨u,k b u q⟩
 tups:=fun b xs q=>by rw[upd_ne (ne_of_none q hn)];exact q
 frzs:=fun b u xs q=>by rw[upd_ne (ne_of_none q hn)];exact q
 tbls:=fun b ps q=>⟨#[],by rw[upd_ne (ne_of_none q hn),q];simp⟩
theorem Un.write(mu:Mut (H x))(he:e=x∨H e=some (.own x))(k:∀b u,b≠e→h.get? b=some u→h'.get? b=some u)(heo:∃u,h'.get? e=some u):Un fs ex H (upd H x o) h h':=by
 have hx:∀b,H b=none→b≠x:=fun b n z=>by subst z;rw[n] at mu;exact mu
 have hb:∀b,H b=none→b≠e:=fun b n z=>by
  subst z
  rcases he with r | r
  ·exact hx b n r
  ·rw[n] at r;cases r
 have hm:∀b u,H b=some u→¬Mut (some u)→b≠x:=fun b u q nm z=>by subst z;rw[q] at mu;exact nm mu
 refine⟨fun b u q n _ _=>k b u (hb b n) q,fun b u q n _ _=>⟨u.slots,k b u (hb b n) q⟩,fun b u q n _=>by rw[upd_ne (hx b n)];exact n,fun b u q _=>?_,
  fun b xs q=>by rw[upd_ne (hm b _ q fun z=>z)];exact q,fun b u xs q=>by rw[upd_ne (hm b _ q fun z=>z)];exact q,fun b ps q=>⟨#[],by rw[upd_ne (hm b _ q fun z=>z),q];simp⟩⟩
 by_cases hbe:b=e
 ·subst hbe;exact heo
 ·exact⟨u,k b u hbe q⟩
theorem Un.mono(u:Un fs ex H H1 h h1)(hs:∀b∈fs,b∈fs')(hx:∀b∈ex,b∈ex'):Un fs' ex' H H1 h h1:=
 ⟨fun b ob q n hb he=>u.keep b ob q n (fun z=>hb (hs b z)) fun z=>he (hx b z),fun _ _ q n _ he=>u.any q n fun z=>he (hx _ z),fun b ob q n he=>u.free b ob q n fun z=>he (hx b z),fun b ob q he=>u.there b ob q fun z=>he (hx b z),u.tups,u.frzs,u.tbls⟩
end
def trk(h:Heap)(H:Hp):List Addr:=(List.range h.objs.size).filter fun a=>(H a).isSome
def hidT(h:Heap)(H:Hp):Heap:=PySem.W.hideAll h (trk h H)
theorem hidT_size(h:Heap)(H:Hp):(hidT h H).objs.size=h.objs.size:=PySem.W.hideAll_size _ _
theorem hidT_get{h:Heap}{H:Hp}{b:Addr}{o:Obj}(e:h.get? b=some o)(n:H b=none):(hidT h H).get? b=some o:=
 PySem.W.hideAll_get _ e fun hm=>by
  have q:(H b).isSome=true:=(List.mem_filter.mp hm).2
  rw[n] at q;simp at q
theorem of_hidT{h:Heap}{H:Hp}{b:Addr}{o:Obj}(e:(hidT h H).get? b=some o):h.get? b=some o∧H b=none:=by
 have e':h.get? b=some o:=PySem.W.of_hideAll (trk h H) e
 refine⟨e',?_⟩
 cases q:H b with
 | none=>rfl
 | some x=>
  have hm:b∈trk h H:=List.mem_filter.mpr ⟨List.mem_range.mpr (Heap.lt_size e'),by simp[q]⟩
  have z:(hidT h H).get? b=none:=PySem.W.hideAll_none (trk h H) hm
  rw[z] at e;cases e
def allNews(g h:Heap)(L:Addr):List (Addr×Obj):=(List.range h.objs.size).filterMap fun a=>if a=L∨(g.get? a).isSome=true then none else (h.get? a).map fun o=>(a,o)
def rest(g h:Heap)(L d:Addr):List (Addr×Obj):=(allNews g h L).filter fun p=>decide (p.1≠d)
end L2
namespace L2
open PySem PySem.Spec PyProof.Rows
structure Mod(K:PySem.W.Frag)(mg:Str→Option Value)(base:Heap):Prop where
 kin:K.In base
 glob:base.Ns mainGlobals mg
 blt:∃mb,base.Ns builtinsNs mb∧∀x:Str,x≠"__name__"→mb x=bootBuiltins x
 nolimit:base.NoLimit
structure Cx where
 prog:Program
 w:World
 K:PySem.W.Frag
 mg:Str→Option Value
 base:Heap
 A:Around
 N:List Str
 s₀:Shared
 H₀:Hp
 env:Env
 outer:List Env
 stack:List Env
 ex:List Addr
 fn:Str→Bool
 calm:Bool
 pn:List (Addr×Obj)
 xe:Value→Shared→Prop
def frs(l:List Env):List Addr:=l.filterMap (·.frame)
abbrev Cx.fs(X:Cx):List Addr:=frs X.outer
def Vis(sc:Scope)(x:Str):Prop:=sc.names.lookup x=some .local∨sc.names.lookup x=some .cell∨sc.names.lookup x=some .free
def Loc(sc:Scope)(x:Str):Prop:=sc.names.lookup x=some .local∨sc.names.lookup x=some .cell
def Look(env:Env)(h:Heap)(m:Str→Option Value)(x:Str)(u:Value):Prop:=
 (env.kindOf x=some .local∧m x=some u)∨((env.kindOf x=some .cell∨env.kindOf x=some .free)∧∃c,env.cells.lookup x=some c∧h.IsCell c (some u))
structure Cx.Ok(X:Cx):Prop where
 mod:Mod X.K X.mg X.base
 kind:X.env.scope.kind=.function
 glob:X.env.globals=mainGlobals
 blt:X.env.builtins=builtinsNs
 above:X.s₀.heap.objs.size≤X.env.locals
 inj:∀x y c,X.env.cells.lookup x=some c→X.env.cells.lookup y=some c→x=y
 has:∀x,(X.env.kindOf x=some .cell∨X.env.kindOf x=some .free)→∃c,X.env.cells.lookup x=some c
 cab:∀x c,X.fn x=true→X.env.cells.lookup x=some c→X.s₀.heap.objs.size≤c
 hd:X.calm=true→X.A.handled=none
 frames:X.A.frames=some X.stack
 stk:X.stack=X.outer∨(X.stack=X.env::X.outer∧X.env.frame=some X.env.locals)
 exf:∀b∈X.ex,b≠X.env.locals∧∀x c,X.env.cells.lookup x=some c→c≠b
 bs:∀b o,X.base.get? b=some o→X.s₀.heap.get? b=some o∧X.H₀ b=none
 bsz:X.base.objs.size≤X.s₀.heap.objs.size
 noex:∀b o,X.base.get? b=some o→b∉X.ex
 exfs:∀b∈X.ex,b∉X.fs
 funs:X.s₀.heap.FunFrames X.base X.outer
 frf:∀b∈X.fs,X.H₀ b=none
structure Inv(X:Cx)(pins:List (Addr×Obj))(σ:List (Option V))(H:Hp)(s:Shared):Prop where
 ok:X.Ok
 os:s.os=X.s₀.os
 bare:AllBare s.gens
 base:Un X.fs X.ex X.H₀ H X.s₀.heap s.heap
 loc:∃m,s.heap.Ns X.env.locals m∧∀(i:Nat) (x:Str) (v:V),X.N[i]?=some x→σ[i]?=some (some v)→Vis X.env.scope x→∃u,RelV v u∧Look X.env s.heap m x u
 cell:∀x c,X.env.cells.lookup x=some c→∃v,s.heap.IsCell c v
 free:H X.env.locals=none
 freeC:∀x c,X.env.cells.lookup x=some c→H c=none
 pin:∀p∈X.pn++pins,s.heap.get? p.1=some p.2∧H p.1=none∧p.1≠X.env.locals∧p.1∉X.fs∧∀v,p.2.data≠.cell v
 hok:HOk X.prog X.w H s.heap
 len:σ.length=X.N.length
section
variable{X:Cx}{pins:List (Addr×Obj)}{σ:List (Option V)}{H H':Hp}{s:Shared}{h':Heap}
theorem Cx.Ok.nofr(ok:X.Ok){b:Addr}{o:Obj}(e:X.base.get? b=some o):b∉X.fs:=fun hb=>by
 have:=(ok.funs.mem hb).1
 rw[e] at this;cases this
theorem Inv.bs(I:Inv X pins σ H s):∀b o,X.base.get? b=some o→s.heap.get? b=some o∧H b=none:=fun b o e=>
 ⟨I.base.keep b o (I.ok.bs b o e).1 (I.ok.bs b o e).2 (I.ok.nofr e) (I.ok.noex b o e),I.base.free b o (I.ok.bs b o e).1 (I.ok.bs b o e).2 (I.ok.noex b o e)⟩
theorem Inv.bk(I:Inv X pins σ H s):∀b o,X.base.get? b=some o→s.heap.get? b=some o:=fun b o e=>(I.bs b o e).1
theorem Inv.mod(I:Inv X pins σ H s):Mod X.K X.mg X.base:=I.ok.mod
theorem Inv.kIn(I:Inv X pins σ H s):X.K.In s.heap:=I.ok.mod.kin.keeps I.bk
theorem Inv.lt(I:Inv X pins σ H s):X.env.locals<s.heap.objs.size:=let ⟨_,hn,_⟩:=I.loc;hn.lt
theorem Inv.sz(I:Inv X pins σ H s):X.s₀.heap.objs.size≤s.heap.objs.size:=Nat.le_trans I.ok.above (Nat.le_of_lt I.lt)
theorem Inv.nofs(I:Inv X pins σ H s){a:Addr}(h:s.heap.objs.size≤a):a∉X.fs:=fun hb=>by
 obtain⟨_,o,ho,_⟩:=I.ok.funs.mem hb
 exact absurd (Nat.lt_of_lt_of_le (Heap.lt_size ho) (Nat.le_trans I.sz h)) (Nat.lt_irrefl _)
theorem Inv.cne(I:Inv X pins σ H s):∀x c,X.env.cells.lookup x=some c→c≠X.env.locals:=fun x c e z=>by
 obtain⟨v,o,ho,hd⟩:=I.cell x c e
 obtain⟨m,⟨o',es,ep,ho',hd',_⟩,_⟩:=I.loc
 rw[z,ho'] at ho;cases ho;rw[hd'] at hd;cases hd
theorem Inv.funs(I:Inv X pins σ H s):s.heap.FunFrames X.base X.outer:=by
 have all:∀(l:List Env),(∀b∈frs l,b∈X.fs)→X.s₀.heap.FunFrames X.base l→s.heap.FunFrames X.base l:=by
  intro l
  induction l with
  | nil=>intro _ _;trivial
  | cons env r ih=>
   intro hs hl
   obtain⟨hk,⟨L,o,hf,hn,ho,hd⟩,hr⟩:=hl
   have hL:L∈X.fs:=hs L (by unfold frs;rw[List.filterMap_cons,hf];exact List.mem_cons_self)
   obtain⟨sl,e⟩:=I.base.slot L o ho (I.ok.frf L hL) hL fun z=>I.ok.exfs L z hL
   exact⟨hk,⟨L,_,hf,hn,e,hd⟩,ih (fun b hb=>hs b (by unfold frs;rw[List.filterMap_cons,hf];exact List.mem_cons_of_mem _ hb)) hr⟩
 exact all X.outer (fun _ hb=>hb) I.ok.funs
theorem Inv.stack(I:Inv X pins σ H s):s.heap.FunFrames X.base X.stack:=by
 rcases I.ok.stk with e | ⟨e,hf⟩
 ·rw[e];exact I.funs
 ·rw[e]
  obtain⟨m,hn,_⟩:=I.loc
  refine .cons (by rw[I.ok.kind];decide) hf hn ?_ I.funs
  exact Heap.get?_none_of_le (Nat.le_trans I.ok.bsz I.ok.above)
theorem Inv.stkSub(I:Inv X pins σ H s):∀b∈frs X.stack,b∈X.env.locals::X.fs:=fun b hb=>by
 rcases I.ok.stk with e | ⟨e,hf⟩
 ·rw[e] at hb;exact List.mem_cons_of_mem _ hb
 ·rw[e] at hb
  unfold frs at hb
  rw[List.filterMap_cons,hf] at hb
  exact hb
theorem Inv.stkFree(I:Inv X pins σ H s):∀b∈frs X.stack,H b=none:=fun b hb=>by
 rcases List.mem_cons.mp (I.stkSub b hb) with e | hb
 ·rw[e];exact I.free
 ·obtain⟨_,o,ho,_⟩:=I.ok.funs.mem hb
  exact I.base.free b o ho (I.ok.frf b hb) fun z=>I.ok.exfs b z hb
theorem Inv.step{g':Array GenState}{t':Nat}{d':Drawn}{ch:List Addr}(I:Inv X pins σ H s)
 (hch:∀b∈ch,(b∈X.ex∨X.s₀.heap.objs.size≤b)∧b≠X.env.locals∧(∀x c,X.env.cells.lookup x=some c→c≠b)∧∀p∈X.pn++pins,p.1≠b)
 (keep:∀b o,b≠X.env.locals→b∉X.fs→b∉ch→s.heap.get? b=some o→H b=none→h'.get? b=some o)
 (slot:∀b o,b≠X.env.locals→b∈X.fs→b∉ch→s.heap.get? b=some o→H b=none→∃sl,h'.get? b=some { o with slots:=sl })(free:∀b o,b∉ch→s.heap.get? b=some o→H b=none→H' b=none)
 (there:∀b o,b∉ch→s.heap.get? b=some o→∃o',h'.get? b=some o')
 (tups:∀b xs,H b=some (.tup xs)→H' b=some (.tup xs))(frzs:∀b o u,H b=some (.frz o u)→H' b=some (.frz o u))(tbls:∀b ps,H b=some (.tbl ps)→∃more,H' b=some (.tbl (ps++more)))
 (ns:∀m,s.heap.Ns X.env.locals m→h'.Ns X.env.locals m)(hok:HOk X.prog X.w H' h')(hg:AllBare g'):
 Inv X pins σ H' { s with heap:=h',gens:=g',drawn:=d',toks:=t' }:=by
 have neL:∀b o,X.s₀.heap.get? b=some o→b≠X.env.locals:=fun b o e=>Nat.ne_of_lt (Nat.lt_of_lt_of_le (Heap.lt_size e) I.ok.above)
 have neC:∀b o,X.s₀.heap.get? b=some o→b∉X.ex→b∉ch:=fun b o e hx hb=>by
  rcases(hch b hb).1 with z | z
  ·exact hx z
  ·exact absurd (Nat.lt_of_lt_of_le (Heap.lt_size e) z) (Nat.lt_irrefl _)
 have cellK:∀x c,X.env.cells.lookup x=some c→∀v,s.heap.IsCell c v→h'.IsCell c v:=fun x c e v ⟨o,ho,hd⟩=>by
  have nch:c∉ch:=fun z=>(hch c z).2.2.1 x c e rfl
  by_cases hc:c∈X.fs
  ·obtain⟨sl,q⟩:=slot c o (I.cne x c e) hc nch ho (I.freeC x c e)
   exact⟨_,q,hd⟩
  ·exact⟨o,keep c o (I.cne x c e) hc nch ho (I.freeC x c e),hd⟩
 refine⟨I.ok,I.os,hg,⟨fun b o e n hb hx=>?_,fun b o e n hb hx=>?_,fun b o e n hx=>?_,fun b o e hx=>?_,fun b xs e=>tups b xs (I.base.tups b xs e),fun b o xs e=>frzs b o xs (I.base.frzs b o xs e),fun b ps e=>?_⟩,?_,fun x c e=>?_,?_,fun x c e=>?_,fun p hp=>?_,hok,I.len⟩
 ·exact keep b o (neL b o e) hb (neC b o e hx) (I.base.keep b o e n hb hx) (I.base.free b o e n hx)
 ·obtain⟨sl,e1⟩:=I.base.slot b o e n hb hx
  obtain⟨sl',e2⟩:=slot b _ (neL b o e) hb (neC b o e hx) e1 (I.base.free b o e n hx)
  exact⟨sl',e2⟩
 ·obtain⟨o',e1⟩:=I.base.there b o e hx
  exact free b o' (neC b o e hx) e1 (I.base.free b o e n hx)
 ·obtain⟨o',e1⟩:=I.base.there b o e hx
  exact there b o' (neC b o e hx) e1
 ·obtain⟨m1,e1⟩:=I.base.tbls b ps e
  obtain⟨m2,e2⟩:=tbls b _ e1
  exact⟨m1++m2,by rw[e2,Array.append_assoc]⟩
 ·obtain⟨m,hn,hl⟩:=I.loc
  refine⟨m,ns m hn,fun i x v e1 e2 e3=>?_⟩
  obtain⟨u,r,l⟩:=hl i x v e1 e2 e3
  refine⟨u,r,?_⟩
  rcases l with l | ⟨k,c,e,z⟩
  ·exact .inl l
  ·exact .inr ⟨k,c,e,cellK x c e _ z⟩
 ·obtain⟨v,z⟩:=I.cell x c e
  exact⟨v,cellK x c e v z⟩
 ·obtain⟨m,⟨o,_,_,ho,_⟩,_⟩:=I.loc
  exact free _ o (fun z=>(hch _ z).2.1 rfl) ho I.free
 ·obtain⟨v,o,ho,hd⟩:=I.cell x c e
  exact free c o (fun z=>(hch c z).2.2.1 x c e rfl) ho (I.freeC x c e)
 ·obtain⟨e,n,ne,nf,d⟩:=I.pin p hp
  have nch:p.1∉ch:=fun z=>(hch p.1 z).2.2.2 p hp rfl
  exact⟨keep p.1 p.2 ne nf nch e n,free p.1 p.2 nch e n,ne,nf,d⟩
theorem Inv.un{t':Nat}(I:Inv X pins σ H s)(u:Un X.fs [] H H' s.heap h')(hok:HOk X.prog X.w H' h'):Inv X pins σ H' { s with heap:=h',toks:=t' }:=by
 obtain⟨m,⟨o,es,ep,ho,r⟩,_⟩:=id I.loc
 obtain⟨sl,hL⟩:=u.any ho I.free (by simp)
 exact I.step (g':=s.gens) (d':=s.drawn) (ch:=[]) (fun _ z=>nomatch z) (fun b o _ hb _ e n=>u.keep b o e n hb (by simp)) (fun b o _ hb _ e n=>u.slot b o e n hb (by simp)) (fun b o _ e n=>u.free b o e n (by simp)) (fun b o _ e=>u.there b o e (by simp)) u.tups u.frzs u.tbls (fun m' hm=>by
  obtain⟨o',es',ep',ho',r'⟩:=hm
  rw[ho] at ho';cases ho'
  exact⟨_,es',ep',hL,r'⟩) hok I.bare
theorem Inv.call{g':Array GenState}{t':Nat}{d':Drawn}{ch:List Addr}(I:Inv X pins σ H s)(u:Un (frs X.stack) ch H H' s.heap h')(hok:HOk X.prog X.w H' h')(hg:AllBare g')
 (hch:∀b∈ch,(b∈X.ex∨X.s₀.heap.objs.size≤b)∧b≠X.env.locals∧(∀x c,X.env.cells.lookup x=some c→c≠b)∧∀p∈X.pn++pins,p.1≠b):
 Inv X pins σ H' { s with heap:=h',gens:=g',drawn:=d',toks:=t' }:=by
 obtain⟨m,⟨o,es,ep,ho,r⟩,_⟩:=id I.loc
 obtain⟨sl,hL⟩:=u.any ho I.free fun z=>(hch _ z).2.1 rfl
 exact I.step (ch:=ch) hch (fun b o hL hb hc e n=>u.keep b o e n (fun z=>(List.mem_cons.mp (I.stkSub b z)).elim hL hb) hc) (fun b o _ _ hc e n=>u.any e n hc) (fun b o hc e n=>u.free b o e n hc) (fun b o hc e=>u.there b o e hc) u.tups u.frzs u.tbls (fun m' hm=>by
  obtain⟨o',es',ep',ho',r'⟩:=hm
  rw[ho] at ho';cases ho'
  exact⟨_,es',ep',hL,r'⟩) hok hg
theorem Inv.turned{t':Nat}{it:Addr}(I:Inv X pins σ H s)(k:∀b o,b≠it→s.heap.get? b=some o→h'.get? b=some o)(hn:H it=none)(hL:it≠X.env.locals)
 (h1:it∈X.ex∨X.s₀.heap.objs.size≤it)(h2:∀x c,X.env.cells.lookup x=some c→c≠it)(h3:∀p∈X.pn++pins,p.1≠it):Inv X pins σ H { s with heap:=h',toks:=t' }:=by
 have nit:∀b u,H b=some u→b≠it:=fun b u e z=>by rw[z,hn] at e;cases e
 refine I.step (g':=s.gens) (d':=s.drawn) (ch:=[it]) (fun b hb=>?_) (fun b o _ _ hc e _=>k b o (fun z=>hc (by simp[z])) e) (fun b o _ _ hc e _=>⟨o.slots,k b o (fun z=>hc (by simp[z])) e⟩) (fun _ _ _ _ n=>n)
  (fun b o hc e=>⟨o,k b o (fun z=>hc (by simp[z])) e⟩) (fun _ _ e=>e) (fun _ _ _ e=>e) (fun b ps e=>⟨#[],by rw[e];simp⟩) (fun m hm=>?_) (fun b u e=>?_) I.bare
 ·have e:b=it:=by simpa using hb
  subst e
  exact⟨h1,hL,h2,h3⟩
 ·obtain⟨o,es,ep,ho,r⟩:=hm
  exact⟨o,es,ep,k _ o (Ne.symm hL) ho,r⟩
 ·refine(I.hok b u e).stay (fun c v hc q=>k c v ?_ q) (fun _ q=>q) fun _ _ q=>q
  rcases hc with z | z
  ·rw[z];exact nit b u e
  ·exact nit c _ z
theorem Inv.tok(I:Inv X pins σ H s)(t:Nat):Inv X pins σ H { s with toks:=t }:=I.un (h':=s.heap) (t':=t) Un.refl I.hok
theorem Inv.kept{t':Nat}(I:Inv X pins σ H s)(k:∀b u,s.heap.get? b=some u→h'.get? b=some u):Inv X pins σ H { s with heap:=h',toks:=t' }:=I.un (Un.kept k) (I.hok.kept k)
theorem Inv.laid{a:Addr}{o:HO}{t':Nat}(I:Inv X pins σ H s)(k:∀b u,s.heap.get? b=some u→h'.get? b=some u)(hp:s.heap.objs.size≤a)(new:ObjOk X.prog X.w (upd H a o) h' a o):
 Inv X pins σ (upd H a o) { s with heap:=h',toks:=t' }:=I.un (Un.laid k hp (I.hok.fresh hp)) (I.hok.laid k hp new)
theorem Inv.write{x e:Addr}{o:HO}{t':Nat}(I:Inv X pins σ H s)(mu:Mut (H x))(he:e=x∨H e=some (.own x))(k:∀b u,b≠e→s.heap.get? b=some u→h'.get? b=some u)(heo:∃u,h'.get? e=some u)
 (new:ObjOk X.prog X.w (upd H x o) h' x o):Inv X pins σ (upd H x o) { s with heap:=h',toks:=t' }:=I.un (Un.write mu he k heo) (I.hok.write mu he k heo new)
theorem Inv.pins_of{pins':List (Addr×Obj)}(I:Inv X pins σ H s)(h:∀p∈pins',s.heap.get? p.1=some p.2∧H p.1=none∧p.1≠X.env.locals∧p.1∉X.fs∧∀v,p.2.data≠.cell v):Inv X pins' σ H s:=
 ⟨I.ok,I.os,I.bare,I.base,I.loc,I.cell,I.free,I.freeC,fun p hp=>(List.mem_append.mp hp).elim (fun z=>I.pin p (List.mem_append_left _ z)) (h p),I.hok,I.len⟩
theorem nodup_ix{N:List Str}(hN:N.Nodup){i j:Nat}{x:Str}(a:N[i]?=some x)(b:N[j]?=some x):i=j:=by
 obtain⟨h1,e1⟩:=List.getElem?_eq_some_iff.mp a
 obtain⟨h2,e2⟩:=List.getElem?_eq_some_iff.mp b
 exact(List.getElem_inj hN).mp (e1.trans e2.symm)
theorem store_ok2{M:Model}{A:Around}{E:Value→Shared→Prop}{i:Nat}{x:Str}{v:V}{u:Value}{Q:Unit→Shared→Prop}(I:Inv X pins σ H s)(hN:X.N.Nodup)(hi:X.N[i]?=some x)(hx:Loc X.env.scope x)(r:RelV v u)
 (h:∀s',Inv X pins (σ.set i (some v)) H s'→(∃a,Heap.SameBut a s.heap s'.heap∧(a=X.env.locals∨X.env.cells.lookup x=some a))→Q () s')(hf:X.fn x=true∨X.env.scope.names.lookup x=some .local:=by first | exact .inl rfl | exact .inr rfl | assumption):wpAny M A (storeName X.env x u) Q E s:=by
 obtain⟨m,hn,hl⟩:=id I.loc
 have hcls:(X.env.scope.kind==.class||(X.env.scope.kind==.module&&X.env.locals != X.env.globals))=false:=by rw[I.ok.kind];rfl
 have hiσ:i<σ.length:=by rw[I.len];exact(List.getElem?_eq_some_iff.mp hi).1
 have cne:=I.cne
 have tracked:∀{a:Addr} {h':Heap},(∃o,s.heap.get? a=some o∧H a=none)→Heap.SameBut a s.heap h'→HOk X.prog X.w H h':=fun{a h'} ha hs b ob e=>by
  obtain⟨_,_,hfree⟩:=ha
  refine(I.hok b ob e).stay (fun c w' hc q=>(hs.2 c ?_).trans q) (fun _ q=>q) fun _ _ q=>q
  rintro rfl
  rcases hc with rfl | hc
  ·rw[hfree] at e;cases e
  ·rw[hfree] at hc;cases hc
 rcases hx with hk | hk
 ·refine wpAny_storeName_local hk hn (fun h' hn' hs=>?_) hcls
  obtain⟨oL,_,_,hoL,_⟩:=id hn
  refine h _ ⟨I.ok,I.os,I.bare,⟨fun b o e n hb hx=>?_,fun b o e n hb hx=>?_,I.base.free,fun b o e hx=>?_,I.base.tups,I.base.frzs,I.base.tbls⟩,⟨_,hn',fun j y v' e1 e2 e3=>?_⟩,fun y c e=>?_,I.free,I.freeC,fun p hp=>?_,tracked ⟨oL,hoL,I.free⟩ hs,by simpa using I.len⟩ ⟨_,hs,.inl rfl⟩
  ·exact(hs.2 b (Nat.ne_of_lt (Nat.lt_of_lt_of_le (Heap.lt_size e) I.ok.above))).trans (I.base.keep b o e n hb hx)
  ·obtain⟨sl,e1⟩:=I.base.slot b o e n hb hx
   exact⟨sl,(hs.2 b (Nat.ne_of_lt (Nat.lt_of_lt_of_le (Heap.lt_size e) I.ok.above))).trans e1⟩
  ·obtain⟨o',e1⟩:=I.base.there b o e hx
   exact⟨o',(hs.2 b (Nat.ne_of_lt (Nat.lt_of_lt_of_le (Heap.lt_size e) I.ok.above))).trans e1⟩
  ·by_cases hj:j=i
   ·subst hj
    rw[hi] at e1;cases e1
    rw[List.getElem?_set_self hiσ] at e2
    cases e2
    exact⟨u,r,.inl ⟨hk,by simp⟩⟩
   ·rw[List.getElem?_set_ne (Ne.symm hj)] at e2
    obtain⟨u',r',q⟩:=hl j y v' e1 e2 e3
    refine⟨u',r',?_⟩
    rcases q with ⟨k,e⟩ | ⟨k,c,e,z⟩
    ·refine .inl ⟨k,?_⟩
     have:y≠x:=fun e=>hj (nodup_ix hN e1 (e ▸ hi))
     simp[this,e]
    ·exact .inr ⟨k,c,e,z.sameBut hs (cne y c e)⟩
  ·obtain⟨w',z⟩:=I.cell y c e
   exact⟨w',z.sameBut hs (cne y c e)⟩
  ·obtain⟨e,n,ne,nf,d⟩:=I.pin p hp
   exact⟨(hs.2 p.1 ne).trans e,n,ne,nf,d⟩
 ·have hfn:X.fn x=true:=by
   rcases hf with z | z
   ·exact z
   ·rw[z] at hk;cases hk
  obtain⟨c,hc⟩:=I.ok.has x (.inl hk)
  obtain⟨w',z⟩:=I.cell x c hc
  refine wpAny_storeName_cell I.ok.kind hk hc z (fun h' hc' hs=>?_)
  obtain⟨oc,hoc,hocd⟩:=id z
  refine h { s with heap:=h' } ⟨I.ok,I.os,I.bare,⟨fun b o e n hb hx=>?_,fun b o e n hb hx=>?_,I.base.free,fun b o e hx=>?_,I.base.tups,I.base.frzs,I.base.tbls⟩,⟨m,hn.sameBut hs (Ne.symm (cne x c hc)),fun j y v' e1 e2 e3=>?_⟩,fun y c' e=>?_,I.free,I.freeC,fun p hp=>?_,tracked ⟨oc,hoc,I.freeC x c hc⟩ hs,by simpa using I.len⟩ ⟨c,hs,.inr hc⟩
  ·exact(hs.2 b (Nat.ne_of_lt (Nat.lt_of_lt_of_le (Heap.lt_size e) (I.ok.cab x c hfn hc)))).trans (I.base.keep b o e n hb hx)
  ·obtain⟨sl,e1⟩:=I.base.slot b o e n hb hx
   exact⟨sl,(hs.2 b (Nat.ne_of_lt (Nat.lt_of_lt_of_le (Heap.lt_size e) (I.ok.cab x c hfn hc)))).trans e1⟩
  ·obtain⟨o',e1⟩:=I.base.there b o e hx
   exact⟨o',(hs.2 b (Nat.ne_of_lt (Nat.lt_of_lt_of_le (Heap.lt_size e) (I.ok.cab x c hfn hc)))).trans e1⟩
  ·by_cases hj:j=i
   ·subst hj
    rw[hi] at e1;cases e1
    rw[List.getElem?_set_self hiσ] at e2
    cases e2
    exact⟨u,r,.inr ⟨.inl hk,c,hc,hc'⟩⟩
   ·rw[List.getElem?_set_ne (Ne.symm hj)] at e2
    obtain⟨u',r',q⟩:=hl j y v' e1 e2 e3
    refine⟨u',r',?_⟩
    rcases q with q | ⟨k,c',e,z'⟩
    ·exact .inl q
    ·refine .inr ⟨k,c',e,z'.sameBut hs ?_⟩
     rintro rfl
     exact hj (nodup_ix hN e1 (I.ok.inj _ _ _ e hc ▸ hi))
  ·by_cases hcc:c'=c
   ·subst hcc;exact⟨_,hc'⟩
   ·obtain⟨w2,z2⟩:=I.cell y c' e
    exact⟨w2,z2.sameBut hs hcc⟩
  ·obtain⟨e,n,ne,nf,d⟩:=I.pin p hp
   refine⟨(hs.2 p.1 ?_).trans e,n,ne,nf,d⟩
   intro q
   rw[q,hoc] at e
   have q':oc=p.2:=Option.some.inj e
   exact d w' (by rw[←q'];exact hocd)
theorem store_ok{M:Model}{A:Around}{E:Value→Shared→Prop}{i:Nat}{x:Str}{v:V}{u:Value}{Q:Unit→Shared→Prop}(I:Inv X pins σ H s)(hN:X.N.Nodup)(hi:X.N[i]?=some x)(hx:Loc X.env.scope x)(r:RelV v u)
 (h:∀s',Inv X pins (σ.set i (some v)) H s'→Q () s')(hf:X.fn x=true∨X.env.scope.names.lookup x=some .local:=by first | exact .inl rfl | exact .inr rfl | assumption):wpAny M A (storeName X.env x u) Q E s:=
 store_ok2 I hN hi hx r (fun s' I' _=>h s' I') hf
theorem Inv.call'{s':Shared}{ch:List Addr}(I:Inv X pins σ H s)(ho:s'.os=s.os)(u:Un (frs X.stack) ch H H' s.heap s'.heap)(hok:HOk X.prog X.w H' s'.heap)(hg:AllBare s'.gens)
 (hch:∀b∈ch,(b∈X.ex∨X.s₀.heap.objs.size≤b)∧b≠X.env.locals∧(∀x c,X.env.cells.lookup x=some c→c≠b)∧∀p∈X.pn++pins,p.1≠b):Inv X pins σ H' s':=by
 obtain⟨h',g',d',t',o'⟩:=s'
 have e:o'=s.os:=ho
 subst e
 exact I.call (g':=g') (t':=t') (d':=d') u hok hg hch
end
abbrev XK:=Value→Option Addr→Hp→Prop
abbrev St:=List (Option V)
abbrev VK:=V→Hp→Prop
abbrev TE:=St→Hp→VK→Prop
abbrev TT:=St→Hp→(Bool→Hp→Prop)→Prop
abbrev TA:=St→Hp→(List V→Hp→Prop)→Prop
structure Ends where
 nx:St→Hp→Prop
 rt:VK
 bk:St→Hp→Prop:=fun _ _=>False
 ct:St→Hp→Prop:=fun _ _=>False
abbrev TS:=Ends→St→Hp→Prop
def EP(X:Cx)(pins:List (Addr×Obj))(σ:St)(Q:VK)(u:Value)(s':Shared):Prop:=∃v H',Inv X pins σ H' s'∧RelV v u∧Q v H'
def TP(X:Cx)(pins:List (Addr×Obj))(σ:St)(Q:Bool→Hp→Prop)(b:Bool)(s':Shared):Prop:=∃H',Inv X pins σ H' s'∧Q b H'
def AP(X:Cx)(pins:List (Addr×Obj))(σ:St)(Q:List V→Hp→Prop)(us:List Value)(s':Shared):Prop:=∃vs H',Inv X pins σ H' s'∧Vals vs us∧Q vs H'
def SP(X:Cx)(pins:List (Addr×Obj))(D:Ends)(f:Flow)(s':Shared):Prop:=
 match f with
 | .next=>∃σ' H',Inv X pins σ' H' s'∧D.nx σ' H'
 | .brk=>∃σ' H',Inv X pins σ' H' s'∧D.bk σ' H'
 | .cont=>∃σ' H',Inv X pins σ' H' s'∧D.ct σ' H'
 | .ret u=>∃v σ' H',Inv X pins σ' H' s'∧RelV v u∧D.rt v H'
def PE(X:Cx)(e:Expr)(t:TE):Prop:=
 ∀(pins:List (Addr×Obj)) (s:Shared) (σ:St) (H:Hp) (Q:VK),Inv X pins σ H s→t σ H Q→wpAny (model X.prog X.w) X.A (eval e X.env) (EP X pins σ Q) X.xe s
def PT(X:Cx)(e:Expr)(t:TT):Prop:=
 ∀(pins:List (Addr×Obj)) (s:Shared) (σ:St) (H:Hp) (Q:Bool→Hp→Prop),Inv X pins σ H s→t σ H Q→wpAny (model X.prog X.w) X.A (isTrue e X.env (eval e X.env)) (TP X pins σ Q) X.xe s
def PW(X:Cx)(e:Expr)(t:TT):Prop:=
 ∀(whole:Sem Value) (pins:List (Addr×Obj)) (s:Shared) (σ:St) (H:Hp) (Q:Bool→Hp→Prop),Inv X pins σ H s→t σ H Q→wpAny (model X.prog X.w) X.A (isTrue e X.env whole) (TP X pins σ Q) X.xe s
theorem PW.pt{X:Cx}{e:Expr}{t:TT}(h:PW X e t):PT X e t:=h _
def PA(X:Cx)(es:List Expr)(t:TA):Prop:=
 ∀(pos:Pos) (pins:List (Addr×Obj)) (s:Shared) (σ:St) (H:Hp) (Q:List V→Hp→Prop),Inv X pins σ H s→t σ H Q→wpAny (model X.prog X.w) X.A (spliced (backTo pos (starEach es X.env))) (AP X pins σ Q) X.xe s
def PS(X:Cx)(st:Stmt)(t:TS):Prop:=
 ∀(pins:List (Addr×Obj)) (s:Shared) (σ:St) (H:Hp) (D:Ends),Inv X pins σ H s→t D σ H→wpAny (model X.prog X.w) X.A (exec st X.env) (SP X pins D) X.xe s
def PSs(X:Cx)(st:List Stmt)(t:TS):Prop:=
 ∀(pins:List (Addr×Obj)) (s:Shared) (σ:St) (H:Hp) (D:Ends),Inv X pins σ H s→t D σ H→wpAny (model X.prog X.w) X.A (execs st X.env) (SP X pins D) X.xe s
theorem thn{α:Type}{t:Sem α}{Q Q':α→Shared→Prop}{M:Model}{A:Around}{E:Value→Shared→Prop}{s:Shared}(h:wpAny M A t Q E s)(hQ:∀a s,Q a s→Q' a s):wpAny M A t Q' E s:=wpAny_mono h hQ fun _ _ x=>x
end L2
namespace L2
open PySem PySem.Spec PyProof.Rows
section
variable{X:Cx}
def tVar(i:Nat):TE:=fun σ H Q=>∃v,σ[i]?=some (some v)∧Q v H
def tC(v:V):TE:=fun _ H Q=>Q v H
theorem pe_var{i:Nat}{x:Str}{pos:Pos}(hN:X.N[i]?=some x)(hv:Vis X.env.scope x)(hd:(x==("__debug__":Str))=false:=by decide)(hcd:(x==("__classdict__":Str))=false:=by decide):PE X (.Name x pos) (tVar i):=by
 intro pins s σ H Q I h
 obtain⟨v,e,h⟩:=h
 obtain⟨m,hn,hl⟩:=I.loc
 obtain⟨u,r,l⟩:=hl i x v hN e hv
 have fin:EP X pins σ Q u s:=⟨v,H,I,r,h⟩
 rcases l with ⟨hk,hm⟩ | ⟨hk,c,hc,hcell⟩
 ·exact wpAny_Name (wpAny_loadName_local I.ok.kind hk hn hm fin) hd
 ·rcases hk with hk | hk
  ·exact wpAny_Name (wpAny_loadName_cell I.ok.kind hk hc hcell fin) hd
  ·exact wpAny_Name (wpAny_loadName_free I.ok.kind hk hc hcell fin hcd) hd
theorem pe_int{i j pos}:PE X (.Constant (.int i) j pos) (tC (.int i)):=fun _ _ _ H _ I h=>wpAny_Constant_int ⟨.int i,H,I.tok _,⟨_,rfl⟩,h⟩
theorem pe_bl{b j pos}:PE X (.Constant (.bool b) j pos) (tC (.bl b)):=fun _ _ _ H _ I h=>Constant_bool ⟨.bl b,H,I,rfl,h⟩
theorem pe_non{j pos}:PE X (.Constant .none j pos) (tC .non):=fun _ _ _ H _ I h=>Constant_none ⟨.non,H,I,rfl,h⟩
theorem pe_str{x j pos}:PE X (.Constant (.str x) j pos) (tC (.str x)):=fun _ _ _ H _ I h=>Calls.Constant_str ⟨.str x,H,I.tok _,⟨_,rfl⟩,h⟩
def Gl(X:Cx)(x:Str):Prop:=X.env.kindOf x=some .globalImplicit
theorem ld_glob{E:Value→Shared→Prop}{pins:List (Addr×Obj)}{s:Shared}{σ:St}{H:Hp}{x:Str}{u:Value}{pos:Pos}{Q:Value→Shared→Prop}(I:Inv X pins σ H s)(hg:Gl X x)(hm:X.mg x=some u)(h:Q u s)
 (hd:(x==("__debug__":Str))=false:=by decide):wpAny (model X.prog X.w) X.A (eval (.Name x pos) X.env) Q E s:=
 Calls.Name_function_global I.ok.kind hg (Calls.loadGlobal_global (by rw[I.ok.glob];exact I.mod.glob.keeps I.bk) hm h) hd
theorem ld_blt{E:Value→Shared→Prop}{pins:List (Addr×Obj)}{s:Shared}{σ:St}{H:Hp}{x:Str}{u:Value}{pos:Pos}{Q:Value→Shared→Prop}(I:Inv X pins σ H s)(hg:Gl X x)(hm:X.mg x=none)(hv:bootBuiltins x=some u)(h:Q u s)
 (hn:x≠"__name__":=by decide)(hd:(x==("__debug__":Str))=false:=by decide):wpAny (model X.prog X.w) X.A (eval (.Name x pos) X.env) Q E s:=by
 obtain⟨mb,h1,h2⟩:=I.mod.blt
 exact Calls.Name_function_global I.ok.kind hg (Calls.loadGlobal_builtin (by rw[I.ok.glob];exact I.mod.glob.keeps I.bk) hm (by rw[I.ok.blt];exact h1.keeps I.bk) ((h2 x hn).trans hv) h) hd
theorem pe_glob{x:Str}{v:V}{u:Value}{pos:Pos}(hg:Gl X x)(hm:X.mg x=some u)(r:RelV v u)(hd:(x==("__debug__":Str))=false:=by decide):PE X (.Name x pos) (tC v):=
 fun _ _ _ H _ I h=>ld_glob I hg hm ⟨v,H,I,r,h⟩ hd
theorem pe_bltn{x:Str}{v:V}{u:Value}{pos:Pos}(hg:Gl X x)(hm:X.mg x=none)(hv:bootBuiltins x=some u)(r:RelV v u)(hn:x≠"__name__":=by decide)(hd:(x==("__debug__":Str))=false:=by decide):PE X (.Name x pos) (tC v):=
 fun _ _ _ H _ I h=>ld_blt I hg hm hv ⟨v,H,I,r,h⟩ hn hd
variable{a b:Expr}{ta tb:TE}{pos:Pos}
def tB(t:TE):TT:=fun σ H Q=>t σ H fun x H1=>∃c,x=.bl c∧Q c H1
theorem pt_val{e:Expr}{t:TE}(h:PE X e t)(he:∀whole,isTrue e X.env whole=(do let v ←whole;standAt e.pos;holding [v] (truthy v)):=by intro _;rfl):PT X e (tB t):=by
 intro pins s σ H Q I hw
 refine isTrue_plain (thn (h pins s σ H _ I hw) fun v s1 ⟨x,H1,I1,r1,q1⟩=>?_) (he _)
 obtain⟨d,rfl,q⟩:=q1
 cases r1
 exact wpAny_truthy_bool ⟨H1,I1,q⟩
variable{tA tB':TT}{rest:List Expr}
def tAnd(t u:TT):TT:=fun σ H Q=>t σ H fun c H1=>if c=true then u σ H1 Q else Q false H1
def tOr(t u:TT):TT:=fun σ H Q=>t σ H fun c H1=>if c=true then Q true H1 else u σ H1 Q
def tNot(t:TT):TT:=fun σ H Q=>t σ H fun c H1=>Q (!c) H1
theorem pw_and1(ha:PT X a tA):PW X (.BoolOp .And [a] pos) tA:=by
 intro wh pins s σ H Q I h
 refine isTrue_and (thn (ha pins s σ H Q I h) fun c s1 e=>?_)
 cases c with
 | true=>exact isTrue_and_nil e
 | false=>exact e
theorem pw_or1(ha:PT X a tA):PW X (.BoolOp .Or [a] pos) tA:=by
 intro wh pins s σ H Q I h
 refine isTrue_or (thn (ha pins s σ H Q I h) fun c s1 e=>?_)
 cases c with
 | false=>exact isTrue_or_nil e
 | true=>exact e
theorem pw_and(ha:PT X a tA)(hb:PW X (.BoolOp .And (b::rest) pos) tB'):PW X (.BoolOp .And (a::b::rest) pos) (tAnd tA tB'):=by
 intro wh pins s σ H Q I h
 refine isTrue_and (thn (ha pins s σ H _ I h) fun c s1 ⟨H1,I1,q1⟩=>?_)
 cases c with
 | true=>exact hb wh pins s1 σ H1 Q I1 q1
 | false=>exact⟨H1,I1,q1⟩
theorem pw_or(ha:PT X a tA)(hb:PW X (.BoolOp .Or (b::rest) pos) tB'):PW X (.BoolOp .Or (a::b::rest) pos) (tOr tA tB'):=by
 intro wh pins s σ H Q I h
 refine isTrue_or (thn (ha pins s σ H _ I h) fun c s1 ⟨H1,I1,q1⟩=>?_)
 cases c with
 | true=>exact⟨H1,I1,q1⟩
 | false=>exact hb wh pins s1 σ H1 Q I1 q1
theorem pt_not(ha:PT X a tA):PT X (.UnaryOp .Not a pos) (tNot tA):=by
 intro pins s σ H Q I h
 exact isTrue_not (ha pins s σ H (fun c H1=>Q (!c) H1) I h)
def tAndV(ta tb:TE):TE:=fun σ H Q=>ta σ H fun x H1=>∃c,x=.bl c∧if c=true then tb σ H1 Q else Q (.bl false) H1
def tNotV(ta:TE):TE:=fun σ H Q=>ta σ H fun x H1=>∃c,x=.bl c∧Q (.bl (!c)) H1
theorem pe_one{op}{t:TE}(h:PE X a t):PE X (.BoolOp op [a] pos) t:=fun pins s σ H Q I hw=>BoolOp_one (h pins s σ H Q I hw)
theorem pe_and(ha:PE X a ta)(hb:PE X (.BoolOp .And (b::rest) pos) tb):PE X (.BoolOp .And (a::b::rest) pos) (tAndV ta tb):=by
 intro pins s σ H Q I h
 refine BoolOp_and (thn (ha pins s σ H _ I h) fun v s1 ⟨x,H1,I1,r1,q1⟩=>?_)
 obtain⟨c,rfl,q1⟩:=q1
 cases r1
 refine wpAny_truthy_bool ?_
 cases c with
 | true=>exact hb pins s1 σ H1 Q I1 q1
 | false=>exact⟨.bl false,H1,I1,rfl,q1⟩
theorem pe_not(ha:PE X a ta):PE X (.UnaryOp .Not a pos) (tNotV ta):=by
 intro pins s σ H Q I h
 refine UnaryOp_ (thn (ha pins s σ H _ I h) fun v s1 ⟨x,H1,I1,r1,q1⟩=>?_)
 obtain⟨c,rfl,q1⟩:=q1
 cases r1
 exact not_of (wpAny_truthy_bool ⟨.bl (!c),H1,I1,rfl,q1⟩)
def tIf(t:TT)(ta tb:TE):TE:=fun σ H Q=>t σ H fun c H1=>if c=true then ta σ H1 Q else tb σ H1 Q
theorem pe_ifExp{c:Expr}(hc:PT X c tA)(ha:PE X a ta)(hb:PE X b tb):PE X (.IfExp c a b pos) (tIf tA ta tb):=by
 intro pins s σ H Q I h
 refine wpAny_IfExp (thn (hc pins s σ H _ I h) fun d s1 ⟨H1,I1,q1⟩=>?_)
 cases d with
 | true=>exact ha pins s1 σ H1 Q I1 q1
 | false=>exact hb pins s1 σ H1 Q I1 q1
end
end L2
namespace L2
open PySem PySem.Spec PyProof.Rows
def SqL(K:PySem.W.Frag)(H:Hp)(a:Addr)(xs:List V):Prop:=
 Rd H a (.lst xs)∨
  ∃(o:Obj) (its:Array Value) (n:Nat),K.lookup a=some o∧o.cls=.type "list"∧o.dict=none∧o.data=.seq its n∧its.size≤sizeLine∧Vals xs its.toList
def SqT(K:PySem.W.Frag)(H:Hp)(a:Addr)(xs:List V):Prop:=
 Rd H a (.tup xs)∨
  ∃(o:Obj) (its:Array Value) (n:Nat),K.lookup a=some o∧o.cls=.type "tuple"∧o.data=.seq its n∧its.size≤sizeLine∧Vals xs its.toList
def absV:Value→Option V
 | .none=>some .non
 | .bool b=>some (.bl b)
 | .int i _=>some (.int i)
 | .str x _=>some (.str x)
 | .bytes b _=>some (.byt b)
 | .float b _=>some (.flt b)
 | .ref a=>some (.ref a)
 | .type n=>some (.ty n)
 | _=>none
theorem RelV.abs{x:V}{u:Value}(r:RelV x u):absV u=some x:=by
 cases x with
 | non=>cases r;rfl
 | bl _=>cases r;rfl
 | int _=>obtain⟨t,rfl⟩:=r;rfl
 | str _=>obtain⟨t,rfl⟩:=r;rfl
 | byt _=>obtain⟨t,rfl⟩:=r;rfl
 | flt _=>obtain⟨t,rfl⟩:=r;rfl
 | ref _=>cases r;rfl
 | ty _=>cases r;rfl
theorem RelV.inj{x y:V}{u:Value}(r:RelV x u)(q:RelV y u):x=y:=Option.some.inj (r.abs.symm.trans q.abs)
theorem Vals.inj:∀{xs ys:List V} {us:List Value},Vals xs us→Vals ys us→xs=ys
 | _,_,_,.nil,.nil=>rfl
 | _,_,_,.cons r t,.cons r' t'=>by rw[r.inj r',Vals.inj t t']
section
variable{X:Cx}{pins:List (Addr×Obj)}{σ:St}{H:Hp}{s:Shared}{a:Addr}{xs ys:List V}
theorem SqL.of{K:PySem.W.Frag}(h:H a=some (.lst xs)):SqL K H a xs:=.inl (.inl h)
theorem SqT.of{K:PySem.W.Frag}(h:H a=some (.tup xs)):SqT K H a xs:=.inl (.inl h)
theorem Inv.list(I:Inv X pins σ H s)(h:SqL X.K H a xs):∃its:List Value,Vals xs its∧PlainL s.heap a its.toArray∧xs.length≤sizeLine:=by
 rcases h with h | ⟨o,its,n,hk,hc,hd,hs,hz,r⟩
 ·obtain⟨z,its,n,r,e⟩:=h.ok I.hok
  exact⟨its,r,⟨_,n,e,rfl,rfl,rfl⟩,z⟩
 ·refine⟨its.toList,r,⟨o,n,I.kIn a o hk,hc,hd,by simpa using hs⟩,?_⟩
  have e:=r.length
  simp only[Array.length_toList] at e
  omega
theorem Inv.tuple(I:Inv X pins σ H s)(h:SqT X.K H a xs):∃its:List Value,Vals xs its∧IsTup s.heap a its.toArray∧xs.length≤sizeLine:=by
 rcases h with h | ⟨o,its,n,hk,hc,hs,hz,r⟩
 ·obtain⟨z,its,r,p⟩:=h.ok I.hok
  exact⟨its,r,p,z⟩
 ·refine⟨its.toList,r,⟨o,I.kIn a o hk,hc,n,by simpa using hs⟩,?_⟩
  have e:=r.length
  simp only[Array.length_toList] at e
  omega
theorem Inv.list_inj(I:Inv X pins σ H s)(h:SqL X.K H a xs)(h':SqL X.K H a ys):xs=ys:=by
 obtain⟨its,r,⟨o,n,e,_,_,d⟩,_⟩:=I.list h
 obtain⟨its',r',⟨o',n',e',_,_,d'⟩,_⟩:=I.list h'
 rw[e] at e';cases e'
 rw[d] at d'
 injection d' with d1 _
 have:its=its':=by simpa using congrArg Array.toList d1
 subst this
 exact r.inj r'
theorem Inv.tuple_inj(I:Inv X pins σ H s)(h:SqT X.K H a xs)(h':SqT X.K H a ys):xs=ys:=by
 obtain⟨its,r,⟨o,e,_,n,d⟩,_⟩:=I.tuple h
 obtain⟨its',r',⟨o',e',_,n',d'⟩,_⟩:=I.tuple h'
 rw[e] at e';cases e'
 rw[d] at d'
 injection d' with d1 _
 have:its=its':=by simpa using congrArg Array.toList d1
 subst this
 exact r.inj r'
end
abbrev Cx.wish(X:Cx)(E:Value→Shared→Prop):Cx:={ X with xe:=E }
abbrev Cx.nox(X:Cx):Cx:=X.wish fun _ _=>False
theorem Cx.Ok.wish{X:Cx}(ok:X.Ok)(E:Value→Shared→Prop):(X.wish E).Ok:=
 ⟨ok.mod,ok.kind,ok.glob,ok.blt,ok.above,ok.inj,ok.has,ok.cab,ok.hd,ok.frames,ok.stk,ok.exf,ok.bs,ok.bsz,ok.noex,ok.exfs,ok.funs,ok.frf⟩
theorem Cx.Ok.unwish{X:Cx}{E:Value→Shared→Prop}(ok:(X.wish E).Ok):X.Ok:=
 ⟨ok.mod,ok.kind,ok.glob,ok.blt,ok.above,ok.inj,ok.has,ok.cab,ok.hd,ok.frames,ok.stk,ok.exf,ok.bs,ok.bsz,ok.noex,ok.exfs,ok.funs,ok.frf⟩
section
variable{X:Cx}{pins:List (Addr×Obj)}{σ:St}{H:Hp}{s:Shared}{E:Value→Shared→Prop}
theorem Inv.wish(I:Inv X pins σ H s)(E:Value→Shared→Prop):Inv (X.wish E) pins σ H s:=⟨I.ok.wish E,I.os,I.bare,I.base,I.loc,I.cell,I.free,I.freeC,I.pin,I.hok,I.len⟩
theorem Inv.unwish(I:Inv (X.wish E) pins σ H s):Inv X pins σ H s:=⟨I.ok.unwish,I.os,I.bare,I.base,I.loc,I.cell,I.free,I.freeC,I.pin,I.hok,I.len⟩
theorem SP.unwish{D:Ends}{f:Flow}{s':Shared}(h:SP (X.wish E) pins D f s'):SP X pins D f s':=by
 cases f with
 | next=>obtain⟨σ',H',I,q⟩:=h;exact⟨σ',H',I.unwish,q⟩
 | brk=>obtain⟨σ',H',I,q⟩:=h;exact⟨σ',H',I.unwish,q⟩
 | cont=>obtain⟨σ',H',I,q⟩:=h;exact⟨σ',H',I.unwish,q⟩
 | ret u=>obtain⟨v,σ',H',I,r,q⟩:=h;exact⟨v,σ',H',I.unwish,r,q⟩
theorem PSs.nox{st:List Stmt}{t:TS}(h:PSs X.nox st t):PSs X st t:=fun pins s σ H D I hw=>
 wpAny_mono (h pins s σ H D (I.wish _) hw) (fun _ _ q=>q.unwish) fun _ _ z=>False.elim z
end
section
variable{X:Cx}{st:Stmt}{rest:List Stmt}{t u:TS}{e:Expr}{te:TE}{pos:Pos}
def tNext:TS:=fun D σ H=>D.nx σ H
def tSeq(t u:TS):TS:=fun D σ H=>t { D with nx:=u D } σ H
theorem pss_nil:PSs X [] tNext:=fun _ _ σ H _ I h=>wpAny_execs_nil ⟨σ,H,I,h⟩
theorem pss_cons(h1:PS X st t)(h2:PSs X rest u):PSs X (st::rest) (tSeq t u):=by
 intro pins s σ H D I h
 refine wpAny_execs_cons (thn (h1 pins s σ H { D with nx:=u D } I h) fun f s1 q=>?_)
 cases f with
 | next=>
  obtain⟨σ',H',I',q⟩:=q
  exact h2 pins s1 σ' H' D I' q
 | ret v=>exact q
 | brk=>exact q
 | cont=>exact q
theorem pss_one(h1:PS X st t):PSs X [st] t:=by
 intro pins s σ H D I h
 refine wpAny_execs_cons (thn (h1 pins s σ H D I h) fun f s1 q=>?_)
 cases f with
 | next=>exact wpAny_execs_nil q
 | ret v=>exact q
 | brk=>exact q
 | cont=>exact q
def tBreak:TS:=fun D σ H=>D.bk σ H
theorem ps_break:PS X (.Break pos) tBreak:=fun _ _ σ H _ I h=>wpAny_Break ⟨σ,H,I,h⟩
theorem Inv.quiet{pins:List (Addr×Obj)}{σ:St}{H:Hp}{s:Shared}(I:Inv X pins σ H s):interactive X.env=false:=by simp[interactive,I.ok.kind]
def tDrop(te:TE):TS:=fun D σ H=>te σ H fun _ H1=>D.nx σ H1
theorem ps_expr(he:PE X e te)(hs:swapsWith e none pos.line X.env=pure false:=by rfl):PS X (.Expr e pos) (tDrop te):=by
 intro pins s σ H D I h
 exact wpAny_Expr_any (thn (he pins s σ H _ I h) fun v s1 ⟨x,H1,I1,r1,q1⟩=>⟨σ,H1,I1,q1⟩) I.quiet hs
def tRet(te:TE):TS:=fun D σ H=>te σ H D.rt
theorem ps_ret(he:PE X e te):PS X (.Return (some e) pos) (tRet te):=by
 intro pins s σ H D I h
 exact wpAny_Return_some (thn (he pins s σ H _ I h) fun v s1 ⟨x,H1,I1,r1,q1⟩=>⟨x,σ,H1,I1,r1,q1⟩)
def tIfS(c:TT)(t u:TS):TS:=fun D σ H=>c σ H fun b H1=>if b=true then t D σ H1 else u D σ H1
theorem ps_if{c:Expr}{a b:List Stmt}{tc:TT}(hc:PT X c tc)(ha:PSs X a t)(hb:PSs X b u):PS X (.If c a b pos) (tIfS tc t u):=by
 intro pins s σ H D I h
 refine wpAny_If (thn (hc pins s σ H _ I h) fun d s1 ⟨H1,I1,q1⟩=>?_)
 cases d with
 | true=>exact ha pins s1 σ H1 D I1 q1
 | false=>exact hb pins s1 σ H1 D I1 q1
def tNever:TS:=fun _ _ _=>False
theorem ps_never:PS X st tNever:=fun _ _ _ _ _ _ h=>h.elim
end
abbrev TG:=V→St→Hp→(St→Hp→Prop)→Prop
abbrev TGs:=List V→St→Hp→(St→Hp→Prop)→Prop
def PG(X:Cx)(target:Expr)(t:TG):Prop:=
 ∀(pins:List (Addr×Obj)) (s:Shared) (σ:St) (H:Hp) (v:V) (u:Value) (Q:St→Hp→Prop),Inv X pins σ H s→RelV v u→t v σ H Q→
  wpAny (model X.prog X.w) X.A (assign target X.env u) (fun _ s'=>∃σ' H',Inv X pins σ' H' s'∧Q σ' H') X.xe s
def PGs(X:Cx)(ts:List Expr)(t:TGs):Prop:=
 ∀(pins:List (Addr×Obj)) (s:Shared) (σ:St) (H:Hp) (vs:List V) (us:List Value) (Q:St→Hp→Prop),Inv X pins σ H s→Vals vs us→t vs σ H Q→
  wpAny (model X.prog X.w) X.A (assignInOrder ((assignEach ts X.env).map (·.2)) us) (fun _ s'=>∃σ' H',Inv X pins σ' H' s'∧Q σ' H') X.xe s
abbrev TSet:=V→V→V→Hp→(Hp→Prop)→Prop
def PSet(X:Cx)(t:TSet):Prop:=
 ∀(pins:List (Addr×Obj)) (s:Shared) (σ:St) (H:Hp) (o i v:V) (ov iv u:Value) (Q:Hp→Prop),Inv X pins σ H s→RelV o ov→RelV i iv→RelV v u→t o i v H Q→
  wpAny (model X.prog X.w) X.A (setItem ov iv u) (fun _ s'=>∃H',Inv X pins σ H' s'∧Q H') X.xe s
section
variable{X:Cx}{pos:Pos}
def gName(i:Nat):TG:=fun v σ H Q=>Q (σ.set i (some v)) H
theorem pg_name{i:Nat}{x:Str}(hN:X.N.Nodup)(hi:X.N[i]?=some x)(hx:Loc X.env.scope x)(hf:X.fn x=true∨X.env.scope.names.lookup x=some .local:=by first | exact .inl rfl | exact .inr rfl | assumption):PG X (.Name x pos) (gName i):=by
 intro pins s σ H v u Q I r h
 exact wpAny_assign_Name (store_ok I hN hi hx r (fun s' I'=>⟨_,H,I',h⟩) hf)
def gNil:TGs:=fun vs σ H Q=>vs=[]∧Q σ H
def gCons(t:TG)(u:TGs):TGs:=fun vs σ H Q=>∃v r,vs=v::r∧t v σ H fun σ' H'=>u r σ' H' Q
theorem pgs_nil:PGs X [] gNil:=by
 intro pins s σ H vs us Q I r h
 obtain⟨e,h⟩:=h
 subst e
 cases r
 exact assignInOrder_nil ⟨σ,H,I,h⟩
theorem pgs_cons{e:Expr}{es:List Expr}{t:TG}{u:TGs}(h1:PG X e t)(h2:PGs X es u)
 (hs:(assignEach (e::es) X.env).map (·.2)=assign e X.env::(assignEach es X.env).map (·.2):=by rfl):PGs X (e::es) (gCons t u):=by
 intro pins s σ H vs us Q I r h
 obtain⟨v,vr,e1,h⟩:=h
 subst e1
 cases r with
 | cons r rr=>
  rw[hs]
  refine assignInOrder_cons (thn (h1 pins s σ H _ _ _ I r h) fun _ s1 ⟨σ1,H1,I1,q1⟩=>?_)
  exact h2 pins s1 σ1 H1 _ _ Q I1 rr q1
def gTup(K:PySem.W.Frag)(n:Nat)(t:TGs):TG:=fun v σ H Q=>∃a xs,v=.ref a∧SqT K H a xs∧xs.length=n∧t xs σ H Q
theorem pg_tup{es:List Expr}{k:Nat}{t:TGs}{n:Nat}(hc:X.calm=true)(h:PGs X es t)
 (hn:(assignEach es X.env).length=n:=by rfl)(hst:(assignEach es X.env).findIdx? (·.1)=none:=by rfl):PG X (.Tuple es k pos) (gTup X.K n t):=by
 intro pins s σ H v u Q I r hw
 obtain⟨a,xs,e1,hq,hl,hw⟩:=hw
 subst e1
 cases r
 obtain⟨its,rv,ht,hz⟩:=I.tuple hq
 refine assign_Tuple_tuple (I.ok.hd hc) ht (by simp[hn,←hl,rv.length]) hst fun h' hx=>?_
 have I1:Inv X pins σ H { s with heap:=h' }:=I.kept (t':=s.toks) fun b o e=>hx b o (Nat.ne_of_lt (Heap.lt_size e)) e
 exact h pins _ σ H xs _ Q I1 (by simpa using rv) hw
def gSub(to ti:TE)(t:TSet):TG:=fun v σ H Q=>to σ H fun o H1=>ti σ H1 fun i H2=>t o i v H2 fun H3=>Q σ H3
theorem pg_sub{o i:Expr}{to ti:TE}{t:TSet}(ho:PE X o to)(hi:PE X i ti)(hs:PSet X t)
 (ha:∀v,assign (.Subscript o i pos) X.env v=(do
  let ov ←holding [v] (eval o X.env)
  let iv ←holding [v,ov] (eval i X.env)
  standAt pos
  holding [v,ov,iv] (setItem ov iv v)
  release [v,ov,iv] []):=by intro _;rfl):PG X (.Subscript o i pos) (gSub to ti t):=by
 intro pins s σ H v u Q I r h
 rw[ha]
 refine wpAny_bind (wpAny_holding (thn (ho pins s σ H _ I h) fun ov s1 ⟨x,H1,I1,r1,q1⟩=>?_))
 refine wpAny_bind (wpAny_holding (thn (hi pins s1 σ H1 _ I1 q1) fun iv s2 ⟨y,H2,I2,r2,q2⟩=>?_))
 refine wpAny_bind (wpAny_standAt (wpAny_bind (wpAny_holding (thn (hs pins s2 σ H2 x y v ov iv u _ I2 r1 r2 r q2) fun _ s3 ⟨H3,I3,q3⟩=>?_))))
 exact wpAny_release ⟨σ,H3,I3,q3⟩
def tAsg(te:TE)(g:TG):TS:=fun D σ H=>te σ H fun x H1=>g x σ H1 D.nx
theorem ps_asg{tg e:Expr}{te:TE}{g:TG}(he:PE X e te)(hg:PG X tg g)(hs:swapsWithSole [tg] e pos.line X.env=pure false:=by rfl)(hw:swappedStores [tg] e X.env=pure none:=by rfl)
 (h1:(assignEach [tg] X.env).map (·.2)=[assign tg X.env]:=by rfl):PS X (.Assign [tg] e pos) (tAsg te g):=by
 intro pins s σ H D I h
 refine wpAny_Assign_stores (thn (he pins s σ H _ I h) fun v s1 ⟨x,H1,I1,r1,q1⟩=>?_) hs hw
 rw[h1]
 exact thn (hg pins s1 σ H1 x v _ I1 r1 q1) fun _ s2 q=>q
theorem ps_set{i:Nat}{x:Str}{e:Expr}{te:TE}{pos':Pos}(hN:X.N.Nodup)(hi:X.N[i]?=some x)(hx:Loc X.env.scope x)(he:PE X e te)(hs:swapsWith e (some (.Name x pos')) pos.line X.env=pure false:=by rfl)(hf:X.fn x=true∨X.env.scope.names.lookup x=some .local:=by first | exact .inl rfl | exact .inr rfl | assumption):
 PS X (.Assign [.Name x pos'] e pos) (tAsg te (gName i)):=by
 intro pins s σ H D I h
 refine wpAny_Assign_Name (thn (he pins s σ H _ I h) fun v s1 ⟨y,H1,I1,r1,q1⟩=>?_) hs
 exact store_ok I1 hN hi hx r1 (fun s2 I2=>⟨_,H1,I2,q1⟩) hf
def tPar(i j:Nat)(ta:TA):TS:=fun D σ H=>ta σ H fun vs H1=>∃v w,vs=[v,w]∧D.nx ((σ.set i (some v)).set j (some w)) H1
theorem ps_par{i j:Nat}{x y:Str}{a b:Expr}{ta:TA}{px py pt:Pos}{kt k2 pt2}(hc:X.calm=true)(hN:X.N.Nodup)(hi:X.N[i]?=some x)(hj:X.N[j]?=some y)(hij:i≠j)
 (hx:X.env.scope.names.lookup x=some .local)(hy:X.env.scope.names.lookup y=some .local)(ha:PA X [a,b] ta)
 (hw:swappedStores [.Tuple [.Name x px,.Name y py] kt pt] (.Tuple [a,b] k2 pt2) X.env=pure (some [x,y]))
 (hs:swapsWithSole [.Tuple [.Name x px,.Name y py] kt pt] (.Tuple [a,b] k2 pt2) pos.line X.env=pure false:=by rfl):
 PS X (.Assign [.Tuple [.Name x px,.Name y py] kt pt] (.Tuple [a,b] k2 pt2) pos) (tPar i j ta):=by
 intro pins s σ H D I h
 rw[exec_Assign_arm]
 refine wpAny_bind (wpAny_standAt ?_)
 rw[hs]
 refine wpAny_bind (wpAny_pure ?_)
 rw[if_neg (by decide)]
 refine wpAny_bind (Tuple_ (thn (ha _ pins s σ H _ I h) fun us s1 ⟨vs,H1,I1,r1,q1⟩=>?_))
 obtain⟨v,w,e1,q1⟩:=q1
 subst e1
 obtain⟨u1,u2,rfl,rv,rw'⟩:∃u1 u2,us=[u1,u2]∧RelV v u1∧RelV w u2:=by
  cases r1 with
  | cons p q=>
   cases q with
   | cons p' q'=>
    cases q'
    exact⟨_,_,rfl,p,p'⟩
 refine wpAny_newObj_type ?_ (by show 2≤sizeLine;decide)
 have I2:Inv X pins σ H1 { s1 with heap:=s1.heap.push { cls:=.type "tuple",data:=.seq [u1,u2].toArray } }:=I1.kept (t':=s1.toks) fun b o e=>Heap.get?_push_of_some _ e
 rw[hw]
 refine wpAny_bind (wpAny_pure ?_)
 show wpAny (model X.prog X.w) X.A (do rule "assign.swapped-stores";let items ←unpackItems (.ref s1.heap.objs.size) 2 none;assignInOrder [fun v=>bindName X.env y v,fun v=>bindName X.env x v] items.reverse;pure Flow.next) _ _ _
 refine wpAny_bind (wpAny_rule (wpAny_bind (unpackItems_tuple (items:= #[u1,u2]) (I.ok.hd hc) (IsTup.new s1.heap _) fun h' hx'=>?_)))
 have I3:=I2.kept (h':=h') (t':=s1.toks) fun b o e=>hx' b o (Nat.ne_of_lt (Heap.lt_size e)) e
 show wpAny _ _ (assignInOrder [fun v=>bindName X.env y v,fun v=>bindName X.env x v] [u2,u1] >>= fun _=>pure Flow.next) _ _ _
 refine wpAny_bind (assignInOrder_cons (wpAny_bindName (store_ok I3 hN hj (.inl hy) rw' (fun s2 I4=>?_) (.inr hy))))
 refine assignInOrder_cons (wpAny_bindName (store_ok I4 hN hi (.inl hx) rv (fun s3 I5=>assignInOrder_nil (wpAny_pure ?_)) (.inr hx)))
 rw[List.set_comm _ _ (Ne.symm hij)] at I5
 exact⟨_,H1,I5,q1⟩
end
section
variable{X:Cx}{pos:Pos}
def tWhile(c:TT)(tb:TS):TS:=fun D σ H=>∃W:Nat→St→Hp→Prop,(∃m,W m σ H)∧∀m σ H,W m σ H→
 c σ H fun b H1=>if b=true then ∃N:St→Hp→Prop,(∀σ' H',N σ' H'→∃m',m'<m∧W m' σ' H')∧tb { D with nx:=N,ct:=N,bk:=D.nx } σ H1 else D.nx σ H1
theorem ps_while{c:Expr}{body:List Stmt}{tc:TT}{tb:TS}(hp:PassesOwn (model X.prog X.w) X.A X.env X.xe)(hc:PT X c tc)(hb:PSs X body tb):PS X (.While c body [] pos) (tWhile tc tb):=by
 intro pins s σ H D I h
 obtain⟨W,⟨m0,w0⟩,turn⟩:=h
 refine wpAny_While (codeAny_whileLoop (fun n s'=>∃σ' H',Inv X pins σ' H' s'∧W n σ' H') ?_ m0 ⟨σ,H,I,w0⟩)
 rintro n s1 ⟨σ1,H1,I1,w1⟩
 refine wpAny_passesOwn hp (thn (hc pins s1 σ1 H1 _ I1 (turn n σ1 H1 w1)) fun b s2 ⟨H2,I2,q2⟩=>?_)
 cases b with
 | true=>
  obtain⟨N,hN,q2⟩:=q2
  rw[if_pos rfl]
  refine wpAny_passesOwn hp (thn (hb pins s2 σ1 H2 _ I2 q2) fun f s3 q3=>?_)
  cases f with
  | next=>
   obtain⟨σ3,H3,I3,n3⟩:=q3
   obtain⟨m',hm,w3⟩:=hN σ3 H3 n3
   exact⟨m',hm,σ3,H3,I3,w3⟩
  | cont=>
   obtain⟨σ3,H3,I3,n3⟩:=q3
   obtain⟨m',hm,w3⟩:=hN σ3 H3 n3
   exact⟨m',hm,σ3,H3,I3,w3⟩
  | brk=>exact q3
  | ret v=>exact q3
 | false=>
  rw[if_neg Bool.false_ne_true]
  exact wpAny_execs_nil ⟨σ1,H2,I2,q2⟩
end
structure It where
 go:Nat→Hp→Prop
 yld:Nat→Hp→V→Hp→Prop
 stop:Nat→Hp→Prop
def FpOk(X:Cx)(pins:List (Addr×Obj))(H:Hp)(b:Addr):Prop:=
 H b=none∧b≠X.env.locals∧b∉X.fs∧(b∈X.ex∨X.s₀.heap.objs.size≤b)∧(∀x c,X.env.cells.lookup x=some c→c≠b)∧∀p∈X.pn++pins,p.1≠b
theorem Inv.fpOk{X:Cx}{pins:List (Addr×Obj)}{σ:St}{H H':Hp}{s:Shared}{b:Addr}(I:Inv X pins σ H s)(hb:s.heap.objs.size≤b)(hn:H' b=none):FpOk X pins H' b:=by
 refine⟨hn,Nat.ne_of_gt (Nat.lt_of_lt_of_le I.lt hb),I.nofs hb,.inr (Nat.le_trans I.sz hb),fun x c e z=>?_,fun p hp z=>?_⟩
 ·obtain⟨v,q⟩:=I.cell x c e
  exact absurd (Nat.lt_of_lt_of_le q.lt (by rw[z];exact hb)) (Nat.lt_irrefl _)
 ·exact absurd (Nat.lt_of_lt_of_le (Heap.lt_size (I.pin p hp).1) (by rw[z];exact hb)) (Nat.lt_irrefl _)
structure Turn(P:Program)(w:World)(K:PySem.W.Frag)(tg:Expr)(J:It)(fp:List Addr)(it:Addr)(tn:Nat→Heap→Prop):Prop where
 mem:it∈fp
 obj:∀i h,tn i h→∀b∈fp,∃o,h.get? b=some o∧∀v,o.data≠.cell v
 keep:∀i h h',tn i h→(∀b∈fp,∀o,h.get? b=some o→h'.get? b=some o)→tn i h'
 item:∀(X:Cx),X.prog=P→X.w=w→X.K=K→X.calm=true→∀(i:Nat) (pins:List (Addr×Obj)) (s:Shared) (σ:St) (H:Hp) (E:Value→Shared→Prop),Inv X pins σ H s→(∀b∈fp,FpOk X pins H b)→tn i s.heap→J.go i H→
  wpAny (model P w) X.A (pyNext (.ref it)) (fun r s1=>∃u,r=some u∧
   wpAny (model P w) X.A (letOwnedTupleGo tg (.ref it) u) (fun _ s2=>∃x H',Inv X pins σ H' s2∧RelV x u∧J.yld i H x H'∧tn (i+1) s2.heap∧∀b∈fp,H' b=none) E s1) E s
 done:∀(X:Cx),X.prog=P→X.w=w→X.K=K→X.calm=true→∀(i:Nat) (pins:List (Addr×Obj)) (s:Shared) (σ:St) (H:Hp) (E:Value→Shared→Prop),Inv X pins σ H s→(∀b∈fp,FpOk X pins H b)→tn i s.heap→J.stop i H→
  wpAny (model P w) X.A (pyNext (.ref it)) (fun r s1=>r=none∧Inv X pins σ H s1) E s
 self:∀(A:Around) (i:Nat) (s:Shared) (Q:Value→Shared→Prop) (E:Value→Shared→Prop),tn i s.heap→Q (.ref it) s→wpAny (model P w) A (pyIter (.ref it)) Q E s
abbrev TI:=St→Hp→(It→Hp→Prop)→Prop
def PIE(X:Cx)(pins:List (Addr×Obj))(σ:St)(tg:Expr)(R:It→Hp→Prop)(itv:Value)(s2:Shared):Prop:=
 ∃(it:Addr) (fp:List Addr) (tn:Nat→Heap→Prop) (J:It) (H':Hp),itv=.ref it∧Inv X pins σ H' s2∧Turn X.prog X.w X.K tg J fp it tn∧tn 0 s2.heap∧(∀b∈fp,FpOk X pins H' b)∧R J H'
def PI(X:Cx)(tg iter:Expr)(wi:TI):Prop:=
 ∀(pins:List (Addr×Obj)) (s:Shared) (σ:St) (H:Hp) (R:It→Hp→Prop),Inv X pins σ H s→wi σ H R→
  wpAny (model X.prog X.w) X.A (eval iter X.env) (fun v s1=>wpAny (model X.prog X.w) X.A (pyIter v) (PIE X pins σ tg R) X.xe s1) X.xe s
theorem go_of{M:Model}{A:Around}{E:Value→Shared→Prop}{s:Shared}{tg:Expr}{it:Addr}{u:Value}{o:Obj}{n:String}{vs:Array Value}{Q:Unit→Shared→Prop}(ho:s.heap.get? it=some o)(hc:o.cls=.type n)(hd:o.data=.fields vs)
 (hn:["enumerate","zip","dict_itemiterator","dict_reverseitemiterator","odict_iterator","itertools.zip_longest","itertools.pairwise"].contains n=false)(hQ:Q () s):wpAny M A (letOwnedTupleGo tg (.ref it) u) Q E s:=by
 unfold letOwnedTupleGo
 cases tg<;>first
  | exact wpAny_pure hQ
  | (cases u<;>first
   | exact wpAny_pure hQ
   | (refine wpAny_bind (wpAny_load ho ?_)
      rw[hc,hd]
      show wpAny M A (if (["enumerate","zip","dict_itemiterator","dict_reverseitemiterator","odict_iterator","itertools.zip_longest","itertools.pairwise"].contains n&&vs[0]?==some (rawInt _))=true then _ else _) Q E s
      rw[if_neg (by intro h;rw[hn,Bool.false_and] at h;cases h)]
      exact wpAny_pure hQ))
def Itl(K:PySem.W.Frag)(a:Addr):It:=
 ⟨fun i H=>∃xs x,SqL K H a xs∧xs[i]?=some x,fun i H x H'=>H'=H∧∀xs,SqL K H a xs→xs[i]?=some x,fun i H=>∃xs,SqL K H a xs∧xs.length≤i⟩
def Itt(K:PySem.W.Frag)(a:Addr):It:=
 ⟨fun i H=>∃xs x,SqT K H a xs∧xs[i]?=some x,fun i H x H'=>H'=H∧∀xs,SqT K H a xs→xs[i]?=some x,fun i H=>∃xs,SqT K H a xs∧xs.length≤i⟩
def Itr(lo:Int)(n:Nat):It:=⟨fun i _=>i<n,fun i H x H'=>H'=H∧x=.int (lo+i),fun i _=>n≤i⟩
theorem turn_list{P:Program}{w:World}{K:PySem.W.Frag}{tg:Expr}(a it:Addr):Turn P w K tg (Itl K a) [it] it (fun i h=>h.IsListIter it a i) where
 mem:=by simp
 obj:=fun i h st b hb=>by
  have e:b=it:=by simpa using hb
  subst e
  obtain⟨o,e,c,d⟩:=st
  exact⟨o,e,fun v z=>by rw[d] at z;cases z⟩
 keep:=fun i h h' st k=>st.at fun o e=>k it (by simp) o e
 item:=by
  intro X hP hw hK hc i pins s σ H E I hf st hg
  subst hP hw hK
  obtain⟨xs,x,hq,hx⟩:=hg
  obtain⟨its,rv,p,hz⟩:=I.list hq
  obtain⟨u,hu,ru⟩:=rv.get hx
  obtain⟨f0,f1,f2,f3,f4,f5⟩:=hf it (by simp)
  refine wpAny_pyNext_list_item st p.isList (x:=u) (by simpa using hu) fun h' st' sb=>?_
  have I1:Inv X pins σ H { s with heap:=h' }:=I.turned (t':=s.toks) (fun b o hb e=>(sb.2 b hb).trans e) f0 f1 f3 f4 f5
  obtain⟨o,e,c,d⟩:=id st'
  exact⟨u,rfl,go_of (s:={ s with heap:=h' }) e c d (by decide) ⟨x,H,I1,ru,⟨rfl,fun ys hy=>by rw[I.list_inj hy hq];exact hx⟩,st',fun b hb=>(hf b hb).1⟩⟩
 done:=by
  intro X hP hw hK hc i pins s σ H E I hf st hg
  subst hP hw hK
  obtain⟨xs,hq,hx⟩:=hg
  obtain⟨its,rv,p,hz⟩:=I.list hq
  obtain⟨f0,f1,f2,f3,f4,f5⟩:=hf it (by simp)
  have hl:=rv.length
  exact wpAny_pyNext_list_end (I.ok.hd hc) st p.isList (by simp;omega) fun h' eb=>⟨rfl,I.turned (t':=s.toks) (fun b o hb e=>eb b o hb e) f0 f1 f3 f4 f5⟩
 self:=fun _ _ _ _ _ st h=>wpAny_pyIter_listiter st h
theorem turn_tuple{P:Program}{w:World}{K:PySem.W.Frag}{tg:Expr}(a it:Addr):Turn P w K tg (Itt K a) [it] it (fun i h=>h.IsTupleIter it a i) where
 mem:=by simp
 obj:=fun i h st b hb=>by
  have e:b=it:=by simpa using hb
  subst e
  obtain⟨o,e,c,d⟩:=st
  exact⟨o,e,fun v z=>by rw[d] at z;cases z⟩
 keep:=fun i h h' st k=>st.at fun o e=>k it (by simp) o e
 item:=by
  intro X hP hw hK hc i pins s σ H E I hf st hg
  subst hP hw hK
  obtain⟨xs,x,hq,hx⟩:=hg
  obtain⟨its,rv,p,hz⟩:=I.tuple hq
  obtain⟨u,hu,ru⟩:=rv.get hx
  obtain⟨f0,f1,f2,f3,f4,f5⟩:=hf it (by simp)
  refine wpAny_pyNext_tuple_item st (show s.heap.IsTuple a its.toArray from p) (x:=u) (by simpa using hu) fun h' st' sb=>?_
  have I1:Inv X pins σ H { s with heap:=h' }:=I.turned (t':=s.toks) (fun b o hb e=>(sb.2 b hb).trans e) f0 f1 f3 f4 f5
  obtain⟨o,e,c,d⟩:=id st'
  exact⟨u,rfl,go_of (s:={ s with heap:=h' }) e c d (by decide) ⟨x,H,I1,ru,⟨rfl,fun ys hy=>by rw[I.tuple_inj hy hq];exact hx⟩,st',fun b hb=>(hf b hb).1⟩⟩
 done:=by
  intro X hP hw hK hc i pins s σ H E I hf st hg
  subst hP hw hK
  obtain⟨xs,hq,hx⟩:=hg
  obtain⟨its,rv,p,hz⟩:=I.tuple hq
  obtain⟨f0,f1,f2,f3,f4,f5⟩:=hf it (by simp)
  have hl:=rv.length
  exact wpAny_pyNext_tuple_end (I.ok.hd hc) st (show s.heap.IsTuple a its.toArray from p) (by simp;omega) fun h' eb=>⟨rfl,I.turned (t':=s.toks) (fun b o hb e=>eb b o hb e) f0 f1 f3 f4 f5⟩
 self:=fun _ _ _ _ _ st h=>wpAny_pyIter_tupleiter st h
theorem turn_range{P:Program}{w:World}{K:PySem.W.Frag}{tg:Expr}(it:Addr)(lo:Int)(n:Nat):Turn P w K tg (Itr lo n) [it] it (fun i h=>IsRangeIter h it (lo+(i:Nat)*1) ((n:Int)-(i:Nat)) 1) where
 mem:=by simp
 obj:=fun i h st b hb=>by
  have e:b=it:=by simpa using hb
  subst e
  exact⟨_,st,fun v z=>by
   have z':Data.fields _=Data.cell v:=z
   cases z'⟩
 keep:=fun i h h' st k=>k it (by simp) _ st
 item:=by
  intro X hP hw hK hc i pins s σ H E I hf st hg
  subst hP hw hK
  obtain⟨f0,f1,f2,f3,f4,f5⟩:=hf it (by simp)
  have W:=Walks.range (prog:=X.prog) (w:=X.w) (I.ok.hd hc) it lo 1 n
  refine W.item i s _ _ hg st fun v h' tk hv st' kk=>?_
  obtain⟨t,rfl⟩:=hv
  have I1:Inv X pins σ H { s with heap:=h',toks:=tk }:=I.turned (fun b o hb e=>kk b o (by simpa using hb) e) f0 f1 f3 f4 f5
  refine⟨_,rfl,go_of (s:={ s with heap:=h',toks:=tk }) (n:="range_iterator") st' rfl rfl (by decide) ⟨.int (lo+i),H,I1,⟨t,?_⟩,⟨rfl,rfl⟩,st',fun b hb=>(hf b hb).1⟩⟩
  rw[Int.mul_one]
 done:=by
  intro X hP hw hK hc i pins s σ H E I hf st hg
  subst hP hw hK
  obtain⟨f0,f1,f2,f3,f4,f5⟩:=hf it (by simp)
  exact wpAny_pyNext_range_end (I.ok.hd hc) st (by have:n≤i:=hg;omega) fun h' eb=>⟨rfl,I.turned (t':=s.toks) (fun b o hb e=>eb b o hb e) f0 f1 f3 f4 f5⟩
 self:=fun _ _ _ _ _ st h=>wpAny_pyIter_rangeiter st h
end L2
namespace L2
open PySem PySem.Spec PyProof.Rows
section
variable{X:Cx}{tg:Expr}
def iList(K:PySem.W.Frag)(tl:TE):TI:=fun σ H R=>tl σ H fun x H1=>∃a,x=.ref a∧(∃xs,SqL K H1 a xs)∧R (Itl K a) H1
def iTup(K:PySem.W.Frag)(tl:TE):TI:=fun σ H R=>tl σ H fun x H1=>∃a,x=.ref a∧(∃xs,SqT K H1 a xs)∧R (Itt K a) H1
theorem pi_list{l:Expr}{tl:TE}(hl:PE X l tl):PI X tg l (iList X.K tl):=by
 intro pins s σ H R I h
 refine thn (hl pins s σ H _ I h) fun v s1 ⟨x,H1,I1,r1,q1⟩=>?_
 obtain⟨a,e,⟨xs,hq⟩,q⟩:=q1
 subst e
 cases r1
 obtain⟨its,rv,p,hz⟩:=I1.list hq
 refine wpAny_pyIter_list p.isList ?_
 refine⟨s1.heap.objs.size,[s1.heap.objs.size],_,_,H1,rfl,I1.kept (t':=s1.toks) fun b o e=>Heap.get?_push_of_some _ e,turn_list a _,⟨_,Heap.get?_push_size _ rfl,rfl,rfl⟩,fun b hb=>?_,q⟩
 have e:b=s1.heap.objs.size:=by simpa using hb
 subst e
 exact I1.fpOk (Nat.le_refl _) (I1.hok.fresh (Nat.le_refl _))
theorem pi_tup{l:Expr}{tl:TE}(hl:PE X l tl):PI X tg l (iTup X.K tl):=by
 intro pins s σ H R I h
 refine thn (hl pins s σ H _ I h) fun v s1 ⟨x,H1,I1,r1,q1⟩=>?_
 obtain⟨a,e,⟨xs,hq⟩,q⟩:=q1
 subst e
 cases r1
 obtain⟨its,rv,p,hz⟩:=I1.tuple hq
 refine wpAny_pyIter_tuple (show s1.heap.IsTuple a its.toArray from p) ?_
 refine⟨s1.heap.objs.size,[s1.heap.objs.size],_,_,H1,rfl,I1.kept (t':=s1.toks) fun b o e=>Heap.get?_push_of_some _ e,turn_tuple a _,⟨_,Heap.get?_push_size _ rfl,rfl,rfl⟩,fun b hb=>?_,q⟩
 have e:b=s1.heap.objs.size:=by simpa using hb
 subst e
 exact I1.fpOk (Nat.le_refl _) (I1.hok.fresh (Nat.le_refl _))
theorem range_it{pins:List (Addr×Obj)}{σ:St}{H:Hp}{s:Shared}{R:It→Hp→Prop}{E:Value→Shared→Prop}{lo hi:Int}{t u v:Tok}{tk:Nat}(I:Inv X pins σ H s)(h1: -(2^62)≤lo)(h2:lo<2^62)(h3: -(2^62)≤hi)(h4:hi<2^62)
 (q:R (Itr lo (hi-lo).toNat) H):wpAny (model X.prog X.w) X.A (pyIter (.ref s.heap.objs.size)) (PIE X pins σ tg R) E { s with heap:=s.heap.push { cls:=.type "range",data:=.fields #[.int lo t,.int hi u,.int 1 v] },toks:=tk }:=by
 refine wpAny_pyIter_range (IsRange.new ..) (small_one h1 h2 h3 h4) ?_
 have I1:Inv X pins σ H { s with heap:=s.heap.push { cls:=.type "range",data:=.fields #[.int lo t,.int hi u,.int 1 v] },toks:=tk }:=I.kept fun b o e=>Heap.get?_push_of_some _ e
 refine⟨(s.heap.push { cls:=.type "range",data:=.fields #[.int lo t,.int hi u,.int 1 v] }).objs.size,[(s.heap.push { cls:=.type "range",data:=.fields #[.int lo t,.int hi u,.int 1 v] }).objs.size],_,_,H,rfl,
  I1.kept (t':=tk) fun b o e=>Heap.get?_push_of_some _ e,turn_range _ lo (hi-lo).toNat,?_,fun b hb=>?_,q⟩
 ·have e1:lo+((0:Nat):Int)*1=lo:=by simp
  have e2:(((hi-lo).toNat:Nat):Int)-((0:Nat):Int)=Builtin.Range.rangeSize lo hi 1:=by rw[rangeSize_one];split<;>omega
  show IsRangeIter _ _ (lo+((0:Nat):Int)*1) ((((hi-lo).toNat:Nat):Int)-((0:Nat):Int)) 1
  rw[e1,e2]
  exact Heap.get?_push_size _ rfl
 ·have e:b=(s.heap.push { cls:=.type "range",data:=.fields #[.int lo t,.int hi u,.int 1 v] }).objs.size:=by simpa using hb
  subst e
  exact I1.fpOk (Nat.le_refl _) (I1.hok.fresh (Nat.le_refl _))
def iRng1(ta:TA):TI:=fun σ H R=>ta σ H fun vs H1=>∃j:Int,vs=[.int j]∧ -(2^62)≤j∧j<2^62∧R (Itr 0 j.toNat) H1
theorem pi_range1{a:Expr}{ta:TA}{p pos:Pos}(hg:Gl X "range")(hm:X.mg "range"=none)(ha:PA X [a] ta)(hs:starEach [a] X.env=[(false,eval a X.env)]:=by rfl):PI X tg (.Call (.Name "range" p) [a] [] pos) (iRng1 ta):=by
 intro pins s σ H R I h
 refine Call_ (ld_blt I hg hm boot_range (PyProof.Rows.callWith_type1 (thn (ha pos pins s σ H _ I h) fun us s1 ⟨vs,H1,I1,r1,q1⟩=>?_) hs rfl))
 obtain⟨j,e,q1,q2,q⟩:=q1
 subst e
 cases r1 with
 | cons r rr=>
  cases rr
  obtain⟨t,rfl⟩:=r
  exact call_range_1 (range_it I1 (by omega) (by omega) q1 q2 (by simpa using q))
def tFor(wi:TI)(g:TG)(tb:TS):TS:=fun D σ H=>wi σ H fun J H1=>∃W:Nat→Nat→St→Hp→Prop,(∃m,W 0 m σ H1)∧∀i m σ H,W i m σ H→
 (J.stop i H∧D.nx σ H)∨(J.go i H∧∃N:St→Hp→Prop,(∀σ' H',N σ' H'→∃m',m'<m∧W (i+1) m' σ' H')∧∀x H',J.yld i H x H'→g x σ H' fun σ2 H2=>tb { D with nx:=N,ct:=N,bk:=D.nx } σ2 H2)
def pinsAt(fp:List Addr)(h:Heap):List (Addr×Obj):=fp.filterMap fun b=>(h.get? b).map fun o=>(b,o)
theorem mem_pinsAt{fp:List Addr}{h:Heap}{b:Addr}{o:Obj}(hb:b∈fp)(e:h.get? b=some o):(b,o)∈pinsAt fp h:=List.mem_filterMap.mpr ⟨b,hb,by rw[e];rfl⟩
theorem of_pinsAt{fp:List Addr}{h:Heap}{p:Addr×Obj}(hp:p∈pinsAt fp h):p.1∈fp∧h.get? p.1=some p.2:=by
 obtain⟨b,hb,e⟩:=List.mem_filterMap.mp hp
 cases q:h.get? b with
 | none=>rw[q] at e;cases e
 | some o=>
  rw[q] at e
  have e':(b,o)=p:=Option.some.inj e
  subst e'
  exact⟨hb,q⟩
theorem Inv.pinned{pins:List (Addr×Obj)}{σ:St}{H:Hp}{s:Shared}{fp:List Addr}(I:Inv X pins σ H s)(hf:∀b∈fp,FpOk X pins H b)(ho:∀b∈fp,∃o,s.heap.get? b=some o∧∀v,o.data≠.cell v):Inv X (pins++pinsAt fp s.heap) σ H s:=
 I.pins_of fun p hp=>(List.mem_append.mp hp).elim (fun z=>I.pin p (List.mem_append_right _ z)) fun z=>by
  obtain⟨hb,e⟩:=of_pinsAt z
  obtain⟨f0,f1,f2,_⟩:=hf p.1 hb
  obtain⟨o,e',d⟩:=ho p.1 hb
  rw[e] at e';cases e'
  exact⟨e,f0,f1,f2,d⟩
theorem Inv.unpinned{pins pl:List (Addr×Obj)}{σ:St}{H:Hp}{s:Shared}(I:Inv X (pins++pl) σ H s):Inv X pins σ H s:=I.pins_of fun p hp=>I.pin p (List.mem_append_right _ (List.mem_append_left _ hp))
theorem ps_for{iter:Expr}{body:List Stmt}{wi:TI}{g:TG}{tb:TS}{pos:Pos}(hp:PassesOwn (model X.prog X.w) X.A X.env X.xe)(hc:X.calm=true)(hi:PI X tg iter wi)(hg:PG X tg g)(hb:PSs X body tb)
 (hs:∀x,foldedSetIterable iter X.env x=pure x:=by intro _;rfl):PS X (.For tg iter body [] pos) (tFor wi g tb):=by
 intro pins s σ H D I h
 refine wpAny_For (thn (hi pins s σ H _ I h) fun v s1 h1=>thn h1 fun itv s2 h2=>?_) hs
 obtain⟨it,fp,tn,J,H2,e,I2,T,st2,f2,W,⟨m0,w0⟩,turn⟩:=h2
 subst e
 have stat:∀{H':Hp},(∀b∈fp,H' b=none)→∀b∈fp,FpOk X pins H' b:=fun hn b hb=>⟨hn b hb,(f2 b hb).2⟩
 refine codeAny_forLoop_any (fun n s'=>∃i σ' H',Inv X pins σ' H' s'∧tn i s'.heap∧(∀b∈fp,H' b=none)∧W i n σ' H') ?_ m0 ⟨0,σ,H2,I2,st2,fun b hb=>(f2 b hb).1,w0⟩
 rintro n s3 ⟨i,σ3,H3,I3,st3,fr3,w3⟩
 rcases turn i n σ3 H3 w3 with ⟨stop,qn⟩ | ⟨go,N,hN,step⟩
 ·refine wpAny_passesOwn hp (thn (T.done X rfl rfl rfl hc i pins s3 σ3 H3 X.xe I3 (stat fr3) st3 stop) fun r s4 ⟨hr,I4⟩=>?_)
  subst hr
  exact wpAny_execs_nil ⟨σ3,H3,I4,qn⟩
 ·refine wpAny_passesOwn hp (thn (T.item X rfl rfl rfl hc i pins s3 σ3 H3 X.xe I3 (stat fr3) st3 go) fun r s4 ⟨u,hr,h4⟩=>?_)
  subst hr
  refine wpAny_passesOwn hp (thn h4 fun _ s5 ⟨x,H5,I5,r5,y5,st5,fr5⟩=>?_)
  have I5':=I5.pinned (stat fr5) (T.obj _ _ st5)
  refine wpAny_passesOwn hp (thn (hg _ s5 σ3 H5 x u _ I5' r5 (step x H5 y5)) fun _ s6 ⟨σ6,H6,I6,q6⟩=>?_)
  refine wpAny_passesOwn hp (thn (hb _ s6 σ6 H6 _ I6 q6) fun f s7 q7=>?_)
  have again:∀{σ7:St} {H7:Hp},Inv X (pins++pinsAt fp s5.heap) σ7 H7 s7→N σ7 H7→∃m,m<n∧∃i σ' H',Inv X pins σ' H' s7∧tn i s7.heap∧(∀b∈fp,H' b=none)∧W i m σ' H':=fun{σ7 H7} I7 n7=>by
   obtain⟨m',hm,w7⟩:=hN σ7 H7 n7
   refine⟨m',hm,i+1,σ7,H7,I7.unpinned,T.keep _ _ _ st5 fun b hb o e=>(I7.pin (b,o) (List.mem_append_right _ (List.mem_append_right _ (mem_pinsAt hb e)))).1,fun b hb=>?_,w7⟩
   obtain⟨o,e,d⟩:=T.obj _ _ st5 b hb
   exact(I7.pin (b,o) (List.mem_append_right _ (List.mem_append_right _ (mem_pinsAt hb e)))).2.1
  cases f with
  | next=>obtain⟨σ7,H7,I7,n7⟩:=q7;exact again I7 n7
  | cont=>obtain⟨σ7,H7,I7,n7⟩:=q7;exact again I7 n7
  | brk=>obtain⟨σ7,H7,I7,q7⟩:=q7;exact⟨σ7,H7,I7.unpinned,q7⟩
  | ret v=>obtain⟨x7,σ7,H7,I7,r7,q7⟩:=q7;exact⟨x7,σ7,H7,I7.unpinned,r7,q7⟩
end
theorem for_list{K:PySem.W.Frag}{a:Addr}{xs:List V}{g:TG}{tb:TS}{D:Ends}{σ:St}{H:Hp}(Pv:Nat→St→Hp→Prop)(h0:Pv 0 σ H)(hl:∀i σ H,i≤xs.length→Pv i σ H→SqL K H a xs)
 (hs:∀i x σ H,xs[i]?=some x→Pv i σ H→g x σ H fun σ2 H2=>tb { D with nx:=Pv (i+1),ct:=Pv (i+1),bk:=D.nx } σ2 H2)(hd:∀σ H,Pv xs.length σ H→D.nx σ H):
 ∃W:Nat→Nat→St→Hp→Prop,(∃m,W 0 m σ H)∧∀i m σ H,W i m σ H→
  ((Itl K a).stop i H∧D.nx σ H)∨((Itl K a).go i H∧∃N:St→Hp→Prop,(∀σ' H',N σ' H'→∃m',m'<m∧W (i+1) m' σ' H')∧∀x H',(Itl K a).yld i H x H'→g x σ H' fun σ2 H2=>tb { D with nx:=N,ct:=N,bk:=D.nx } σ2 H2):=by
 refine⟨fun i m σ H=>m=xs.length-i∧i≤xs.length∧Pv i σ H,⟨xs.length,by simp,Nat.zero_le _,h0⟩,?_⟩
 rintro i m σ H ⟨rfl,hi,p⟩
 have q:=hl i σ H hi p
 by_cases hlt:i<xs.length
 ·refine .inr ⟨⟨xs,xs[i],q,by simp[hlt]⟩,Pv (i+1),fun σ' H' p'=>⟨xs.length-(i+1),by omega,rfl,hlt,p'⟩,fun x H' y=>?_⟩
  obtain⟨e,y⟩:=y
  subst e
  exact hs i x σ _ (y xs q) p
 ·have e:i=xs.length:=by omega
  subst e
  exact .inl ⟨⟨xs,q,Nat.le_refl _⟩,hd σ H p⟩
theorem for_tup{K:PySem.W.Frag}{a:Addr}{xs:List V}{g:TG}{tb:TS}{D:Ends}{σ:St}{H:Hp}(Pv:Nat→St→Hp→Prop)(h0:Pv 0 σ H)(hl:∀i σ H,i≤xs.length→Pv i σ H→SqT K H a xs)
 (hs:∀i x σ H,xs[i]?=some x→Pv i σ H→g x σ H fun σ2 H2=>tb { D with nx:=Pv (i+1),ct:=Pv (i+1),bk:=D.nx } σ2 H2)(hd:∀σ H,Pv xs.length σ H→D.nx σ H):
 ∃W:Nat→Nat→St→Hp→Prop,(∃m,W 0 m σ H)∧∀i m σ H,W i m σ H→
  ((Itt K a).stop i H∧D.nx σ H)∨((Itt K a).go i H∧∃N:St→Hp→Prop,(∀σ' H',N σ' H'→∃m',m'<m∧W (i+1) m' σ' H')∧∀x H',(Itt K a).yld i H x H'→g x σ H' fun σ2 H2=>tb { D with nx:=N,ct:=N,bk:=D.nx } σ2 H2):=by
 refine⟨fun i m σ H=>m=xs.length-i∧i≤xs.length∧Pv i σ H,⟨xs.length,by simp,Nat.zero_le _,h0⟩,?_⟩
 rintro i m σ H ⟨rfl,hi,p⟩
 have q:=hl i σ H hi p
 by_cases hlt:i<xs.length
 ·refine .inr ⟨⟨xs,xs[i],q,by simp[hlt]⟩,Pv (i+1),fun σ' H' p'=>⟨xs.length-(i+1),by omega,rfl,hlt,p'⟩,fun x H' y=>?_⟩
  obtain⟨e,y⟩:=y
  subst e
  exact hs i x σ _ (y xs q) p
 ·have e:i=xs.length:=by omega
  subst e
  exact .inl ⟨⟨xs,q,Nat.le_refl _⟩,hd σ H p⟩
theorem for_range{lo:Int}{n:Nat}{g:TG}{tb:TS}{D:Ends}{σ:St}{H:Hp}(Pv:Nat→St→Hp→Prop)(h0:Pv 0 σ H)
 (hs:∀i σ H,i<n→Pv i σ H→g (.int (lo+i)) σ H fun σ2 H2=>tb { D with nx:=Pv (i+1),ct:=Pv (i+1),bk:=D.nx } σ2 H2)(hd:∀σ H,Pv n σ H→D.nx σ H):
 ∃W:Nat→Nat→St→Hp→Prop,(∃m,W 0 m σ H)∧∀i m σ H,W i m σ H→
  ((Itr lo n).stop i H∧D.nx σ H)∨((Itr lo n).go i H∧∃N:St→Hp→Prop,(∀σ' H',N σ' H'→∃m',m'<m∧W (i+1) m' σ' H')∧∀x H',(Itr lo n).yld i H x H'→g x σ H' fun σ2 H2=>tb { D with nx:=N,ct:=N,bk:=D.nx } σ2 H2):=by
 refine⟨fun i m σ H=>m=n-i∧i≤n∧Pv i σ H,⟨n,by simp,Nat.zero_le _,h0⟩,?_⟩
 rintro i m σ H ⟨rfl,hi,p⟩
 by_cases hlt:i<n
 ·refine .inr ⟨hlt,Pv (i+1),fun σ' H' p'=>⟨n-(i+1),by omega,rfl,hlt,p'⟩,fun x H' y=>?_⟩
  obtain⟨e,y⟩:=y
  subst e y
  exact hs i σ _ hlt p
 ·have e:i=n:=by omega
  subst e
  exact .inl ⟨Nat.le_refl _,hd σ H p⟩
end L2
namespace L2
open PySem PySem.Spec PyProof.Rows
abbrev R2:=V→V→Hp→VK→Prop
def OpR(X:Cx)(f:Value→Value→Sem Value)(r:R2):Prop:=
 ∀(pins:List (Addr×Obj)) (s:Shared) (σ:St) (H:Hp) (x y:V) (v u:Value) (Q:VK),Inv X pins σ H s→RelV x v→RelV y u→r x y H Q→
  wpAny (model X.prog X.w) X.A (f v u) (EP X pins σ Q) X.xe s
def UnR(X:Cx)(f:Value→Sem Value)(r:V→Hp→VK→Prop):Prop:=
 ∀(pins:List (Addr×Obj)) (s:Shared) (σ:St) (H:Hp) (x:V) (v:Value) (Q:VK),Inv X pins σ H s→RelV x v→r x H Q→
  wpAny (model X.prog X.w) X.A (f v) (EP X pins σ Q) X.xe s
def CallR(X:Cx)(f:Value)(r:List V→Hp→VK→Prop):Prop:=
 ∀(pins:List (Addr×Obj)) (s:Shared) (σ:St) (H:Hp) (xs:List V) (us:List Value) (Q:VK),Inv X pins σ H s→Vals xs us→r xs H Q→
  wpAny (model X.prog X.w) X.A (call f us) (EP X pins σ Q) X.xe s
def TruR(X:Cx)(r:V→Hp→(Bool→Hp→Prop)→Prop):Prop:=
 ∀(pins:List (Addr×Obj)) (s:Shared) (σ:St) (H:Hp) (x:V) (v:Value) (Q:Bool→Hp→Prop),Inv X pins σ H s→RelV x v→r x H Q→
  wpAny (model X.prog X.w) X.A (truthy v) (TP X pins σ Q) X.xe s
def tOp(r:R2)(ta tb:TE):TE:=fun σ H Q=>ta σ H fun x H1=>tb σ H1 fun y H2=>r x y H2 Q
def tUn(r:V→Hp→VK→Prop)(ta:TE):TE:=fun σ H Q=>ta σ H fun x H1=>r x H1 Q
def rI(C:Int→Int→Prop)(g:Int→Int→V):R2:=fun x y H Q=>∃i j,x=.int i∧y=.int j∧C i j∧Q (g i j) H
def rI0(g:Int→Int→V):R2:=fun x y H Q=>∃i j,x=.int i∧y=.int j∧Q (g i j) H
def rU(g:Int→V):V→Hp→VK→Prop:=fun x H Q=>∃i,x=.int i∧Q (g i) H
section
variable{X:Cx}{a b c:Expr}{ta tb tc:TE}{pos:Pos}
theorem binT(ha:PE X a ta)(hb:PE X b tb){pins:List (Addr×Obj)}{s:Shared}{σ:St}{H:Hp}{R:V→V→Hp→Prop}(I:Inv X pins σ H s)
 (h:ta σ H fun x H1=>tb σ H1 fun y H2=>R x y H2){Q:Value→Shared→Prop}{f:Value→Value→Sem Value}
 (hf:∀v u s2 x y H2,Inv X pins σ H2 s2→RelV x v→RelV y u→R x y H2→wpAny (model X.prog X.w) X.A (f v u) Q X.xe s2):
 wpAny (model X.prog X.w) X.A (eval a X.env) (fun v s₁=>wpAny (model X.prog X.w) X.A (eval b X.env) (fun u s₂=>wpAny (model X.prog X.w) X.A (f v u) Q X.xe s₂) X.xe s₁) X.xe s:=by
 refine thn (ha pins s σ H _ I h) fun v s1 ⟨x,H1,I1,r1,q1⟩=>?_
 refine thn (hb pins s1 σ H1 _ I1 q1) fun u s2 ⟨y,H2,I2,r2,q2⟩=>?_
 exact hf v u s2 x y H2 I2 r1 r2 q2
theorem pe_op{op:Operator}{r:R2}(ho:OpR X (binaryOp op) r)(ha:PE X a ta)(hb:PE X b tb):PE X (.BinOp a op b pos) (tOp r ta tb):=by
 intro pins s σ H Q I h
 exact wpAny_BinOp (binT ha hb I h fun v u s2 x y H2 I2 rx ry q=>ho pins s2 σ H2 x y v u Q I2 rx ry q)
theorem pe_un{op:UnaryOp}{r:V→Hp→VK→Prop}(ho:UnR X (unaryOp op) r)(ha:PE X a ta):PE X (.UnaryOp op a pos) (tUn r ta):=by
 intro pins s σ H Q I h
 exact UnaryOp_ (thn (ha pins s σ H _ I h) fun v s1 ⟨x,H1,I1,r1,q1⟩=>ho pins s1 σ H1 x v Q I1 r1 q1)
theorem opI{f:Value→Value→Sem Value}{C:Int→Int→Prop}{g:Int→Int→Int}
 (rule:∀(i j:Int) (t u:Tok) (s:Shared) (Q:Value→Shared→Prop) (E:Value→Shared→Prop),C i j→Q (.int (g i j) s.toks) { s with toks:=s.toks+1 }→wpAny (model X.prog X.w) X.A (f (.int i t) (.int j u)) Q E s):
 OpR X f (rI C fun i j=>.int (g i j)):=by
 intro pins s σ H x y v u Q I rx ry h
 obtain⟨i,j,rfl,rfl,hc,q⟩:=h
 obtain⟨t,rfl⟩:=rx
 obtain⟨t',rfl⟩:=ry
 exact rule i j t t' s _ _ hc ⟨.int (g i j),H,I.tok _,⟨_,rfl⟩,q⟩
theorem opI0{f:Value→Value→Sem Value}{g:Int→Int→Int}
 (rule:∀(i j:Int) (t u:Tok) (s:Shared) (Q:Value→Shared→Prop) (E:Value→Shared→Prop),Q (.int (g i j) s.toks) { s with toks:=s.toks+1 }→wpAny (model X.prog X.w) X.A (f (.int i t) (.int j u)) Q E s):
 OpR X f (rI0 fun i j=>.int (g i j)):=by
 intro pins s σ H x y v u Q I rx ry h
 obtain⟨i,j,rfl,rfl,q⟩:=h
 obtain⟨t,rfl⟩:=rx
 obtain⟨t',rfl⟩:=ry
 exact rule i j t t' s _ _ ⟨.int (g i j),H,I.tok _,⟨_,rfl⟩,q⟩
theorem opB0{f:Value→Value→Sem Value}{g:Int→Int→Bool}
 (rule:∀(i j:Int) (t u:Tok) (s:Shared) (Q:Value→Shared→Prop) (E:Value→Shared→Prop),Q (.bool (g i j)) s→wpAny (model X.prog X.w) X.A (f (.int i t) (.int j u)) Q E s):
 OpR X f (rI0 fun i j=>.bl (g i j)):=by
 intro pins s σ H x y v u Q I rx ry h
 obtain⟨i,j,rfl,rfl,q⟩:=h
 obtain⟨t,rfl⟩:=rx
 obtain⟨t',rfl⟩:=ry
 exact rule i j t t' s _ _ ⟨.bl (g i j),H,I,rfl,q⟩
def CPow(i j:Int):Prop:=0≤j∧j≤1000000∧i.natAbs<2^64
def CMul(i j:Int):Prop:=(-(2^64)<i∧i<2^64)∨(-(2^64)<j∧j<2^64)
theorem CMul.ok{i j:Int}(h:CMul i j):IntMulOk i j:=by
 rcases h with ⟨h1,h2⟩ | ⟨h1,h2⟩
 ·exact .of_left (intBits_le_64 h1 h2)
 ·exact .of_right (intBits_le_64 h1 h2)
theorem two_pow_nn(k:Nat):(0:Int)≤2^k:=by
 rw[two_pow_cast]
 exact Int.natCast_nonneg _
theorem op_add:OpR X (binaryOp .Add) (rI0 fun i j=>.int (i+j)):=opI0 fun _ _ _ _ _ _ _ q=>add_int q
theorem op_sub:OpR X (binaryOp .Sub) (rI0 fun i j=>.int (i-j)):=opI0 fun _ _ _ _ _ _ _ q=>sub_int q
theorem op_mod:OpR X (binaryOp .Mod) (rI (fun _ j=>0<j) fun i j=>.int (i%j)):=opI fun i j _ _ _ _ _ hc q=>by
 have h1:(0:Int)<j:=hc
 exact mod_int' (by omega) (by rw[Int.fmod_eq_emod_of_nonneg i (by omega)];exact q)
theorem op_pow:OpR X (binaryOp .Pow) (rI CPow fun i j=>.int (i^j.toNat)):=opI fun _ _ _ _ _ _ _ hc q=>pow_int_small hc.1 hc.2.1 hc.2.2 q
theorem op_shr:OpR X (binaryOp .RShift) (rI (fun _ j=>0≤j) fun i j=>.int (i/2^j.toNat)):=opI fun i j _ _ _ _ _ hc q=>
 rshift_int hc (by rw[Int.fdiv_eq_ediv_of_nonneg i (two_pow_nn _)];exact q)
theorem op_and:OpR X (binaryOp .BitAnd) (rI0 fun i j=>.int (Builtin.bitAnd i j)):=opI0 fun _ _ _ _ _ _ _ q=>and_int q
theorem op_or:OpR X (binaryOp .BitOr) (rI0 fun i j=>.int (Builtin.bitOr i j)):=opI0 fun _ _ _ _ _ _ _ q=>or_int q
theorem op_xor:OpR X (binaryOp .BitXor) (rI0 fun i j=>.int (Builtin.bitXor i j)):=opI0 fun _ _ _ _ _ _ _ q=>xor_int q
theorem unI{f:Value→Sem Value}{g:Int→Int}
 (rule:∀(i:Int) (t:Tok) (s:Shared) (Q:Value→Shared→Prop) (E:Value→Shared→Prop),Q (.int (g i) s.toks) { s with toks:=s.toks+1 }→wpAny (model X.prog X.w) X.A (f (.int i t)) Q E s):
 UnR X f (rU fun i=>.int (g i)):=by
 intro pins s σ H x v Q I rx h
 obtain⟨i,rfl,q⟩:=h
 obtain⟨t,rfl⟩:=rx
 exact rule i t s _ _ ⟨.int (g i),H,I.tok _,⟨_,rfl⟩,q⟩
theorem un_neg:UnR X (unaryOp .USub) (rU fun i=>.int (-i)):=unI fun _ _ _ _ _ q=>neg_int q
end
def scal:V→V→Bool
 | .non,.non=>true | .non,.int _=>true | .int _,.non=>true | .non,.bl _=>true | .bl _,.non=>true | .non,.str _=>true | .str _,.non=>true
 | .int _,.int _=>true | .bl _,.bl _=>true | .str _,.str _=>true | .byt _,.byt _=>true
 | .int _,.str _=>true | .str _,.int _=>true | .bl _,.str _=>true | .str _,.bl _=>true
 | _,_=>false
def rEq:R2:=fun x y H Q=>scal x y=true∧Q (.bl (decide (x=y))) H
def rNe:R2:=fun x y H Q=>scal x y=true∧Q (.bl (!decide (x=y))) H
theorem dec_int{i j:Int}:decide (V.int i=V.int j)=(i==j):=by
 rw[Bool.eq_iff_iff]
 simp
theorem dec_bl{i j:Bool}:decide (V.bl i=V.bl j)=(i==j):=by
 rw[Bool.eq_iff_iff]
 simp
theorem dec_str{i j:Str}:decide (V.str i=V.str j)=(i==j):=by
 rw[Bool.eq_iff_iff]
 simp
theorem dec_byt{i j:Array UInt8}:decide (V.byt i=V.byt j)=(i.toList==j.toList):=by
 rw[Bool.eq_iff_iff]
 cases i
 cases j
 simp
section
variable{X:Cx}{a b c:Expr}{ta tb tc:TE}{pos:Pos}
theorem fin_bl{pins:List (Addr×Obj)}{σ:St}{H:Hp}{s:Shared}{Q:VK}{k k':Bool}(I:Inv X pins σ H s)(q:Q (.bl k) H)(e:k=k'):EP X pins σ Q (.bool k') s:=by
 subst e
 exact⟨.bl k,H,I,rfl,q⟩
theorem op_eq:OpR X (compareOp .Eq) rEq:=by
 intro pins s σ H x y v u Q I rx ry h
 obtain⟨hs,q⟩:=h
 cases x with
 | non=>
  cases rx
  cases y with
  | non=>cases ry;exact PySem.EqNone.eq_none_none (fin_bl I q (by simp))
  | bl j=>cases ry;exact PySem.EqNone.eq_none_bool (fin_bl I q (by simp))
  | int j=>obtain⟨t',rfl⟩:=ry;exact PySem.EqNone.eq_none_int (fin_bl I q (by simp))
  | str j=>obtain⟨t',rfl⟩:=ry;exact PySem.EqNone.eq_none_str (fin_bl I q (by simp))
  | _=>exact absurd (show false=true from hs) Bool.false_ne_true
 | bl i=>
  cases rx
  cases y with
  | non=>cases ry;exact PySem.EqNone.eq_bool_none (fin_bl I q (by simp))
  | bl j=>cases ry;exact eq_bool (fin_bl I q dec_bl)
  | str j=>obtain⟨t',rfl⟩:=ry;exact PySem.EqMixed.eq_bool_str (fin_bl I q (by simp))
  | _=>exact absurd (show false=true from hs) Bool.false_ne_true
 | int i=>
  obtain⟨t,rfl⟩:=rx
  cases y with
  | non=>cases ry;exact PySem.EqNone.eq_int_none (fin_bl I q (by simp))
  | int j=>obtain⟨t',rfl⟩:=ry;exact eq_int (fin_bl I q dec_int)
  | str j=>obtain⟨t',rfl⟩:=ry;exact PySem.EqMixed.eq_int_str (fin_bl I q (by simp))
  | _=>exact absurd (show false=true from hs) Bool.false_ne_true
 | str i=>
  obtain⟨t,rfl⟩:=rx
  cases y with
  | non=>cases ry;exact PySem.EqNone.eq_str_none (fin_bl I q (by simp))
  | bl j=>cases ry;exact PySem.EqMixed.eq_str_bool (fin_bl I q (by simp))
  | int j=>obtain⟨t',rfl⟩:=ry;exact PySem.EqMixed.eq_str_int (fin_bl I q (by simp))
  | str j=>obtain⟨t',rfl⟩:=ry;exact eq_str (fin_bl I q dec_str)
  | _=>exact absurd (show false=true from hs) Bool.false_ne_true
 | byt i=>
  obtain⟨t,rfl⟩:=rx
  cases y with
  | byt j=>obtain⟨t',rfl⟩:=ry;exact PySem.W.eq_bytes (fin_bl I q dec_byt)
  | _=>exact absurd (show false=true from hs) Bool.false_ne_true
 | _=>cases y<;>exact absurd (show false=true from hs) Bool.false_ne_true
theorem op_ne:OpR X (compareOp .NotEq) rNe:=by
 intro pins s σ H x y v u Q I rx ry h
 obtain⟨hs,q⟩:=h
 cases x with
 | non=>
  cases rx
  cases y with
  | non=>cases ry;exact PySem.EqNone.ne_none_none (fin_bl I q (by simp))
  | bl j=>cases ry;exact PySem.EqNone.ne_none_bool (fin_bl I q (by simp))
  | int j=>obtain⟨t',rfl⟩:=ry;exact PySem.EqNone.ne_none_int (fin_bl I q (by simp))
  | str j=>obtain⟨t',rfl⟩:=ry;exact PySem.EqNone.ne_none_str (fin_bl I q (by simp))
  | _=>exact absurd (show false=true from hs) Bool.false_ne_true
 | bl i=>
  cases rx
  cases y with
  | non=>cases ry;exact PySem.EqNone.ne_bool_none (fin_bl I q (by simp))
  | bl j=>cases ry;exact ne_bool (fin_bl I q (congrArg not dec_bl))
  | str j=>obtain⟨t',rfl⟩:=ry;exact PySem.EqMixed.ne_bool_str (fin_bl I q (by simp))
  | _=>exact absurd (show false=true from hs) Bool.false_ne_true
 | int i=>
  obtain⟨t,rfl⟩:=rx
  cases y with
  | non=>cases ry;exact PySem.EqNone.ne_int_none (fin_bl I q (by simp))
  | int j=>obtain⟨t',rfl⟩:=ry;exact ne_int (fin_bl I q (congrArg not dec_int))
  | str j=>obtain⟨t',rfl⟩:=ry;exact PySem.EqMixed.ne_int_str (fin_bl I q (by simp))
  | _=>exact absurd (show false=true from hs) Bool.false_ne_true
 | str i=>
  obtain⟨t,rfl⟩:=rx
  cases y with
  | non=>cases ry;exact PySem.EqNone.ne_str_none (fin_bl I q (by simp))
  | bl j=>cases ry;exact PySem.EqMixed.ne_str_bool (fin_bl I q (by simp))
  | int j=>obtain⟨t',rfl⟩:=ry;exact PySem.EqMixed.ne_str_int (fin_bl I q (by simp))
  | str j=>obtain⟨t',rfl⟩:=ry;exact ne_str (fin_bl I q (congrArg not dec_str))
  | _=>exact absurd (show false=true from hs) Bool.false_ne_true
 | byt i=>
  obtain⟨t,rfl⟩:=rx
  cases y with
  | byt j=>obtain⟨t',rfl⟩:=ry;exact PySem.W.ne_bytes (fin_bl I q (congrArg not dec_byt))
  | _=>exact absurd (show false=true from hs) Bool.false_ne_true
 | _=>cases y<;>exact absurd (show false=true from hs) Bool.false_ne_true
theorem op_lt:OpR X (compareOp .Lt) (rI0 fun i j=>.bl (decide (i<j))):=opB0 fun _ _ _ _ _ _ _ q=>lt_int q
theorem op_le:OpR X (compareOp .LtE) (rI0 fun i j=>.bl (decide (i≤j))):=opB0 fun _ _ _ _ _ _ _ q=>le_int q
theorem op_gt:OpR X (compareOp .Gt) (rI0 fun i j=>.bl (decide (j<i))):=opB0 fun _ _ _ _ _ _ _ q=>gt_int q
theorem op_ge:OpR X (compareOp .GtE) (rI0 fun i j=>.bl (decide (j≤i))):=opB0 fun _ _ _ _ _ _ _ q=>ge_int q
theorem op_isN:OpR X (compareOp .Is) (fun x y H Q=>y=.non∧Q (.bl (decide (x=.non))) H):=by
 intro pins s σ H x y v u Q I rx ry h
 obtain⟨rfl,q⟩:=h
 cases ry
 refine is_none_gen (fin_bl I q ?_)
 cases x<;>first
  | (cases rx;rfl)
  | (obtain ⟨t,rfl⟩:=rx;rfl)
theorem op_notN:OpR X (compareOp .IsNot) (fun x y H Q=>y=.non∧Q (.bl (!decide (x=.non))) H):=by
 intro pins s σ H x y v u Q I rx ry h
 obtain⟨rfl,q⟩:=h
 cases ry
 refine isnot_none_gen (fin_bl I q ?_)
 cases x<;>first
  | (cases rx;rfl)
  | (obtain ⟨t,rfl⟩:=rx;rfl)
theorem nomark(b:Expr){op:CmpOp}(h:op≠.In:=by decide)(h2:op≠.NotIn:=by decide):behindInMarks op b=false:=by
 have e1:(op==CmpOp.In)=false:=by cases op<;>first | rfl | exact absurd rfl h
 have e2:(op==CmpOp.NotIn)=false:=by cases op<;>first | rfl | exact absurd rfl h2
 cases b<;>simp[behindInMarks,e1,e2]
theorem pe_cmpR{op:CmpOp}{r:R2}(ho:OpR X (compareOp op) r)(ha:PE X a ta)(hb:PE X b tb)(hm:behindInMarks op b=false):PE X (.Compare a [op] [b] pos) (tOp r ta tb):=by
 intro pins s σ H Q I h
 exact wpAny_Compare1 (binT ha hb I h fun v u s2 x y H2 I2 rx ry q=>ho pins s2 σ H2 x y v u Q I2 rx ry q) hm
def tTest(t:TE):TT:=fun σ H Q=>t σ H fun x H'=>∃k,x=.bl k∧Q k H'
theorem pt_cmpR{op:CmpOp}{r:R2}(ho:OpR X (compareOp op) r)(ha:PE X a ta)(hb:PE X b tb)(hm:behindInMarks op b=false):PT X (.Compare a [op] [b] pos) (tTest (tOp r ta tb)):=by
 intro pins s σ H Q I h
 refine wpAny_isTrue_Compare1 (thn (ha pins s σ H _ I h) fun v s1 ⟨x,H1,I1,r1,q1⟩=>thn (hb pins s1 σ H1 _ I1 q1) fun u s2 ⟨y,H2,I2,r2,q2⟩=>
  thn (ho pins s2 σ H2 x y v u _ I2 r1 r2 q2) fun c s3 ⟨z,H3,I3,r3,k,e,q3⟩=>?_) hm
 subst e
 cases r3
 exact wpAny_truthy_bool ⟨H3,I3,q3⟩
def tChain(r r':R2)(ta tb tc:TE):TE:=fun σ H Q=>ta σ H fun x H1=>tb σ H1 fun y H2=>r x y H2 fun z H3=>∃k,z=.bl k∧
 (if k=true then tc σ H3 fun w' H4=>r' y w' H4 Q else Q (.bl false) H3)
theorem pe_chain{op op':CmpOp}{r r':R2}(ho:OpR X (compareOp op) r)(ho':OpR X (compareOp op') r')(ha:PE X a ta)(hb:PE X b tb)(hc:PE X c tc)
 (hm:lastMarks [op,op'] [b,c]=false:=by with_unfolding_all rfl):PE X (.Compare a [op,op'] [b,c] pos) (tChain r r' ta tb tc):=by
 intro pins s σ H Q I h
 refine Compare_chain (thn (ha pins s σ H _ I h) fun v s1 ⟨x,H1,I1,r1,q1⟩=>chain_link (thn (hb pins s1 σ H1 _ I1 q1) fun u s2 ⟨y,H2,I2,r2,q2⟩=>
  thn (ho pins s2 σ H2 x y v u _ I2 r1 r2 q2) fun d s3 ⟨z,H3,I3,r3,k,e,q3⟩=>?_)) hm
 subst e
 cases r3
 refine wpAny_truthy_bool ?_
 cases k with
 | false=>exact ite_ff ⟨.bl false,H3,I3,rfl,q3⟩
 | true=>exact ite_tt (chain_last (thn (hc pins s3 σ H3 _ I3 q3) fun w' s4 ⟨z',H4,I4,r4,q4⟩=>ho' pins s4 σ H4 y z' u w' Q I4 r2 r4 q4))
def TruV(K:PySem.W.Frag)(x:V)(H:Hp)(k:Bool):Prop:=
 match x with
 | .non=>k=false
 | .bl b=>k=b
 | .int i=>k=(i != 0)
 | .str y=>y.length≤sizeLine∧k=((y.length:Int) != 0)
 | .byt y=>y.size≤sizeLine∧k=((y.size:Int) != 0)
 | .ref p=>(∃xs,SqL K H p xs∧k=!xs.isEmpty)∨(∃xs,SqT K H p xs∧k=!xs.isEmpty)∨∃kvs,H p=some (.dK kvs)∧k=!kvs.isEmpty
 | _=>False
theorem isEmpty_kv{κ:Type}{kvs:List (κ×V)}{vs:List (κ×Value)}(r:KV kvs vs):(!vs.isEmpty)=!kvs.isEmpty:=by
 cases r<;>rfl
theorem isEmpty_of{xs:List V}{its:List Value}(r:Vals xs its):(!its.toArray.isEmpty)=!xs.isEmpty:=by
 cases r<;>simp
theorem line63:(sizeLine:Nat)<2^63:=by rw[sizeLine_eq];decide
theorem tru_ok:TruR X (fun x H Q=>∃k,TruV X.K x H k∧Q k H):=by
 intro pins s σ H x v Q I rx h
 obtain⟨k,e,q⟩:=h
 have hl:=line63
 have hs:sizeLine=16777216:=sizeLine_eq
 cases x with
 | non=>
  cases rx
  have e':k=false:=e
  subst e'
  exact truthy_none ⟨H,I,q⟩
 | bl b=>
  cases rx
  have e':k=b:=e
  subst e'
  exact wpAny_truthy_bool ⟨H,I,q⟩
 | int i=>
  obtain⟨t,rfl⟩:=rx
  have e':k=(i != 0):=e
  subst e'
  exact PySem.P.truthy_int ⟨H,I,q⟩
 | str y=>
  obtain⟨t,rfl⟩:=rx
  obtain⟨hy,e'⟩:y.length≤sizeLine∧k=((y.length:Int) != 0):=e
  subst e'
  exact PySem.P.truthy_str (by omega) ⟨H,I.tok _,q⟩
 | byt y=>
  obtain⟨t,rfl⟩:=rx
  obtain⟨hy,e'⟩:y.size≤sizeLine∧k=((y.size:Int) != 0):=e
  subst e'
  exact PySem.W.truthy_bytes (by omega) ⟨H,I.tok _,q⟩
 | ref p=>
  cases rx
  have e':(∃xs,SqL X.K H p xs∧k=!xs.isEmpty)∨(∃xs,SqT X.K H p xs∧k=!xs.isEmpty)∨∃kvs,H p=some (.dK kvs)∧k=!kvs.isEmpty:=e
  rcases e' with ⟨xs,hx,e'⟩ | ⟨xs,hx,e'⟩ | ⟨kvs,hx,e'⟩
  ·subst e'
   obtain⟨its,r,pl,hz⟩:=I.list hx
   have hlen:=r.length
   exact wpAny_truthy_list pl.isList (by simp only[List.size_toArray];omega) ⟨H,I.tok _,by rw[isEmpty_of r];exact q⟩
  ·subst e'
   obtain⟨its,r,pl,hz⟩:=I.tuple hx
   have hlen:=r.length
   exact truthy_tuple pl (by simp only[List.size_toArray];omega) ⟨H,I.tok _,by rw[isEmpty_of r];exact q⟩
  ·subst e'
   obtain⟨hz,hS,vs,r,m⟩:kvs.length≤sizeLine∧(p==sysModules)=false∧∃vs,KV kvs vs∧s.heap.DictOf (mixKind X.prog X.w) p vs:=I.hok p _ hx
   have hlen:kvs.length=vs.length:=Paired.length r
   exact wpAny_truthy_dict hS m (by omega) ⟨H,I.tok _,by rw[isEmpty_kv r];exact q⟩
 | _=>exact(show False from e).elim
theorem vals1{x:V}{us:List Value}(r:Vals [x] us):∃u,us=[u]∧RelV x u:=by
 cases r with
 | cons r1 r2=>cases r2;exact⟨_,rfl,r1⟩
theorem vals2{x y:V}{us:List Value}(r:Vals [x,y] us):∃u w',us=[u,w']∧RelV x u∧RelV y w':=by
 cases r with
 | cons r1 r2=>
  cases r2 with
  | cons r3 r4=>cases r4;exact⟨_,_,rfl,r1,r3⟩
theorem call_abs:CallR X (.builtin "abs") (fun xs H Q=>∃i,xs=[.int i]∧Q (.int (if i<0 then -i else i)) H):=by
 intro pins s σ H xs us Q I r h
 obtain⟨i,rfl,q⟩:=h
 obtain⟨u,rfl,t,rfl⟩:=vals1 r
 exact call_abs_int fun u tk=>⟨.int (if i<0 then -i else i),H,I.tok _,⟨_,rfl⟩,q⟩
theorem call_str_int:CallR X (.type "str") (fun xs H Q=>∃i,xs=[.int i]∧i.natAbs.log2<1920∧Q (.str (toString i)) H):=by
 intro pins s σ H xs us Q I r h
 obtain⟨i,rfl,hz,q⟩:=h
 obtain⟨u,rfl,t,rfl⟩:=vals1 r
 exact PySem.P.str_of_int hz ⟨.str _,H,I.tok _,⟨_,rfl⟩,q⟩
end
end L2
namespace L2
open PySem PySem.Spec PyProof.Rows
structure ObjM(h:Heap)(x dx C:Addr)(mA:Str→Option Value):Prop where
 obj:h.get? x=some (PySem.W.instObj C dx)
 ns:h.Ns1 dx mA
 ne:dx≠x
theorem lookIn_ns{h:Heap}{dx:Addr}{mA:Str→Option Value}(n:h.Ns1 dx mA):∃od,h.get? dx=some od∧∀name,PySem.W.lookIn name od=some (mA name):=by
 obtain⟨o,es,ep,ho,hd,hk,_,hm⟩:=n
 refine⟨o,ho,fun name=>?_⟩
 have e:=hm name
 unfold nsFind findBy at e
 rw[←Array.find?_toList] at e
 unfold PySem.W.lookIn
 rw[hd]
 dsimp only
 split
 ·rename_i y q
  rw[q] at e
  exact congrArg some e
 ·rename_i q
  rw[q] at e
  have a:es.toList.any (·.refKey)=false:=by
   rw[List.any_eq_false]
   intro y hy
   obtain⟨z,t,hkey⟩:=hk y (Array.mem_toList_iff.mp hy)
   simp[DictEntry.refKey,hkey]
  have a':¬es.toList.any (·.refKey)=true:=by rw[a];exact Bool.false_ne_true
  rw[if_neg a']
  exact congrArg some e
theorem ObjM.look{h:Heap}{x dx C:Addr}{mA:Str→Option Value}(I:ObjM h x dx C mA):∃od,PySem.W.InstAt h x (PySem.W.instObj C dx) C (some od)∧∀name,PySem.W.lookIn name od=some (mA name):=
 let ⟨od,ho,hl⟩:=lookIn_ns I.ns
 ⟨od,⟨I.obj,rfl,rfl,ho⟩,hl⟩
section
variable{prog:Program}{w:World}{A:Around}{E:Value→Shared→Prop}{s:Shared}{K:PySem.W.Frag}{x dx C f:Addr}{mA:Str→Option Value}{name:Str}{v:Value}
theorem get_map{expr:Bool}{Q:Value→Shared→Prop}(X:K.In s.heap)(I:ObjM s.heap x dx C mA)(hg:PySem.W.plainGet K C name=true)(hh:PySem.W.hasDictIn K C=true)
 (ha:PySem.W.findIn K (.ref C) name=some none)(hv:mA name=some v)(hv':PySem.W.handedIn v=true)(h:Q v { s with toks:=s.toks+1 }):
 wpAny (model prog w) A (getAttr (.ref x) name expr) Q E s:=by
 obtain⟨od,J,hl⟩:=I.look
 exact PySem.W.get_value X J (PySem.W.plainGet_of hg).1 (PySem.W.findObj_own hh ha rfl (by rw[hl,hv])) hv' h
theorem get_meth{pl:Sem Bool}{Q:Value×List Value→Shared→Prop}(X:K.In s.heap)(I:ObjM s.heap x dx C mA)(hg:PySem.W.plainGet K C name=true)
 (hf:PySem.W.findIn K (.ref C) name=some (some (.ref f)))(ht:PySem.W.isFn K (.ref f)=true)(hv:mA name=none)(h:Q (.ref f,[.ref x]) s):
 wpAny (model prog w) A (getMethod (.ref x) name pl) Q E s:=by
 obtain⟨od,J,hl⟩:=I.look
 exact PySem.W.method_fn X J (PySem.W.plainGet_of hg).1 (PySem.W.plainGet_of hg).2 hf (beq_iff_eq.mp ht) (by show(PySem.W.lookIn name od).map (·.isSome)=some false;rw[hl,hv];rfl) h
theorem set_map{ns:List Str}{Q:Unit→Shared→Prop}(X:K.In s.heap)(I:ObjM s.heap x dx C mA)
 (hs:PySem.W.findIn K (.ref C) "__setattr__"=some (some (.builtin "object.__setattr__")))(hp:PySem.W.plainOver K C=true)(ht:PySem.W.takerIn K C name=some none)(hh:PySem.W.hasDictIn K C=true)
 (hw:PySem.Within mA ns)(hsz:ns.length≤sizeLine)
 (h:∀h',ObjM h' x dx C (fun y=>if y=name then some v else mA y)→Heap.SameBut dx s.heap h'→Q () { s with heap:=h',toks:=s.toks+2 }):
 wpAny (model prog w) A (setAttr (.ref x) name v) Q E s:=by
 obtain⟨od,J,hl⟩:=I.look
 refine PySem.W.set_plain X J hs (PySem.W.osa_open (s:={ s with toks:=s.toks+1 }) (r:=none) X J hp ht fun b=>?_)
 obtain⟨cd,hc,hd'⟩:=PySem.W.any_some hh
 have hx:s.heap.get? x=some ⟨.ref C,some dx,.plain,#[]⟩:=I.obj
 refine wpAny_bind (wpAny_pure (wpAny_bind (wpAny_bind (wpAny_loadPart hx (wpAny_bind (PySem.W.Looks.here (s:={ s with toks:=s.toks+1 }) (PySem.W.looks_clsIn X hc) ?_))))))
 rw[hd']
 refine wpAny_pure (a:=some dx) (wpAny_bind (wpAny_pure (wpAny_bind ?_)))
 refine wpAny_nsSet1 (s:={ s with toks:=s.toks+1 }) I.ns fun h' hn2 hs2=>?_
 obtain⟨oD,esD,epD,hoD,hdD,hcD⟩:=hn2.count (PySem.Within.cons name v hw)
 refine wpAny_bind (wpAny_lookBehind hoD (by rw[hdD];exact pastItsLine_dict (Nat.le_trans hcD (by rw[List.length_cons];omega))) ?_)
 exact wpAny_pure (h _ ⟨(hs2.2 _ (Ne.symm I.ne)).trans I.obj,hn2,I.ne⟩ hs2)
theorem make_map{R:Result→Shared→Prop}{vs:List Value}{kw:List (Str×Value)}(X:K.In s.heap)(hm:PySem.W.makesIn K C=true)
 (hi:PySem.W.findIn K (.ref C) "__init__"=some (some (.ref f)))(hf:PySem.W.typeIn K (.ref f)=some (.type "function"))
 (h:codeAny (model prog w) (A.under (.builtin "type.__call__" ⟨.ref C::vs,kw⟩)) (.call (.ref f) ⟨.ref (s.heap.objs.size+1)::vs,kw⟩) (PySem.W.InitBack (s.heap.objs.size+1) R)
  { s with heap:=(s.heap.push PySem.W.emptyDict).push (PySem.W.instObj C s.heap.objs.size) }):
 codeAny (model prog w) A (.call (.ref C) ⟨vs,kw⟩) R s:=by
 obtain⟨hh,g,d,t,os⟩:=s
 exact PySem.W.make_core (PySem.W.makes_of X hm) (PySem.W.looks_findIn X hi) (fun self=>PySem.W.bind_fn X self hf) (.inl rfl) h
end
def putF(f:Str)(v:V):List (Str×V)→List (Str×V)
 | []=>[(f,v)]
 | (g,x)::r=>if g=f then (g,v)::r else (g,x)::putF f v r
theorem lookup_putF(f g:Str)(v:V):∀fs:List (Str×V),(putF f v fs).lookup g=if g=f then some v else fs.lookup g
 | []=>by
  show List.lookup g [(f,v)]=_
  by_cases h:g=f
  ·have hb:(g==f)=true:=beq_iff_eq.mpr h
   simp only[List.lookup,hb,if_pos h]
  ·have hb:(g==f)=false:=beq_eq_false_iff_ne.mpr h
   simp only[List.lookup,hb,if_neg h]
 | (k,x)::r=>by
  have ih:=lookup_putF f g v r
  rw[show putF f v ((k,x)::r)=(if k=f then (k,v)::r else (k,x)::putF f v r) from rfl]
  by_cases hk:k=f
  ·rw[if_pos hk]
   by_cases h:g=k
   ·have hb:(g==k)=true:=beq_iff_eq.mpr h
    simp only[List.lookup,hb,if_pos (h.trans hk)]
   ·have hb:(g==k)=false:=beq_eq_false_iff_ne.mpr h
    simp only[List.lookup,hb,if_neg (fun e:g=f=>h (e.trans hk.symm))]
  ·rw[if_neg hk]
   by_cases h:g=k
   ·have hb:(g==k)=true:=beq_iff_eq.mpr h
    simp only[List.lookup,hb,if_neg (fun e:g=f=>hk (h.symm.trans e))]
   ·have hb:(g==k)=false:=beq_eq_false_iff_ne.mpr h
    simp only[List.lookup,hb]
    exact ih
theorem keys_putF(f:Str)(v:V):∀fs:List (Str×V),f∈(putF f v fs).map (·.1)∧∀g,g∈fs.map (·.1)→g∈(putF f v fs).map (·.1)
 | []=>⟨by simp[putF],fun g h=>by simp at h⟩
 | (k,x)::r=>by
  obtain⟨i1,i2⟩:=keys_putF f v r
  rw[show putF f v ((k,x)::r)=(if k=f then (k,v)::r else (k,x)::putF f v r) from rfl]
  by_cases hk:k=f
  ·rw[if_pos hk]
   subst hk
   exact⟨by simp,fun g h=>by simpa using h⟩
  ·rw[if_neg hk]
   refine⟨?_,fun g h=>?_⟩
   ·rw[List.map_cons]
    exact List.mem_cons_of_mem _ i1
   ·rw[List.map_cons] at h ⊢
    rcases List.mem_cons.mp h with e | e
    ·exact List.mem_cons.mpr (.inl e)
    ·exact List.mem_cons_of_mem _ (i2 g e)
theorem length_putF(f:Str)(v:V):∀fs:List (Str×V),(putF f v fs).length≤fs.length+1
 | []=>by simp[putF]
 | (k,x)::r=>by
  have ih:=length_putF f v r
  rw[show putF f v ((k,x)::r)=(if k=f then (k,v)::r else (k,x)::putF f v r) from rfl]
  by_cases hk:k=f
  ·rw[if_pos hk,List.length_cons,List.length_cons];omega
  ·rw[if_neg hk,List.length_cons,List.length_cons];omega
theorem RelO.some_of{v:V}{o:Option Value}(r:RelO (some v) o):∃u,o=some u∧RelV v u:=by
 cases o with
 | none=>exact(show False from r).elim
 | some u=>exact⟨u,rfl,r⟩
theorem RelO.none_of{o:Option Value}(r:RelO none o):o=none:=by
 cases o with
 | none=>rfl
 | some u=>exact(show False from r).elim
theorem handed_of{v:V}{u:Value}(r:RelV v u):PySem.W.handedIn u=true:=by
 cases v with
 | non=>cases (show u=Value.none from r);rfl
 | bl b=>cases (show u=Value.bool b from r);rfl
 | int i=>obtain⟨t,e⟩:=(show ∃t,u=Value.int i t from r);cases e;rfl
 | str x=>obtain⟨t,e⟩:=(show ∃t,u=Value.str x t from r);cases e;rfl
 | byt b=>obtain⟨t,e⟩:=(show ∃t,u=Value.bytes b t from r);cases e;rfl
 | flt b=>obtain⟨t,e⟩:=(show ∃t,u=Value.float b t from r);cases e;rfl
 | ref a=>cases (show u=Value.ref a from r);rfl
 | ty n=>cases (show u=Value.type n from r);rfl
section
variable{P:Program}{w:World}{H H':Hp}{h h':Heap}{a C dx:Addr}{fs fs':List (Str×V)}
theorem ins_get(hok:HOk P w H h)(e:H a=some (.ins C dx fs)):∃mA,ObjM h a dx C mA∧(∀f,RelO (fs.lookup f) (mA f))∧PySem.Within mA (fs.map (·.1))∧fs.length≤1000∧H dx=some (.own a):=by
 obtain⟨d,z,ne,ob,mA,n,r,q⟩:=(show ObjOk P w H h a (.ins C dx fs) from hok a _ e)
 exact⟨mA,⟨ob,n,ne⟩,r,q,z,d⟩
end
structure Cls(K:PySem.W.Frag)(C:Addr):Prop where
 pg:PySem.W.plainGet K C Str.empty=true
 hd:PySem.W.hasDictIn K C=true
 po:PySem.W.plainOver K C=true
 sa:PySem.W.findIn K (.ref C) "__setattr__"=some (some (.builtin "object.__setattr__"))
theorem Cls.get{K:PySem.W.Frag}{C:Addr}(c:Cls K C)(f:Str):PySem.W.plainGet K C f=true:=c.pg
def NoAttr(K:PySem.W.Frag)(C:Addr)(f:Str):Prop:=PySem.W.findIn K (.ref C) f=some none
theorem NoAttr.taker{K:PySem.W.Frag}{C:Addr}{f:Str}(n:NoAttr K C f):PySem.W.takerIn K C f=some none:=by
 unfold PySem.W.takerIn
 rw[show PySem.W.findIn K (.ref C) f=some none from n]
 rfl
structure Meth(K:PySem.W.Frag)(C:Addr)(m:Str)(f:Addr):Prop where
 at_:PySem.W.findIn K (.ref C) m=some (some (.ref f))
 fn:PySem.W.isFn K (.ref f)=true
 kp:PySem.W.keepIn K (.ref f)=true
section
variable{X:Cx}{pins:List (Addr×Obj)}{σ:St}{H:Hp}{s:Shared}{a C dx:Addr}{fs:List (Str×V)}{f:Str}{v:V}{A:Around}{E:Value→Shared→Prop}
theorem getattr_ok{b:Bool}{Q:Value→Shared→Prop}(I:Inv X pins σ H s)(e:H a=some (.ins C dx fs))(c:Cls X.K C)(n:NoAttr X.K C f)(l:fs.lookup f=some v)
 (h:∀u s',Inv X pins σ H s'→RelV v u→Q u s'):wpAny (model X.prog X.w) A (getAttr (.ref a) f b) Q E s:=by
 obtain⟨mA,O,r,_,_,_⟩:=ins_get I.hok e
 obtain⟨u,hu,ru⟩:=RelO.some_of (v:=v) (o:=mA f) (by rw[←l];exact r f)
 exact get_map I.kIn O (c.get f) c.hd n hu (handed_of ru) (h u _ (I.tok _) ru)
theorem getmeth_ok{m:Str}{g:Addr}{pl:Sem Bool}{Q:Value×List Value→Shared→Prop}(I:Inv X pins σ H s)(e:H a=some (.ins C dx fs))(c:Cls X.K C)(k:Meth X.K C m g)(l:fs.lookup m=none)
 (h:Q (.ref g,[.ref a]) s):wpAny (model X.prog X.w) A (getMethod (.ref a) m pl) Q E s:=by
 obtain⟨mA,O,r,_,_,_⟩:=ins_get I.hok e
 have hn:mA m=none:=RelO.none_of (by rw[←l];exact r m)
 exact get_meth I.kIn O (c.get m) k.at_ k.fn hn h
theorem setattr_ok{y:V}{u:Value}{Q:Unit→Shared→Prop}(I:Inv X pins σ H s)(e:H a=some (.ins C dx fs))(c:Cls X.K C)(n:NoAttr X.K C f)(hl:fs.length<1000)(ry:RelV y u)
 (h:∀s',Inv X pins σ (upd H a (.ins C dx (putF f y fs))) s'→Q () s'):wpAny (model X.prog X.w) A (setAttr (.ref a) f u) Q E s:=by
 obtain⟨mA,O,r,wi,_,ho⟩:=ins_get I.hok e
 have hz:(fs.map (·.1)).length≤sizeLine:=by rw[List.length_map,sizeLine_eq];omega
 refine set_map I.kIn O c.sa c.po n.taker c.hd wi hz fun h' O' sb=>h _ ?_
 have hd:∃o,h'.get? dx=some o:=let ⟨o,_,_,e',_⟩:=O'.ns;⟨o,e'⟩
 refine I.write (x:=a) (e:=dx) (by rw[e];exact True.intro) (.inr ho) (fun b q hb z=>(sb.2 b hb).trans z) hd ?_
 refine⟨by rw[upd_ne O.ne];exact ho,?_,O.ne,O'.obj,_,O'.ns,fun g=>?_,fun g hg=>?_⟩
 ·have:=length_putF f y fs;omega
 ·show RelO ((putF f y fs).lookup g) (if g=f then some u else mA g)
  rw[lookup_putF]
  by_cases q:g=f
  ·rw[if_pos q,if_pos q];exact ry
  ·rw[if_neg q,if_neg q];exact r g
 ·by_cases q:g=f
  ·rw[q];exact(keys_putF f y fs).1
  ·refine(keys_putF f y fs).2 g (wi g fun z=>hg ?_)
   show(if g=f then some u else mA g)=none
   rw[if_neg q];exact z
theorem Inv.made(I:Inv X pins σ H s):Inv X pins σ (upd (upd H s.heap.objs.size (.own (s.heap.objs.size+1))) (s.heap.objs.size+1) (.ins C s.heap.objs.size []))
 { s with heap:=(s.heap.push PySem.W.emptyDict).push (PySem.W.instObj C s.heap.objs.size) }:=by
 have e1:(s.heap.push PySem.W.emptyDict).get? s.heap.objs.size=some PySem.W.emptyDict:=Heap.get?_push_size s.heap rfl
 have e2:((s.heap.push PySem.W.emptyDict).push (PySem.W.instObj C s.heap.objs.size)).get? (s.heap.objs.size+1)=some (PySem.W.instObj C s.heap.objs.size):=by
  have:=Heap.get?_push_size (s.heap.push PySem.W.emptyDict) (o:=PySem.W.instObj C s.heap.objs.size) rfl
  rwa [Heap.size_push] at this
 have e3:(s.heap.push PySem.W.emptyDict).Ns s.heap.objs.size (fun _=>none):=⟨PySem.W.emptyDict,#[],_,e1,rfl,(fun e he=>absurd he (by simp)),fun _=>rfl⟩
 have I1:=I.laid (a:=s.heap.objs.size) (o:=.own (s.heap.objs.size+1)) (h':=s.heap.push PySem.W.emptyDict) (t':=s.toks) (fun b u q=>Heap.get?_push_of_some _ q) (Nat.le_refl _) ⟨_,e1⟩
 refine I1.laid (a:=s.heap.objs.size+1) (o:=.ins C s.heap.objs.size []) (t':=s.toks) (fun b u q=>Heap.get?_push_of_some _ q) (Nat.le_of_eq (Heap.size_push _ _)) ?_
 have ne:s.heap.objs.size≠s.heap.objs.size+1:=Nat.ne_of_lt (Nat.lt_succ_self _)
 refine⟨by rw[upd_ne ne,upd_same],Nat.zero_le _,ne,e2,fun _=>none,(Heap.Ns1.of_empty e3).at fun o q=>Heap.get?_push_of_some _ q,fun _=>True.intro,fun y hy=>absurd rfl hy⟩
theorem attr_of{prog:Program}{w:World}{env:Env}{e:Expr}{f:Str}{pos:Pos}{s:Shared}{Q:Value→Shared→Prop}(hb:attributeBase e f env (eval e env)=eval e env)
 (h:wpAny (model prog w) A (eval e env) (fun o s₁=>wpAny (model prog w) A (getAttr o f true) Q E s₁) E s):wpAny (model prog w) A (eval (.Attribute e f pos) env) Q E s:=
 Attribute_any_ h (by rw[arm_eval_Attribute,hb])
end
def tFld(K:PySem.W.Frag)(ta:TE)(f:Str):TE:=fun σ H Q=>ta σ H fun x H1=>∃a C dx fs v,x=.ref a∧H1 a=some (.ins C dx fs)∧Cls K C∧NoAttr K C f∧fs.lookup f=some v∧Q v H1
def sFld(K:PySem.W.Frag)(ta tv:TE)(f:Str):TS:=fun D σ H=>tv σ H fun y H1=>ta σ H1 fun x H2=>∃a C dx fs,x=.ref a∧H2 a=some (.ins C dx fs)∧Cls K C∧NoAttr K C f∧fs.length<1000∧
 D.nx σ (upd H2 a (.ins C dx (putF f y fs)))
section
variable{X:Cx}{o e value:Expr}{f:Str}{pos pos' tpos:Pos}{ta tv:TE}
theorem pe_fld(he:PE X e ta)(hb:attributeBase e f X.env (eval e X.env)=eval e X.env):PE X (.Attribute e f pos) (tFld X.K ta f):=by
 intro pins s σ H Q I h
 refine attr_of hb (thn (he pins s σ H _ I h) fun u s1 ⟨x,H1,I1,rx,a,C,dx,fs,v,ex,ea,c,n,l,q⟩=>?_)
 subst ex
 obtain rfl:u=Value.ref a:=rx
 exact getattr_ok I1 ea c n l fun u' s2 I2 ru=>⟨v,H1,I2,ru,q⟩
theorem ps_fld(ha:PE X o ta)(hv:PE X value tv)(hs:swapsWith value (some (.Attribute o f pos')) pos.line X.env=pure false):PS X (.Assign [.Attribute o f pos'] value pos) (sFld X.K ta tv f):=by
 intro pins s σ H D I h
 refine plainObj_wpAny_Assign_Attribute (thn (hv pins s σ H _ I h) fun u s1 ⟨y,H1,I1,ry,q⟩=>thn (ha pins s1 σ H1 _ I1 q) fun ov s2 ⟨x,H2,I2,rx,a,C,dx,fs,ex,ea,c,n,l,q2⟩=>?_) hs
 subst ex
 obtain rfl:ov=Value.ref a:=rx
 exact setattr_ok I2 ea c n l ry fun s3 I3=>⟨σ,_,I3,q2⟩
end
section
variable{X:Cx}{pins:List (Addr×Obj)}{σ:St}{H:Hp}{s:Shared}{A:Around}{E:Value→Shared→Prop}{Q:Value→Shared→Prop}{c:Value}{b:Bool}
inductive TyOf(K:PySem.W.Frag)(H:Hp):V→Value→Prop where
 | non:TyOf K H .non (.type "NoneType")
 | bl (x:Bool):TyOf K H (.bl x) (.type "bool")
 | int (i:Int):TyOf K H (.int i) (.type "int")
 | str (x:Str):TyOf K H (.str x) (.type "str")
 | flt (x:UInt64):TyOf K H (.flt x) (.type "float")
 | lst {a:Addr} {xs:List V} (e:H a=some (.lst xs)):TyOf K H (.ref a) (.type "list")
 | frz {a:Addr} {o:Obj} {xs:List V} (e:H a=some (.frz o (.lst xs))):TyOf K H (.ref a) (.type "list")
 | tup {a:Addr} {xs:List V} (e:H a=some (.tup xs)):TyOf K H (.ref a) (.type "tuple")
 | dK {a:Addr} {kvs:List (Key×V)} (e:H a=some (.dK kvs)):TyOf K H (.ref a) (.type "dict")
 | dT {a:Addr} {kvs:List (List Key×V)} (e:H a=some (.dT kvs)):TyOf K H (.ref a) (.type "dict")
 | ins {a C dx:Addr} {fs:List (Str×V)} (e:H a=some (.ins C dx fs)) (cl:Cls K C) (ha:PySem.W.findIn K (.ref C) "__class__"=some (some (.builtin "object.__class__")))
  (hn:PySem.W.specialIn K (.builtin "object.__class__") "__get__"=some (some (.builtin "getset_descriptor.__get__"))) (htk:PySem.W.takesIn K (.builtin "object.__class__")=some true)
  (hm:PySem.W.mroIn K C (.type "object")=some true):TyOf K H (.ref a) (.ref C)
theorem isinst_ok{x:V}{u t:Value}(I:Inv X pins σ H s)(rx:RelV x u)(ty:TyOf X.K H x t)(e:PySem.W.kitOne X.K t c=some b)(h:∀tk,Q (.bool b) { s with toks:=tk }):
 wpAny (model X.prog X.w) A (call (.builtin "isinstance") [u,c]) Q E s:=by
 cases ty with
 | non=>cases (show u=Value.none from rx);exact PySem.W.kia_one PySem.W.kitx_none I.kIn True.intro e (fun z=>nomatch z) h
 | bl y=>cases (show u=Value.bool y from rx);exact PySem.W.kia_one PySem.W.kitx_bool I.kIn True.intro e (fun z=>nomatch z) h
 | int i=>obtain⟨t,q⟩:=(show ∃t,u=Value.int i t from rx);cases q;exact PySem.W.kia_one PySem.W.kitx_int I.kIn True.intro e (fun z=>nomatch z) h
 | str y=>obtain⟨t,q⟩:=(show ∃t,u=Value.str y t from rx);cases q;exact PySem.W.kia_one PySem.W.kitx_str I.kIn True.intro e (fun z=>nomatch z) h
 | flt y=>obtain⟨t,q⟩:=(show ∃t,u=Value.float y t from rx);cases q;exact PySem.W.kia_one PySem.W.kitx_float I.kIn True.intro e (fun z=>nomatch z) h
 | @lst a xs ea=>
  cases (show u=Value.ref a from rx)
  obtain⟨_,_,n,_,h1⟩:=(show ObjOk X.prog X.w H s.heap a (.lst xs) from I.hok a _ ea)
  exact PySem.W.kia_one PySem.W.kitx_list I.kIn ⟨_,h1,rfl⟩ e (fun z=>nomatch z) h
 | @frz a ob xs ea=>
  cases (show u=Value.ref a from rx)
  obtain⟨_,_,_,n,_,h1⟩:=(show ObjOk X.prog X.w H s.heap a (.frz ob (.lst xs)) from I.hok a _ ea)
  exact PySem.W.kia_one PySem.W.kitx_list I.kIn ⟨_,h1,rfl⟩ e (fun z=>nomatch z) h
 | @tup a xs ea=>
  cases (show u=Value.ref a from rx)
  obtain⟨_,_,_,p⟩:=(show ObjOk X.prog X.w H s.heap a (.tup xs) from I.hok a _ ea)
  obtain⟨o,h1,h2,_⟩:=p
  exact PySem.W.kia_one PySem.W.kitx_tuple I.kIn ⟨o,h1,h2⟩ e (fun z=>nomatch z) h
 | @dK a kvs ea=>
  cases (show u=Value.ref a from rx)
  obtain⟨_,_,vs,_,p⟩:=(show ObjOk X.prog X.w H s.heap a (.dK kvs) from I.hok a _ ea)
  obtain⟨o,es,ep,h1,h2,_⟩:=p
  exact PySem.W.kia_one PySem.W.kitx_dict I.kIn ⟨o,h1,h2.1⟩ e (fun z=>nomatch z) h
 | @dT a kvs ea=>
  cases (show u=Value.ref a from rx)
  obtain⟨_,_,xs,_,o,es,ep,h1,h2,_⟩:=(show ObjOk X.prog X.w H s.heap a (.dT kvs) from I.hok a _ ea)
  exact PySem.W.kia_one PySem.W.kitx_dict I.kIn ⟨o,h1,h2.1⟩ e (fun z=>nomatch z) h
 | @ins a C dx fs ea cl ha hn htk hm=>
  cases (show u=Value.ref a from rx)
  obtain⟨mA,O,_⟩:=ins_get I.hok ea
  obtain⟨od,J,_⟩:=O.look
  exact PySem.W.kia_one (PySem.W.kitx_own (cl.get _) cl.hd ha hn htk hm) I.kIn J e (fun z=>nomatch z) h
end
end L2
namespace L2
open PySem PySem.Spec PyProof.Rows
structure Room(k:Nat)(A:Around):Prop where
 hd:A.handled=none
 dp:A.depth+3*k+5<recursionLimit
 un:A.units+16*k+200<cLine
 gd:A.guards=some []
theorem Room.mono{j k:Nat}{A:Around}(r:Room k A)(h:j≤k):Room j A:=⟨r.hd,by have:=r.dp;omega,by have:=r.un;omega,r.gd⟩
theorem Room.deeper{k:Nat}{A:Around}(r:Room (k+1) A)(env:Env):Room k (A.deeper env):=
 ⟨r.hd,by have:=r.dp;show A.depth+1+3*k+5<_;omega,by have:=r.un;show A.units+3+16*k+200<_;omega,r.gd⟩
theorem make_depth{A:Around}{C:Addr}{us:List Value}{kw:List (Str×Value)}:(A.under (.builtin "type.__call__" ⟨.ref C::us,kw⟩)).depth=A.depth+1:=by
 first | rfl | simp[Around.under,Code.weight,Code.isCreation,Code.isGuard,Code.isCaller,Code.frames,Code.isFrame,guardIds]
theorem make_units{A:Around}{C:Addr}{us:List Value}{kw:List (Str×Value)}:(A.under (.builtin "type.__call__" ⟨.ref C::us,kw⟩)).units=A.units+1:=by
 first | rfl | simp[Around.under,Code.cUnits,Code.frames,Code.isFrame]
theorem make_guards{A:Around}{C:Addr}{us:List Value}{kw:List (Str×Value)}(h:A.guards=some []):(A.under (.builtin "type.__call__" ⟨.ref C::us,kw⟩)).guards=some []:=by
 have e:(Code.builtin "type.__call__" ⟨.ref C::us,kw⟩).guards=[]:=by
  unfold Code.guards
  rw[if_neg (by show ¬guardIds.contains "type.__call__"=true;decide)]
 have e2:(A.under (.builtin "type.__call__" ⟨.ref C::us,kw⟩)).guards=pushGuards (Code.builtin "type.__call__" ⟨.ref C::us,kw⟩).guards A.guards:=rfl
 rw[e2,e,h];rfl
theorem Room.make{k:Nat}{A:Around}(r:Room (k+1) A)(C:Addr)(us:List Value)(kw:List (Str×Value)):Room k (A.under (.builtin "type.__call__" ⟨.ref C::us,kw⟩)):=
 ⟨r.hd,by have:=r.dp;rw[make_depth];omega,by have:=r.un;rw[make_units];omega,make_guards r.gd⟩
theorem Room.depth{k:Nat}{A:Around}(r:Room k A):A.depth<recursionLimit:=by have:=r.dp;omega
theorem Room.units0{k:Nat}{A:Around}(r:Room k A):A.units<cLine:=by have:=r.un;omega
def tNil:TA:=fun _ H Q=>Q [] H
def tCons(ta:TE)(tr:TA):TA:=fun σ H Q=>ta σ H fun x H1=>tr σ H1 fun xs H2=>Q (x::xs) H2
section
variable{X:Cx}{e:Expr}{es:List Expr}{te:TE}{t:TA}{pos:Pos}
theorem pa_nil:PA X [] tNil:=fun _ _ _ _ H Q I h=>Calls.spliced_nil ⟨[],H,I,.nil,h⟩
theorem pa_cons(ha:PE X e te)(hr:PA X es t)(hs:starEach (e::es) X.env=(false,eval e X.env)::starEach es X.env:=by rfl):PA X (e::es) (tCons te t):=by
 intro pos pins s σ H Q I h
 rw[hs]
 show wpAny _ _ (spliced ((false,eval e X.env)::backTo pos (starEach es X.env))) _ _ s
 refine Calls.spliced_cons (thn (ha pins s σ H _ I h) fun u s1 ⟨x,H1,I1,r1,q1⟩=>?_)
 exact thn (hr pos pins s1 σ H1 _ I1 q1) fun us s2 ⟨xs,H2,I2,r2,q2⟩=>⟨x::xs,H2,I2,.cons r1 r2,q2⟩
def tTup(t:TA):TE:=fun σ H Q=>t σ H fun xs H1=>xs.length≤sizeLine∧∀p,H1 p=none→Q (.ref p) (upd H1 p (.tup xs))
def tLst(t:TA):TE:=fun σ H Q=>t σ H fun xs H1=>xs.length≤sizeLine∧∀p,H1 p=none→Q (.ref p) (upd H1 p (.lst xs))
theorem pe_tup{x1}(h:PA X es t):PE X (.Tuple es x1 pos) (tTup t):=by
 intro pins s σ H Q I hq
 refine wpAny_Tuple_spliced (thn (h pos pins s σ H _ I hq) fun us s1 ⟨xs,H1,I1,r,z,q⟩=>⟨by rw[←r.length];exact z,?_⟩)
 have hf:H1 s1.heap.objs.size=none:=I1.hok.fresh (Nat.le_refl _)
 refine⟨.ref s1.heap.objs.size,upd H1 s1.heap.objs.size (.tup xs),I1.laid (t':=s1.toks) (fun b u e=>Heap.get?_push_of_some _ e) (Nat.le_refl _) ?_,rfl,q _ hf⟩
 exact⟨z,us,r,⟨_,Heap.get?_push_size _ rfl,rfl,_,rfl⟩⟩
theorem pe_lst(h:PA X es t):PE X (.List es pos) (tLst t):=by
 intro pins s σ H Q I hq
 refine wpAny_List_spliced (thn (h pos pins s σ H _ I hq) fun us s1 ⟨xs,H1,I1,r,z,q⟩=>⟨by rw[←r.length];exact z,?_⟩)
 have hf:H1 s1.heap.objs.size=none:=I1.hok.fresh (Nat.le_refl _)
 refine⟨.ref s1.heap.objs.size,upd H1 s1.heap.objs.size (.lst xs),I1.laid (t':=s1.toks) (fun b u e=>Heap.get?_push_of_some _ e) (Nat.le_refl _) ?_,rfl,q _ hf⟩
 exact⟨z,us,0,r,Heap.get?_push_size _ rfl⟩
end
abbrev Sp:=List V→Hp→VK→XK→Prop
abbrev CXT:=List Env→Hp→Shared→XK→Value→Shared→Prop
structure Env0(P:Program)(w:World)(K:PySem.W.Frag)(mg:Str→Option Value)(base:Heap)(A:Around)(outer:List Env)(s:Shared)(H:Hp):Prop where
 frames:A.frames=some outer
 mod:Mod K mg base
 bs:∀b o,base.get? b=some o→s.heap.get? b=some o∧H b=none
 bsz:base.objs.size≤s.heap.objs.size
 funs:s.heap.FunFrames base outer
 frf:∀b∈frs outer,H b=none
 hok:HOk P w H s.heap
 bare:AllBare s.gens
def CE(outer:List Env)(P:Program)(w:World)(H:Hp)(s:Shared)(Q:VK)(u:Value)(s':Shared):Prop:=
 ∃v H',s'.os=s.os∧AllBare s'.gens∧Un (frs outer) [] H H' s.heap s'.heap∧HOk P w H' s'.heap∧RelV v u∧Q v H'
def CR(CX:CXT)(outer:List Env)(P:Program)(w:World)(H:Hp)(s:Shared)(Q:VK)(E:XK)(r:Result)(s':Shared):Prop:=
 match r with
 | .ok (.ret u)=>CE outer P w H s Q u s'
 | .ok _=>False
 | .error e=>CX outer H s E e s'
structure FnOk(P:Program)(w:World)(K:PySem.W.Frag)(mg:Str→Option Value)(base:Heap)(CX:CXT)(k:Nat)(f:Addr)(fd:FuncData)(ps:List Str)(sp:Sp):Prop where
 len:∀vs H Q E,sp vs H Q E→vs.length=ps.length
 run:∀(A:Around) (outer:List Env) (s:Shared) (H:Hp) (args:Args) (us:List Value) (vs:List V) (Q:VK) (E:XK),Room k A→Env0 P w K mg base A outer s H→BindsTo s fd args (ps.zip us)→Vals vs us→sp vs H Q E→
  codeAny (model P w) A (.call (.ref f) args) (CR CX outer P w H s Q E) s
theorem FnOk.mono{P:Program}{w:World}{K:PySem.W.Frag}{mg:Str→Option Value}{base:Heap}{CX:CXT}{j k:Nat}{f:Addr}{fd:FuncData}{ps:List Str}{sp:Sp}(F:FnOk P w K mg base CX j f fd ps sp)(h:j≤k):
 FnOk P w K mg base CX k f fd ps sp:=⟨F.len,fun A outer s H args us vs Q E hr=>F.run A outer s H args us vs Q E (hr.mono h)⟩
theorem Env0.make{P:Program}{w:World}{K:PySem.W.Frag}{mg:Str→Option Value}{base:Heap}{A:Around}{outer:List Env}{s:Shared}{H:Hp}(e:Env0 P w K mg base A outer s H)(C:Addr)(us:List Value)(kw:List (Str×Value)):
 Env0 P w K mg base (A.under (.builtin "type.__call__" ⟨.ref C::us,kw⟩)) outer s H:=⟨by first | exact e.frames | (simpa [Around.under,Code.envs,Code.isFrame,pushEnvs] using e.frames),e.mod,e.bs,e.bsz,e.funs,e.frf,e.hok,e.bare⟩
section
variable{X:Cx}{pins:List (Addr×Obj)}{σ:St}{H:Hp}{s s':Shared}
theorem Inv.env0(I:Inv X pins σ H s):Env0 X.prog X.w X.K X.mg X.base X.A X.stack s H:=
 ⟨I.ok.frames,I.ok.mod,I.bs,Nat.le_trans I.ok.bsz I.sz,I.stack,I.stkFree,I.hok,I.bare⟩
theorem Inv.after{Q:VK}{u:Value}(I:Inv X pins σ H s)(h:CE X.stack X.prog X.w H s Q u s'):EP X pins σ Q u s':=by
 obtain⟨v,H',os,bare,un,hok,r,q⟩:=h
 obtain⟨hh,g,d,t,os'⟩:=s'
 obtain rfl:os'=s.os:=os
 exact⟨v,H',I.call (h':=hh) (g':=g) (d':=d) (t':=t) (ch:=[]) un hok bare (fun b z=>absurd z (by simp)),r,q⟩
end
def tCall(sp:Sp)(dvs:List V)(E:XK)(t:TA):TE:=fun σ H Q=>t σ H fun vs H1=>sp (vs++dvs) H1 Q E
def tMeth(C:Addr)(m:Str)(sp:Sp)(dvs:List V)(E:XK)(ta:TE)(t:TA):TE:=fun σ H Q=>ta σ H fun x H1=>∃a dx fs,x=.ref a∧H1 a=some (.ins C dx fs)∧fs.lookup m=none∧
 t σ H1 fun vs H2=>sp (x::(vs++dvs)) H2 Q E
def tMake(C:Addr)(sp:Sp)(dvs:List V)(E:XK)(t:TA):TE:=fun σ H Q=>t σ H fun vs H1=>∀x dx,H1 x=none→H1 dx=none→dx≠x→
 sp (.ref x::(vs++dvs)) (upd (upd H1 dx (.own x)) x (.ins C dx [])) (fun v H2=>v=.non∧Q (.ref x) H2) E
def Binds(K:PySem.W.Frag)(fd:FuncData)(ps:List Str)(ds:List Value):Prop:=
 ∀(s:Shared) (us:List Value),K.In s.heap→(us++ds).length=ps.length→BindsTo s fd ⟨us,[]⟩ (ps.zip (us++ds))
theorem Binds.all{K:PySem.W.Frag}{fd:FuncData}{ps:List Str}(h:∀us:List Value,us.length=ps.length→bindArgs fd ⟨us,[]⟩=pure (ps.zip us)):Binds K fd ps []:=fun s us _ hl=>by
 rw[List.append_nil] at hl ⊢
 exact .of_eq (h us hl)
def Passes(CX:CXT)(X:Cx)(E:XK):Prop:=∀(pins:List (Addr×Obj)) (σ:St) (H:Hp) (s:Shared) (e:Value) (s':Shared),Inv X pins σ H s→CX X.stack H s E e s'→X.xe e s'
section
variable{X:Cx}{CX:CXT}{k:Nat}{f C:Addr}{fd:FuncData}{ps:List Str}{sp:Sp}{dvs:List V}{ds:List Value}{E:XK}{x m:Str}{p pos apos:Pos}{e o:Expr}{es:List Expr}{ta:TE}{t:TA}
theorem run_fn{pins:List (Addr×Obj)}{σ:St}{H:Hp}{s:Shared}{Q:VK}{us:List Value}{vs:List V}(F:FnOk X.prog X.w X.K X.mg X.base CX k f fd ps sp)(hr:Room k X.A)(hb:Binds X.K fd ps ds)(hd:Vals dvs ds)(hx:Passes CX X E)
 (I:Inv X pins σ H s)(r:Vals vs us)(h:sp (vs++dvs) H Q E):wpAny (model X.prog X.w) X.A (call (.ref f) us) (EP X pins σ Q) X.xe s:=by
 have r2:Vals (vs++dvs) (us++ds):=r.append hd
 have hl:(us++ds).length=ps.length:=by rw[←r2.length];exact F.len _ _ _ _ h
 refine wpAny_call (codeAny_mono (F.run X.A X.stack s H ⟨us,[]⟩ (us++ds) (vs++dvs) Q E hr I.env0 (hb s us I.kIn hl) r2 h) fun r s' hq=>?_)
 cases r with
 | error e=>exact hx pins σ H s e s' I hq
 | ok fl=>
  cases fl with
  | ret u=>exact I.after hq
  | next=>exact False.elim hq
  | brk=>exact False.elim hq
  | cont=>exact False.elim hq
theorem pe_call(F:FnOk X.prog X.w X.K X.mg X.base CX k f fd ps sp)(hr:Room k X.A)(hg:Gl X x)(hm:X.mg x=some (.ref f))(hk:PySem.W.keepIn X.K (.ref f)=true)(hb:Binds X.K fd ps ds)(hd:Vals dvs ds)(hx:Passes CX X E)
 (ha:PA X (e::es) t)(hdb:(x==("__debug__":Str))=false:=by decide)(he:starEach (e::es) X.env=(false,eval e X.env)::starEach es X.env:=by rfl)(hpl:(backTo pos (starEach es X.env)).any (·.1)=false:=by rfl):
 PE X (.Call (.Name x p) (e::es) [] pos) (tCall sp dvs E t):=by
 intro pins s σ H Q I h
 refine wpAny_Call_Name_kw (ld_glob I hg hm ?_ hdb)
 refine PySem.W.callWith_K (h₀:=X.base) I.ok.mod.kin hk (thn (ha pos pins s σ H _ I h) fun us s1 ⟨vs,H1,I1,r,q⟩=>⟨I1.kIn,?_⟩) he hpl
 exact run_fn F hr hb hd hx I1 r q
theorem pe_meth{pl:Sem Bool}(he:PE X o ta)(c:Cls X.K C)(hm:Meth X.K C m f)(F:FnOk X.prog X.w X.K X.mg X.base CX k f fd ps sp)(hr:Room k X.A)(hb:Binds X.K fd ps ds)(hd:Vals dvs ds)(hx:Passes CX X E)(ha:PA X (e::es) t)
 (hst:starEach (e::es) X.env=(false,eval e X.env)::starEach es X.env:=by rfl)(hpl:(backTo pos (starEach es X.env)).any (·.1)=false:=by rfl)
 (ht:eval (.Call (.Attribute o m apos) (e::es) [] pos) X.env=(do
  let ov ←eval o X.env
  standAt apos.atName
  let (f,first) ←holding [ov] (getMethod ov m pl)
  callWith pos f first (backTo pos (starEach (e::es) X.env)) (backToKw pos (keywordEach [] X.env))):=by rfl):
 PE X (.Call (.Attribute o m apos) (e::es) [] pos) (tMeth C m sp dvs E ta t):=by
 intro pins s σ H Q I h
 refine PySem.W.methodCall_KW (pl:=pl) (thn (he pins s σ H _ I h) fun u s1 ⟨x,H1,I1,rx,a,dx,fs,ex,ea,l,q⟩=>?_) ht
 subst ex
 obtain rfl:u=Value.ref a:=rx
 refine getmeth_ok I1 ea c hm l ?_
 refine PySem.W.callWith_K (first:=[.ref a]) (h₀:=X.base) I.ok.mod.kin hm.kp (thn (ha pos pins s1 σ H1 _ I1 q) fun us s2 ⟨vs,H2,I2,r,q2⟩=>⟨I2.kIn,?_⟩) hst hpl
 exact run_fn (us:=.ref a::us) (vs:=.ref a::vs) F hr hb hd hx I2 (.cons rfl r) q2
theorem pe_meth0{pl:Sem Bool}(he:PE X o ta)(c:Cls X.K C)(hm:Meth X.K C m f)(F:FnOk X.prog X.w X.K X.mg X.base CX k f fd ps sp)(hr:Room k X.A)(hb:Binds X.K fd ps ds)(hd:Vals dvs ds)(hx:Passes CX X E)
 (ht:eval (.Call (.Attribute o m apos) [] [] pos) X.env=(do
  let ov ←eval o X.env
  standAt apos.atName
  let (f,first) ←holding [ov] (getMethod ov m pl)
  callWith pos f first (backTo pos (starEach [] X.env)) (backToKw pos (keywordEach [] X.env))):=by rfl):
 PE X (.Call (.Attribute o m apos) [] [] pos) (tMeth C m sp dvs E ta tNil):=by
 intro pins s σ H Q I h
 refine PySem.W.methodCall_KW (pl:=pl) (thn (he pins s σ H _ I h) fun u s1 ⟨x,H1,I1,rx,a,dx,fs,ex,ea,l,q⟩=>?_) ht
 subst ex
 obtain rfl:u=Value.ref a:=rx
 refine getmeth_ok I1 ea c hm l ?_
 exact PySem.W.callWith_K0 (first:=[.ref a]) I1.kIn hm.kp (run_fn (us:=[.ref a]) (vs:=[.ref a]) F hr hb hd hx I1 (.cons rfl .nil) q)
structure Mk(K:PySem.W.Frag)(C f:Addr):Prop where
 makes:PySem.W.makesIn K C=true
 init:PySem.W.findIn K (.ref C) "__init__"=some (some (.ref f))
 fn:PySem.W.isFn K (.ref f)=true
 kp:PySem.W.keepIn K (.ref C)=true
theorem run_make{pins:List (Addr×Obj)}{σ:St}{H:Hp}{s:Shared}{Q:VK}{us:List Value}{vs:List V}(M:Mk X.K C f)(F:FnOk X.prog X.w X.K X.mg X.base CX k f fd ps sp)(hr:Room (k+1) X.A)(hb:Binds X.K fd ps ds)(hd:Vals dvs ds)
 (hx:Passes CX X E)(I:Inv X pins σ H s)(r:Vals vs us)
 (h:∀x dx,H x=none→H dx=none→dx≠x→sp (.ref x::(vs++dvs)) (upd (upd H dx (.own x)) x (.ins C dx [])) (fun v H2=>v=.non∧Q (.ref x) H2) E):
 wpAny (model X.prog X.w) X.A (call (.ref C) us) (EP X pins σ Q) X.xe s:=by
 have hq:=h (s.heap.objs.size+1) s.heap.objs.size (I.hok.fresh (Nat.le_succ _)) (I.hok.fresh (Nat.le_refl _)) (Nat.ne_of_lt (Nat.lt_succ_self _))
 have I2:=Inv.made (C:=C) I
 have r2:Vals (V.ref (s.heap.objs.size+1)::(vs++dvs)) (Value.ref (s.heap.objs.size+1)::(us++ds)):=.cons rfl (r.append hd)
 have hl:(Value.ref (s.heap.objs.size+1)::us++ds).length=ps.length:=by
  have e:=r2.length
  rw[F.len _ _ _ _ hq] at e
  exact e.symm
 refine wpAny_call (make_map (f:=f) I.kIn M.makes M.init (beq_iff_eq.mp M.fn) (codeAny_mono (F.run _ X.stack _ _ ⟨Value.ref (s.heap.objs.size+1)::us,[]⟩ (Value.ref (s.heap.objs.size+1)::(us++ds)) _ _ E (hr.make C us [])
  (I2.env0.make C us []) (hb _ (Value.ref (s.heap.objs.size+1)::us) I2.kIn hl) r2 hq) fun r s' hq'=>?_))
 cases r with
 | error e=>exact hx pins σ _ _ e s' I2 hq'
 | ok fl=>
  cases fl with
  | ret u=>
   obtain⟨v,H',I3,rv,ev,q3⟩:=I2.after hq'
   subst ev
   exact⟨rv,⟨V.ref (s.heap.objs.size+1),H',I3,rfl,q3⟩⟩
  | next=>exact False.elim hq'
  | brk=>exact False.elim hq'
  | cont=>exact False.elim hq'
theorem pe_make(M:Mk X.K C f)(F:FnOk X.prog X.w X.K X.mg X.base CX k f fd ps sp)(hr:Room (k+1) X.A)(hg:Gl X x)(hm:X.mg x=some (.ref C))(hb:Binds X.K fd ps ds)(hd:Vals dvs ds)(hx:Passes CX X E)
 (ha:PA X (e::es) t)(hdb:(x==("__debug__":Str))=false:=by decide)(he:starEach (e::es) X.env=(false,eval e X.env)::starEach es X.env:=by rfl)(hpl:(backTo pos (starEach es X.env)).any (·.1)=false:=by rfl):
 PE X (.Call (.Name x p) (e::es) [] pos) (tMake C sp dvs E t):=by
 intro pins s σ H Q I h
 refine wpAny_Call_Name_kw (ld_glob I hg hm ?_ hdb)
 refine PySem.W.callWith_K (h₀:=X.base) I.ok.mod.kin M.kp (thn (ha pos pins s σ H _ I h) fun us s1 ⟨vs,H1,I1,r,q⟩=>⟨I1.kIn,?_⟩) he hpl
 exact run_make M F hr hb hd hx I1 r q
end
section
variable{X:Cx}{CX:CXT}{k:Nat}{f C:Addr}{fd:FuncData}{ps ks:List Str}{sp:Sp}{E:XK}{x m:Str}{p pos apos kpos:Pos}{e o:Expr}{es:List Expr}{kws:List Keyword}{te ta:TE}{t tk:TA}{nm:Option Str}
variable{g:List Value→List Value→List Value}{gV:List V→List V→List V}
end
structure FnScope(N P:List Str)(sc:Scope):Prop where
 kind:sc.kind=.function
 co:sc.isCoroutine=false
 gen:sc.isGenerator=false
 nd:N.Nodup
 pre:N.take P.length=P
 par:∀x∈P,sc.names.lookup x=some .local∨sc.names.lookup x=some .cell
 nofree:∀y∈sc.names,y.2≠.free
theorem bindL_out{kindOf:Str→Option NameKind}{x:Str}:∀{binds:List (Str×Value)} {m:Str→Option Value},(∀v,(x,v)∉binds)→bindL kindOf binds m x=m x
 | [],_,_=>rfl
 | (n,v)::r,m,h=>by
  unfold bindL
  rw[bindL_out fun w hw=>h w (List.mem_cons_of_mem _ hw)]
  split
  ·have:x≠n:=by rintro rfl;exact h v List.mem_cons_self
   simp[this]
  ·rfl
theorem bindC_out{kindOf:Str→Option NameKind}{x:Str}:∀{binds:List (Str×Value)} {m:Str→Option Value},(∀v,(x,v)∉binds)→bindC kindOf binds m x=m x
 | [],_,_=>rfl
 | (n,v)::r,m,h=>by
  unfold bindC
  rw[bindC_out fun w hw=>h w (List.mem_cons_of_mem _ hw)]
  split
  ·rfl
  ·have:x≠n:=by rintro rfl;exact h v List.mem_cons_self
   simp[this]
theorem bindL_get{kindOf:Str→Option NameKind}{x:Str}{v:Value}:∀{P:List Str} {vs:List Value} {i:Nat} {m:Str→Option Value},P.Nodup→P[i]?=some x→vs[i]?=some v→kindOf x=some .local→
 bindL kindOf (P.zip vs) m x=some v
 | [],_,_,_,_,h,_,_=>by simp at h
 | _::_,[],_,_,_,_,h,_=>by simp at h
 | p::P,w::vs,0,m,nd,h1,h2,hk=>by
  simp at h1 h2;subst h1;subst h2
  show bindL kindOf ((p,w)::P.zip vs) m p=_
  unfold bindL
  rw[bindL_out fun v hv=>(List.nodup_cons.mp nd).1 (List.of_mem_zip hv).1,if_pos hk]
  simp
 | p::P,w::vs,i+1,m,nd,h1,h2,hk=>by
  show bindL kindOf ((p,w)::P.zip vs) m x=_
  unfold bindL
  exact bindL_get (i:=i) (List.nodup_cons.mp nd).2 (by simpa using h1) (by simpa using h2) hk
theorem bindC_get{kindOf:Str→Option NameKind}{x:Str}{v:Value}:∀{P:List Str} {vs:List Value} {i:Nat} {m:Str→Option Value},P.Nodup→P[i]?=some x→vs[i]?=some v→kindOf x≠some .local→
 bindC kindOf (P.zip vs) m x=some v
 | [],_,_,_,_,h,_,_=>by simp at h
 | _::_,[],_,_,_,_,h,_=>by simp at h
 | p::P,w::vs,0,m,nd,h1,h2,hk=>by
  simp at h1 h2;subst h1;subst h2
  show bindC kindOf ((p,w)::P.zip vs) m p=_
  unfold bindC
  rw[bindC_out fun v hv=>(List.nodup_cons.mp nd).1 (List.of_mem_zip hv).1,if_neg hk]
  simp
 | p::P,w::vs,i+1,m,nd,h1,h2,hk=>by
  show bindC kindOf ((p,w)::P.zip vs) m x=_
  unfold bindC
  exact bindC_get (i:=i) (List.nodup_cons.mp nd).2 (by simpa using h1) (by simpa using h2) hk
def start(N:List Str)(vs:List V):St:=vs.map some++List.replicate (N.length-vs.length) none
def cxOf(CX:CXT)(P:Program)(w:World)(K:PySem.W.Frag)(mg:Str→Option Value)(base:Heap)(N:List Str)(qual:Str)(scope:Scope)(f:Addr)(cd:Value)(A:Around)(outer:List Env)(s:Shared)(H:Hp)(E:XK):Cx where
 prog:=P
 w:=w
 K:=K
 mg:=mg
 base:=base
 A:=A.deeper (envOfC qual scope s.heap.objs.size f cd)
 N:=N
 s₀:=s
 H₀:=H
 env:=envOfC qual scope s.heap.objs.size f cd
 outer:=outer
 stack:=envOfC qual scope s.heap.objs.size f cd::outer
 ex:=[]
 calm:=true
 fn:=fun _=>true
 pn:=[]
 xe:=fun e s'=>wpAny (model P w) (A.deeper (envOfC qual scope s.heap.objs.size f cd)) (leaving (envOfC qual scope s.heap.objs.size f cd) e) (fun _ s''=>CX outer H s E e s'') (fun e' s''=>CX outer H s E e' s'') s'
theorem cell_has{sc:Scope}{n:Nat}{x:Str}(h:sc.names.lookup x=some .cell):∃c,(cellsFrom n sc.names []).lookup x=some c:=by
 have q:=PySem.W.cellsFrom_some sc.names n [] (.inl h)
 exact Option.isSome_iff_exists.mp q
theorem inv_start{CX:CXT}{P:Program}{w:World}{K:PySem.W.Frag}{mg:Str→Option Value}{base:Heap}{N ps:List Str}{qual:Str}{scope:Scope}{f:Addr}{cd:Value}{A:Around}{outer:List Env}{s s1:Shared}{H:Hp}{E:XK}{us:List Value}{vs:List V}
 (S:FnScope N ps scope)(hd:A.handled=none)(e0:Env0 P w K mg base A outer s H)(hl:vs.length=ps.length)(r:Vals vs us)
 (x:InCallC s s.heap.objs.size (bindL (envOfC qual scope s.heap.objs.size f cd).kindOf (ps.zip us) fun _=>none) (cellsFrom (s.heap.objs.size+1) scope.names []) (bindC (envOfC qual scope s.heap.objs.size f cd).kindOf (ps.zip us) fun _=>none) s1):
 Inv (cxOf CX P w K mg base N qual scope f cd A outer s H E) [] (start N vs) H s1:=by
 have hpl:ps.length≤N.length:=by have:=congrArg List.length S.pre;rw[List.length_take] at this;omega
 obtain⟨h1,tk,rfl,hk⟩:=x.done
 have noA:∀b:Addr,b∉(cxOf CX P w K mg base N qual scope f cd A outer s H E).ex:=fun b z=>absurd (show b∈([]:List Addr) from z) (by simp)
 refine⟨⟨e0.mod,S.kind,rfl,rfl,Nat.le_refl _,fun y z c h1 h2=>?_,fun y hy=>?_,fun y c _ h=>?_,fun _=>hd,Around.frames_deeper e0.frames,.inr ⟨rfl,rfl⟩,fun b z=>absurd z (noA b),e0.bs,e0.bsz,fun b _ _=>noA b,fun b z=>absurd z (noA b),e0.funs,e0.frf⟩,
  rfl,e0.bare,Un.kept hk,⟨_,x.toInCall.ns,fun i y v h1 h2 h3=>?_⟩,fun y c h=>⟨_,x.cell y c h⟩,e0.hok.fresh (Nat.le_refl _),fun y c h=>?_,fun p hp=>absurd (show p∈([]:List (Addr×Obj)) from hp) (by simp),e0.hok.kept hk,?_⟩
 ·exact name_of_addr x.apart (PySem.mem_of_lookup h1) (PySem.mem_of_lookup h2)
 ·have hy:scope.names.lookup y=some .cell∨scope.names.lookup y=some .free:=hy
  rcases hy with hy | hy
  ·exact cell_has hy
  ·exact absurd rfl (S.nofree _ (PySem.mem_of_lookup hy))
 ·exact Nat.le_of_lt (x.above y c (PySem.mem_of_lookup h))
 ·have hi:i<vs.length:=by
   unfold start at h2
   by_cases hi:i<vs.length
   ·exact hi
   ·rw[List.getElem?_append_right (by simpa using hi)] at h2
    rw[List.getElem?_replicate] at h2
    split at h2<;>cases h2
  have ha:vs[i]?=some v:=by
   unfold start at h2
   rw[List.getElem?_append_left (by simpa using hi),List.getElem?_map] at h2
   cases e:vs[i]? with
   | none=>rw[e] at h2;cases h2
   | some a=>rw[e] at h2;cases h2;rfl
  obtain⟨u,hu,rv⟩:=r.get ha
  have hp:ps[i]?=some y:=by
   rw[←S.pre,List.getElem?_take_of_lt (by omega)];exact h1
  have ndP:ps.Nodup:=by rw[←S.pre];exact S.nd.sublist (List.take_sublist _ _)
  refine⟨u,rv,?_⟩
  rcases S.par y (List.mem_of_getElem? hp) with k | k
  ·exact .inl ⟨k,bindL_get ndP hp hu k⟩
  ·obtain⟨c,e⟩:=cell_has (n:=s.heap.objs.size+1) k
   refine .inr ⟨.inl k,c,e,?_⟩
   have q:=x.cell y c e
   rw[bindC_get ndP hp hu (by show scope.names.lookup y≠_;rw[k];decide)] at q
   exact q
 ·exact e0.hok.fresh (Nat.le_of_lt (x.above y c (PySem.mem_of_lookup h)))
 ·unfold start
  show _=N.length
  rw[List.length_append,List.length_map,List.length_replicate]
  omega
theorem fn_of{CX:CXT}{P:Program}{w:World}{K:PySem.W.Frag}{mg:Str→Option Value}{base:Heap}{k:Nat}{f:Addr}{name qual:Str}{params:Arguments}{body:List Stmt}{scope:Scope}{dV kV doc pm cdv ct oc:Value}{an od:Option Addr}
 {osl:Array (Option Value)}{N ps:List Str}{sp:Sp}(lk:K.lookup f=some ⟨oc,od,.func (PySem.W.fnOf name qual params body scope dV kV doc pm an cdv ct),osl⟩)(hcd:PySem.W.codeIn K cdv qual=true)(S:FnScope N ps scope)
 (len:∀vs H Q E,sp vs H Q E→vs.length=ps.length)
 (hbody:∀(A:Around) (outer:List Env) (s:Shared) (H:Hp) (vs:List V) (Q:VK) (E:XK),Room k (A.deeper (envOfC qual scope s.heap.objs.size f cdv))→sp vs H Q E→
  ∃t,PSs (cxOf CX P w K mg base N qual scope f cdv A outer s H E) body t∧t { nx:=fun _ H'=>Q .non H',rt:=Q } (start N vs) H):
 FnOk P w K mg base CX (k+1) f (PySem.W.fnOf name qual params body scope dV kV doc pm an cdv ct) ps sp:=by
 refine⟨len,fun A outer s H args us vs Q E hr e0 hb r hsp=>?_⟩
 have hl:=len _ _ _ _ hsp
 have KX:K.In s.heap:=e0.mod.kin.keeps fun b o e=>(e0.bs b o e).1
 have lim:s.heap.NoLimit:=e0.mod.nolimit.keeps fun b o e=>(e0.bs b o e).1
 have hkind:∀y∈ps.zip us,scope.names.lookup y.1=some .local∨(scope.names.lookup y.1=some .cell∧((cellsFrom (s.heap.objs.size+1) scope.names []).lookup y.1).isSome=true):=fun⟨n,v⟩ hy=>by
  rcases S.par n (List.of_mem_zip hy).1 with q | q
  ·exact .inl q
  ·exact .inr ⟨q,PySem.W.cellsFrom_some _ _ _ (.inl q)⟩
 refine codeAny_call_function hr.depth (KX _ _ lk) rfl S.co S.gen rfl (PySem.W.codeRec_of KX hcd) (hb _ _ _ _ ?_)
 refine wpAny_newFunctionEnv_cells S.kind hkind fun env he s1 x=>?_
 subst he
 refine⟨lim.keeps x.toInCall.keep,codeAny_func ?_⟩
 obtain⟨t,ht,hq⟩:=hbody A outer s H vs Q E (hr.deeper _) hsp
 have I:Inv (cxOf CX P w K mg base N qual scope f cdv A outer s H E) [] (start N vs) H s1:=inv_start S hr.hd e0 hl r x
 refine wpAny_mono (ht [] s1 (start N vs) H _ I hq) (fun fl s' hs=>?_) fun e s' hs=>hs
 have fin:∀{σ':St} {H':Hp} {v:V} {u:Value},Inv (cxOf CX P w K mg base N qual scope f cdv A outer s H E) [] σ' H' s'→RelV v u→Q v H'→CE outer P w H s Q u s':=
  fun{σ' H' v u} J rv q=>⟨v,H',J.os,J.bare,J.base,J.hok,rv,q⟩
 cases fl with
 | ret u=>
  obtain⟨v,σ',H',J,rv,q⟩:=hs
  exact fin J rv q
 | next=>
  obtain⟨σ',H',J,q⟩:=hs
  exact fin (v:=V.non) (u:=Value.none) J rfl q
 | brk=>
  obtain⟨_,_,_,q⟩:=hs
  exact False.elim q
 | cont=>
  obtain⟨_,_,_,q⟩:=hs
  exact False.elim q
end L2
namespace L2
open PySem PySem.Spec PyProof.Rows
section
variable{X:Cx}{x:Str}{p pos:Pos}{e:Expr}{es:List Expr}{t:TA}{id T:String}{r:List V→Hp→VK→Prop}
def tCB(r:List V→Hp→VK→Prop)(t:TA):TE:=fun σ H Q=>t σ H fun vs H1=>r vs H1 Q
theorem pe_callB(hc:CallR X (.builtin id) r)(hg:Gl X x)(hm:X.mg x=none)(hv:bootBuiltins x=some (.builtin id))(ha:PA X (e::es) t)(hn:x≠"__name__":=by decide)(hdb:(x==("__debug__":Str))=false:=by decide)
 (he:starEach (e::es) X.env=(false,eval e X.env)::starEach es X.env:=by rfl)(hpl:(backTo pos (starEach es X.env)).any (·.1)=false:=by rfl):PE X (.Call (.Name x p) (e::es) [] pos) (tCB r t):=by
 intro pins s σ H Q I h
 refine wpAny_Call_Name_kw (ld_blt I hg hm hv ?_ hn hdb)
 exact PyProof.Rows.callWith_builtin1 (thn (ha pos pins s σ H _ I h) fun us s1 ⟨vs,H1,I1,r1,q1⟩=>hc pins s1 σ H1 vs us Q I1 r1 q1) he hpl
theorem pe_callTy(hc:CallR X (.type T) r)(hg:Gl X x)(hm:X.mg x=none)(hv:bootBuiltins x=some (.type T))(ha:PA X (e::es) t)(hn:x≠"__name__":=by decide)(hdb:(x==("__debug__":Str))=false:=by decide)
 (he:starEach (e::es) X.env=(false,eval e X.env)::starEach es X.env:=by rfl)(hpl:(backTo pos (starEach es X.env)).any (·.1)=false:=by rfl):PE X (.Call (.Name x p) (e::es) [] pos) (tCB r t):=by
 intro pins s σ H Q I h
 refine wpAny_Call_Name_kw (ld_blt I hg hm hv ?_ hn hdb)
 exact PyProof.Rows.callWith_type1 (thn (ha pos pins s σ H _ I h) fun us s1 ⟨vs,H1,I1,r1,q1⟩=>hc pins s1 σ H1 vs us Q I1 r1 q1) he hpl
end
end L2
namespace HT
open PySem PyProof.Rows
section
open PySem.SeqAt
open PySem.AutoSeq1 (wpAny_loadPart')
open PySem.MeetsSeq PySem.MeetsSeq2 PySem.MeetsSeq3
end
section
variable{prog:Program}{w:World}{A:Around}{E:Value→Shared→Prop}{s:Shared}
def sIx(n d:Nat):Option Int→Nat
 | none=>d
 | some v=>if v<0 then (v+(n:Int)).toNat else min v.toNat n
theorem sIx_none(n d:Nat):sIx n d none=d:=rfl
theorem sIx_nat(n d k:Nat):sIx n d (some (k:Int))=min k n:=by
 show(if (k:Int)<0 then ((k:Int)+(n:Int)).toNat else min (k:Int).toNat n)=min k n
 rw[if_neg (by omega),Int.toNat_natCast]
end
end HT
namespace L2
open PySem PySem.Spec PyProof.Rows
abbrev TO:=St→Hp→(Option Int→Hp→Prop)→Prop
def PO(X:Cx)(e:Option Expr)(t:TO):Prop:=
 ∀(pins:List (Addr×Obj)) (s:Shared) (σ:St) (H:Hp) (Q:Option Int→Hp→Prop),Inv X pins σ H s→t σ H Q→
  wpAny (model X.prog X.w) X.A (evalPart e X.env) (fun u s'=>∃o H',Inv X pins σ H' s'∧IsPart u o∧Q o H') X.xe s
def tNoPart:TO:=fun _ H Q=>Q none H
def tPart(t:TE):TO:=fun σ H Q=>t σ H fun x H1=>∃i,x=.int i∧Q (some i) H1
theorem intsAre_of{ns:List Int}:∀{us:List Value},Vals (ns.map V.int) us→IntsAre us ns:=by
 induction ns with
 | nil=>intro us r;rw[List.map_nil] at r;cases r;exact .nil
 | cons n ns ih=>
  intro us r
  rw[List.map_cons] at r
  cases r with
  | cons r1 r2=>
   obtain⟨t,e⟩:=r1
   subst e
   exact .cons n t (ih r2)
section
variable{X:Cx}{e:Expr}{te:TE}{lo hi:Option Expr}{tl th:TO}{pos p2:Pos}
theorem po_none:PO X none tNoPart:=by
 intro pins s σ H Q I h
 rw[evalPart_none]
 exact wpAny_pure ⟨none,H,I,.none,h⟩
theorem po_some(h:PE X e te):PO X (some e) (tPart te):=by
 intro pins s σ H Q I hw
 rw[evalPart_some]
 refine thn (h pins s σ H _ I hw) fun u s1 ⟨x,H1,I1,r1,q1⟩=>?_
 obtain⟨i,rfl,q⟩:=q1
 obtain⟨t,rfl⟩:=r1
 exact⟨some i,H1,I1,.int i t,q⟩
def SlR(X:Cx)(r:V→Option Int→Option Int→Hp→VK→Prop):Prop:=
 ∀(pins:List (Addr×Obj)) (s:Shared) (σ:St) (H:Hp) (x:V) (v vl vu:Value) (lo hi:Option Int) (sl:Addr) (Q:VK),Inv X pins σ H s→RelV x v→s.heap.IsSliceOf sl vl vu .none→IsPart vl lo→IsPart vu hi→r x lo hi H Q→
  ∃T id,typeLookup (.type T) "__getitem__"=pure (some (.builtin id))∧s.TypeIs v T∧wpAny (model X.prog X.w) X.A (getItem v (.ref sl)) (EP X pins σ Q) X.xe s
def tSl(r:V→Option Int→Option Int→Hp→VK→Prop)(te:TE)(tl th:TO):TE:=fun σ H Q=>te σ H fun x H1=>tl σ H1 fun l H2=>th σ H2 fun u H3=>r x l u H3 Q
theorem pe_slice{r:V→Option Int→Option Int→Hp→VK→Prop}(hr:SlR X r)(he:PE X e te)(hl:PO X lo tl)(hu:PO X hi th):PE X (.Subscript e (.Slice lo hi none p2) pos) (tSl r te tl th):=by
 intro pins s σ H Q I h
 refine Subscript_ (thn (he pins s σ H _ I h) fun v s1 ⟨x,H1,I1,r1,q1⟩=>?_)
 refine wpAny_Slice (thn (hl pins s1 σ H1 _ I1 q1) fun vl s2 ⟨l,H2,I2,pl,q2⟩=>thn (hu pins s2 σ H2 _ I2 q2) fun vu s3 ⟨u,H3,I3,pu,q3⟩=>?_)
 rw[evalPart_none]
 refine wpAny_pure ?_
 have I4:Inv X pins σ H3 { s3 with heap:=s3.heap.push { cls:=.type "slice",data:=.fields #[vl,vu,.none] } }:=I3.kept (t':=s3.toks) fun b ob q=>Heap.get?_push_of_some _ q
 obtain⟨T,id,hT,ht,hg⟩:=hr pins { s3 with heap:=s3.heap.push { cls:=.type "slice",data:=.fields #[vl,vu,.none] } } σ H3 x v vl vu l u s3.heap.objs.size Q I4 r1 (Heap.IsSliceOf.new ..) pl pu q3
 show wpAny (model X.prog X.w) X.A (subscriptTail e (.Slice lo hi none p2) v (.ref s3.heap.objs.size)) (EP X pins σ Q) X.xe { s3 with heap:=s3.heap.push { cls:=.type "slice",data:=.fields #[vl,vu,.none] } }
 exact tail_any (ops:=[.ref s3.heap.objs.size,v]) ht hT hg (by with_unfolding_all rfl)
def cutV(xs:List V)(lo hi:Option Int):List V:=(xs.drop (HT.sIx xs.length 0 lo)).take (HT.sIx xs.length xs.length hi-HT.sIx xs.length 0 lo)
theorem cutV_length(xs:List V)(lo hi:Option Int):(cutV xs lo hi).length≤xs.length:=by
 unfold cutV
 rw[List.length_take,List.length_drop]
 omega
end
end L2
namespace L2
open PySem PySem.Spec PyProof.Rows
def ixN(n:Nat)(i:Int):Option Nat:=if 0≤i then (if i<n then some i.toNat else none) else if -(n:Int)≤i then some (i+n).toNat else none
def atI{α:Type}(xs:List α)(i:Int):Option α:=(ixN xs.length i).bind fun j=>xs[j]?
theorem ixN_seq{n:Nat}{i:Int}{j:Nat}(h:ixN n i=some j):seqIndex? i n=some j∧j<n∧ -(n:Int)≤i∧i<n:=by
 unfold ixN at h
 by_cases h0:0≤i
 ·rw[if_pos h0] at h
  by_cases h1:i<n
  ·rw[if_pos h1] at h
   have e:i.toNat=j:=Option.some.inj h
   exact⟨by rw[seqIndex_of h0 h1,e],by omega,by omega,h1⟩
  ·rw[if_neg h1] at h;cases h
 ·rw[if_neg h0] at h
  by_cases h1: -(n:Int)≤i
  ·rw[if_pos h1] at h
   have e:(i+n).toNat=j:=Option.some.inj h
   exact⟨by rw[seqIndex_neg (by omega) h1,e],by omega,h1,by omega⟩
  ·rw[if_neg h1] at h;cases h
theorem atI_get{α:Type}{xs:List α}{i:Int}{v:α}(h:atI xs i=some v):∃j,seqIndex? i xs.length=some j∧xs[j]?=some v∧j<xs.length∧ -(xs.length:Int)≤i∧i<xs.length:=by
 unfold atI at h
 cases e:ixN xs.length i with
 | none=>rw[e] at h;cases h
 | some j=>
  rw[e] at h
  obtain⟨h1,h2,h3,h4⟩:=ixN_seq e
  exact⟨j,h1,h,h2,h3,h4⟩
theorem atI_nat{α:Type}{xs:List α}{j:Nat}{v:α}(h:xs[j]?=some v):atI xs (j:Int)=some v:=by
 have hj:j<xs.length:=(List.getElem?_eq_some_iff.mp h).1
 have e:ixN xs.length (j:Int)=some j:=by
  unfold ixN
  rw[if_pos (by omega),if_pos (by omega)];simp
 unfold atI;rw[e];exact h
def PlainIx(b:Expr):Prop:=∀o i,subscripted b false o i=operate [o,i] (getItem o i)
def IxR(X:Cx)(r:R2):Prop:=
 ∀(value slice:Expr) (pins:List (Addr×Obj)) (s:Shared) (σ:St) (H:Hp) (x y:V) (v u:Value) (Q:VK),Inv X pins σ H s→RelV x v→RelV y u→r x y H Q→
  subscripted slice false v u=operate [v,u] (getItem v u)→wpAny (model X.prog X.w) X.A (subscriptTail value slice v u) (EP X pins σ Q) X.xe s
def MtR(X:Cx)(id:String)(r:V→List V→Hp→VK→Prop):Prop:=
 ∀(pins:List (Addr×Obj)) (s:Shared) (σ:St) (H:Hp) (x:V) (xs:List V) (v:Value) (us:List Value) (Q:VK),Inv X pins σ H s→RelV x v→Vals xs us→r x xs H Q→
  wpAny (model X.prog X.w) X.A (call (.builtin id) (v::us)) (EP X pins σ Q) X.xe s
section
variable{X:Cx}{a b:Expr}{ta tb:TE}{pos:Pos}
theorem pe_ix{r:R2}(hr:IxR X r)(ha:PE X a ta)(hb:PE X b tb)(hs:PlainIx b):PE X (.Subscript a b pos) (tOp r ta tb):=by
 intro pins s σ H Q I h
 exact Subscript_ (binT ha hb I h fun v u s2 x y H2 I2 rx ry q=>hr a b pins s2 σ H2 x y v u Q I2 rx ry q (hs _ _))
def rIxL(K:PySem.W.Frag):R2:=fun x y H Q=>∃p xs i v,x=.ref p∧y=.int i∧SqL K H p xs∧atI xs i=some v∧Q v H
def rIxT(K:PySem.W.Frag):R2:=fun x y H Q=>∃p xs i v,x=.ref p∧y=.int i∧SqT K H p xs∧atI xs i=some v∧Q v H
theorem ix_list:IxR X (rIxL X.K):=by
 intro value slice pins s σ H x y v u Q I rx ry h hs
 obtain⟨p,xs,i,z,rfl,rfl,hq,he,q⟩:=h
 cases rx
 obtain⟨t,rfl⟩:=ry
 obtain⟨its,r,pl,hz⟩:=I.list hq
 obtain⟨j,h1,h2,h3,h4,h5⟩:=atI_get he
 obtain⟨w,ew,rw'⟩:=r.get h2
 have hl:=r.length
 have hn:=line63
 have fin:EP X pins σ Q w s:=⟨z,H,I,rw',q⟩
 by_cases h0:0≤i
 ·have hj:i.toNat=j:=by
   rw[seqIndex_of h0 h5] at h1
   exact Option.some.inj h1
  exact item_listR pl.isList h0 (by omega) (by rw[hj];simpa using ew) fin hs
 ·have hj:(i+(its.toArray.size:Int)).toNat=j:=by
   rw[seqIndex_neg (by omega) h4] at h1
   rw[List.size_toArray,←hl]
   exact Option.some.inj h1
  exact subscriptTail_builtinR (x:=w) pl.isList.typeIs slot_list_getitem.lookup
   (wpAny_getItem_list_neg (Q:=fun r s'=>r=w∧EP X pins σ Q r s') pl.isList (by omega) (by rw[List.size_toArray]<;>omega) (by omega) (by rw[hj];simpa using ew) ⟨rfl,fin⟩) hs
theorem ix_tup:IxR X (rIxT X.K):=by
 intro value slice pins s σ H x y v u Q I rx ry h hs
 obtain⟨p,xs,i,z,rfl,rfl,hq,he,q⟩:=h
 cases rx
 obtain⟨t,rfl⟩:=ry
 obtain⟨its,r,pl,hz⟩:=I.tuple hq
 obtain⟨j,h1,h2,h3,h4,h5⟩:=atI_get he
 obtain⟨w,ew,rw'⟩:=r.get h2
 have hl:=r.length
 have hn:=line63
 have fin:EP X pins σ Q w s:=⟨z,H,I,rw',q⟩
 exact subscriptTail_builtinR (x:=w) pl.typeIs slot_tuple_getitem.lookup
  (getItem_tuple (j:=j) (Q:=fun r s'=>r=w∧EP X pins σ Q r s') pl (by omega) (by omega) (by rw[List.size_toArray,←hl];exact h1) (by simpa using ew) ⟨rfl,fin⟩) hs
theorem mapSeq_set(its:List Value)(n j:Nat)(u:Value):Obj.mapSeq (·.setIfInBounds j u) { cls:=.type "list",data:=.seq its.toArray n }={ cls:=.type "list",data:=.seq (its.set j u).toArray n }:=by
 simp[Obj.mapSeq]
theorem Inv.lst{pins:List (Addr×Obj)}{σ:St}{H:Hp}{s:Shared}{p:Addr}{xs:List V}(I:Inv X pins σ H s)(h:H p=some (.lst xs)):
 ∃(its:List Value) (n:Nat),Vals xs its∧s.heap.get? p=some { cls:=.type "list",data:=.seq its.toArray n }∧xs.length≤sizeLine:=by
 obtain⟨z,its,n,r,e⟩:=I.hok p _ h
 exact⟨its,n,r,e,z⟩
theorem Inv.lstUpd{pins:List (Addr×Obj)}{σ:St}{H:Hp}{s:Shared}{p:Addr}{xs ys:List V}{its its':List Value}{n n':Nat}{f:Obj→Obj}(I:Inv X pins σ H s)(h:H p=some (.lst xs))
 (ho:s.heap.get? p=some { cls:=.type "list",data:=.seq its.toArray n })(hf:f { cls:=.type "list",data:=.seq its.toArray n }={ cls:=.type "list",data:=.seq its'.toArray n' })(r:Vals ys its')(hz:ys.length≤sizeLine)(t:Nat):
 Inv X pins σ (upd H p (.lst ys)) { s with heap:=s.heap.update p f,toks:=t }:=by
 have e:(s.heap.update p f).get? p=some { cls:=.type "list",data:=.seq its'.toArray n' }:=by
  rw[Heap.get?_update_self f ho (by rw[hf]<;>rfl),hf]
 refine I.write (x:=p) (e:=p) (by rw[h];trivial) (.inl rfl) (fun b u hb q=>(Heap.get?_update_other _ _ (Ne.symm hb)).trans q) ⟨_,e⟩ ?_
 exact⟨hz,its',n',r,e⟩
def rSetL:V→V→V→Hp→(Hp→Prop)→Prop:=fun o i v H Q=>∃p xs k j,o=.ref p∧i=.int k∧H p=some (.lst xs)∧ixN xs.length k=some j∧Q (upd H p (.lst (xs.set j v)))
theorem set_list:PSet X rSetL:=by
 intro pins s σ H o i v ov iv u Q I ro ri rv h
 obtain⟨p,xs,k,j,rfl,rfl,hp,hj,q⟩:=h
 cases ro
 obtain⟨t,rfl⟩:=ri
 obtain⟨its,n,r,ho,hz⟩:=I.lst hp
 obtain⟨h1,h2,h3,h4⟩:=ixN_seq hj
 have hl:=r.length
 have hn:=line63
 have I':Inv X pins σ (upd H p (.lst (xs.set j v))) { s with heap:=s.heap.update p (Obj.mapSeq (·.setIfInBounds j u)) }:=
  I.lstUpd hp ho (mapSeq_set its n j u) (r.set rv j) (by rw[List.length_set];exact hz) s.toks
 by_cases h0:0≤k
 ·have hk:k.toNat=j:=by
   rw[seqIndex_of h0 h4] at h1
   exact Option.some.inj h1
  exact PySem.W.ki_setAt ho h0 (by omega) (by rw[List.size_toArray,←hl];exact h4) (by rw[hk];exact⟨_,I',q⟩)
 ·have hk:(k+(its.toArray.size:Int)).toNat=j:=by
   rw[seqIndex_neg (by omega) h3] at h1
   rw[List.size_toArray,←hl]
   exact Option.some.inj h1
  exact PySem.W.ki_setBack ho (by omega) (by rw[List.size_toArray,←hl];exact h3) (by omega) (by rw[hk];exact⟨_,I',q⟩)
theorem slice_bounds(lo hi:Option Int)(n:Nat):(sliceBounds lo hi none n).1=((HT.sIx n 0 lo:Nat):Int)∧(sliceBounds lo hi none n).2.1=((HT.sIx n n hi:Nat):Int)∧(sliceBounds lo hi none n).2.2=1:=by
 refine⟨?_,?_,rfl⟩
 ·cases lo with
  | none=>simp[sliceBounds,HT.sIx]
  | some i=>
   simp only[sliceBounds,HT.sIx,Option.getD_none,show(1:Int)>0 by decide,if_true]
   by_cases h:i<0
   ·simp only[h,if_true]<;>omega
   ·simp only[h,if_false]<;>omega
 ·cases hi with
  | none=>simp[sliceBounds,HT.sIx]
  | some i=>
   simp only[sliceBounds,HT.sIx,Option.getD_none,show(1:Int)>0 by decide,if_true]
   by_cases h:i<0
   ·simp only[h,if_true]<;>omega
   ·simp only[h,if_false]<;>omega
theorem slicePick_cut(its:List Value)(lo hi:Option Int):slicePick its.toArray lo hi none=((its.drop (HT.sIx its.length 0 lo)).take (HT.sIx its.length its.length hi-HT.sIx its.length 0 lo)).toArray:=by
 obtain⟨h1,h2,h3⟩:=slice_bounds lo hi its.toArray.size
 unfold slicePick
 rw[h1,h2,h3]
 simp only[sliceRange_one,pick_run,List.size_toArray]<;>rfl
def rSlL(K:PySem.W.Frag):V→Option Int→Option Int→Hp→VK→Prop:=fun x lo hi H Q=>∃a xs,x=.ref a∧SqL K H a xs∧∀p,H p=none→Q (.ref p) (upd H p (.lst (cutV xs lo hi)))
theorem sl_list:SlR X (rSlL X.K):=by
 intro pins s σ H x v vl vu lo hi sl Q I rx hs pl pu h
 obtain⟨a,xs,rfl,hx,q⟩:=h
 cases rx
 obtain⟨its,r,ht,hz⟩:=I.list hx
 have hlen:=r.length
 refine⟨"list",_,slot_list_getitem.lookup,ht.isList.typeIs,?_⟩
 refine wpAny_getItem_list_slice ht.isList hs pl pu .none (by simp) ?_ (by rw[List.size_toArray]<;>omega)
 rw[slicePick_cut,←hlen]
 refine⟨.ref s.heap.objs.size,_,I.laid (t':=s.toks) (o:=.lst (cutV xs lo hi)) (fun b ob q=>Heap.get?_push_of_some _ q) (Nat.le_refl _) ?_,rfl,q _ (I.hok.fresh (Nat.le_refl _))⟩
 exact⟨Nat.le_trans (cutV_length xs lo hi) hz,_,0,(r.drop (HT.sIx xs.length 0 lo)).take (HT.sIx xs.length xs.length hi-HT.sIx xs.length 0 lo),Heap.get?_push_size _ rfl⟩
def flatV:V→Bool
 | .non=>true
 | .bl _=>true
 | .int _=>true
 | .str _=>true
 | _=>false
def eqV:V→V→Bool
 | .non,.non=>true
 | .bl a,.bl b=>a==b
 | .bl a,.int b=>(if a then 1 else 0)==b
 | .int a,.bl b=>a==(if b then 1 else 0)
 | .int a,.int b=>a==b
 | .str a,.str b=>a==b
 | _,_=>false
theorem eqAt_V{A:Around}{s:Shared}{y x:V}{u v:Value}(ry:RelV y u)(rx:RelV x v)(fy:flatV y=true)(fx:flatV x=true):SeqAt.EqAt A s u v (eqV y x):=by
 cases y with
 | non=>
  cases ry
  cases x with
  | non=>cases rx;exact SeqAt.EqAt.same _
  | bl b=>cases rx;exact SeqAt.EqAt.none_bool b
  | int b=>obtain⟨t,rfl⟩:=rx;exact SeqAt.EqAt.none_int b t
  | str b=>obtain⟨t,rfl⟩:=rx;exact SeqAt.EqAt.none_str b t
  | _=>exact absurd (show false=true from fx) Bool.false_ne_true
 | bl a=>
  cases ry
  cases x with
  | non=>cases rx;exact SeqAt.EqAt.bool_none a
  | bl b=>cases rx;exact SeqAt.EqAt.bool_bool a b
  | int b=>obtain⟨t,rfl⟩:=rx;exact SeqAt.EqAt.bool_int a b t
  | str b=>obtain⟨t,rfl⟩:=rx;exact SeqAt.EqAt.bool_str a b t
  | _=>exact absurd (show false=true from fx) Bool.false_ne_true
 | int a=>
  obtain⟨t',rfl⟩:=ry
  cases x with
  | non=>cases rx;exact SeqAt.EqAt.int_none a t'
  | bl b=>cases rx;exact SeqAt.EqAt.int_bool a t' b
  | int b=>obtain⟨t,rfl⟩:=rx;exact SeqAt.EqAt.int_int a t' b t
  | str b=>obtain⟨t,rfl⟩:=rx;exact SeqAt.EqAt.int_str a t' b t
  | _=>exact absurd (show false=true from fx) Bool.false_ne_true
 | str a=>
  obtain⟨t',rfl⟩:=ry
  cases x with
  | non=>cases rx;exact SeqAt.EqAt.str_none a t'
  | bl b=>cases rx;exact SeqAt.EqAt.str_bool a t' b
  | int b=>obtain⟨t,rfl⟩:=rx;exact SeqAt.EqAt.str_int a t' b t
  | str b=>obtain⟨t,rfl⟩:=rx;exact SeqAt.EqAt.str_str a t' b t
  | _=>exact absurd (show false=true from fx) Bool.false_ne_true
 | _=>exact absurd (show false=true from fy) Bool.false_ne_true
theorem call_len_seq:CallR X (.builtin "len") (fun xs H Q=>∃p ys,xs=[.ref p]∧(SqL X.K H p ys∨SqT X.K H p ys)∧Q (.int ys.length) H):=by
 intro pins s σ H xs us Q I r h
 obtain⟨p,ys,rfl,hq,q⟩:=h
 obtain⟨u,rfl,rx⟩:=vals1 r
 cases rx
 have hn:=line63
 rcases hq with hq | hq
 ·obtain⟨its,r',pl,hz⟩:=I.list hq
  have hlen:=r'.length
  exact Calls.call_len_list pl.isList (by simp only[List.size_toArray]<;>omega) ⟨.int ys.length,H,I.tok _,⟨s.toks+1,by rw[List.size_toArray,hlen]⟩,q⟩
 ·obtain⟨its,r',pl,hz⟩:=I.tuple hq
  have hlen:=r'.length
  exact len_tuple pl (by simp only[List.size_toArray]<;>omega) ⟨.int ys.length,H,I.tok _,⟨s.toks+1,by rw[List.size_toArray,hlen]⟩,q⟩
theorem call_list_of:CallR X (.type "list") (fun xs H Q=>∃p ys,xs=[.ref p]∧(SqL X.K H p ys∨SqT X.K H p ys)∧∀l,H l=none→Q (.ref l) (upd H l (.lst ys))):=by
 intro pins s σ H xs us Q I r h
 obtain⟨p,ys,rfl,hq,q⟩:=h
 obtain⟨u,rfl,rx⟩:=vals1 r
 cases rx
 have fin:∀(its:List Value),Vals ys its→ys.length≤sizeLine→∀(h':Heap) (c':Nat),(∀b o',s.heap.get? b=some o'→h'.get? b=some o')→
  h'.get? s.heap.objs.size=some { cls:=.type "list",dict:=none,data:=.seq its.toArray c',slots:= #[] }→EP X pins σ Q (.ref s.heap.objs.size) { s with heap:=h' }:=fun its r' hz h' c' kp e=>
  ⟨.ref s.heap.objs.size,_,I.laid (t':=s.toks) kp (Nat.le_refl _) (show ObjOk X.prog X.w _ h' _ (.lst ys) from ⟨hz,its,c',r',e⟩),rfl,q _ (I.hok.fresh (Nat.le_refl _))⟩
 rcases hq with hq | hq
 ·obtain⟨its,r',pl,hz⟩:=I.list hq
  have hlen:=r'.length
  obtain⟨o,ho,hc,n,hd⟩:=pl.isList
  exact call_list_seq p (.inl rfl) ho hc hd (fun h' c' kp e=>fin its r' hz h' c' kp e) (by simp only[List.size_toArray]<;>omega)
 ·obtain⟨its,r',pl,hz⟩:=I.tuple hq
  have hlen:=r'.length
  obtain⟨o,ho,hc,n,hd⟩:=pl
  exact call_list_seq p (.inr rfl) ho hc hd (fun h' c' kp e=>fin its r' hz h' c' kp e) (by simp only[List.size_toArray]<;>omega)
theorem call_tuple_of:CallR X (.type "tuple") (fun xs H Q=>∃p ys,xs=[.ref p]∧((SqL X.K H p ys∧∀l,H l=none→Q (.ref l) (upd H l (.tup ys)))∨(SqT X.K H p ys∧Q (.ref p) H))):=by
 intro pins s σ H xs us Q I r h
 obtain⟨p,ys,rfl,h⟩:=h
 obtain⟨u,rfl,rx⟩:=vals1 r
 cases rx
 rcases h with ⟨hq,q⟩ | ⟨hq,q⟩
 ·obtain⟨its,r',pl,hz⟩:=I.list hq
  have hlen:=r'.length
  refine call_tuple_list pl.isList (fun h' kp=>?_) (by simp only[List.size_toArray]<;>omega)
  have I1:Inv X pins σ H { s with heap:=h' }:=I.kept (t':=s.toks) kp
  have I2:Inv X pins σ (upd H h'.objs.size (.tup ys)) { s with heap:=h'.push { cls:=.type "tuple",data:=.seq its.toArray } }:=
   I1.laid (t':=s.toks) (fun b o e=>Heap.get?_push_of_some _ e) (Nat.le_refl _) (show ObjOk X.prog X.w _ _ _ (.tup ys) from ⟨hz,its,r',IsTup.new _ _⟩)
  exact⟨.ref h'.objs.size,_,I2,rfl,q _ (I1.hok.fresh (Nat.le_refl _))⟩
 ·obtain⟨its,r',pl,hz⟩:=I.tuple hq
  exact call_tuple_same pl ⟨.ref p,H,I,rfl,q⟩
def tyV(K:PySem.W.Frag)(T:String)(x:V)(H:Hp):Prop:=match x with
 | .str _=>T="str"
 | .int _=>T="int"
 | .ref p=>(T="list"∧∃xs,SqL K H p xs)∨(T="tuple"∧∃o,K.lookup p=some o∧o.cls=.type "tuple"∧o.dict=none)∨
  (T="dict"∧((∃kvs,H p=some (.dK kvs))∨∃kvs,H p=some (.dT kvs)))∨(T="set"∧∃S n,H p=some (.set S n))
 | _=>False
theorem tyV_is{pins:List (Addr×Obj)}{σ:St}{H:Hp}{s:Shared}{T:String}{x:V}{v:Value}(I:Inv X pins σ H s)(r:RelV x v)(ty:tyV X.K T x H):
 s.TypeIs v T∧∀a,v=.ref a→∃ob,s.heap.get? a=some ob∧ob.dict=none:=by
 cases x with
 | str z=>
  obtain⟨t,rfl⟩:=r
  cases (show T="str" from ty)
  exact⟨typeIs_str s z t,fun _ e=>nomatch e⟩
 | int i=>
  obtain⟨t,rfl⟩:=r
  cases (show T="int" from ty)
  exact⟨typeIs_int s i t,fun _ e=>nomatch e⟩
 | ref p=>
  cases r
  rcases ty with ⟨rfl,xs,hq⟩ | ⟨rfl,o,hk,hc,hd⟩ | ⟨rfl,hk⟩ | ⟨rfl,S,n,hk⟩
  ·obtain⟨its,_,pl,_⟩:=I.list hq
   refine⟨pl.isList.typeIs,fun a e=>?_⟩
   cases e
   obtain⟨o,n,e,c,hd,_⟩:=pl
   exact⟨o,e,hd⟩
  ·refine⟨⟨o,I.kIn p o hk,hc⟩,fun a e=>?_⟩
   cases e
   exact⟨o,I.kIn _ o hk,hd⟩
  ·have z:∃o,s.heap.get? p=some o∧o.ExactDict:=by
    rcases hk with ⟨kvs,hk⟩ | ⟨kvs,hk⟩
    ·obtain⟨_,_,_,_,o,_,_,e,ex,_⟩:=I.hok p _ hk
     exact⟨o,e,ex⟩
    ·obtain⟨_,_,_,_,o,_,_,e,ex,_⟩:=I.hok p _ hk
     exact⟨o,e,ex⟩
   obtain⟨o,e,ex⟩:=z
   refine⟨⟨o,e,ex.1⟩,fun a e2=>?_⟩
   cases e2
   exact⟨o,e,ex.2.1⟩
  ·obtain⟨o,_,_,_,e,ex,_⟩:=I.hok p _ hk
   refine⟨⟨o,e,ex.1⟩,fun a e2=>?_⟩
   cases e2
   exact⟨o,e,ex.2.1⟩
 | _=>exact False.elim ty
def tBM0(K:PySem.W.Frag)(T:String)(r:V→List V→Hp→VK→Prop)(to:TE):TE:=fun σ H Q=>to σ H fun x H1=>tyV K T x H1∧r x [] H1 Q
def tBM(K:PySem.W.Frag)(T:String)(r:V→List V→Hp→VK→Prop)(to:TE)(t:TA):TE:=fun σ H Q=>to σ H fun x H1=>tyV K T x H1∧t σ H1 fun xs H2=>r x xs H2 Q
variable{o e:Expr}{es:List Expr}{to:TE}{t:TA}{name:Str}{apos cpos:Pos}{T id:String}{r:V→List V→Hp→VK→Prop}
theorem pe_bm0(pa:PlainAttrs T)(slot:Slot T name id)(hty:typeOf (.builtin id)=pure (.type "method_descriptor"))(hm:MtR X id r)(ho:PE X o to)
 (hbase:attributeBase o name X.env (eval o X.env)=eval o X.env:=by rfl)(hline:(apos.endLine==cpos.line)=true:=by rfl):PE X (.Call (.Attribute o name apos) [] [] cpos) (tBM0 X.K T r to):=by
 intro pins s σ H Q I h
 refine wpAny_Call_method0_late hbase hline (thn (ho pins s σ H _ I h) fun v s1 ⟨x,H1,I1,r1,ty,q1⟩=>?_)
 obtain⟨h1,h2⟩:=tyV_is I1 r1 ty
 exact⟨T,id,pa,slot,hty,h1,h2,Calls.callWith_builtin rfl (PySem.evalArgs_none (hm pins s1 σ H1 x [] v [] Q I1 r1 .nil q1))⟩
theorem pe_bm(pa:PlainAttrs T)(slot:Slot T name id)(hty:typeOf (.builtin id)=pure (.type "method_descriptor"))(hm:MtR X id r)(ho:PE X o to)(ha:PA X (e::es) t)
 (hbase:attributeBase o name X.env (eval o X.env)=eval o X.env:=by rfl)
 (hfew:((backTo cpos (starEach (e::es) X.env)).all (fun x=>!x.1)&&(backToKw cpos (keywordEach [] X.env)).all (fun x=>x.1.isSome)
  &&decide ((e::es).length+([]:List Keyword).length+(if ([]:List Keyword).isEmpty then 0 else 1)<30))=true:=by rfl)
 (hline:(apos.endLine==cpos.line)=true:=by rfl)(hs:starEach (e::es) X.env=(false,eval e X.env)::starEach es X.env:=by rfl)(hplain:(backTo cpos (starEach es X.env)).any (·.1)=false:=by rfl):
 PE X (.Call (.Attribute o name apos) (e::es) [] cpos) (tBM X.K T r to t):=by
 intro pins s σ H Q I h
 refine wpAny_Call_method_late hbase hfew hline rfl (thn (ho pins s σ H _ I h) fun v s1 ⟨x,H1,I1,r1,ty,q1⟩=>?_)
 obtain⟨h1,h2⟩:=tyV_is I1 r1 ty
 refine⟨T,id,pa,slot,hty,h1,h2,?_⟩
 have hA:=ha cpos pins s1 σ H1 _ I1 q1
 rw[hs] at hA ⊢
 refine Calls.callWith_builtin (by show(false||(backTo cpos (starEach es X.env)).any (·.1))=false;rw[hplain]<;>rfl) (Calls.evalArgs_plain ?_)
 exact thn hA fun us s2 ⟨vs,H2,I2,r2,q2⟩=>hm pins s2 σ H2 x vs v us Q I2 r1 r2 q2
end
end L2
namespace L2
open PySem PySem.Spec PyProof.Rows
def MtM(X:Cx)(id:String)(r:V→List V→Hp→VK→Prop):Prop:=
 ∀(pins:List (Addr×Obj)) (s:Shared) (σ:St) (H:Hp) (x:V) (xs:List V) (v:Value) (us:List Value) (Q:VK),Inv X pins σ H s→RelV x v→Vals xs us→r x xs H Q→
  wpAny (model X.prog X.w) X.A (call (.builtin id) (v::us)) (EP X pins σ Q) X.xe s
theorem Vals.one:∀{x:V} {us:List Value},Vals [x] us→∃u,us=[u]∧RelV x u
 | _,_,.cons r .nil=>⟨_,rfl,r⟩
theorem Vals.zero:∀{us:List Value},Vals [] us→us=[]
 | _,.nil=>rfl
theorem Vals.rep{xs:List V}{us:List Value}(h:Vals xs us):∀k:Nat,Vals (List.replicate k xs).flatten (List.replicate k us).flatten
 | 0=>.nil
 | k+1=>by
  rw[List.replicate_succ,List.replicate_succ,List.flatten_cons,List.flatten_cons]
  exact Vals.append h (Vals.rep h k)
theorem foldl_rep(its:List Value):∀(k:Nat) (acc:List Value),
 List.foldl (fun x1 x2=>x1++x2) acc.toArray (List.replicate k its.toArray)=(acc++(List.replicate k its).flatten).toArray
 | 0,acc=>by simp
 | k+1,acc=>by
  have e:acc.toArray++its.toArray=(acc++its).toArray:=by simp
  have e2:(acc++its)++(List.replicate k its).flatten=acc++(List.replicate (k+1) its).flatten:=by
   rw[List.replicate_succ,List.flatten_cons,List.append_assoc]
  rw[←e2,←foldl_rep its k (acc++its),←e,List.replicate_succ,List.foldl_cons]
section
variable{X:Cx}{pins:List (Addr×Obj)}{σ:St}{H:Hp}{s:Shared}{l b:Addr}{xs ys zs:List V}
theorem Inv.lset{its its':List Value}{n:Nat}{f:Array Value→Array Value}{t':Nat}(I:Inv X pins σ H s)(hH:H l=some (.lst xs))
 (e:s.heap.get? l=some { cls:=.type "list",data:=.seq its.toArray n })(hf:f its.toArray=its'.toArray)(hv:Vals ys its')(hz:ys.length≤sizeLine):
 Inv X pins σ (upd H l (.lst ys)) { s with heap:=s.heap.update l (Obj.mapSeq f),toks:=t' }:=by
 have q:=PySem.IsL.update e f
 rw[hf] at q
 refine I.write (x:=l) (e:=l) (by rw[hH];exact trivial) (.inl rfl) (fun b' u hb hu=>(Heap.get?_update_other s.heap (Obj.mapSeq f) (Ne.symm hb)).trans hu) ⟨_,q⟩ ?_
 exact⟨hz,its',_,hv,q⟩
theorem Inv.lnew{its:List Value}{t':Nat}(I:Inv X pins σ H s)(hv:Vals ys its)(hz:ys.length≤sizeLine):
 Inv X pins σ (upd H s.heap.objs.size (.lst ys)) { s with heap:=s.heap.push { cls:=.type "list",data:=.seq its.toArray },toks:=t' }:=
 I.laid (fun _ _ q=>Heap.get?_push_of_some _ q) (Nat.le_refl _) ⟨hz,its,0,hv,Heap.get?_push_size _ rfl⟩
theorem Inv.fresh(I:Inv X pins σ H s):H s.heap.objs.size=none:=I.hok.fresh (Nat.le_refl _)
theorem Inv.lstM(I:Inv X pins σ H s)(hH:H l=some (.lst xs)):xs.length≤sizeLine∧∃(its:List Value) (n:Nat),Vals xs its∧xs.length=its.length∧s.heap.get? l=some { cls:=.type "list",data:=.seq its.toArray n }:=by
 obtain⟨z,its,n,r,e⟩:=I.hok l _ hH
 exact⟨z,its,n,r,r.length,e⟩
theorem notLongL{n:Nat}(h:n≤sizeLine):Builtin.List.listTooLong n=false:=by
 unfold Builtin.List.listTooLong
 exact decide_eq_false (by omega)
end
section
variable{X:Cx}
def rAppend:V→List V→Hp→VK→Prop:=fun x vs H Q=>∃l xs y,x=.ref l∧vs=[y]∧H l=some (.lst xs)∧xs.length<sizeLine∧Q .non (upd H l (.lst (xs++[y])))
theorem mt_append:MtM X "list.append" rAppend:=by
 intro pins s σ H x vs v us Q I rx rv h
 obtain⟨l,xs,y,rfl,rfl,hH,hz,q⟩:=h
 cases rx
 obtain⟨u,rfl,ru⟩:=rv.one
 obtain⟨z,its,n,r,hl,e⟩:=I.lstM hH
 refine call_meets F.slot_list_append ⟨_,e,rfl⟩ F.entry_list_append (F.args_list_append_2 _ _) (PySem.list_append l its.toArray n u (by rw[List.size_toArray];omega)) ⟨e,?_⟩
 refine⟨.non,_,I.lset (its':=its++[u]) hH e (by simp) (r.append (.cons ru .nil)) ?_,rfl,q⟩
 rw[List.length_append,List.length_singleton]
 omega
def rExtend:V→List V→Hp→VK→Prop:=fun x vs H Q=>∃l b xs zs,x=.ref l∧vs=[.ref b]∧H l=some (.lst xs)∧H b=some (.lst zs)∧xs.length+zs.length≤sizeLine∧Q .non (upd H l (.lst (xs++zs)))
theorem mt_extend:MtM X "list.extend" rExtend:=by
 intro pins s σ H x vs v us Q I rx rv h
 obtain⟨l,b,xs,zs,rfl,rfl,hH,hB,hz,q⟩:=h
 cases rx
 obtain⟨u,rfl,ru⟩:=rv.one
 cases ru
 obtain⟨z,its,n,r,hl,e⟩:=I.lstM hH
 obtain⟨z2,its2,n2,r2,hl2,e2⟩:=I.lstM hB
 have hsz:its.toArray.size+its2.toArray.size≤sizeLine:=by rw[List.size_toArray,List.size_toArray];omega
 have hlong:¬(!its.toArray.isEmpty&&Builtin.List.listTooLong (its.toArray.size+its2.toArray.size))=true:=by
  rw[notLongL hsz,Bool.and_false]
  exact Bool.false_ne_true
 refine call_meets F.slot_list_extend ⟨_,e,rfl⟩ F.entry_list_extend (F.args_list_extend_2 _ _)
  (AutoSeq1.list_extend_list_list_0 l its.toArray n b its2.toArray n2 hlong (by rw[List.size_toArray];omega) (by omega)) ⟨e,e2,?_⟩
 refine⟨.non,_,I.lset (its':=its++its2) hH e (by simp) (r.append r2) ?_,rfl,q⟩
 rw[List.length_append]
 omega
def rCat:R2:=fun x y H Q=>∃l b xs zs,x=.ref l∧y=.ref b∧H l=some (.lst xs)∧H b=some (.lst zs)∧xs.length+zs.length≤sizeLine∧∀p,H p=none→Q (.ref p) (upd H p (.lst (xs++zs)))
theorem op_cat:OpR X (binaryOp .Add) rCat:=by
 intro pins s σ H x y v u Q I rx ry h
 obtain⟨l,b,xs,zs,rfl,rfl,hH,hB,hz,q⟩:=h
 cases rx
 cases ry
 obtain⟨z,its,n,r,hl,e⟩:=I.lstM hH
 obtain⟨z2,its2,n2,r2,hl2,e2⟩:=I.lstM hB
 refine PySem.P.add_list e e2 ?_ (by rw[List.size_toArray,List.size_toArray];omega)
 have ea:its.toArray++its2.toArray=(its++its2).toArray:=by simp
 rw[ea]
 exact⟨.ref _,_,I.lnew (t':=s.toks) (r.append r2) (by rw[List.length_append];omega),rfl,q _ I.fresh⟩
def rRep:R2:=fun x y H Q=>∃l k xs,x=.ref l∧y=.int k∧H l=some (.lst xs)∧ -(2^63)≤k∧k<2^63∧xs.length*k.toNat≤sizeLine∧
 ∀p,H p=none→Q (.ref p) (upd H p (.lst (List.replicate k.toNat xs).flatten))
theorem len_rep{α:Type}(xs:List α)(k:Nat):(List.replicate k xs).flatten.length=k*xs.length:=by
 induction k with
 | zero=>simp
 | succ k ih=>rw[List.replicate_succ,List.flatten_cons,List.length_append,ih,Nat.succ_mul,Nat.add_comm]
theorem op_rep:OpR X (binaryOp .Mult) rRep:=by
 intro pins s σ H x y v u Q I rx ry h
 obtain⟨l,k,xs,rfl,rfl,hH,h1,h2,hz,q⟩:=h
 cases rx
 obtain⟨t,rfl⟩:=ry
 obtain⟨z,its,n,r,hl,e⟩:=I.lstM hH
 have hlen:its.toArray.size*k.toNat≤sizeLine:=by rw[List.size_toArray,←hl];exact hz
 have hcap:¬its.toArray.size*k.toNat>(2^63-1)/8:=by
  have:(sizeLine:Nat)≤(2^63-1)/8:=by decide
  omega
 have hfit:¬(!Builtin.List.listFitsIndex k)=true:=by
  rw[fitsIndex_both h1 h2]
  exact Bool.false_ne_true
 have hlong:¬Builtin.List.listTooLong (its.toArray.size*k.toNat)=true:=by
  rw[notLongL hlen]
  exact Bool.false_ne_true
 have hnew:List.foldl (fun x1 x2=>x1++x2) #[] (List.replicate (if its.toArray.isEmpty=true then 0 else k.toNat) its.toArray)=(List.replicate k.toNat its).flatten.toArray:=by
  have f0:∀m:Nat,List.foldl (fun x1 x2=>x1++x2) #[] (List.replicate m its.toArray)=(List.replicate m its).flatten.toArray:=fun m=>by
   have:=foldl_rep its m []
   rw[List.nil_append] at this
   exact this
  rw[f0]
  cases its with
  | nil=>simp
  | cons a r'=>rw[if_neg (by simp)]
 refine wpAny_binaryOp_repeat_ref (T:="list") (U:="int") (by decide) ⟨_,e,rfl⟩ (fun s'=>typeIs_int s' k t) noFill_list_mul F.fills_int_mul F.slot_int_rmul repeat_list F.slot_int_index.lookup
  (call_meets F.slot_int_rmul (typeIs_int s k t) F.entry_int_rmul (F.args_int_rmul_2 _ _) (int___rmul___int_list k t l its.toArray n)
   ⟨e,rfl,⟨_,e,rfl⟩,call_meets F.slot_list_mul ⟨_,e,rfl⟩ F.entry_list_mul (F.args_list_mul_2 _ _) (AutoListH.list___mul___list_int_3 l its.toArray n k t hfit hcap hlong) ⟨e,?_⟩⟩)
 rw[hnew]
 exact⟨.ref _,_,I.lnew (t':=s.toks) (r.rep k.toNat) (by rw[len_rep,Nat.mul_comm];exact hz),rfl,q _ I.fresh⟩
end
section
variable{prog:Program}{w:World}{A:Around}{E:Value→Shared→Prop}{s:Shared}
end
section
variable{X:Cx}
end
end L2
namespace Att
open PySem PySem.W PySem.Calls PyProof.Rows
theorem ints_of_wellAll{P:Params}{h:Heap}:∀(ns:List Int) (vs:List Value),WellAll P h vs (ns.map WData.int)→IntsAre vs ns:=by
 intro ns
 induction ns with
 | nil=>
  intro vs w
  rw[List.map_nil] at w
  cases w
  exact .nil
 | cons n ns ih=>
  intro vs w
  rw[List.map_cons] at w
  cases w with
  | cons a b=>
   cases a
   exact .cons _ _ (ih _ b)
theorem script_of{l:OpenLaw}{n:Nat}(hn:l.most=some n){P:Params}{h:Heap}{args:List WData}{vals:List Value}
 (hpre:l.row.toRowW.claim.pre args=true)(hwl:WellAll P h vals args):
 ∃a vs ns,vals=[Value.ref a]∧args=[WData.list (ns.map WData.int)]∧h.get? a=some { cls:=.type "list",data:=.seq vs.toArray }∧IntsAre vs ns∧ns.length≤n:=by
 have hsh:WShape.hasAll [] args [.list .int]=true:=(pre_splitW hpre).1
 have hc:l.pre.holds [] { args:=args }=true:=(pre_splitW hpre).2
 obtain⟨d,r,rfl,h1,h2⟩:=hasAllW_cons hsh
 obtain rfl:=hasAllW_nil h2
 obtain⟨xs,rfl,h3⟩:=hasW_list h1
 obtain⟨ns,rfl⟩:=items_int h3
 have hlen:ns.length≤n:=by
  unfold OpenLaw.pre at hc
  have h4:(WTm.not (.lt (.lit (.int (n:Int))) (.len (.arg 0)))).holds [] { args:=[.list (ns.map .int)] }=true:=by
   have h4:=(holds_andW hc).1
   rw[hn] at h4
   exact h4
  have h5:=condW_of h4 (w_not (w_lt w_lit (w_len_list (w_arg rfl))))
  rw[List.length_map] at h5
  refine Nat.le_of_not_lt fun q=>?_
  have q':(n:Int)<((ns.length:Nat):Int):=by omega
  first
   | (rw [decide_eq_true q'] at h5;exact absurd h5 (by decide))
   | (simp at h5;omega)
 cases hwl with
 | cons w1 w2=>
  cases w2
  cases w1 with
  | list ho hall=>exact⟨_,_,ns,rfl,rfl,ho,ints_of_wellAll ns _ hall,hlen⟩
theorem post_true(l:OpenLaw)(args:List WData):l.row.toRowW.claim.post args (.bool true) args=true:=
 postW_of (r:=l.row.toRowW) (X:=(true==true))
  (show WShape.has [] (.bool true) .bool=true by first | rfl | decide | simp[WShape.has,WShape.arms,WShape.armsAll])
  (show (WTm.eq .res (.lit (.bool true))).value [] { args:=args,res:=some (.bool true),after:=args }=some (.bool (true==true)) from w_eq_bool (w_res rfl) w_lit) rfl
section
variable{prog:Program}{w:World}{A:Around}{E:Value→Shared→Prop}{s:Shared}{K:Frag}
end
end Att
namespace L2
open PySem PySem.Spec PyProof.Rows
theorem vals_ints:∀{vs:List Value} {ns:List Int},IntsAre vs ns→Vals (ns.map V.int) vs
 | _,_,.nil=>.nil
 | _,_,.cons n t h=>.cons ⟨t,rfl⟩ (vals_ints h)
def Only(H:Hp):Prop:=∀b,H b=none∨∃o xs,H b=some (.frz o (.lst xs))
theorem law_call{P:Program}{w:World}{K:PySem.W.Frag}{mg mb:Str→Option Value}{CX:CXT}{k:Nat}{fa a:Addr}{fd:FuncData}{x:Str}{sp:Sp}{s₁:Shared}{vs:List Value}{ns:List Int}
 (KX:K.In s₁.heap)(hns:s₁.heap.Ns mainGlobals mg)(hb:s₁.heap.Ns builtinsNs mb)(hbb:∀x:Str,x≠"__name__"→mb x=bootBuiltins x)(hlim:s₁.heap.NoLimit)(hg:s₁.gens= #[])
 (ha:s₁.heap.get? a=some { cls:=.type "list",data:=.seq vs.toArray })(hi:IntsAre vs ns)(hl:ns.length≤sizeLine)(hr:Room k callerA)
 (F:∀base:Heap,K.In base→base.Ns mainGlobals mg→FnOk P w K mg base CX k fa fd [x] sp)(hbind:∀(s:Shared) (u:Value),BindsTo s fd ⟨[u],[]⟩ [(x,u)])
 (hsp:∀H:Hp,Only H→SqL K H a (ns.map V.int)→sp [.ref a] H (fun v _=>v=.bl true) fun _ _ _=>False)
 (hCX:∀H e s',CX [] H s₁ (fun _ _ _=>False) e s'→False):
 codeAny (model P w) callerA (.call (.ref fa) ⟨[.ref a],[]⟩) (fun r s'=>r=.ok (.ret (.bool true))∧OldK s₁.heap s'.heap∧s'.os=s₁.os∧AllBare s'.gens) s₁:=by
 have rv:=vals_ints hi
 have lenV:=hi.length
 have core:∀H:Hp,Only H→SqL K H a (ns.map V.int)→HOk P w H s₁.heap→(∀b,H b≠none→b=a)→(H a≠none→K.lookup a=none)→
  codeAny (model P w) callerA (.call (.ref fa) ⟨[.ref a],[]⟩) (fun r s'=>r=.ok (.ret (.bool true))∧OldK s₁.heap s'.heap∧s'.os=s₁.os∧AllBare s'.gens) s₁:=by
  intro H hO hS hok hA hK
  have base_of:∀{b:Addr} {o:Obj},s₁.heap.get? b=some o→H b=none→(hidT s₁.heap H).get? b=some o:=fun e n=>hidT_get e n
  have noA:∀{b:Addr} {o:Obj} {es:Array DictEntry} {ep:Nat},s₁.heap.get? b=some o→o.data=.dict es ep→H b=none:=fun{b o es ep} e d=>by
   cases q:H b with
   | none=>rfl
   | some u=>
    have e':b=a:=hA b (by rw[q];simp)
    subst e'
    rw[ha] at e;cases e
    have d':Data.seq vs.toArray _=Data.dict es ep:=d
    cases d'
  have nsK:∀{b:Addr} {m:Str→Option Value},s₁.heap.Ns b m→(hidT s₁.heap H).Ns b m:=fun{b m} ⟨o,es,ep,e,d,r⟩=>⟨o,es,ep,base_of e (noA e d),d,r⟩
  have hKb:K.In (hidT s₁.heap H):=fun b o e=>base_of (KX b o e) (by
   cases q:H b with
   | none=>rfl
   | some u=>
    have e':b=a:=hA b (by rw[q];simp)
    subst e'
    rw[hK (by rw[q];simp)] at e;cases e)
  have hM:Mod K mg (hidT s₁.heap H):=⟨hKb,nsK hns,⟨mb,nsK hb,hbb⟩,let ⟨mc,h1,h2⟩:=hlim;⟨mc,nsK h1,h2⟩⟩
  have e0:Env0 P w K mg (hidT s₁.heap H) callerA [] s₁ H:=⟨rfl,hM,fun b o e=>of_hidT e,Nat.le_of_eq (hidT_size _ _),trivial,fun b hb=>absurd (show b∈([]:List Addr) from hb) (by simp),hok,.of_eq hg⟩
  refine codeAny_mono ((F _ hKb (nsK hns)).run callerA [] s₁ H ⟨[.ref a],[]⟩ [.ref a] [.ref a] _ _ hr e0 (hbind s₁ (.ref a)) (.cons rfl .nil) (hsp H hO hS)) fun r s' h=>?_
  cases r with
  | error e=>exact(hCX H e s' h).elim
  | ok fl=>
   cases fl with
   | next=>exact False.elim h
   | brk=>exact False.elim h
   | cont=>exact False.elim h
   | ret u=>
    obtain⟨v,H',os,bare,un,hok',r',q⟩:=h
    have q':v=.bl true:=q
    subst q'
    obtain rfl:u=Value.bool true:=r'
    refine⟨rfl,OldK.of_keep fun b o e=>?_,os,bare⟩
    cases q:H b with
    | none=>exact un.keep b o e q (by intro z;exact absurd (show b∈([]:List Addr) from z) (by simp)) (by simp)
    | some u=>
     rcases hO b with z | ⟨ob,xs,z⟩
     ·rw[q] at z;cases z
     ·have z2:=un.frzs b ob _ z
      obtain⟨e1,_⟩:=hok b _ z
      obtain⟨e2,_⟩:=hok' b _ z2
      rw[e] at e1;cases e1
      exact e2
 cases hk:K.lookup a with
 | some o=>
  have e:=KX a o hk
  rw[ha] at e
  cases e
  refine core (fun _=>none) (fun _=>.inl rfl) (.inr ⟨_,vs.toArray,_,hk,rfl,rfl,rfl,by rw[List.size_toArray,lenV];exact hl,by simpa using rv⟩) (fun b u z=>by have z':(none:Option HO)=some u:=z;cases z') (fun b z=>absurd rfl z) fun z=>absurd rfl z
 | none=>
  refine core (fun b=>if b=a then some (.frz { cls:=.type "list",data:=.seq vs.toArray } (.lst (ns.map V.int))) else none) (fun b=>?_) (.inl (.inr ⟨{ cls:=.type "list",data:=.seq vs.toArray },if_pos rfl⟩)) (fun b u z=>?_) (fun b z=>?_) fun _=>hk
  ·by_cases hb:b=a
   ·exact .inr ⟨_,_,if_pos hb⟩
   ·exact .inl (if_neg hb)
  ·by_cases hb:b=a
   ·have z':=(if_pos hb).symm.trans z
    cases z'
    subst hb
    exact⟨ha,by rw[List.length_map];exact hl,vs,_,rv,ha⟩
   ·have z':=(if_neg hb).symm.trans z
    cases z'
  ·by_cases hb:b=a
   ·exact hb
   ·exact absurd (if_neg hb) z
end L2
namespace L2
open PySem PySem.Spec PyProof.Rows
abbrev KOf{K:PySem.W.Frag}{h:Heap}(_:K.In h):PySem.W.Frag:=K
end L2
namespace L2
open PySem PySem.Spec PyProof.Rows
def inClass(s:Stmt)(j:Nat):Stmt:=match s with
 | .ClassDef _ _ _ body _ _ _ _ _ _ _=>body.getD j (.Pass ⟨0,0,0,0⟩)
 | _=>.Pass ⟨0,0,0,0⟩
def defArgs(s:Stmt):Arguments:=match s with
 | .FunctionDef _ a _ _ _ _ _ _ _ _=>a
 | _=>{ posonlyargs:=[],args:=[],vararg:=none,kwonlyargs:=[],kw_defaults:=[],kwarg:=none,defaults:=[] }
def defBody(s:Stmt):List Stmt:=match s with
 | .FunctionDef _ _ b _ _ _ _ _ _ _=>b
 | _=>[]
def defScope(s:Stmt):Scope:=match s with
 | .FunctionDef _ _ _ _ _ _ sc _ _ _=>sc
 | _=>{ kind:=.function,names:=[],isGenerator:=false,isCoroutine:=false }
abbrev CX0:CXT:=fun _ _ _ _ _ _=>False
abbrev E0:XK:=fun _ _ _=>False
theorem pass0{X:Cx}:Passes CX0 X E0:=fun _ _ _ _ _ _ _ h=>h.elim
structure Fun(K:PySem.W.Frag)(x qual:Str)(st:Stmt)(f:Addr)(fd:FuncData):Prop where
 ex:∃(oc:Value) (od:Option Addr) (kV doc pm:Value) (an:Option Addr) (cdv ct:Value) (osl:Array (Option Value)),
  fd=PySem.W.fnOf x qual (defArgs st) (defBody st) (defScope st) .none kV doc pm an cdv ct∧K.lookup f=some ⟨oc,od,.func fd,osl⟩∧PySem.W.codeIn K cdv qual=true
 kp:PySem.W.keepIn K (.ref f)=true
section
variable{P:Program}{w:World}{K:PySem.W.Frag}{mg:Str→Option Value}{base:Heap}
theorem Fun.ok{x qual:Str}{st:Stmt}{f:Addr}{fd:FuncData}{N ps:List Str}{k:Nat}{sp:Sp}(F:Fun K x qual st f fd)(S:FnScope N ps (defScope st))(len:∀vs H Q E,sp vs H Q E→vs.length=ps.length)
 (hbody:∀(cdv:Value) (A:Around) (outer:List Env) (s:Shared) (H:Hp) (vs:List V) (Q:VK) (E:XK),Room k (A.deeper (envOfC qual (defScope st) s.heap.objs.size f cdv))→sp vs H Q E→
  ∃t,PSs (cxOf CX0 P w K mg base N qual (defScope st) f cdv A outer s H E).nox (defBody st) t∧t { nx:=fun _ H'=>Q .non H',rt:=Q } (start N vs) H):FnOk P w K mg base CX0 (k+1) f fd ps sp:=by
 obtain⟨oc,od,kV,doc,pm,an,cdv,ct,osl,rfl,lk,hcd⟩:=F.ex
 refine fn_of lk hcd S len fun A outer s H vs Q E hr hsp=>?_
 obtain⟨t,h,q⟩:=hbody cdv A outer s H vs Q E hr hsp
 exact⟨t,h.nox,q⟩
theorem Fun.binds{x qual:Str}{st:Stmt}{f:Addr}{fd:FuncData}{ps:List Str}(F:Fun K x qual st f fd)
 (h:∀(kV doc pm:Value) (an:Option Addr) (cdv ct:Value) (us:List Value),us.length=ps.length→bindArgs (PySem.W.fnOf x qual (defArgs st) (defBody st) (defScope st) .none kV doc pm an cdv ct) ⟨us,[]⟩=pure (ps.zip us)):Binds K fd ps []:=by
 obtain⟨oc,od,kV,doc,pm,an,cdv,ct,osl,rfl,lk,hcd⟩:=F.ex
 exact .all (h kV doc pm an cdv ct)
theorem fun_mk{x qual:Str}{st:Stmt}{f:Addr}{oc:Value}{od an:Option Addr}{osl:Array (Option Value)}{kV doc pm cdv ct:Value}(l:K.lookup f=some ⟨oc,od,.func (PySem.W.fnOf x qual (defArgs st) (defBody st) (defScope st) .none kV doc pm an cdv ct),osl⟩)
 (c:PySem.W.codeIn K cdv qual=true)(k:PySem.W.keepIn K (.ref f)=true):Fun K x qual st f (PySem.W.fnOf x qual (defArgs st) (defBody st) (defScope st) .none kV doc pm an cdv ct):=⟨⟨oc,od,kV,doc,pm,an,cdv,ct,osl,rfl,l,c⟩,k⟩
end
theorem small1000{n:Nat}(h:n≤1000):n<sizeLine:=Nat.lt_of_le_of_lt h (by decide)
section
variable{X:Cx}
theorem pv(i:Nat){x:Str}{pos:Pos}(hN:X.N[i]?=some x:=by rfl)(hv:Vis X.env.scope x:=by first | exact Or.inl rfl | exact Or.inr (Or.inl rfl) | exact Or.inr (Or.inr rfl))(hd:(x==("__debug__":Str))=false:=by decide)
 (hcd:(x==("__classdict__":Str))=false:=by decide):PE X (.Name x pos) (tVar i):=pe_var hN hv hd hcd
end
theorem iteF{A B:Prop}(h:B):if false=true then A else B:=by
 rw[if_neg Bool.false_ne_true]
 exact h
theorem iteT{A B:Prop}(h:A):if true=true then A else B:=by
 rw[if_pos rfl]
 exact h
theorem iteNS{c A B:Prop}[Decidable c](hc:c)(h:B):if (!decide c)=true then A else B:=by
 rw[decide_eq_true hc]
 exact iteF h
def Same(H H':Hp):Prop:=∀b o,H b=some o→H' b=some o
theorem Same.refl(H:Hp):Same H H:=fun _ _ h=>h
theorem Same.trans{H H1 H2:Hp}(a:Same H H1)(b:Same H1 H2):Same H H2:=fun c o h=>b c o (a c o h)
theorem Same.free{H H':Hp}(e:Same H H'){l:Addr}(h:H' l=Option.none):H l=Option.none:=by
 cases q:H l with
 | none=>rfl
 | some o=>
  rw[e l o q] at h
  cases h
theorem Same.seq{K:PySem.W.Frag}{H H':Hp}{a:Addr}{xs:List V}(e:Same H H')(h:SqL K H a xs):SqL K H' a xs:=by
 rcases h with (h | ⟨o,h⟩) | h
 ·exact .inl (.inl (e _ _ h))
 ·exact .inl (.inr ⟨o,e _ _ h⟩)
 ·exact .inr h
end L2
set_option Elab.async false
set_option linter.all false
set_option maxRecDepth 100000
set_option maxHeartbeats 4000000
namespace L2
open PySem PySem.Spec PyProof.Rows
def Bt(k:Nat)(x:Int):Prop:=x.natAbs<2^k
theorem Bt.bits{k:Nat}{x:Int}(h:Bt k x):Builtin.Int.intBits x≤k:=PySem.intBits_le_iff.mpr h
theorem Bt.mono{k m:Nat}{x:Int}(h:Bt k x)(l:k≤m):Bt m x:=Nat.lt_of_lt_of_le h (Nat.pow_le_pow_right (by decide) l)
theorem Bt.le{k:Nat}{x y:Int}(h:Bt k y)(l:x.natAbs≤y.natAbs):Bt k x:=Nat.lt_of_le_of_lt l h
theorem Bt.mul{k m:Nat}{x y:Int}(h:Bt k x)(g:Bt m y):Bt (k+m) (x*y):=by
 unfold Bt at*
 rw[Int.natAbs_mul,Nat.pow_add]
 exact Nat.mul_lt_mul'' h g
theorem Bt.add{k:Nat}{x y:Int}(h:Bt k x)(g:Bt k y):Bt (k+1) (x+y):=by
 unfold Bt at*
 have:=Int.natAbs_add_le x y
 rw[Nat.pow_succ];omega
theorem Bt.neg{k:Nat}{x:Int}(h:Bt k x):Bt k (-x):=by unfold Bt at *;omega
def CMulB(i j:Int):Prop:=∃n m:Nat,Bt n i∧Bt m j∧n+m≤134217728
theorem CMulB.ok{i j:Int}(h:CMulB i j):IntMulOk i j:=by
 obtain⟨n,m,h1,h2,h3⟩:=h
 have a:=h1.bits
 have b:=h2.bits
 have hs:((Builtin.Int.intBits i+Builtin.Int.intBits j:Nat):Int)≤2^27:=by
  have e:(2:Int)^27=134217728:=by decide
  rw[e];omega
 have hb:Builtin.Int.intTooBig ((Builtin.Int.intBits i+Builtin.Int.intBits j:Nat):Int)=false:=decide_eq_false (Int.not_lt.mpr hs)
 unfold IntMulOk
 first
  | (rw [show (((Builtin.Int.intBits i:Nat):Int)+((Builtin.Int.intBits j:Nat):Int))=((Builtin.Int.intBits i+Builtin.Int.intBits j:Nat):Int) by omega,hb];simp)
  | (rw [hb];simp)
  | (intro z;simp only[Bool.and_eq_true] at z;simp_all)
section
variable{X:Cx}{a b c:Expr}{ta tb tc:TE}{pos:Pos}
theorem op_mulB:OpR X (binaryOp .Mult) (rI CMulB fun i j=>.int (i*j)):=opI fun _ _ _ _ _ _ _ hc q=>mul_int q hc.ok
theorem log2_lt9000{j:Int}(h:Bt 9000 j):j.natAbs.log2<9000:=by
 by_cases h0:j.natAbs=0
 ·rw[h0];decide +kernel
 ·exact(Nat.log2_lt h0).mpr h
def CDivB(_ j:Int):Prop:=0<j∧Bt 9000 j
def CDivF(_ j:Int):Prop:=j≠0∧Bt 9000 j
theorem op_fdivB:OpR X (binaryOp .FloorDiv) (rI CDivB fun i j=>.int (i/j)):=opI fun i j _ _ _ _ _ hc q=>by
 have h1:(0:Int)<j:=hc.1
 exact floordiv_int (by omega) (by rw[Int.fdiv_eq_ediv_of_nonneg i (by omega)];exact q) (.inl (PyProof.noPylong_of_log2 (log2_lt9000 hc.2)))
theorem op_fdivF:OpR X (binaryOp .FloorDiv) (rI CDivF fun i j=>.int (i.fdiv j)):=opI fun i j _ _ _ _ _ hc q=>
 floordiv_int hc.1 q (.inl (PyProof.noPylong_of_log2 (log2_lt9000 hc.2)))
def CShl(i j:Int):Prop:=0≤j∧∃n:Nat,Bt n i∧(n:Int)+j≤134217728
theorem op_shlB:OpR X (binaryOp .LShift) (rI CShl fun i j=>.int (i*2^j.toNat)):=opI fun i j _ _ _ _ _ hc q=>by
 obtain⟨h0,n,hn,h1⟩:=hc
 have:=hn.bits
 refine lshift_int h0 ?_ q
 have e:(2:Int)^27=134217728:=by decide
 rw[e];omega
def rIsi(K:PySem.W.Frag):List V→Hp→VK→Prop:=fun xs H Q=>∃x c t b,xs=[x,.ty c]∧TyOf K H x t∧PySem.W.kitOne K t (.type c)=some b∧Q (.bl b) H
theorem call_isi:CallR X (.builtin "isinstance") (rIsi X.K):=by
 intro pins s σ H xs us Q I r h
 obtain⟨x,c,t,b,rfl,ty,e,q⟩:=h
 obtain⟨u,w',rfl,r1,r2⟩:=vals2 r
 cases (show w'=Value.type c from r2)
 exact isinst_ok I r1 ty e fun tk=>⟨.bl b,H,I.tok tk,rfl,q⟩
def eqVs:List V→List V→Bool
 | [],[]=>true
 | x::xs,y::ys=>eqV x y&&eqVs xs ys
 | _,_=>false
theorem eqVs_range:∀{xs ys:List V} {us ws:List Value},Vals xs us→Vals ys ws→xs.all flatV=true→ys.all flatV=true→
 ∃e:Nat→Bool,(∀(A:Around) (s:Shared) (j:Nat) (h1:j<us.toArray.size) (h2:j<ws.toArray.size),SeqAt.EqAt A s us.toArray[j] ws.toArray[j] (e j))∧
  ((List.range (min us.toArray.size ws.toArray.size)).all e&&us.toArray.size==ws.toArray.size)=eqVs xs ys
 | [],[],_,_,.nil,.nil,_,_=>⟨fun _=>true,fun _ _ j h1 _=>absurd h1 (by simp),rfl⟩
 | [],y::ys,_,_,.nil,.cons _ _,_,_=>⟨fun _=>true,fun _ _ j h1 _=>absurd h1 (by simp),by simp[eqVs]⟩
 | x::xs,[],_,_,.cons _ _,.nil,_,_=>⟨fun _=>true,fun _ _ j _ h2=>absurd h2 (by simp),by simp[eqVs]⟩
 | x::xs,y::ys,u::us,w::ws,.cons r t,.cons r' t',f,f'=>by
  rw[List.all_cons,Bool.and_eq_true] at f f'
  obtain⟨e,h1,h2⟩:=eqVs_range t t' f.2 f'.2
  refine⟨fun j=>match j with | 0=>eqV x y | j+1=>e j,?_,?_⟩
  ·intro A s j k1 k2
   cases j with
   | zero=>simpa using eqAt_V r r' f.1 f'.1
   | succ j=>
    have k:=h1 A s j (by simpa using k1) (by simpa using k2)
    simp only[List.getElem_toArray,List.getElem_cons_succ] at k ⊢
    exact k
  ·show _=(eqV x y&&eqVs xs ys)
   rw[←h2]
   have e1:min (u::us).toArray.size (w::ws).toArray.size=min us.toArray.size ws.toArray.size+1:=by simp
   rw[e1,List.range_succ_eq_map,List.all_cons,List.all_map,Bool.and_assoc]
   congr 2
   simp
def rEqT(K:PySem.W.Frag):R2:=fun x y H Q=>∃a b xs ys,x=.ref a∧y=.ref b∧SqT K H a xs∧SqT K H b ys∧xs.all flatV=true∧ys.all flatV=true∧Q (.bl (eqVs xs ys)) H
theorem op_eqT(hu:X.A.units<cLine):OpR X (compareOp .Eq) (rEqT X.K):=by
 intro pins s σ H x y v u Q I rx ry h
 obtain⟨a,b,xs,ys,rfl,rfl,ha,hb,fx,fy,q⟩:=h
 cases rx
 cases ry
 obtain⟨its,r,pl,_⟩:=I.tuple ha
 obtain⟨its',r',pl',_⟩:=I.tuple hb
 obtain⟨e,h1,h2⟩:=eqVs_range r r' fx fy
 exact SeqAt.eq_tupleAt (e:=e) pl pl' hu (fun j k1 k2=>h1 _ _ j k1 k2) (by rw[h2];exact⟨.bl _,H,I,rfl,q⟩)
structure Cal(P:Program)(w:World)(K:PySem.W.Frag)(mg:Str→Option Value)(base:Heap)(k:Nat)(x:Str)(ps:List Str)(sp:Sp):Prop where
 ex:∃(f:Addr) (fd:FuncData),FnOk P w K mg base CX0 k f fd ps sp∧Binds K fd ps []∧PySem.W.keepIn K (.ref f)=true∧mg x=some (.ref f)
theorem pe_cal{k:Nat}{x:Str}{ps:List Str}{sp:Sp}{e:Expr}{es:List Expr}{t:TA}{p:Pos}(C:Cal X.prog X.w X.K X.mg X.base k x ps sp)(hr:Room k X.A)(hg:Gl X x)(ha:PA X (e::es) t)
 (hdb:(x==("__debug__":Str))=false:=by decide)(he:starEach (e::es) X.env=(false,eval e X.env)::starEach es X.env:=by rfl)(hpl:(backTo pos (starEach es X.env)).any (·.1)=false:=by rfl):
 PE X (.Call (.Name x p) (e::es) [] pos) (tCall sp [] E0 t):=by
 obtain⟨f,fd,F,b,kp,m⟩:=C.ex
 exact pe_call F hr hg m kp b .nil pass0 ha hdb he hpl
def tCut(t:TS):TS:=fun D σ H=>∃J:St→Hp→Prop,t { D with nx:=J } σ H∧∀σ' H',J σ' H'→D.nx σ' H'
theorem ps_cut{st:Stmt}{t:TS}(h:PS X st t):PS X st (tCut t):=by
 intro pins s σ H D I hw
 obtain⟨J,h1,h2⟩:=hw
 refine thn (h pins s σ H { D with nx:=J } I h1) fun f s1 q=>?_
 cases f with
 | next=>
  obtain⟨σ',H',I',q⟩:=q
  exact⟨σ',H',I',h2 _ _ q⟩
 | ret v=>exact q
 | brk=>exact q
 | cont=>exact q
theorem rd_cut{t:TS}{D:Ends}{σ:St}{H:Hp}(J:St→Hp→Prop)(h1:t { D with nx:=J } σ H)(h2:∀σ' H',J σ' H'→D.nx σ' H'):tCut t D σ H:=⟨J,h1,h2⟩
theorem rd_var{i:Nat}{σ:St}{H:Hp}{Q:VK}{v:V}(e:σ[i]?=some (some v))(h:Q v H):tVar i σ H Q:=⟨v,e,h⟩
theorem rd_c{v:V}{σ:St}{H:Hp}{Q:VK}(h:Q v H):tC v σ H Q:=h
theorem rd_op{r:R2}{σ:St}{H:Hp}{Q:VK}(h:ta σ H fun x H1=>tb σ H1 fun y H2=>r x y H2 Q):tOp r ta tb σ H Q:=h
theorem rd_un{r:V→Hp→VK→Prop}{σ:St}{H:Hp}{Q:VK}(h:ta σ H fun x H1=>r x H1 Q):tUn r ta σ H Q:=h
theorem rd_i0{g:Int→Int→V}{i j:Int}{H:Hp}{Q:VK}(h:Q (g i j) H):rI0 g (.int i) (.int j) H Q:=⟨i,j,rfl,rfl,h⟩
theorem rd_i{C:Int→Int→Prop}{g:Int→Int→V}{i j:Int}{H:Hp}{Q:VK}(c:C i j)(h:Q (g i j) H):rI C g (.int i) (.int j) H Q:=⟨i,j,rfl,rfl,c,h⟩
theorem rd_u{g:Int→V}{i:Int}{H:Hp}{Q:VK}(h:Q (g i) H):rU g (.int i) H Q:=⟨i,rfl,h⟩
theorem rd_eq{x y:V}{H:Hp}{Q:VK}(s:scal x y=true)(h:Q (.bl (decide (x=y))) H):rEq x y H Q:=⟨s,h⟩
theorem rd_ne{x y:V}{H:Hp}{Q:VK}(s:scal x y=true)(h:Q (.bl (!decide (x=y))) H):rNe x y H Q:=⟨s,h⟩
theorem rd_test{t:TE}{σ:St}{H:Hp}{Q:Bool→Hp→Prop}(h:t σ H fun x H'=>∃k,x=.bl k∧Q k H'):tTest t σ H Q:=h
theorem rd_b{t:TE}{σ:St}{H:Hp}{Q:Bool→Hp→Prop}(h:t σ H fun x H'=>∃k,x=.bl k∧Q k H'):L2.tB t σ H Q:=h
theorem rd_bl{k:Bool}{Q:Bool→Prop}(h:Q k):∃k',V.bl k=.bl k'∧Q k':=⟨k,rfl,h⟩
theorem rel_ty(n:String):RelV (.ty n) (.type n):=rfl
theorem rel_int(i:Int)(t:Tok):RelV (.int i) (.int i t):=⟨t,rfl⟩
theorem rd_not{t:TT}{σ:St}{H:Hp}{Q:Bool→Hp→Prop}(h:t σ H fun c H1=>Q (!c) H1):tNot t σ H Q:=h
theorem rd_and{t u:TT}{σ:St}{H:Hp}{Q:Bool→Hp→Prop}(h:t σ H fun c H1=>if c=true then u σ H1 Q else Q false H1):tAnd t u σ H Q:=h
theorem rd_or{t u:TT}{σ:St}{H:Hp}{Q:Bool→Hp→Prop}(h:t σ H fun c H1=>if c=true then Q true H1 else u σ H1 Q):tOr t u σ H Q:=h
theorem rd_andV{σ:St}{H:Hp}{Q:VK}(h:ta σ H fun x H1=>∃c,x=.bl c∧if c=true then tb σ H1 Q else Q (.bl false) H1):tAndV ta tb σ H Q:=h
theorem rd_notV{σ:St}{H:Hp}{Q:VK}(h:ta σ H fun x H1=>∃c,x=.bl c∧Q (.bl (!c)) H1):tNotV ta σ H Q:=h
theorem rd_chain{r r':R2}{σ:St}{H:Hp}{Q:VK}(h:ta σ H fun x H1=>tb σ H1 fun y H2=>r x y H2 fun z H3=>∃k,z=.bl k∧(if k=true then tc σ H3 fun w' H4=>r' y w' H4 Q else Q (.bl false) H3)):tChain r r' ta tb tc σ H Q:=h
theorem rd_call{sp:Sp}{dvs:List V}{E:XK}{t:TA}{σ:St}{H:Hp}{Q:VK}(h:t σ H fun vs H1=>sp (vs++dvs) H1 Q E):tCall sp dvs E t σ H Q:=h
theorem rd_cb{r:List V→Hp→VK→Prop}{t:TA}{σ:St}{H:Hp}{Q:VK}(h:t σ H fun vs H1=>r vs H1 Q):tCB r t σ H Q:=h
theorem rd_nil{σ:St}{H:Hp}{Q:List V→Hp→Prop}(h:Q [] H):tNil σ H Q:=h
theorem rd_cons{tr:TA}{σ:St}{H:Hp}{Q:List V→Hp→Prop}(h:ta σ H fun x H1=>tr σ H1 fun xs H2=>Q (x::xs) H2):tCons ta tr σ H Q:=h
theorem rd_tup{t:TA}{σ:St}{H:Hp}{Q:VK}(h:t σ H fun xs H1=>xs.length≤sizeLine∧∀p,H1 p=none→Q (.ref p) (upd H1 p (.tup xs))):tTup t σ H Q:=h
theorem rd_lst{t:TA}{σ:St}{H:Hp}{Q:VK}(h:t σ H fun xs H1=>xs.length≤sizeLine∧∀p,H1 p=none→Q (.ref p) (upd H1 p (.lst xs))):tLst t σ H Q:=h
theorem rd_seq{t u:TS}{D:Ends}{σ:St}{H:Hp}(h:t { D with nx:=u D } σ H):tSeq t u D σ H:=h
theorem rd_next{D:Ends}{σ:St}{H:Hp}(h:D.nx σ H):tNext D σ H:=h
theorem rd_ret{te:TE}{D:Ends}{σ:St}{H:Hp}(h:te σ H D.rt):tRet te D σ H:=h
theorem rd_ifS{c:TT}{t u:TS}{D:Ends}{σ:St}{H:Hp}(h:c σ H fun b H1=>if b=true then t D σ H1 else u D σ H1):tIfS c t u D σ H:=h
theorem rd_asg{te:TE}{g:TG}{D:Ends}{σ:St}{H:Hp}(h:te σ H fun x H1=>g x σ H1 D.nx):tAsg te g D σ H:=h
theorem rd_drop{te:TE}{D:Ends}{σ:St}{H:Hp}(h:te σ H fun _ H1=>D.nx σ H1):tDrop te D σ H:=h
theorem rd_gname{i:Nat}{v:V}{σ:St}{H:Hp}{Q:St→Hp→Prop}(h:Q (σ.set i (some v)) H):gName i v σ H Q:=h
theorem rd_gcons{t:TG}{u:TGs}{v:V}{r:List V}{σ:St}{H:Hp}{Q:St→Hp→Prop}(h:t v σ H fun σ' H'=>u r σ' H' Q):gCons t u (v::r) σ H Q:=⟨v,r,rfl,h⟩
theorem rd_gnil{σ:St}{H:Hp}{Q:St→Hp→Prop}(h:Q σ H):gNil [] σ H Q:=⟨rfl,h⟩
theorem rd_ixT{K:PySem.W.Frag}{p:Addr}{xs:List V}{i:Int}{v:V}{H:Hp}{Q:VK}(hs:SqT K H p xs)(e:atI xs i=some v)(h:Q v H):rIxT K (.ref p) (.int i) H Q:=⟨p,xs,i,v,rfl,rfl,hs,e,h⟩
theorem rd_ixL{K:PySem.W.Frag}{p:Addr}{xs:List V}{i:Int}{v:V}{H:Hp}{Q:VK}(hs:SqL K H p xs)(e:atI xs i=some v)(h:Q v H):rIxL K (.ref p) (.int i) H Q:=⟨p,xs,i,v,rfl,rfl,hs,e,h⟩
theorem rd_isi{K:PySem.W.Frag}{x:V}{c:String}{t:Value}{b:Bool}{H:Hp}{Q:VK}(ty:TyOf K H x t)(e:PySem.W.kitOne K t (.type c)=some b)(h:Q (.bl b) H):rIsi K [x,.ty c] H Q:=⟨x,c,t,b,rfl,ty,e,h⟩
theorem iteD{c A B:Prop}[Decidable c](hc:c)(h:A):if decide c=true then A else B:=by
 rw[decide_eq_true hc];exact iteT h
theorem iteN{c A B:Prop}[Decidable c](hc:¬c)(h:B):if decide c=true then A else B:=by
 rw[decide_eq_false hc];exact iteF h
theorem iteNN{c A B:Prop}[Decidable c](hc:¬c)(h:A):if (!decide c)=true then A else B:=by
 rw[decide_eq_false hc];exact iteT h
theorem ite2d{c A B:Prop}[Decidable c](h1:c→A)(h2:¬c→B):if decide c=true then A else B:=by
 by_cases h:c
 ·exact iteD h (h1 h)
 ·exact iteN h (h2 h)
theorem Same.tup{K:PySem.W.Frag}{H H':Hp}{a:Addr}{xs:List V}(e:Same H H')(h:SqT K H a xs):SqT K H' a xs:=by
 rcases h with (h | ⟨o,h⟩) | h
 ·exact .inl (.inl (e _ _ h))
 ·exact .inl (.inr ⟨o,e _ _ h⟩)
 ·exact .inr h
theorem same_new{H:Hp}{p:Addr}(h:H p=none)(o:HO):Same H (upd H p o):=fun b u q=>by rw[upd_ne (ne_of_none q h)];exact q
theorem cdiv_small{i j:Int}(h0:0<j)(h1:j<18446744073709551616):CDivB i j:=⟨h0,Bt.mono (k:=64) (by unfold Bt;omega) (by decide)⟩
theorem bitAnd_nat(x y:Nat):Builtin.bitAnd (x:Int) (y:Int)=((x &&& y:Nat):Int):=PyProof.Rows.bitAnd_pp (Int.natCast_nonneg x) (Int.natCast_nonneg y)
theorem bitNot_neg(x:Nat):decide ((0:Int)≤Builtin.bitNot (x:Int))=false:=decide_eq_false (by unfold Builtin.bitNot;omega)
theorem bitOr_nat(x y:Nat):Builtin.bitOr (x:Int) (y:Int)=((x ||| y:Nat):Int):=by
 have e:∀z:Int,Builtin.bitNot (Builtin.bitNot z)=z:=fun z=>by unfold Builtin.bitNot;omega
 unfold Builtin.bitOr Builtin.bitAnd
 rw[bitNot_neg,bitNot_neg]
 dsimp only
 rw[e,e,e,Int.toNat_natCast,Int.toNat_natCast]
theorem bitXor_nat(x y:Nat):Builtin.bitXor (x:Int) (y:Int)=((x ^^^ y:Nat):Int):=by
 show Builtin.bitOr (x:Int) (y:Int)-Builtin.bitAnd (x:Int) (y:Int)=_
 rw[bitOr_nat,bitAnd_nat]
 have h:x ||| y=(x ^^^ y)+(x &&& y):=by
  have a:(x ^^^ y) &&& (x &&& y)=0:=by
   refine Nat.eq_of_testBit_eq fun i=>?_
   rw[Nat.testBit_and,Nat.testBit_xor,Nat.testBit_and,Nat.zero_testBit]
   cases x.testBit i<;>cases y.testBit i<;>rfl
  have b:x ||| y=(x ^^^ y) ||| (x &&& y):=by
   refine Nat.eq_of_testBit_eq fun i=>?_
   rw[Nat.testBit_or,Nat.testBit_or,Nat.testBit_xor,Nat.testBit_and]
   cases x.testBit i<;>cases y.testBit i<;>rfl
  have c:=PyProof.Rows.bitOr_and ((x ^^^ y:Nat):Int) ((x &&& y:Nat):Int)
  rw[bitOr_nat,bitAnd_nat,a,←b] at c
  omega
 omega
theorem kit_int_int(K:PySem.W.Frag):PySem.W.kitOne K (.type "int") (.type "int")=some true:=by unfold PySem.W.kitOne;rw[if_pos (by simp)]
end
end L2
namespace Att
open PySem PySem.W PySem.Calls PyProof.Rows
theorem weight_item:∀{ns:List Int} {n:Int},n∈ns→Builtin.Int.intBits n≤WData.weightAll (ns.map WData.int)
 | m::ns,n,h=>by
  rw[List.map_cons]
  show _≤WData.weight (.int m)+1+WData.weightAll (ns.map WData.int)
  rcases List.mem_cons.mp h with rfl | h
  ·have e:WData.weight (.int n)=Builtin.Int.intBits n:=by first | rfl | (unfold Builtin.Int.intBits;rfl) | simp[WData.weight,Builtin.Int.intBits]
   omega
  ·have:=weight_item h
   omega
theorem bits_of_lay{ns:List Int}(h:WData.layableAll [WData.list (ns.map WData.int)]=true):∀n∈ns,L2.Bt 1048576 n:=fun n hn=>by
 have h1:WData.layable (WData.list (ns.map WData.int))=true:=(Bool.and_eq_true_iff.mp h).1
 have h2:WData.weight (WData.list (ns.map WData.int))≤2^20:=of_decide_eq_true (Bool.and_eq_true_iff.mp h1).2
 have h3:=weight_item hn
 have e:WData.weight (WData.list (ns.map WData.int))=WData.weightAll (ns.map WData.int):=by first | rfl | simp[WData.weight]
 refine PySem.intBits_le_iff.mp ?_
 omega
theorem attach_callB{l:OpenLaw}{n:Nat}{q:Program}{loose:List Str}{XP:(Str→Option Value)→Heap→Prop}{YP:World→Heap→Prop}{d:DefRec}
 (hn:l.most=some n)(hdf:d.params.defaults=[])
 (call:∀(w:World) (s₀ s₁:Shared) (mg mb:Str→Option Value) (fa:Addr) (o:Obj) (pm cd doc:Value) (a:Addr) (vs:List Value) (ns:List Int),
  Ground q loose [] XP w s₀ mg mb s₁.heap→YP w s₁.heap→
  s₁.heap.get? fa=some o→o.data=.func (docDef d.name d.params d.body d.scope pm cd doc)→s₁.heap.CodeRec cd d.name→mg d.name=some (.ref fa)→
  s₁.heap.get? a=some { cls:=.type "list",data:=.seq vs.toArray }→IntsAre vs ns→ns.length≤n→(∀n∈ns,L2.Bt 1048576 n)→s₁.gens= #[]→
  codeAny (model l.prog w) callerA (.call (.ref fa) ⟨[.ref a],[]⟩) (fun r s'=>r=.ok (.ret (.bool true))∧OldK s₁.heap s'.heap∧s'.os=s₁.os∧AllBare s'.gens) s₁):
 WalkO q loose XP YP l.row.toRowW d [] (fun f vs=>PySem.call f vs):=by
 intro w s₀ s₁ mg mb G Y fa o pm cd doc dV kV ho hd hcd hD hmg hg args vals as hpre hlay hrd hwl hlo
 obtain rfl:dV=.none:=Dflts.none hD hdf
 obtain rfl:kV=.none:=Dflts.noKw hD
 obtain⟨a,vs,ns,rfl,rfl,hobj,hints,hlen⟩:=script_of hn hpre hwl
 refine enter_call (codeAny_mono (call w s₀ s₁ mg mb fa o pm cd doc a vs ns G Y ho (fd_plain hd) hcd hmg hobj hints hlen (bits_of_lay hlay) hg) fun r s' hq=>?_)
 obtain⟨rfl,h2,h3,h4⟩:=hq
 exact⟨.inl ⟨.bool true,.bool true,[],rfl,fun _=>rfl,.bool true,post_true l _,fun _=>⟨List.Pairwise.nil,fun _ hm=>(nomatch hm)⟩⟩,h2,h3,h4⟩
end Att
namespace L2
open PySem PySem.Spec PyProof.Rows
def spLaw(K:PySem.W.Frag):Sp:=fun vs H Q _=>∃(a:Addr) (ns:List Int),vs=[.ref a]∧SqL K H a (ns.map V.int)∧ns.length≤63∧(∀n∈ns,Bt 1048576 n)∧∀H',Q (.bl true) H'
theorem walk_ofB{l:PySem.W.OpenLaw}{k:Nat}{q:Program}{loose:List Str}{XP:(Str→Option Value)→Heap→Prop}{YP:World→Heap→Prop}{d:DefRec}{K:Params→PySem.W.Frag}
 (hn:l.most=some 63)(hdf:d.params.defaults=[])(hr:Room k callerA)
 (hY:∀(w:World) (h:Heap),YP w h→(K w.params).In h)
 (F:∀(w:World) (mg:Str→Option Value) (fa:Addr) (h:Heap),(K w.params).In h→h.Ns mainGlobals mg→mg d.name=some (.ref fa)→
  ∃fd:FuncData,(∀(s:Shared) (u:Value),BindsTo s fd ⟨[u],[]⟩ [("_law_script",u)])∧
   ∀base:Heap,(K w.params).In base→base.Ns mainGlobals mg→FnOk l.prog w (K w.params) mg base CX0 k fa fd ["_law_script"] (spLaw (K w.params))):
 PySem.W.WalkO q loose XP YP l.row.toRowW d [] (fun f vs=>PySem.call f vs):=by
 refine Att.attach_callB hn hdf fun w s₀ s₁ mg mb fa o pm cd doc a vs ns G Y ho hd hcd hmg hobj hints hlen hbits hg=>?_
 have KX:=hY w _ Y
 obtain⟨fd,hb,hF⟩:=F w mg fa _ KX G.T.g hmg
 exact law_call KX G.T.g G.T.b G.T.builtins G.T.nolimit hg hobj hints (Nat.le_trans hlen (by decide)) hr hF hb (fun H hO hS=>⟨a,ns,rfl,hS,hlen,hbits,fun _=>rfl⟩) fun H e s'=>fun z=>z
end L2
set_option Elab.async false
set_option linter.all false
set_option maxRecDepth 100000
set_option maxHeartbeats 4000000
namespace L2
open PySem PySem.Spec PyProof.Rows
def compCx(X:Cx)(M:List Str)(x:Str)(scope:Scope)(cl:List (Str×Addr))(C:Addr)(s₀:Shared)(H₀:Hp)(fp:List Addr):Cx:=
 { X with N:=x::M,s₀:=s₀,H₀:=H₀,env:=compEnvC scope cl C X.env,outer:=X.stack,ex:=fp,fn:=fun _=>false,pn:=[],xe:=fun _ _=>False }
structure CompOk(X:Cx)(M:List Str)(x:Str)(scope:Scope)(cl:List (Str×Addr)):Prop where
 clos:closureFor scope X.env=pure cl
 cell:∀y∈scope.names,y.2≠.cell
 kind:scope.kind=.function
 names:∀y∈scope.names,y.2=.local→scope.names.lookup y.1=some .local
 xl:scope.names.lookup x=some .local
 nd:(x::M).Nodup
 len:M.length=X.N.length
 sub:∀y c,cl.lookup y=some c→X.env.cells.lookup y=some c
 has:∀y,((relabel scope X.env).names.lookup y=some .cell∨(relabel scope X.env).names.lookup y=some .free)→∃c,cl.lookup y=some c
 vis:∀(i:Nat) (y:Str),M[i]?=some y→Vis (relabel scope X.env) y→X.N[i]?=some y∧((relabel scope X.env).names.lookup y=some .cell∨(relabel scope X.env).names.lookup y=some .free)∧(X.env.scope.names.lookup y=some .cell∨X.env.scope.names.lookup y=some .free)
def PIfs(X:Cx)(ifs:List Expr)(t:TT):Prop:=
 ∀(pins:List (Addr×Obj)) (s:Shared) (σ:St) (H:Hp) (Q:Bool→Hp→Prop),Inv X pins σ H s→t σ H Q→
  wpAny (model X.prog X.w) X.A (forIn ifs true fun c r=>if r=true then do let ok ←isTrue c X.env (eval c X.env);pure (ForInStep.yield ok) else pure (ForInStep.yield r)) (TP X pins σ Q) X.xe s
def tTrue:TT:=fun _ H Q=>Q true H
section
variable{X:Cx}
theorem pifs_nil:PIfs X [] tTrue:=fun pins s σ H Q I h=>by
 rw[List.forIn_nil]
 exact wpAny_pure ⟨H,I,h⟩
theorem pifs_one{c:Expr}{t:TT}(hc:PT X c t):PIfs X [c] t:=fun pins s σ H Q I h=>by
 rw[List.forIn_cons]
 refine wpAny_bind ?_
 rw[if_pos rfl]
 refine wpAny_bind (thn (hc pins s σ H Q I h) fun b s1 q=>wpAny_pure ?_)
 dsimp only
 rw[List.forIn_nil]
 exact wpAny_pure q
def tComp(wi:TI)(tt:TT)(te:TE):TE:=fun σ H Q=>wi σ H fun J H1=>∀D,H1 D=none→∃W:Nat→Nat→List V→Hp→Prop,(∃m,W 0 m [] (upd H1 D (.lst [])))∧
 ∀i m ys H2,W i m ys H2→H2 D=some (.lst ys)∧((J.stop i H2∧Q (.ref D) H2)∨(J.go i H2∧ys.length<sizeLine∧∃m',m'<m∧∀x H3,J.yld i H2 x H3→
  tt (some x::σ) H3 fun b H4=>if b=true then te (some x::σ) H4 fun y H5=>H5 D=some (.lst ys)∧W (i+1) m' (ys++[y]) (upd H5 D (.lst (ys++[y]))) else W (i+1) m' ys H4))
theorem comp_ok{M:List Str}{pins:List (Addr×Obj)}{σ:St}{H:Hp}{s:Shared}{x:Str}{scope:Scope}{cl:List (Str×Addr)}{C:Addr}{fp:List Addr}(I:Inv X pins σ H s)(ok:CompOk X M x scope cl)(hC:s.heap.objs.size≤C)
 (hf:∀b∈fp,FpOk X pins H b)(hb:∀b∈fp,b<s.heap.objs.size):(compCx X M x scope cl C s H fp).Ok where
 mod:=I.ok.mod
 kind:=ok.kind
 glob:=I.ok.glob
 blt:=I.ok.blt
 above:=hC
 inj:=fun y z c h1 h2=>I.ok.inj y z c (ok.sub y c h1) (ok.sub z c h2)
 has:=ok.has
 cab:=fun y c h=>by cases h
 hd:=I.ok.hd
 frames:=I.ok.frames
 stk:=.inl rfl
 exf:=fun b h=>⟨Nat.ne_of_lt (Nat.lt_of_lt_of_le (hb b h) hC),fun y c e=>(hf b h).2.2.2.2.1 y c (ok.sub y c e)⟩
 bs:=I.bs
 bsz:=Nat.le_trans I.ok.bsz I.sz
 noex:=fun b o e h=>by
  rcases(hf b h).2.2.2.1 with z | z
  ·exact I.ok.noex b o e z
  ·exact absurd (Nat.lt_of_lt_of_le (Heap.lt_size (I.ok.bs b o e).1) z) (Nat.lt_irrefl _)
 exfs:=fun b h z=>by
  rcases List.mem_cons.mp (I.stkSub b z) with e | e
  ·exact(hf b h).2.1 e
  ·exact(hf b h).2.2.1 e
 funs:=I.stack
 frf:=I.stkFree
def CompR(tt:TT)(te:TE)(σ:St)(Q:VK):It→Hp→Prop:=fun J H1=>∀D,H1 D=none→∃W:Nat→Nat→List V→Hp→Prop,(∃m,W 0 m [] (upd H1 D (.lst [])))∧
 ∀i m ys H2,W i m ys H2→H2 D=some (.lst ys)∧((J.stop i H2∧Q (.ref D) H2)∨(J.go i H2∧ys.length<sizeLine∧∃m',m'<m∧∀x H3,J.yld i H2 x H3→
  tt (some x::σ) H3 fun b H4=>if b=true then te (some x::σ) H4 fun y H5=>H5 D=some (.lst ys)∧W (i+1) m' (ys++[y]) (upd H5 D (.lst (ys++[y]))) else W (i+1) m' ys H4))
theorem comp_core{M:List Str}{elt iter:Expr}{x:Str}{px pos:Pos}{ifs:List Expr}{scope:Scope}{cl:List (Str×Addr)}{tt:TT}{te:TE}(hc:X.calm=true)(ok:CompOk X M x scope cl)
 (ht:∀C s₀ H₀ fp,PIfs (compCx X M x scope cl C s₀ H₀ fp) ifs tt)(he:∀C s₀ H₀ fp,PE (compCx X M x scope cl C s₀ H₀ fp) elt te)
 {pins:List (Addr×Obj)}{σ:St}{H2:Hp}{s2:Shared}{it:Addr}{fp:List Addr}{tn:Nat→Heap→Prop}{J:It}{Q:VK}(I2:Inv X pins σ H2 s2)(T:Turn X.prog X.w X.K (.Name x px) J fp it tn)(st2:tn 0 s2.heap)(f2:∀b∈fp,FpOk X pins H2 b)
 (hW:CompR tt te σ Q J H2)(post:Value→Addr→Result→Shared→Prop)
 (fin:∀D C H3 s4,Inv X pins σ H3 s4→(∃m,s4.heap.Ns C m)→FpOk X pins H3 C→Q (.ref D) H3→post (.ref D) C (.ok .next) s4):
 wpAny (model X.prog X.w) X.A (newList []) (fun acc s₃=>wpAny (model X.prog X.w) X.A (newFunctionEnv scope X.env.globals cl [] X.env.qual none .none (some X.env)) (fun cenv s₄=>
  codeAny (model X.prog X.w) X.A (.compStart (.ListComp elt [⟨.Name x px,iter,ifs,0⟩] scope pos) 0 (.ref it) acc { cenv with scope:=relabel scope X.env }) (post acc cenv.locals) s₄) X.xe s₃) X.xe s2:=by
 refine wpAny_newObj_type (wpAny_newFunctionEnv ok.cell (by intro y hy;simp at hy) (fun h₁ hns₁ hsb₁=>?_) ok.kind)
 dsimp only at hns₁ hsb₁ ⊢
 generalize hH2:s2.heap.push { cls:=.type "list",dict:=none,data:=.seq ([]:List Value).toArray }=G2 at hns₁ hsb₁ ⊢
 have hC:G2.objs.size=s2.heap.objs.size+1:=by rw[←hH2,Heap.size_push]
 have hDC:s2.heap.objs.size≠G2.objs.size:=by rw[hC];exact Nat.ne_of_lt (Nat.lt_succ_self _)
 have hCle:s2.heap.objs.size≤G2.objs.size:=by rw[hC];exact Nat.le_succ _
 have below:∀b,b<s2.heap.objs.size→b≠G2.objs.size∧b≠s2.heap.objs.size:=fun b hb=>⟨by rw[hC];exact Nat.ne_of_lt (Nat.lt_succ_of_lt hb),Nat.ne_of_lt hb⟩
 have old:∀b o,s2.heap.get? b=some o→h₁.get? b=some o:=fun b o e=>hsb₁.extBut b o (below b (Heap.lt_size e)).1 (Heap.get?_push_of_some _ (hH2 ▸ Heap.get?_push_of_some _ e))
 have hacc:h₁.get? s2.heap.objs.size=some { cls:=.type "list",data:=.seq ([]:List Value).toArray }:=hsb₁.extBut _ _ hDC (Heap.get?_push_of_some _ (hH2 ▸ Heap.get?_push_size _ rfl))
 have fpb:∀b∈fp,b<s2.heap.objs.size:=fun b hb=>by
  obtain⟨o,e,_⟩:=T.obj _ _ st2 b hb
  exact Heap.lt_size e
 have hD0:H2 s2.heap.objs.size=none:=I2.hok.fresh (Nat.le_refl _)
 have hC0:H2 G2.objs.size=none:=I2.hok.fresh hCle
 generalize hDD:s2.heap.objs.size=D at*
 generalize hCC:G2.objs.size=C at*
 obtain⟨W,⟨m0,w0⟩,turn⟩:=hW D hD0
 have okX:(compCx X M x scope cl C s2 H2 fp).Ok:=comp_ok I2 ok (by rw[hDD];exact hCle) f2 (by rw[hDD];exact fpb)
 have lenN:(none::σ:St).length=(compCx X M x scope cl C s2 H2 fp).N.length:=by
  show(none::σ).length=(x::M).length
  rw[List.length_cons,List.length_cons,I2.len,ok.len]
 have locs:∀(h':Heap) (m:Str→Option Value) (w':Option V),(∀y c,X.env.cells.lookup y=some c→∀v,s2.heap.IsCell c v→h'.IsCell c v)→w'=none→
  ∀(i:Nat) (y:Str) (v:V),(x::M)[i]?=some y→(w'::σ:St)[i]?=some (some v)→Vis (relabel scope X.env) y→∃u,RelV v u∧Look (compEnvC scope cl C X.env) h' m y u:=by
  intro h' m w' hcell hw i y v e1 e2 e3
  subst hw
  cases i with
  | zero=>simp at e2
  | succ i=>
   have e0:M[i]?=some y:=by simpa using e1
   have e2':σ[i]?=some (some v):=by simpa using e2
   obtain⟨e1',k1,k2⟩:=ok.vis i y e0 e3
   obtain⟨m2,_,hl⟩:=I2.loc
   obtain⟨u,r,l⟩:=hl i y v e1' e2' (k2.elim (fun z=>.inr (.inl z)) fun z=>.inr (.inr z))
   obtain⟨c',hc'⟩:=ok.has y k1
   rcases l with ⟨z,_⟩ | ⟨_,c,hcc,z⟩
   ·have z':X.env.scope.names.lookup y=some .local:=z
    rcases k2 with q | q<;>(rw [q] at z';cases z')
   ·have q:=ok.sub y c' hc'
    rw[hcc] at q
    cases q
    exact⟨u,r,.inr ⟨k1,c',hc',hcell y c' hcc _ z⟩⟩
 have I0:Inv (compCx X M x scope cl C s2 H2 fp) [] (none::σ) (upd H2 D (.lst [])) { s2 with heap:=h₁,toks:=s2.toks+([]:List (Str×Value)).length }:=by
  refine⟨okX,rfl,I2.bare,?_,⟨_,hns₁,locs h₁ _ none (fun y c e v z=>?_) rfl⟩,fun y c e=>?_,?_,fun y c e=>?_,fun p hp=>?_,?_,lenN⟩
  ·exact Un.laid old (Nat.le_of_eq hDD) hD0
  ·obtain⟨o,ho,hd⟩:=z
   exact⟨o,old c o ho,hd⟩
  ·obtain⟨v,o,ho,hd⟩:=I2.cell y c (ok.sub y c e)
   exact⟨v,o,old c o ho,hd⟩
  ·show upd H2 D (.lst []) C=none
   rw[upd_ne (Ne.symm hDC)]
   exact hC0
  ·have hn:=I2.freeC y c (ok.sub y c e)
   obtain⟨v,o,ho,hd⟩:=I2.cell y c (ok.sub y c e)
   rw[upd_ne (fun z=>by have:=Heap.lt_size ho;rw[hDD,z] at this;exact Nat.lt_irrefl _ this)]
   exact hn
  ·exact absurd hp (by show p∉([]++[]:List (Addr×Obj));simp)
  ·refine I2.hok.laid old (Nat.le_of_eq hDD) ⟨Nat.zero_le _,[],_,.nil,hacc⟩
 have fpk:∀{H':Hp},(∀b∈fp,H' b=none)→∀b∈fp,FpOk (compCx X M x scope cl C s2 H2 fp) [] H' b:=fun hn b hb=>by
  refine⟨hn b hb,(below b (fpb b hb)).1,okX.exfs b hb,.inl hb,fun y c e=>(f2 b hb).2.2.2.2.1 y c (ok.sub y c e),fun p hp=>?_⟩
  exact absurd hp (by show p∉([]++[]:List (Addr×Obj));simp)
 have loop:∀s₃:Shared,s₃={ s2 with heap:=h₁,toks:=s2.toks+([]:List (Str×Value)).length }→
  codeAny (model X.prog X.w) X.A (.compLoop (.ListComp elt [⟨.Name x px,iter,ifs,0⟩] scope pos) 0 (.ref it) (.ref D) (compEnvC scope cl C X.env))
   (post (.ref D) C) s₃:=by
  rintro s₃ rfl
  refine codeAny_compLoop_tests (fun n s'=>∃i ys w' H',Inv (compCx X M x scope cl C s2 H2 fp) [] (w'::σ) H' s'∧tn i s'.heap∧(∀b∈fp,H' b=none)∧W i n ys H') ?_ m0
   ⟨0,[],none,_,I0,T.keep _ _ _ st2 (fun b _ o e=>old b o e),fun b hb=>by rw[upd_ne (below b (fpb b hb)).2];exact(f2 b hb).1,w0⟩
  rintro n s3 ⟨i,ys,w3,H3,I3,st3,fr3,wt⟩
  obtain⟨hD3,hh⟩:=turn i n ys H3 wt
  rcases hh with ⟨stop,q⟩ | ⟨go,hlen,m',hm,step⟩
  ·refine thn (T.done (compCx X M x scope cl C s2 H2 fp) rfl rfl rfl hc i [] s3 (w3::σ) H3 _ I3 (fpk fr3) st3 stop) fun r s4 ⟨hr,I4⟩=>?_
   subst hr
   obtain⟨m4,hn4,_⟩:=id I4.loc
   have hC4:H3 C=none:=I4.free
   exact fin D C H3 s4 (I2.call' (ch:=fp) I4.os I4.base I4.hok I4.bare fun b hb=>⟨(f2 b hb).2.2.2.1,(f2 b hb).2.1,(f2 b hb).2.2.2.2.1,(f2 b hb).2.2.2.2.2⟩) ⟨m4,hn4⟩ (I2.fpOk (by rw[hDD];exact hCle) hC4) q
  ·refine wpAny_mono (T.item (compCx X M x scope cl C s2 H2 fp) rfl rfl rfl hc i [] s3 (w3::σ) H3 (fun _ _=>False) I3 (fpk fr3) st3 go) (fun r s4 h4=>?_) (fun _ _ z=>z.elim)
   obtain⟨u,hr,h4⟩:=h4
   subst hr
   refine(show wpAny (model X.prog X.w) X.A (letOwnedTupleGo (.Name x px) (.ref it) u >>= fun _=>assign (.Name x px) (compEnvC scope cl C X.env) u) _ _ _ from wpAny_bind (wpAny_mono h4 (fun _ s4 h4=>?_) (fun _ _ z=>z.elim)))
   obtain⟨x',H5,I5,r5,y5,st5,fr5⟩:=h4
   have I5':=I5.pinned (fpk fr5) (T.obj _ _ st5)
   refine wpAny_assign_Name (store_ok (X:=compCx X M x scope cl C s2 H2 fp) (i:=0) I5' ok.nd rfl (.inl (lookup_relabel_local ok.xl)) r5 (fun s6 I6=>?_) (.inr (lookup_relabel_local ok.xl)))
   have I6':Inv (compCx X M x scope cl C s2 H2 fp) ([]++pinsAt fp s4.heap) (some x'::σ) H5 s6:=I6
   have back:∀{s7:Shared} {H7:Hp} {w7:Option V},Inv (compCx X M x scope cl C s2 H2 fp) ([]++pinsAt fp s4.heap) (w7::σ) H7 s7→tn (i+1) s7.heap∧(∀b∈fp,H7 b=none)∧Inv (compCx X M x scope cl C s2 H2 fp) [] (w7::σ) H7 s7:=fun{s7 H7 w7} I7=>by
    refine⟨T.keep _ _ _ st5 fun b hb o e=>(I7.pin (b,o) (List.mem_append_right _ (List.mem_append_right _ (mem_pinsAt hb e)))).1,fun b hb=>?_,I7.unpinned⟩
    obtain⟨o,e,d⟩:=T.obj _ _ st5 b hb
    exact(I7.pin (b,o) (List.mem_append_right _ (List.mem_append_right _ (mem_pinsAt hb e)))).2.1
   refine wpAny_mono (ht C s2 H2 fp _ s6 _ H5 _ I6' (step x' H5 y5)) (fun ok' s7 h7=>?_) (fun _ _ z=>z.elim)
   obtain⟨H7,I7,q7⟩:=h7
   cases ok' with
   | false=>
    have q7':W (i+1) m' ys H7:=by simpa using q7
    rw[if_neg Bool.false_ne_true]
    obtain⟨b1,b2,b3⟩:=back I7
    exact⟨m',hm,i+1,ys,_,H7,b3,b1,b2,q7'⟩
   | true=>
    rw[if_pos rfl] at q7 ⊢
    refine wpAny_mono (he C s2 H2 fp _ s7 _ H7 _ I7 q7) (fun y s8 h8=>?_) (fun _ _ z=>z.elim)
    obtain⟨v8,H8,I8,r8,hD8,w8⟩:=h8
    refine wpAny_mono (mt_append (X:=compCx X M x scope cl C s2 H2 fp) _ s8 _ H8 (.ref D) [v8] (.ref D) [y] (fun _ H9=>H9=upd H8 D (.lst (ys++[v8]))) I8 rfl (.cons r8 .nil) ⟨D,ys,v8,rfl,rfl,hD8,hlen,rfl⟩) (fun _ s9 h9=>?_) (fun _ _ z=>z.elim)
    obtain⟨v9,H9,I9,_,e9⟩:=h9
    subst e9
    obtain⟨b1,b2,b3⟩:=back I9
    exact⟨m',hm,i+1,_,_,_,b3,b1,b2,w8⟩
 exact codeAny_compStart_list (loop _ rfl) (T.self _ 0 _ _ _ (T.keep _ _ _ st2 (fun b _ o e=>old b o e)) (loop _ rfl))
theorem pe_comp{M:List Str}{elt iter:Expr}{x:Str}{px pos:Pos}{ifs:List Expr}{scope:Scope}{cl:List (Str×Addr)}{wi:TI}{tt:TT}{te:TE}(hc:X.calm=true)(ok:CompOk X M x scope cl)(hi:PI X (.Name x px) iter wi)
 (ht:∀C s₀ H₀ fp,PIfs (compCx X M x scope cl C s₀ H₀ fp) ifs tt)(he:∀C s₀ H₀ fp,PE (compCx X M x scope cl C s₀ H₀ fp) elt te)
 (hs:∀x,foldedSetIterable iter X.env x=pure x:=by intro _;rfl):
 PE X (.ListComp elt [⟨.Name x px,iter,ifs,0⟩] scope pos) (tComp wi tt te):=by
 intro pins s σ H Q I h
 rw[eval_ListComp]
 refine wpAny_comprehension_free (use:=none) rfl hs ok.clos ok.kind ok.names (thn (hi pins s σ H _ I h) fun xv s1 h1=>thn h1 fun itv s2 h2=>?_)
 obtain⟨it,fp,tn,J,H2,e,I2,T,st2,f2,hW⟩:=h2
 subst e
 refine comp_core hc ok ht he I2 T st2 f2 hW (compPost (model X.prog X.w) X.A X.xe none (EP X pins σ Q)) fun D C H3 s4 I4 hm fC q=>?_
 obtain⟨m,hn⟩:=hm
 exact⟨m,hn,fun h' hsb=>⟨.ref D,H3,I4.turned (t':=s4.toks) (fun b o hb e=>hsb.extBut b o hb e) fC.1 fC.2.1 fC.2.2.2.1 fC.2.2.2.2.1 fC.2.2.2.2.2,rfl,q⟩⟩
theorem vals_bls:∀{bs:List Bool} {us:List Value},Vals (bs.map V.bl) us→us=bs.map Value.bool
 | [],_,.nil=>rfl
 | b::bs,u::us,.cons r t=>by
  cases (show u=Value.bool b from r)
  rw[vals_bls t]
  rfl
theorem range_allB(bs:List Bool):((List.range bs.length).all fun i=>(bs[i]?).getD true)=bs.all id:=by
 induction bs with
 | nil=>rfl
 | cons b bs ih=>
  rw[List.length_cons,List.range_succ_eq_map,List.all_cons,List.all_map,List.all_cons,←ih]
  rfl
theorem kept_it{s:Shared}{h':Heap}{o:Obj}(hk:∀b x,b∉[s.heap.objs.size]→(s.heap.push o).get? b=some x→h'.get? b=some x):∀b x,s.heap.get? b=some x→h'.get? b=some x:=
 fun b x e=>hk b x (fun hm=>by rw[List.mem_singleton.mp hm] at e;exact Nat.lt_irrefl _ (Heap.lt_size e)) (Heap.get?_push_of_some _ e)
theorem call_all(hc:X.calm=true):CallR X (.builtin "all") (fun xs H Q=>∃(p:Addr) (bs:List Bool),xs=[.ref p]∧SqL X.K H p (bs.map V.bl)∧Q (.bl (bs.all id)) H):=by
 intro pins s σ H xs us Q I r h
 obtain⟨p,bs,rfl,hq,q⟩:=h
 obtain⟨u,rfl,ru⟩:=vals1 r
 cases (show u=Value.ref p from ru)
 obtain⟨its,rv,pl,_⟩:=I.list hq
 obtain rfl:=vals_bls rv
 have hl:=pl.isList
 have hlt:p<s.heap.objs.size:=by obtain⟨_,e,_⟩:=id hl;exact Heap.lt_size e
 refine call_all_walk (wpAny_pyIter_list hl ?_)
 refine⟨s.heap.objs.size,[s.heap.objs.size,p],[s.heap.objs.size],(bs.map Value.bool).toArray.size,_,_,fun i=>(bs[i]?).getD true,rfl,Walks.list (A:=X.A.in1) (I.ok.hd hc) _ p (Nat.ne_of_lt hlt) (bs.map Value.bool).toArray,
  ⟨⟨_,Heap.get?_push_size _ rfl,rfl,rfl⟩,hl.push _⟩,fun i v s' Q' E' hP hQ=>?_,fun h' tk hk=>?_⟩
 ·have hP':(bs.map Value.bool)[i]?=some v:=by simpa using hP
  rw[List.getElem?_map] at hP'
  cases e:bs[i]? with
  | none=>rw[e] at hP';cases hP'
  | some b=>
   rw[e] at hP'
   cases hP'
   simp only[e,Option.getD_some] at hQ
   exact wpAny_truthy_bool hQ
 ·have e:((List.range (bs.map Value.bool).toArray.size).all fun i=>(bs[i]?).getD true)=bs.all id:=by
   rw[List.size_toArray,List.length_map];exact range_allB bs
  rw[e]
  exact⟨.bl _,H,I.kept (kept_it hk),rfl,q⟩
theorem lookup_mem{κ β:Type}[BEq κ][LawfulBEq κ]{k:κ}{v:β}:∀{l:List (κ×β)},l.lookup k=some v→(k,v)∈l
 | (a,b)::r,h=>by
  rw[List.lookup_cons] at h
  cases e:k==a with
  | true=>
   rw[e] at h
   cases h
   rw[eq_of_beq e]
   exact List.mem_cons_self
  | false=>
   rw[e] at h
   exact List.mem_cons_of_mem _ (lookup_mem h)
theorem relabel_plain{scope:Scope}{env:Env}(h:∀y∈scope.names,y.2≠.free):(relabel scope env).names=scope.names:=
 map_eq_self fun x hx=>by
  obtain⟨n,k⟩:=x
  have:(k==NameKind.free)=false:=by simpa using h _ hx
  simp[this]
theorem compOk_nil{x:Str}{scope:Scope}(N:List Str)(hN:X.N=N)(hf:∀y∈scope.names,y.2≠.free∧y.2≠.cell)(hk:scope.kind=.function)(hn:∀y∈scope.names,y.2=.local→scope.names.lookup y.1=some .local)
 (hx:scope.names.lookup x=some .local)(nd:(x::N).Nodup)(vis:∀y∈N,scope.names.lookup y≠some .local):CompOk X N x scope []:=by
 have e:=relabel_plain (env:=X.env) fun y hy=>(hf y hy).1
 refine⟨closureFor_none fun y hy=>(hf y hy).1,fun y hy=>(hf y hy).2,hk,hn,hx,nd,by rw[hN],fun y c h=>(by cases h),fun y h=>?_,fun i y hy h=>?_⟩
 ·rw[e] at h
  rcases h with h | h
  ·exact absurd rfl (hf _ (lookup_mem h)).2
  ·exact absurd rfl (hf _ (lookup_mem h)).1
 ·rcases h with h | h | h
  ·rw[e] at h;exact absurd h (vis y (List.mem_of_getElem? hy))
  ·rw[e] at h;exact absurd rfl (hf _ (lookup_mem h)).2
  ·rw[e] at h;exact absurd rfl (hf _ (lookup_mem h)).1
structure Walk(J:It)(ok:Hp→Prop)(xs:List V):Prop where
 go:∀i H,ok H→i<xs.length→J.go i H
 yld:∀i H x H',ok H→J.yld i H x H'→i<xs.length→H'=H∧xs[i]?=some x
 stop:∀i H,ok H→xs.length≤i→J.stop i H
theorem walk_l{K:PySem.W.Frag}{a:Addr}{xs:List V}:Walk (Itl K a) (fun H=>SqL K H a xs) xs:=
 ⟨fun i H h hi=>⟨xs,xs[i],h,by simp[hi]⟩,fun i H x H' h y hi=>⟨y.1,y.2 xs h⟩,fun i H h hi=>⟨xs,h,hi⟩⟩
theorem walk_t{K:PySem.W.Frag}{a:Addr}{xs:List V}:Walk (Itt K a) (fun H=>SqT K H a xs) xs:=
 ⟨fun i H h hi=>⟨xs,xs[i],h,by simp[hi]⟩,fun i H x H' h y hi=>⟨y.1,y.2 xs h⟩,fun i H h hi=>⟨xs,h,hi⟩⟩
theorem walk_r{lo:Int}{n:Nat}:Walk (Itr lo n) (fun _=>True) ((List.range n).map fun i=>V.int (lo+(i:Nat))):=
 ⟨fun i H _ hi=>(by show i<n;simpa using hi),fun i H x H' _ y hi=>⟨y.1,by
  have hi':i<n:=by simpa using hi
  rw[y.2]
  simp[hi']⟩,fun i H _ hi=>(by show n≤i;simpa using hi)⟩
theorem comp_by{J:It}{ok:Hp→Prop}{xs:List V}{σ:St}{H:Hp}{Q:VK}{tt:TT}{te:TE}(Wk:Walk J ok xs)(hz:xs.length<sizeLine)(hok:∀D ys,H D=none→ok (upd H D (.lst ys)))(p:V→Bool)(f:V→V)
 (ht:∀x∈xs,∀D ys (Q':Bool→Hp→Prop),H D=none→Q' (p x) (upd H D (.lst ys))→tt (some x::σ) (upd H D (.lst ys)) Q')
 (he:∀x∈xs,p x=true→∀D ys (Q':VK),H D=none→Q' (f x) (upd H D (.lst ys))→te (some x::σ) (upd H D (.lst ys)) Q')
 (h:∀D,H D=none→Q (.ref D) (upd H D (.lst ((xs.filter p).map f)))):
 ∀D,H D=none→∃W:Nat→Nat→List V→Hp→Prop,(∃m,W 0 m [] (upd H D (.lst [])))∧
  ∀i m ys H2,W i m ys H2→H2 D=some (.lst ys)∧((J.stop i H2∧Q (.ref D) H2)∨(J.go i H2∧ys.length<sizeLine∧∃m',m'<m∧∀x H3,J.yld i H2 x H3→
   tt (some x::σ) H3 fun b H4=>if b=true then te (some x::σ) H4 fun y H5=>H5 D=some (.lst ys)∧W (i+1) m' (ys++[y]) (upd H5 D (.lst (ys++[y]))) else W (i+1) m' ys H4)):=by
 intro D hD
 refine⟨fun i m ys H2=>i≤xs.length∧m=xs.length-i∧ys=((xs.take i).filter p).map f∧H2=upd H D (.lst ys),⟨_,Nat.zero_le _,rfl,by simp,rfl⟩,?_⟩
 rintro i m ys H2 ⟨hi,rfl,hys,rfl⟩
 refine⟨upd_same,?_⟩
 by_cases hlt:i<xs.length
 ·have hl:ys.length≤i:=by
   rw[hys,List.length_map]
   exact Nat.le_trans (List.length_filter_le _ _) (by rw[List.length_take];omega)
  refine .inr ⟨Wk.go i _ (hok D ys hD) hlt,by omega,xs.length-(i+1),by omega,fun x H3 hy=>?_⟩
  obtain⟨e3,ex⟩:=Wk.yld i _ x H3 (hok D ys hD) hy hlt
  subst e3
  have hm:x∈xs:=List.mem_of_getElem? ex
  have et:xs.take (i+1)=xs.take i++[x]:=by rw[List.take_add_one,ex];rfl
  refine ht x hm D ys _ hD ?_
  cases hp:p x with
  | false=>
   rw[if_neg Bool.false_ne_true]
   refine⟨hlt,rfl,?_,rfl⟩
   rw[et,List.filter_append,hys]
   simp[hp]
  | true=>
   rw[if_pos rfl]
   refine he x hm hp D ys _ hD ⟨upd_same,hlt,rfl,?_,by rw[upd_upd]⟩
   rw[et,List.filter_append,hys]
   simp[hp]
 ·have e:i=xs.length:=by omega
  subst e
  refine .inl ⟨Wk.stop _ _ (hok D ys hD) (Nat.le_refl _),?_⟩
  rw[hys,List.take_length]
  exact h D hD
theorem rd_rng1{ta:TA}{σ:St}{H:Hp}{R:It→Hp→Prop}(h:ta σ H fun vs H1=>∃j:Int,vs=[.int j]∧ -(2^62)≤j∧j<2^62∧R (Itr 0 j.toNat) H1):iRng1 ta σ H R:=h
theorem rd_comp{wi:TI}{tt:TT}{te:TE}{σ:St}{H:Hp}{Q:VK}(h:wi σ H (CompR tt te σ Q)):tComp wi tt te σ H Q:=h
theorem comp_go{J:It}{ok:Hp→Prop}{xs:List V}{σ:St}{H:Hp}{Q:VK}{tt:TT}{te:TE}(Wk:Walk J ok xs)(hz:xs.length<sizeLine)(hok:∀D ys,H D=none→ok (upd H D (.lst ys)))(p:V→Bool)(f:V→V)
 (ht:∀x∈xs,∀D ys (Q':Bool→Hp→Prop),H D=none→Q' (p x) (upd H D (.lst ys))→tt (some x::σ) (upd H D (.lst ys)) Q')
 (he:∀x∈xs,p x=true→∀D ys (Q':VK),H D=none→Q' (f x) (upd H D (.lst ys))→te (some x::σ) (upd H D (.lst ys)) Q')
 (h:∀D,H D=none→Q (.ref D) (upd H D (.lst ((xs.filter p).map f)))):CompR tt te σ Q J H:=comp_by Wk hz hok p f ht he h
theorem comp_t{K:PySem.W.Frag}{i:Nat}{a:Addr}{xs:List V}{σ:St}{H:Hp}{Q:VK}{tt:TT}{te:TE}(ei:σ[i]?=some (some (.ref a)))(hS:SqT K H a xs)(hz:xs.length<sizeLine)(p:V→Bool)(f:V→V)
 (ht:∀x∈xs,∀D ys (Q':Bool→Hp→Prop),H D=none→Q' (p x) (upd H D (.lst ys))→tt (some x::σ) (upd H D (.lst ys)) Q')
 (he:∀x∈xs,p x=true→∀D ys (Q':VK),H D=none→Q' (f x) (upd H D (.lst ys))→te (some x::σ) (upd H D (.lst ys)) Q')
 (h:∀D,H D=none→Q (.ref D) (upd H D (.lst ((xs.filter p).map f)))):tComp (iTup K (tVar i)) tt te σ H Q:=
 ⟨_,ei,a,rfl,⟨_,hS⟩,comp_by walk_t hz (fun D ys hD=>(same_new hD _).tup hS) p f ht he h⟩
theorem rd_true{σ:St}{H:Hp}{Q:Bool→Hp→Prop}(h:Q true H):tTrue σ H Q:=h
theorem compOk_freeM{x:Str}{scope:Scope}{cl:List (Str×Addr)}(M N:List Str)(hl:M.length=N.length)(hN:X.N=N)(clos:closureFor scope X.env=pure cl)(hc:(scope.names.all fun y=>y.2 != .cell)=true)(hk:scope.kind=.function)
 (hn:(scope.names.all fun y=>y.2 != .local||scope.names.lookup y.1==some .local)=true)(hx:scope.names.lookup x=some .local)(nd:(x::M).Nodup)
 (hs:∀p∈cl,X.env.cells.lookup p.1=some p.2)
 (hh:((relabel scope X.env).names.all fun p=>(p.2 != .cell&&p.2 != .free)||(cl.lookup p.1).isSome)=true)
 (hv:((M.zip N).all fun q=>match (relabel scope X.env).names.lookup q.1 with
  | some .local=>false
  | some .cell=>q.1==q.2&&(X.env.scope.names.lookup q.1==some .cell||X.env.scope.names.lookup q.1==some .free)
  | some .free=>q.1==q.2&&(X.env.scope.names.lookup q.1==some .cell||X.env.scope.names.lookup q.1==some .free)
  | _=>true)=true):CompOk X M x scope cl:=by
 refine⟨clos,fun y hy=>?_,hk,fun y hy hl=>?_,hx,nd,by rw[hN];exact hl,fun y c h=>hs _ (lookup_mem h),fun y h=>?_,fun i y hy h=>?_⟩
 ·have:=List.all_eq_true.mp hc y hy
  simpa using this
 ·have:=List.all_eq_true.mp hn y hy
  simpa [hl] using this
 ·rcases h with h | h
  ·have:=List.all_eq_true.mp hh _ (lookup_mem h)
   exact Option.isSome_iff_exists.mp (by simpa using this)
  ·have:=List.all_eq_true.mp hh _ (lookup_mem h)
   exact Option.isSome_iff_exists.mp (by simpa using this)
 ·have hi:i<N.length:=by
   have:=(List.getElem?_eq_some_iff.mp hy).1
   omega
  have hz:(y,N[i])∈M.zip N:=by
   have:(M.zip N)[i]?=some (y,N[i]):=List.getElem?_zip_eq_some.mpr ⟨hy,by simp[hi]⟩
   exact List.mem_of_getElem? this
  have z:=List.all_eq_true.mp hv _ hz
  have fin:y=N[i]→X.N[i]?=some y:=fun e=>by rw[hN,e];simp[hi]
  rcases h with h | h | h
  ·dsimp only at z
   rw[h] at z;cases z
  ·dsimp only at z
   rw[h] at z
   simp only[Bool.and_eq_true,beq_iff_eq,Bool.or_eq_true] at z
   exact⟨fin z.1,.inl h,z.2⟩
  ·dsimp only at z
   rw[h] at z
   simp only[Bool.and_eq_true,beq_iff_eq,Bool.or_eq_true] at z
   exact⟨fin z.1,.inr h,z.2⟩
def ItrS(lo c:Int)(n:Nat):It:=⟨fun i _=>i<n,fun i H x H'=>H'=H∧x=.int (lo+i*c),fun i _=>n≤i⟩
theorem turn_rangeS{P:Program}{w:World}{K:PySem.W.Frag}{tg:Expr}(it:Addr)(lo c:Int)(n:Nat):Turn P w K tg (ItrS lo c n) [it] it (fun i h=>IsRangeIter h it (lo+(i:Nat)*c) ((n:Int)-(i:Nat)) c) where
 mem:=by simp
 obj:=fun i h st b hb=>by
  have e:b=it:=by simpa using hb
  subst e
  exact⟨_,st,fun v z=>by
   have z':Data.fields _=Data.cell v:=z
   cases z'⟩
 keep:=fun i h h' st k=>k it (by simp) _ st
 item:=by
  intro X hP hw hK hc i pins s σ H E I hf st hg
  subst hP hw hK
  obtain⟨f0,f1,f2,f3,f4,f5⟩:=hf it (by simp)
  have W:=Walks.range (prog:=X.prog) (w:=X.w) (I.ok.hd hc) it lo c n
  refine W.item i s _ _ hg st fun v h' tk hv st' kk=>?_
  obtain⟨t,rfl⟩:=hv
  have I1:Inv X pins σ H { s with heap:=h',toks:=tk }:=I.turned (fun b o hb e=>kk b o (by simpa using hb) e) f0 f1 f3 f4 f5
  exact⟨_,rfl,go_of (s:={ s with heap:=h',toks:=tk }) (n:="range_iterator") st' rfl rfl (by decide) ⟨.int (lo+i*c),H,I1,⟨t,rfl⟩,⟨rfl,rfl⟩,st',fun b hb=>(hf b hb).1⟩⟩
 done:=by
  intro X hP hw hK hc i pins s σ H E I hf st hg
  subst hP hw hK
  obtain⟨f0,f1,f2,f3,f4,f5⟩:=hf it (by simp)
  exact wpAny_pyNext_range_end (I.ok.hd hc) st (by have:n≤i:=hg;omega) fun h' eb=>⟨rfl,I.turned (t':=s.toks) (fun b o hb e=>eb b o hb e) f0 f1 f3 f4 f5⟩
 self:=fun _ _ _ _ _ st h=>wpAny_pyIter_rangeiter st h
def iRng3(ta:TA):TI:=fun σ H R=>ta σ H fun vs H1=>∃i j c:Int,vs=[.int i,.int j,.int c]∧0<c∧c<1073741824∧Builtin.Range.small i j c=true∧∃n:Nat,(n:Int)=Builtin.Range.rangeSize i j c∧R (ItrS i c n) H1
theorem pi_range3{tg:Expr}{a b d:Expr}{ta:TA}{p pos:Pos}(hg:Gl X "range")(hm:X.mg "range"=none)(ha:PA X [a,b,d] ta)(hs:starEach [a,b,d] X.env=(false,eval a X.env)::starEach [b,d] X.env:=by rfl)
 (hpl:(backTo pos (starEach [b,d] X.env)).any (·.1)=false:=by rfl):PI X tg (.Call (.Name "range" p) [a,b,d] [] pos) (iRng3 ta):=by
 intro pins s σ H R I h
 refine Call_ (ld_blt I hg hm boot_range (PyProof.Rows.callWith_type1 (thn (ha pos pins s σ H _ I h) fun us s1 ⟨vs,H1,I1,r1,q1⟩=>?_) hs hpl))
 obtain⟨lo,hi,c,e,c0,c1,sm,n,hn,q⟩:=q1
 subst e
 cases r1 with
 | cons r rr=>
  cases rr with
  | cons r' rr=>
   cases rr with
   | cons r'' rr=>
    cases rr
    obtain⟨t,rfl⟩:=r
    obtain⟨t',rfl⟩:=r'
    obtain⟨t'',rfl⟩:=r''
    refine PySem.call_range_3 (by omega) ?_ (Or.inl (PyProof.noPylong_small (by omega)))
    refine wpAny_pyIter_range (IsRange.new ..) sm ?_
    have I2:Inv X pins σ H1 { s1 with heap:=s1.heap.push { cls:=.type "range",data:=.fields #[.int lo t,.int hi t',.int c t''] },toks:=s1.toks }:=I1.kept fun b o e=>Heap.get?_push_of_some _ e
    refine⟨(s1.heap.push { cls:=.type "range",data:=.fields #[.int lo t,.int hi t',.int c t''] }).objs.size,[(s1.heap.push { cls:=.type "range",data:=.fields #[.int lo t,.int hi t',.int c t''] }).objs.size],_,_,H1,rfl,
     I2.kept (t':=s1.toks) fun b o e=>Heap.get?_push_of_some _ e,turn_rangeS _ lo c n,?_,fun b hb=>?_,q⟩
    ·have e1:lo+((0:Nat):Int)*c=lo:=by simp
     have e2:(n:Int)-((0:Nat):Int)=Builtin.Range.rangeSize lo hi c:=by rw[←hn];simp
     show IsRangeIter _ _ (lo+((0:Nat):Int)*c) ((n:Int)-((0:Nat):Int)) c
     rw[e1,e2]
     exact Heap.get?_push_size _ rfl
    ·have e:b=(s1.heap.push { cls:=.type "range",data:=.fields #[.int lo t,.int hi t',.int c t''] }).objs.size:=by simpa using hb
     subst e
     exact I2.fpOk (Nat.le_refl _) (I2.hok.fresh (Nat.le_refl _))
theorem rd_rng3{ta:TA}{σ:St}{H:Hp}{R:It→Hp→Prop}(h:ta σ H fun vs H1=>∃i j c:Int,vs=[.int i,.int j,.int c]∧0<c∧c<1073741824∧Builtin.Range.small i j c=true∧∃n:Nat,(n:Int)=Builtin.Range.rangeSize i j c∧R (ItrS i c n) H1):iRng3 ta σ H R:=h
theorem dec_int0{a b:Int}:decide (V.int a=V.int b)=decide (a=b):=by
 rw[Bool.eq_iff_iff]
 simp
theorem small_step{i j c:Int}(i0:0≤i)(i1:i<4294967296)(j0:0≤j)(j1:j<4294967296)(c0:0<c)(c1:c<4294967296):Builtin.Range.small i j c=true:=by
 have e:Builtin.Range.rangeSize i j c=if i<j then (j-i-1)/c+1 else 0:=by
  unfold Builtin.Range.rangeSize
  rw[if_pos c0]
 have b1:∀x:Int,0≤x→x/c≤x:=fun x hx=>Int.ediv_le_self _ hx
 have b2:∀x:Int,0≤x→0≤x/c:=fun x hx=>Int.ediv_nonneg hx (by omega)
 unfold Builtin.Range.small
 rw[e]
 simp only[Builtin.Range.rangeFitsLong,Bool.and_eq_true,Bool.or_eq_true,decide_eq_true_eq,beq_iff_eq,if_pos c0]
 split
 ·have:=b1 (j-i-1) (by omega)
  have:=b2 (j-i-1) (by omega)
  omega
 ·omega
theorem rd_append{K:PySem.W.Frag}{i:Nat}{t:TA}{σ:St}{H:Hp}{Q:VK}{l:Addr}{xs:List V}(e:σ[i]?=some (some (.ref l)))(h:H l=some (.lst xs))
 (g:t σ H fun ys H2=>rAppend (.ref l) ys H2 Q):tBM K "list" rAppend (tVar i) t σ H Q:=⟨_,e,.inl ⟨rfl,_,SqL.of h⟩,g⟩
theorem rd_app{l:Addr}{xs:List V}{y:V}{H:Hp}{Q:VK}(h:H l=some (.lst xs))(hz:xs.length<sizeLine)(q:Q .non (upd H l (.lst (xs++[y])))):rAppend (.ref l) [y] H Q:=⟨l,xs,y,rfl,rfl,h,hz,q⟩
theorem rd_for{wi:TI}{g:TG}{tb:TS}{D:Ends}{σ:St}{H:Hp}(h:wi σ H fun J H1=>∃W:Nat→Nat→St→Hp→Prop,(∃m,W 0 m σ H1)∧∀i m σ H,W i m σ H→
 (J.stop i H∧D.nx σ H)∨(J.go i H∧∃N:St→Hp→Prop,(∀σ' H',N σ' H'→∃m',m'<m∧W (i+1) m' σ' H')∧∀x H',J.yld i H x H'→g x σ H' fun σ2 H2=>tb { D with nx:=N,ct:=N,bk:=D.nx } σ2 H2)):tFor wi g tb D σ H:=h
theorem rd_iL{K:PySem.W.Frag}{tl:TE}{σ:St}{H:Hp}{R:It→Hp→Prop}(h:tl σ H fun x H1=>∃a,x=.ref a∧(∃xs,SqL K H1 a xs)∧R (Itl K a) H1):iList K tl σ H R:=h
theorem rd_iT{K:PySem.W.Frag}{tl:TE}{σ:St}{H:Hp}{R:It→Hp→Prop}(h:tl σ H fun x H1=>∃a,x=.ref a∧(∃xs,SqT K H1 a xs)∧R (Itt K a) H1):iTup K tl σ H R:=h
theorem same_app{H H':Hp}{l:Addr}{o:HO}(h:H l=none)(s:Same H H'):Same H (upd H' l o):=fun b u e=>by
 rw[upd_ne (ne_of_none e h)]
 exact s b u e
end
end L2
set_option Elab.async false
set_option linter.all false
set_option maxRecDepth 100000
set_option maxHeartbeats 4000000
namespace L2
open PySem PySem.Spec PyProof.Rows
def XObj(h:Heap)(e:Addr)(cls:Value)(dd:Option Addr)(head:Value):Prop:=∃vs sl,h.get? e=some ⟨cls,dd,.fields vs,sl⟩∧vs[1]?=some head
def XTr(h base:Heap)(e:Addr)(cls:Value)(dd:Option Addr)(fl:Value):Prop:=∃T,XObj h e cls dd (.ref T)∧base.get? T=none∧T≠e∧∃oT ts,h.get? T=some oT∧oT.data=.fields ts∧ts[3]?=some fl
structure Sea(base:Heap)(l:List Env)(e:Addr)(h:Heap):Prop where
 stays:base.StaysIn h
 new:base.get? e=none
 frames:h.FunFrames base l
section
variable{M:Model}{A:Around}{E:Value→Shared→Prop}{s:Shared}{base:Heap}{env:Env}{outer l:List Env}{L e:Addr}{cls:Value}{dd:Option Addr}
theorem fields_set{o:Obj}{vs:Array Value}(hd:o.data=.fields vs)(i:Nat)(x:Value):Obj.mapFields (·.setIfInBounds i x) o=⟨o.cls,o.dict,.fields (vs.setIfInBounds i x),o.slots⟩:=by
 obtain⟨c,d,dt,sl⟩:=o
 cases hd
 rfl
theorem entry_x{head:Value}{nx:Bool}{Q:Unit→Shared→Prop}(hfr:A.frames=some (env::outer))(hf:env.frame=some L)(S:Sea base (env::outer) e s.heap){hd0:Value}(O:XObj s.heap e cls dd hd0)
 (k:∀h',Sea base (env::outer) e h'→XTr h' base e cls dd (rawInt L)→s.heap.UpToSlots h'→Q () { s with heap:=h' }):
 wpAny M A (do let a ←frameOf env;let pl ←entryPlaceOf L nx;let b ←EntryCells.newEntry head a .none (rawInt L) .none pl;setField (.ref e) 1 b) Q E s:=by
 obtain⟨vs,sl,he,h1⟩:=O
 have nofr:e∉(env::outer).filterMap (·.frame):=fun z=>by
  obtain⟨_,o,ho,hn⟩:=S.frames.mem z
  rw[he] at ho
  cases ho
  exact hn vs rfl
 refine wpAny_bind (wpAny_frameOf_fun hfr S.frames hf fun g1 so=>wpAny_bind (wpAny_entryPlaceOf fun pl hpl=>?_))
 unfold EntryCells.newEntry newFields;refine wpAny_bind (wpAny_newObj_type ?_ (hpl.sizeOk5 _ _ _ _ _))
 generalize hob:({ cls:=.type "traceback",dict:=none,data:=.fields ([head,.ref L,.none,rawInt L,.none]++(if pl.isEmpty then List.replicate 6 Value.none else pl)).toArray }:Obj)=tb
 have e1:g1.get? e=some ⟨cls,dd,.fields vs,sl⟩:=(so.2.1 e nofr).trans he
 have b1:base.StaysIn g1:=fun b o q=>(so.2.1 b fun z=>by rw[(S.frames.mem z).1] at q;cases q).trans (S.stays b o q)
 have e2:(g1.push tb).get? e=some ⟨cls,dd,.fields vs,sl⟩:=Heap.get?_push_of_some _ e1
 have ne:g1.objs.size≠e:=Nat.ne_of_gt (Heap.lt_size e1)
 have sz:1<vs.size:=(Array.getElem?_eq_some_iff.mp h1).1
 have tbf:tb.isFreed=false:=by rw[←hob];rfl
 refine wpAny_setField e2 rfl sz (k _ ⟨fun b o q=>?_,S.new,?_⟩ ?_ ?_)
 ·have hbe:b≠e:=fun z=>by rw[z,S.new] at q;cases q
  rw[Heap.get?_update_other _ _ (Ne.symm hbe)]
  exact Heap.get?_push_of_some _ (b1 b o q)
 ·refine S.frames.of_keeps fun b o q hn=>?_
  have hbe:b≠e:=fun z=>by rw[z,he] at q;cases q;exact hn vs rfl
  obtain⟨sl',q'⟩:=so.2.2 b o q
  refine⟨{ o with slots:=sl' },?_,rfl⟩
  rw[Heap.get?_update_other _ _ (Ne.symm hbe)]
  exact Heap.get?_push_of_some _ q'
 ·refine⟨g1.objs.size,⟨vs.setIfInBounds 1 (.ref g1.objs.size),sl,?_,?_⟩,b1.fresh,ne,tb,([head,.ref L,.none,rawInt L,.none]++(if pl.isEmpty then List.replicate 6 Value.none else pl)).toArray,?_,by rw[←hob],?_⟩
  ·rw[Heap.get?_update_self _ e2 (by rw[fields_set rfl];rfl),fields_set rfl]
  ·rw[Array.getElem?_setIfInBounds_self_of_lt sz]
  ·rw[Heap.get?_update_other _ _ (Ne.symm ne)]
   exact Heap.get?_push_size _ tbf
  ·simp
 ·intro b o q hn
  have hbe:b≠e:=fun z=>by rw[z,he] at q;cases q;exact hn vs rfl
  obtain⟨sl',q'⟩:=so.2.2 b o q
  refine⟨sl',?_⟩
  rw[Heap.get?_update_other _ _ (Ne.symm hbe)]
  exact Heap.get?_push_of_some _ q'
theorem note_new{Q:Unit→Shared→Prop}(hfr:A.frames=some (env::outer))(hf:env.frame=some L)(S:Sea base (env::outer) e s.heap)(O:XObj s.heap e cls dd .none)
 (k:∀h',Sea base (env::outer) e h'→XTr h' base e cls dd (rawInt L)→s.heap.UpToSlots h'→Q () { s with heap:=h' }):wpAny M A (noteFrame (.ref e) env) Q E s:=by
 obtain⟨vs,sl,he,h1⟩:=id O
 unfold noteFrame
 simp only[hf]
 refine wpAny_bind (wpAny_field he rfl h1 ?_)
 rw[if_neg (by decide)]
 exact entry_x hfr hf S O k
theorem note_on{Q:Unit→Shared→Prop}(hfr:A.frames=some (env::outer))(hf:env.frame=some L)(S:Sea base (env::outer) e s.heap)(O:XTr s.heap base e cls dd .none)
 (k:∀h',Sea base (env::outer) e h'→XTr h' base e cls dd (rawInt L)→s.heap.UpToSlots h'→Q () { s with heap:=h' }):wpAny M A (noteFrame (.ref e) env) Q E s:=by
 obtain⟨T,⟨vs,sl,he,h1⟩,tb,ne,oT,ts,hT,dT,h3⟩:=O
 unfold noteFrame
 simp only[hf]
 refine wpAny_bind (wpAny_field he rfl h1 ?_)
 rw[if_pos (show (Value.ref T != Value.none)=true by simp)]
 refine wpAny_bind (wpAny_field hT dT h3 ?_)
 rw[if_neg (show ¬((Value.none==rawInt L)=true) by simp[rawInt])]
 refine wpAny_bind (wpAny_setField hT dT (Array.getElem?_eq_some_iff.mp h3).1 ?_)
 have oth:∀b,b≠T→(s.heap.update T (Obj.mapFields (·.setIfInBounds 3 Value.none))).get? b=s.heap.get? b:=fun b hb=>Heap.get?_update_other _ _ (Ne.symm hb)
 have nT:∀b o,s.heap.get? b=some o→(∀ws,o.data≠.fields ws)→b≠T:=fun b o q hn z=>by
  rw[z,hT] at q
  cases q
  exact hn ts dT
 refine entry_x (hd0:=.ref T) (s:={ s with heap:=s.heap.update T (Obj.mapFields (·.setIfInBounds 3 Value.none)) }) hfr hf ⟨fun b o q=>?_,S.new,?_⟩ ⟨vs,sl,(oth e (Ne.symm ne)).trans he,h1⟩ fun h' a b c=>k h' a b fun x o q hn=>?_
 ·exact(oth b fun z=>by rw[z,tb] at q;cases q).trans (S.stays b o q)
 ·exact S.frames.of_keeps fun b o q hn=>⟨o,(oth b (nT b o q hn)).trans q,rfl⟩
 ·exact c x o ((oth x (nT x o q hn)).trans q) hn
theorem flight_off{fl:Value}{Q:Unit→Shared→Prop}(S:Sea base l e s.heap)(O:XTr s.heap base e cls dd fl)
 (k:∀h',Sea base l e h'→XTr h' base e cls dd .none→s.heap.UpToSlots h'→Q () { s with heap:=h' }):wpAny M A (setFlight (.ref e) none) Q E s:=by
 obtain⟨T,⟨vs,sl,he,h1⟩,tb,ne,oT,ts,hT,dT,h3⟩:=O
 have sz:3<ts.size:=(Array.getElem?_eq_some_iff.mp h3).1
 unfold setFlight
 refine wpAny_bind (wpAny_field he rfl h1 ?_)
 rw[if_pos (show (Value.ref T != Value.none)=true by simp)]
 have oth:∀b,b≠T→(s.heap.update T (Obj.mapFields (·.setIfInBounds 3 ((none:Option Addr).elim Value.none fun f=>rawInt f)))).get? b=s.heap.get? b:=fun b hb=>Heap.get?_update_other _ _ (Ne.symm hb)
 have nT:∀b o,s.heap.get? b=some o→(∀ws,o.data≠.fields ws)→b≠T:=fun b o q hn z=>by
  rw[z,hT] at q
  cases q
  exact hn ts dT
 refine wpAny_setField hT dT sz (k _ ⟨fun b o q=>?_,S.new,?_⟩ ⟨T,⟨vs,sl,(oth e (Ne.symm ne)).trans he,h1⟩,tb,ne,_,ts.setIfInBounds 3 .none,Heap.get?_update_self _ hT ?_,?_,?_⟩ fun b o q hn=>⟨o.slots,(oth b (nT b o q hn)).trans q⟩)
 ·exact(oth b fun z=>by rw[z,tb] at q;cases q).trans (S.stays b o q)
 ·exact S.frames.of_keeps fun b o q hn=>⟨o,(oth b (nT b o q hn)).trans q,rfl⟩
 ·rw[fields_set dT];rfl
 ·rw[fields_set dT];rfl
 ·rw[Array.getElem?_setIfInBounds_self_of_lt sz]
theorem Sea.tail(S:Sea base (env::outer) e s.heap):Sea base outer e s.heap:=⟨S.stays,S.new,S.frames.2.2⟩
theorem leave_new{Q:Unit→Shared→Prop}(hfr:A.frames=some (env::outer))(hf:env.frame=some L)(S:Sea base (env::outer) e s.heap)(O:XObj s.heap e cls dd .none)
 (k:∀h',Sea base outer e h'→XTr h' base e cls dd .none→s.heap.UpToSlots h'→Q () { s with heap:=h' }):wpAny M A (leaving env (.ref e)) Q E s:=by
 unfold leaving
 refine wpAny_bind (note_new hfr hf S O fun h1 S1 O1 u1=>?_)
 exact flight_off (s:={ s with heap:=h1 }) S1 O1 fun h2 S2 O2 u2=>k h2 (Sea.tail (s:={ s with heap:=h2 }) S2) O2 (u1.trans u2)
theorem leave_on{Q:Unit→Shared→Prop}(hfr:A.frames=some (env::outer))(hf:env.frame=some L)(S:Sea base (env::outer) e s.heap)(O:XTr s.heap base e cls dd .none)
 (k:∀h',Sea base outer e h'→XTr h' base e cls dd .none→s.heap.UpToSlots h'→Q () { s with heap:=h' }):wpAny M A (leaving env (.ref e)) Q E s:=by
 unfold leaving
 refine wpAny_bind (note_on hfr hf S O fun h1 S1 O1 u1=>?_)
 exact flight_off (s:={ s with heap:=h1 }) S1 O1 fun h2 S2 O2 u2=>k h2 (Sea.tail (s:={ s with heap:=h2 }) S2) O2 (u1.trans u2)
end
end L2
set_option Elab.async false
set_option linter.all false
set_option maxRecDepth 100000
set_option maxHeartbeats 4000000
namespace L2
open PySem PySem.Spec PyProof.Rows
def Old(fs:List Addr)(H:Hp)(h B:Heap):Prop:=∀b u,h.get? b=some u→b∉fs→∃u',B.get? b=some u'∧(H b=none→u'=u)
def Tra(H:Hp)(h B:Heap):Prop:=∀b o,H b=some o→∃u,h.get? b=some u∧B.get? b=some u
section
variable{P:Program}{w:World}{fs:List Addr}{H H':Hp}{h h1 h2 B:Heap}
theorem un_flown(u:Un fs [] H H' h h1)(o:Old fs H h B)(st:B.StaysIn h2)(up:h1.UpToSlots h2)(fr:∀b∈fs,∃ob,h1.get? b=some ob∧∀vs,ob.data≠.fields vs):Un fs [] H H' h h2 where
 keep:=fun b ob q n hb hx=>by
  obtain⟨u',e,z⟩:=o b ob q hb
  rw[z n] at e
  exact st _ _ e
 slot:=fun b ob q n hb hx=>by
  obtain⟨sl,e⟩:=u.slot b ob q n hb hx
  obtain⟨o2,e2,nf⟩:=fr b hb
  rw[e] at e2
  cases e2
  obtain⟨sl',e3⟩:=up b _ e nf
  exact⟨sl',e3⟩
 free:=u.free
 there:=fun b ob q hx=>by
  by_cases hb:b∈fs
  ·obtain⟨o2,e2,nf⟩:=fr b hb
   obtain⟨sl,e3⟩:=up b _ e2 nf
   exact⟨_,e3⟩
  ·obtain⟨u',e,_⟩:=o b ob q hb
   exact⟨u',st _ _ e⟩
 tups:=u.tups
 frzs:=u.frzs
 tbls:=u.tbls
theorem hok_flown(ok:HOk P w H' h1)(t:Tra H' h1 B)(st:B.StaysIn h2):HOk P w H' h2:=fun a o e=>by
 refine(ok a o e).stay (fun b u hb q=>?_) (fun _ q=>q) fun _ _ q=>q
 have go:∀ob,H' b=some ob→h2.get? b=some u:=fun ob z=>by
  obtain⟨u',e1,e2⟩:=t b ob z
  rw[q] at e1
  cases e1
  exact st _ _ e2
 rcases hb with z | z
 ·exact go o (z ▸ e)
 ·exact go _ z
theorem Tra.later(t:Tra H' h1 B)(st:B.StaysIn h2):Tra H' h2 B:=fun b o e=>by
 obtain⟨u,_,q⟩:=t b o e
 exact⟨u,st _ _ q,q⟩
end
def CX1(P:Program)(w:World):CXT:=fun outer H s E e s'=>∃(ea:Addr) (cls:Value) (dx:Option Addr) (B:Heap) (H':Hp),e=.ref ea∧s'.os=s.os∧AllBare s'.gens∧Un (frs outer) [] H H' s.heap s'.heap∧
 HOk P w H' s'.heap∧Sea B outer ea s'.heap∧XTr s'.heap B ea cls dx .none∧Old (frs outer) H s.heap B∧Tra H' s'.heap B∧E cls dx H'
def CXM(P:Program)(w:World):CXT:=fun outer H s E e s'=>∃(ea:Addr) (cls:Value) (dx:Option Addr) (B:Heap) (H':Hp),e=.ref ea∧s'.os=s.os∧AllBare s'.gens∧Un (frs outer) [] H H' s.heap s'.heap∧
 HOk P w H' s'.heap∧Sea B outer ea s'.heap∧XObj s'.heap ea cls dx .none∧Old (frs outer) H s.heap B∧Tra H' s'.heap B∧E cls dx H'
structure Thr(X:Cx)(EE:Value→Option Addr→St→Hp→Prop):Prop where
 call:∀(pins:List (Addr×Obj)) (σ:St) (H:Hp) (s:Shared) (e:Value) (s':Shared),Inv X pins σ H s→CX1 X.prog X.w X.stack H s (fun c d H'=>EE c d σ H') e s'→X.xe e s'
 made:∀(pins:List (Addr×Obj)) (σ:St) (H:Hp) (s:Shared) (e:Value) (s':Shared),Inv X pins σ H s→CXM X.prog X.w X.stack H s (fun c d H'=>EE c d σ H') e s'→X.xe e s'
section
variable{X:Cx}{pins:List (Addr×Obj)}{σ:St}{H H':Hp}{s:Shared}
theorem frames_are(I:Inv X pins σ H s){s':Shared}(u:Un (frs X.stack) [] H H' s.heap s'.heap):∀b∈frs X.stack,∃ob,s'.heap.get? b=some ob∧∀vs,ob.data≠.fields vs:=fun b hb=>by
 obtain⟨_,o,ho,hn⟩:=I.stack.mem hb
 obtain⟨sl,e⟩:=u.any ho (I.stkFree b hb) (by simp)
 exact⟨_,e,hn⟩
theorem un_out{s2:Heap}(I:Inv X pins σ H s)(hx:X.ex=[])(hst:X.stack=X.env::X.outer)(hfr:X.env.frame=some X.env.locals)(u:Un (frs X.stack) [] H H' s.heap s2):Un X.fs [] X.H₀ H' X.s₀.heap s2:=by
 have nl:∀b o,X.s₀.heap.get? b=some o→b≠X.env.locals:=fun b o e=>Nat.ne_of_lt (Nat.lt_of_lt_of_le (Heap.lt_size e) I.ok.above)
 have sub:∀b,b∈frs X.stack→b=X.env.locals∨b∈X.fs:=fun b hb=>List.mem_cons.mp (I.stkSub b hb)
 have sup:∀b,b∈X.fs→b∈frs X.stack:=fun b hb=>by
  rw[hst]
  show b∈(X.env::X.outer).filterMap (·.frame)
  rw[List.filterMap_cons,hfr]
  exact List.mem_cons_of_mem _ hb
 have ie:∀b,b∉X.ex:=fun b=>by rw[hx];simp
 exact{
  keep:=fun b o e n hb _=>u.keep b o (I.base.keep b o e n hb (ie b)) (I.base.free b o e n (ie b)) (fun z=>(sub b z).elim (nl b o e) hb) (by simp)
  slot:=fun b o e n hb _=>by
   obtain⟨sl,e1⟩:=I.base.slot b o e n hb (ie b)
   obtain⟨sl',e2⟩:=u.slot b _ e1 (I.base.free b o e n (ie b)) (sup b hb) (by simp)
   exact⟨sl',e2⟩
  free:=fun b o e n _=>by
   obtain⟨o',e1⟩:=I.base.there b o e (ie b)
   exact u.free b o' e1 (I.base.free b o e n (ie b)) (by simp)
  there:=fun b o e _=>by
   obtain⟨o',e1⟩:=I.base.there b o e (ie b)
   exact u.there b o' e1 (by simp)
  tups:=fun b xs e=>u.tups b xs (I.base.tups b xs e)
  frzs:=fun b o xs e=>u.frzs b o xs (I.base.frzs b o xs e)
  tbls:=fun b ps e=>by
   obtain⟨m1,e1⟩:=I.base.tbls b ps e
   obtain⟨m2,e2⟩:=u.tbls b _ e1
   exact⟨m1++m2,by rw[e2,Array.append_assoc]⟩ }
theorem old_out{B:Heap}(I:Inv X pins σ H s)(hx:X.ex=[])(o:Old (frs X.stack) H s.heap B):Old X.fs X.H₀ X.s₀.heap B:=fun b u e hb=>by
 have ie:b∉X.ex:=by rw[hx];simp
 have hs:b∉frs X.stack:=fun z=>(List.mem_cons.mp (I.stkSub b z)).elim (fun q=>Nat.lt_irrefl _ (Nat.lt_of_lt_of_le (Heap.lt_size e) (q ▸ I.ok.above))) hb
 obtain⟨o',e1⟩:=I.base.there b u e ie
 obtain⟨u',e2,z⟩:=o b o' e1 hs
 refine⟨u',e2,fun n=>?_⟩
 have e3:=I.base.keep b u e n hb ie
 rw[e1] at e3
 cases e3
 exact z (I.base.free b _ e n ie)
end
theorem ObjOk.obj{P:Program}{w:World}{H:Hp}{h:Heap}{a:Addr}{o:HO}(x:ObjOk P w H h a o):∃u,h.get? a=some u:=by
 cases o with
 | lst xs=>obtain⟨_,_,_,_,e⟩:=x;exact⟨_,e⟩
 | tup xs=>obtain⟨_,_,_,ob,e,_⟩:=x;exact⟨_,e⟩
 | dK kvs=>obtain⟨_,_,_,_,ob,_,_,e,_⟩:=x;exact⟨_,e⟩
 | dT kvs=>obtain⟨_,_,_,_,ob,_,_,e,_⟩:=x;exact⟨_,e⟩
 | set S n=>obtain⟨ob,_,_,_,e,_⟩:=x;exact⟨_,e⟩
 | ins C dx fs=>obtain⟨_,_,_,e,_⟩:=x;exact⟨_,e⟩
 | own y=>exact x
 | xd fs=>obtain⟨_,⟨ob,_,_,e,_⟩,_⟩:=x;exact⟨_,e⟩
 | rng lo hi=>obtain⟨_,_,_,e⟩:=x;exact⟨_,e⟩
 | frz ob u=>exact⟨_,x.1⟩
 | tbl ps=>exact⟨_,x⟩
 | met f y=>exact⟨_,x⟩
 | ext φ=>exact x.2.1
theorem cxm_made{X:Cx}{pins:List (Addr×Obj)}{σ:St}{H H':Hp}{s s':Shared}{e:Addr}{cls:Value}{dx:Option Addr}{E:XK}(I:Inv X pins σ H s)(I':Inv X pins σ H' s')(un:Un (frs X.stack) [] H H' s.heap s'.heap)(os:s'.os=s.os)(O:XObj s'.heap e cls dx .none)(hn:s.heap.get? e=none)(hn':H' e=none)
 (q:E cls dx H'):CXM X.prog X.w X.stack H s E (.ref e) s':=by
 refine⟨e,cls,dx,PySem.W.hideAll s'.heap (e::frs X.stack),H',rfl,os,I'.bare,un,I'.hok,⟨fun b o z=>PySem.W.of_hideAll _ z,PySem.W.hideAll_none _ (by simp),?_⟩,O,fun b u z hb=>?_,fun b o z=>?_,q⟩
 ·refine PySem.W.funFrames_hide I'.stack fun env he a ha=>List.mem_cons_of_mem _ ?_
  exact List.mem_filterMap.mpr ⟨env,he,ha⟩
 ·have ne:b∉e::frs X.stack:=fun hm=>(List.mem_cons.mp hm).elim (fun r=>by rw[r,hn] at z;cases z) hb
  obtain⟨u',e1⟩:=un.there b u z (by simp)
  refine⟨u',PySem.W.hideAll_get _ e1 ne,fun n=>?_⟩
  have e2:=un.keep b u z n hb (by simp)
  rw[e1] at e2
  cases e2
  rfl
 ·obtain⟨u,hu⟩:=(I'.hok b o z).obj
  refine⟨u,hu,PySem.W.hideAll_get _ hu fun hm=>?_⟩
  rcases List.mem_cons.mp hm with r | r
  ·rw[r,hn'] at z;cases z
  ·rw[I'.stkFree b r] at z;cases z
theorem thr_fn{P:Program}{w:World}{K:PySem.W.Frag}{mg:Str→Option Value}{base:Heap}{N:List Str}{qual:Str}{scope:Scope}{f:Addr}{cd:Value}{A:Around}{outer:List Env}{s₀:Shared}{H₀:Hp}{E:XK}:
 Thr (cxOf (CX1 P w) P w K mg base N qual scope f cd A outer s₀ H₀ E) (fun c d _ H'=>E c d H') where
 call:=by
  rintro pins σ H s e s' I ⟨ea,cls,dx,B,H',rfl,os,bare,un,hok,sea,tr,old,tra,q⟩
  refine leave_on (A:=(cxOf (CX1 P w) P w K mg base N qual scope f cd A outer s₀ H₀ E).A) (I.ok.frames) rfl sea tr fun h2 S2 O2 u2=>?_
  refine⟨ea,cls,dx,B,H',rfl,os.trans I.os,bare,?_,hok_flown hok tra S2.stays,S2,O2,old_out I rfl old,tra.later S2.stays,q⟩
  exact un_out I rfl rfl rfl (un_flown un old S2.stays u2 (frames_are I un))
 made:=by
  rintro pins σ H s e s' I ⟨ea,cls,dx,B,H',rfl,os,bare,un,hok,sea,tr,old,tra,q⟩
  refine leave_new (A:=(cxOf (CX1 P w) P w K mg base N qual scope f cd A outer s₀ H₀ E).A) (I.ok.frames) rfl sea tr fun h2 S2 O2 u2=>?_
  refine⟨ea,cls,dx,B,H',rfl,os.trans I.os,bare,?_,hok_flown hok tra S2.stays,S2,O2,old_out I rfl old,tra.later S2.stays,q⟩
  exact un_out I rfl rfl rfl (un_flown un old S2.stays u2 (frames_are I un))
end L2
set_option Elab.async false
set_option linter.all false
set_option maxRecDepth 100000
set_option maxHeartbeats 4000000
namespace L2
open PySem PySem.Spec PyProof.Rows
section
variable{P:Program}{w:World}{K:PySem.W.Frag}{mg:Str→Option Value}{base:Heap}
theorem Fun.okE{x qual:Str}{st:Stmt}{f:Addr}{fd:FuncData}{N ps:List Str}{k:Nat}{sp:Sp}(F:Fun K x qual st f fd)(S:FnScope N ps (defScope st))(len:∀vs H Q E,sp vs H Q E→vs.length=ps.length)
 (hbody:∀(cdv:Value) (A:Around) (outer:List Env) (s:Shared) (H:Hp) (vs:List V) (Q:VK) (E:XK),Room k (A.deeper (envOfC qual (defScope st) s.heap.objs.size f cdv))→sp vs H Q E→
  Thr (cxOf (CX1 P w) P w K mg base N qual (defScope st) f cdv A outer s H E) (fun c d _ H'=>E c d H')→
  ∃t,PSs (cxOf (CX1 P w) P w K mg base N qual (defScope st) f cdv A outer s H E) (defBody st) t∧t { nx:=fun _ H'=>Q .non H',rt:=Q } (start N vs) H):FnOk P w K mg base (CX1 P w) (k+1) f fd ps sp:=by
 obtain⟨oc,od,kV,doc,pm,an,cdv,ct,osl,rfl,lk,hcd⟩:=F.ex
 exact fn_of lk hcd S len fun A outer s H vs Q E hr hsp=>hbody cdv A outer s H vs Q E hr hsp thr_fn
end
structure CalE(P:Program)(w:World)(K:PySem.W.Frag)(mg:Str→Option Value)(base:Heap)(k:Nat)(x:Str)(ps:List Str)(sp:Sp):Prop where
 ex:∃(f:Addr) (fd:FuncData),FnOk P w K mg base (CX1 P w) k f fd ps sp∧Binds K fd ps []∧PySem.W.keepIn K (.ref f)=true∧mg x=some (.ref f)
theorem cx0_le{P:Program}{w:World}{K:PySem.W.Frag}{mg:Str→Option Value}{base:Heap}{k:Nat}{f:Addr}{fd:FuncData}{ps:List Str}{sp:Sp}(F:FnOk P w K mg base CX0 k f fd ps sp):FnOk P w K mg base (CX1 P w) k f fd ps sp:=
 ⟨F.len,fun A outer s H args us vs Q E hr e0 hb r hs=>codeAny_mono (F.run A outer s H args us vs Q E hr e0 hb r hs) fun z s' q=>by
  cases z with
  | error e=>exact q.elim
  | ok fl=>cases fl<;>exact q⟩
def tCallE(sp:Sp)(EE:Value→Option Addr→St→Hp→Prop)(t:TA):TE:=fun σ H Q=>t σ H fun vs H1=>sp (vs++[]) H1 Q (fun c d H'=>EE c d σ H')
section
variable{X:Cx}{EE:Value→Option Addr→St→Hp→Prop}
theorem pe_calE{k:Nat}{x:Str}{ps:List Str}{sp:Sp}{e:Expr}{es:List Expr}{t:TA}{p pos:Pos}(T:Thr X EE)(C:CalE X.prog X.w X.K X.mg X.base k x ps sp)(hr:Room k X.A)(hg:Gl X x)(ha:PA X (e::es) t)
 (hdb:(x==("__debug__":Str))=false:=by decide)(he:starEach (e::es) X.env=(false,eval e X.env)::starEach es X.env:=by rfl)(hpl:(backTo pos (starEach es X.env)).any (·.1)=false:=by rfl):
 PE X (.Call (.Name x p) (e::es) [] pos) (tCallE sp EE t):=by
 intro pins s σ H Q I h
 obtain⟨f,fd,F,b,kp,m⟩:=C.ex
 refine wpAny_Call_Name_kw (ld_glob I hg m ?_ hdb)
 refine PySem.W.callWith_K (h₀:=X.base) I.ok.mod.kin kp (thn (ha pos pins s σ H _ I h) fun us s1 ⟨vs,H1,I1,r,q⟩=>⟨I1.kIn,?_⟩) he hpl
 dsimp only at q
 rw[List.append_nil] at q
 have hl:us.length=ps.length:=by rw[←r.length];exact F.len _ _ _ _ q
 have hb:=b s1 us I1.kIn (by rw[List.append_nil];exact hl)
 rw[List.append_nil] at hb
 show wpAny _ _ (call (.ref f) us) _ _ _
 refine wpAny_call (codeAny_mono (F.run X.A X.stack s1 H1 ⟨us,[]⟩ us vs Q _ hr I1.env0 hb r q) fun z s' hq=>?_)
 cases z with
 | error e=>exact T.call pins σ H1 s1 e s' I1 hq
 | ok fl=>
  cases fl with
  | ret u=>exact I1.after hq
  | next=>exact False.elim hq
  | brk=>exact False.elim hq
  | cont=>exact False.elim hq
theorem exc_cls{K:PySem.W.Frag}{h:Heap}{C:Addr}{bmB:List Value}{newId:String}(KX:K.In h)(q:PySem.W.excIn K C bmB newId=true):
 ∃bm N nm qn bs hd sn sub ab col dd k0 k1 k2 k3 k5 mN,h.get? C=some (excClassObj nm qn C N bs bm hd sn sub ab col dd k0 k1 k2 k3 k5 newId)∧h.Ns N mN∧mN "__init__"=none∧OwnTail h bmB bm:=by
 unfold PySem.W.excIn at q
 split at q
 ·rename_i dd cd sl ho
  split at q
  ·rename_i C' bm k0 k1 k2 k3 n k5 hm hs
   simp only[Bool.and_eq_true,beq_iff_eq,Bool.not_eq_true'] at q
   obtain⟨⟨⟨⟨⟨e1,e2⟩,hdel⟩,ht⟩,hok⟩,hni⟩:=q
   subst e1 e2
   obtain⟨nm,bs,mro,ns,qn,hd,sn,sub,ab,col,del⟩:=cd
   dsimp only at hm hdel hok hni
   subst hm hdel
   obtain⟨l⟩:=sl
   dsimp only at hs
   subst hs
   exact⟨bm,ns,nm,qn,bs,hd,sn,sub,ab,col,dd,k0,k1,k2,k3,k5,_,KX _ _ ho,.of_isNs (PySem.W.isNs_of_in KX hok),PySem.W.nsMap_none_of_in KX hok hni,PySem.W.tail_of_in KX ht⟩
  ·cases q
 ·cases q
abbrev bmV:List Value:=[.type "ValueError",.type "Exception",.type "BaseException",.type "object"]
structure XCls(K:PySem.W.Frag)(mg:Str→Option Value)(x:Str)(C:Addr):Prop where
 bound:mg x=some (.ref C)
 exc:PySem.W.excIn K C bmV "ValueError.__new__"=true
def tRaise(C:Addr)(EE:Value→Option Addr→St→Hp→Prop)(ta:TA):TS:=fun _ σ H=>ta σ H fun vs H1=>vs.length≤sizeLine∧EE (.ref C) none σ H1
theorem ps_raise{x:Str}{C:Addr}{e:Expr}{es:List Expr}{t:TA}{np cpos pos:Pos}(T:Thr X EE)(hc:X.calm=true)(O:XCls X.K X.mg x C)(hg:Gl X x)(ha:PA X (e::es) t)
 (hdb:(x==("__debug__":Str))=false:=by decide)(he:starEach (e::es) X.env=(false,eval e X.env)::starEach es X.env:=by rfl)(hpl:(backTo cpos (starEach es X.env)).any (·.1)=false:=by rfl):
 PS X (.Raise (some (.Call (.Name x np) (e::es) [] cpos)) none pos) (tRaise C EE t):=by
 intro pins s σ H D I h
 obtain⟨tl,N,nm,qn,bs,hd,sn,sub,ab,col,dd,k0,k1,k2,k3,k5,mN,hC,hN,hni,TL⟩:=exc_cls I.ok.mod.kin O.exc
 have FV:=PySem.F.excBase_ValueError
 refine wpAny_Raise_call_subU (C:=C) (nm:=nm) (q:=qn) (N:=N) (bs:=bs) (bm:=tl) (hdct:=hd) (sn:=sn) (sub:=sub) (ab:=ab) (col:=col) (dd:=dd) (k0:=k0) (k1:=k1) (k2:=k2) (k3:=k3) (k5:=k5)
  FV (by decide +kernel) FV (mN:=mN) (TL.hasType FV.hasBase) (I.ok.hd hc) ?_ hni (ld_glob I hg O.bound ⟨rfl,?_⟩ hdb)
 ·rw[he]
  show(false||(backTo cpos (starEach es X.env)).any (·.1))=false
  rw[hpl];rfl
 have hh:=thn (ha cpos pins s σ H _ I h) (Q':=fun vs s₂=>vs.length≤sizeLine∧(∀b o,X.base.get? b=some o→s₂.heap.get? b=some o)∧∀h' ea,Heap.MadeExcOf s₂.heap h' ea (.ref C) vs→X.xe (.ref ea) { s₂ with heap:=h' }) fun us s1 ⟨vs,H1,I1,r,hz,q⟩=>by
  refine⟨by rw[←r.length];exact hz,I1.bk,fun h' ea M=>?_⟩
  obtain⟨ta,e1,_,_⟩:=M.there
  have I2:Inv X pins σ H1 { s1 with heap:=h' }:=I1.kept (t':=s1.toks) M.keeps
  have hn:H1 ea=none:=by
   cases z:H1 ea with
   | none=>rfl
   | some o=>
    obtain⟨u,hu⟩:=(I1.hok ea o z).obj
    rw[M.new] at hu;cases hu
  exact T.made pins σ H1 s1 _ _ I1 (cxm_made I1 I2 (Un.kept M.keeps) rfl ⟨_,#[],e1,rfl⟩ M.new hn q)
 rw[he] at hh ⊢
 exact Calls.evalArgs_plain (thn hh fun vs s₂ h₂=>⟨rfl,h₂.1,h₂.2.1 _ _ hC,hN.keeps h₂.2.1,TL.keeps h₂.2.1,h₂.2.2⟩)
end
end L2
set_option Elab.async false
set_option linter.all false
set_option maxRecDepth 100000
set_option maxHeartbeats 4000000
namespace L2
open PySem PySem.Spec PyProof.Rows
theorem Inv.re{X Y:Cx}{pins pins':List (Addr×Obj)}{σ:St}{H:Hp}{s:Shared}(I:Inv X pins σ H s)(ok:Y.Ok)(e1:Y.prog=X.prog)(e2:Y.w=X.w)(e3:Y.s₀=X.s₀)(e4:Y.outer=X.outer)(e5:Y.ex=X.ex)(e6:Y.H₀=X.H₀)(e7:Y.env=X.env)(e8:Y.N=X.N)
 (hp:∀p∈Y.pn++pins',p∈X.pn++pins):Inv Y pins' σ H s:=by
 obtain⟨P,w,K,mg,base,A,N,s₀,H₀,env,outer,stack,ex,fn,calm,pn,xe⟩:=X
 obtain⟨P',w',K',mg',base',A',N',s₀',H₀',env',outer',stack',ex',fn',calm',pn',xe'⟩:=Y
 dsimp only at e1 e2 e3 e4 e5 e6 e7 e8
 subst e1 e2 e3 e4 e5 e6 e7 e8
 exact⟨ok,I.os,I.bare,I.base,I.loc,I.cell,I.free,I.freeC,fun p h=>I.pin p (hp p h),I.hok,I.len⟩
abbrev Cx.tr(X:Cx)(xe:Value→Shared→Prop)(pn:List (Addr×Obj)):Cx:={ X with xe:=xe,pn:=pn }
abbrev Cx.hd(X:Cx)(e:Addr):Cx:={ X with A:=X.A.mark (some (.ref e)),calm:=false,xe:=fun _ _=>False }
theorem Cx.Ok.tr{X:Cx}(ok:X.Ok)(xe:Value→Shared→Prop)(pn:List (Addr×Obj)):(X.tr xe pn).Ok:=
 ⟨ok.mod,ok.kind,ok.glob,ok.blt,ok.above,ok.inj,ok.has,ok.cab,ok.hd,ok.frames,ok.stk,ok.exf,ok.bs,ok.bsz,ok.noex,ok.exfs,ok.funs,ok.frf⟩
theorem Cx.Ok.hdl{X:Cx}(ok:X.Ok)(e:Addr):(X.hd e).Ok:=
 ⟨ok.mod,ok.kind,ok.glob,ok.blt,ok.above,ok.inj,ok.has,ok.cab,(fun h=>nomatch h),ok.frames,ok.stk,ok.exf,ok.bs,ok.bsz,ok.noex,ok.exfs,ok.funs,ok.frf⟩
def ExcO(a:Addr)(cls:Value)(dx:Option Addr):HO:=.ext fun h=>∃vs sl,h.get? a=some ⟨cls,dx,.fields vs,sl⟩
structure Fl(X:Cx)(pins:List (Addr×Obj))(σ:St)(H:Hp)(s':Shared)(ea:Addr)(cls:Value)(dx:Option Addr):Prop where
 ex:∃(s₀:Shared) (H₀:Hp) (B:Heap),Inv X pins σ H₀ s₀∧s'.os=s₀.os∧AllBare s'.gens∧Un (frs X.stack) [] H₀ H s₀.heap s'.heap∧HOk X.prog X.w H s'.heap∧Sea B X.stack ea s'.heap∧XTr s'.heap B ea cls dx .none∧Old (frs X.stack) H₀ s₀.heap B∧Tra H s'.heap B
section
variable{X:Cx}{pins:List (Addr×Obj)}{σ:St}{H:Hp}{s:Shared}{ea:Addr}{cls:Value}{dx:Option Addr}
theorem Fl.inv(F:Fl X pins σ H s ea cls dx):Inv X pins σ H s:=by
 obtain⟨s₀,H₀,B,I,os,bare,un,hok,_⟩:=F.ex
 exact I.call' (ch:=[]) os un hok bare (fun b z=>nomatch z)
theorem Fl.obj(F:Fl X pins σ H s ea cls dx):∃vs sl,s.heap.get? ea=some ⟨cls,dx,.fields vs,sl⟩:=by
 obtain⟨s₀,H₀,B,I,os,bare,un,hok,sea,⟨T,⟨vs,sl,e,_⟩,_⟩,_⟩:=F.ex
 exact⟨vs,sl,e⟩
theorem Fl.free(F:Fl X pins σ H s ea cls dx):H ea=none:=by
 obtain⟨s₀,H₀,B,I,os,bare,un,hok,sea,_,_,tra⟩:=F.ex
 cases z:H ea with
 | none=>rfl
 | some o=>
  obtain⟨u,_,q⟩:=tra ea o z
  rw[sea.new] at q;cases q
theorem Fl.land{Q:Unit→Shared→Prop}{A:Around}{E:Value→Shared→Prop}(F:Fl X pins σ H s ea cls dx)(k:∀s',Inv X pins σ (upd H ea (ExcO ea cls dx)) s'→Q () s'):wpAny (model X.prog X.w) A (setFlight (.ref ea) none) Q E s:=by
 have hn:=F.free
 obtain⟨s₀,H₀,B,I,os,bare,un,hok,sea,tr,old,tra⟩:=F.ex
 refine flight_off sea tr fun h2 S2 O2 u2=>k _ ?_
 have un2:=un_flown un old S2.stays u2 (frames_are I un)
 have hok2:=hok_flown hok tra S2.stays
 obtain⟨T,⟨vs,sl,e,_⟩,_⟩:=O2
 have nf:ea∉frs X.stack:=fun z=>by
  obtain⟨_,o,ho,hn⟩:=S2.frames.mem z
  rw[e] at ho
  cases ho
  exact hn vs rfl
 have new0:s₀.heap.get? ea=none:=by
  cases z:s₀.heap.get? ea with
  | none=>rfl
  | some u=>
   obtain⟨u',q,_⟩:=old ea u z nf
   rw[S2.new] at q;cases q
 have ne:∀b u,s₀.heap.get? b=some u→b≠ea:=fun b u q z=>by rw[z,new0] at q;cases q
 refine I.call' (ch:=[]) (s':={ s with heap:=h2 }) os ?_ ?_ bare (fun b z=>nomatch z)
 ·exact⟨un2.keep,un2.slot,fun b o q n hx=>by rw[upd_ne (ne b o q)];exact un2.free b o q n hx,un2.there,fun b xs q=>by rw[upd_ne (ne_of_none (un2.tups b xs q) hn)];exact un2.tups b xs q,
   fun b o u q=>by rw[upd_ne (ne_of_none (un2.frzs b o u q) hn)];exact un2.frzs b o u q,fun b ps q=>by
    obtain⟨more,z⟩:=un2.tbls b ps q
    exact⟨more,by rw[upd_ne (ne_of_none z hn)];exact z⟩⟩
 ·intro a o q
  by_cases ha:a=ea
  ·subst ha
   rw[upd_same] at q
   cases q
   refine⟨⟨vs,sl,e⟩,⟨_,e⟩,?_⟩
   rintro h1 h3 ⟨vs',sl',q⟩ kk
   exact⟨vs',sl',kk _ q⟩
  ·rw[upd_ne ha] at q
   refine(hok2 a o q).stay (fun b u _ z=>z) (fun b z=>?_) fun b xs z=>?_
   ·rw[upd_ne (ne_of_none z hn)];exact z
   ·rw[upd_ne (ne_of_none z hn)];exact z
structure HCls(K:PySem.W.Frag)(mg:Str→Option Value)(x:Str)(C:Addr):Prop where
 bound:mg x=some (.ref C)
 ty:PySem.W.typeIn K (.ref C)=some (.type "type")
 cls:(PySem.W.clsIn K C).isSome=true
 base:PySem.W.mroIn K C (.type "BaseException")=some true
theorem exc_match{K:PySem.W.Frag}{mg:Str→Option Value}{x:Str}{M:Model}{A:Around}{E:Value→Shared→Prop}{s:Shared}{e C C':Addr}{dx:Option Addr}{vs:Array Value}{sl:Array (Option Value)}{b:Bool}{Q:Bool→Shared→Prop}(KX:K.In s.heap)(O:HCls K mg x C)
 (he:s.heap.get? e=some ⟨.ref C',dx,.fields vs,sl⟩)(hm:PySem.W.mroIn K C' (.ref C)=some b)(q:Q b s):wpAny M A (excMatches (.ref e) (.ref C)) Q E s:=by
 have L1:PySem.W.Looks M s.heap (isInstance (.ref C) (.type "tuple")) false:=(PySem.W.looks_typeIn KX O.ty).andThen (.of_pure tc_notTuple)
 have L2:PySem.W.Looks M s.heap (isType (.ref C)) true:=by
  have hc:=O.cls
  unfold PySem.W.clsIn at hc
  split at hc
  ·rename_i c' d' cd' sl' ho
   intro A' Q' E' s' k q
   unfold isType loadHead
   exact wpAny_bind (wpAny_loadPart (k _ _ (KX _ _ ho)) (wpAny_pure q))
  ·cases hc
 have L3:=PySem.W.looks_mroIn (M:=M) KX O.base
 have L4:PySem.W.Looks M s.heap (typeOf (.ref e)) (.ref C'):=(PySem.W.Looks.ld he).andThen .now
 have L5:=PySem.W.looks_mroIn (M:=M) KX hm
 unfold excMatches
 refine wpAny_bind (L1.here ?_)
 simp only[Bool.false_eq_true,if_false]
 refine wpAny_bind (wpAny_pure ?_)
 refine wpAny_bind ?_
 rw[List.forIn_cons]
 refine wpAny_bind (wpAny_bind ?_)
 unfold isExcClass
 refine wpAny_bind (L2.here ?_)
 rw[if_pos rfl]
 refine L3.here ?_
 simp only[Bool.not_true,Bool.false_eq_true,if_false]
 refine wpAny_pure ?_
 dsimp only
 rw[List.forIn_nil]
 refine wpAny_pure (wpAny_bind (L4.here (wpAny_bind ?_)))
 rw[List.forIn_cons]
 refine wpAny_bind (wpAny_bind (L5.here ?_))
 cases b with
 | true=>
  rw[if_pos rfl]
  exact wpAny_pure (wpAny_pure (wpAny_pure q))
 | false=>
  rw[if_neg Bool.false_ne_true]
  refine wpAny_pure ?_
  dsimp only
  rw[List.forIn_nil]
  exact wpAny_pure (wpAny_pure q)
end
end L2
set_option Elab.async false
set_option linter.all false
set_option maxRecDepth 100000
set_option maxHeartbeats 4000000
namespace L2
open PySem PySem.Spec PyProof.Rows
theorem SP.re{X Y:Cx}{pins pins':List (Addr×Obj)}{D:Ends}{f:Flow}{s:Shared}(h:SP X pins D f s)(k:∀σ H,Inv X pins σ H s→Inv Y pins' σ H s):SP Y pins' D f s:=by
 cases f with
 | next=>obtain⟨σ,H,I,q⟩:=h;exact⟨σ,H,k _ _ I,q⟩
 | brk=>obtain⟨σ,H,I,q⟩:=h;exact⟨σ,H,k _ _ I,q⟩
 | cont=>obtain⟨σ,H,I,q⟩:=h;exact⟨σ,H,k _ _ I,q⟩
 | ret u=>obtain⟨v,σ,H,I,r,q⟩:=h;exact⟨v,σ,H,k _ _ I,r,q⟩
section
variable{X:Cx}{pins:List (Addr×Obj)}{σ:St}{H:Hp}{s:Shared}
theorem Inv.toHd(I:Inv X pins σ H s)(e:Addr):Inv (X.hd e) pins σ H s:=I.re (I.ok.hdl e) rfl rfl rfl rfl rfl rfl rfl rfl fun _ h=>h
theorem Inv.ofHd{e:Addr}(o:X.Ok)(I:Inv (X.hd e) pins σ H s):Inv X pins σ H s:=I.re o rfl rfl rfl rfl rfl rfl rfl rfl fun _ h=>h
theorem Inv.toTr(I:Inv X pins σ H s)(xe:Value→Shared→Prop):Inv (X.tr xe (X.pn++pins)) [] σ H s:=I.re (I.ok.tr _ _) rfl rfl rfl rfl rfl rfl rfl rfl fun p h=>by simpa using h
theorem Inv.ofTr{pins':List (Addr×Obj)}{xe:Value→Shared→Prop}(o:X.Ok)(I:Inv (X.tr xe (X.pn++pins)) pins' σ H s):Inv X pins σ H s:=
 I.re o rfl rfl rfl rfl rfl rfl rfl rfl fun p h=>List.mem_append_left _ h
theorem unbind_ok{M:Model}{A:Around}{E:Value→Shared→Prop}{i:Nat}{n:Str}{pos:Pos}{Q:Unit→Shared→Prop}(I:Inv X pins σ H s)(hN:X.N.Nodup)(hi:X.N[i]?=some n)(hk:X.env.scope.names.lookup n=some .local)
 (h:∀s',Inv X pins (σ.set i none) H s'→Q () s'):wpAny M A (do bindName X.env n .none;unbindBehindTheSuite X.env n pos) Q E s:=by
 obtain⟨m,hn,hl⟩:=id I.loc
 have hcls:(X.env.scope.kind==.class||(X.env.scope.kind==.module&&X.env.locals != X.env.globals))=false:=by rw[I.ok.kind];rfl
 have hiσ:i<σ.length:=by rw[I.len];exact(List.getElem?_eq_some_iff.mp hi).1
 have cne:=I.cne
 refine wpAny_nameGoes_keeps hk hn hcls fun h' v hn' hs=>h _ ?_
 obtain⟨oL,_,_,hoL,_⟩:=id hn
 have nl:∀b o,X.s₀.heap.get? b=some o→h'.get? b=s.heap.get? b:=fun b o e=>hs.2 b (Nat.ne_of_lt (Nat.lt_of_lt_of_le (Heap.lt_size e) I.ok.above))
 refine⟨I.ok,I.os,I.bare,⟨fun b o e z hb hx=>(nl b o e).trans (I.base.keep b o e z hb hx),fun b o e z hb hx=>?_,I.base.free,fun b o e hx=>?_,I.base.tups,I.base.frzs,I.base.tbls⟩,⟨_,hn',fun j y v' e1 e2 e3=>?_⟩,fun y c e=>?_,I.free,I.freeC,fun p hp=>?_,fun b ob e=>?_,by simpa using I.len⟩
 ·obtain⟨sl,e1⟩:=I.base.slot b o e z hb hx
  exact⟨sl,(nl b o e).trans e1⟩
 ·obtain⟨o',e1⟩:=I.base.there b o e hx
  exact⟨o',(nl b o e).trans e1⟩
 ·by_cases hj:j=i
  ·subst hj
   rw[List.getElem?_set_self hiσ] at e2
   cases e2
  ·rw[List.getElem?_set_ne (Ne.symm hj)] at e2
   obtain⟨u',r',q⟩:=hl j y v' e1 e2 e3
   refine⟨u',r',?_⟩
   rcases q with ⟨k,e⟩ | ⟨k,c,e,z⟩
   ·refine .inl ⟨k,?_⟩
    have hy:y≠n:=fun z=>hj (nodup_ix hN e1 (z ▸ hi))
    simp[hy,e]
   ·exact .inr ⟨k,c,e,z.sameBut hs (cne y c e)⟩
 ·obtain⟨w',z⟩:=I.cell y c e
  exact⟨w',z.sameBut hs (cne y c e)⟩
 ·obtain⟨e,z,ne,nf,d⟩:=I.pin p hp
  exact⟨(hs.2 p.1 ne).trans e,z,ne,nf,d⟩
 ·refine(I.hok b ob e).stay (fun c w' hc q=>(hs.2 c ?_).trans q) (fun _ q=>q) fun _ _ q=>q
  rintro rfl
  rcases hc with rfl | hc
  ·rw[I.free] at e;cases e
  ·rw[I.free] at hc;cases hc
end
abbrev TH:=Value→Option Addr→Addr→Ends→St→Hp→Prop
def PHs(X:Cx)(hs:List ExceptHandler)(t:TH):Prop:=∀(pins:List (Addr×Obj)) (s:Shared) (σ:St) (H:Hp) (D:Ends) (ea:Addr) (cls:Value) (dx:Option Addr),Fl X pins σ H s ea cls dx→t cls dx ea D σ H→
 wpAny (model X.prog X.w) X.A (handleBy (.ref ea) X.env hs) (SP X pins D) X.xe s
def tNoHand:TH:=fun _ _ _ _ _ _=>False
def gone(i:Nat)(D:Ends):Ends:={ nx:=fun σ H=>D.nx (σ.set i none) H,rt:=D.rt,bk:=fun σ H=>D.bk (σ.set i none) H,ct:=fun σ H=>D.ct (σ.set i none) H }
def tHandAs(K:PySem.W.Frag)(C:Addr)(i:Nat)(ts:Addr→TS)(tr:TH):TH:=fun cls dx ea D σ H=>∃C' b,cls=.ref C'∧PySem.W.mroIn K C' (.ref C)=some b∧if b=true then ts ea (gone i D) (σ.set i (some (.ref ea))) (upd H ea (ExcO ea cls dx)) else tr cls dx ea D σ H
section
variable{X:Cx}
theorem phs_nil:PHs X [] tNoHand:=fun _ _ _ _ _ _ _ _ _ h=>h.elim
theorem phs_consA{x n:Str}{C:Addr}{i:Nat}{b₀:Stmt}{suite:List Stmt}{np pos:Pos}{rest:List ExceptHandler}{ts:Addr→TS}{tr:TH}(O:HCls X.K X.mg x C)(hg:Gl X x)(hN:X.N.Nodup)(hi:X.N[i]?=some n)(hk:X.env.scope.names.lookup n=some .local)
 (hs:∀ea,PSs (X.hd ea) (b₀::suite) (ts ea))(hr:PHs X rest tr)(hdb:(x==("__debug__":Str))=false:=by decide):PHs X (.ExceptHandler (some (.Name x np)) (some n) (b₀::suite) pos::rest) (tHandAs X.K C i ts tr):=by
 intro pins s σ H D ea cls dx F h
 obtain⟨C',b,rfl,hm,q⟩:=h
 obtain⟨vs,sl,he⟩:=F.obj
 have I:=F.inv
 refine wpAny_handleBy_cons (codeAny_handlers_test ?_) (by intro z;cases z)
 refine ld_glob (X:=X.hd ea) (I.toHd ea) hg O.bound ?_ hdb
 refine exc_match I.kIn O he hm ?_
 cases b with
 | true=>
  rw[if_pos rfl] at q
  refine codeAny_handlers_suite_as (F.land fun s' I'=>?_)
  refine store_ok (v:=.ref ea) I' hN hi (.inl hk) rfl (fun s3 I3=>?_) (.inr hk)
  refine wpAny_mono (hs ea pins s3 _ _ (gone i D) (I3.toHd ea) q) (fun f s4 z=>?_) (fun _ _ z=>z.elim)
  cases f with
  | next=>obtain⟨σ4,H4,I4,z⟩:=z;exact unbind_ok (I4.ofHd I.ok) hN hi hk fun s5 I5=>⟨_,_,I5,z⟩
  | brk=>obtain⟨σ4,H4,I4,z⟩:=z;exact unbind_ok (I4.ofHd I.ok) hN hi hk fun s5 I5=>⟨_,_,I5,z⟩
  | cont=>obtain⟨σ4,H4,I4,z⟩:=z;exact unbind_ok (I4.ofHd I.ok) hN hi hk fun s5 I5=>⟨_,_,I5,z⟩
  | ret u=>obtain⟨v,σ4,H4,I4,r,z⟩:=z;exact unbind_ok (I4.ofHd I.ok) hN hi hk fun s5 I5=>⟨v,_,_,I5,r,z⟩
 | false=>
  rw[if_neg Bool.false_ne_true] at q
  exact hr pins s σ H D ea _ dx F q
abbrev XE:=Value→Option Addr→St→Hp→Prop
def tTry(tb:XE→TS)(th:TH):TS:=fun D σ H=>tb (fun c d σ' H'=>∀ea,H' ea=none→th c d ea D σ' H') D σ H
theorem ps_try{body:List Stmt}{h₀:ExceptHandler}{hs:List ExceptHandler}{pos:Pos}{tb:XE→TS}{th:TH}(hst:X.stack=X.env::X.outer)(hf:X.env.frame=some X.env.locals)
 (hb:∀xe pn EE,Thr (X.tr xe pn) EE→PSs (X.tr xe pn) body (tb EE))(hh:PHs X (h₀::hs) th):PS X (.Try body (h₀::hs) [] [] pos) (tTry tb th):=by
 intro pins s σ H D I h
 refine wpAny_Try_except ?_
 have fr:X.A.frames=some (X.env::X.outer):=by rw[←hst];exact I.ok.frames
 generalize hxe:(fun (e:Value) (s1:Shared)=>wpAny (model X.prog X.w) X.A (noteFrame e X.env) (fun _ s2=>wpAny (model X.prog X.w) X.A (setFlight e none) (fun _ s3=>wpAny (model X.prog X.w) X.A (handleBy e X.env (h₀::hs)) (SP X pins D) X.xe s3) X.xe s2) X.xe s1)=xe
 have fin:∀(pins':List (Addr×Obj)) (σ':St) (H2 H':Hp) (s2 s':Shared) (ea:Addr) (cls:Value) (dx:Option Addr) (B h4:Heap),Inv (X.tr xe (X.pn++pins)) pins' σ' H2 s2→s'.os=s2.os→AllBare s'.gens→Un (frs X.stack) [] H2 H' s2.heap s'.heap→HOk X.prog X.w H' s'.heap→
  Old (frs X.stack) H2 s2.heap B→Tra H' s'.heap B→Sea B X.stack ea h4→XTr h4 B ea cls dx .none→s'.heap.UpToSlots h4→(∀ea,H' ea=none→th cls dx ea D σ' H')→
  wpAny (model X.prog X.w) X.A (handleBy (.ref ea) X.env (h₀::hs)) (SP X pins D) X.xe { s' with heap:=h4 }:=by
  intro pins' σ' H2 H' s2 s' ea cls dx B h4 I2 os bare un hok old tra S4 O4 u4 q
  have I3:=I2.ofTr I.ok
  refine hh pins _ σ' H' D ea cls dx ⟨s2,H2,B,I3,os,bare,un_flown un old S4.stays u4 (frames_are I3 un),hok_flown hok tra S4.stays,S4,O4,old,tra.later S4.stays⟩ (q ea ?_)
  cases z:H' ea with
  | none=>rfl
  | some o=>
   obtain⟨u,_,e⟩:=tra ea o z
   rw[S4.new] at e;cases e
 have T:Thr (X.tr xe (X.pn++pins)) (fun c d σ' H'=>∀ea,H' ea=none→th c d ea D σ' H'):=by
  constructor
  ·rintro pins' σ' H2 s2 e s' I2 ⟨ea,cls,dx,B,H',rfl,os,bare,un,hok,sea,tr,old,tra,q⟩
   show xe (.ref ea) s'
   rw[←hxe]
   have sea':Sea B (X.env::X.outer) ea s'.heap:=by rw[←hst];exact sea
   refine note_on fr hf sea' tr fun h3 S3 O3 u3=>flight_off (s:={ s' with heap:=h3 }) S3 O3 fun h4 S4 O4 u4=>?_
   exact fin pins' σ' H2 H' s2 s' ea cls dx B h4 I2 os bare un hok old tra (by rw[hst];exact S4) O4 (u3.trans u4) q
  ·rintro pins' σ' H2 s2 e s' I2 ⟨ea,cls,dx,B,H',rfl,os,bare,un,hok,sea,tr,old,tra,q⟩
   show xe (.ref ea) s'
   rw[←hxe]
   have sea':Sea B (X.env::X.outer) ea s'.heap:=by rw[←hst];exact sea
   refine note_new fr hf sea' tr fun h3 S3 O3 u3=>flight_off (s:={ s' with heap:=h3 }) S3 O3 fun h4 S4 O4 u4=>?_
   exact fin pins' σ' H2 H' s2 s' ea cls dx B h4 I2 os bare un hok old tra (by rw[hst];exact S4) O4 (u3.trans u4) q
 refine wpAny_mono (hb xe _ _ T [] s σ H D (I.toTr xe) h) (fun f s1 z=>?_) (fun e s1 z=>?_)
 ·have z':SP X pins D f s1:=z.re fun _ _ J=>J.ofTr I.ok
  cases f with
  | next=>exact wpAny_execs_nil z'
  | brk=>exact z'
  | cont=>exact z'
  | ret u=>exact z'
 ·exact z
end
end L2
set_option Elab.async false
set_option linter.all false
set_option maxRecDepth 100000
set_option maxHeartbeats 4000000
namespace L2
open PySem PySem.Spec PyProof.Rows
section
variable{prog:Program}{w:World}{A:Around}{E:Value→Shared→Prop}{s:Shared}{K:PySem.W.Frag}{x D:Addr}{ox:Obj}{odo:Option Obj}{name:Str}
structure XGet(K:PySem.W.Frag)(D:Addr):Prop where
 ga:PySem.W.findIn K (.ref D) "__getattribute__"=some (some (.builtin "BaseException.__getattribute__"))
 gk:PySem.W.findIn K (.ref D) "__getattr__"=some none
 be:PySem.W.mroIn K D (.type "BaseException")=some true
 ob:PySem.W.mroIn K D (.type "object")=some true
 ca:PySem.W.findIn K (.ref D) "__class__"=some (some (.builtin "object.__class__"))
 cl:(PySem.W.clsIn K D).isSome=true
 sp:PySem.W.specialIn K (.builtin "object.__class__") "__get__"=some (some (.builtin "getset_descriptor.__get__"))
 tk:PySem.W.takesIn K (.builtin "object.__class__")=some true
theorem xget_check{M:Model}{nv:Value}{Q:Unit→Shared→Prop}(KX:K.In s.heap)(I:PySem.W.InstAt s.heap x ox D odo)(G:XGet K D)(q:Q () s):wpAny M A (checkBuiltinCall "BaseException.__getattribute__" ⟨[.ref x,nv],[]⟩) Q E s:=by
 have hk:builtinKind "BaseException.__getattribute__"=some .slot:=by decide +kernel
 have hs:splitId "BaseException.__getattribute__"=some ("BaseException","__getattribute__"):=by decide +kernel
 have ha:=F.args_bexc_ga (.ref x) nv
 obtain⟨hh,g,d,t,os⟩:=s
 have L0:=I.type (M:=M)
 have L1:=PySem.W.looks_mroIn (M:=M) KX G.be
 simp only[checkBuiltinCall,hk,hs]
 repeat lk
 exact q
theorem xget_entry{nv:Tok}{v:Value}{Q:Fin→Shared→Prop}(KX:K.In s.heap)(I:PySem.W.InstAt s.heap x ox D odo)(hf:PySem.W.findObj K D odo name=some (.value v))(q:Q (.done (.ret v)) s):
 wpAny (model prog w) A (Builtin.«object.__getattribute__» ⟨[.ref x,.str name nv],[]⟩) Q E s:=by
 obtain⟨hh,g,d,t,os⟩:=s
 have L0:=I.type (M:=model prog w)
 have L1:=PySem.W.looks_find (M:=model prog w) KX I hf
 refine wpAny_bind (wpAny_pure (wpAny_bind (wpAny_pure (wpAny_bind (L0.at (wpAny_bind (L1.at ?_)))))))
 exact wpAny_pure q
theorem xget_entryB{nv:Tok}{gv a:Value}{Q:Fin→Shared→Prop}(KX:K.In s.heap)(I:PySem.W.InstAt s.heap x ox D odo)(hf:PySem.W.findObj K D odo name=some (.bind gv a))
 (q:wpAny (model prog w) A (Builtin.ObjectAttr.bindTo gv a (.ref x) (.ref D)) Q E s):
 wpAny (model prog w) A (Builtin.«object.__getattribute__» ⟨[.ref x,.str name nv],[]⟩) Q E s:=by
 obtain⟨hh,g,d,t,os⟩:=s
 have L0:=I.type (M:=model prog w)
 have L1:=PySem.W.looks_find (M:=model prog w) KX I hf
 refine wpAny_bind (wpAny_pure (wpAny_bind (wpAny_pure (wpAny_bind (L0.at (wpAny_bind (L1.at ?_)))))))
 exact q
theorem xget_by{nv:Tok}{fill expr:Bool}{Q:Value→Shared→Prop}(KX:K.In s.heap)(I:PySem.W.InstAt s.heap x ox D odo)(G:XGet K D)
 (h:wpAny (model prog w) A.in1 (Builtin.«object.__getattribute__» ⟨[.ref x,.str name nv],[]⟩) (fun fin s'=>match fin with | .done (.ret v)=>wpAny (model prog w) A (handedOut v) Q E s' | _=>False) (fun _ _=>False) s):
 wpAny (model prog w) A (getAttrBy (.ref x) (.str name nv) fill expr) Q E s:=by
 obtain⟨hh,g,d,t,os⟩:=s
 have L0:=I.type (M:=model prog w)
 have L1:=PySem.W.looks_findIn (M:=model prog w) KX G.ga
 have L2:=PySem.W.looks_findIn (M:=model prog w) KX G.gk
 have FX:=F.excAttr_ValueError
 unfold getAttrBy
 refine wpAny_holding (wpAny_bind (L0.at (wpAny_bind (L1.at ?_))))
 have e0:(Value.builtin "BaseException.__getattribute__"==Value.builtin "object.__getattribute__")=false:=by decide +kernel
 have e1:(onTheHeap (Value.ref D)&&Value.builtin "BaseException.__getattribute__"==Value.builtin "object.__getattribute__")=false:=by rw[e0];rfl
 dsimp only
 rw[e1,if_neg Bool.false_ne_true]
 unfold getAttrByItsOwn hookBefore
 refine wpAny_bind ?_
 rw[if_pos (show onTheHeap (Value.ref D)=true from rfl)]
 refine L2.at ?_
 refine wpAny_bind (wpAny_attempt (wpAny_holding ?_))
 unfold callGetattribute
 rw[if_neg (by cases expr<;>decide)]
 unfold boundAndCalled
 rw[FX.ga.bind (.ref x)]
 refine wpAny_bind (wpAny_pure ?_)
 refine wpAny_call (codeAny_call_builtin FX.ga.plain F.entry_bexc_ga (xget_check KX I G ?_))
 refine wpAny_mono h (fun fin s' z=>?_) (fun _ _ z=>z.elim)
 rcases fin with (_ | _ | _ | _) | _<;>first | exact z | exact z.elim
theorem xget_class{Q:Option Value→Shared→Prop}(KX:K.In s.heap)(I:PySem.W.InstAt s.heap x ox D odo)(G:XGet K D)(hf:PySem.W.findObj K D odo "__class__"=some (.bind (.builtin "getset_descriptor.__get__") (.builtin "object.__class__")))
 (q:Q (some (.ref D)) { s with toks:=s.toks+1 }):wpAny (model prog w) A (getAttr? (.ref x) "__class__") Q E s:=by
 unfold getAttr? getAttrBy?
 refine wpAny_bind (wpAny_mkText (wpAny_bind (wpAny_attempt (xget_by (s:={ s with toks:=s.toks+1 }) KX I G (xget_entryB (s:={ s with toks:=s.toks+1 }) KX I hf ?_)))))
 show wpAny _ _ (holding [_] (call (.builtin "getset_descriptor.__get__") [.builtin "object.__class__",.ref x,.ref D]) >>= ret) _ _ _
 refine wpAny_bind (wpAny_holding (wpAny_call (PySem.W.class_get (s:={ s with toks:=s.toks+1 }) KX I G.ob ?_)))
 refine wpAny_pure ?_
 show wpAny _ _ (handedOut _) _ _ _
 rw[PySem.W.handedOut_of rfl]
 exact wpAny_pure (wpAny_pure q)
theorem xget_value{expr:Bool}{v:Value}{Q:Value→Shared→Prop}(KX:K.In s.heap)(I:PySem.W.InstAt s.heap x ox D odo)(G:XGet K D)(hf:PySem.W.findObj K D odo name=some (.value v))(hh:PySem.W.handedIn v=true)
 (q:Q v { s with toks:=s.toks+1 }):wpAny (model prog w) A (getAttr (.ref x) name expr) Q E s:=by
 unfold getAttr
 refine wpAny_bind (wpAny_mkText (xget_by (s:={ s with toks:=s.toks+1 }) KX I G (xget_entry (s:={ s with toks:=s.toks+1 }) KX I hf ?_)))
 show wpAny _ _ (handedOut _) _ _ _
 rw[PySem.W.handedOut_of hh]
 exact wpAny_pure q
theorem find_dataX{a g:Value}(hc:(PySem.W.clsIn K D).isSome=true)(ha:PySem.W.findIn K (.ref D) name=some (some a))(hg:PySem.W.specialIn K a "__get__"=some (some g))(ht:PySem.W.takesIn K a=some true):PySem.W.findObj K D odo name=some (.bind g a):=by
 obtain⟨cd,hcd⟩:=Option.isSome_iff_exists.mp hc
 unfold PySem.W.findObj
 rw[hcd,Option.bind_some,ha,Option.bind_some];simp[hg,ht]
theorem kitx_exc(G:XGet K D):PySem.W.KitX K (.ref x) (.ref D) (fun h=>∃ox odo,PySem.W.InstAt h x ox D odo) where
 ty:=fun _ _ _ ⟨ox,odo,I⟩=>I.type
 it:=fun M h KX _=>by
  have hc:=G.cl
  unfold PySem.W.clsIn at hc
  split at hc
  ·rename_i c' d' cd' sl' ho
   intro A' Q' E' s' k q
   unfold isType loadHead
   exact wpAny_bind (wpAny_loadPart (k _ _ (KX _ _ ho)) (wpAny_pure q))
  ·cases hc
 ne:=fun h tp dd its n sl KX htp=>by
  have hc:=G.cl
  refine Bool.eq_false_iff.mpr fun q=>?_
  have e:D=tp:=Value.ref.inj (beq_iff_eq.mp q)
  subst e
  unfold PySem.W.clsIn at hc
  split at hc
  ·rename_i c' d' cd' sl' ho
   have z:=(KX _ _ ho).symm.trans htp
   cases z
  ·cases hc
 ca:=fun{prog w A E Q s} KX ⟨ox,odo,I⟩ k=>xget_class KX I G (find_dataX G.cl G.ca G.sp G.tk) k
end
def clsV:V→Option Value
 | .ref c=>some (.ref c)
 | .ty n=>some (.type n)
 | _=>none
def XDict(H:Hp):Option Addr→Prop
 | none=>True
 | some d=>∃fs,H d=some (.xd fs)
def rIsiX(K:PySem.W.Frag):List V→Hp→VK→Prop:=fun xs H Q=>∃a cv C c b dx,xs=[.ref a,cv]∧H a=some (ExcO a (.ref C) dx)∧XDict H dx∧XGet K C∧clsV cv=some c∧PySem.W.kitOne K (.ref C) c=some b∧Q (.bl b) H
section
variable{X:Cx}
theorem call_isiX:CallR X (.builtin "isinstance") (rIsiX X.K):=by
 intro pins s σ H xs us Q I r h
 obtain⟨a,cv,C,c,b,dx,rfl,hH,hd,G,hc,e,q⟩:=h
 obtain⟨u,w',rfl,r1,r2⟩:=vals2 r
 cases (show u=Value.ref a from r1)
 have hw:w'=c:=by
  cases cv with
  | ref c'=>cases hc;exact r2
  | ty n=>cases hc;exact r2
  | _=>cases hc
 subst hw
 obtain⟨⟨vs,sl,ho⟩,_⟩:=(show ObjOk X.prog X.w H s.heap a (ExcO a (.ref C) dx) from I.hok a _ hH)
 have J:∃ox odo,PySem.W.InstAt s.heap a ox C odo:=by
  cases dx with
  | none=>exact⟨_,none,ho,rfl,rfl,trivial⟩
  | some d=>
   obtain⟨fs,hd⟩:=hd
   obtain⟨od,hod⟩:=(I.hok d _ hd).obj
   exact⟨_,some od,ho,rfl,rfl,hod⟩
 exact PySem.W.kia_one (kitx_exc G) I.kIn J e (fun z=>nomatch z) fun tk=>⟨.bl b,H,I.tok tk,rfl,q⟩
theorem rd_isiX{K:PySem.W.Frag}{a C:Addr}{cv:V}{c:Value}{b:Bool}{dx:Option Addr}{H:Hp}{Q:VK}(hH:H a=some (ExcO a (.ref C) dx))(hd:XDict H dx)(G:XGet K C)(hc:clsV cv=some c)(e:PySem.W.kitOne K (.ref C) c=some b)(q:Q (.bl b) H):rIsiX K [.ref a,cv] H Q:=
 ⟨a,cv,C,c,b,dx,rfl,hH,hd,G,hc,e,q⟩
end
end L2
set_option Elab.async false
set_option linter.all false
set_option maxRecDepth 100000
set_option maxHeartbeats 4000000
namespace L2
open PySem PySem.Spec PyProof.Rows
structure RoomN(k:Nat)(A:Around):Prop where
 dp:A.depth+3*k+5<recursionLimit
 un:A.units+16*k+200<cLine
 gd:A.guards=some []
theorem RoomN.mono{j k:Nat}{A:Around}(r:RoomN k A)(h:j≤k):RoomN j A:=⟨by have:=r.dp;omega,by have:=r.un;omega,r.gd⟩
theorem Room.toN{k:Nat}{A:Around}(r:Room k A):RoomN k A:=⟨r.dp,r.un,r.gd⟩
theorem RoomN.units0{k:Nat}{A:Around}(r:RoomN k A):A.units<cLine:=by have:=r.un;omega
section
variable{P:Program}{w:World}{K:PySem.W.Frag}{mg:Str→Option Value}{base:Heap}
end
section
variable{X:Cx}
end
theorem has_cls{K:PySem.W.Frag}{C:Addr}(h:PySem.W.hasDictIn K C=true):(PySem.W.clsIn K C).isSome=true:=by
 obtain⟨cd,e,_⟩:=PySem.W.any_some h
 rw[e];rfl
theorem rel_ref(a:Addr):RelV (.ref a) (.ref a):=rfl
theorem rd_callE{sp:Sp}{EE:XE}{t:TA}{σ:St}{H:Hp}{Q:VK}(h:t σ H fun vs H1=>sp (vs++[]) H1 Q (fun c d H'=>EE c d σ H')):tCallE sp EE t σ H Q:=h
theorem rd_raise{C:Addr}{EE:XE}{ta:TA}{D:Ends}{σ:St}{H:Hp}(h:ta σ H fun vs H1=>vs.length≤sizeLine∧EE (.ref C) none σ H1):tRaise C EE ta D σ H:=h
theorem rd_try{tb:XE→TS}{th:TH}{D:Ends}{σ:St}{H:Hp}(h:tb (fun c d σ' H'=>∀ea,H' ea=none→th c d ea D σ' H') D σ H):tTry tb th D σ H:=h
theorem rd_handA{K:PySem.W.Frag}{C C':Addr}{i:Nat}{ts:Addr→TS}{tr:TH}{dx:Option Addr}{ea:Addr}{D:Ends}{σ:St}{H:Hp}(hm:PySem.W.mroIn K C' (.ref C)=some true)(h:ts ea (gone i D) (σ.set i (some (.ref ea))) (upd H ea (ExcO ea (.ref C') dx))):tHandAs K C i ts tr (.ref C') dx ea D σ H:=
 ⟨C',true,rfl,hm,by rw[if_pos rfl];exact h⟩
theorem rd_handAN{K:PySem.W.Frag}{C C':Addr}{i:Nat}{ts:Addr→TS}{tr:TH}{dx:Option Addr}{ea:Addr}{D:Ends}{σ:St}{H:Hp}(hm:PySem.W.mroIn K C' (.ref C)=some false)(h:tr (.ref C') dx ea D σ H):tHandAs K C i ts tr (.ref C') dx ea D σ H:=
 ⟨C',false,rfl,hm,by rw[if_neg Bool.false_ne_true];exact h⟩
section
variable{X:Cx}
end
end L2
set_option Elab.async false
set_option linter.all false
set_option maxRecDepth 100000
set_option maxHeartbeats 4000000
namespace L2
open PySem PySem.Spec PyProof.Rows
section
variable{prog:Program}{w:World}{A:Around}{E:Value→Shared→Prop}{h:Heap}{g:Array GenState}{d:Drawn}{t:Nat}{os:OsState}{K:PySem.W.Frag}{f:Addr}
variable{nm q:Str}{C N:Addr}{bs bm:List Value}{hdct:Bool}{sn:List Str}{sub:List Value}{ab:Bool}{col:Option Bool}{dd:Option Addr}{k0 k1 k2 k3 k5:Option Value}
theorem make_exc{rest:List Value}{Q:Value→Shared→Prop}(T:OwnTail h bmV bm)(KX:K.In h)
 (hC:h.get? C=some (excClassObj nm q C N bs bm hdct sn sub ab col dd k0 k1 k2 k3 k5 "ValueError.__new__"))(hi:PySem.W.findIn K (.ref C) "__init__"=some (some (.ref f)))(hf:PySem.W.typeIn K (.ref f)=some (.type "function"))
 (hrest:rest.length≤sizeLine)
 (hq:∀h' e,Heap.MadeExcOf h h' e (.ref C) rest→codeAny (model prog w) (A.under (.builtin "type.__call__" ⟨.ref C::rest,[]⟩)) (.call (.ref f) ⟨.ref e::rest,[]⟩) (fun r s'=>match r with | .ok (.ret u)=>u=.none∧Q (.ref e) s' | .ok _=>False | .error x=>E x s') ⟨h',g,d,t,os⟩):
 wpAny (model prog w) A (call (.ref C) rest) Q E ⟨h,g,d,t,os⟩:=by
 have FV:=PySem.F.excBase_ValueError
 have f1:=tc_lookup
 have f2:=tc_bind (.ref C)
 have hT:(⟨h,g,d,t,os⟩:Shared).TypeIs (.ref C) "type":=⟨_,hC,rfl⟩
 refine wpAny_call (codeAny_of_tree ?_)
 show wpAny _ _ (callAny (.ref C) _) _ _ _
 repeat (any_goals (first | assumption | with_reducible refine wpAny_loadPart_at hC ?_ | wp_step))
 refine⟨rfl,?_⟩
 refine codeAny_call_builtin_at (Code.quiet_builtin _ (by decide +kernel)) entry_typeCall (wpAny_check_type_call_sub hC ?_)
 repeat (first | with_reducible refine wpAny_loadPart_at hC ?_ | with_reducible refine wpAny_madeBy_exc hC ?_ | wp_step)
 refine codeAny_call_builtin_code (Code.quiet_builtin _ FV.quiet) (wpAny_check_new_subU FV (by decide +kernel) T hC ?_)
 refine codeAny_exc_new_subU FV (by decide +kernel) FV T hC ?_ hrest
 have keeps:∀b o,h.get? b=some o→((h.push { cls:=.type "tuple",data:=.seq rest.toArray }).push { cls:=.ref C,data:=.fields #[.ref h.objs.size,.none,.none,.none,.bool false,.none] }).get? b=some o:=fun b o z=>Heap.get?_push_of_some _ (Heap.get?_push_of_some _ z)
 have he:((h.push { cls:=.type "tuple",data:=.seq rest.toArray }).push { cls:=.ref C,data:=.fields #[.ref h.objs.size,.none,.none,.none,.bool false,.none] }).get? (h.objs.size+1)=some { cls:=.ref C,data:=.fields #[.ref h.objs.size,.none,.none,.none,.bool false,.none] }:=
  Heap.get?_push_at (by simp only[Heap.size_push]) rfl
 have ht:((h.push { cls:=.type "tuple",data:=.seq rest.toArray }).push { cls:=.ref C,data:=.fields #[.ref h.objs.size,.none,.none,.none,.bool false,.none] }).get? h.objs.size=some { cls:=.type "tuple",data:=.seq rest.toArray }:=
  Heap.get?_push_of_some _ (Heap.get?_push_size _ rfl)
 have M:Heap.MadeExcOf h ((h.push { cls:=.type "tuple",data:=.seq rest.toArray }).push { cls:=.ref C,data:=.fields #[.ref h.objs.size,.none,.none,.none,.bool false,.none] }) (h.objs.size+1) (.ref C) rest:=
  ⟨keeps,Heap.get?_none_of_le (Nat.le_succ _),h.objs.size,he,Heap.get?_none_of_le (Nat.le_refl _),ht⟩
 have go:=hq _ _ M
 show wpAny _ _ _ _ _ (⟨((h.push { cls:=.type "tuple",data:=.seq rest.toArray }).push { cls:=.ref C,data:=.fields #[.ref h.objs.size,.none,.none,.none,.bool false,.none] }),g,d,t,os⟩:Shared)
 generalize ((h.push { cls:=.type "tuple",data:=.seq rest.toArray }).push { cls:=.ref C,data:=.fields #[.ref h.objs.size,.none,.none,.none,.bool false,.none] })=h2 at keeps he M go ⊢
 have KX2:K.In h2:=KX.keeps keeps
 have L0:PySem.W.Looks (model prog w) h2 (typeOf (.ref (h.objs.size+1))) (.ref C):=(PySem.W.Looks.ld he).andThen .now
 have L1:=PySem.W.looks_findIn (M:=model prog w) KX2 hi
 have L2:=PySem.W.bind_fn (M:=model prog w) KX2 (.ref (h.objs.size+1)) hf
 have hC2:=keeps _ _ hC
 have hcC:(Value.ref C::bm).contains (.ref C)=true:=by simp
 unfold isInstance
 refine wpAny_bind (wpAny_bind (L0.at (wpAny_isSubtype_exc hC2 ?_)))
 rw[hcC]
 simp only[Bool.not_true,Bool.false_eq_true,if_false]
 refine wpAny_bind (wpAny_holding ?_)
 unfold callSpecial? specialOf
 refine wpAny_bind (wpAny_bind (L0.at (L1.at ?_)))
 refine wpAny_holding (wpAny_bind (L2.at (wpAny_bind (wpAny_call (codeAny_mono go fun r s' z=>?_)))))
 cases r with
 | error x=>exact z
 | ok fl=>
  cases fl with
  | ret u=>
   obtain⟨rfl,z⟩:=z
   exact wpAny_pure (wpAny_pure z)
  | next=>exact z.elim
  | brk=>exact z.elim
  | cont=>exact z.elim
end
end L2
set_option Elab.async false
set_option linter.all false
set_option maxRecDepth 100000
set_option maxHeartbeats 4000000
namespace L2
open PySem PySem.Spec PyProof.Rows
section
variable{prog:Program}{w:World}{A:Around}{E:Value→Shared→Prop}{h:Heap}{g:Array GenState}{d:Drawn}{t:Nat}{os:OsState}{K:PySem.W.Frag}{e:Addr}
variable{nm q:Str}{C N:Addr}{bs bm:List Value}{hdct:Bool}{sn:List Str}{sub:List Value}{ab:Bool}{col:Option Bool}{dd:Option Addr}{k0 k1 k2 k3 k5:Option Value}{newId:String}
theorem init_exc{rest:List Value}{dx:Option Addr}{vs:Array Value}{sl:Array (Option Value)}{Q:Value→Shared→Prop}(T:OwnTail h bmV bm)
 (hC:h.get? C=some (excClassObj nm q C N bs bm hdct sn sub ab col dd k0 k1 k2 k3 k5 newId))(he:h.get? e=some ⟨.ref C,dx,.fields vs,sl⟩){t1:Addr}(h0:vs[0]?=some (.ref t1))(hrest:rest.length≤sizeLine)
 (hq:∀h' t0,(∀b o,b≠e→h.get? b=some o→h'.get? b=some o)→h'.get? e=some ⟨.ref C,dx,.fields (vs.setIfInBounds 0 (.ref t0)),sl⟩→Q .none ⟨h',g,d,t,os⟩):
 wpAny (model prog w) A (call (.builtin "ValueError.__init__") (.ref e::rest)) Q E ⟨h,g,d,t,os⟩:=by
 have FV:=PySem.F.excBase_ValueError
 refine wpAny_call (codeAny_call_builtin FV.init.plain FV.initEntry (wpAny_check_init_subU FV T hC he rfl ?_))
 wp_walk
 rw[h0]
 refine wpAny_pure ?_
 have sz:0<vs.size:=(Array.getElem?_eq_some_iff.mp h0).1
 have he2:(h.push { cls:=.type "tuple",data:=.seq rest.toArray }).get? e=some ⟨.ref C,dx,.fields vs,sl⟩:=Heap.get?_push_of_some _ he
 refine wpAny_bind (wpAny_setField he2 rfl sz ?_)
 refine wpAny_letGo (wpAny_pure (hq _ h.objs.size (fun b o hb z=>?_) ?_))
 ·rw[Heap.get?_update_other _ _ (Ne.symm hb)]
  exact Heap.get?_push_of_some _ z
 ·rw[Heap.get?_update_self _ he2 (by rw[fields_set rfl];rfl),fields_set rfl]
variable{x CF:Addr}{cd:ClassData}{name:Str}{v:Value}{vs:Array Value}{sl:Array (Option Value)}
theorem xset_open{dx:Option Addr}{Q:Unit→Shared→Prop}(KX:K.In h)(hx:h.get? x=some ⟨.ref C,dx,.fields vs,sl⟩)(hcd:PySem.W.clsIn K C=some cd)(hm:cd.mro=.ref C::.ref CF::bmV)
 (hs:PySem.W.findIn K (.ref C) "__setattr__"=some (some (.builtin "object.__setattr__")))(hna:PySem.W.findIn K (.ref C) name=some none)
 (hq:wpAny (model prog w) A.in1 (Builtin.ObjectAttr.storeInOwnDict (.ref x) (.ref C) (.str name t) name v false) (fun fin s'=>match fin with | .done (.ret _)=>Q () s' | _=>False) (fun _ _=>False) ⟨h,g,d,t+1,os⟩):
 wpAny (model prog w) A (setAttr (.ref x) name v) Q E ⟨h,g,d,t,os⟩:=by
 have SF:=PySem.F.store_ValueError
 have L0:PySem.W.Looks (model prog w) h (typeOf (.ref x)) (.ref C):=(PySem.W.Looks.ld hx).andThen .now
 have L1:=PySem.W.looks_findIn (M:=model prog w) KX hs
 have L2:=PySem.W.looks_findIn (M:=model prog w) KX hna
 have L3:PySem.W.Looks (model prog w) h (mroOf (.ref C)) cd.mro:=(PySem.W.looks_clsIn KX hcd).andThen .now
 have ob:PySem.W.mroIn K C (.type "object")=some true:=by
  unfold PySem.W.mroIn
  rw[hcd,Option.bind_some,hm]
  rfl
 have L4:PySem.W.Looks (model prog w) h (isInstance (.ref x) (.type "object")) true:=L0.andThen (PySem.W.looks_mroIn KX ob)
 unfold setAttr
 refine wpAny_bind (wpAny_mkText (wpAny_bind ?_))
 unfold callSpecial? specialOf
 refine wpAny_bind (wpAny_bind (L0.at (L1.at ?_)))
 refine wpAny_holding (wpAny_bind ?_)
 rw[SF.slot.bind (.ref x)]
 refine wpAny_pure (wpAny_bind (wpAny_call (codeAny_call_builtin SF.slot.plain SF.entry
  (@PySem.W.check_slot (model prog w) _ _ (⟨h,g,d,t+1,os⟩:Shared) "object.__setattr__" "object" "__setattr__" (.ref x) [.str name t,v] [] _ SF.kind SF.split L4 (SF.args (.ref x) (.str name t) v) ?_))))
 show wpAny _ _ (Builtin.«object.__setattr__» ⟨[.ref x,.str name t,v],[]⟩) _ _ _
 rw[PySem.W.osa_eq,refuse_eq]
 refine wpAny_bind (wpAny_bind (L0.at (wpAny_bind (L3.at ?_))))
 rw[hm,refuseLoop_ref,refuseLoop_ref,SF.passes]
 refine wpAny_pure (wpAny_bind (L0.at (wpAny_bind (L2.at (wpAny_bind (wpAny_pure ?_))))))
 refine wpAny_mono hq (fun fin s' z=>?_) (fun _ _ z=>z.elim)
 rcases fin with (_ | _ | _ | _) | _<;>first | exact z.elim | exact wpAny_pure (wpAny_pure z)
theorem xset_new{Q:Unit→Shared→Prop}(KX:K.In h)(hx:h.get? x=some ⟨.ref C,none,.fields vs,sl⟩)(hcd:PySem.W.clsIn K C=some cd)(hm:cd.mro=.ref C::.ref CF::bmV)(hh:cd.hasDict=true)
 (hs:PySem.W.findIn K (.ref C) "__setattr__"=some (some (.builtin "object.__setattr__")))(hna:PySem.W.findIn K (.ref C) name=some none)
 (hq:∀h' tk',h'.get? x=some ⟨.ref C,some h.objs.size,.fields vs,sl⟩→h'.Ns1 h.objs.size (fun y=>if y=name then some v else none)→(∀b o,b≠x→h.get? b=some o→h'.get? b=some o)→Q () ⟨h',g,d,tk',os⟩):
 wpAny (model prog w) A (setAttr (.ref x) name v) Q E ⟨h,g,d,t,os⟩:=by
 refine xset_open KX hx hcd hm hs hna ?_
 refine wpAny_bind (wpAny_pure (wpAny_bind (wpAny_bind (wpAny_loadPart hx (wpAny_bind ((PySem.W.looks_clsIn KX hcd).at ?_))))))
 rw[hh]
 have hx1:(h.push { cls:=.type "dict",data:=.dict #[] }).get? x=some ⟨.ref C,none,.fields vs,sl⟩:=Heap.get?_push_of_some _ hx
 have hxs:x≠h.objs.size:=Nat.ne_of_lt (Heap.lt_size hx)
 refine wpAny_bind (wpAny_alloc' (wpAny_bind (wpAny_update' hx1 (wpAny_pure ?_))))
 have hgd:((h.push { cls:=.type "dict",data:=.dict #[] }).update x fun o=>{ cls:=o.cls,dict:=some h.objs.size,data:=o.data,slots:=o.slots }).get? h.objs.size=some { cls:=.type "dict",data:=.dict #[] }:=
  (Heap.get?_update_ne _ _ _ _ hxs.symm).trans (Heap.get?_push_at rfl rfl)
 have hgx:((h.push { cls:=.type "dict",data:=.dict #[] }).update x fun o=>{ cls:=o.cls,dict:=some h.objs.size,data:=o.data,slots:=o.slots }).get? x=some ⟨.ref C,some h.objs.size,.fields vs,sl⟩:=Heap.get?_update_self _ hx1 rfl
 have hgo:∀b o,b≠x→h.get? b=some o→((h.push { cls:=.type "dict",data:=.dict #[] }).update x fun o=>{ cls:=o.cls,dict:=some h.objs.size,data:=o.data,slots:=o.slots }).get? b=some o:=fun b o hb z=>
  (Heap.get?_update_ne _ _ _ _ hb).trans (Heap.get?_push_of_some _ z)
 generalize ((h.push { cls:=.type "dict",data:=.dict #[] }).update x fun o=>{ cls:=o.cls,dict:=some h.objs.size,data:=o.data,slots:=o.slots })=h2 at hgd hgx hgo ⊢
 have hnd:h2.Ns h.objs.size (fun _=>none):=⟨_,#[],_,hgd,rfl,fun e he=>absurd he (by simp),fun _=>rfl⟩
 show wpAny _ _ (Builtin.ObjectAttr.storeInDict h.objs.size (.str name t) name v) _ _ _
 unfold Builtin.ObjectAttr.storeInDict Builtin.ObjectAttr.newKeyGuard
 refine wpAny_bind (wpAny_pure (wpAny_bind (wpAny_nsSet1 (Heap.Ns1.of_empty hnd) fun h' hn' hs'=>?_)))
 obtain⟨oD,esD,epD,hoD,hdD,hcD⟩:=hn'.count (Within.cons name v Within.nil)
 refine wpAny_bind (wpAny_lookBehind hoD (by rw[hdD];exact pastItsLine_dict (Nat.le_trans hcD (by rw[List.length_cons,List.length_nil,sizeLine_eq];omega))) (wpAny_pure ?_))
 exact hq h' _ ((hs'.2 x hxs).trans hgx) hn' fun b o hb z=>(hs'.2 b (Nat.ne_of_lt (Heap.lt_size z))).trans (hgo b o hb z)
end
end L2
set_option Elab.async false
set_option linter.all false
set_option maxRecDepth 100000
set_option maxHeartbeats 4000000
namespace L2
open PySem PySem.Spec PyProof.Rows
structure XOwn(K:PySem.W.Frag)(C CF:Addr):Prop where
 obj:∃dd cd k0 k1 k2 k3 k5,K.lookup C=some ⟨.type "type",dd,.cls cd,#[k0,k1,k2,k3,some (.builtin "ValueError.__new__"),k5]⟩∧cd.mro=.ref C::.ref CF::bmV∧cd.hasDel=false∧cd.hasDict=true
 base:PySem.W.excIn K CF bmV "ValueError.__new__"=true
 sa:PySem.W.findIn K (.ref C) "__setattr__"=some (some (.builtin "object.__setattr__"))
section
variable{K:PySem.W.Frag}{C CF:Addr}{h:Heap}
theorem XOwn.cls(O:XOwn K C CF):∃cd,PySem.W.clsIn K C=some cd∧cd.mro=.ref C::.ref CF::bmV∧cd.hasDict=true:=by
 obtain⟨dd,cd,k0,k1,k2,k3,k5,e,m,_,hd⟩:=O.obj
 refine⟨cd,?_,m,hd⟩
 unfold PySem.W.clsIn
 rw[e]
theorem XOwn.tail(O:XOwn K C CF)(KX:K.In h):OwnTail h bmV (.ref CF::bmV):=by
 obtain⟨tl,N,nm,qn,bs,hd,sn,sub,ab,col,dd,k0,k1,k2,k3,k5,mN,hC,hN,hni,TL⟩:=exc_cls KX O.base
 exact .own hC hN hni .base
theorem XOwn.at(O:XOwn K C CF)(KX:K.In h):∃N nm qn bs hd sn sub ab col dd k0 k1 k2 k3 k5,h.get? C=some (excClassObj nm qn C N bs (.ref CF::bmV) hd sn sub ab col dd k0 k1 k2 k3 k5 "ValueError.__new__"):=by
 obtain⟨dd,cd,k0,k1,k2,k3,k5,e,m,hdel,hd⟩:=O.obj
 obtain⟨nm,bs,mro,ns,qn,hd,sn,sub,ab,col,del⟩:=cd
 dsimp only at m hdel
 subst m hdel
 exact⟨_,_,_,_,_,_,_,_,_,_,_,_,_,_,_,KX _ _ e⟩
end
def ExcN(a:Addr)(cls:Value)(dx:Option Addr):HO:=.ext fun h=>∃vs sl t1,h.get? a=some ⟨cls,dx,.fields vs,sl⟩∧vs[0]?=some (.ref t1)∧vs[1]?=some .none
section
variable{X:Cx}{pins:List (Addr×Obj)}{σ:St}{H:Hp}{s:Shared}{h':Heap}
theorem Inv.write2{x d:Addr}{o od:HO}{t':Nat}(I:Inv X pins σ H s)(mu:Mut (H x))(hd:s.heap.objs.size≤d)(k:∀b u,b≠x→s.heap.get? b=some u→h'.get? b=some u)(hx:∃u,h'.get? x=some u)
 (nx:ObjOk X.prog X.w (upd (upd H d od) x o) h' x o)(nd:ObjOk X.prog X.w (upd (upd H d od) x o) h' d od):Inv X pins σ (upd (upd H d od) x o) { s with heap:=h',toks:=t' }:=by
 have hn:H d=none:=I.hok.fresh hd
 have hnx:∀b,H b=none→b≠x:=fun b n z=>by subst z;rw[n] at mu;exact mu
 have dx:d≠x:=hnx d hn
 have hm:∀b u,H b=some u→¬Mut (some u)→b≠x:=fun b u q nm z=>by subst z;rw[q] at mu;exact nm mu
 have go:∀b u,H b=some u→¬Mut (some u)→upd (upd H d od) x o b=some u:=fun b u q nm=>by
  rw[upd_ne (hm b u q nm),upd_ne (ne_of_none q hn)];exact q
 refine I.un ⟨fun b u q n _ _=>k b u (hnx b n) q,fun b u q n _ _=>⟨u.slots,k b u (hnx b n) q⟩,fun b u q n _=>?_,fun b u q _=>?_,fun b xs q=>go b _ q fun z=>z,fun b u xs q=>go b _ q fun z=>z,fun b ps q=>⟨#[],by rw[go b _ q fun z=>z];simp⟩⟩ fun b u q=>?_
 ·rw[upd_ne (hnx b n),upd_ne (Nat.ne_of_lt (Nat.lt_of_lt_of_le (Heap.lt_size q) hd))];exact n
 ·by_cases hb:b=x
  ·subst hb;exact hx
  ·exact⟨u,k b u hb q⟩
 ·by_cases hb:b=x
  ·subst hb;rw[upd_same] at q;cases q;exact nx
  ·rw[upd_ne hb] at q
   by_cases hbd:b=d
   ·subst hbd;rw[upd_same] at q;cases q;exact nd
   ·rw[upd_ne hbd] at q
    refine(I.hok b u q).stay (fun c v hc r=>k c v ?_ r) (fun c r=>go c _ r fun z=>z) fun c xs r=>go c _ r fun z=>z
    rcases hc with rfl | hc
    ·exact hb
    ·exact hm c _ hc fun z=>z
theorem excN_obj{a:Addr}{cls:Value}{dx:Option Addr}(I:Inv X pins σ H s)(h:H a=some (ExcN a cls dx)):∃vs sl t1,s.heap.get? a=some ⟨cls,dx,.fields vs,sl⟩∧vs[0]?=some (.ref t1)∧vs[1]?=some .none:=
 (show ObjOk X.prog X.w H s.heap a (ExcN a cls dx) from I.hok a _ h).1
theorem excN_ok{P:Program}{w:World}{H:Hp}{h:Heap}{a:Addr}{cls:Value}{dx:Option Addr}{vs:Array Value}{sl:Array (Option Value)}{t1:Addr}(e:h.get? a=some ⟨cls,dx,.fields vs,sl⟩)(e0:vs[0]?=some (.ref t1))(e1:vs[1]?=some .none):ObjOk P w H h a (ExcN a cls dx):=
 ⟨⟨vs,sl,t1,e,e0,e1⟩,⟨_,e⟩,fun h1 h3 ⟨vs',sl',t',q,r⟩ kk=>⟨vs',sl',t',kk _ q,r⟩⟩
def sXF1(K:PySem.W.Frag)(ta tv:TE)(f:Str):TS:=fun D σ H=>tv σ H fun y H1=>ta σ H1 fun x H2=>∃a C CF,x=.ref a∧H2 a=some (ExcN a (.ref C) none)∧XOwn K C CF∧PySem.W.findIn K (.ref C) f=some none∧
 ∀d,H2 d=none→D.nx σ (upd (upd H2 d (.xd [(f,y)])) a (ExcN a (.ref C) (some d)))
variable{o value:Expr}{f:Str}{pos pos':Pos}{ta tv:TE}
theorem ps_xf1(ha:PE X o ta)(hv:PE X value tv)(hs:swapsWith value (some (.Attribute o f pos')) pos.line X.env=pure false):PS X (.Assign [.Attribute o f pos'] value pos) (sXF1 X.K ta tv f):=by
 intro pins s σ H D I h
 refine plainObj_wpAny_Assign_Attribute (thn (hv pins s σ H _ I h) fun u s1 ⟨y,H1,I1,ry,q⟩=>thn (ha pins s1 σ H1 _ I1 q) fun ov s2 ⟨x,H2,I2,rx,a,C,CF,ex,ea,O,hna,q2⟩=>?_) hs
 subst ex
 obtain rfl:ov=Value.ref a:=rx
 obtain⟨vs,sl,t1,e,e0,e1⟩:=excN_obj I2 ea
 obtain⟨cd,hcd,hm,hh⟩:=O.cls
 obtain⟨hh2,g2,d2,t2,os2⟩:=s2
 refine xset_new I2.kIn e hcd hm hh O.sa hna fun h' tk' hx hn k=>?_
 have hne:hh2.objs.size≠a:=Nat.ne_of_gt (Heap.lt_size e)
 refine⟨σ,_,?_,q2 hh2.objs.size (I2.hok.fresh (Nat.le_refl _))⟩
 refine I2.write2 (by rw[ea];trivial) (Nat.le_refl _) k ⟨_,hx⟩ (excN_ok hx e0 e1) ?_
 refine⟨_,hn,fun z=>?_⟩
 show RelO (List.lookup z [(f,y)]) (if z=f then some u else none)
 by_cases q:z=f
 ·subst q;rw[if_pos rfl,List.lookup_cons_self];exact ry
 ·rw[if_neg q,List.lookup_cons,beq_eq_false_iff_ne.mpr q];trivial
structure FInit(K:PySem.W.Frag)(mg:Str→Option Value)(x:Str)(CF:Addr):Prop where
 bound:mg x=some (.ref CF)
 sp:PySem.W.specialIn K (.ref CF) "__getattribute__"=some (some (.builtin "type.__getattribute__"))
 rd:PySem.W.readsIn K CF (.type "type")=true
 fc:PySem.W.findCls K (.ref CF) (.type "type") "__init__"=some (.val (.builtin "ValueError.__init__"))
def tXI(K:PySem.W.Frag)(t:TA):TE:=fun σ H Q=>t σ H fun vs H1=>∃a C CF dx rest,vs=.ref a::rest∧H1 a=some (ExcN a (.ref C) dx)∧XOwn K C CF∧rest.length≤sizeLine∧Q .non H1
theorem call_init{C CF a:Addr}{dx:Option Addr}{rest:List Value}{Q:VK}(I:Inv X pins σ H s)(ea:H a=some (ExcN a (.ref C) dx))(O:XOwn X.K C CF)(hl:rest.length≤sizeLine)(q:Q .non H):
 wpAny (model X.prog X.w) X.A (call (.builtin "ValueError.__init__") (.ref a::rest)) (EP X pins σ Q) X.xe s:=by
 obtain⟨vs,sl,t1,e,e0,e1⟩:=excN_obj I ea
 obtain⟨N,nm,qn,bs,hd,sn,sub,ab,col,dd,k0,k1,k2,k3,k5,hC⟩:=O.at I.kIn
 obtain⟨hh,g,d,t,os⟩:=s
 have sz:0<vs.size:=(Array.getElem?_eq_some_iff.mp e0).1
 refine init_exc (O.tail I.kIn) hC e e0 hl fun h' t0 k he=>?_
 have J:Inv X pins σ (upd H a (ExcN a (.ref C) dx)) (⟨h',g,d,t,os⟩:Shared):=I.write (x:=a) (e:=a) (t':=t) (by rw[ea];trivial) (.inl rfl) k ⟨_,he⟩
  (excN_ok he (by rw[Array.getElem?_setIfInBounds_self_of_lt sz]) (by rw[Array.getElem?_setIfInBounds_ne (by decide)];exact e1))
 have eq:upd H a (ExcN a (.ref C) dx)=H:=by
  funext b
  by_cases hb:b=a
  ·subst hb;rw[upd_same,ea]
  ·rw[upd_ne hb]
 rw[eq] at J
 exact⟨.non,H,J,rfl,q⟩
theorem pe_xinit{x:Str}{CF:Addr}{e:Expr}{es:List Expr}{t:TA}{p apos pos:Pos}{pl:Sem Bool}(N:FInit X.K X.mg x CF)(hg:Gl X x)(ha:PA X (e::es) t)
 (hdb:(x==("__debug__":Str))=false:=by decide)(hst:starEach (e::es) X.env=(false,eval e X.env)::starEach es X.env:=by rfl)(hpl:(backTo pos (starEach es X.env)).any (·.1)=false:=by rfl)
 (ht:eval (.Call (.Attribute (.Name x p) "__init__" apos) (e::es) [] pos) X.env=(do
  let ov ←eval (.Name x p) X.env
  standAt apos.atName
  let (f,first) ←holding [ov] (getMethod ov "__init__" pl)
  callWith pos f first (backTo pos (starEach (e::es) X.env)) (backToKw pos (keywordEach [] X.env))):=by rfl):
 PE X (.Call (.Attribute (.Name x p) "__init__" apos) (e::es) [] pos) (tXI X.K t):=by
 intro pins s σ H Q I h
 refine PySem.W.methodCall_KW (pl:=pl) (ld_glob I hg N.bound ?_ hdb) ht
 refine PySem.W.method_cls I.kIn N.sp (PySem.W.cls_value I.kIn N.rd N.fc rfl ?_)
 have I1:Inv X pins σ H { s with toks:=s.toks+1 }:=I.tok _
 refine callWith_builtin1 (thn (ha pos pins _ σ H _ I1 h) fun us s2 ⟨vs,H2,I2,r,a,C,CF,dx,rest,ev,ea,O,hl,q2⟩=>?_) hst hpl
 subst ev
 cases r with
 | cons r1 r2=>
  cases (show _=Value.ref a from r1)
  exact call_init I2 ea O (by rw[←r2.length];exact hl) q2
def era(H:Hp)(a:Addr):Hp:=fun b=>if b=a then none else H b
theorem era_ne{H:Hp}{a b:Addr}(h:b≠a):era H a b=H b:=by unfold era;rw[if_neg h]
theorem era_same{H:Hp}{a:Addr}:era H a a=none:=by unfold era;rw[if_pos rfl]
theorem era_none{H:Hp}{a b:Addr}(h:H b=none):era H a b=none:=by
 unfold era;split
 ·rfl
 ·exact h
theorem un_era{fs ex:List Addr}{H1 H2:Hp}{h1 h2:Heap}{a:Addr}{φ:Heap→Prop}(u:Un fs ex H1 H2 h1 h2)(ha:H2 a=some (.ext φ)):Un fs ex H1 (era H2 a) h1 h2 where
 keep:=u.keep
 slot:=u.slot
 free:=fun b o q n hx=>era_none (u.free b o q n hx)
 there:=u.there
 tups:=fun b xs q=>by
  have z:=u.tups b xs q
  rw[era_ne (ne_of z ha (fun e=>nomatch e))];exact z
 frzs:=fun b o xs q=>by
  have z:=u.frzs b o xs q
  rw[era_ne (ne_of z ha (fun e=>nomatch e))];exact z
 tbls:=fun b ps q=>by
  obtain⟨more,z⟩:=u.tbls b ps q
  exact⟨more,by rw[era_ne (ne_of z ha (fun e=>nomatch e))];exact z⟩
theorem hok_era{P:Program}{w:World}{H:Hp}{h:Heap}{a:Addr}{φ:Heap→Prop}(ok:HOk P w H h)(ha:H a=some (.ext φ)):HOk P w (era H a) h:=fun b o q=>by
 by_cases hb:b=a
 ·subst hb;rw[era_same] at q;cases q
 ·rw[era_ne hb] at q
  refine(ok b o q).stay (fun _ _ _ z=>z) (fun c z=>?_) fun c xs z=>?_
  ·rw[era_ne (ne_of z ha (fun e=>nomatch e))];exact z
  ·rw[era_ne (ne_of z ha (fun e=>nomatch e))];exact z
theorem Inv.era{a:Addr}{φ:Heap→Prop}(I:Inv X pins σ H s)(ha:H a=some (.ext φ)):Inv X pins σ (era H a) s:=by
 have e:s={ s with heap:=s.heap,toks:=s.toks }:=rfl
 rw[e]
 exact I.un (un_era Un.refl ha) (hok_era I.hok ha)
theorem un_new{fs ex:List Addr}{H:Hp}{h h':Heap}{a:Addr}{o:HO}(k:∀b u,h.get? b=some u→h'.get? b=some u)(hnew:h.get? a=none)(hn:H a=none):Un fs ex H (upd H a o) h h' where
 keep:=fun b u q _ _ _=>k b u q
 slot:=fun b u q _ _ _=>⟨u.slots,k b u q⟩
 free:=fun b u q n _=>by rw[upd_ne (fun z=>by rw[z,hnew] at q;cases q)];exact n
 there:=fun b u q _=>⟨u,k b u q⟩
 tups:=fun b xs q=>by rw[upd_ne (ne_of_none q hn)];exact q
 frzs:=fun b u xs q=>by rw[upd_ne (ne_of_none q hn)];exact q
 tbls:=fun b ps q=>⟨#[],by rw[upd_ne (ne_of_none q hn),q];simp⟩
theorem hok_new{P:Program}{w:World}{H:Hp}{h h':Heap}{a:Addr}{o:HO}(x:HOk P w H h)(k:∀b u,h.get? b=some u→h'.get? b=some u)(hn:H a=none)(new:ObjOk P w (upd H a o) h' a o):HOk P w (upd H a o) h':=fun b u e=>by
 by_cases hb:b=a
 ·subst hb;rw[upd_same] at e;cases e;exact new
 ·rw[upd_ne hb] at e
  exact(x b u e).stay (fun c v _ q=>k c v q) (fun c q=>by rw[upd_ne (ne_of_none q hn)];exact q) fun c xs q=>by rw[upd_ne (ne_of_none q hn)];exact q
end
section
variable{M:Model}{A:Around}{E:Value→Shared→Prop}
theorem raise_own{env:Env}{s:Shared}{x:Sem Value}{Q:Flow→Shared→Prop}(hh:A.handled=none)
 (h:wpAny M A x (fun v s₁=>∃e nm q C N bs CF hdct sn sub ab col dd k0 k1 k2 k3 k5 newId dx vs sl,v=.ref e∧s₁.heap.get? C=some (excClassObj nm q C N bs (.ref CF::bmV) hdct sn sub ab col dd k0 k1 k2 k3 k5 newId)∧
  s₁.heap.get? e=some ⟨.ref C,dx,.fields vs,sl⟩∧vs[1]?=some .none∧E (.ref e) s₁) E s):
 wpAny M A (raiseStmt env (some x) none) Q E s:=by
 unfold raiseStmt
 refine wpAny_bind (wpAny_mono h (fun v s₁ h₁=>?_) fun _ _ x=>x)
 obtain⟨e,nm,q,C,N,bs,CF,hdct,sn,sub,ab,col,dd,k0,k1,k2,k3,k5,newId,dx,vs,sl,rfl,hC,he,h1,hE⟩:=h₁
 have hcB:(Value.ref C::.ref CF::bmV).contains (.type "BaseException")=true:=by
  rw[List.contains_cons,List.contains_cons];rfl
 obtain⟨hp,g,d,tk,os⟩:=s₁
 repeat (first | with_reducible refine wpAny_field he rfl h1 ?_ | with_reducible refine wpAny_loadPart_at he ?_ | with_reducible refine wpAny_loadPart_at hC ?_ | (with_reducible refine wpAny_isSubtype_exc hC ?_;rw[hcB]) | wp_step)
 exact wpAny_raiseNew_none hh hE
end
end L2
set_option Elab.async false
set_option linter.all false
set_option maxRecDepth 100000
set_option maxHeartbeats 4000000
namespace L2
open PySem PySem.Spec PyProof.Rows
structure XMk(K:PySem.W.Frag)(mg:Str→Option Value)(x:Str)(C CF f:Addr):Prop extends XOwn K C CF where
 bound:mg x=some (.ref C)
 kp:PySem.W.keepIn K (.ref C)=true
 init:PySem.W.findIn K (.ref C) "__init__"=some (some (.ref f))
 fn:PySem.W.typeIn K (.ref f)=some (.type "function")
def tRaiseX(C:Addr)(sp:Sp)(EE:Value→Option Addr→St→Hp→Prop)(ta:TA):TS:=fun _ σ H=>ta σ H fun vs H1=>vs.length≤sizeLine∧∀e,H1 e=none→
 sp (.ref e::(vs++[])) (upd H1 e (ExcN e (.ref C) none)) (fun v H2=>v=.non∧∃dx,H2 e=some (ExcN e (.ref C) dx)∧EE (.ref C) dx σ (era H2 e)) E0
section
variable{X:Cx}{EE:Value→Option Addr→St→Hp→Prop}
theorem ps_raiseX{k:Nat}{x:Str}{C CF f:Addr}{fd:FuncData}{ps:List Str}{sp:Sp}{e:Expr}{es:List Expr}{t:TA}{np cpos pos:Pos}(T:Thr X EE)(hc:X.calm=true)(O:XMk X.K X.mg x C CF f)(F:FnOk X.prog X.w X.K X.mg X.base CX0 k f fd ps sp)(hr:Room (k+1) X.A)(hb:Binds X.K fd ps [])
 (hg:Gl X x)(ha:PA X (e::es) t)
 (hdb:(x==("__debug__":Str))=false:=by decide)(he:starEach (e::es) X.env=(false,eval e X.env)::starEach es X.env:=by rfl)(hpl:(backTo cpos (starEach es X.env)).any (·.1)=false:=by rfl):
 PS X (.Raise (some (.Call (.Name x np) (e::es) [] cpos)) none pos) (tRaiseX C sp EE t):=by
 intro pins s σ H D I h
 rw[arm_exec_Raise]
 refine wpAny_bind (wpAny_standAt (raise_own (I.ok.hd hc) ?_))
 refine wpAny_bind (wpAny_mono (Q:=fun v s₁=>∃e nm q C N bs CF hdct sn sub ab col dd k0 k1 k2 k3 k5 newId dx vs sl,v=.ref e∧s₁.heap.get? C=some (excClassObj nm q C N bs (.ref CF::bmV) hdct sn sub ab col dd k0 k1 k2 k3 k5 newId)∧
  s₁.heap.get? e=some ⟨.ref C,dx,.fields vs,sl⟩∧vs[1]?=some .none∧X.xe (.ref e) s₁) ?_ (fun v s₃ h₃=>wpAny_bind (wpAny_standAt (wpAny_pure h₃))) fun _ _ x=>x)
 refine wpAny_Call_Name_kw (ld_glob I hg O.bound ?_ hdb)
 refine PySem.W.callWith_K (h₀:=X.base) I.ok.mod.kin O.kp (thn (ha cpos pins s σ H _ I h) fun us s1 ⟨vs,H1,I1,r,hz,q⟩=>⟨I1.kIn,?_⟩) he hpl
 obtain⟨N,nm,qn,bs,hd,sn,sub,ab,col,dd,k0,k1,k2,k3,k5,hC⟩:=O.toXOwn.at I1.kIn
 obtain⟨hp,g,d,tk,os⟩:=s1
 have hzu:us.length≤sizeLine:=by rw[←r.length];exact hz
 show wpAny _ _ (call (.ref C) us) _ _ _
 refine make_exc (f:=f) (O.toXOwn.tail I1.kIn) I1.kIn hC O.init O.fn hzu fun h' ea M=>?_
 obtain⟨ta,e1,_,_⟩:=M.there
 have hn:H1 ea=none:=by
  cases z:H1 ea with
  | none=>rfl
  | some o=>
   obtain⟨u,hu⟩:=(I1.hok ea o z).obj
   rw[M.new] at hu;cases hu
 have I2:Inv X pins σ (upd H1 ea (ExcN ea (.ref C) none)) (⟨h',g,d,tk,os⟩:Shared):=
  I1.un (t':=tk) (un_new M.keeps M.new hn) (hok_new I1.hok M.keeps hn (excN_ok e1 rfl rfl))
 have hq:=q ea hn
 have r2:Vals (V.ref ea::(vs++[])) (Value.ref ea::us):=.cons rfl (by rw[List.append_nil];exact r)
 have hl:(Value.ref ea::us).length=ps.length:=by rw[←r2.length];exact F.len _ _ _ _ hq
 have hb':=hb ⟨h',g,d,tk,os⟩ (Value.ref ea::us) I2.kIn (by rw[List.append_nil];exact hl)
 rw[List.append_nil] at hb'
 refine codeAny_mono (F.run _ X.stack _ _ ⟨Value.ref ea::us,[]⟩ (Value.ref ea::us) _ _ E0 (hr.make C us []) (I2.env0.make C us []) hb' r2 hq) fun z s' hq'=>?_
 cases z with
 | error x=>exact hq'.elim
 | ok fl=>
  cases fl with
  | next=>exact hq'.elim
  | brk=>exact hq'.elim
  | cont=>exact hq'.elim
  | ret u=>
   obtain⟨v,H2,os2,bare,un,hok,rv,rfl,dx,hH,qe⟩:=hq'
   have I3:Inv X pins σ H2 s':=I2.call' (ch:=[]) os2 un hok bare (fun b z=>nomatch z)
   obtain⟨vs',sl',t1,g1,g2,g3⟩:=excN_obj I3 hH
   have I4:Inv X pins σ (era H2 ea) s':=I3.era hH
   have un2:Un (frs X.stack) [] H1 (era H2 ea) hp s'.heap:=un_era ((un_new M.keeps M.new hn).trans un) hH
   obtain⟨N',nm',qn',bs',hd',sn',sub',ab',col',dd',k0',k1',k2',k3',k5',hC'⟩:=O.toXOwn.at I3.kIn
   refine⟨rv,ea,nm',qn',C,N',bs',CF,hd',sn',sub',ab',col',dd',k0',k1',k2',k3',k5',_,dx,vs',sl',rfl,hC',g1,g3,?_⟩
   exact T.made pins σ H1 ⟨hp,g,d,tk,os⟩ _ _ I1 (cxm_made (dx:=dx) I1 I4 un2 os2 ⟨vs',sl',g1,g3⟩ M.new era_same qe)
end
end L2
set_option Elab.async false
set_option linter.all false
set_option maxRecDepth 100000
set_option maxHeartbeats 4000000
namespace L2
open PySem PySem.Spec PyProof.Rows
def intT(i:Int):Str:=Str.ofString (toString i)
def shI(is:List Int):Str:=tupleText (is.map intT)
inductive FmtV(K:PySem.W.Frag)(H:Hp):V→Str→Prop
 | int {i:Int}:i.natAbs.log2<1920→FmtV K H (.int i) (intT i)
 | str {z:Str}:z.length≤sizeLine→FmtV K H (.str z) z
 | tup {a:Addr} {is:List Int}:SqT K H a (is.map V.int)→(∀i∈is,i.natAbs.log2<1920)→(shI is).length≤sizeLine→FmtV K H (.ref a) (shI is)
theorem shownAll_ints:∀is:List Int,PyData.shownAll (is.map PyData.int)=is.map intT
 | []=>by simp[PyData.shownAll]
 | i::is=>by simp only[List.map_cons,PyData.shownAll,PyData.shown,shownAll_ints is];rfl
theorem showableAll_ints:∀is:List Int,(∀i∈is,i.natAbs.log2<1920)→PyData.showableAll (is.map PyData.int)=true
 | [],_=>by simp[PyData.showableAll]
 | i::is,h=>by
  simp only[List.map_cons,PyData.showableAll,PyData.showable,showableAll_ints is fun j hj=>h j (List.mem_cons_of_mem _ hj),Bool.and_true,decide_eq_true_eq]
  exact h i (List.mem_cons_self ..)
theorem hasDictAll_ints:∀is:List Int,PyData.hasDictAll (is.map PyData.int)=false
 | []=>by simp[PyData.hasDictAll]
 | i::is=>by simp only[List.map_cons,PyData.hasDictAll,PyData.hasDict,hasDictAll_ints is,Bool.or_self]
theorem depthAll_ints:∀is:List Int,PyData.depthAll (is.map PyData.int)≤1
 | []=>by simp[PyData.depthAll]
 | i::is=>by
  have:=depthAll_ints is
  simp only[List.map_cons,PyData.depthAll,PyData.depth]
  omega
theorem readsAll_ints{h:Heap}:∀{is:List Int} {us:List Value},Vals (is.map V.int) us→ReadsAll h us (is.map PyData.int) []
 | [],_,.nil=>.nil
 | i::is,_,.cons r t=>by
  obtain⟨tk,rfl⟩:=(show ∃tk,_=Value.int i tk from r)
  exact .cons (as:=[]) (bs:=[]) (.int i tk) (readsAll_ints t)
section
variable{X:Cx}{pins:List (Addr×Obj)}{σ:St}{H:Hp}{s:Shared}
theorem fmt_ok{k:Nat}{x:V}{u:Value}{y:Str}{Q:VK}(hr:RoomN k X.A)(I:Inv X pins σ H s)(r:RelV x u)(f:FmtV X.K H x y)(q:Q (.str y) H):wpAny (model X.prog X.w) X.A (formatField u Str.empty) (EP X pins σ Q) X.xe s:=by
 cases f with
 | int h=>
  obtain⟨t,rfl⟩:=(show ∃t,u=Value.int _ t from r)
  exact wpAny_formatField_int h ⟨.str (intT _),H,I.tok _,⟨_,rfl⟩,q⟩
 | str h=>
  obtain⟨t,rfl⟩:=(show ∃t,u=Value.str y t from r)
  exact wpAny_formatField_str ⟨.str y,H,I,⟨_,rfl⟩,q⟩ ⟨.str y,H,I.tok _,⟨_,rfl⟩,q⟩ h
 | @tup a is hs hi hz=>
  cases (show u=Value.ref a from r)
  obtain⟨its,vr,⟨o,ho,hc,n,hd⟩,hl⟩:=I.tuple hs
  have rd:Reads s.heap (.ref a) (.tuple (is.map PyData.int)) []:=.tuple ho hc hd (readsAll_ints vr)
  have e:(PyData.tuple (is.map PyData.int)).shown=shI is:=by simp only[PyData.shown,shownAll_ints];rfl
  have hdp:(PyData.tuple (is.map PyData.int)).depth≤3:=by
   have:=depthAll_ints is
   simp only[PyData.depth]
   omega
  refine formatField_of_reads rd (by simp only[PyData.showable];exact showableAll_ints is hi) (PyData.noDict_hsm (by simp only[PyData.hasDict];exact hasDictAll_ints is)) hr.gd (by have:=hr.un;omega) (fun _ _ z=>z) (fun h' u tk hk=>?_) (by rw[e];exact hz)
  rw[e]
  exact⟨.str (shI is),H,I.kept hk,⟨_,rfl⟩,q⟩
end
def tFmt(K:PySem.W.Frag)(tv:TE):TE:=fun σ H Q=>tv σ H fun x H1=>∃y,FmtV K H1 x y∧Q (.str y) H1
abbrev TJ:=Str→St→Hp→VK→Prop
def PJ(X:Cx)(es:List Expr)(t:TJ):Prop:=∀(pins:List (Addr×Obj)) (s:Shared) (σ:St) (H:Hp) (out:Str) (Q:VK),Inv X pins σ H s→t out σ H Q→wpAny (model X.prog X.w) X.A (joinParts out (evalEach es X.env)) (EP X pins σ Q) X.xe s
def jNil:TJ:=fun out _ H Q=>out.length≤sizeLine∧Q (.str out) H
def jCons(te:TE)(t:TJ):TJ:=fun out σ H Q=>te σ H fun x H1=>∃y,x=.str y∧(out++y).length≤sizeLine∧t (out++y) σ H1 Q
def tJoin(t:TJ):TE:=fun σ H Q=>t Str.empty σ H Q
section
variable{X:Cx}{k:Nat}{e e₂:Expr}{es:List Expr}{te:TE}{t:TJ}{pos:Pos}
theorem pe_fmt(hr:RoomN k X.A)(h:PE X e te):PE X (.FormattedValue e (-1) none pos) (tFmt X.K te):=by
 intro pins s σ H Q I hw
 refine FormattedValue_plain (thn (h pins s σ H _ I hw) fun u s1 ⟨x,H1,I1,r,y,f,q⟩=>?_)
 exact fmt_ok hr I1 r f q
theorem pj_nil:PJ X [] jNil:=fun pins s σ H out Q I h=>joinParts_nil ⟨.str out,H,I.tok _,⟨_,rfl⟩,h.2⟩ h.1
theorem pj_cons(h1:PE X e te)(h2:PJ X es t):PJ X (e::es) (jCons te t):=by
 intro pins s σ H out Q I h
 show wpAny _ _ (joinParts out (eval e X.env::evalEach es X.env)) _ _ _
 refine joinParts_cons (thn (h1 pins s σ H _ I h) fun u s1 ⟨x,H1,I1,r,y,ex,hz,q⟩=>?_)
 subst ex
 obtain⟨tk,rfl⟩:=(show ∃tk,u=Value.str y tk from r)
 exact⟨hz,h2 pins s1 σ H1 (out++y) Q I1 q⟩
theorem pe_join(h:PJ X (e::e₂::es) t):PE X (.JoinedStr (e::e₂::es) pos) (tJoin t):=fun pins s σ H Q I hw=>JoinedStr_many (h pins s σ H Str.empty Q I hw)
end
def tXGet(K:PySem.W.Frag)(ta:TE)(f:Str):TE:=fun σ H Q=>ta σ H fun x H1=>∃a C d fs v,x=.ref a∧H1 a=some (ExcO a (.ref C) (some d))∧H1 d=some (.xd fs)∧XGet K C∧PySem.W.hasDictIn K C=true∧PySem.W.findIn K (.ref C) f=some none∧fs.lookup f=some v∧Q v H1
section
variable{X:Cx}{e:Expr}{f:Str}{pos:Pos}{ta:TE}
theorem pe_xget(he:PE X e ta)(hb:attributeBase e f X.env (eval e X.env)=eval e X.env):PE X (.Attribute e f pos) (tXGet X.K ta f):=by
 intro pins s σ H Q I h
 refine attr_of hb (thn (he pins s σ H _ I h) fun u s1 ⟨x,H1,I1,rx,a,C,d,fs,v,ex,ea,ed,G,hh,ha,l,q⟩=>?_)
 subst ex
 obtain rfl:u=Value.ref a:=rx
 obtain⟨⟨vs,sl,ho⟩,_⟩:=(show ObjOk X.prog X.w H1 s1.heap a (ExcO a (.ref C) (some d)) from I1.hok a _ ea)
 obtain⟨mA,hn,r⟩:=I1.hok d _ ed
 obtain⟨u,hu,ru⟩:=RelO.some_of (v:=v) (o:=mA f) (by rw[←l];exact r f)
 obtain⟨od,hod,hl⟩:=lookIn_ns hn
 have J:PySem.W.InstAt s1.heap a ⟨.ref C,some d,.fields vs,sl⟩ C (some od):=⟨ho,rfl,rfl,hod⟩
 exact xget_value I1.kIn J G (PySem.W.findObj_own hh ha rfl (by rw[hl,hu])) (handed_of ru) ⟨v,H1,I1.tok _,ru,q⟩
end
end L2
set_option Elab.async false
set_option linter.all false
set_option maxRecDepth 100000
set_option maxHeartbeats 4000000
namespace L2
open PySem PySem.Spec PyProof.Rows
structure CalX(P:Program)(w:World)(K:PySem.W.Frag)(mg:Str→Option Value)(base:Heap)(k:Nat)(x:Str)(C CF:Addr)(ps:List Str)(sp:Sp):Prop where
 ex:∃(f:Addr) (fd:FuncData),FnOk P w K mg base CX0 k f fd ps sp∧Binds K fd ps []∧XMk K mg x C CF f
section
variable{X:Cx}{EE:Value→Option Addr→St→Hp→Prop}
theorem ps_raiseC{k:Nat}{x:Str}{C CF:Addr}{ps:List Str}{sp:Sp}{e:Expr}{es:List Expr}{t:TA}{np cpos pos:Pos}(T:Thr X EE)(hc:X.calm=true)(O:CalX X.prog X.w X.K X.mg X.base k x C CF ps sp)(hr:Room (k+1) X.A)
 (hg:Gl X x)(ha:PA X (e::es) t)
 (hdb:(x==("__debug__":Str))=false:=by decide)(he:starEach (e::es) X.env=(false,eval e X.env)::starEach es X.env:=by rfl)(hpl:(backTo cpos (starEach es X.env)).any (·.1)=false:=by rfl):
 PS X (.Raise (some (.Call (.Name x np) (e::es) [] cpos)) none pos) (tRaiseX C sp EE t):=by
 intro pins s σ H D I h
 obtain⟨f,fd,F,hb,M⟩:=O.ex
 exact ps_raiseX T hc M F hr hb hg ha hdb he hpl pins s σ H D I h
structure CalM(P:Program)(w:World)(K:PySem.W.Frag)(mg:Str→Option Value)(base:Heap)(CX:CXT)(k:Nat)(C:Addr)(m:Str)(ps:List Str)(sp:Sp):Prop where
 ex:∃(f:Addr) (fd:FuncData),FnOk P w K mg base CX k f fd ps sp∧Binds K fd ps []∧Meth K C m f
structure CalI(P:Program)(w:World)(K:PySem.W.Frag)(mg:Str→Option Value)(base:Heap)(CX:CXT)(k:Nat)(x:Str)(C:Addr)(ps:List Str)(sp:Sp):Prop where
 ex:∃(f:Addr) (fd:FuncData),FnOk P w K mg base CX k f fd ps sp∧Binds K fd ps []∧Mk K C f∧mg x=some (.ref C)
variable{C:Addr}{m x:Str}{k:Nat}{ps:List Str}{sp:Sp}{o e:Expr}{es:List Expr}{ta:TE}{t:TA}{apos pos p:Pos}
theorem pe_mcal{pl:Sem Bool}(O:CalM X.prog X.w X.K X.mg X.base CX0 k C m ps sp)(c:Cls X.K C)(hr:Room k X.A)(he:PE X o ta)(ha:PA X (e::es) t)
 (hst:starEach (e::es) X.env=(false,eval e X.env)::starEach es X.env:=by rfl)(hpl:(backTo pos (starEach es X.env)).any (·.1)=false:=by rfl)
 (ht:eval (.Call (.Attribute o m apos) (e::es) [] pos) X.env=(do
  let ov ←eval o X.env
  standAt apos.atName
  let (f,first) ←holding [ov] (getMethod ov m pl)
  callWith pos f first (backTo pos (starEach (e::es) X.env)) (backToKw pos (keywordEach [] X.env))):=by rfl):
 PE X (.Call (.Attribute o m apos) (e::es) [] pos) (tMeth C m sp [] E0 ta t):=by
 obtain⟨f,fd,F,hb,M⟩:=O.ex
 exact pe_meth (pl:=pl) he c M F hr hb .nil pass0 ha hst hpl ht
theorem pe_mcal0{pl:Sem Bool}(O:CalM X.prog X.w X.K X.mg X.base CX0 k C m ps sp)(c:Cls X.K C)(hr:Room k X.A)(he:PE X o ta)
 (ht:eval (.Call (.Attribute o m apos) [] [] pos) X.env=(do
  let ov ←eval o X.env
  standAt apos.atName
  let (f,first) ←holding [ov] (getMethod ov m pl)
  callWith pos f first (backTo pos (starEach [] X.env)) (backToKw pos (keywordEach [] X.env))):=by rfl):
 PE X (.Call (.Attribute o m apos) [] [] pos) (tMeth C m sp [] E0 ta tNil):=by
 obtain⟨f,fd,F,hb,M⟩:=O.ex
 exact pe_meth0 (pl:=pl) he c M F hr hb .nil pass0 ht
theorem pe_mk(O:CalI X.prog X.w X.K X.mg X.base CX0 k x C ps sp)(hr:Room (k+1) X.A)(hg:Gl X x)(ha:PA X (e::es) t)
 (hdb:(x==("__debug__":Str))=false:=by decide)(he:starEach (e::es) X.env=(false,eval e X.env)::starEach es X.env:=by rfl)(hpl:(backTo pos (starEach es X.env)).any (·.1)=false:=by rfl):
 PE X (.Call (.Name x p) (e::es) [] pos) (tMake C sp [] E0 t):=by
 obtain⟨f,fd,F,hb,M,hm⟩:=O.ex
 exact pe_make M F hr hg hm hb .nil pass0 ha hdb he hpl
def tMakeE(C:Addr)(sp:Sp)(EE:Value→Option Addr→St→Hp→Prop)(t:TA):TE:=fun σ H Q=>t σ H fun vs H1=>∀x dx,H1 x=none→H1 dx=none→dx≠x→
 sp (.ref x::(vs++[])) (upd (upd H1 dx (.own x)) x (.ins C dx [])) (fun v H2=>v=.non∧Q (.ref x) H2) (fun c d H'=>EE c d σ H')
theorem run_fnE{pins:List (Addr×Obj)}{σ:St}{H:Hp}{s:Shared}{Q:VK}{f:Addr}{fd:FuncData}{us:List Value}{vs:List V}(T:Thr X EE)(F:FnOk X.prog X.w X.K X.mg X.base (CX1 X.prog X.w) k f fd ps sp)(hr:Room k X.A)(hb:Binds X.K fd ps [])
 (I:Inv X pins σ H s)(r:Vals vs us)(h:sp (vs++[]) H Q (fun c d H'=>EE c d σ H')):wpAny (model X.prog X.w) X.A (call (.ref f) us) (EP X pins σ Q) X.xe s:=by
 have r2:Vals (vs++[]) (us++[]):=r.append .nil
 have hl:(us++[]).length=ps.length:=by rw[←r2.length];exact F.len _ _ _ _ h
 refine wpAny_call (codeAny_mono (F.run X.A X.stack s H ⟨us,[]⟩ (us++[]) (vs++[]) Q _ hr I.env0 (hb s us I.kIn hl) r2 h) fun r s' hq=>?_)
 cases r with
 | error e=>exact T.call pins σ H s e s' I hq
 | ok fl=>
  cases fl with
  | ret u=>exact I.after hq
  | next=>exact False.elim hq
  | brk=>exact False.elim hq
  | cont=>exact False.elim hq
theorem pe_mkE(T:Thr X EE)(O:CalI X.prog X.w X.K X.mg X.base (CX1 X.prog X.w) k x C ps sp)(hr:Room (k+1) X.A)(hg:Gl X x)(ha:PA X (e::es) t)
 (hdb:(x==("__debug__":Str))=false:=by decide)(he:starEach (e::es) X.env=(false,eval e X.env)::starEach es X.env:=by rfl)(hpl:(backTo pos (starEach es X.env)).any (·.1)=false:=by rfl):
 PE X (.Call (.Name x p) (e::es) [] pos) (tMakeE C sp EE t):=by
 intro pins s0 σ H0 Q I0 h0
 obtain⟨f,fd,F,hb,M,hm⟩:=O.ex
 refine wpAny_Call_Name_kw (ld_glob I0 hg hm ?_ hdb)
 refine PySem.W.callWith_K (h₀:=X.base) I0.ok.mod.kin M.kp (thn (ha pos pins s0 σ H0 _ I0 h0) fun us s ⟨vs,H,I,r,h⟩=>⟨I.kIn,?_⟩) he hpl
 have hq:=h (s.heap.objs.size+1) s.heap.objs.size (I.hok.fresh (Nat.le_succ _)) (I.hok.fresh (Nat.le_refl _)) (Nat.ne_of_lt (Nat.lt_succ_self _))
 have I2:=Inv.made (C:=C) I
 have r2:Vals (V.ref (s.heap.objs.size+1)::(vs++[])) (Value.ref (s.heap.objs.size+1)::(us++[])):=.cons rfl (r.append .nil)
 have hl:(Value.ref (s.heap.objs.size+1)::us++[]).length=ps.length:=by
  have e:=r2.length
  rw[F.len _ _ _ _ hq] at e
  exact e.symm
 have hb2:BindsTo _ fd ⟨Value.ref (s.heap.objs.size+1)::us,[]⟩ (ps.zip (Value.ref (s.heap.objs.size+1)::(us++[]))):=hb _ (Value.ref (s.heap.objs.size+1)::us) I2.kIn hl
 show wpAny _ _ (call (.ref C) us) _ _ _
 refine wpAny_call (make_map (f:=f) I.kIn M.makes M.init (beq_iff_eq.mp M.fn) (codeAny_mono (F.run _ X.stack _ _ ⟨Value.ref (s.heap.objs.size+1)::us,[]⟩ (Value.ref (s.heap.objs.size+1)::(us++[])) _ _ _ (hr.make C us [])
  (I2.env0.make C us []) hb2 r2 hq) fun r s' hq'=>?_))
 cases r with
 | error e=>exact T.call pins σ _ _ e s' I2 hq'
 | ok fl=>
  cases fl with
  | ret u=>
   obtain⟨v,H',I3,rv,ev,q3⟩:=I2.after hq'
   subst ev
   exact⟨rv,⟨V.ref (s.heap.objs.size+1),H',I3,rfl,q3⟩⟩
  | next=>exact False.elim hq'
  | brk=>exact False.elim hq'
  | cont=>exact False.elim hq'
end
end L2
set_option Elab.async false
set_option linter.all false
set_option maxRecDepth 100000
set_option maxHeartbeats 4000000
namespace L2
open PySem PySem.Spec PyProof.Rows
theorem intT_len{i:Int}(h:i.natAbs.log2<1920):(intT i).length≤1921:=by
 have e:=int_text_length_le (k:=1920) (by decide) h
 unfold intT
 rw[PySem.ofString_length];omega
theorem fits{s:Str}{n:Nat}(h:s.length≤n)(hn:n≤100000):s.length≤sizeLine:=Nat.le_trans h (Nat.le_trans hn (by decide))
theorem rd_join{t:TJ}{σ:St}{H:Hp}{Q:VK}(h:t Str.empty σ H Q):tJoin t σ H Q:=h
theorem rd_jnil{out:Str}{σ:St}{H:Hp}{Q:VK}(h:out.length≤sizeLine)(q:Q (.str out) H):jNil out σ H Q:=⟨h,q⟩
theorem rd_jc{x:Str}{t:TJ}{out:Str}{σ:St}{H:Hp}{Q:VK}(n:Nat)(hn:out.length≤n)(hz:n+x.length≤100000)(h:(out++x).length≤n+x.length→t (out++x) σ H Q):jCons (tC (.str x)) t out σ H Q:=by
 have e:(out++x).length≤n+x.length:=by rw[strLen_append];omega
 exact⟨x,rfl,fits e hz,h e⟩
theorem rd_ji{K:PySem.W.Frag}{j:Nat}{i:Int}{t:TJ}{out:Str}{σ:St}{H:Hp}{Q:VK}(n:Nat)(hn:out.length≤n)(hz:n+1921≤100000)(hv:σ[j]?=some (some (.int i)))(hi:i.natAbs.log2<1920)(h:(out++intT i).length≤n+1921→t (out++intT i) σ H Q):
 jCons (tFmt K (tVar j)) t out σ H Q:=by
 have e:(out++intT i).length≤n+1921:=by have:=intT_len hi;rw[strLen_append];omega
 exact⟨.int i,hv,intT i,.int hi,intT i,rfl,fits e hz,h e⟩
theorem rd_xinit{K:PySem.W.Frag}{t:TA}{σ:St}{H:Hp}{Q:VK}(h:t σ H fun vs H1=>∃a C CF dx rest,vs=.ref a::rest∧H1 a=some (ExcN a (.ref C) dx)∧XOwn K C CF∧rest.length≤sizeLine∧Q .non H1):tXI K t σ H Q:=h
theorem rd_xf1{K:PySem.W.Frag}{ta tv:TE}{f:Str}{D:Ends}{σ:St}{H:Hp}(h:tv σ H fun y H1=>ta σ H1 fun x H2=>∃a C CF,x=.ref a∧H2 a=some (ExcN a (.ref C) none)∧XOwn K C CF∧PySem.W.findIn K (.ref C) f=some none∧
 ∀d,H2 d=none→D.nx σ (upd (upd H2 d (.xd [(f,y)])) a (ExcN a (.ref C) (some d)))):sXF1 K ta tv f D σ H:=h
theorem rd_xget{K:PySem.W.Frag}{ta:TE}{f:Str}{σ:St}{H:Hp}{Q:VK}(h:ta σ H fun x H1=>∃a C d fs v,x=.ref a∧H1 a=some (ExcO a (.ref C) (some d))∧H1 d=some (.xd fs)∧XGet K C∧PySem.W.hasDictIn K C=true∧PySem.W.findIn K (.ref C) f=some none∧fs.lookup f=some v∧Q v H1):tXGet K ta f σ H Q:=h
def spInit1(C:Addr)(f:Str)(ok:V→Prop):Sp:=fun vs H Q _=>∃(e:Addr) (v:V),vs=[.ref e,v]∧ok v∧H e=some (ExcN e (.ref C) none)∧∀d,H d=none→Q .non (upd (upd H d (.xd [(f,v)])) e (ExcN e (.ref C) (some d)))
theorem rd_raise1{C:Addr}{f:Str}{ok:V→Prop}{EE:XE}{ta:TA}{D:Ends}{σ:St}{H:Hp}{v:V}(hv:∀Q:List V→Hp→Prop,Q [v] H→ta σ H Q)(hok:ok v)(h:∀d H',Same H H'→H' d=some (.xd [(f,v)])→EE (.ref C) (some d) σ H'):tRaiseX C (spInit1 C f ok) EE ta D σ H:=by
 refine hv _ ⟨(by show 1≤sizeLine;decide),fun e he=>⟨e,v,rfl,hok,upd_same,fun d hd=>⟨rfl,some d,upd_same,?_⟩⟩⟩
 have de:d≠e:=fun z=>by subst z;rw[upd_same] at hd;cases hd
 have hd0:H d=none:=by rw[upd_ne de] at hd;exact hd
 refine h d _ (fun b u hb=>?_) ?_
 ·rw[era_ne (ne_of_none hb he),upd_ne (ne_of_none hb he),upd_ne (ne_of_none hb hd0),upd_ne (ne_of_none hb he)];exact hb
 ·rw[era_ne de,upd_ne de,upd_same]
end L2
set_option Elab.async false
set_option linter.all false
set_option maxRecDepth 100000
set_option maxHeartbeats 4000000
namespace L2
open PySem PySem.Spec PyProof.Rows
section
variable{X:Cx}
theorem thr_never:Thr X (fun _ _ _ _=>False) where
 call:=fun _ _ _ _ _ _ _ h=>by
  obtain⟨_,_,_,_,_,_,_,_,_,_,_,_,_,_,q⟩:=h
  exact q.elim
 made:=fun _ _ _ _ _ _ _ h=>by
  obtain⟨_,_,_,_,_,_,_,_,_,_,_,_,_,_,q⟩:=h
  exact q.elim
theorem rd_eqT{K:PySem.W.Frag}{a b:Addr}{xs ys:List V}{H:Hp}{Q:VK}(ha:SqT K H a xs)(hb:SqT K H b ys)(fx:xs.all flatV=true)(fy:ys.all flatV=true)(q:Q (.bl (eqVs xs ys)) H):rEqT K (.ref a) (.ref b) H Q:=⟨a,b,xs,ys,rfl,rfl,ha,hb,fx,fy,q⟩
theorem rd_par{i j:Nat}{ta:TA}{D:Ends}{σ:St}{H:Hp}(h:ta σ H fun vs H1=>∃v w,vs=[v,w]∧D.nx ((σ.set i (some v)).set j (some w)) H1):tPar i j ta D σ H:=h
theorem rd_ifE{t:TT}{ta tb:TE}{σ:St}{H:Hp}{Q:VK}(h:t σ H fun c H1=>if c=true then ta σ H1 Q else tb σ H1 Q):tIf t ta tb σ H Q:=h
def rSum(K:PySem.W.Frag):List V→Hp→VK→Prop:=fun xs H Q=>∃(p:Addr) (ns:List Int),xs=[.ref p]∧SqL K H p (ns.map V.int)∧Q (.int ns.sum) H
theorem call_sum(hc:X.calm=true):CallR X (.builtin "sum") (rSum X.K):=by
 intro pins s σ H xs us Q I r h
 obtain⟨p,ns,rfl,hq,q⟩:=h
 obtain⟨u,rfl,ru⟩:=vals1 r
 cases (show u=Value.ref p from ru)
 obtain⟨its,rv,pl,_⟩:=I.list hq
 have hi:=intsAre_of rv
 obtain⟨xs,hx⟩:=hi.allInts.items
 have hl':s.heap.IsList p (intItems xs):=hx ▸ pl.isList
 refine sum_intListG (I.ok.hd hc) hl' fun h' tk t' hk=>?_
 have e1:ns=xs.toList.map (·.1):=by
  rw[←nums_intItems,←hx]
  exact(show numsOf its.toArray.toList=ns from hi.numsOf).symm
 have e2:preSum (numAt xs) xs.size=ns.sum:=by
  rw[preSum_eq,List.take_of_length_le (by simp),e1]
 rw[e2]
 exact⟨.int ns.sum,H,I.kept hk,⟨_,rfl⟩,q⟩
def rMinL(K:PySem.W.Frag):List V→Hp→VK→Prop:=fun xs H Q=>∃(p:Addr) (ns:List Int),xs=[.ref p]∧SqL K H p (ns.map V.int)∧ns≠[]∧∀m,m∈ns→(∀a∈ns,m≤a)→Q (.int m) H
def rMaxL(K:PySem.W.Frag):List V→Hp→VK→Prop:=fun xs H Q=>∃(p:Addr) (ns:List Int),xs=[.ref p]∧SqL K H p (ns.map V.int)∧ns≠[]∧∀m,m∈ns→(∀a∈ns,a≤m)→Q (.int m) H
theorem call_minL(hc:X.calm=true):CallR X (.builtin "min") (rMinL X.K):=by
 intro pins s σ H xs us Q I r h
 obtain⟨p,ns,rfl,hq,hne,q⟩:=h
 obtain⟨u,rfl,ru⟩:=vals1 r
 cases (show u=Value.ref p from ru)
 obtain⟨its,rv,pl,_⟩:=I.list hq
 have hi:=intsAre_of rv
 obtain⟨xs,e⟩:=hi.allInts.items
 have hns:ns=xs.toList.map (·.1):=by
  rw[←nums_intItems,←e]
  exact(show numsOf its.toArray.toList=ns from hi.numsOf).symm
 have hsz:0<xs.size:=by
  have h3:=List.length_pos_iff.mpr hne;rw[hns,List.length_map,Array.length_toList] at h3;exact h3
 have hl':s.heap.IsList p (intItems xs):=e ▸ pl.isList
 refine min_intList (I.ok.hd hc) hl' hsz fun v h' tk hv hk=>?_
 obtain⟨t,rfl⟩:=intItems_at hv
 obtain⟨h1,h2⟩:=argBest_lt (numAt xs) (xs.size-1)
 refine⟨.int _,H,I.kept hk,⟨_,rfl⟩,q _ ?_ fun a ha=>?_⟩
 ·rw[hns,numAt_eq];exact getD_mem (by rw[List.length_map,Array.length_toList];omega)
 ·rw[hns] at ha
  obtain⟨j,hj,rfl⟩:=mem_getD ha
  rw[List.length_map,Array.length_toList] at hj
  rw[←numAt_eq];exact h2 j (by omega)
theorem call_maxL(hc:X.calm=true):CallR X (.builtin "max") (rMaxL X.K):=by
 intro pins s σ H xs us Q I r h
 obtain⟨p,ns,rfl,hq,hne,q⟩:=h
 obtain⟨u,rfl,ru⟩:=vals1 r
 cases (show u=Value.ref p from ru)
 obtain⟨its,rv,pl,_⟩:=I.list hq
 have hi:=intsAre_of rv
 obtain⟨xs,e⟩:=hi.allInts.items
 have hns:ns=xs.toList.map (·.1):=by
  rw[←nums_intItems,←e]
  exact(show numsOf its.toArray.toList=ns from hi.numsOf).symm
 have hsz:0<xs.size:=by
  have h3:=List.length_pos_iff.mpr hne;rw[hns,List.length_map,Array.length_toList] at h3;exact h3
 have hl':s.heap.IsList p (intItems xs):=e ▸ pl.isList
 refine max_intList (I.ok.hd hc) hl' hsz fun v h' tk hv hk=>?_
 obtain⟨t,rfl⟩:=intItems_at hv
 obtain⟨h1,h2⟩:=argBest_gt (numAt xs) (xs.size-1)
 refine⟨.int _,H,I.kept hk,⟨_,rfl⟩,q _ ?_ fun a ha=>?_⟩
 ·rw[hns,numAt_eq];exact getD_mem (by rw[List.length_map,Array.length_toList];omega)
 ·rw[hns] at ha
  obtain⟨j,hj,rfl⟩:=mem_getD ha
  rw[List.length_map,Array.length_toList] at hj
  rw[←numAt_eq];exact h2 j (by omega)
end
section
variable{X:Cx}{M:List Str}{x:Str}{scope:Scope}{cl:List (Str×Addr)}{C:Addr}{s₀:Shared}{H₀:Hp}{fp:List Addr}
theorem ix_list_c:IxR (compCx X M x scope cl C s₀ H₀ fp) (rIxL X.K):=ix_list
theorem ix_tup_c:IxR (compCx X M x scope cl C s₀ H₀ fp) (rIxT X.K):=ix_tup
end
section
variable{X:Cx}{tg:Expr}
end
end L2
set_option Elab.async false
set_option linter.all false
set_option maxRecDepth 100000
set_option maxHeartbeats 4000000
namespace L2
open PySem PySem.Spec PyProof.Rows
section
variable{X:Cx}
def rBits:V→List V→Hp→VK→Prop:=fun x vs H Q=>∃n:Int,x=.int n∧vs=[]∧Q (.int ((Builtin.Int.intBits n:Nat):Int)) H
theorem mt_bits:MtR X "int.bit_length" rBits:=by
 intro pins s σ H x vs v us Q I rx rv h
 obtain⟨n,rfl,rfl,q⟩:=h
 obtain⟨t,rfl⟩:=rx
 cases rv.zero
 exact call_int_bit_length ⟨.int _,H,I.tok _,⟨_,rfl⟩,q⟩
end
theorem rd_bitsV{K:PySem.W.Frag}{n:Int}{H:Hp}{Q:VK}(h:Q (.int ((Builtin.Int.intBits n:Nat):Int)) H):tyV K "int" (.int n) H∧rBits (.int n) [] H Q:=⟨rfl,n,rfl,rfl,h⟩
theorem rd_bm0{K:PySem.W.Frag}{T:String}{r:V→List V→Hp→VK→Prop}{to:TE}{σ:St}{H:Hp}{Q:VK}(h:to σ H fun x H1=>tyV K T x H1∧r x [] H1 Q):tBM0 K T r to σ H Q:=h
theorem rd_bm{K:PySem.W.Frag}{T:String}{r:V→List V→Hp→VK→Prop}{to:TE}{t:TA}{σ:St}{H:Hp}{Q:VK}(h:to σ H fun x H1=>tyV K T x H1∧t σ H1 fun xs H2=>r x xs H2 Q):tBM K T r to t σ H Q:=h
theorem rd_ext{K:PySem.W.Frag}{i:Nat}{t:TA}{σ:St}{H:Hp}{Q:VK}{l:Addr}{xs:List V}(e:σ[i]?=some (some (.ref l)))(h:H l=some (.lst xs))
 (g:t σ H fun ys H2=>rExtend (.ref l) ys H2 Q):tBM K "list" rExtend (tVar i) t σ H Q:=⟨_,e,.inl ⟨rfl,_,SqL.of h⟩,g⟩
theorem intBits_nat{b:Nat}(h:b≠0):Builtin.Int.intBits (b:Int)=b.log2+1:=by
 unfold Builtin.Int.intBits
 rw[if_neg (by simp;omega),Int.natAbs_natCast]
theorem rd_gsub{to ti:TE}{t:TSet}{v:V}{σ:St}{H:Hp}{Q:St→Hp→Prop}(h:to σ H fun o H1=>ti σ H1 fun i H2=>t o i v H2 fun H3=>Q σ H3):gSub to ti t v σ H Q:=h
theorem ixN_nat{m k:Nat}(h:k<m):ixN m (k:Int)=some k:=by
 unfold ixN
 rw[if_pos (by omega),if_pos (by omega),Int.toNat_natCast]
theorem rd_setL{p:Addr}{xs:List V}{k:Nat}{v:V}{H:Hp}{Q:Hp→Prop}(h:H p=some (.lst xs))(hk:k<xs.length)(q:Q (upd H p (.lst (xs.set k v)))):rSetL (.ref p) (.int (k:Int)) v H Q:=
 ⟨p,xs,k,k,rfl,rfl,h,ixN_nat hk,q⟩
theorem rd_rep{l:Addr}{k:Int}{xs:List V}{H:Hp}{Q:VK}(h:H l=some (.lst xs))(h0:0≤k)(h1:k<2^60)(hz:xs.length*k.toNat≤sizeLine)(q:∀p,H p=none→Q (.ref p) (upd H p (.lst (List.replicate k.toNat xs).flatten))):rRep (.ref l) (.int k) H Q:=
 ⟨l,k,xs,rfl,rfl,h,by omega,by omega,hz,q⟩
theorem rd_cat{l b:Addr}{xs zs:List V}{H:Hp}{Q:VK}(h:H l=some (.lst xs))(g:H b=some (.lst zs))(hz:xs.length+zs.length≤sizeLine)(q:∀p,H p=none→Q (.ref p) (upd H p (.lst (xs++zs)))):rCat (.ref l) (.ref b) H Q:=
 ⟨l,b,xs,zs,rfl,rfl,h,g,hz,q⟩
theorem for_rangeS{lo c:Int}{n:Nat}{g:TG}{tb:TS}{D:Ends}{σ:St}{H:Hp}(Pv:Nat→St→Hp→Prop)(h0:Pv 0 σ H)
 (hs:∀i σ H,i<n→Pv i σ H→g (.int (lo+i*c)) σ H fun σ2 H2=>tb { D with nx:=Pv (i+1),ct:=Pv (i+1),bk:=D.nx } σ2 H2)(hd:∀σ H,Pv n σ H→D.nx σ H):
 ∃W:Nat→Nat→St→Hp→Prop,(∃m,W 0 m σ H)∧∀i m σ H,W i m σ H→
  ((ItrS lo c n).stop i H∧D.nx σ H)∨((ItrS lo c n).go i H∧∃N:St→Hp→Prop,(∀σ' H',N σ' H'→∃m',m'<m∧W (i+1) m' σ' H')∧∀x H',(ItrS lo c n).yld i H x H'→g x σ H' fun σ2 H2=>tb { D with nx:=N,ct:=N,bk:=D.nx } σ2 H2):=by
 refine⟨fun i m σ H=>m=n-i∧i≤n∧Pv i σ H,⟨n,by simp,Nat.zero_le _,h0⟩,?_⟩
 rintro i m σ H ⟨rfl,hi,p⟩
 by_cases hlt:i<n
 ·refine .inr ⟨hlt,Pv (i+1),fun σ' H' p'=>⟨n-(i+1),by omega,rfl,hlt,p'⟩,fun x H' y=>?_⟩
  obtain⟨e,y⟩:=y
  subst e y
  exact hs i σ _ hlt p
 ·have e:i=n:=by omega
  subst e
  exact .inl ⟨Nat.le_refl _,hd σ H p⟩
theorem rangeSize_up{i j c:Int}(c0:0<c):Builtin.Range.rangeSize i j c=if i<j then (j-i-1)/c+1 else 0:=by
 unfold Builtin.Range.rangeSize
 rw[if_pos c0]
def tTruI(ta:TE):TT:=fun σ H Q=>ta σ H fun x H'=>∃i:Int,x=.int i∧Q (i != 0) H'
theorem rd_tru{ta:TE}{σ:St}{H:Hp}{Q:Bool→Hp→Prop}(h:ta σ H fun x H'=>∃i:Int,x=.int i∧Q (i != 0) H'):tTruI ta σ H Q:=h
theorem pt_tru{X:Cx}{a:Expr}{ta:TE}(ha:PE X a ta)(he:∀whole,isTrue a X.env whole=(do let v ←whole;standAt a.pos;holding [v] (truthy v))):PT X a (tTruI ta):=by
 intro pins s σ H Q I h
 refine isTrue_plain (thn (ha pins s σ H _ I h) fun v s1 ⟨x,H1,I1,r1,q1⟩=>?_) (he _)
 obtain⟨i,rfl,q⟩:=q1
 exact tru_ok pins s1 σ H1 _ v Q I1 r1 ⟨_,rfl,q⟩
section
variable{X:Cx}{M:List Str}{x:Str}{scope:Scope}{cl:List (Str×Addr)}{C:Addr}{s₀:Shared}{H₀:Hp}{fp:List Addr}
theorem call_len_c:CallR (compCx X M x scope cl C s₀ H₀ fp) (.builtin "len") (fun xs H Q=>∃p ys,xs=[.ref p]∧(SqL X.K H p ys∨SqT X.K H p ys)∧Q (.int ys.length) H):=call_len_seq
end
theorem at_map{xs:List Int}{k:Nat}{x:Int}(h:xs[k]?=some x):(xs.map V.int)[k]?=some (V.int x):=by rw[List.getElem?_map,h];rfl
end L2
set_option Elab.async false
set_option linter.all false
set_option maxRecDepth 100000
set_option maxHeartbeats 4000000
namespace L2
open PySem PySem.Spec PyProof.Rows
theorem rd_slice{r:V→Option Int→Option Int→Hp→VK→Prop}{te:TE}{tl th:TO}{σ:St}{H:Hp}{Q:VK}(h:te σ H fun x H1=>tl σ H1 fun l H2=>th σ H2 fun u H3=>r x l u H3 Q):tSl r te tl th σ H Q:=h
theorem rd_slL{K:PySem.W.Frag}{a:Addr}{xs:List V}{lo hi:Option Int}{H:Hp}{Q:VK}(h:SqL K H a xs)(q:∀p,H p=none→Q (.ref p) (upd H p (.lst (cutV xs lo hi)))):rSlL K (.ref a) lo hi H Q:=⟨a,xs,rfl,h,q⟩
theorem cutV_from(xs:List Int)(k:Nat):cutV (xs.map V.int) (some (k:Int)) none=(xs.drop k).map V.int:=by
 unfold cutV
 rw[HT.sIx_nat,HT.sIx_none,List.length_map,List.map_drop]
 by_cases h:k≤xs.length
 ·rw[Nat.min_eq_left h,List.take_of_length_le (by rw[List.length_drop,List.length_map];omega)]
 ·rw[Nat.min_eq_right (by omega),List.drop_of_length_le (by rw[List.length_map];omega),List.drop_of_length_le (by rw[List.length_map];omega),List.take_nil]
theorem rd_part{t:TE}{σ:St}{H:Hp}{Q:Option Int→Hp→Prop}(h:t σ H fun x H1=>∃i,x=.int i∧Q (some i) H1):tPart t σ H Q:=h
theorem rd_exI{i:Int}{P:Int→Prop}(h:P i):∃j,V.int i=.int j∧P j:=⟨i,rfl,h⟩
theorem rd_noPart{σ:St}{H:Hp}{Q:Option Int→Hp→Prop}(h:Q none H):tNoPart σ H Q:=h
end L2
set_option Elab.async false
set_option linter.all false
set_option maxRecDepth 100000
set_option maxHeartbeats 4000000
namespace L2
open PySem PySem.Spec PyProof.Rows
section
variable{X:Cx}
def tLR(ta:TA):TE:=fun σ H Q=>ta σ H fun vs H1=>∃(i j c:Int) (n:Nat),(vs=[.int i,.int j,.int c]∨(vs=[.int i,.int j]∧c=1))∧0<c∧c<1073741824∧Builtin.Range.small i j c=true∧Builtin.Range.rangeSize i j c=(n:Int)∧n≤1000000∧
 ∀l,H1 l=none→Q (.ref l) (upd H1 l (.lst ((List.range n).map fun(k:Nat)=>V.int (i+(k:Int)*c))))
theorem vals_of_itemsS{lo c:Int}:∀(acc:List Value) (k:Nat),(∀(j:Nat) (v:Value),acc[j]?=some v→∃t,v=.int (lo+((k+j:Nat):Int)*c) t)→Vals ((List.range' k acc.length).map fun(i:Nat)=>V.int (lo+(i:Int)*c)) acc
 | [],k,_=>.nil
 | v::acc,k,h=>by
  rw[List.length_cons,List.range'_succ,List.map_cons]
  refine .cons ?_ (vals_of_itemsS acc (k+1) fun j u hu=>?_)
  ·obtain⟨t,ht⟩:=h 0 v (by simp)
   exact⟨t,by rw[ht];simp⟩
  ·obtain⟨t,ht⟩:=h (j+1) u (by simpa using hu)
   exact⟨t,by rw[ht,show k+(j+1)=k+1+j by omega]⟩
theorem list_of_range{pins:List (Addr×Obj)}{σ:St}{H:Hp}{s:Shared}{r:Addr}{i j c:Int}{t u v:Tok}{n:Nat}{Q:VK}(hc:X.calm=true)(I:Inv X pins σ H s)(hr:IsRange s.heap r i j c t u v)(sm:Builtin.Range.small i j c=true)(hn:Builtin.Range.rangeSize i j c=(n:Int))(hz:n≤1000000)
 (q:∀l,H l=none→Q (.ref l) (upd H l (.lst ((List.range n).map fun(k:Nat)=>V.int (i+(k:Int)*c))))):wpAny (model X.prog X.w) X.A (call (.type "list") [.ref r]) (EP X pins σ Q) X.xe s:=by
 refine call_list_range (I.ok.hd hc) hr sm hn (by omega) fun h' tk acc' c' hk hS' hacc=>?_
 have ha:acc'.toList.length=n:=by simpa using hacc.1
 refine⟨.ref _,_,I.laid (a:=s.heap.objs.size) (o:=.lst ((List.range n).map fun(k:Nat)=>V.int (i+(k:Int)*c))) hk (Nat.le_refl _) ⟨?_,acc'.toList,c',?_,by simpa using hS'⟩,rfl,q _ I.fresh⟩
 ·rw[List.length_map,List.length_range,sizeLine_eq]
  omega
 ·have:=vals_of_itemsS (lo:=i) (c:=c) acc'.toList 0 fun j v hv=>by rw[Nat.zero_add];exact hacc.2 j v (by simpa using hv)
  rw[ha,←List.range_eq_range'] at this
  exact this
theorem pe_lrange3{a b d:Expr}{ta:TA}{p p2 pos pos2:Pos}(hc:X.calm=true)(hgl:Gl X "list")(hml:X.mg "list"=none)(hgr:Gl X "range")(hmr:X.mg "range"=none)(ha:PA X [a,b,d] ta)
 (hs:starEach [a,b,d] X.env=(false,eval a X.env)::starEach [b,d] X.env:=by rfl)(hpl:(backTo pos2 (starEach [b,d] X.env)).any (·.1)=false:=by rfl)
 (hs1:starEach [.Call (.Name "range" p2) [a,b,d] [] pos2] X.env=(false,eval (.Call (.Name "range" p2) [a,b,d] [] pos2) X.env)::starEach [] X.env:=by rfl):
 PE X (.Call (.Name "list" p) [.Call (.Name "range" p2) [a,b,d] [] pos2] [] pos) (tLR ta):=by
 intro pins s σ H Q I h
 refine wpAny_Call_Name_kw (ld_blt I hgl hml boot_list ?_ (by decide) (by decide))
 refine PyProof.Rows.callWith_type1 ?_ hs1 rfl
 rw[hs1]
 show wpAny _ _ (spliced ((false,eval _ X.env)::backTo pos (starEach [] X.env))) _ _ s
 refine Calls.spliced_cons ?_
 refine Call_ (ld_blt I hgr hmr boot_range (PyProof.Rows.callWith_type1 (thn (ha pos2 pins s σ H _ I h) fun us s1 ⟨vs,H1,I1,r1,q1⟩=>?_) hs hpl))
 obtain⟨i,j,c,n,e,c0,c1,sm,hn,hz,q⟩:=q1
 rcases e with e | ⟨e,rfl⟩
 ·subst e
  cases r1 with
  | cons r rr=>
   cases rr with
   | cons r' rr=>
    cases rr with
    | cons r'' rr=>
     cases rr
     obtain⟨t,rfl⟩:=r
     obtain⟨t',rfl⟩:=r'
     obtain⟨t'',rfl⟩:=r''
     refine PySem.call_range_3 (by omega) ?_ (Or.inl (PyProof.noPylong_small (by omega)))
     refine Calls.spliced_nil ?_
     have I2:Inv X pins σ H1 { s1 with heap:=s1.heap.push { cls:=.type "range",data:=.fields #[.int i t,.int j t',.int c t''] },toks:=s1.toks }:=I1.kept fun b o e=>Heap.get?_push_of_some _ e
     exact list_of_range hc I2 (IsRange.new ..) sm hn hz q
 ·subst e
  cases r1 with
  | cons r rr=>
   cases rr with
   | cons r' rr=>
    cases rr
    obtain⟨t,rfl⟩:=r
    obtain⟨t',rfl⟩:=r'
    refine call_range_2 ?_
    refine Calls.spliced_nil ?_
    have I2:Inv X pins σ H1 { s1 with heap:=s1.heap.push { cls:=.type "range",data:=.fields #[.int i t,.int j t',.int 1 s1.toks] },toks:=s1.toks+1 }:=I1.kept fun b o e=>Heap.get?_push_of_some _ e
    exact list_of_range hc I2 (IsRange.new ..) sm hn hz q
theorem pe_lrange2{a b:Expr}{ta:TA}{p p2 pos pos2:Pos}(hc:X.calm=true)(hgl:Gl X "list")(hml:X.mg "list"=none)(hgr:Gl X "range")(hmr:X.mg "range"=none)(ha:PA X [a,b] ta)
 (hs:starEach [a,b] X.env=(false,eval a X.env)::starEach [b] X.env:=by rfl)(hpl:(backTo pos2 (starEach [b] X.env)).any (·.1)=false:=by rfl)
 (hs1:starEach [.Call (.Name "range" p2) [a,b] [] pos2] X.env=(false,eval (.Call (.Name "range" p2) [a,b] [] pos2) X.env)::starEach [] X.env:=by rfl):
 PE X (.Call (.Name "list" p) [.Call (.Name "range" p2) [a,b] [] pos2] [] pos) (tLR ta):=by
 intro pins s σ H Q I h
 refine wpAny_Call_Name_kw (ld_blt I hgl hml boot_list ?_ (by decide) (by decide))
 refine PyProof.Rows.callWith_type1 ?_ hs1 rfl
 rw[hs1]
 show wpAny _ _ (spliced ((false,eval _ X.env)::backTo pos (starEach [] X.env))) _ _ s
 refine Calls.spliced_cons ?_
 refine Call_ (ld_blt I hgr hmr boot_range (PyProof.Rows.callWith_type1 (thn (ha pos2 pins s σ H _ I h) fun us s1 ⟨vs,H1,I1,r1,q1⟩=>?_) hs hpl))
 obtain⟨i,j,c,n,e,c0,c1,sm,hn,hz,q⟩:=q1
 rcases e with e | ⟨e,rfl⟩
 ·subst e
  cases r1 with
  | cons r rr=>
   cases rr with
   | cons r' rr=>
    cases rr with
    | cons r'' rr=>
     cases rr
     obtain⟨t,rfl⟩:=r
     obtain⟨t',rfl⟩:=r'
     obtain⟨t'',rfl⟩:=r''
     refine PySem.call_range_3 (by omega) ?_ (Or.inl (PyProof.noPylong_small (by omega)))
     refine Calls.spliced_nil ?_
     have I2:Inv X pins σ H1 { s1 with heap:=s1.heap.push { cls:=.type "range",data:=.fields #[.int i t,.int j t',.int c t''] },toks:=s1.toks }:=I1.kept fun b o e=>Heap.get?_push_of_some _ e
     exact list_of_range hc I2 (IsRange.new ..) sm hn hz q
 ·subst e
  cases r1 with
  | cons r rr=>
   cases rr with
   | cons r' rr=>
    cases rr
    obtain⟨t,rfl⟩:=r
    obtain⟨t',rfl⟩:=r'
    refine call_range_2 ?_
    refine Calls.spliced_nil ?_
    have I2:Inv X pins σ H1 { s1 with heap:=s1.heap.push { cls:=.type "range",data:=.fields #[.int i t,.int j t',.int 1 s1.toks] },toks:=s1.toks+1 }:=I1.kept fun b o e=>Heap.get?_push_of_some _ e
    exact list_of_range hc I2 (IsRange.new ..) sm hn hz q
end
theorem rd_lr{ta:TA}{σ:St}{H:Hp}{Q:VK}(h:ta σ H fun vs H1=>∃(i j c:Int) (n:Nat),(vs=[.int i,.int j,.int c]∨(vs=[.int i,.int j]∧c=1))∧0<c∧c<1073741824∧Builtin.Range.small i j c=true∧Builtin.Range.rangeSize i j c=(n:Int)∧n≤1000000∧
 ∀l,H1 l=none→Q (.ref l) (upd H1 l (.lst ((List.range n).map fun(k:Nat)=>V.int (i+(k:Int)*c))))):tLR ta σ H Q:=h
theorem lr2{i j:Int}{H:Hp}{Q:VK}(h1: -(2^62)≤i)(h2:i<2^62)(h3: -(2^62)≤j)(h4:j<2^62)(ij:i≤j)(hz:j-i≤1000000)(q:∀l,H l=none→Q (.ref l) (upd H l (.lst ((List.range (j-i).toNat).map fun(k:Nat)=>V.int (i+(k:Int)*1))))):
 ∃(i' j' c:Int) (n:Nat),([V.int i,V.int j]=[.int i',.int j',.int c]∨([V.int i,V.int j]=[.int i',.int j']∧c=1))∧0<c∧c<1073741824∧Builtin.Range.small i' j' c=true∧Builtin.Range.rangeSize i' j' c=(n:Int)∧n≤1000000∧
  ∀l,H l=none→Q (.ref l) (upd H l (.lst ((List.range n).map fun(k:Nat)=>V.int (i'+(k:Int)*c)))):=
 ⟨i,j,1,(j-i).toNat,.inr ⟨rfl,rfl⟩,by decide,by decide,small_one (by omega) (by omega) (by omega) (by omega),by rw[rangeSize_one];split<;>omega,by omega,q⟩
end L2
set_option Elab.async false
set_option linter.all false
set_option maxRecDepth 100000
set_option maxHeartbeats 4000000
namespace L2
open PySem PySem.Spec PyProof.Rows
end L2
set_option Elab.async false
set_option linter.all false
set_option maxRecDepth 100000
set_option maxHeartbeats 4000000
namespace L2
open PySem PySem.Spec PyProof.Rows
def compCxT(X:Cx)(M:List Str)(xs:List Str)(scope:Scope)(cl:List (Str×Addr))(C:Addr)(s₀:Shared)(H₀:Hp)(fp:List Addr):Cx:=
 { X with N:=xs++M,s₀:=s₀,H₀:=H₀,env:=compEnvC scope cl C X.env,outer:=X.stack,ex:=fp,fn:=fun _=>false,pn:=[],xe:=fun _ _=>False }
structure CompOkT(X:Cx)(M:List Str)(xs:List Str)(scope:Scope)(cl:List (Str×Addr)):Prop where
 clos:closureFor scope X.env=pure cl
 cell:∀y∈scope.names,y.2≠.cell
 kind:scope.kind=.function
 names:∀y∈scope.names,y.2=.local→scope.names.lookup y.1=some .local
 xl:∀x∈xs,scope.names.lookup x=some .local
 nd:(xs++M).Nodup
 len:M.length=X.N.length
 sub:∀y c,cl.lookup y=some c→X.env.cells.lookup y=some c
 has:∀y,((relabel scope X.env).names.lookup y=some .cell∨(relabel scope X.env).names.lookup y=some .free)→∃c,cl.lookup y=some c
 vis:∀(i:Nat) (y:Str),M[i]?=some y→Vis (relabel scope X.env) y→X.N[i]?=some y∧((relabel scope X.env).names.lookup y=some .cell∨(relabel scope X.env).names.lookup y=some .free)∧(X.env.scope.names.lookup y=some .cell∨X.env.scope.names.lookup y=some .free)
section
variable{X:Cx}
theorem comp_okT{M:List Str}{pins:List (Addr×Obj)}{σ:St}{H:Hp}{s:Shared}{xs:List Str}{scope:Scope}{cl:List (Str×Addr)}{C:Addr}{fp:List Addr}(I:Inv X pins σ H s)(ok:CompOkT X M xs scope cl)(hC:s.heap.objs.size≤C)
 (hf:∀b∈fp,FpOk X pins H b)(hb:∀b∈fp,b<s.heap.objs.size):(compCxT X M xs scope cl C s H fp).Ok where
 mod:=I.ok.mod
 kind:=ok.kind
 glob:=I.ok.glob
 blt:=I.ok.blt
 above:=hC
 inj:=fun y z c h1 h2=>I.ok.inj y z c (ok.sub y c h1) (ok.sub z c h2)
 has:=ok.has
 cab:=fun y c h=>by cases h
 hd:=I.ok.hd
 frames:=I.ok.frames
 stk:=.inl rfl
 exf:=fun b h=>⟨Nat.ne_of_lt (Nat.lt_of_lt_of_le (hb b h) hC),fun y c e=>(hf b h).2.2.2.2.1 y c (ok.sub y c e)⟩
 bs:=I.bs
 bsz:=Nat.le_trans I.ok.bsz I.sz
 noex:=fun b o e h=>by
  rcases(hf b h).2.2.2.1 with z | z
  ·exact I.ok.noex b o e z
  ·exact absurd (Nat.lt_of_lt_of_le (Heap.lt_size (I.ok.bs b o e).1) z) (Nat.lt_irrefl _)
 exfs:=fun b h z=>by
  rcases List.mem_cons.mp (I.stkSub b z) with e | e
  ·exact(hf b h).2.1 e
  ·exact(hf b h).2.2.1 e
 funs:=I.stack
 frf:=I.stkFree
def CompRT(k:Nat)(g:TG)(tt:TT)(te:TE)(σ:St)(Q:VK):It→Hp→Prop:=fun J H1=>∀D,H1 D=none→∃W:Nat→Nat→List V→Hp→Prop,(∃m,W 0 m [] (upd H1 D (.lst [])))∧
 ∀i m ys H2,W i m ys H2→H2 D=some (.lst ys)∧((J.stop i H2∧Q (.ref D) H2)∨(J.go i H2∧ys.length<sizeLine∧∃m',m'<m∧∀x H3,J.yld i H2 x H3→∀ρ:St,ρ.length=k→
  g x (ρ++σ) H3 fun σ2 H4=>∃ρ2:St,ρ2.length=k∧σ2=ρ2++σ∧tt σ2 H4 fun b H5=>if b=true then te σ2 H5 fun y H6=>H6 D=some (.lst ys)∧W (i+1) m' (ys++[y]) (upd H6 D (.lst (ys++[y]))) else W (i+1) m' ys H5))
def tCompT(k:Nat)(wi:TI)(g:TG)(tt:TT)(te:TE):TE:=fun σ H Q=>wi σ H (CompRT k g tt te σ Q)
section
variable{prog:Program}{w:World}{A:Around}{R:Result→Shared→Prop}
abbrev NB(prog:Program)(w:World)(A:Around)(env:Env)(R:Result→Shared→Prop):Value→Shared→Prop:=notedBy (model prog w) A env fun e s'=>R (.error e) s'
theorem comp_turns{s:Shared}{elt tg iter:Expr}{ifs:List Expr}{scope:Scope}{pos:Pos}{it acc:Value}{env:Env}(I:Nat→Shared→Prop)
 (turn:∀n s,I n s→wpAny (model prog w) A (pyNext it)
  (fun r s1=>match r with
   | none=>R (.ok .next) s1
   | some v=>wpAny (model prog w) A (letOwnedTupleGo tg it v)
    (fun _ s2=>wpAny (model prog w) A (assign tg env v)
     (fun _ s3=>wpAny (model prog w) A (forIn ifs true fun c r=>if r=true then (isTrue c env (eval c env) >>= fun ok=>pure (ForInStep.yield ok)) else pure (ForInStep.yield r))
      (fun b s4=>if b=true then wpAny (model prog w) A (eval elt env)
       (fun x s5=>wpAny (model prog w) A (call (.builtin "list.append") [acc,x]) (fun _ s6=>∃m,m<n∧I m s6) (NB prog w A env R) s5) (NB prog w A env R) s4
       else ∃m,m<n∧I m s4) (NB prog w A env R) s3) (NB prog w A env R) s2) (NB prog w A env R) s1) (NB prog w A env R) s)
 (n:Nat)(h:I n s):codeAny (model prog w) A (.compLoop (.ListComp elt [⟨tg,iter,ifs,0⟩] scope pos) 0 it acc env) R s:=by
 refine codeAny_loop rfl I (fun n s hI=>?_) n h
 refine(show wpAny _ A ((compTurn (.ListComp elt [⟨tg,iter,ifs,0⟩] scope pos) 0 it acc env).onRaise _) _ _ s from wpAny_noted ?_)
 rw[compTurn_list]
 refine wpAny_bind (wpAny_standAt (wpAny_bind (wpAny_mono (turn n s hI) (fun r s1 h1=>?_) fun _ _ z=>z)))
 cases r with
 | none=>exact wpAny_pure h1
 | some v=>
  refine wpAny_bind (wpAny_mono h1 (fun _ s2 h2=>?_) fun _ _ z=>z)
  refine wpAny_bind (wpAny_mono h2 (fun _ s3 h3=>wpAny_bind (wpAny_mono h3 (fun b s4 h4=>?_) fun _ _ z=>z)) fun _ _ z=>z)
  cases b with
  | false=>exact wpAny_pure ⟨rfl,h4⟩
  | true=>
   refine wpAny_bind (wpAny_bind (wpAny_mono h4 (fun x s5 h5=>?_) fun _ _ z=>z))
   exact wpAny_bind (wpAny_mono h5 (fun _ s6 h6=>wpAny_pure (wpAny_pure ⟨rfl,h6⟩)) fun _ _ z=>z)
end
theorem comp_coreT{M:List Str}{elt iter tg:Expr}{xs:List Str}{pos:Pos}{ifs:List Expr}{scope:Scope}{cl:List (Str×Addr)}{g:TG}{tt:TT}{te:TE}(hc:X.calm=true)(ok:CompOkT X M xs scope cl)
 (ht:∀C s₀ H₀ fp,PIfs (compCxT X M xs scope cl C s₀ H₀ fp) ifs tt)(hg:∀C s₀ H₀ fp,PG (compCxT X M xs scope cl C s₀ H₀ fp) tg g)(he:∀C s₀ H₀ fp,PE (compCxT X M xs scope cl C s₀ H₀ fp) elt te)
 {pins:List (Addr×Obj)}{σ:St}{H2:Hp}{s2:Shared}{it:Addr}{fp:List Addr}{tn:Nat→Heap→Prop}{J:It}{Q:VK}(I2:Inv X pins σ H2 s2)(T:Turn X.prog X.w X.K tg J fp it tn)(st2:tn 0 s2.heap)(f2:∀b∈fp,FpOk X pins H2 b)
 (hW:CompRT xs.length g tt te σ Q J H2)(post:Value→Addr→Result→Shared→Prop)
 (fin:∀D C H3 s4,Inv X pins σ H3 s4→(∃m,s4.heap.Ns C m)→FpOk X pins H3 C→Q (.ref D) H3→post (.ref D) C (.ok .next) s4):
 wpAny (model X.prog X.w) X.A (newList []) (fun acc s₃=>wpAny (model X.prog X.w) X.A (newFunctionEnv scope X.env.globals cl [] X.env.qual none .none (some X.env)) (fun cenv s₄=>
  codeAny (model X.prog X.w) X.A (.compStart (.ListComp elt [⟨tg,iter,ifs,0⟩] scope pos) 0 (.ref it) acc { cenv with scope:=relabel scope X.env }) (post acc cenv.locals) s₄) X.xe s₃) X.xe s2:=by
 refine wpAny_newObj_type (wpAny_newFunctionEnv ok.cell (by intro y hy;simp at hy) (fun h₁ hns₁ hsb₁=>?_) ok.kind)
 dsimp only at hns₁ hsb₁ ⊢
 generalize hH2:s2.heap.push { cls:=.type "list",dict:=none,data:=.seq ([]:List Value).toArray }=G2 at hns₁ hsb₁ ⊢
 have hC:G2.objs.size=s2.heap.objs.size+1:=by rw[←hH2,Heap.size_push]
 have hDC:s2.heap.objs.size≠G2.objs.size:=by rw[hC];exact Nat.ne_of_lt (Nat.lt_succ_self _)
 have hCle:s2.heap.objs.size≤G2.objs.size:=by rw[hC];exact Nat.le_succ _
 have below:∀b,b<s2.heap.objs.size→b≠G2.objs.size∧b≠s2.heap.objs.size:=fun b hb=>⟨by rw[hC];exact Nat.ne_of_lt (Nat.lt_succ_of_lt hb),Nat.ne_of_lt hb⟩
 have old:∀b o,s2.heap.get? b=some o→h₁.get? b=some o:=fun b o e=>hsb₁.extBut b o (below b (Heap.lt_size e)).1 (Heap.get?_push_of_some _ (hH2 ▸ Heap.get?_push_of_some _ e))
 have hacc:h₁.get? s2.heap.objs.size=some { cls:=.type "list",data:=.seq ([]:List Value).toArray }:=hsb₁.extBut _ _ hDC (Heap.get?_push_of_some _ (hH2 ▸ Heap.get?_push_size _ rfl))
 have fpb:∀b∈fp,b<s2.heap.objs.size:=fun b hb=>by
  obtain⟨o,e,_⟩:=T.obj _ _ st2 b hb
  exact Heap.lt_size e
 have hD0:H2 s2.heap.objs.size=none:=I2.hok.fresh (Nat.le_refl _)
 have hC0:H2 G2.objs.size=none:=I2.hok.fresh hCle
 generalize hDD:s2.heap.objs.size=D at*
 generalize hCC:G2.objs.size=C at*
 obtain⟨W,⟨m0,w0⟩,turn⟩:=hW D hD0
 have okX:(compCxT X M xs scope cl C s2 H2 fp).Ok:=comp_okT I2 ok (by rw[hDD];exact hCle) f2 (by rw[hDD];exact fpb)
 have lenN:(List.replicate xs.length none++σ:St).length=(compCxT X M xs scope cl C s2 H2 fp).N.length:=by
  show(List.replicate xs.length none++σ).length=(xs++M).length
  rw[List.length_append,List.length_append,List.length_replicate,I2.len,ok.len]
 have locs:∀(h':Heap) (m:Str→Option Value),(∀y c,X.env.cells.lookup y=some c→∀v,s2.heap.IsCell c v→h'.IsCell c v)→
  ∀(j:Nat) (y:Str) (v:V),(xs++M)[j]?=some y→(List.replicate xs.length none++σ:St)[j]?=some (some v)→Vis (relabel scope X.env) y→∃u,RelV v u∧Look (compEnvC scope cl C X.env) h' m y u:=by
  intro h' m hcell j y v e1 e2 e3
  rcases Nat.lt_or_ge j xs.length with jl | jl
  ·rw[List.getElem?_append_left (by rw[List.length_replicate];exact jl),List.getElem?_replicate,if_pos jl] at e2
   cases e2
  ·obtain⟨i,rfl⟩:∃i,j=xs.length+i:=⟨j-xs.length,by omega⟩
   have e0:M[i]?=some y:=by
    rw[List.getElem?_append_right (Nat.le_add_right _ _),Nat.add_sub_cancel_left] at e1
    exact e1
   have e2':σ[i]?=some (some v):=by
    rw[List.getElem?_append_right (by rw[List.length_replicate];exact Nat.le_add_right _ _),List.length_replicate,Nat.add_sub_cancel_left] at e2
    exact e2
   obtain⟨e1',k1,k2⟩:=ok.vis i y e0 e3
   obtain⟨m2,_,hl⟩:=I2.loc
   obtain⟨u,r,l⟩:=hl i y v e1' e2' (k2.elim (fun z=>.inr (.inl z)) fun z=>.inr (.inr z))
   obtain⟨c',hc'⟩:=ok.has y k1
   rcases l with ⟨z,_⟩ | ⟨_,c,hcc,z⟩
   ·have z':X.env.scope.names.lookup y=some .local:=z
    rcases k2 with q | q<;>(rw [q] at z';cases z')
   ·have q:=ok.sub y c' hc'
    rw[hcc] at q
    cases q
    exact⟨u,r,.inr ⟨k1,c',hc',hcell y c' hcc _ z⟩⟩
 have I0:Inv (compCxT X M xs scope cl C s2 H2 fp) [] (List.replicate xs.length none++σ) (upd H2 D (.lst [])) { s2 with heap:=h₁,toks:=s2.toks+([]:List (Str×Value)).length }:=by
  refine⟨okX,rfl,I2.bare,?_,⟨_,hns₁,locs h₁ _ (fun y c e v z=>?_)⟩,fun y c e=>?_,?_,fun y c e=>?_,fun p hp=>?_,?_,lenN⟩
  ·exact Un.laid old (Nat.le_of_eq hDD) hD0
  ·obtain⟨o,ho,hd⟩:=z
   exact⟨o,old c o ho,hd⟩
  ·obtain⟨v,o,ho,hd⟩:=I2.cell y c (ok.sub y c e)
   exact⟨v,o,old c o ho,hd⟩
  ·show upd H2 D (.lst []) C=none
   rw[upd_ne (Ne.symm hDC)]
   exact hC0
  ·have hn:=I2.freeC y c (ok.sub y c e)
   obtain⟨v,o,ho,hd⟩:=I2.cell y c (ok.sub y c e)
   rw[upd_ne (fun z=>by have:=Heap.lt_size ho;rw[hDD,z] at this;exact Nat.lt_irrefl _ this)]
   exact hn
  ·exact absurd hp (by show p∉([]++[]:List (Addr×Obj));simp)
  ·refine I2.hok.laid old (Nat.le_of_eq hDD) ⟨Nat.zero_le _,[],_,.nil,hacc⟩
 have fpk:∀{H':Hp},(∀b∈fp,H' b=none)→∀b∈fp,FpOk (compCxT X M xs scope cl C s2 H2 fp) [] H' b:=fun hn b hb=>by
  refine⟨hn b hb,(below b (fpb b hb)).1,okX.exfs b hb,.inl hb,fun y c e=>(f2 b hb).2.2.2.2.1 y c (ok.sub y c e),fun p hp=>?_⟩
  exact absurd hp (by show p∉([]++[]:List (Addr×Obj));simp)
 have loop:∀s₃:Shared,s₃={ s2 with heap:=h₁,toks:=s2.toks+([]:List (Str×Value)).length }→
  codeAny (model X.prog X.w) X.A (.compLoop (.ListComp elt [⟨tg,iter,ifs,0⟩] scope pos) 0 (.ref it) (.ref D) (compEnvC scope cl C X.env))
   (post (.ref D) C) s₃:=by
  rintro s₃ rfl
  refine comp_turns (fun n s'=>∃i ys w' H',w'.length=xs.length∧Inv (compCxT X M xs scope cl C s2 H2 fp) [] (w'++σ) H' s'∧tn i s'.heap∧(∀b∈fp,H' b=none)∧W i n ys H') ?_ m0
   ⟨0,[],List.replicate xs.length none,_,List.length_replicate,I0,T.keep _ _ _ st2 (fun b _ o e=>old b o e),fun b hb=>by rw[upd_ne (below b (fpb b hb)).2];exact(f2 b hb).1,w0⟩
  rintro n s3 ⟨i,ys,w3,H3,l3,I3,st3,fr3,wt⟩
  obtain⟨hD3,hh⟩:=turn i n ys H3 wt
  rcases hh with ⟨stop,q⟩ | ⟨go,hlen,m',hm,step⟩
  ·refine thn (T.done (compCxT X M xs scope cl C s2 H2 fp) rfl rfl rfl hc i [] s3 (w3++σ) H3 _ I3 (fpk fr3) st3 stop) fun r s4 ⟨hr,I4⟩=>?_
   subst hr
   obtain⟨m4,hn4,_⟩:=id I4.loc
   have hC4:H3 C=none:=I4.free
   exact fin D C H3 s4 (I2.call' (ch:=fp) I4.os I4.base I4.hok I4.bare fun b hb=>⟨(f2 b hb).2.2.2.1,(f2 b hb).2.1,(f2 b hb).2.2.2.2.1,(f2 b hb).2.2.2.2.2⟩) ⟨m4,hn4⟩ (I2.fpOk (by rw[hDD];exact hCle) hC4) q
  ·refine wpAny_mono (T.item (compCxT X M xs scope cl C s2 H2 fp) rfl rfl rfl hc i [] s3 (w3++σ) H3 (fun _ _=>False) I3 (fpk fr3) st3 go) (fun r s4 h4=>?_) (fun _ _ z=>z.elim)
   obtain⟨u,hr,h4⟩:=h4
   subst hr
   refine wpAny_mono h4 (fun _ s4 h4=>?_) (fun _ _ z=>z.elim)
   obtain⟨x',H5,I5,r5,y5,st5,fr5⟩:=h4
   have I5':=I5.pinned (fpk fr5) (T.obj _ _ st5)
   refine wpAny_mono (hg C s2 H2 fp _ s4 _ H5 x' u _ I5' r5 (step x' H5 y5 w3 l3)) (fun _ s6 h6=>?_) (fun _ _ z=>z.elim)
   obtain⟨σ6,H6,I6,w6,l6,rfl,q6⟩:=h6
   have back:∀{s7:Shared} {H7:Hp} {w7:St},Inv (compCxT X M xs scope cl C s2 H2 fp) ([]++pinsAt fp s4.heap) (w7++σ) H7 s7→tn (i+1) s7.heap∧(∀b∈fp,H7 b=none)∧Inv (compCxT X M xs scope cl C s2 H2 fp) [] (w7++σ) H7 s7:=fun{s7 H7 w7} I7=>by
    refine⟨T.keep _ _ _ st5 fun b hb o e=>(I7.pin (b,o) (List.mem_append_right _ (List.mem_append_right _ (mem_pinsAt hb e)))).1,fun b hb=>?_,I7.unpinned⟩
    obtain⟨o,e,d⟩:=T.obj _ _ st5 b hb
    exact(I7.pin (b,o) (List.mem_append_right _ (List.mem_append_right _ (mem_pinsAt hb e)))).2.1
   refine wpAny_mono (ht C s2 H2 fp _ s6 _ H6 _ I6 q6) (fun ok' s7 h7=>?_) (fun _ _ z=>z.elim)
   obtain⟨H7,I7,q7⟩:=h7
   cases ok' with
   | false=>
    have q7':W (i+1) m' ys H7:=by simpa using q7
    rw[if_neg Bool.false_ne_true]
    obtain⟨b1,b2,b3⟩:=back I7
    exact⟨m',hm,i+1,ys,_,H7,l6,b3,b1,b2,q7'⟩
   | true=>
    rw[if_pos rfl] at q7 ⊢
    refine wpAny_mono (he C s2 H2 fp _ s7 _ H7 _ I7 q7) (fun y s8 h8=>?_) (fun _ _ z=>z.elim)
    obtain⟨v8,H8,I8,r8,hD8,w8⟩:=h8
    refine wpAny_mono (mt_append (X:=compCxT X M xs scope cl C s2 H2 fp) _ s8 _ H8 (.ref D) [v8] (.ref D) [y] (fun _ H9=>H9=upd H8 D (.lst (ys++[v8]))) I8 rfl (.cons r8 .nil) ⟨D,ys,v8,rfl,rfl,hD8,hlen,rfl⟩) (fun _ s9 h9=>?_) (fun _ _ z=>z.elim)
    obtain⟨v9,H9,I9,_,e9⟩:=h9
    subst e9
    obtain⟨b1,b2,b3⟩:=back I9
    exact⟨m',hm,i+1,_,_,_,l6,b3,b1,b2,w8⟩
 exact codeAny_compStart_list (loop _ rfl) (T.self _ 0 _ _ _ (T.keep _ _ _ st2 (fun b _ o e=>old b o e)) (loop _ rfl))
theorem compOkT_freeM{scope:Scope}{cl:List (Str×Addr)}(xs M N:List Str)(hl:M.length=N.length)(hN:X.N=N)(clos:closureFor scope X.env=pure cl)(hc:(scope.names.all fun y=>y.2 != .cell)=true)(hk:scope.kind=.function)
 (hn:(scope.names.all fun y=>y.2 != .local||scope.names.lookup y.1==some .local)=true)(hx:(xs.all fun x=>scope.names.lookup x==some .local)=true)(nd:(xs++M).Nodup)
 (hs:∀p∈cl,X.env.cells.lookup p.1=some p.2)
 (hh:((relabel scope X.env).names.all fun p=>(p.2 != .cell&&p.2 != .free)||(cl.lookup p.1).isSome)=true)
 (hv:((M.zip N).all fun q=>match (relabel scope X.env).names.lookup q.1 with
  | some .local=>false
  | some .cell=>q.1==q.2&&(X.env.scope.names.lookup q.1==some .cell||X.env.scope.names.lookup q.1==some .free)
  | some .free=>q.1==q.2&&(X.env.scope.names.lookup q.1==some .cell||X.env.scope.names.lookup q.1==some .free)
  | _=>true)=true):CompOkT X M xs scope cl:=by
 refine⟨clos,fun y hy=>?_,hk,fun y hy hl=>?_,(fun x hm=>by simpa using List.all_eq_true.mp hx x hm),nd,by rw[hN];exact hl,fun y c h=>hs _ (lookup_mem h),fun y h=>?_,fun i y hy h=>?_⟩
 ·have:=List.all_eq_true.mp hc y hy
  simpa using this
 ·have:=List.all_eq_true.mp hn y hy
  simpa [hl] using this
 ·rcases h with h | h
  ·have:=List.all_eq_true.mp hh _ (lookup_mem h)
   exact Option.isSome_iff_exists.mp (by simpa using this)
  ·have:=List.all_eq_true.mp hh _ (lookup_mem h)
   exact Option.isSome_iff_exists.mp (by simpa using this)
 ·have hi:i<N.length:=by
   have:=(List.getElem?_eq_some_iff.mp hy).1
   omega
  have hz:(y,N[i])∈M.zip N:=by
   have:(M.zip N)[i]?=some (y,N[i]):=List.getElem?_zip_eq_some.mpr ⟨hy,by simp[hi]⟩
   exact List.mem_of_getElem? this
  have z:=List.all_eq_true.mp hv _ hz
  have fin:y=N[i]→X.N[i]?=some y:=fun e=>by rw[hN,e];simp[hi]
  rcases h with h | h | h
  ·dsimp only at z
   rw[h] at z;cases z
  ·dsimp only at z
   rw[h] at z
   simp only[Bool.and_eq_true,beq_iff_eq,Bool.or_eq_true] at z
   exact⟨fin z.1,.inl h,z.2⟩
  ·dsimp only at z
   rw[h] at z
   simp only[Bool.and_eq_true,beq_iff_eq,Bool.or_eq_true] at z
   exact⟨fin z.1,.inr h,z.2⟩
end
theorem rd_compT{k:Nat}{wi:TI}{g:TG}{tt:TT}{te:TE}{σ:St}{H:Hp}{Q:VK}(h:wi σ H (CompRT k g tt te σ Q)):tCompT k wi g tt te σ H Q:=h
end L2
namespace L2
open PySem PySem.Spec PyProof.Rows
theorem rd_fld{K:PySem.W.Frag}{ta:TE}{f:Str}{σ:St}{H:Hp}{Q:VK}(h:ta σ H fun x H1=>∃a C dx fs v,x=.ref a∧H1 a=some (.ins C dx fs)∧Cls K C∧NoAttr K C f∧fs.lookup f=some v∧Q v H1):tFld K ta f σ H Q:=h
theorem rd_sfld{K:PySem.W.Frag}{ta tv:TE}{f:Str}{D:Ends}{σ:St}{H:Hp}(h:tv σ H fun y H1=>ta σ H1 fun x H2=>∃a C dx fs,x=.ref a∧H2 a=some (.ins C dx fs)∧Cls K C∧NoAttr K C f∧fs.length<1000∧D.nx σ (upd H2 a (.ins C dx (putF f y fs)))):sFld K ta tv f D σ H:=h
theorem rd_meth{C:Addr}{m:Str}{sp:Sp}{ta:TE}{t:TA}{σ:St}{H:Hp}{Q:VK}(h:ta σ H fun x H1=>∃a dx fs,x=.ref a∧H1 a=some (.ins C dx fs)∧fs.lookup m=none∧t σ H1 fun vs H2=>sp (x::(vs++[])) H2 Q E0):tMeth C m sp [] E0 ta t σ H Q:=h
end L2
set_option Elab.async false
set_option linter.all false
set_option maxRecDepth 100000
set_option maxHeartbeats 4000000
namespace L2
open PySem PySem.Spec PyProof.Rows
section
variable{X:Cx}{M xs:List Str}{scope:Scope}{cl:List (Str×Addr)}{C:Addr}{s₀:Shared}{H₀:Hp}{fp:List Addr}
theorem pg_tup_c{es:List Expr}{k:Nat}{t:TGs}{n:Nat}{pos:Pos}(hc:X.calm=true)(h:PGs (compCxT X M xs scope cl C s₀ H₀ fp) es t)
 (hn:(assignEach es (compCxT X M xs scope cl C s₀ H₀ fp).env).length=n:=by rfl)(hst:(assignEach es (compCxT X M xs scope cl C s₀ H₀ fp).env).findIdx? (·.1)=none:=by rfl):PG (compCxT X M xs scope cl C s₀ H₀ fp) (.Tuple es k pos) (gTup X.K n t):=
 pg_tup hc h hn hst
end
end L2
set_option Elab.async false
set_option linter.all false
set_option maxRecDepth 100000
set_option maxHeartbeats 4000000
namespace L2
open PySem PySem.Spec PyProof.Rows
structure FunD(K:PySem.W.Frag)(x qual:Str)(st:Stmt)(f:Addr)(fd:FuncData)(ds:Array Value):Prop where
 ex:∃(oc:Value) (od:Option Addr) (T:Addr) (to:Obj) (tn:Nat) (kV doc pm:Value) (an:Option Addr) (cdv ct:Value) (osl:Array (Option Value)),
  fd=PySem.W.fnOf x qual (defArgs st) (defBody st) (defScope st) (.ref T) kV doc pm an cdv ct∧K.lookup f=some ⟨oc,od,.func fd,osl⟩∧PySem.W.codeIn K cdv qual=true∧K.lookup T=some to∧to.data=.seq ds tn
 kp:PySem.W.keepIn K (.ref f)=true
section
variable{P:Program}{w:World}{K:PySem.W.Frag}{mg:Str→Option Value}{base:Heap}{x qual:Str}{st:Stmt}{f:Addr}{fd:FuncData}{N ps:List Str}{k:Nat}{sp:Sp}{ds:Array Value}
theorem FunD.ok(F:FunD K x qual st f fd ds)(S:FnScope N ps (defScope st))(len:∀vs H Q E,sp vs H Q E→vs.length=ps.length)
 (hbody:∀(cdv:Value) (A:Around) (outer:List Env) (s:Shared) (H:Hp) (vs:List V) (Q:VK) (E:XK),Room k (A.deeper (envOfC qual (defScope st) s.heap.objs.size f cdv))→sp vs H Q E→
  ∃t,PSs (cxOf CX0 P w K mg base N qual (defScope st) f cdv A outer s H E).nox (defBody st) t∧t { nx:=fun _ H'=>Q .non H',rt:=Q } (start N vs) H):FnOk P w K mg base CX0 (k+1) f fd ps sp:=by
 obtain⟨oc,od,T,to,tn,kV,doc,pm,an,cdv,ct,osl,rfl,lk,hcd,_⟩:=F.ex
 refine fn_of lk hcd S len fun A outer s H vs Q E hr hsp=>?_
 obtain⟨t,h,q⟩:=hbody cdv A outer s H vs Q E hr hsp
 exact⟨t,h.nox,q⟩
theorem FunD.okE(F:FunD K x qual st f fd ds)(S:FnScope N ps (defScope st))(len:∀vs H Q E,sp vs H Q E→vs.length=ps.length)
 (hbody:∀(cdv:Value) (A:Around) (outer:List Env) (s:Shared) (H:Hp) (vs:List V) (Q:VK) (E:XK),Room k (A.deeper (envOfC qual (defScope st) s.heap.objs.size f cdv))→sp vs H Q E→
  Thr (cxOf (CX1 P w) P w K mg base N qual (defScope st) f cdv A outer s H E) (fun c d _ H'=>E c d H')→
  ∃t,PSs (cxOf (CX1 P w) P w K mg base N qual (defScope st) f cdv A outer s H E) (defBody st) t∧t { nx:=fun _ H'=>Q .non H',rt:=Q } (start N vs) H):FnOk P w K mg base (CX1 P w) (k+1) f fd ps sp:=by
 obtain⟨oc,od,T,to,tn,kV,doc,pm,an,cdv,ct,osl,rfl,lk,hcd,_⟩:=F.ex
 exact fn_of lk hcd S len fun A outer s H vs Q E hr hsp=>hbody cdv A outer s H vs Q E hr hsp thr_fn
theorem FunD.binds(F:FunD K x qual st f fd ds)
 (h:∀(T:Addr) (kV doc pm:Value) (an:Option Addr) (cdv ct:Value) (us:List Value),us.length=ps.length→bindArgs (PySem.W.fnOf x qual (defArgs st) (defBody st) (defScope st) (.ref T) kV doc pm an cdv ct) ⟨us,[]⟩=pure (ps.zip us)):Binds K fd ps []:=by
 obtain⟨oc,od,T,to,tn,kV,doc,pm,an,cdv,ct,osl,rfl,lk,hcd,_⟩:=F.ex
 exact .all (h T kV doc pm an cdv ct)
theorem FunD.bindsD{dv:List Value}(n:Nat)(hn:n+dv.length=ps.length)(F:FunD K x qual st f fd ds)
 (h:∀(T:Addr) (kV doc pm:Value) (an:Option Addr) (cdv ct:Value) (us:List Value),us.length=n→
  ∃k:Option (Array Value)→Sem (List (Str×Value)),bindArgs (PySem.W.fnOf x qual (defArgs st) (defBody st) (defScope st) (.ref T) kV doc pm an cdv ct) ⟨us,[]⟩=seqItems? (.ref T) >>= k∧k (some ds)=pure (ps.zip (us++dv))):Binds K fd ps dv:=by
 obtain⟨oc,od,T,to,tn,kV,doc,pm,an,cdv,ct,osl,rfl,lk,hcd,ht,hs⟩:=F.ex
 intro s us KX hl
 obtain⟨k,h1,h2⟩:=h T kV doc pm an cdv ct us (by rw[List.length_append] at hl;omega)
 exact PySem.W.binds_K KX rfl ht hs h1 h2
theorem fun_mkD{oc:Value}{od an:Option Addr}{osl:Array (Option Value)}{kV doc pm cdv ct:Value}{T:Addr}{to:Obj}{tn:Nat}(l:K.lookup f=some ⟨oc,od,.func (PySem.W.fnOf x qual (defArgs st) (defBody st) (defScope st) (.ref T) kV doc pm an cdv ct),osl⟩)
 (c:PySem.W.codeIn K cdv qual=true)(k:PySem.W.keepIn K (.ref f)=true)(t:K.lookup T=some to)(d:to.data=.seq ds tn):FunD K x qual st f (PySem.W.fnOf x qual (defArgs st) (defBody st) (defScope st) (.ref T) kV doc pm an cdv ct) ds:=
 ⟨⟨oc,od,T,to,tn,kV,doc,pm,an,cdv,ct,osl,rfl,l,c,t,d⟩,k⟩
end
structure CalD(P:Program)(w:World)(K:PySem.W.Frag)(mg:Str→Option Value)(base:Heap)(CX:CXT)(k:Nat)(x:Str)(ps:List Str)(dvs:List V)(sp:Sp):Prop where
 ex:∃(f:Addr) (fd:FuncData) (ds:List Value),FnOk P w K mg base CX k f fd ps sp∧Binds K fd ps ds∧Vals dvs ds∧PySem.W.keepIn K (.ref f)=true∧mg x=some (.ref f)
structure CalID(P:Program)(w:World)(K:PySem.W.Frag)(mg:Str→Option Value)(base:Heap)(CX:CXT)(k:Nat)(x:Str)(C:Addr)(ps:List Str)(dvs:List V)(sp:Sp):Prop where
 ex:∃(f:Addr) (fd:FuncData) (ds:List Value),FnOk P w K mg base CX k f fd ps sp∧Binds K fd ps ds∧Vals dvs ds∧Mk K C f∧mg x=some (.ref C)
section
variable{X:Cx}{EE:Value→Option Addr→St→Hp→Prop}{C:Addr}{m x:Str}{k:Nat}{ps:List Str}{dvs:List V}{sp:Sp}{o e:Expr}{es:List Expr}{ta:TE}{t:TA}{apos pos p:Pos}
theorem pe_mkD(O:CalID X.prog X.w X.K X.mg X.base CX0 k x C ps dvs sp)(hr:Room (k+1) X.A)(hg:Gl X x)(ha:PA X (e::es) t)
 (hdb:(x==("__debug__":Str))=false:=by decide)(he:starEach (e::es) X.env=(false,eval e X.env)::starEach es X.env:=by rfl)(hpl:(backTo pos (starEach es X.env)).any (·.1)=false:=by rfl):
 PE X (.Call (.Name x p) (e::es) [] pos) (tMake C sp dvs E0 t):=by
 obtain⟨f,fd,ds,F,hb,hv,M,hm⟩:=O.ex
 exact pe_make M F hr hg hm hb hv pass0 ha hdb he hpl
end
section
variable{X:Cx}
end
end L2
namespace L2
open PySem PySem.Spec PyProof.Rows
theorem rd_makeD{C:Addr}{sp:Sp}{dvs:List V}{t:TA}{σ:St}{H:Hp}{Q:VK}(h:t σ H fun vs H1=>∀x dx,H1 x=none→H1 dx=none→dx≠x→sp (.ref x::(vs++dvs)) (upd (upd H1 dx (.own x)) x (.ins C dx [])) (fun v H2=>v=.non∧Q (.ref x) H2) E0):tMake C sp dvs E0 t σ H Q:=h
theorem rd_makeE{C:Addr}{sp:Sp}{EE:XE}{t:TA}{σ:St}{H:Hp}{Q:VK}(h:t σ H fun vs H1=>∀x dx,H1 x=none→H1 dx=none→dx≠x→sp (.ref x::(vs++[])) (upd (upd H1 dx (.own x)) x (.ins C dx [])) (fun v H2=>v=.non∧Q (.ref x) H2) (fun c d H'=>EE c d σ H')):tMakeE C sp EE t σ H Q:=h
end L2
set_option Elab.async false
set_option linter.all false
set_option maxRecDepth 100000
set_option maxHeartbeats 4000000
namespace L2
open PySem PySem.Spec PyProof.Rows
def plainV:V→Bool
 | .byt _=>false
 | .flt _=>false
 | _=>true
inductive EqV(K:PySem.W.Frag)(H:Hp):Nat→V→V→Prop
 | same {n:Nat} {v:V}:plainV v=true→EqV K H n v v
 | lst {n:Nat} {a b:Addr} {xs ys:List V}:SqL K H a xs→SqL K H b ys→xs.length=ys.length→(∀(i:Nat) x y,xs[i]?=some x→ys[i]?=some y→EqV K H n x y)→EqV K H (n+1) (.ref a) (.ref b)
 | tup {n:Nat} {a b:Addr} {xs ys:List V}:SqT K H a xs→SqT K H b ys→xs.length=ys.length→(∀(i:Nat) x y,xs[i]?=some x→ys[i]?=some y→EqV K H n x y)→EqV K H (n+1) (.ref a) (.ref b)
theorem vals_at:∀{xs:List V} {us:List Value} {i:Nat} {u:Value},Vals xs us→us[i]?=some u→∃x,xs[i]?=some x∧RelV x u
 | _,_,i,u,.nil,h=>by simp at h
 | _,_,0,u,.cons r _,h=>by
  injection h with h
  subst h
  exact⟨_,rfl,r⟩
 | _,_,i+1,u,.cons _ rs,h=>vals_at (i:=i) rs h
section
variable{X:Cx}{pins:List (Addr×Obj)}{σ:St}{H:Hp}{s:Shared}
theorem EqV.at{n:Nat}{x y:V}(h:EqV X.K H n x y)(I:Inv X pins σ H s):∀{A:Around} {u v:Value},RelV x u→RelV y v→A.units+n<cLine→SeqAt.EqAt A s u v true:=by
 induction h with
 | @same n v hp=>
  intro A u u' r r' _
  cases v with
  | non=>cases r;cases r';exact SeqAt.EqAt.same _
  | bl b=>cases r;cases r';exact SeqAt.EqAt.same _
  | int i=>
   obtain⟨t,rfl⟩:=r
   obtain⟨t',rfl⟩:=r'
   have:=SeqAt.EqAt.int_int (A:=A) (s:=s) i t i t'
   rwa [beq_self_eq_true] at this
  | str x=>
   obtain⟨t,rfl⟩:=r
   obtain⟨t',rfl⟩:=r'
   have:=SeqAt.EqAt.str_str (A:=A) (s:=s) x t x t'
   rwa [beq_self_eq_true] at this
  | byt b=>cases hp
  | flt b=>cases hp
  | ref a=>cases r;cases r';exact SeqAt.EqAt.same _
  | ty n=>cases r;cases r';exact SeqAt.EqAt.same _
 | @lst n a b xs ys ha hb hl _ ih=>
  intro A u v r r' hu
  cases r
  cases r'
  by_cases e:a=b
  ·subst e
   exact SeqAt.EqAt.same _
  obtain⟨its,r,pl,_⟩:=I.list ha
  obtain⟨its',r',pl',_⟩:=I.list hb
  have l1:=r.length
  have l2:=r'.length
  have:=SeqAt.RcAt.lists (A:=A) (e:=fun _=>true) pl.isList pl'.isList (by simp;omega) (by omega) fun j k1 k2=>by
   obtain⟨x,hx,rx⟩:=vals_at r (i:=j) (u:=its.toArray[j]) (by simp)
   obtain⟨y,hy,ry⟩:=vals_at r' (i:=j) (u:=its'.toArray[j]) (by simp)
   exact ih j x y hx hy rx ry (by show A.units+1+n<cLine;omega)
  rw[show ((List.range its.toArray.size).all fun _=>true)=true by simp] at this
  exact SeqAt.EqAt.of_refs e this
 | @tup n a b xs ys ha hb hl _ ih=>
  intro A u v r r' hu
  cases r
  cases r'
  by_cases e:a=b
  ·subst e
   exact SeqAt.EqAt.same _
  obtain⟨its,r,pl,_⟩:=I.tuple ha
  obtain⟨its',r',pl',_⟩:=I.tuple hb
  have l1:=r.length
  have l2:=r'.length
  have:=SeqAt.RcAt.tuples (A:=A) (e:=fun _=>true) pl pl' (by omega) fun j k1 k2=>by
   obtain⟨x,hx,rx⟩:=vals_at r (i:=j) (u:=its.toArray[j]) (by simp)
   obtain⟨y,hy,ry⟩:=vals_at r' (i:=j) (u:=its'.toArray[j]) (by simp)
   exact ih j x y hx hy rx ry (by show A.units+1+n<cLine;omega)
  rw[show ((List.range (min its.toArray.size its'.toArray.size)).all fun _=>true)=true by simp,Bool.true_and,show(its.toArray.size==its'.toArray.size)=true by simp;omega] at this
  exact SeqAt.EqAt.of_refs e this
end
end L2
set_option Elab.async false
set_option linter.all false
set_option maxRecDepth 100000
set_option maxHeartbeats 4000000
namespace L2
open PySem PySem.Spec PyProof.Rows
structure CalL(P:Program)(w:World)(K:PySem.W.Frag)(mg:Str→Option Value)(base:Heap)(CX:CXT)(k:Nat)(m:Str)(ps:List Str)(L:List (Addr×Sp)):Prop where
 ex:∀p∈L,Cls K p.1∧∃(f:Addr) (fd:FuncData),FnOk P w K mg base CX k f fd ps p.2∧Binds K fd ps []∧Meth K p.1 m f
theorem CalL.nil{P:Program}{w:World}{K:PySem.W.Frag}{mg:Str→Option Value}{base:Heap}{CX:CXT}{k:Nat}{m:Str}{ps:List Str}:CalL P w K mg base CX k m ps []:=⟨fun p hp=>(nomatch hp)⟩
theorem FnOk.up{P:Program}{w:World}{K:PySem.W.Frag}{mg:Str→Option Value}{base:Heap}{CX:CXT}{k j:Nat}{f:Addr}{fd:FuncData}{ps:List Str}{sp:Sp}(F:FnOk P w K mg base CX k f fd ps sp)(h:k≤j):FnOk P w K mg base CX j f fd ps sp:=
 ⟨F.len,fun A outer s H args us vs Q E hr e0 hb r hs=>F.run A outer s H args us vs Q E (hr.mono h) e0 hb r hs⟩
theorem CalL.cons{P:Program}{w:World}{K:PySem.W.Frag}{mg:Str→Option Value}{base:Heap}{CX:CXT}{k j:Nat}{m:Str}{ps:List Str}{C:Addr}{sp:Sp}{L:List (Addr×Sp)}(c:Cls K C)(O:CalM P w K mg base CX j C m ps sp)(h:j≤k)(r:CalL P w K mg base CX k m ps L):CalL P w K mg base CX k m ps ((C,sp)::L):=by
 refine⟨fun p hp=>?_⟩
 rcases List.mem_cons.mp hp with e | e
 ·subst e
  obtain⟨f,fd,F,hb,M⟩:=O.ex
  exact⟨c,f,fd,F.up h,hb,M⟩
 ·exact r.ex p e
theorem CalM.toE{P:Program}{w:World}{K:PySem.W.Frag}{mg:Str→Option Value}{base:Heap}{k:Nat}{m:Str}{ps:List Str}{C:Addr}{sp:Sp}(O:CalM P w K mg base CX0 k C m ps sp):CalM P w K mg base (CX1 P w) k C m ps sp:=by
 obtain⟨f,fd,F,hb,M⟩:=O.ex
 exact⟨⟨f,fd,cx0_le F,hb,M⟩⟩
def tMethL(L:List (Addr×Sp))(m:Str)(ta:TE)(t:TA):TE:=fun σ H Q=>ta σ H fun x H1=>∃a C dx fs sp,(C,sp)∈L∧x=.ref a∧H1 a=some (.ins C dx fs)∧fs.lookup m=none∧
 t σ H1 fun vs H2=>sp (x::(vs++[])) H2 Q E0
def tMethLE(L:List (Addr×Sp))(m:Str)(EE:XE)(ta:TE)(t:TA):TE:=fun σ H Q=>ta σ H fun x H1=>∃a C dx fs sp,(C,sp)∈L∧x=.ref a∧H1 a=some (.ins C dx fs)∧fs.lookup m=none∧
 t σ H1 fun vs H2=>sp (x::(vs++[])) H2 Q (fun c d H'=>EE c d σ H')
section
variable{X:Cx}{EE:Value→Option Addr→St→Hp→Prop}{L:List (Addr×Sp)}{m:Str}{k:Nat}{ps:List Str}{o e:Expr}{es:List Expr}{ta:TE}{t:TA}{apos pos:Pos}
theorem pe_mcalL0{pl:Sem Bool}(O:CalL X.prog X.w X.K X.mg X.base CX0 k m ps L)(hr:Room k X.A)(he:PE X o ta)
 (ht:eval (.Call (.Attribute o m apos) [] [] pos) X.env=(do
  let ov ←eval o X.env
  standAt apos.atName
  let (f,first) ←holding [ov] (getMethod ov m pl)
  callWith pos f first (backTo pos (starEach [] X.env)) (backToKw pos (keywordEach [] X.env))):=by rfl):
 PE X (.Call (.Attribute o m apos) [] [] pos) (tMethL L m ta tNil):=by
 intro pins s σ H Q I h
 refine PySem.W.methodCall_KW (pl:=pl) (thn (he pins s σ H _ I h) fun u s1 ⟨x,H1,I1,rx,a,C,dx,fs,sp,mem,ex,ea,l,q⟩=>?_) ht
 subst ex
 obtain rfl:u=Value.ref a:=rx
 obtain⟨c,f,fd,F,hb,hm⟩:=O.ex _ mem
 refine getmeth_ok I1 ea c hm l ?_
 exact PySem.W.callWith_K0 (first:=[.ref a]) I1.kIn hm.kp (run_fn (us:=[.ref a]) (vs:=[.ref a]) F hr hb .nil pass0 I1 (.cons rfl .nil) q)
theorem pe_mcalLE0{pl:Sem Bool}(T:Thr X EE)(O:CalL X.prog X.w X.K X.mg X.base (CX1 X.prog X.w) k m ps L)(hr:Room k X.A)(he:PE X o ta)
 (ht:eval (.Call (.Attribute o m apos) [] [] pos) X.env=(do
  let ov ←eval o X.env
  standAt apos.atName
  let (f,first) ←holding [ov] (getMethod ov m pl)
  callWith pos f first (backTo pos (starEach [] X.env)) (backToKw pos (keywordEach [] X.env))):=by rfl):
 PE X (.Call (.Attribute o m apos) [] [] pos) (tMethLE L m EE ta tNil):=by
 intro pins s σ H Q I h
 refine PySem.W.methodCall_KW (pl:=pl) (thn (he pins s σ H _ I h) fun u s1 ⟨x,H1,I1,rx,a,C,dx,fs,sp,mem,ex,ea,l,q⟩=>?_) ht
 subst ex
 obtain rfl:u=Value.ref a:=rx
 obtain⟨c,f,fd,F,hb,hm⟩:=O.ex _ mem
 refine getmeth_ok I1 ea c hm l ?_
 exact PySem.W.callWith_K0 (first:=[.ref a]) I1.kIn hm.kp (run_fnE (us:=[.ref a]) (vs:=[.ref a]) T F hr hb I1 (.cons rfl .nil) q)
end
theorem rd_methL{L:List (Addr×Sp)}{m:Str}{ta:TE}{t:TA}{σ:St}{H:Hp}{Q:VK}(h:ta σ H fun x H1=>∃a C dx fs sp,(C,sp)∈L∧x=.ref a∧H1 a=some (.ins C dx fs)∧fs.lookup m=none∧t σ H1 fun vs H2=>sp (x::(vs++[])) H2 Q E0):tMethL L m ta t σ H Q:=h
theorem rd_methLE{L:List (Addr×Sp)}{m:Str}{EE:XE}{ta:TE}{t:TA}{σ:St}{H:Hp}{Q:VK}(h:ta σ H fun x H1=>∃a C dx fs sp,(C,sp)∈L∧x=.ref a∧H1 a=some (.ins C dx fs)∧fs.lookup m=none∧t σ H1 fun vs H2=>sp (x::(vs++[])) H2 Q (fun c d H'=>EE c d σ H')):tMethLE L m EE ta t σ H Q:=h
end L2
set_option Elab.async false
set_option linter.all false
namespace L2
theorem len1{α:Type}{us:List α}(h:us.length=1):∃a0,us=[a0]:=by
 match us,h with
 | [a0],_=>exact⟨a0,rfl⟩
theorem len2{α:Type}{us:List α}(h:us.length=2):∃a0 a1,us=[a0,a1]:=by
 match us,h with
 | [a0,a1],_=>exact⟨a0,a1,rfl⟩
theorem len3{α:Type}{us:List α}(h:us.length=3):∃a0 a1 a2,us=[a0,a1,a2]:=by
 match us,h with
 | [a0,a1,a2],_=>exact⟨a0,a1,a2,rfl⟩
theorem len4{α:Type}{us:List α}(h:us.length=4):∃a0 a1 a2 a3,us=[a0,a1,a2,a3]:=by
 match us,h with
 | [a0,a1,a2,a3],_=>exact⟨a0,a1,a2,a3,rfl⟩
theorem len5{α:Type}{us:List α}(h:us.length=5):∃a0 a1 a2 a3 a4,us=[a0,a1,a2,a3,a4]:=by
 match us,h with
 | [a0,a1,a2,a3,a4],_=>exact⟨a0,a1,a2,a3,a4,rfl⟩
theorem len6{α:Type}{us:List α}(h:us.length=6):∃a0 a1 a2 a3 a4 a5,us=[a0,a1,a2,a3,a4,a5]:=by
 match us,h with
 | [a0,a1,a2,a3,a4,a5],_=>exact⟨a0,a1,a2,a3,a4,a5,rfl⟩
theorem len7{α:Type}{us:List α}(h:us.length=7):∃a0 a1 a2 a3 a4 a5 a6,us=[a0,a1,a2,a3,a4,a5,a6]:=by
 match us,h with
 | [a0,a1,a2,a3,a4,a5,a6],_=>exact⟨a0,a1,a2,a3,a4,a5,a6,rfl⟩
theorem len8{α:Type}{us:List α}(h:us.length=8):∃a0 a1 a2 a3 a4 a5 a6 a7,us=[a0,a1,a2,a3,a4,a5,a6,a7]:=by
 match us,h with
 | [a0,a1,a2,a3,a4,a5,a6,a7],_=>exact⟨a0,a1,a2,a3,a4,a5,a6,a7,rfl⟩
end L2
set_option Elab.async false
set_option linter.all false
set_option maxRecDepth 100000
set_option maxHeartbeats 4000000
namespace L2
open PySem PySem.Spec PyProof.Rows
section
variable{X:Cx}
end
end L2
set_option Elab.async false
set_option linter.all false
set_option maxRecDepth 100000
set_option maxHeartbeats 4000000
namespace L2
open PySem PySem.Spec PyProof.Rows
section
variable{X:Cx}
end
theorem cut_upto(xs:List V)(k:Nat):cutV xs none (some (k:Int))=xs.take k:=by
 unfold cutV
 rw[HT.sIx_none,HT.sIx_nat,List.drop_zero,Nat.sub_zero]
 by_cases h:k≤xs.length
 ·rw[Nat.min_eq_left h]
 ·rw[Nat.min_eq_right (by omega),List.take_of_length_le (Nat.le_refl _),List.take_of_length_le (by omega)]
end L2
set_option Elab.async false
set_option linter.all false
set_option maxRecDepth 100000
set_option maxHeartbeats 4000000
namespace L2
open PySem PySem.Spec PyProof.Rows
section
variable{X:Cx}
end
end L2
set_option Elab.async false
set_option linter.all false
set_option maxRecDepth 100000
set_option maxHeartbeats 4000000
namespace L2
open PySem PySem.Spec PyProof.Rows
section
variable{X:Cx}
end
end L2
set_option Elab.async false
set_option linter.all false
set_option maxRecDepth 100000
set_option maxHeartbeats 4000000
namespace L2
open PySem PySem.Spec PyProof.Rows
def asc(z:Str):Bool:=z.cps.all (· <128)
section
variable{X:Cx}{tg:Expr}
end
section
variable{X:Cx}
end
end L2
set_option Elab.async false
set_option linter.all false
set_option maxRecDepth 100000
set_option maxHeartbeats 4000000
namespace L2
open PySem PySem.Spec PyProof.Rows
inductive CalVs(P:Program)(w:World)(K:PySem.W.Frag)(mg:Str→Option Value)(base:Heap)(k:Nat):List (Str×Sp)→Prop
 | nil:CalVs P w K mg base k []
 | cons {x:Str} {ps:List Str} {sp:Sp} {L:List (Str×Sp)}:Cal P w K mg base k x ps sp→CalVs P w K mg base k L→CalVs P w K mg base k ((x,sp)::L)
theorem CalVs.get{P:Program}{w:World}{K:PySem.W.Frag}{mg:Str→Option Value}{base:Heap}{k:Nat}{L:List (Str×Sp)}(h:CalVs P w K mg base k L){x:Str}{sp:Sp}(hm:(x,sp)∈L):∃ps,Cal P w K mg base k x ps sp:=by
 induction h with
 | nil=>cases hm
 | cons C _ ih=>
  rcases List.mem_cons.mp hm with e | e
  ·injection e with e1 e2
   subst e1
   subst e2
   exact⟨_,C⟩
  ·exact ih e
def tCallV(mg:Str→Option Value)(i:Nat)(L:List (Str×Sp))(t:TA):TE:=fun σ H Q=>∃f x sp,σ[i]?=some (some (.ref f))∧(x,sp)∈L∧mg x=some (.ref f)∧t σ H fun vs H1=>sp vs H1 Q E0
section
variable{X:Cx}{pos:Pos}
theorem pe_calV{k i:Nat}{x:Str}{L:List (Str×Sp)}{e:Expr}{es:List Expr}{t:TA}{p:Pos}(CV:CalVs X.prog X.w X.K X.mg X.base k L)(hr:Room k X.A)(hN:X.N[i]?=some x)(hv:Vis X.env.scope x)(ha:PA X (e::es) t)
 (hdb:(x==("__debug__":Str))=false:=by decide)(hcd:(x==("__classdict__":Str))=false:=by decide)(he:starEach (e::es) X.env=(false,eval e X.env)::starEach es X.env:=by rfl)(hpl:(backTo pos (starEach es X.env)).any (·.1)=false:=by rfl):
 PE X (.Call (.Name x p) (e::es) [] pos) (tCallV X.mg i L t):=by
 intro pins s σ H Q I h
 obtain⟨f,y,sp,hf,hm,hmg,h⟩:=h
 obtain⟨ps,C⟩:=CV.get hm
 obtain⟨f',fd,F,b,kp,m⟩:=C.ex
 have ef:f'=f:=by
  rw[hmg] at m
  injection m with m
  injection m with m
  exact m.symm
 subst ef
 refine wpAny_Call_Name_kw ?_
 refine thn (pe_var hN hv hdb hcd pins s σ H (fun v H1=>v=.ref f'∧H1=H) I ⟨_,hf,rfl,rfl⟩) fun v s1 ⟨y,H1,I1,r1,q1⟩=>?_
 obtain⟨rfl,rfl⟩:=q1
 cases r1
 refine PySem.W.callWith_K (h₀:=X.base) I1.ok.mod.kin kp (thn (ha pos pins s1 σ _ _ I1 h) fun us s2 ⟨vs,H2,I2,r,q⟩=>⟨I2.kIn,?_⟩) he hpl
 dsimp only at q
 have hl:us.length=ps.length:=by rw[←r.length];exact F.len _ _ _ _ q
 have hb:=b s2 us I2.kIn (by rw[List.append_nil];exact hl)
 rw[List.append_nil] at hb
 show wpAny _ _ (call (.ref f') us) _ _ _
 refine wpAny_call (codeAny_mono (F.run X.A X.stack s2 H2 ⟨us,[]⟩ us vs Q _ hr I2.env0 hb r q) fun z s' hq=>?_)
 cases z with
 | error e=>exact False.elim hq
 | ok fl=>
  cases fl with
  | ret u=>exact I2.after hq
  | next=>exact False.elim hq
  | brk=>exact False.elim hq
  | cont=>exact False.elim hq
theorem rd_callV{mg:Str→Option Value}{i:Nat}{L:List (Str×Sp)}{t:TA}{σ:St}{H:Hp}{Q:VK}{f:Addr}{x:Str}{sp:Sp}(h1:σ[i]?=some (some (.ref f)))(h2:(x,sp)∈L)(h3:mg x=some (.ref f))(h:t σ H fun vs H1=>sp vs H1 Q E0):tCallV mg i L t σ H Q:=⟨f,x,sp,h1,h2,h3,h⟩
end
end L2
set_option Elab.async false
set_option linter.all false
set_option maxRecDepth 100000
set_option maxHeartbeats 4000000
namespace L2
open PySem PySem.Spec PyProof.Rows
section
variable{X:Cx}{pins:List (Addr×Obj)}{σ:St}{H:Hp}{s:Shared}{h':Heap}
theorem Inv.turnedNew{t':Nat}{ch:List Addr}{T:Addr}{o:HO}(I:Inv X pins σ H s)(k:∀b u,b∉ch→s.heap.get? b=some u→h'.get? b=some u)(hf:∀b∈ch,FpOk X pins H b)
 (hp:s.heap.objs.size≤T)(new:ObjOk X.prog X.w (upd H T o) h' T o):Inv X pins σ (upd H T o) { s with heap:=h',toks:=t' }:=by
 have hn:H T=none:=I.hok.fresh hp
 have nit:∀b u,H b=some u→b∉ch:=fun b u e z=>by rw[(hf b z).1] at e;cases e
 refine I.step (g':=s.gens) (d':=s.drawn) (ch:=ch) (fun b hb=>⟨(hf b hb).2.2.2.1,(hf b hb).2.1,(hf b hb).2.2.2.2.1,(hf b hb).2.2.2.2.2⟩) (fun b u _ _ hc e _=>k b u hc e) (fun b u _ _ hc e _=>⟨u.slots,k b u hc e⟩)
  (fun b u _ e n=>by rw[upd_ne (Nat.ne_of_lt (Nat.lt_of_lt_of_le (Heap.lt_size e) hp))];exact n)
  (fun b u hc e=>⟨u,k b u hc e⟩) (fun b xs q=>by rw[upd_ne (ne_of_none q hn)];exact q) (fun b u xs q=>by rw[upd_ne (ne_of_none q hn)];exact q) (fun b ps q=>⟨#[],by rw[upd_ne (ne_of_none q hn),q];simp⟩) (fun m hm=>?_) (fun b u e=>?_) I.bare
 ·obtain⟨u,es,ep,ho,r⟩:=hm
  exact⟨u,es,ep,k _ u (fun z=>(hf _ z).2.1 rfl) ho,r⟩
 ·by_cases hb:b=T
  ·subst hb;rw[upd_same] at e;cases e;exact new
  ·rw[upd_ne hb] at e
   refine(I.hok b u e).stay (fun c v hc q=>k c v ?_ q) (fun c q=>by rw[upd_ne (ne_of_none q hn)];exact q) fun c xs q=>by rw[upd_ne (ne_of_none q hn)];exact q
   rcases hc with z | z
   ·rw[z];exact nit b u e
   ·exact nit c _ z
theorem Inv.turnedL{t':Nat}{ch:List Addr}(I:Inv X pins σ H s)(k:∀b u,b∉ch→s.heap.get? b=some u→h'.get? b=some u)(hf:∀b∈ch,FpOk X pins H b):Inv X pins σ H { s with heap:=h',toks:=t' }:=by
 have nit:∀b u,H b=some u→b∉ch:=fun b u e z=>by rw[(hf b z).1] at e;cases e
 refine I.step (g':=s.gens) (d':=s.drawn) (ch:=ch) (fun b hb=>⟨(hf b hb).2.2.2.1,(hf b hb).2.1,(hf b hb).2.2.2.2.1,(hf b hb).2.2.2.2.2⟩) (fun b u _ _ hc e _=>k b u hc e) (fun b u _ _ hc e _=>⟨u.slots,k b u hc e⟩)
  (fun _ _ _ _ n=>n) (fun b u hc e=>⟨u,k b u hc e⟩) (fun b xs q=>q) (fun b u xs q=>q) (fun b ps q=>⟨#[],by rw[q];simp⟩) (fun m hm=>?_) (fun b u e=>?_) I.bare
 ·obtain⟨u,es,ep,ho,r⟩:=hm
  exact⟨u,es,ep,k _ u (fun z=>(hf _ z).2.1 rfl) ho,r⟩
 ·refine(I.hok b u e).stay (fun c v hc q=>k c v ?_ q) (fun c q=>q) fun c xs q=>q
  rcases hc with z | z
  ·rw[z];exact nit b u e
  ·exact nit c _ z
end
def Itz(K:PySem.W.Frag)(a b:Addr):It:=
 ⟨fun i H=>∃xs ys x y,SqL K H a xs∧SqL K H b ys∧xs[i]?=some x∧ys[i]?=some y,
  fun i H v H'=>∃T x y,H T=none∧v=.ref T∧H'=upd H T (.tup [x,y])∧∀xs ys,SqL K H a xs→SqL K H b ys→xs[i]?=some x∧ys[i]?=some y,
  fun i H=>∃xs ys,SqL K H a xs∧SqL K H b ys∧i=min xs.length ys.length⟩
def ZipAt(z TI TO i1 i2 a b:Addr)(i:Nat)(h:Heap):Prop:=
 IsZip h z TI TO .none∧IsPair h TI (.ref i1) (.ref i2)∧(∃p q,IsPair h TO p q)∧h.IsListIter i1 a i∧h.IsListIter i2 b i
theorem turn_zip{P:Program}{w:World}{K:PySem.W.Frag}{es:List Expr}{kk:Nat}{pos:Pos}(z TI TO i1 i2 a b:Addr)(D:ZipApart z TI TO i1 i2 a b):
 Turn P w K (.Tuple es kk pos) (Itz K a b) [z,TI,TO,i1,i2] z (ZipAt z TI TO i1 i2 a b) where
 mem:=by simp
 obj:=fun i h st c hc=>by
  obtain⟨h1,h2,⟨p,q,h3⟩,⟨o4,e4,_,d4⟩,⟨o5,e5,_,d5⟩⟩:=st
  simp only[List.mem_cons,List.not_mem_nil,or_false] at hc
  rcases hc with rfl | rfl | rfl | rfl | rfl
  ·exact⟨_,h1,fun v z=>by cases z⟩
  ·exact⟨_,h2,fun v z=>by cases z⟩
  ·exact⟨_,h3,fun v z=>by cases z⟩
  ·exact⟨_,e4,fun v z=>by rw[d4] at z;cases z⟩
  ·exact⟨_,e5,fun v z=>by rw[d5] at z;cases z⟩
 keep:=fun i h h' st k=>by
  obtain⟨h1,h2,⟨p,q,h3⟩,h4,h5⟩:=st
  exact⟨k z (by simp) _ h1,k TI (by simp) _ h2,⟨p,q,k TO (by simp) _ h3⟩,h4.at fun o e=>k i1 (by simp) o e,h5.at fun o e=>k i2 (by simp) o e⟩
 item:=by
  intro X hP hw hK hc i pins s σ H E I hf st hg
  subst hP hw hK
  obtain⟨xs,ys,x,y,qa,qb,ex,ey⟩:=hg
  obtain⟨us,ra,pa,_⟩:=I.list qa
  obtain⟨ws,rb,pb,_⟩:=I.list qb
  obtain⟨u,hu,ru⟩:=ra.get ex
  obtain⟨v,hv,rv⟩:=rb.get ey
  obtain⟨h1,h2,h3,h4,h5⟩:=st
  have W:=WalksT.zip2 (prog:=X.prog) (w:=X.w) (I.ok.hd hc) z TI TO i1 i2 a b D us.toArray ws.toArray
  have lu:i<us.length:=(List.getElem?_eq_some_iff.mp hu).1
  have lw:i<ws.length:=(List.getElem?_eq_some_iff.mp hv).1
  refine W.item i s _ E (by simp;omega) ⟨h1,h2,h3,h4,h5,pa.isList,pb.isList⟩ fun T vals h' tk hv' hT tup mid k=>?_
  refine⟨.ref T,rfl,W.go es kk pos i T _ _ E mid fun h2 st2 k2=>?_⟩
  have nw:=W.apart i T h' mid
  obtain⟨x',y',e1,e2,e3⟩:=hv'
  have e1':u=x':=by simpa [hu] using e1
  have e2':v=y':=by simpa [hv] using e2
  subst e1' e2' e3
  have tup2:h2.IsTuple T #[u,v]:=by
   obtain⟨o,eo,r⟩:=tup
   exact⟨o,k2 T o nw eo,r⟩
  have hn:H T=none:=I.hok.fresh hT
  refine⟨.ref T,upd H T (.tup [x,y]),I.turnedNew (ch:=[z,TO,i1,i2]) (fun c o hc e=>k2 c o hc (k c o hc e)) (fun c hc=>hf c ?_) hT ⟨?_,[u,v],.cons ru (.cons rv .nil),tup2⟩,rfl,⟨T,x,y,hn,rfl,rfl,fun xs' ys' qa' qb'=>?_⟩,?_,fun c hc=>?_⟩
  ·simp only[List.mem_cons,List.not_mem_nil,or_false] at hc ⊢
   rcases hc with h | h | h | h
   ·exact .inl h
   ·exact .inr (.inr (.inl h))
   ·exact .inr (.inr (.inr (.inl h)))
   ·exact .inr (.inr (.inr (.inr h)))
  ·show 2≤sizeLine
   rw[sizeLine_eq];decide
  ·rw[I.list_inj qa' qa,I.list_inj qb' qb]
   exact⟨ex,ey⟩
  ·obtain⟨g1,g2,g3,g4,g5,_⟩:=st2
   exact⟨g1,g2,g3,g4,g5⟩
  ·have hlt:c<s.heap.objs.size:=by
    simp only[List.mem_cons,List.not_mem_nil,or_false] at hc
    obtain⟨p,q,h3⟩:=h3
    obtain⟨o4,e4,_⟩:=h4
    obtain⟨o5,e5,_⟩:=h5
    rcases hc with rfl | rfl | rfl | rfl | rfl
    ·exact Heap.lt_size h1
    ·exact Heap.lt_size h2
    ·exact Heap.lt_size h3
    ·exact Heap.lt_size e4
    ·exact Heap.lt_size e5
   rw[upd_ne (Nat.ne_of_lt (Nat.lt_of_lt_of_le hlt hT))]
   exact(hf c hc).1
 done:=by
  intro X hP hw hK hc i pins s σ H E I hf st hg
  subst hP hw hK
  obtain⟨xs,ys,qa,qb,e⟩:=hg
  obtain⟨us,ra,pa,_⟩:=I.list qa
  obtain⟨ws,rb,pb,_⟩:=I.list qb
  have la:=ra.length
  have lb:=rb.length
  obtain⟨h1,h2,h3,h4,h5⟩:=st
  have W:=WalksT.zip2 (prog:=X.prog) (w:=X.w) (I.ok.hd hc) z TI TO i1 i2 a b D us.toArray ws.toArray
  have en:i=min us.toArray.size ws.toArray.size:=by simp;omega
  rw[en] at h4 h5
  refine W.done s _ E ⟨h1,h2,h3,h4,h5,pa.isList,pb.isList⟩ fun h' tk k=>⟨rfl,I.turnedL (ch:=[z,TO,i1,i2]) (fun c o hc e=>k c o hc e) fun c hc=>hf c ?_⟩
  simp only[List.mem_cons,List.not_mem_nil,or_false] at hc ⊢
  rcases hc with h | h | h | h
  ·exact .inl h
  ·exact .inr (.inr (.inl h))
  ·exact .inr (.inr (.inr (.inl h)))
  ·exact .inr (.inr (.inr (.inr h)))
 self:=fun _ _ _ _ _ st h=>wpAny_pyIter_zip st.1 h
theorem zapart{n a b:Nat}(ha:a<n)(hb:b<n):ZipApart (n+4) (n+2) (n+3) n (n+1) a b:=
 ⟨show n+2≠n+4 by omega,show n+3≠n+4 by omega,show n≠n+4 by omega,show n+1≠n+4 by omega,show n+2≠n+3 by omega,show n+2≠n by omega,show n+2≠n+1 by omega,show n+3≠n by omega,show n+3≠n+1 by omega,show n≠n+1 by omega,
  show a≠n+4 by omega,show a≠n+3 by omega,show a≠n by omega,show a≠n+1 by omega,show b≠n+4 by omega,show b≠n+3 by omega,show b≠n by omega,show b≠n+1 by omega⟩
def iZip(K:PySem.W.Frag)(ta:TA):TI:=fun σ H R=>ta σ H fun vs H1=>∃a b,vs=[.ref a,.ref b]∧(∃xs ys,SqL K H1 a xs∧SqL K H1 b ys)∧R (Itz K a b) H1
section
variable{X:Cx}
theorem pi_zip{a b:Expr}{ta:TA}{p pos:Pos}{es:List Expr}{kk:Nat}{tp:Pos}(hg:Gl X "zip")(hm:X.mg "zip"=none)(ha:PA X [a,b] ta)(hs:starEach [a,b] X.env=[(false,eval a X.env),(false,eval b X.env)]:=by rfl)(hs2:starEach [b] X.env=[(false,eval b X.env)]:=by rfl):
 PI X (.Tuple es kk tp) (.Call (.Name "zip" p) [a,b] [] pos) (iZip X.K ta):=by
 intro pins s σ H R I h
 refine Call_ (ld_blt I hg hm boot_zip (PyProof.Rows.callWith_type1 (thn (ha pos pins s σ H _ I h) fun us s1 ⟨vs,H1,I1,r1,q1⟩=>?_) (by rw[hs,hs2]) (by rw[hs2];rfl)))
 obtain⟨x,y,e,⟨xs,ys,qa,qb⟩,q⟩:=q1
 subst e
 obtain⟨ia,ra,pa,_⟩:=I1.list qa
 obtain⟨ib,rb,pb,_⟩:=I1.list qb
 cases r1 with
 | cons r rr=>
  cases rr with
  | cons r' rr=>
   cases rr
   cases (show _=Value.ref x from r)
   cases (show _=Value.ref y from r')
   have l1:x<s1.heap.objs.size:=by obtain⟨o,eo,_⟩:=pa.isList;exact Heap.lt_size eo
   have l2:y<s1.heap.objs.size:=by obtain⟨o,eo,_⟩:=pb.isList;exact Heap.lt_size eo
   refine call_zip_2 pa.isList pb.isList fun h' hz hTI hTO hi1 hi2 hsz hk=>?_
   refine wpAny_pyIter_zip hz ?_
   have D:ZipApart (s1.heap.objs.size+4) (s1.heap.objs.size+2) (s1.heap.objs.size+3) s1.heap.objs.size (s1.heap.objs.size+1) x y:=zapart l1 l2
   have n1:∀j,H1 (s1.heap.objs.size+j)=none:=fun j=>I1.hok.fresh (Nat.le_add_right _ _)
   refine⟨_,_,_,_,H1,rfl,I1.kept (t':=s1.toks) fun c o e=>hk c o e,turn_zip _ _ _ _ _ x y D,⟨hz,hTI,⟨_,_,hTO⟩,hi1,hi2⟩,fun c hc=>?_,q⟩
   have hcs:s1.heap.objs.size≤c:=by
    simp only[List.mem_cons,List.not_mem_nil,or_false] at hc
    rcases hc with rfl | rfl | rfl | rfl | rfl
    ·exact Nat.le_add_right _ _
    ·exact Nat.le_add_right _ _
    ·exact Nat.le_add_right _ _
    ·exact Nat.le_refl _
    ·exact Nat.le_add_right _ _
   exact I1.fpOk hcs (I1.hok.fresh hcs)
end
theorem rd_zip{K:PySem.W.Frag}{ta:TA}{σ:St}{H:Hp}{R:It→Hp→Prop}(h:ta σ H fun vs H1=>∃a b,vs=[.ref a,.ref b]∧(∃xs ys,SqL K H1 a xs∧SqL K H1 b ys)∧R (Itz K a b) H1):iZip K ta σ H R:=h
section
variable{X:Cx}
theorem ps_setCompT{M:List Str}{elt iter tg:Expr}{xs:List Str}{y:Str}{py pos spos:Pos}{ifs:List Expr}{scope:Scope}{cl:List (Str×Addr)}{wi:TI}{g:TG}{tt:TT}{te:TE}{i:Nat}(hN:X.N.Nodup)(hiy:X.N[i]?=some y)(hy:Loc X.env.scope y)
 (hc:X.calm=true)(ok:CompOkT X M xs scope cl)(hi:PI X tg iter wi)
 (ht:∀C s₀ H₀ fp,PIfs (compCxT X M xs scope cl C s₀ H₀ fp) ifs tt)(hg:∀C s₀ H₀ fp,PG (compCxT X M xs scope cl C s₀ H₀ fp) tg g)(he:∀C s₀ H₀ fp,PE (compCxT X M xs scope cl C s₀ H₀ fp) elt te)
 (hsw:swapsWith (.ListComp elt [⟨tg,iter,ifs,0⟩] scope pos) (some (.Name y py)) spos.line X.env=pure true:=by with_unfolding_all rfl)
 (hf:X.fn y=true∨X.env.scope.names.lookup y=some .local:=by first | exact .inl rfl | exact .inr rfl | assumption)
 (hs:∀x,foldedSetIterable iter X.env x=pure x:=by intro _;rfl):
 PS X (.Assign [.Name y py] (.ListComp elt [⟨tg,iter,ifs,0⟩] scope pos) spos) (tAsg (tCompT xs.length wi g tt te) (gName i)):=by
 intro pins s σ H D I h
 rw[exec_Assign_Name_used _ _ _ _ hsw]
 refine wpAny_bind (wpAny_standAt (wpAny_bind ?_))
 show wpAny _ X.A (do let _ ←comprehension (.ListComp elt [⟨tg,iter,ifs,0⟩] scope pos) scope X.env _ (newList []) false (eval iter X.env) (some (assign (.Name y py) X.env))) _ _ s
 refine wpAny_bind (wpAny_mono (wpAny_comprehension_free (use:=some (assign (.Name y py) X.env)) (Q:=fun _ s'=>SP X pins D .next s') rfl hs ok.clos ok.kind ok.names
  (thn (hi pins s σ H _ I h) fun xv s1 h1=>thn h1 fun itv s2 h2=>?_)) (fun _ s' hq=>wpAny_pure (wpAny_pure hq)) fun _ _ e=>e)
 obtain⟨it,fp,tn,J,H2,e,I2,T,st2,f2,hW⟩:=h2
 subst e
 refine comp_coreT (Q:=fun x H1=>gName i x σ H1 D.nx) hc ok ht hg he I2 T st2 f2 hW (compPost (model X.prog X.w) X.A X.xe (some (assign (.Name y py) X.env)) (fun _ s'=>SP X pins D .next s')) fun Dd C H3 s4 I4 hm fC q=>?_
 obtain⟨m,hn⟩:=hm
 show wpAny _ X.A (assign (.Name y py) X.env (.ref Dd)) _ _ _
 refine wpAny_assign_Name (store_ok2 I4 hN hiy hy (v:=.ref Dd) rfl (fun s5 I5 hsb=>?_) hf)
 obtain⟨a,sb,ha⟩:=hsb
 have hCa:C≠a:=by
  rcases ha with rfl | ha
  ·exact fC.2.1
  ·exact(fC.2.2.2.2.1 _ _ ha).symm
 exact⟨m,hn.sameBut sb hCa,fun h' hsb'=>⟨_,H3,I5.turned (t':=s5.toks) (fun b o hb e=>hsb'.extBut b o hb e) fC.1 fC.2.1 fC.2.2.2.1 fC.2.2.2.2.1 fC.2.2.2.2.2,q⟩⟩
end
end L2
set_option Elab.async false
set_option linter.all false
set_option maxRecDepth 100000
set_option maxHeartbeats 4000000
namespace L2
open PySem PySem.Spec PyProof.Rows
structure BInit(K:PySem.W.Frag)(mg:Str→Option Value)(x:Str)(CB f:Addr):Prop where
 bound:mg x=some (.ref CB)
 sp:PySem.W.specialIn K (.ref CB) "__getattribute__"=some (some (.builtin "type.__getattribute__"))
 rd:PySem.W.readsIn K CB (.type "type")=true
 fc:PySem.W.findCls K (.ref CB) (.type "type") "__init__"=some (.val (.ref f))
 kp:PySem.W.keepIn K (.ref f)=true
structure CalB(P:Program)(w:World)(K:PySem.W.Frag)(mg:Str→Option Value)(base:Heap)(k:Nat)(x:Str)(ps:List Str)(sp:Sp):Prop where
 ex:∃(f CB:Addr) (fd:FuncData),FnOk P w K mg base CX0 k f fd ps sp∧Binds K fd ps []∧BInit K mg x CB f
section
variable{X:Cx}
theorem pe_binit{x:Str}{k:Nat}{ps:List Str}{sp:Sp}{e:Expr}{es:List Expr}{t:TA}{p apos pos:Pos}{pl:Sem Bool}(O:CalB X.prog X.w X.K X.mg X.base k x ps sp)(hr:Room k X.A)(hg:Gl X x)(ha:PA X (e::es) t)
 (hdb:(x==("__debug__":Str))=false:=by decide)(hst:starEach (e::es) X.env=(false,eval e X.env)::starEach es X.env:=by rfl)(hpl:(backTo pos (starEach es X.env)).any (·.1)=false:=by rfl)
 (ht:eval (.Call (.Attribute (.Name x p) "__init__" apos) (e::es) [] pos) X.env=(do
  let ov ←eval (.Name x p) X.env
  standAt apos.atName
  let (f,first) ←holding [ov] (getMethod ov "__init__" pl)
  callWith pos f first (backTo pos (starEach (e::es) X.env)) (backToKw pos (keywordEach [] X.env))):=by rfl):
 PE X (.Call (.Attribute (.Name x p) "__init__" apos) (e::es) [] pos) (tCall sp [] E0 t):=by
 intro pins s σ H Q I h
 obtain⟨f,CB,fd,F,hb,N⟩:=O.ex
 refine PySem.W.methodCall_KW (pl:=pl) (ld_glob I hg N.bound ?_ hdb) ht
 refine PySem.W.method_cls I.kIn N.sp (PySem.W.cls_value I.kIn N.rd N.fc rfl ?_)
 have I1:Inv X pins σ H { s with toks:=s.toks+1 }:=I.tok _
 refine PySem.W.callWith_K (first:=[]) (h₀:=X.base) I.ok.mod.kin N.kp (thn (ha pos pins _ σ H _ I1 h) fun us s2 ⟨vs,H2,I2,r,q2⟩=>⟨I2.kIn,?_⟩) hst hpl
 exact run_fn (us:=us) (vs:=vs) F hr hb .nil pass0 I2 r q2
end
end L2
set_option Elab.async false
set_option linter.all false
set_option maxRecDepth 100000
set_option maxHeartbeats 4000000
namespace L2
open PySem PySem.Spec PyProof.Rows
def lexB(op:Int→Int→Bool)(z:Bool):List Int→List Int→Bool
 | x::xs,y::ys=>if x=y then lexB op z xs ys else op x y
 | _,_=>z
inductive Prs:List (Value×Value)→List Int→List Int→Prop
 | nil:Prs [] [] []
 | cons {zs:List (Value×Value)} {x y:Int} {t u:Tok} {xs ys:List Int}:Prs zs xs ys→Prs ((.int x t,.int y u)::zs) (x::xs) (y::ys)
abbrev TupAt(h:Heap)(l:Addr)(its:Array Value)(n:Nat)(dd:Option Addr)(sl:Array (Option Value)):Prop:=h.get? l=some ⟨.type "tuple",dd,.seq its n,sl⟩
theorem int_le{prog:Program}{w:World}{A:Around}{E:Value→Shared→Prop}{s:Shared}{Q:Value→Shared→Prop}{a b:Int}{t u:Tok}(h:Q (.bool ((fun i j=>decide (i≤j)) a b)) s):wpAny (model prog w) A (richCompare .LtE (.int a t) (.int b u)) Q E s:=PySem.P.le_int (by simpa using h)
theorem lex_le_meets{l b:Addr}{its jts:Array Value}{n m:Nat}{dd de:Option Addr}{sl sm:Array (Option Value)}{xs ys:List Int}(z:Prs (its.toList.zip jts.toList) xs ys)(hsz:its.size=jts.size):
 Meets (Builtin.«tuple.__le__» ⟨[.ref l,.ref b],[]⟩) (fun _ R s=>TupAt s.heap l its n dd sl∧TupAt s.heap b jts m de sm∧R (.ok (.ret (.bool (lexB (fun i j=>decide (i≤j)) true xs ys)))) s):=by
 refine .of_wp fun P W A0 R0 s0 h0=>?_
 obtain⟨H0,G0,D0,T0,O0⟩:=s0
 obtain⟨el,eb,r0⟩:=h0
 have sub:=AutoSeq1.sub_tuple_tuple
 wp_walk using wpAny_loadPart' el,wpAny_loadPart' eb,wpAny_forIn_list _ (fun zs st s1=>st.1=none∧s1=⟨H0,G0,D0,T0,O0⟩∧∃us vs,Prs zs us vs∧R0 (.ok (.ret (.bool (lexB (fun i j=>decide (i≤j)) true us vs)))) ⟨H0,G0,D0,T0,O0⟩) _
 case turn=>
  rintro⟨p,q⟩ zs st s1 ⟨-,rfl,us,vs,pr,r1⟩
  cases pr with
  | @cons zs x y t u us vs pr=>
   refine wpAny_bind (SeqAt.EqAt.int_int x t y u P W _ _ ?_)
   by_cases c:x=y
   ·subst c
    rw[lexB,if_pos rfl] at r1
    rw[beq_self_eq_true]
    wp_walk
    exact⟨rfl,rfl,us,vs,pr,r1⟩
   ·rw[lexB,if_neg c] at r1
    rw[beq_eq_false_iff_ne.mpr c]
    wp_walk using int_le
    exact⟨_,rfl,r1⟩
 case fin=>
  rintro⟨o,un⟩ s1 ⟨e,rfl,us,vs,pr,r1⟩
  cases pr
  cases e
  wp_walk
  refine⟨_,rfl,?_⟩
  simpa [Builtin.Tuple.tupleCompareSizes,hsz,lexB] using r1
 case h=>exact⟨rfl,rfl,xs,ys,z,r0⟩
theorem rc_leT{prog:Program}{w:World}{A:Around}{E:Value→Shared→Prop}{s:Shared}{Q:Value→Shared→Prop}{l b:Addr}{its jts:Array Value}{xs ys:List Int}(hl:s.heap.IsTuple l its)(hb:s.heap.IsTuple b jts)(hu:A.units<cLine)
 (z:Prs (its.toList.zip jts.toList) xs ys)(hsz:its.size=jts.size)(h:Q (.bool (lexB (fun i j=>decide (i≤j)) true xs ys)) s):wpAny (model prog w) A (richCompare .LtE (.ref l) (.ref b)) Q E s:=by
 obtain⟨o1,g1,k1,n1,e1⟩:=hl
 obtain⟨o2,g2,k2,n2,e2⟩:=hb
 obtain⟨q1,d1,f1,w1⟩:=o1
 obtain⟨q2,d2,f2,w2⟩:=o2
 cases k1
 cases k2
 cases e1
 cases e2
 refine richCompare_meets_room (op:=.LtE) ⟨_,g1,rfl⟩ ⟨_,g2,rfl⟩ F.slot_tuple_le F.entry_tuple_le (F.args_tuple_le_2 _ _) (lex_le_meets (n:=n1) (m:=n2) (dd:=d1) (de:=d2) (sl:=w1) (sm:=w2) z hsz) ?_ hu
 exact⟨g1,g2,(fun x=>nomatch x),h⟩
def rLexT(K:PySem.W.Frag)(op:Int→Int→Bool)(z:Bool):R2:=fun x y H Q=>∃(a b:Addr) (xs ys:List Int),x=.ref a∧y=.ref b∧SqT K H a (xs.map V.int)∧SqT K H b (ys.map V.int)∧xs.length=ys.length∧Q (.bl (lexB op z xs ys)) H
theorem prs_of:∀{xs ys:List Int} {us vs:List Value},Vals (xs.map V.int) us→Vals (ys.map V.int) vs→xs.length=ys.length→Prs (us.zip vs) xs ys
 | [],[],_,_,.nil,.nil,_=>.nil
 | x::xs,y::ys,_,_,.cons r rs,.cons q qs,h=>by
  obtain⟨t,rfl⟩:=r
  obtain⟨u,rfl⟩:=q
  exact .cons (prs_of rs qs (Nat.succ.inj h))
section
variable{X:Cx}
theorem op_leX(hu:X.A.units<cLine):OpR X (compareOp .LtE) (rLexT X.K (fun i j=>decide (i≤j)) true):=by
 intro pins s σ H x y v u Q I rx ry h
 obtain⟨a,b,xs,ys,rfl,rfl,ha,hb,hl,q⟩:=h
 cases rx
 cases ry
 obtain⟨its,r,pl,_⟩:=I.tuple ha
 obtain⟨its',r',pl',_⟩:=I.tuple hb
 have l1:=r.length
 have l2:=r'.length
 rw[List.length_map] at l1 l2
 exact rc_leT pl pl' hu (by simpa using prs_of r r' hl) (by simp;omega) ⟨.bl _,H,I,rfl,q⟩
end
section
variable{X:Cx}
end
end L2
set_option Elab.async false
set_option linter.all false
set_option maxRecDepth 100000
set_option maxHeartbeats 4000000
namespace L2
open PySem PySem.Spec PyProof.Rows PySem.Builtin PySem.Builtin.Str
def cps(z:Str):List Nat:=z.cps.toList
section
variable{X:Cx}
theorem strsAre_of:∀{zs:List Str} {us:List Value},Vals (zs.map V.str) us→StrsAre us zs
 | [],_,.nil=>.nil
 | z::zs,_,.cons r rs=>by
  obtain⟨t,rfl⟩:=(show ∃t,_=Value.str z t from r)
  exact .cons z t (strsAre_of rs)
def rJoin(K:PySem.W.Frag):V→List V→Hp→VK→Prop:=fun x xs H Q=>∃z l zs,x=.str z∧xs=[.ref l]∧SqL K H l (zs.map V.str)∧(zs.map (·.length)).sum+zs.length*z.length≤16777216∧Q (.str (Txt.join z zs)) H
theorem mt_join:MtR X "str.join" (rJoin X.K):=by
 intro pins s σ H x xs v us Q I rx rs h
 obtain⟨z,l,zs,rfl,rfl,hl,hz,q⟩:=h
 obtain⟨t,rfl⟩:=(show ∃t,v=Value.str z t from rx)
 obtain⟨u,rfl,ru⟩:=vals1 rs
 obtain rfl:u=Value.ref l:=ru
 obtain⟨its,r,pl,_⟩:=I.list hl
 exact join_list pl.isList (by simpa using strsAre_of r) hz fun t' k=>⟨.str _,H,I.tok _,⟨_,rfl⟩,q⟩
end
end L2
set_option Elab.async false
set_option linter.all false
set_option maxRecDepth 100000
set_option maxHeartbeats 4000000
namespace L2
open PySem PySem.Spec PyProof.Rows
section
variable{s:Shared}{A:Around}{w:World}{prog:Program}
end
section
variable{X:Cx}
end
end L2
set_option Elab.async false
set_option linter.all false
set_option maxRecDepth 100000
set_option maxHeartbeats 4000000
namespace L2
open PySem PySem.Spec PyProof.Rows
section
variable{X:Cx}
end
end L2
set_option Elab.async false
set_option linter.all false
set_option maxRecDepth 100000
set_option maxHeartbeats 4000000
namespace L2
open PySem PySem.Spec PyProof.Rows
section
variable{M:Model}{A:Around}{E:Value→Shared→Prop}{s:Shared}{base:Heap}{env:Env}{outer l:List Env}{L e:Addr}{cls:Value}{dd:Option Addr}{fl:Value}
end
section
variable{X:Cx}{pins:List (Addr×Obj)}{σ:St}{H H':Hp}{s:Shared}{C ea:Addr}{cls:Value}{dx:Option Addr}{B h1 h2 h3:Heap}{fl:Value}
end
section
variable{X:Cx}{pins:List (Addr×Obj)}{σ:St}{H2:Hp}{s2:Shared}{M:List Str}{x:Str}{scope:Scope}{cl:List (Str×Addr)}{C:Addr}{fp:List Addr}{E:XK}{Qe:Value→Shared→Prop}{acc:Value}
end
section
variable{X:Cx}
end
end L2
set_option Elab.async false
set_option linter.all false
set_option maxRecDepth 100000
set_option maxHeartbeats 4000000
namespace L2
open PySem PySem.Spec PyProof.Rows Builtin.Str
section
variable{X:Cx}
end
end L2
set_option Elab.async false
set_option linter.all false
set_option maxRecDepth 100000
set_option maxHeartbeats 4000000
namespace L2
open PySem PySem.Spec PyProof.Rows
section
variable{prog:Program}{w:World}{A:Around}{R:Result→Shared→Prop}{I:Addr}{fp wr:List Addr}{n:Nat}{P:Nat→Value→Prop}{St:Nat→Heap→Prop}
end
section
variable{prog:Program}{w:World}{A:Around}{E:Value→Shared→Prop}{s:Shared}
end
section
variable{X:Cx}
end
end L2
set_option Elab.async false
set_option linter.all false
namespace L2
open PySem
@[elab_as_elim] theorem fresh{P:Hp→Prop}{H:Hp}{l:Addr}{o:HO}(h:H l=none)(q:∀H',Same H H'→H' l=some o→P H'):P (upd H l o):=q _ (same_new h o) upd_same
example {Q:V→Hp→Prop} {H:Hp} (q:∀l H',Same H H'→H' l=some (.lst [.int 1])→Q (.ref l) H'):∀l,H l=none→Q (.ref l) (upd H l (.lst [.int 1])):=fun l hl=>by
 refine fresh hl fun H1 s1 t1=>?_
 exact q l H1 s1 t1
end L2
set_option Elab.async false
set_option linter.all false
set_option maxRecDepth 100000
set_option maxHeartbeats 4000000
namespace L2
open PySem PySem.Spec PyProof.Rows
section
variable{X:Cx}
end
section
variable{X:Cx}{M:List Str}{x:Str}{scope:Scope}{cl:List (Str×Addr)}{C:Addr}{s₀:Shared}{H₀:Hp}{fp:List Addr}
end
end L2
set_option Elab.async false
set_option linter.all false
set_option maxRecDepth 100000
set_option maxHeartbeats 4000000
namespace L2
open PySem PySem.Spec PyProof.Rows
def FnG(K:PySem.W.Frag)(g n q:Str)(st:Stmt):Prop:=∃f fd,PySem.W.nsIn K mainGlobals g=some (some (.ref f))∧Fun K n q st f fd
def FnM(K:PySem.W.Frag)(C:Addr)(x n q:Str)(st:Stmt):Prop:=∃f fd,PySem.W.findIn K (.ref C) x=some (some (.ref f))∧Fun K n q st f fd∧PySem.W.typeIn K (.ref f)=some (.type "function")
def BindsA(n q:Str)(st:Stmt)(ps:List Str):Prop:=∀(kV doc pm:Value) (an:Option Addr) (cdv ct:Value) (us:List Value),us.length=ps.length→bindArgs (PySem.W.fnOf n q (defArgs st) (defBody st) (defScope st) .none kV doc pm an cdv ct) ⟨us,[]⟩=pure (ps.zip us)
theorem fnG_mk{K:PySem.W.Frag}{g n q:Str}{st:Stmt}{f:Addr}{oc:Value}{od an:Option Addr}{osl:Array (Option Value)}{kV doc pm cdv ct:Value}(a:PySem.W.nsIn K mainGlobals g=some (some (.ref f)))(l:K.lookup f=some ⟨oc,od,.func (PySem.W.fnOf n q (defArgs st) (defBody st) (defScope st) .none kV doc pm an cdv ct),osl⟩)
 (c:PySem.W.codeIn K cdv q=true)(k:PySem.W.keepIn K (.ref f)=true):FnG K g n q st:=⟨f,_,a,fun_mk l c k⟩
theorem fnM_mk{K:PySem.W.Frag}{C:Addr}{x n q:Str}{st:Stmt}{f:Addr}{oc:Value}{od an:Option Addr}{osl:Array (Option Value)}{kV doc pm cdv ct:Value}(a:PySem.W.findIn K (.ref C) x=some (some (.ref f)))(l:K.lookup f=some ⟨oc,od,.func (PySem.W.fnOf n q (defArgs st) (defBody st) (defScope st) .none kV doc pm an cdv ct),osl⟩)
 (c:PySem.W.codeIn K cdv q=true)(k:PySem.W.keepIn K (.ref f)=true)(u:PySem.W.typeIn K (.ref f)=some (.type "function")):FnM K C x n q st:=⟨f,_,a,fun_mk l c k,u⟩
section
variable{P:Program}{w:World}{K:PySem.W.Frag}{h:Heap}{mg:Str→Option Value}{base:Heap}{g n q:Str}{st:Stmt}{ps:List Str}{k:Nat}{sp:Sp}
theorem cal_of(X:K.In h)(G:h.Ns mainGlobals mg)(Q:FnG K g n q st)(b:BindsA n q st ps)(ok:∀{f:Addr} {fd:FuncData},Fun K n q st f fd→FnOk P w K mg base CX0 k f fd ps sp):Cal P w K mg base k g ps sp:=by
 obtain⟨f,fd,a,F⟩:=Q
 exact⟨⟨f,fd,ok F,F.binds b,F.kp,PySem.W.mg_of X G a⟩⟩
theorem calE_of(X:K.In h)(G:h.Ns mainGlobals mg)(Q:FnG K g n q st)(b:BindsA n q st ps)(ok:∀{f:Addr} {fd:FuncData},Fun K n q st f fd→FnOk P w K mg base (CX1 P w) k f fd ps sp):CalE P w K mg base k g ps sp:=by
 obtain⟨f,fd,a,F⟩:=Q
 exact⟨⟨f,fd,ok F,F.binds b,F.kp,PySem.W.mg_of X G a⟩⟩
theorem calM_of{CX:CXT}{C:Addr}(Q:FnM K C g n q st)(b:BindsA n q st ps)(ok:∀{f:Addr} {fd:FuncData},Fun K n q st f fd→FnOk P w K mg base CX k f fd ps sp):CalM P w K mg base CX k C g ps sp:=by
 obtain⟨f,fd,a,F,u⟩:=Q
 exact⟨⟨f,fd,ok F,F.binds b,⟨a,beq_iff_eq.mpr u,F.kp⟩⟩⟩
theorem calI_of{CX:CXT}{x:Str}{C:Addr}(X:K.In h)(G:h.Ns mainGlobals mg)(mk:PySem.W.makesIn K C=true)(kp:PySem.W.keepIn K (.ref C)=true)(nC:PySem.W.nsIn K mainGlobals x=some (some (.ref C)))(Q:FnM K C "__init__" n q st)(b:BindsA n q st ps)(ok:∀{f:Addr} {fd:FuncData},Fun K n q st f fd→FnOk P w K mg base CX k f fd ps sp):CalI P w K mg base CX k x C ps sp:=by
 obtain⟨f,fd,a,F,u⟩:=Q
 exact⟨⟨f,fd,ok F,F.binds b,⟨mk,a,beq_iff_eq.mpr u,kp⟩,PySem.W.mg_of X G nC⟩⟩
end
end L2
set_option Elab.async false
set_option linter.all false
set_option maxRecDepth 100000
set_option maxHeartbeats 4000000
local macro_rules | `(tactic| walk_at "rd1")=> `(tactic| first
 | with_reducible refine L2.rd_seq ?_ | with_reducible refine L2.rd_ret ?_ | with_reducible refine L2.rd_asg ?_ | with_reducible refine L2.rd_ifS ?_ | with_reducible refine L2.rd_next ?_ | with_reducible refine L2.rd_drop ?_
 | with_reducible refine L2.rd_op ?_ | ((with_reducible refine' L2.rd_var ?ev ?_);(case ev=>exact rfl)) | with_reducible refine L2.rd_c ?_ | with_reducible refine L2.rd_un ?_ | with_reducible refine L2.rd_test ?_ | with_reducible refine L2.rd_b ?_
 | with_reducible refine L2.rd_i0 ?_ | with_reducible refine L2.rd_u ?_ | ((with_reducible refine' L2.rd_eq ?es ?_);(case es=>exact rfl)) | ((with_reducible refine' L2.rd_ne ?es ?_);(case es=>exact rfl))
 | with_reducible refine L2.rd_bl ?_ | with_reducible refine L2.rd_not ?_ | with_reducible refine L2.rd_and ?_ | with_reducible refine L2.rd_or ?_ | with_reducible refine L2.rd_andV ?_ | with_reducible refine L2.rd_orV ?_ | with_reducible refine L2.rd_notV ?_ | with_reducible refine L2.rd_chain ?_
 | with_reducible refine L2.rd_call ?_ | with_reducible refine L2.rd_cb ?_ | with_reducible refine L2.rd_nil ?_ | with_reducible refine L2.rd_cons ?_ | with_reducible refine L2.rd_tup ?_ | with_reducible refine L2.rd_lst ?_
 | with_reducible refine L2.rd_bm0 ?_ | with_reducible refine L2.rd_makeD ?_ | with_reducible refine L2.rd_fld ?_ | with_reducible refine L2.rd_sfld ?_ | with_reducible refine L2.rd_meth ?_ | with_reducible refine L2.rd_methL ?_ | with_reducible refine L2.rd_lr ?_ | with_reducible refine L2.rd_lra ?_ | with_reducible refine L2.rd_slice ?_ | with_reducible refine L2.rd_part ?_ | with_reducible refine L2.rd_exI ?_ | with_reducible refine L2.rd_noPart ?_ | with_reducible refine L2.rd_tru ?_ | with_reducible refine L2.rd_truI ?_ | with_reducible refine L2.rd_gsub ?_ | with_reducible refine L2.rd_bitsV ?_
 | with_reducible refine L2.rd_par ?_ | with_reducible refine L2.rd_gname ?_ | with_reducible refine L2.rd_gcons ?_ | with_reducible refine L2.rd_gnil ?_
 | ((with_reducible refine' L2.rd_i ?ec ?_);(case ec=>first | ((with_reducible show L2.CPow _ _);exact⟨by decide,by decide,by decide⟩) | ((with_reducible show L2.CDivB _ _);exact L2.cdiv_small (by decide) (by decide)) | (show (0:Int)<_;first | decide | omega | exact L2.pow2_pos _))))
local macro_rules | `(tactic| walk_at "rd")=> `(tactic| repeat walk_at "rd1")
local macro_rules | `(tactic| walk_at "fm")=> `(tactic| (repeat (first | exact List.forall_mem_nil _ | refine List.forall_mem_cons.mpr ⟨by with_unfolding_all rfl,?_⟩)))
local macro_rules | `(tactic| walk_at "rdi")=> `(tactic| ((with_reducible refine' L2.rd_ixT ?hs1 ?he1 ?_);(case hs1=>first | assumption | exact L2.SqT.of (by assumption));(case he1=>exact rfl)))
local macro_rules | `(tactic| walk_at "rdf")=> `(tactic| ((with_reducible refine L2.rd_for ?_);(first | with_reducible refine L2.rd_iL ?_ | with_reducible refine L2.rd_iT ?_ | with_reducible refine L2.rd_rng1 ?_ | with_reducible refine L2.rd_rng2 ?_ | with_reducible refine L2.rd_rng3 ?_ | with_reducible refine L2.rd_rng2A ?_)))
local macro_rules | `(tactic| walk_at "rdx")=> `(tactic| (repeat (first | walk_at "rd1" | with_reducible refine L2.rd_callE ?_ | with_reducible refine L2.rd_makeE ?_ | with_reducible refine L2.rd_methE ?_ | with_reducible refine L2.rd_methLE ?_ | with_reducible refine L2.rd_raise ?_ | with_reducible refine L2.rd_try ?_ | with_reducible refine L2.rd_xinit ?_ | with_reducible refine L2.rd_xf1 ?_ | with_reducible refine L2.rd_xf2 ?_ | with_reducible refine L2.rd_join ?_ | with_reducible refine L2.rd_xget ?_ | with_reducible refine L2.rd_ifE ?_)))
local macro_rules | `(tactic| walk_at "b0")=> `(tactic| (intro _ _ _ _ _ _ us hl;have h:us=[]:=List.length_eq_zero_iff.mp hl;subst h;rfl))
local macro_rules | `(tactic| walk_at "b1")=> `(tactic| (intro _ _ _ _ _ _ us hl;obtain⟨_,h⟩:=L2.len1 hl;subst h;rfl))
local macro_rules | `(tactic| walk_at "b2")=> `(tactic| (intro _ _ _ _ _ _ us hl;obtain⟨_,_,h⟩:=L2.len2 hl;subst h;rfl))
local macro_rules | `(tactic| walk_at "b3")=> `(tactic| (intro _ _ _ _ _ _ us hl;obtain⟨_,_,_,h⟩:=L2.len3 hl;subst h;rfl))
local macro_rules | `(tactic| walk_at "b4")=> `(tactic| (intro _ _ _ _ _ _ us hl;obtain⟨_,_,_,_,h⟩:=L2.len4 hl;subst h;rfl))
local macro_rules | `(tactic| walk_at "b5")=> `(tactic| (intro _ _ _ _ _ _ us hl;obtain⟨_,_,_,_,_,h⟩:=L2.len5 hl;subst h;rfl))
local macro_rules | `(tactic| walk_at "b6")=> `(tactic| (intro _ _ _ _ _ _ us hl;obtain⟨_,_,_,_,_,_,h⟩:=L2.len6 hl;subst h;rfl))
local macro_rules | `(tactic| walk_at "b7")=> `(tactic| (intro _ _ _ _ _ _ us hl;obtain⟨_,_,_,_,_,_,_,h⟩:=L2.len7 hl;subst h;rfl))
local macro_rules | `(tactic| walk_at "b8")=> `(tactic| (intro _ _ _ _ _ _ us hl;obtain⟨_,_,_,_,_,_,_,_,h⟩:=L2.len8 hl;subst h;rfl))
namespace Fw
theorem fmod_small(r d:Int)(hd:d≠0):0≤r.fmod d*d∧(r.fmod d).natAbs<d.natAbs:=by
 rcases(by omega:0<d∨d<0) with h | h
 ·have a:=Int.fmod_nonneg_of_pos r h
  have b:=Int.fmod_lt_of_pos r h
  exact⟨Int.mul_nonneg a (Int.le_of_lt h),by omega⟩
 ·have e:r.fmod d= -((-r).fmod (-d)):=by
   rw[Int.fmod_def,Int.fmod_def,Int.neg_fdiv_neg,Int.neg_mul];omega
  have a:=Int.fmod_nonneg_of_pos (-r) (b:= -d) (by omega)
  have b:=Int.fmod_lt_of_pos (-r) (b:= -d) (by omega)
  rw[e]
  generalize (-r).fmod (-d)=z at*
  refine⟨?_,by omega⟩
  have:=Int.mul_nonneg a (show 0≤ -d by omega)
  rw[Int.neg_mul];rw[Int.mul_neg] at this;omega
structure EqI(a b u v r u' v' r':Int):Prop where
 e1:u*a+v*b=r
 e2:u'*a+v'*b=r'
 g:Int.gcd r r'=Int.gcd a b
 ph:(u=1∧v=0∧r=a∧u'=0∧v'=1∧r'=b)∨
  (b≠0∧r≠0∧0≤r'*r∧r.natAbs≤b.natAbs∧r'.natAbs≤b.natAbs∧u'.natAbs*r.natAbs+u.natAbs*r'.natAbs≤b.natAbs∧u.natAbs≤b.natAbs+1)
theorem EqI.start(a b:Int):EqI a b 1 0 a 0 1 b:=⟨by omega,by omega,rfl,.inl ⟨rfl,rfl,rfl,rfl,rfl,rfl⟩⟩
theorem natAbs_sub_mul(u q x:Int):(u-q*x).natAbs≤u.natAbs+q.natAbs*x.natAbs:=by
 have h:=Int.natAbs_sub_le u (q*x)
 rw[Int.natAbs_mul] at h
 exact h
theorem same_sign_quot{r d:Int}(hd:d≠0)(hs:0≤d*r):(r-r.fdiv d*d).natAbs+(r.fdiv d).natAbs*d.natAbs=r.natAbs:=by
 have e:r.fmod d+r.fdiv d*d=r:=Int.fmod_add_fdiv_mul r d
 have e2:r-r.fdiv d*d=r.fmod d:=by omega
 rw[e2,←Int.natAbs_mul]
 have fs:=fmod_small r d hd
 rcases(by omega:0<d∨d<0) with h | h
 ·have r0:0≤r:=by
   rcases(by omega:0≤r∨r<0) with z | z
   ·exact z
   ·have:=Int.mul_neg_of_pos_of_neg h z;omega
  have q0:0≤r.fdiv d:=Int.fdiv_nonneg r0 (Int.le_of_lt h)
  have a:=Int.fmod_nonneg_of_pos r h
  have p:=Int.mul_nonneg q0 (Int.le_of_lt h)
  omega
 ·have r0:r≤0:=by
   rcases(by omega:r≤0∨0<r) with z | z
   ·exact z
   ·have:=Int.mul_neg_of_neg_of_pos h z;omega
  have q0:0≤r.fdiv d:=Int.fdiv_nonneg_of_nonpos_of_nonpos r0 (Int.le_of_lt h)
  have a:r.fmod d≤0:=by
   rcases(by omega:r.fmod d≤0∨0<r.fmod d) with z | z
   ·exact z
   ·have:=Int.mul_neg_of_pos_of_neg z h;omega
  have p:=Int.mul_nonneg q0 (show 0≤ -d by omega)
  rw[Int.mul_neg] at p
  omega
theorem EqI.step{a b u v r u' v' r':Int}(I:EqI a b u v r u' v' r')(h:r'≠0):
 EqI a b u' v' r' (u-r.fdiv r'*u') (v-r.fdiv r'*v') (r-r.fdiv r'*r')∧(r-r.fdiv r'*r').natAbs<r'.natAbs:=by
 have e:r.fmod r'+r.fdiv r'*r'=r:=Int.fmod_add_fdiv_mul r r'
 have e2:r-r.fdiv r'*r'=r.fmod r':=by omega
 have fs:=fmod_small r r' h
 refine⟨⟨I.e2,?_,?_,?_⟩,by rw[e2];exact fs.2⟩
 ·have:=I.e1
  have:=I.e2
  grind
 ·rw[Int.gcd_sub_mul_right_right,Int.gcd_comm]
  exact I.g
 ·right
  rcases I.ph with ⟨h1,h2,h3,h4,h5,h6⟩ | ⟨hb,hr,hs,l1,l2,l3,l4⟩
  ·subst h1 h2 h3 h4 h5 h6
   refine⟨h,h,by rw[e2];exact fs.1,Nat.le_refl _,by rw[e2];omega,?_,by simp⟩
   simp
  ·have q:=same_sign_quot h hs
   refine⟨hb,h,by rw[e2];exact fs.1,l2,by rw[e2];omega,?_,?_⟩
   ·have m:=natAbs_sub_mul u (r.fdiv r') u'
    generalize (r-r.fdiv r'*r').natAbs=A at*
    generalize (u-r.fdiv r'*u').natAbs=B at*
    generalize (r.fdiv r').natAbs=C at*
    have k1:B*r'.natAbs≤(u.natAbs+C*u'.natAbs)*r'.natAbs:=Nat.mul_le_mul_right _ m
    have k2:(u.natAbs+C*u'.natAbs)*r'.natAbs+u'.natAbs*A=u.natAbs*r'.natAbs+u'.natAbs*(A+C*r'.natAbs):=by grind
    rw[q] at k2
    omega
   ·have:u'.natAbs*1≤u'.natAbs*r.natAbs:=Nat.mul_le_mul_left _ (by omega)
    omega
theorem v_bound{a b u v r:Int}(hb:b≠0)(e:u*a+v*b=r)(l1:r.natAbs≤b.natAbs)(l4:u.natAbs≤b.natAbs+1):v.natAbs≤1+2*a.natAbs:=by
 have e1:v*b=r-u*a:=by omega
 have h:=natAbs_sub_mul r u a
 rw[←e1,Int.natAbs_mul] at h
 have hb':0<b.natAbs:=by omega
 have k:u.natAbs*a.natAbs≤(b.natAbs+1)*a.natAbs:=Nat.mul_le_mul_right _ l4
 have k2:a.natAbs*1≤a.natAbs*b.natAbs:=Nat.mul_le_mul_left _ hb'
 have k3:v.natAbs*b.natAbs≤(1+2*a.natAbs)*b.natAbs:=by grind
 exact Nat.le_of_mul_le_mul_right k3 hb'
theorem EqI.bounds{a b u v r u' v' r':Int}(I:EqI a b u v r u' v' r'):
 u.natAbs≤b.natAbs+1∧v.natAbs≤1+2*a.natAbs∧u'.natAbs≤b.natAbs+1∧v'.natAbs≤1+2*a.natAbs∧r.natAbs≤a.natAbs+b.natAbs∧r'.natAbs≤b.natAbs:=by
 rcases I.ph with ⟨h1,h2,h3,h4,h5,h6⟩ | ⟨hb,hr,hs,l1,l2,l3,l4⟩
 ·subst h1 h2 h3 h4 h5 h6
  refine⟨by simp,by simp,by simp,by simp,by omega,by omega⟩
 ·have:u'.natAbs*1≤u'.natAbs*r.natAbs:=Nat.mul_le_mul_left _ (by omega)
  have lu:u'.natAbs≤b.natAbs+1:=by omega
  exact⟨l4,v_bound hb I.e1 l1 l4,lu,v_bound hb I.e2 l2 lu,by omega,l2⟩
theorem quot_bound{r d:Int}(hd:d≠0):(r.fdiv d).natAbs≤r.natAbs+1:=by
 have e:r.fmod d+r.fdiv d*d=r:=Int.fmod_add_fdiv_mul r d
 have fs:=(fmod_small r d hd).2
 have h:(r.fdiv d*d).natAbs≤r.natAbs+(r.fmod d).natAbs:=by omega
 rw[Int.natAbs_mul] at h
 have d1:1≤d.natAbs:=by omega
 generalize (r.fdiv d).natAbs=x at*
 generalize d.natAbs=y at*
 generalize r.natAbs=z at*
 rcases(by omega:x≤1∨2≤x) with c | c
 ·omega
 ·obtain⟨k,rfl⟩:∃k,x=k+1:=⟨x-1,by omega⟩
  have:(k+1)*y=k*y+y:=Nat.succ_mul k y
  have:k*1≤k*y:=Nat.mul_le_mul_left k d1
  omega
structure Eqn(a b u v g:Int):Prop where
 eq:u*a+v*b=g
 gd:g=(Int.gcd a b:Int)
 bu:u.natAbs≤b.natAbs+1
 bv:v.natAbs≤1+2*a.natAbs
theorem EqI.done{a b u v r u' v':Int}(I:EqI a b u v r u' v' 0):(r<0→Eqn a b (-u) (-v) (-r))∧(¬r<0→Eqn a b u v r):=by
 have g:=I.g
 rw[Int.gcd_zero_right] at g
 have B:=I.bounds
 refine⟨fun h=>⟨?_,by omega,by omega,by omega⟩,fun h=>⟨I.e1,by omega,B.1,B.2.1⟩⟩
 have:=I.e1
 rw[Int.neg_mul,Int.neg_mul];omega
end Fw
namespace Fw
theorem gcd_pos{a b:Int}(ha:0<a):0<(Int.gcd a b:Int):=by
 have:Int.gcd a b≠0:=fun z=>by
  have:=Int.eq_zero_of_gcd_eq_zero_left z
  omega
 omega
theorem gcd_le{a b:Int}(ha:0<a):(Int.gcd a b:Int)≤a:=Int.le_of_dvd ha (Int.gcd_dvd_left ..)
def lcmI(a b:Int):Int:=a/(Int.gcd a b:Int)*b
theorem lcmI_facts{a b:Int}(ha:0<a)(hb:0<b):
 0<lcmI a b∧a∣lcmI a b∧b∣lcmI a b∧lcmI a b*(Int.gcd a b:Int)=a*b∧(∀t,a∣t→b∣t→lcmI a b∣t)∧lcmI a b=(Int.lcm a b:Int):=by
 have gp:=gcd_pos (b:=b) ha
 obtain⟨x,hx⟩:(Int.gcd a b:Int)∣a:=Int.gcd_dvd_left ..
 obtain⟨y,hy⟩:(Int.gcd a b:Int)∣b:=Int.gcd_dvd_right ..
 have e1:a/(Int.gcd a b:Int)=x:=by
  have gne:(Int.gcd a b:Int)≠0:=by omega
  generalize hg:(Int.gcd a b:Int)=g at*
  rw[hx]
  exact Int.mul_ediv_cancel_left x gne
 have e:lcmI a b=x*b:=by unfold lcmI;rw[e1]
 have pr:lcmI a b*(Int.gcd a b:Int)=a*b:=by rw[e];conv=>rhs;rw[hx]
                                            grind
 have pl:(Int.lcm a b:Int)*(Int.gcd a b:Int)=a*b:=by
  have h:=Int.gcd_mul_lcm a b
  have h2:((Int.gcd a b*Int.lcm a b:Nat):Int)=((a.natAbs*b.natAbs:Nat):Int):=by rw[h]
  rw[Int.natCast_mul,Int.natCast_mul,Int.natAbs_of_nonneg (Int.le_of_lt ha),Int.natAbs_of_nonneg (Int.le_of_lt hb)] at h2
  rw[Int.mul_comm];exact h2
 have el:lcmI a b=(Int.lcm a b:Int):=Int.eq_of_mul_eq_mul_right (by omega:(Int.gcd a b:Int)≠0) (pr.trans pl.symm)
 refine⟨?_,?_,?_,pr,?_,el⟩
 ·have:0<lcmI a b*(Int.gcd a b:Int):=by rw[pr];exact Int.mul_pos ha hb
  exact Int.pos_of_mul_pos_left this gp
 ·rw[el];exact Int.dvd_lcm_left ..
 ·rw[el];exact Int.dvd_lcm_right ..
 ·intro t h1 h2;rw[el];exact Int.coe_lcm_dvd h1 h2
theorem lcmI_comm{a b:Int}(ha:0<a)(hb:0<b):lcmI a b=lcmI b a:=by
 rw[(lcmI_facts ha hb).2.2.2.2.2,(lcmI_facts hb ha).2.2.2.2.2,Int.lcm_comm]
theorem lcmI_le{a b:Int}(ha:0<a)(hb:0<b):lcmI a b≤a*b:=by
 have f:=lcmI_facts ha hb
 have gp:=gcd_pos (b:=b) ha
 have h:lcmI a b*1≤lcmI a b*(Int.gcd a b:Int):=Int.mul_le_mul_of_nonneg_left (by omega) (Int.le_of_lt f.1)
 rw[f.2.2.2.1] at h;omega
end Fw
namespace Fw
def On(n:Int)(b:Nat)(d:Int):Bool:=b.testBit (d%n).toNat
theorem shr_cast(b k:Nat):((b:Nat):Int)/2^k=((b >>> k:Nat):Int):=by
 rw[Nat.shiftRight_eq_div_pow,Int.natCast_ediv,Int.natCast_pow];rfl
theorem shl_cast(b k:Nat):((b:Nat):Int)*2^k=((b <<< k:Nat):Int):=by
 rw[Nat.shiftLeft_eq,Int.natCast_mul,Int.natCast_pow];rfl
theorem full_cast(k:Nat):(1:Int)*2^k-1=((2^k-1:Nat):Int):=by
 have:0<2^k:=Nat.two_pow_pos k
 rw[Int.natCast_sub (by omega),Int.natCast_pow];simp
theorem pow_cast(k:Nat):(1:Int)*2^k=((2^k:Nat):Int):=by
 rw[Int.natCast_pow];simp
theorem high{n b i:Nat}(hb:b<2^n)(h:n≤i):b.testBit i=false:=by
 have p:2^n≤2^i:=Nat.pow_le_pow_right (by decide) h
 exact Nat.testBit_lt_two_pow (by omega)
theorem and_full_lt(c w:Nat):c &&& (2^w-1)<2^w:=by
 rw[Nat.and_two_pow_sub_one_eq_mod];exact Nat.mod_lt _ (Nat.two_pow_pos w)
theorem and_full_bit(c w i:Nat)(h:i<w):(c &&& (2^w-1)).testBit i=c.testBit i:=by
 rw[Nat.testBit_and,Nat.testBit_two_pow_sub_one];simp[h]
def lat(n b s:Nat):Nat:=((b <<< s) ||| (b >>> (n-s))) &&& (2^n-1)
theorem lat_lt(n b s:Nat):lat n b s<2^n:=and_full_lt _ _
structure Strt(n b w c:Nat):Prop where
 lt:c<2^w
 bit:∀i,i<w→c.testBit i=b.testBit (i%n)
theorem Strt.start{n b:Nat}(h:b<2^n):Strt n b n b:=⟨h,fun i hi=>by rw[Nat.mod_eq_of_lt hi]⟩
theorem Strt.dbl{n b w c:Nat}(S:Strt n b w c)(hd:n∣w):Strt n b (w*2) (c ||| (c <<< w)):=by
 have e:2^(w*2)=2^w*2^w:=by rw[Nat.mul_two,Nat.pow_add]
 refine⟨?_,fun i hi=>?_⟩
 ·refine Nat.or_lt_two_pow (Nat.lt_of_lt_of_le S.lt (Nat.pow_le_pow_right (by decide) (by omega))) ?_
  rw[Nat.shiftLeft_eq,e]
  exact Nat.mul_lt_mul_of_pos_right S.lt (Nat.two_pow_pos w)
 ·rw[Nat.testBit_or,Nat.testBit_shiftLeft]
  by_cases h:i<w
  ·rw[S.bit i h];simp[Nat.not_le.mpr h]
  ·rw[high S.lt (by omega),S.bit (i-w) (by omega)]
   obtain⟨k,rfl⟩:=hd
   have e2:i=(i-n*k)+n*k:=by omega
   have e3:i%n=(i-n*k)%n:=by conv=>lhs;rw[e2,Nat.add_mul_mod_self_left]
   rw[e3];simp;intro z;omega
theorem Strt.cut{n b w c z:Nat}(S:Strt n b w c)(h:z≤w):Strt n b z (c &&& (2^z-1)):=
 ⟨and_full_lt _ _,fun i hi=>by rw[and_full_bit _ _ _ hi,S.bit i (by omega)]⟩
end Fw
namespace Fw
def hit(n:Int)(ds:List Int)(d:Int):Bool:=ds.any fun x=>decide ((d-x)%n=0)
structure RB(n:Int)(ds:List Int)(b:Nat):Prop where
 lt:b<2^n.toNat
 bit:∀d,On n b d=hit n ds d
theorem RB.nil(n:Int):RB n [] 0:=⟨Nat.two_pow_pos _,fun d=>by unfold On hit;simp⟩
theorem sub_mod_zero{n d x:Int}(hn:0<n):(d-x)%n=0↔d%n=x%n:=by
 rw[Int.sub_emod]
 have h1:=Int.emod_nonneg d (show n≠0 by omega)
 have h2:=Int.emod_lt_of_pos d hn
 have h3:=Int.emod_nonneg x (show n≠0 by omega)
 have h4:=Int.emod_lt_of_pos x hn
 constructor
 ·intro h
  have:=Int.dvd_of_emod_eq_zero h
  obtain⟨k,hk⟩:=this
  have:k=0:=by
   rcases Int.lt_trichotomy k 0 with z | z | z
   ·have:n*k≤n*(-1):=Int.mul_le_mul_of_nonneg_left (by omega) (by omega)
    omega
   ·exact z
   ·have:n*1≤n*k:=Int.mul_le_mul_of_nonneg_left (by omega) (by omega)
    omega
  subst this
  omega
 ·intro h
  rw[h]
  simp
theorem RB.snoc{n:Int}{ds:List Int}{b:Nat}{x:Int}(hn:0<n)(h:RB n ds b):RB n (ds++[x]) (b ||| 2^(x%n).toNat):=by
 have h3:=Int.emod_nonneg x (show n≠0 by omega)
 have h4:=Int.emod_lt_of_pos x hn
 refine⟨Nat.or_lt_two_pow h.lt (Nat.pow_lt_pow_right (by decide) (by omega)),fun d=>?_⟩
 have h1:=Int.emod_nonneg d (show n≠0 by omega)
 have hb:=h.bit d
 unfold On hit at*
 rw[Nat.testBit_or,hb,List.any_append,Nat.testBit_two_pow]
 congr 1
 rw[List.any_cons,List.any_nil,Bool.or_false,Bool.eq_iff_iff,decide_eq_true_eq,decide_eq_true_eq,sub_mod_zero hn]
 omega
end Fw
namespace Fw
def cnt(b:Nat):Nat→Nat
 | 0=>0
 | k+1=>cnt b k+(if b.testBit k then 1 else 0)
theorem cnt_step(b:Nat):∀k,cnt b (k+1)=b%2+cnt (b/2) k
 | 0=>by
  simp only[cnt,Nat.testBit_zero]
  have:=Nat.mod_two_eq_zero_or_one b
  rcases this with h | h<;>simp[h]
 | k+1=>by
  have ih:=cnt_step b k
  rw[cnt,ih]
  show b%2+cnt (b/2) k+_=b%2+(cnt (b/2) k+_)
  rw[Nat.testBit_succ]
  omega
def CC(n:Int)(b:Nat)(d:Int):Int:=d/n*(cnt b n.toNat:Int)+(cnt b (d%n).toNat:Int)
theorem CC_succ{n:Int}{b:Nat}(hn:0<n)(d:Int):CC n b (d+1)=CC n b d+(if On n b d then 1 else 0):=by
 have h1:=Int.emod_nonneg d (show n≠0 by omega)
 have h2:=Int.emod_lt_of_pos d hn
 have h3:=Int.mul_ediv_add_emod d n
 unfold CC On
 by_cases hl:d%n=n-1
 ·have hd:d+1=n*(d/n+1):=by rw[Int.mul_add,Int.mul_one];omega
  have e1:(d+1)/n=d/n+1:=by rw[hd];exact Int.mul_ediv_cancel_left _ (by omega)
  have e2:(d+1)%n=0:=by rw[hd];exact Int.mul_emod_right _ _
  have e3:n.toNat=(d%n).toNat+1:=by omega
  rw[e1,e2]
  show(d/n+1)*(cnt b n.toNat:Int)+((cnt b 0:Nat):Int)=_
  have e4:(cnt b n.toNat:Int)=(cnt b (d%n).toNat:Int)+(if b.testBit (d%n).toNat then 1 else 0):=by
   rw[e3,cnt]
   split<;>simp
  have e5:((cnt b 0:Nat):Int)=0:=rfl
  rw[Int.add_mul,Int.one_mul,e5]
  omega
 ·have e1:(d+1)/n=d/n:=by
   have:d+1=n*(d/n)+(d%n+1):=by omega
   rw[this,Int.mul_add_ediv_left _ _ (by omega),Int.ediv_eq_zero_of_lt (a:=d%n+1) (b:=n) (by omega) (by omega),Int.add_zero]
  have e2:(d+1)%n=d%n+1:=by
   have:d+1=n*(d/n)+(d%n+1):=by omega
   rw[this,Int.mul_add_emod_self_left]
   exact Int.emod_eq_of_lt (by omega) (by omega)
  rw[e1,e2]
  have e3:(d%n+1).toNat=(d%n).toNat+1:=by omega
  rw[e3,cnt]
  split<;>simp<;>omega
theorem CC_turn{n:Int}{b:Nat}(hn:0<n)(d:Int):CC n b (d+n)=CC n b d+(cnt b n.toNat:Int):=by
 unfold CC
 have e1:(d+n)/n=d/n+1:=by rw[Int.add_ediv_of_dvd_right (Int.dvd_refl n),Int.ediv_self (by omega)]
 have e2:(d+n)%n=d%n:=Int.add_emod_right d n
 rw[e1,e2,Int.add_mul,Int.one_mul]
 omega
theorem CC_mono_nat{n:Int}{b:Nat}(hn:0<n)(d:Int):∀k:Nat,CC n b d≤CC n b (d+(k:Int))
 | 0=>by simp
 | k+1=>by
  have ih:=CC_mono_nat (b:=b) hn d k
  have e:=CC_succ (b:=b) hn (d+(k:Int))
  have:d+((k+1:Nat):Int)=d+(k:Int)+1:=by omega
  rw[this,e]
  split<;>omega
theorem CC_mono{n:Int}{b:Nat}(hn:0<n){d e:Int}(h:d≤e):CC n b d≤CC n b e:=by
 have:=CC_mono_nat (b:=b) hn d (e-d).toNat
 rwa [show d+((e-d).toNat:Int)=e by omega] at this
end Fw
namespace Fw
end Fw
namespace Fw
def fval(w:Nat):List Nat→Nat
 | []=>0
 | a::l=>a+2^w*fval w l
def fsum:List Nat→Nat
 | []=>0
 | a::l=>a+fsum l
def Dg(w f s:Nat):Prop:=∃l:List Nat,(∀a∈l,a≤w)∧f=fval w l∧s=fsum l
theorem Dg.nil{w:Nat}:Dg w 0 0:=⟨[],(fun _ h=>nomatch h),rfl,rfl⟩
theorem Dg.cons{w a f s:Nat}(h:a≤w)(g:Dg w f s):Dg w (a+2^w*f) (a+s):=by
 obtain⟨l,h1,rfl,rfl⟩:=g
 exact⟨a::l,fun x hx=>(List.mem_cons.mp hx).elim (fun e=>e ▸ h) (h1 x),rfl,rfl⟩
def Ev(w f e:Nat):Prop:=∀i,e.testBit i=(f.testBit i&&decide (i%(2*w)<w))
theorem fval_zero{w:Nat}:∀l:List Nat,fval w l=0→fsum l=0
 | [],_=>rfl
 | a::l,e=>by
  have e:a+2^w*fval w l=0:=e
  have e1:a=0:=by omega
  have e2:2^w*fval w l=0:=by omega
  have p:=Nat.two_pow_pos w
  rcases Nat.mul_eq_zero.mp e2 with z | z
  ·omega
  ·show a+fsum l=0
   rw[e1,fval_zero l z]
theorem Dg.last{w f s:Nat}(h:Dg w f s)(hl:f<2^w):f=s:=by
 obtain⟨l,_,rfl,rfl⟩:=h
 cases l with
 | nil=>rfl
 | cons a l=>
  have hl:a+2^w*fval w l<2^w:=hl
  have z:fval w l=0:=by
   rcases Nat.eq_zero_or_pos (fval w l) with z | z
   ·exact z
   ·have:=Nat.le_mul_of_pos_right (2^w) z
    omega
  show a+2^w*fval w l=a+fsum l
  rw[fval_zero l z,z];simp
theorem bit_split{w a h:Nat}(ha:a<2^w)(i:Nat):(a+2^w*h).testBit i=if i<w then a.testBit i else h.testBit (i-w):=by
 rw[Nat.add_comm,Nat.testBit_two_pow_mul_add h ha]
theorem Ev.peel{w a h e:Nat}(w0:0<w)(ha:a<2^w)(H:Ev w (a+2^w*h) e):e=a+2^(2*w)*(e/2^(2*w))∧Ev w (h/2^w) (e/2^(2*w)):=by
 have e1:e%2^(2*w)=a:=by
  refine Nat.eq_of_testBit_eq fun i=>?_
  rw[Nat.testBit_mod_two_pow,H i,bit_split ha]
  by_cases c:i<w
  ·rw[if_pos c,Nat.mod_eq_of_lt (by omega)]
   simp[c,show i<2*w by omega]
  ·rw[if_neg c]
   have:a.testBit i=false:=Nat.testBit_lt_two_pow (Nat.lt_of_lt_of_le ha (Nat.pow_le_pow_right (by decide) (by omega)))
   rw[this]
   by_cases c2:i<2*w
   ·rw[Nat.mod_eq_of_lt c2]
    simp[c]
   ·simp[c2]
 refine⟨?_,fun i=>?_⟩
 ·have:=Nat.mod_add_div e (2^(2*w))
  rw[e1] at this
  exact this.symm
 ·rw[←Nat.shiftRight_eq_div_pow,←Nat.shiftRight_eq_div_pow,Nat.testBit_shiftRight,Nat.testBit_shiftRight,H,bit_split ha,if_neg (by omega),show 2*w+i-w=w+i by omega,Nat.add_mod_left]
theorem fpair{w:Nat}(w0:0<w):∀l:List Nat,(∀a∈l,a≤w)→∀e1 e2,Ev w (fval w l) e1→Ev w (fval w l/2^w) e2→Dg (2*w) (e1+e2) (fsum l)∧e1+e2≤fval w l
 | [],_,e1,e2,h1,h2=>by
  have z:∀e,Ev w 0 e→e=0:=fun e he=>Nat.eq_of_testBit_eq fun i=>by rw[he i,Nat.zero_testBit];rfl
  have h2:Ev w (0/2^w) e2:=h2
  rw[Nat.zero_div] at h2
  rw[z e1 h1,z e2 h2]
  exact⟨.nil,Nat.le_refl _⟩
 | [a],ha,e1,e2,h1,h2=>by
  have ha:=ha a List.mem_cons_self
  have h1:Ev w (a+2^w*0) e1:=h1
  have h2:Ev w ((a+2^w*0)/2^w) e2:=h2
  show Dg (2*w) (e1+e2) (a+0)∧e1+e2≤a+2^w*0
  have al:a<2^w:=Nat.lt_of_le_of_lt ha Nat.lt_two_pow_self
  have z:∀e,Ev w 0 e→e=0:=fun e he=>Nat.eq_of_testBit_eq fun i=>by rw[he i,Nat.zero_testBit];rfl
  obtain⟨p1,p2⟩:=h1.peel w0 al
  rw[Nat.zero_div] at p2
  have p3:=z _ p2
  rw[Nat.mul_zero,Nat.add_zero,Nat.div_eq_of_lt al] at h2
  have p4:=z _ h2
  rw[p3,Nat.mul_zero,Nat.add_zero] at p1
  rw[p1,p4,Nat.mul_zero]
  refine⟨?_,by omega⟩
  have:=Dg.cons (w:=2*w) (a:=a) (by omega) (.nil)
  rwa [Nat.mul_zero] at this
 | a::b::l,hl,e1,e2,h1,h2=>by
  have ha:=hl a List.mem_cons_self
  have hb:=hl b (List.mem_cons_of_mem _ List.mem_cons_self)
  have hg:∀x∈l,x≤w:=fun x hx=>hl x (List.mem_cons_of_mem _ (List.mem_cons_of_mem _ hx))
  have h1:Ev w (a+2^w*(b+2^w*fval w l)) e1:=h1
  have h2:Ev w ((a+2^w*(b+2^w*fval w l))/2^w) e2:=h2
  have ih:=fpair w0 l hg
  show Dg (2*w) (e1+e2) (a+(b+fsum l))∧e1+e2≤a+2^w*(b+2^w*fval w l)
  generalize fval w l=g at*
  generalize fsum l=s at*
  have al:a<2^w:=Nat.lt_of_le_of_lt ha Nat.lt_two_pow_self
  have bl:b<2^w:=Nat.lt_of_le_of_lt hb Nat.lt_two_pow_self
  have p:=Nat.two_pow_pos w
  have d1:(a+2^w*(b+2^w*g))/2^w=b+2^w*g:=by rw[Nat.add_mul_div_left _ _ p,Nat.div_eq_of_lt al,Nat.zero_add]
  have d2:(b+2^w*g)/2^w=g:=by rw[Nat.add_mul_div_left _ _ p,Nat.div_eq_of_lt bl,Nat.zero_add]
  rw[d1] at h2
  obtain⟨p1,p2⟩:=h1.peel w0 al
  obtain⟨p3,p4⟩:=h2.peel w0 bl
  rw[d2] at p2
  obtain⟨i1,i2⟩:=ih _ _ p2 p4
  have:=Dg.cons (w:=2*w) (a:=a+b) (by omega) i1
  refine⟨?_,?_⟩
  ·rw[p1,p3]
   rw[Nat.mul_add] at this
   have e:a+2^(2*w)*(e1/2^(2*w))+(b+2^(2*w)*(e2/2^(2*w)))=a+b+(2^(2*w)*(e1/2^(2*w))+2^(2*w)*(e2/2^(2*w))):=by omega
   rw[e,←Nat.add_assoc a b s]
   exact this
  ·have m:=Nat.mul_le_mul_left (2^(2*w)) i2
   rw[Nat.mul_add] at m
   have q1:b≤2^w*b:=Nat.le_mul_of_pos_left b p
   have q2:2^w*(2^w*g)=2^(2*w)*g:=by rw[←Nat.mul_assoc,←Nat.pow_add,Nat.two_mul]
   rw[Nat.mul_add,q2]
   omega
theorem Dg.pair{w f s:Nat}(w0:0<w)(h:Dg w f s){e1 e2:Nat}(h1:Ev w f e1)(h2:Ev w (f/2^w) e2):Dg (2*w) (e1+e2) s∧e1+e2≤f:=by
 obtain⟨l,hl,rfl,rfl⟩:=h
 exact fpair w0 l hl e1 e2 h1 h2
theorem Dg.start:∀(n b:Nat),b<2^n→Dg 1 b (cnt b n)
 | 0,b,h=>by
  have:b=0:=by simp at h;exact h
  subst this
  exact .nil
 | n+1,b,h=>by
  have:=Dg.cons (w:=1) (a:=b%2) (by omega) (Dg.start n (b/2) (by rw[Nat.pow_succ] at h;omega))
  rw[cnt_step]
  rwa [Nat.pow_one,Nat.mod_add_div] at this
theorem cnt_same{b c:Nat}:∀{k:Nat},(∀i,i<k→b.testBit i=c.testBit i)→cnt b k=cnt c k
 | 0,_=>rfl
 | k+1,h=>by
  rw[cnt,cnt,cnt_same (fun i hi=>h i (by omega)),h k (by omega)]
theorem cnt_le(b:Nat):∀k,cnt b k≤k
 | 0=>Nat.le_refl _
 | k+1=>by
  have:=cnt_le b k
  rw[cnt]
  split<;>omega
end Fw
namespace Fw
def pc(b j:Nat):Nat:=b/2^(256*j)%2^256
theorem pc_bit(b j i:Nat):(pc b j).testBit i=(decide (i<256)&&b.testBit (256*j+i)):=by
 unfold pc
 rw[Nat.testBit_mod_two_pow,←Nat.shiftRight_eq_div_pow,Nat.testBit_shiftRight]
theorem pc_lt(b j:Nat):pc b j<2^256:=Nat.mod_lt _ (Nat.two_pow_pos _)
theorem pc_or_at(b p:Nat):pc (b ||| 2^p) (p/256)=pc b (p/256) ||| 2^(p%256):=by
 refine Nat.eq_of_testBit_eq fun i=>?_
 rw[pc_bit,Nat.testBit_or,Nat.testBit_or,pc_bit,Nat.testBit_two_pow,Nat.testBit_two_pow]
 by_cases c:i<256
 ·have:(p=256*(p/256)+i)=(p%256=i):=propext ⟨fun h=>by omega,fun h=>by omega⟩
  simp[c,this]
 ·have:¬p%256=i:=by omega
  simp[c,this]
theorem pc_or_ne{b p j:Nat}(h:j≠p/256):pc (b ||| 2^p) j=pc b j:=by
 refine Nat.eq_of_testBit_eq fun i=>?_
 rw[pc_bit,Nat.testBit_or,pc_bit,Nat.testBit_two_pow]
 by_cases c:i<256
 ·have:¬p=256*j+i:=by omega
  simp[c,this]
 ·simp[c]
theorem pc_join(b m:Nat):b%2^(256*m) ||| (pc b m <<< (256*m))=b%2^(256*(m+1)):=by
 refine Nat.eq_of_testBit_eq fun i=>?_
 rw[Nat.testBit_or,Nat.testBit_shiftLeft,Nat.testBit_mod_two_pow,Nat.testBit_mod_two_pow,pc_bit]
 by_cases c:i<256*m
 ·simp[c,show ¬256*m≤i by omega,show i<256*(m+1) by omega]
 ·by_cases c2:i<256*(m+1)
  ·simp[c,c2,show 256*m≤i by omega,show i-256*m<256 by omega,show 256*m+(i-256*m)=i by omega]
  ·simp[c,c2,show ¬i-256*m<256 by omega]
end Fw
namespace Fw
theorem On_per{n m:Int}{b:Nat}(hd:n∣m)(d k:Int):On n b (d+m*k)=On n b d:=by
 unfold On
 obtain⟨c,rfl⟩:=hd
 rw[Int.mul_assoc,Int.add_mul_emod_self_left]
end Fw
namespace Fw
theorem hit_iff{z:Int}{xs:List Int}{d:Int}:hit z xs d=true↔∃x∈xs,∃k,d=x+z*k:=by
 unfold hit
 rw[List.any_eq_true]
 constructor
 ·rintro⟨x,hx,h⟩
  obtain⟨k,hk⟩:=Int.dvd_of_emod_eq_zero (of_decide_eq_true h)
  exact⟨x,hx,k,by omega⟩
 ·rintro⟨x,hx,k,hk⟩
  refine⟨x,hx,decide_eq_true ?_⟩
  rw[show d-x=z*k by omega]
  exact Int.mul_emod_right z k
end Fw
namespace Fw
end Fw
namespace Fw
def Till(on1 on2:Int→Bool)(d:Int):Prop:=∃r,on1 r=true∧r≤d∧∀s,on2 s=true→r<s→d<s
end Fw
namespace Fw
theorem CC_off{n:Int}{b:Nat}(hn:0<n):∀(k:Nat) (f:Int),(∀r,f≤r→r<f+(k:Int)→On n b r=false)→CC n b (f+(k:Int))=CC n b f
 | 0,f,_=>by simp
 | k+1,f,h=>by
  have ih:=CC_off hn k f fun r h1 h2=>h r h1 (by omega)
  have e:=CC_succ (b:=b) hn (f+(k:Int))
  rw[h (f+(k:Int)) (by omega) (by omega),if_neg Bool.false_ne_true,ih] at e
  rw[show f+((k+1:Nat):Int)=f+(k:Int)+1 by omega,e]
  omega
theorem CC_rs{n:Int}{b:Nat}(hn:0<n){e:Int}:∀(rs:List Int) (f:Int),f≤e→rs.Pairwise (· < ·)→(∀r,r∈rs↔f≤r∧r<e∧On n b r=true)→
 (∀(i:Nat) (x:Int),rs[i]?=some x→CC n b x=CC n b f+(i:Int))∧CC n b e=CC n b f+(rs.length:Int)
 | [],f,fe,_,hm=>by
  refine⟨fun i x h=>by simp at h,?_⟩
  have:=CC_off (b:=b) hn (e-f).toNat f fun r h1 h2=>by
   cases c:On n b r with
   | false=>rfl
   | true=>exact absurd ((hm r).mpr ⟨h1,by omega,c⟩) (by simp)
  rw[show f+((e-f).toNat:Int)=e by omega] at this
  simpa using this
 | r::tl,f,fe,hs,hm=>by
  obtain⟨h1,h2,h3⟩:=(hm r).mp List.mem_cons_self
  obtain⟨s1,s2⟩:=List.pairwise_cons.mp hs
  have c1:CC n b r=CC n b f:=by
   have:=CC_off (b:=b) hn (r-f).toNat f fun x x1 x2=>by
    cases c:On n b x with
    | false=>rfl
    | true=>
     rcases List.mem_cons.mp ((hm x).mpr ⟨x1,by omega,c⟩) with z | z
     ·omega
     ·have:=s1 x z
      omega
   rwa [show f+((r-f).toNat:Int)=r by omega] at this
  have c2:=CC_succ (b:=b) hn r
  rw[h3,if_pos rfl] at c2
  obtain⟨i1,i2⟩:=CC_rs hn (e:=e) tl (r+1) (by omega) s2 fun x=>by
   constructor
   ·intro hx
    have a:=(hm x).mp (List.mem_cons_of_mem _ hx)
    have:=s1 x hx
    exact⟨by omega,a.2.1,a.2.2⟩
   ·rintro⟨x1,x2,x3⟩
    rcases List.mem_cons.mp ((hm x).mpr ⟨by omega,x2,x3⟩) with z | z
    ·omega
    ·exact z
  refine⟨fun i x hx=>?_,?_⟩
  ·cases i with
   | zero=>
    injection hx with hx
    subst hx
    rw[c1]
    simp
   | succ i=>
    have:=i1 i x hx
    rw[this,c2,c1]
    omega
  ·rw[i2,c2,c1,List.length_cons]
   omega
def Kth(n1:Int)(b1:Nat)(n2:Int)(b2:Nat)(k d:Int):Prop:=On n1 b1 d=true∧∃b e,On n2 b2 b=true∧On n2 b2 e=true∧b≤d∧d<e∧(∀r,b<r→r<e→On n2 b2 r=false)∧(0<k→CC n1 b1 (d+1)-CC n1 b1 b=k)∧(k<0→CC n1 b1 e-CC n1 b1 d= -k)
end Fw
namespace Fw
end Fw
namespace Fw
theorem CC_mul{n:Int}{b:Nat}(hn:0<n)(d j:Int):CC n b (d+n*j)=CC n b d+j*(cnt b n.toNat:Int):=by
 unfold CC
 rw[Int.add_mul_ediv_left _ _ (by omega),Int.add_mul_emod_self_left,Int.add_mul]
 omega
theorem CC_zero{n:Int}{b:Nat}:CC n b 0=0:=by
 unfold CC
 rw[Int.zero_ediv,Int.zero_emod]
 show 0*_+((cnt b 0:Nat):Int)=0
 rw[Int.zero_mul]
 rfl
theorem CC_uniq{n:Int}{b:Nat}(hn:0<n){d e:Int}(h1:On n b d=true)(h2:On n b e=true)(h:CC n b d=CC n b e):d=e:=by
 have c1:=CC_succ (b:=b) hn d
 have c2:=CC_succ (b:=b) hn e
 rw[h1,if_pos rfl] at c1
 rw[h2,if_pos rfl] at c2
 rcases Int.lt_trichotomy d e with c | c | c
 ·have:=CC_mono (b:=b) hn (show d+1≤e by omega)
  omega
 ·exact c
 ·have:=CC_mono (b:=b) hn (show e+1≤d by omega)
  omega
def Evr(n:Int)(b:Nat)(k day d:Int):Prop:=On n b d=true∧(CC n b d-CC n b day)%k=0
structure Dn(n:Int)(b:Nat)(ds:List Int):Prop where
 len:(ds.length:Int)=(cnt b n.toNat:Int)
 at':∀(j:Nat) (x:Int),ds[j]?=some x→On n b x=true∧CC n b x=(j:Int)∧0≤x∧x<n
theorem Dn.mk'{n:Int}{b:Nat}{ds:List Int}(hn:0<n)(srt:ds.Pairwise (· < ·))(mem:∀d,d∈ds↔0≤d∧d<n∧On n b d=true):Dn n b ds:=by
 obtain⟨h1,h2⟩:=CC_rs (b:=b) hn ds 0 (Int.le_of_lt hn) srt mem
 rw[CC_zero] at h1 h2
 have t:=CC_turn (b:=b) hn 0
 rw[CC_zero,Int.zero_add,Int.zero_add,h2,Int.zero_add] at t
 refine⟨t,fun j x hx=>?_⟩
 have m:=(mem x).mp (List.mem_of_getElem? hx)
 have:=h1 j x hx
 exact⟨m.2.2,by omega,m.1,m.2.1⟩
def dayOf(n:Int)(ds:List Int)(P:Int):Int:=P/(ds.length:Int)*n+(ds[(P%(ds.length:Int)).toNat]?).getD 0
theorem Dn.day{n:Int}{b:Nat}{ds:List Int}(hn:0<n)(D:Dn n b ds)(h:0<ds.length)(P:Int):On n b (dayOf n ds P)=true∧CC n b (dayOf n ds P)=P:=by
 have m0:=Int.emod_nonneg P (show (ds.length:Int)≠0 by omega)
 have m1:=Int.emod_lt_of_pos P (show (0:Int)<(ds.length:Int) by omega)
 have hl:(P%(ds.length:Int)).toNat<ds.length:=by omega
 obtain⟨x,hx⟩:∃x,ds[(P%(ds.length:Int)).toNat]?=some x:=⟨_,List.getElem?_eq_getElem hl⟩
 obtain⟨a1,a2,a3,a4⟩:=D.at' _ _ hx
 have e:dayOf n ds P=x+n*(P/(ds.length:Int)):=by
  unfold dayOf
  rw[hx,Int.mul_comm]
  show _+x=_
  omega
 have p:=Int.mul_ediv_add_emod P (ds.length:Int)
 rw[e]
 constructor
 ·unfold On at a1 ⊢
  rwa [Int.add_mul_emod_self_left]
 ·rw[CC_mul hn,a2,←D.len,Int.mul_comm]
  omega
theorem evr_iff{n:Int}{b:Nat}{ds:List Int}{k day:Int}(hn:0<n)(k0:0<k)(D:Dn n b ds)(d:Int):
 hit (n*k) ((List.range ds.length).map fun(i:Nat)=>dayOf n ds (CC n b day%k+(i:Int)*k)) d=true↔Evr n b k day d:=by
 have f0:=Int.emod_nonneg (CC n b day) (show k≠0 by omega)
 have f1:=Int.emod_lt_of_pos (CC n b day) k0
 have fe:=Int.mul_ediv_add_emod (CC n b day) k
 have nk:0<n*k:=Int.mul_pos hn k0
 have per:∀d q,On n b (d+n*k*q)=On n b d:=fun d q=>On_per ⟨k,rfl⟩ d q
 have cmul:∀d q,CC n b (d+n*k*q)=CC n b d+k*(q*(ds.length:Int)):=fun d q=>by
  rw[Int.mul_assoc,CC_mul hn,←D.len,Int.mul_assoc]
 rw[hit_iff]
 constructor
 ·rintro⟨x,hx,q,rfl⟩
  obtain⟨i,hi,rfl⟩:=List.mem_map.mp hx
  have hi':=List.mem_range.mp hi
  obtain⟨a1,a2⟩:=D.day hn (by omega) (CC n b day%k+(i:Int)*k)
  refine⟨by rw[per];exact a1,?_⟩
  rw[cmul,a2]
  have:CC n b day%k+(i:Int)*k+k*(q*(ds.length:Int))-CC n b day=k*((i:Int)+q*(ds.length:Int)-CC n b day/k):=by
   rw[Int.mul_sub,Int.mul_add,Int.mul_comm k (i:Int)]
   omega
  rw[this]
  exact Int.mul_emod_right _ _
 ·rintro⟨o,hd⟩
  have e:=Int.mul_ediv_add_emod d (n*k)
  have m0:=Int.emod_nonneg d (show n*k≠0 by omega)
  have m1:=Int.emod_lt_of_pos d nk
  have o':=per (d%(n*k)) (d/(n*k))
  have c':=cmul (d%(n*k)) (d/(n*k))
  rw[show d%(n*k)+n*k*(d/(n*k))=d by omega] at o' c'
  rw[o] at o'
  generalize d%(n*k)=d' at*
  generalize hq:d/(n*k)=q at*
  have g0:=CC_mono (b:=b) hn m0
  rw[CC_zero] at g0
  have g1:=CC_succ (b:=b) hn d'
  rw[←o',if_pos rfl] at g1
  have g2:=CC_mono (b:=b) hn (show d'+1≤n*k by omega)
  have g3:=cmul 0 1
  rw[Int.zero_add,Int.mul_one,CC_zero,Int.one_mul,Int.zero_add] at g3
  have hm:0<ds.length:=by
   rcases Nat.eq_zero_or_pos ds.length with z | z
   ·rw[z] at g3
    simp at g3
    omega
   ·exact z
  obtain⟨t,ht⟩:=Int.dvd_of_emod_eq_zero hd
  have hc:CC n b d'-CC n b day%k=k*(t+CC n b day/k-q*(ds.length:Int)):=by
   rw[Int.mul_sub,Int.mul_add]
   omega
  generalize t+CC n b day/k-q*(ds.length:Int)=i at hc
  have i0:0≤i:=by
   refine Int.not_lt.mp fun z=>?_
   have:=Int.mul_le_mul_of_nonneg_left (show i≤ -1 by omega) (Int.le_of_lt k0)
   omega
  have i1:i<(ds.length:Int):=by
   refine Int.not_le.mp fun z=>?_
   have:=Int.mul_le_mul_of_nonneg_left z (Int.le_of_lt k0)
   omega
  obtain⟨a1,a2⟩:=D.day hn hm (CC n b day%k+i*k)
  have ed:dayOf n ds (CC n b day%k+i*k)=d':=CC_uniq hn a1 o'.symm (by rw[a2,Int.mul_comm];omega)
  refine⟨d',List.mem_map.mpr ⟨i.toNat,List.mem_range.mpr (by omega),?_⟩,q,by omega⟩
  rw[show (i.toNat:Int)=i by omega]
  exact ed
end Fw
namespace Fw
def behindOf(z:Int)(ds:List Int):List Int:=ds.drop 1++(ds.take 1).map (· +z)
def mids(z:Int)(ds:List Int):List Int:=List.zipWith (fun x y=>(x+y)/2+1) ds (behindOf z ds)
theorem behind_len(z:Int)(ds:List Int):(behindOf z ds).length=ds.length:=by
 unfold behindOf
 rw[List.length_append,List.length_drop,List.length_map,List.length_take]
 omega
end Fw
namespace Fw
abbrev Tm:=Int×Int×Int×Int
structure OkT(t:Tm):Prop where
 sg:t.1=1∨t.1= -1
 n0:1≤t.2.2.2
 n1:t.2.2.2≤1000
 a0:0≤t.2.1
 a1:t.2.1≤t.2.2.2
 b0:0≤t.2.2.1
 b1:t.2.2.1<t.2.2.2
def onT(t:Tm)(k:Int):Bool:=decide (t.2.2.2≤(t.2.1*k+t.2.2.1)%t.2.2.2+t.2.1)
def ctT(t:Tm)(k:Int):Int:=(t.2.1*k+t.2.2.1)/t.2.2.2
def SU(ts:List Tm)(k:Int):Int:=(ts.map fun t=>t.1*ctT t k).sum
def UP(base:Int)(ts:List Tm)(k:Int):Int:=base*k+SU ts k
def ONS(ts:List Tm)(k:Int):Int:=((ts.filter fun t=>onT t k).map fun t=>t.1).sum
def AT(base:Int)(ts:List Tm)(k:Int):Int:=base+ONS ts k
def falls(ts:List Tm):Int:=((ts.filter fun t=>decide (t.1= -1)).length:Int)
theorem ct_step{t:Tm}(h:OkT t)(k:Int):ctT t (k+1)=ctT t k+(if onT t k=true then 1 else 0):=by
 unfold ctT onT
 obtain⟨s,a,b,n⟩:=t
 have n0:=h.n0
 have a0:=h.a0
 have a1:=h.a1
 dsimp only at n0 a0 a1 ⊢
 have e:a*(k+1)+b=a*k+b+a:=by rw[Int.mul_add,Int.mul_one];omega
 rw[e]
 generalize a*k+b=y
 have q:=Int.mul_ediv_add_emod y n
 have r0:=Int.emod_nonneg y (show n≠0 by omega)
 have r1:=Int.emod_lt_of_pos y (show 0<n by omega)
 by_cases c:n≤y%n+a
 ·rw[decide_eq_true c,if_pos rfl]
  have h:y+a=n*(y/n+1)+(y%n+a-n):=by rw[Int.mul_add,Int.mul_one];omega
  conv=>lhs;rw[h]
  rw[Int.mul_add_ediv_left _ _ (by omega),Int.ediv_eq_zero_of_lt (a:=y%n+a-n) (b:=n) (by omega) (by omega)]
  omega
 ·rw[decide_eq_false c,if_neg Bool.false_ne_true]
  have h:y+a=n*(y/n)+(y%n+a):=by omega
  conv=>lhs;rw[h]
  rw[Int.mul_add_ediv_left _ _ (by omega),Int.ediv_eq_zero_of_lt (a:=y%n+a) (b:=n) (by omega) (by omega)]
theorem ct_zero{t:Tm}(h:OkT t):ctT t 0=0:=by
 unfold ctT
 rw[Int.mul_zero,Int.zero_add]
 exact Int.ediv_eq_zero_of_lt h.b0 h.b1
theorem SU_step:∀{ts:List Tm} (_:∀t∈ts,OkT t) (k:Int),SU ts (k+1)=SU ts k+ONS ts k
 | [],_,k=>rfl
 | t::ts,h,k=>by
  have ih:=SU_step (ts:=ts) (fun x hx=>h x (List.mem_cons_of_mem _ hx)) k
  have s:=ct_step (h t List.mem_cons_self) k
  unfold SU ONS at*
  rw[List.map_cons,List.map_cons,List.sum_cons,List.sum_cons,ih,s,List.filter_cons]
  by_cases c:onT t k=true
  ·rw[if_pos c,if_pos c,List.map_cons,List.sum_cons,Int.mul_add,Int.mul_one]
   omega
  ·rw[if_neg c,if_neg c,Int.add_zero]
   omega
theorem SU_zero:∀{ts:List Tm} (_:∀t∈ts,OkT t),SU ts 0=0
 | [],_=>rfl
 | t::ts,h=>by
  have ih:=SU_zero (ts:=ts) (fun x hx=>h x (List.mem_cons_of_mem _ hx))
  unfold SU at*
  rw[List.map_cons,List.sum_cons,ih,ct_zero (h t List.mem_cons_self)]
  simp
theorem ONS_low:∀{ts:List Tm} (_:∀t∈ts,OkT t) (k:Int),-falls ts≤ONS ts k
 | [],_,k=>by show(-((0:Nat):Int))≤0;omega
 | t::ts,h,k=>by
  have ih:=ONS_low (ts:=ts) (fun x hx=>h x (List.mem_cons_of_mem _ hx)) k
  have sg:=(h t List.mem_cons_self).sg
  unfold falls ONS at*
  rw[List.filter_cons,List.filter_cons]
  by_cases c:onT t k=true
  ·rw[if_pos c,List.map_cons,List.sum_cons]
   rcases sg with z | z
   ·rw[if_neg (by rw[decide_eq_true_eq];omega)]
    omega
   ·rw[if_pos (decide_eq_true z),List.length_cons]
    omega
  ·rw[if_neg c]
   split
   ·rw[List.length_cons]
    omega
   ·omega
theorem UP_step{base:Int}{ts:List Tm}(h:∀t∈ts,OkT t)(k:Int):UP base ts (k+1)=UP base ts k+AT base ts k:=by
 unfold UP AT
 rw[SU_step h,Int.mul_add,Int.mul_one]
 omega
theorem UP_zero{base:Int}{ts:List Tm}(h:∀t∈ts,OkT t):UP base ts 0=0:=by
 unfold UP
 rw[SU_zero h,Int.mul_zero]
 rfl
theorem UP_mono{base:Int}{ts:List Tm}(h:∀t∈ts,OkT t)(hf:falls ts≤base){j k:Int}(jk:j≤k):UP base ts j≤UP base ts k:=by
 have:∀m:Nat,UP base ts j≤UP base ts (j+(m:Int)):=by
  intro m
  induction m with
  | zero=>simp
  | succ m ih=>
   have e:=UP_step (base:=base) h (j+(m:Int))
   have l:=ONS_low h (j+(m:Int))
   unfold AT at e
   rw[show j+((m+1:Nat):Int)=j+(m:Int)+1 by omega,e]
   omega
 have:=this (k-j).toNat
 rwa [show j+((k-j).toNat:Int)=k by omega] at this
theorem ct_per{t:Tm}(h:OkT t){P:Int}(hd:t.2.2.2∣P)(k q:Int):ctT t (k+P*q)=ctT t k+q*ctT t P:=by
 have n0:=h.n0
 obtain⟨c,rfl⟩:=hd
 unfold ctT
 obtain⟨s,a,b,n⟩:=t
 dsimp only at n0 ⊢
 have b0:=h.b0
 have b1:=h.b1
 dsimp only at b0 b1
 have e1:a*(k+n*c*q)+b=a*k+b+n*(a*(c*q)):=by
  rw[Int.mul_add,show a*(n*c*q)=n*(a*(c*q)) by rw[Int.mul_assoc,Int.mul_left_comm]]
  omega
 have e2:a*(n*c)+b=b+n*(a*c):=by rw[Int.mul_left_comm];omega
 rw[e1,e2,Int.add_mul_ediv_left _ _ (by omega),Int.add_mul_ediv_left _ _ (by omega),Int.ediv_eq_zero_of_lt b0 b1,Int.zero_add]
 congr 1
 rw[Int.mul_left_comm q a c,Int.mul_comm q c]
theorem SU_per:∀{ts:List Tm} (_:∀t∈ts,OkT t) {P:Int} (_:∀t∈ts,t.2.2.2∣P) (k q:Int),SU ts (k+P*q)=SU ts k+q*SU ts P
 | [],_,P,_,k,q=>by unfold SU;simp
 | t::ts,h,P,hd,k,q=>by
  have ih:=SU_per (ts:=ts) (fun x hx=>h x (List.mem_cons_of_mem _ hx)) (P:=P) (fun x hx=>hd x (List.mem_cons_of_mem _ hx)) k q
  have s:=ct_per (h t List.mem_cons_self) (hd t List.mem_cons_self) k q
  unfold SU at*
  rw[List.map_cons,List.map_cons,List.map_cons,List.sum_cons,List.sum_cons,List.sum_cons,ih,s,Int.mul_add,Int.mul_add,Int.mul_left_comm t.1 q]
  omega
theorem UP_per{base:Int}{ts:List Tm}(h:∀t∈ts,OkT t){P:Int}(hd:∀t∈ts,t.2.2.2∣P)(k q:Int):UP base ts (k+P*q)=UP base ts k+q*UP base ts P:=by
 unfold UP
 rw[SU_per h hd,Int.mul_add,Int.mul_add,show base*(P*q)=q*(base*P) by rw[←Int.mul_assoc,Int.mul_comm]]
 omega
theorem ct_le{t:Tm}(h:OkT t){k:Int}(k0:0≤k):0≤ctT t k∧ctT t k≤k:=by
 have n0:=h.n0
 have a0:=h.a0
 have b0:=h.b0
 have b1:=h.b1
 have p0:0≤t.2.1*k:=Int.mul_nonneg a0 k0
 have p1:t.2.1*k≤t.2.2.2*k:=Int.mul_le_mul_of_nonneg_right h.a1 k0
 unfold ctT
 refine⟨Int.ediv_nonneg (by omega) (by omega),?_⟩
 have:(t.2.1*k+t.2.2.1)/t.2.2.2<k+1:=by
  rw[Int.ediv_lt_iff_lt_mul (by omega),Int.add_mul,Int.one_mul,Int.mul_comm k]
  omega
 omega
theorem SU_le:∀{ts:List Tm} (_:∀t∈ts,OkT t) {k:Int} (_:0≤k),-((ts.length:Int)*k)≤SU ts k∧SU ts k≤(ts.length:Int)*k
 | [],_,k,_=>by unfold SU;simp
 | t::ts,h,k,k0=>by
  have ih:=SU_le (ts:=ts) (fun x hx=>h x (List.mem_cons_of_mem _ hx)) k0
  have c:=ct_le (h t List.mem_cons_self) k0
  have sg:=(h t List.mem_cons_self).sg
  unfold SU at*
  rw[List.map_cons,List.sum_cons,List.length_cons,Int.natCast_add,Int.add_mul]
  have e1:((1:Nat):Int)*k=k:=by simp
  rcases sg with z | z
  ·rw[z,Int.one_mul]
   omega
  ·rw[z,show(-1:Int)*ctT t k= -ctT t k by omega]
   omega
def PER(ts:List Tm):Int:=ts.foldl (fun p t=>lcmI p t.2.2.2) 1
end Fw
namespace Fw
theorem UP_pos{base:Int}{ts:List Tm}(h:∀t∈ts,OkT t)(hf:falls ts<base){P:Int}(P0:0<P):0<UP base ts P:=by
 have m:=UP_mono h (Int.le_refl (falls ts)) (show (0:Int)≤P by omega)
 rw[UP_zero h] at m
 unfold UP at*
 have:(falls ts+1)*P≤base*P:=Int.mul_le_mul_of_nonneg_right (by omega) (by omega)
 rw[Int.add_mul,Int.one_mul] at this
 omega
end Fw
namespace Fw
theorem AT_high{ts:List Tm}(h:∀t∈ts,OkT t)(k:Int):ONS ts k≤(ts.length:Int):=by
 unfold ONS
 induction ts with
 | nil=>exact Int.le_refl 0
 | cons t ts ih=>
  have i:=ih fun x hx=>h x (List.mem_cons_of_mem _ hx)
  have sg:=(h t List.mem_cons_self).sg
  rw[List.filter_cons,List.length_cons]
  split
  ·rw[List.map_cons,List.sum_cons]
   omega
  ·omega
end Fw
namespace Fw
theorem sum_le:∀{ls:List Int},(∀n∈ls,0≤n∧n≤1000)→0≤ls.sum∧ls.sum≤1000*(ls.length:Int)
 | [],_=>by simp
 | a::ls,h=>by
  have i:=sum_le (ls:=ls) fun n hn=>h n (List.mem_cons_of_mem _ hn)
  have:=h a List.mem_cons_self
  rw[List.sum_cons,List.length_cons]
  omega
theorem sum_set:∀{ls:List Int} {i:Nat} {e:Int},i<ls.length→(ls.set i (ls.getD i 0+e)).sum=ls.sum+e
 | [],i,e,h=>by simp at h
 | a::ls,0,e,_=>by
  show(a+e)+ls.sum=(a::ls).sum+e
  rw[List.sum_cons]
  omega
 | a::ls,i+1,e,h=>by
  have ih:=sum_set (ls:=ls) (i:=i) (e:=e) (by simpa using h)
  show a+(ls.set i (ls.getD i 0+e)).sum=(a::ls).sum+e
  rw[ih,List.sum_cons]
  omega
def LENS(ls:List Int)(lp:Int)(ts:List Tm)(y:Int):List Int:=ls.set (lp-1).toNat (ls.getD (lp-1).toNat 0+ONS ts y)
structure GoodS(ls:List Int)(lp:Int)(ts:List Tm):Prop where
 l0:1≤ls.length
 l1:ls.length≤20
 m:∀n∈ls,0≤n∧n≤1000
 p0:1≤lp
 p1:lp≤(ls.length:Int)
 f0:falls ts≤ls.getD (lp-1).toNat 0
 f1:falls ts<ls.sum
 ok:∀t∈ts,OkT t
 few:ts.length≤6
theorem GoodS.sum{ls:List Int}{lp:Int}{ts:List Tm}(g:GoodS ls lp ts):0≤ls.sum∧ls.sum≤20000:=by
 have:=sum_le g.m
 have:=g.l1
 omega
theorem LENS_sum{ls:List Int}{lp:Int}{ts:List Tm}(g:GoodS ls lp ts)(y:Int):(LENS ls lp ts y).sum=AT ls.sum ts y:=by
 have p0:=g.p0
 have p1:=g.p1
 unfold LENS AT
 exact sum_set (by omega)
theorem getD_mem'{ls:List Int}{i:Nat}(h:i<ls.length):ls.getD i 0∈ls:=by
 rw[List.getD_eq_getElem?_getD,List.getElem?_eq_getElem h]
 exact List.getElem_mem h
theorem LENS_mem{ls:List Int}{lp:Int}{ts:List Tm}(g:GoodS ls lp ts)(y:Int):∀n∈LENS ls lp ts y,0≤n∧n≤1006:=by
 intro n hn
 have p0:=g.p0
 have p1:=g.p1
 unfold LENS at hn
 rcases List.mem_or_eq_of_mem_set hn with z | z
 ·have:=g.m n z
  omega
 ·have:=g.m _ (getD_mem' (ls:=ls) (i:=(lp-1).toNat) (by omega))
  have l:=ONS_low g.ok y
  have u:=AT_high g.ok y
  have:=g.few
  have:=g.f0
  omega
theorem LENS_len{ls:List Int}{lp:Int}{ts:List Tm}{y:Int}:(LENS ls lp ts y).length=ls.length:=by
 unfold LENS
 rw[List.length_set]
end Fw
namespace Fw
theorem UP_less{b:Int}{ts:List Tm}{k:Int}:UP b ts k=UP (b-1) ts k+k:=by
 unfold UP
 rw[Int.sub_mul,Int.one_mul]
 omega
theorem UP_lt{b:Int}{ts:List Tm}(h:∀t∈ts,OkT t)(hf:falls ts<b){j k:Int}(jk:j<k):UP b ts j<UP b ts k:=by
 have:=UP_mono h (show falls ts≤b-1 by omega) (Int.le_of_lt jk)
 rw[UP_less (b:=b),UP_less (b:=b) (k:=k)]
 omega
theorem seek_small{b:Int}{ts:List Tm}(h:∀t∈ts,OkT t)(hf:falls ts<b){n k:Int}(u1:UP b ts k≤n)(u2:n<UP b ts (k+1)):k.natAbs≤n.natAbs:=by
 have z:=UP_zero (base:=b-1) h
 rw[UP_less] at u1 u2
 rcases Int.lt_or_le k 0 with c | c
 ·have:=UP_mono h (show falls ts≤b-1 by omega) (show k+1≤0 by omega)
  omega
 ·have:=UP_mono h (show falls ts≤b-1 by omega) c
  omega
structure GoodMo(bd:Int)(td:List Tm)(bm:Int)(tm:List Tm):Prop where
 fd:falls td<bd
 gd:bd≤1000
 fm:falls tm<bm
 gm:bm≤20
 okd:∀t∈td,OkT t
 okm:∀t∈tm,OkT t
 fwd:td.length≤6
 fwm:tm.length≤6
def MYS(s bd:Int)(td:List Tm)(bm:Int)(tm:List Tm)(y:Int):Int:=s+UP bd td (UP bm tm y)
def MLEN(bd:Int)(td:List Tm)(bm:Int)(tm:List Tm)(y:Int):List Int:=(List.range (AT bm tm y).toNat).map fun i:Nat=>AT bd td (UP bm tm y+(i:Int))
theorem at_sum{b:Int}{ts:List Tm}(h:∀t∈ts,OkT t)(f:Int):∀n:Nat,((List.range n).map fun i:Nat=>AT b ts (f+(i:Int))).sum=UP b ts (f+(n:Int))-UP b ts f
 | 0=>by simp
 | n+1=>by
  have s:=UP_step (base:=b) h (f+(n:Int))
  rw[List.range_succ,List.map_append,List.sum_append,at_sum h f n,show f+((n+1:Nat):Int)=f+(n:Int)+1 by omega,s]
  simp
  omega
theorem AT_pos{b:Int}{ts:List Tm}(h:∀t∈ts,OkT t)(hf:falls ts<b)(k:Int):1≤AT b ts k:=by
 have:=ONS_low h k
 unfold AT
 omega
theorem AT_le{b:Int}{ts:List Tm}(h:∀t∈ts,OkT t)(few:ts.length≤6)(k:Int):AT b ts k≤b+6:=by
 have:=AT_high h k
 unfold AT
 omega
theorem MLEN_sum{s bd:Int}{td:List Tm}{bm:Int}{tm:List Tm}(g:GoodMo bd td bm tm)(y:Int):(MLEN bd td bm tm y).sum=MYS s bd td bm tm (y+1)-MYS s bd td bm tm y:=by
 unfold MLEN MYS
 have p:=AT_pos g.okm g.fm y
 rw[at_sum g.okd,show((AT bm tm y).toNat:Int)=AT bm tm y by omega,←UP_step g.okm]
 omega
theorem MLEN_mem{bd:Int}{td:List Tm}{bm:Int}{tm:List Tm}(g:GoodMo bd td bm tm)(y:Int):∀n∈MLEN bd td bm tm y,0≤n∧n≤1006:=by
 intro n hn
 unfold MLEN at hn
 obtain⟨i,_,rfl⟩:=List.mem_map.mp hn
 have:=AT_pos g.okd g.fd (UP bm tm y+(i:Int))
 have:=AT_le g.okd g.fwd (b:=bd) (UP bm tm y+(i:Int))
 have:=g.gd
 omega
theorem MLEN_len{bd:Int}{td:List Tm}{bm:Int}{tm:List Tm}(g:GoodMo bd td bm tm)(y:Int):1≤(MLEN bd td bm tm y).length∧(MLEN bd td bm tm y).length≤26:=by
 unfold MLEN
 rw[List.length_map,List.length_range]
 have:=AT_pos g.okm g.fm y
 have:=AT_le g.okm g.fwm (b:=bm) y
 have:=g.gm
 omega
end Fw
namespace Fw
inductive CalD where
 | sun (s:Int) (ls:List Int) (lp:Int) (ts:List Tm)
 | moon (s bd:Int) (td:List Tm) (bm:Int) (tm:List Tm)
def CalD.Y:CalD→Int→Int
 | .sun s ls _ ts,y=>s+UP ls.sum ts y
 | .moon s bd td bm tm,y=>MYS s bd td bm tm y
def CalD.L:CalD→Int→List Int
 | .sun _ ls lp ts,y=>LENS ls lp ts y
 | .moon _ bd td bm tm,y=>MLEN bd td bm tm y
def CalD.good:CalD→Prop
 | .sun _ ls lp ts=>GoodS ls lp ts
 | .moon _ bd td bm tm=>GoodMo bd td bm tm
def CalD.st:CalD→Int
 | .sun s _ _ _=>s
 | .moon s _ _ _ _=>s
def PS(l:List Int)(j:Nat):Int:=(l.take j).sum
theorem PS_zero{l:List Int}:PS l 0=0:=rfl
theorem PS_succ{l:List Int}{j:Nat}(h:j<l.length):PS l (j+1)=PS l j+l.getD j 0:=by
 unfold PS
 rw[List.take_add_one,List.getD_eq_getElem?_getD,List.getElem?_eq_getElem h,List.sum_append]
 simp
theorem PS_mono{l:List Int}(h:∀n∈l,0≤n){i:Nat}:∀{j:Nat},i≤j→j≤l.length→PS l i≤PS l j
 | 0,hij,_=>by
  have:i=0:=by omega
  subst this
  exact Int.le_refl _
 | j+1,hij,hj=>by
  rcases Nat.lt_or_eq_of_le hij with c | c
  ·have:=PS_mono (i:=i) h (show i≤j by omega) (by omega)
   have e:=PS_succ (l:=l) (j:=j) (by omega)
   have:=h _ (getD_mem' (ls:=l) (i:=j) (by omega))
   omega
  ·subst c
   exact Int.le_refl _
theorem PS_len{l:List Int}:PS l l.length=l.sum:=by
 unfold PS
 rw[List.take_length]
theorem CalD.step{d:CalD}(g:d.good)(y:Int):d.Y (y+1)=d.Y y+(d.L y).sum:=by
 cases d with
 | sun s ls lp ts=>
  show s+UP ls.sum ts (y+1)=s+UP ls.sum ts y+(LENS ls lp ts y).sum
  rw[LENS_sum g y,UP_step (GoodS.ok g)]
  omega
 | moon s bd td bm tm=>
  show MYS s bd td bm tm (y+1)=MYS s bd td bm tm y+(MLEN bd td bm tm y).sum
  rw[MLEN_sum (s:=s) g y]
  omega
theorem CalD.mem{d:CalD}(g:d.good)(y:Int):∀n∈d.L y,0≤n∧n≤1006:=by
 cases d with
 | sun s ls lp ts=>exact LENS_mem g y
 | moon s bd td bm tm=>exact MLEN_mem g y
theorem CalD.len{d:CalD}(g:d.good)(y:Int):1≤(d.L y).length∧(d.L y).length≤26:=by
 cases d with
 | sun s ls lp ts=>
  show 1≤(LENS ls lp ts y).length∧(LENS ls lp ts y).length≤26
  rw[LENS_len]
  have:=GoodS.l0 g
  have:=GoodS.l1 g
  omega
 | moon s bd td bm tm=>exact MLEN_len g y
theorem CalD.lt{d:CalD}(g:d.good){j k:Int}(h:j<k):d.Y j<d.Y k:=by
 cases d with
 | sun s ls lp ts=>
  have:=UP_lt (GoodS.ok g) (GoodS.f1 g) h
  show s+UP ls.sum ts j<s+UP ls.sum ts k
  omega
 | moon s bd td bm tm=>
  have:=UP_lt (GoodMo.okd g) (GoodMo.fd g) (UP_lt (GoodMo.okm g) (GoodMo.fm g) h)
  show s+UP bd td (UP bm tm j)<s+UP bd td (UP bm tm k)
  omega
theorem CalD.uniq{d:CalD}(g:d.good){n j k:Int}(h1:d.Y j≤n)(h2:n<d.Y (j+1))(h3:d.Y k≤n)(h4:n<d.Y (k+1)):j=k:=by
 rcases Int.lt_trichotomy j k with c | c | c
 ·rcases Int.lt_or_eq_of_le (show j+1≤k by omega) with z | z
  ·have:=CalD.lt g z
   omega
  ·rw[z] at h2
   omega
 ·exact c
 ·rcases Int.lt_or_eq_of_le (show k+1≤j by omega) with z | z
  ·have:=CalD.lt g z
   omega
  ·rw[z] at h4
   omega
structure IsD(d:CalD)(y m r:Int):Prop where
 m0:1≤m
 m1:m≤((d.L y).length:Int)
 r0:1≤r
 r1:r≤(d.L y).getD (m-1).toNat 0
def DayOf(d:CalD)(y m r:Int):Int:=d.Y y+PS (d.L y) (m-1).toNat+r-1
theorem IsD.year{d:CalD}(g:d.good){y m r:Int}(h:IsD d y m r):d.Y y≤DayOf d y m r∧DayOf d y m r<d.Y (y+1):=by
 have m0:=h.m0
 have m1:=h.m1
 have r0:=h.r0
 have r1:=h.r1
 have nn:∀n∈d.L y,0≤n:=fun n hn=>(CalD.mem g y n hn).1
 have a:=PS_mono nn (i:=0) (j:=(m-1).toNat) (by omega) (by omega)
 have b:=PS_succ (l:=d.L y) (j:=(m-1).toNat) (by omega)
 have c:=PS_mono nn (i:=(m-1).toNat+1) (j:=(d.L y).length) (by omega) (Nat.le_refl _)
 rw[PS_len] at c
 rw[PS_zero] at a
 rw[CalD.step g]
 unfold DayOf
 omega
theorem IsD.uniq{d:CalD}(g:d.good){y m r y' m' r':Int}(h:IsD d y m r)(h':IsD d y' m' r')(e:DayOf d y m r=DayOf d y' m' r'):y=y'∧m=m'∧r=r':=by
 have e1:=h.year g
 have e2:=h'.year g
 rw[←e] at e2
 have ey:=CalD.uniq g e1.1 e1.2 e2.1 e2.2
 subst ey
 have m0:=h.m0
 have m1:=h.m1
 have r0:=h.r0
 have r1:=h.r1
 have m0':=h'.m0
 have m1':=h'.m1
 have r0':=h'.r0
 have r1':=h'.r1
 have nn:∀n∈d.L y,0≤n:=fun n hn=>(CalD.mem g y n hn).1
 have b:=PS_succ (l:=d.L y) (j:=(m-1).toNat) (by omega)
 have b':=PS_succ (l:=d.L y) (j:=(m'-1).toNat) (by omega)
 unfold DayOf at e
 have em:m=m':=by
  rcases Int.lt_trichotomy m m' with c | c | c
  ·have:=PS_mono nn (i:=(m-1).toNat+1) (j:=(m'-1).toNat) (by omega) (by omega)
   omega
  ·exact c
  ·have:=PS_mono nn (i:=(m'-1).toNat+1) (j:=(m-1).toNat) (by omega) (by omega)
   omega
 subst em
 exact⟨rfl,rfl,by omega⟩
end Fw
namespace Fw
theorem per_pos'{ts:List Tm}(h:∀t∈ts,OkT t):0<PER ts∧∀t∈ts,t.2.2.2∣PER ts:=by
 have key:∀(us:List Tm) (p:Int),0<p→(∀t∈us,OkT t)→0<us.foldl (fun p t=>lcmI p t.2.2.2) p∧p∣us.foldl (fun p t=>lcmI p t.2.2.2) p∧∀t∈us,t.2.2.2∣us.foldl (fun p t=>lcmI p t.2.2.2) p:=by
  intro us
  induction us with
  | nil=>exact fun p hp _=>⟨hp,Int.dvd_refl _,fun t ht=>nomatch ht⟩
  | cons u us ih=>
   intro p hp ok
   have n0:=(ok u List.mem_cons_self).n0
   have f:=lcmI_facts hp (show 0<u.2.2.2 by omega)
   obtain⟨i1,i2,i3⟩:=ih (lcmI p u.2.2.2) f.1 fun t ht=>ok t (List.mem_cons_of_mem _ ht)
   refine⟨i1,Int.dvd_trans f.2.1 i2,fun t ht=>?_⟩
   rcases List.mem_cons.mp ht with e | e
   ·subst e
    exact Int.dvd_trans f.2.2.1 i2
   ·exact i3 t e
 exact⟨(key ts 1 (by decide) h).1,(key ts 1 (by decide) h).2.2⟩
theorem UP_whole{b:Int}{ts:List Tm}(h:∀t∈ts,OkT t){P:Int}(hd:∀t∈ts,t.2.2.2∣P)(k:Int):UP b ts (k+P)=UP b ts k+UP b ts P:=by
 have:=UP_per (base:=b) h hd k 1
 rwa [Int.mul_one,Int.one_mul] at this
theorem AT_whole{b:Int}{ts:List Tm}(h:∀t∈ts,OkT t){P:Int}(hd:∀t∈ts,t.2.2.2∣P)(k:Int):AT b ts (k+P)=AT b ts k:=by
 have a:=UP_step (base:=b) h (k+P)
 have c:=UP_step (base:=b) h k
 have u:=UP_whole (b:=b) h hd k
 have v:=UP_whole (b:=b) h hd (k+1)
 rw[show k+1+P=k+P+1 by omega] at v
 omega
theorem ONS_whole{ts:List Tm}(h:∀t∈ts,OkT t){P:Int}(hd:∀t∈ts,t.2.2.2∣P)(k:Int):ONS ts (k+P)=ONS ts k:=by
 have:=AT_whole (b:=0) h hd k
 unfold AT at this
 omega
def moT(td:List Tm)(bm:Int)(tm:List Tm):Int:=PER td/(Int.gcd (PER td) (UP bm tm (PER tm)):Int)
def CalD.cy:CalD→Int×Int
 | .sun _ ls _ ts=>(PER ts,UP ls.sum ts (PER ts))
 | .moon _ bd td bm tm=>(PER tm*moT td bm tm,UP bd td (UP bm tm (PER tm)*moT td bm tm))
theorem mo_dvd{td:List Tm}{bm:Int}{tm:List Tm}(h:∀t∈td,OkT t):∀t∈td,t.2.2.2∣UP bm tm (PER tm)*moT td bm tm:=by
 intro t ht
 obtain⟨p0,pd⟩:=per_pos' h
 refine Int.dvd_trans (pd t ht) ?_
 unfold moT
 generalize UP bm tm (PER tm)=M
 generalize PER td=D at*
 have g1:=Int.gcd_dvd_left (a:=D) (b:=M)
 have g2:=Int.gcd_dvd_right (a:=D) (b:=M)
 have g0:=gcd_pos (b:=M) p0
 obtain⟨u,hu⟩:=g1
 obtain⟨v,hv⟩:=g2
 generalize (Int.gcd D M:Int)=G at*
 rw[hu,hv,Int.mul_ediv_cancel_left _ (by omega)]
 exact⟨v,by rw[Int.mul_assoc,Int.mul_assoc,Int.mul_comm u v]⟩
theorem CalD.cyY{d:CalD}(g:d.good)(y:Int):d.Y (y+d.cy.1)=d.Y y+d.cy.2:=by
 cases d with
 | sun s ls lp ts=>
  have:=UP_whole (b:=ls.sum) (GoodS.ok g) (per_pos' (GoodS.ok g)).2 y
  show s+UP ls.sum ts (y+PER ts)=s+UP ls.sum ts y+UP ls.sum ts (PER ts)
  omega
 | moon s bd td bm tm=>
  show MYS s bd td bm tm (y+PER tm*moT td bm tm)=MYS s bd td bm tm y+UP bd td (UP bm tm (PER tm)*moT td bm tm)
  have a:=UP_per (base:=bm) (GoodMo.okm g) (per_pos' (GoodMo.okm g)).2 y (moT td bm tm)
  have b:=UP_whole (b:=bd) (GoodMo.okd g) (mo_dvd (bm:=bm) (tm:=tm) (GoodMo.okd g)) (UP bm tm y)
  unfold MYS
  rw[a,Int.mul_comm (moT td bm tm),b]
  omega
theorem CalD.cyL{d:CalD}(g:d.good)(y:Int):d.L (y+d.cy.1)=d.L y:=by
 cases d with
 | sun s ls lp ts=>
  show LENS ls lp ts (y+PER ts)=LENS ls lp ts y
  unfold LENS
  rw[ONS_whole (GoodS.ok g) (per_pos' (GoodS.ok g)).2]
 | moon s bd td bm tm=>
  show MLEN bd td bm tm (y+PER tm*moT td bm tm)=MLEN bd td bm tm y
  have a:=UP_per (base:=bm) (GoodMo.okm g) (per_pos' (GoodMo.okm g)).2 y (moT td bm tm)
  have e:∀t∈tm,t.2.2.2∣PER tm*moT td bm tm:=fun t ht=>Int.dvd_trans ((per_pos' (GoodMo.okm g)).2 t ht) (Int.dvd_mul_right _ _)
  unfold MLEN
  rw[AT_whole (GoodMo.okm g) e,a]
  refine List.map_congr_left fun i _=>?_
  rw[Int.mul_comm (moT td bm tm),show UP bm tm y+UP bm tm (PER tm)*moT td bm tm+(i:Int)=UP bm tm y+(i:Int)+UP bm tm (PER tm)*moT td bm tm by omega]
  exact AT_whole (GoodMo.okd g) (mo_dvd (bm:=bm) (tm:=tm) (GoodMo.okd g)) _
theorem IsD.cyc{d:CalD}(g:d.good){y m r:Int}(h:IsD d y m r):IsD d (y+d.cy.1) m r∧DayOf d (y+d.cy.1) m r=DayOf d y m r+d.cy.2:=by
 have e:=CalD.cyL g y
 refine⟨⟨h.m0,by rw[e];exact h.m1,h.r0,by rw[e];exact h.r1⟩,?_⟩
 unfold DayOf
 rw[e,CalD.cyY g]
 omega
end Fw
namespace Fw
end Fw
namespace Fw
def DLt(a b c a' b' c':Int):Prop:=a<a'∨(a=a'∧(b<b'∨(b=b'∧c<c')))
def DLe(a b c a' b' c':Int):Prop:=a<a'∨(a=a'∧(b<b'∨(b=b'∧c≤c')))
theorem DLt_not{a b c a' b' c':Int}:¬DLt a b c a' b' c'↔DLe a' b' c' a b c:=by
 unfold DLe DLt
 omega
theorem IsD.lt_of{d:CalD}(g:d.good){y m r y' m' r':Int}(h:IsD d y m r)(h':IsD d y' m' r')(l:DLt y m r y' m' r'):DayOf d y m r<DayOf d y' m' r':=by
 have e1:=h.year g
 have e2:=h'.year g
 rcases l with c | ⟨c,l⟩
 ·rcases Int.lt_or_eq_of_le (show y+1≤y' by omega) with z | z
  ·have:=CalD.lt g z
   omega
  ·rw[z] at e1
   omega
 subst c
 have m0:=h.m0
 have m1:=h.m1
 have r0:=h.r0
 have r1:=h.r1
 have m0':=h'.m0
 have m1':=h'.m1
 have r0':=h'.r0
 have nn:∀n∈d.L y,0≤n:=fun n hn=>(CalD.mem g y n hn).1
 have b:=PS_succ (l:=d.L y) (j:=(m-1).toNat) (by omega)
 unfold DayOf
 rcases l with c | ⟨c,l⟩
 ·have:=PS_mono nn (i:=(m-1).toNat+1) (j:=(m'-1).toNat) (by omega) (by omega)
  omega
 ·subst c
  omega
theorem IsD.lt_iff{d:CalD}(g:d.good){y m r y' m' r':Int}(h:IsD d y m r)(h':IsD d y' m' r'):DayOf d y m r<DayOf d y' m' r'↔DLt y m r y' m' r':=by
 refine⟨fun l=>?_,IsD.lt_of g h h'⟩
 refine Classical.byContradiction fun n=>?_
 have:=DLt_not.mp n
 by_cases e:DLt y' m' r' y m r
 ·have:=IsD.lt_of g h' h e
  omega
 ·have e1:y=y'∧m=m'∧r=r':=by
   unfold DLt DLe at*
   omega
  obtain⟨rfl,rfl,rfl⟩:=e1
  omega
inductive CalT where
 | one (d:CalD)
 | chg (a b:CalT) (k:Int)
def CalT.D:CalT→Int→Int→Int→Int→Prop
 | .one d,n,y,m,r=>IsD d y m r∧DayOf d y m r=n
 | .chg a b k,n,y,m,r=>(n<k∧a.D n y m r)∨(k≤n∧b.D n y m r)
def CalT.good:CalT→Prop
 | .one d=>d.good
 | .chg a b k=>a.good∧b.good∧∃y m r y' m' r',a.D (k-1) y m r∧b.D k y' m' r'∧DLt y m r y' m' r'
theorem DLt.trans{a b c a' b' c' a'' b'' c'':Int}(h:DLt a b c a' b' c')(h':DLt a' b' c' a'' b'' c''):DLt a b c a'' b'' c'':=by
 unfold DLt at*
 omega
theorem CalT.uniq:∀{c:CalT},c.good→∀{n y m r y' m' r':Int},c.D n y m r→c.D n y' m' r'→y=y'∧m=m'∧r=r'
 | .one d,g,n,y,m,r,y',m',r',h,h'=>IsD.uniq g h.1 h'.1 (h.2.trans h'.2.symm)
 | .chg a b k,g,n,y,m,r,y',m',r',h,h'=>by
  rcases h with ⟨l,h⟩ | ⟨l,h⟩<;>rcases h' with ⟨l',h'⟩ | ⟨l',h'⟩
  ·exact CalT.uniq g.1 h h'
  ·omega
  ·omega
  ·exact CalT.uniq g.2.1 h h'
theorem CalT.mono:∀{c:CalT},c.good→∀{n n' y m r y' m' r':Int},c.D n y m r→c.D n' y' m' r'→n<n'→DLt y m r y' m' r'
 | .one d,g,n,n',y,m,r,y',m',r',h,h',l=>by
  rw[←h.2,←h'.2] at l
  exact(IsD.lt_iff g h.1 h'.1).mp l
 | .chg a b k,g,n,n',y,m,r,y',m',r',h,h',l=>by
  obtain⟨ga,gb,p,q,s,p',q',s',d1,d2,l12⟩:=g
  rcases h with ⟨z,h⟩ | ⟨z,h⟩<;>rcases h' with ⟨z',h'⟩ | ⟨z',h'⟩
  ·exact CalT.mono ga h h' l
  ·have x1:DLt y m r p' q' s':=by
    rcases Int.lt_or_eq_of_le (show n≤k-1 by omega) with e | e
    ·exact(CalT.mono ga h d1 e).trans l12
    ·subst e
     obtain⟨rfl,rfl,rfl⟩:=CalT.uniq ga h d1
     exact l12
   rcases Int.lt_or_eq_of_le z' with e | e
   ·exact x1.trans (CalT.mono gb d2 h' e)
   ·subst e
    obtain⟨rfl,rfl,rfl⟩:=CalT.uniq gb h' d2
    exact x1
  ·omega
  ·exact CalT.mono gb h h' l
end Fw
namespace Fw
end Fw
namespace Fw
open PySem L2 PyProof.Rows
def top(i:Nat):Stmt:=PySem.Challenge.pw_feastwheel_k65_rules_refused.main.body.getD i (.Pass ⟨0,0,0,0⟩)
abbrev s_TooLong___init__:Stmt:=inClass (top 4) 0
abbrev s_refuse_below_one:Stmt:=top 9
abbrev s_divisor:Stmt:=top 10
abbrev s_equation:Stmt:=top 11
abbrev s_common:Stmt:=top 12
abbrev s_refuse_too_long:Stmt:=top 16
abbrev s_round_by:Stmt:=top 17
abbrev s_days_in:Stmt:=top 18
abbrev s_full_bits:Stmt:=top 21
abbrev s_bits_by:Stmt:=top 22
abbrev s_stretched:Stmt:=top 23
abbrev s_common_size:Stmt:=top 24
abbrev s_both:Stmt:=top 25
abbrev s_either:Stmt:=top 26
abbrev s_unlike:Stmt:=top 27
abbrev s_without:Stmt:=top 28
abbrev s_other_days:Stmt:=top 29
abbrev s_later:Stmt:=top 30
abbrev s_refuse_wanted:Stmt:=top 32
abbrev s_days_of_month:Stmt:=top 33
abbrev s_days_of_year:Stmt:=top 34
abbrev s_dated:Stmt:=top 35
abbrev s_ones_in:Stmt:=top 37
abbrev s_days_ahead:Stmt:=top 38
abbrev s_how_many:Stmt:=top 39
abbrev s_gathered:Stmt:=top 41
abbrev s_upon:Stmt:=top 42
abbrev s_until:Stmt:=top 43
abbrev s_till:Stmt:=top 44
abbrev s_nearer_ahead:Stmt:=top 45
abbrev s_near:Stmt:=top 46
abbrev s_kth:Stmt:=top 47
abbrev s_every:Stmt:=top 48
abbrev s_Rule___init__:Stmt:=inClass (top 50) 0
abbrev s_Rule_size:Stmt:=inClass (top 50) 2
abbrev s_Rule_turn:Stmt:=inClass (top 50) 3
abbrev s_each_text:Stmt:=top 51
abbrev s_Each___init__:Stmt:=inClass (top 52) 0
abbrev s_wanted_text:Stmt:=top 53
abbrev s_dated_text:Stmt:=top 54
abbrev s_Dated___init__:Stmt:=inClass (top 55) 0
abbrev s_Not___init__:Stmt:=inClass (top 56) 0
abbrev s_Both___init__:Stmt:=inClass (top 57) 0
abbrev s_Either___init__:Stmt:=inClass (top 58) 0
abbrev s_But___init__:Stmt:=inClass (top 59) 0
abbrev s_Unlike___init__:Stmt:=inClass (top 60) 0
abbrev s_Later___init__:Stmt:=inClass (top 61) 0
abbrev s_Upon___init__:Stmt:=inClass (top 62) 0
abbrev s_Until___init__:Stmt:=inClass (top 63) 0
abbrev s_Near___init__:Stmt:=inClass (top 64) 0
abbrev s_Till___init__:Stmt:=inClass (top 65) 0
abbrev s_Kth___init__:Stmt:=inClass (top 66) 0
abbrev s_Every___init__:Stmt:=inClass (top 67) 0
abbrev s_term_on:Stmt:=top 72
abbrev s_signs_upto:Stmt:=top 73
abbrev s_is_term:Stmt:=top 74
abbrev s_least_length:Stmt:=top 75
abbrev s_refuse_measure:Stmt:=top 76
abbrev s_period_of:Stmt:=top 77
abbrev s_Measure___init__:Stmt:=inClass (top 78) 0
abbrev s_Measure_at:Stmt:=inClass (top 78) 1
abbrev s_Measure_upto:Stmt:=inClass (top 78) 2
abbrev s_Measure_period:Stmt:=inClass (top 78) 3
abbrev s_Measure_seek:Stmt:=inClass (top 78) 4
abbrev s_refuse_months:Stmt:=top 83
abbrev s_Sun___init__:Stmt:=inClass (top 84) 0
abbrev s_Sun_year_start:Stmt:=inClass (top 84) 1
abbrev s_Sun_year_at:Stmt:=inClass (top 84) 2
abbrev s_Sun_lengths:Stmt:=inClass (top 84) 3
abbrev s_Sun_cycle:Stmt:=inClass (top 84) 4
abbrev s_Change___init__:Stmt:=inClass (top 86) 0
abbrev s_Change_cycle:Stmt:=inClass (top 86) 3
abbrev s_law_cell_at:Stmt:=top 88
abbrev s_law_whole:Stmt:=top 89
abbrev s_law_divisor:Stmt:=top 90
abbrev s_law_sizes:Stmt:=top 91
abbrev s_law_number:Stmt:=top 92
abbrev s_law_pair:Stmt:=top 93
abbrev s_law_made:Stmt:=top 94
abbrev s_law_told:Stmt:=top 95
abbrev s_law_size:Stmt:=top 96
abbrev s_law_due:Stmt:=top 97
abbrev s_law_calendar:Stmt:=top 98
abbrev s_law:Stmt:=top 99
abbrev s_Sun_date_of:Stmt:=inClass (top 82) 0
abbrev s_either_nE:Stmt:=top 26
abbrev s_unlike_nE:Stmt:=top 27
abbrev s_without_nE:Stmt:=top 28
def spCell(K:PySem.W.Frag):Sp:=fun vs H Q _=>∃(a:Addr) (ns:List Int) (k:Int),vs=[.ref a,.int k]∧SqL K H a (ns.map V.int)∧0≤k∧ns.length≤63∧Q (.int (ns.getD k.toNat 0)) H
def spWhole:Sp:=fun vs H Q _=>∃i:Int,vs=[.int i]∧Q (.bl true) H
theorem rd_cell{K:PySem.W.Frag}{a:Addr}{ns:List Int}{k:Int}{H:Hp}{Q:VK}{E:XK}(hS:SqL K H a (ns.map V.int))(hl:ns.length≤63)(hk:0≤k)(h:Q (.int (ns.getD k.toNat 0)) H):spCell K ([.ref a,.int k]++[]) H Q E:=⟨a,ns,k,rfl,hS,hk,hl,h⟩
theorem rd_whole{i:Int}{H:Hp}{Q:VK}{E:XK}(h:Q (.bl true) H):spWhole ([.int i]++[]) H Q E:=⟨i,rfl,h⟩
theorem kit_ib(K:PySem.W.Frag):PySem.W.kitOne K (.type "int") (.type "bool")=some false:=by first | rfl | decide +kernel | with_unfolding_all rfl
theorem at_ints{ns:List Int}{k:Int}(h0:0≤k)(h:k<(ns.length:Int)):atI (ns.map V.int) k=some (.int (ns.getD k.toNat 0)):=by
 have hk:k.toNat<ns.length:=by omega
 have ek:k=((k.toNat:Nat):Int):=by omega
 have q:atI (ns.map V.int) ((k.toNat:Nat):Int)=some (.int ns[k.toNat]):=atI_nat (by rw[List.getElem?_map,List.getElem?_eq_getElem hk]<;>rfl)
 rw[←ek] at q
 rw[q]
 simp[List.getD,hk]
theorem p40:(10:Int)^(40:Int).toNat=10000000000000000000000000000000000000000:=by decide
theorem p39:(10:Int)^(39:Int).toNat=1000000000000000000000000000000000000000:=by decide
theorem bt_of{x:Int}(h1: -1000000000000000000000000000000000000000000000000000000000000≤x)(h2:x≤1000000000000000000000000000000000000000000000000000000000000):Bt 200 x:=by
 unfold Bt
 have:(2:Nat)^200=1606938044258990275541962092341162602522202993782792835301376:=by decide
 omega
theorem two'{a b:V}:([a,b]:List V).length≤sizeLine:=by show 2≤sizeLine;decide
theorem at0{x y:V}:atI [x,y] 0=some x:=rfl
theorem at1{x y:V}:atI [x,y] 1=some y:=rfl
local macro_rules | `(tactic| walk_at "rdc")=> `(tactic| (repeat (first | walk_at "rd1" | ((with_reducible refine' Fw.rd_cell ?hc1 ?hc2 ?hc3 ?_);(case hc1=>assumption);(case hc2=>assumption);(case hc3=>decide)) | with_reducible refine Fw.rd_whole ?_)))
local macro_rules | `(tactic| walk_at "rdy")=> `(tactic| (repeat (first | walk_at "rd1" | ((with_reducible refine' Fw.rd_cell ?hc1 ?hc2 ?hc3 ?_);(case hc1=>assumption);(case hc2=>assumption);(case hc3=>decide)) | with_reducible refine Fw.rd_whole ?_ | with_reducible refine L2.rd_callE ?_ | with_reducible refine L2.rd_raise ?_ | with_reducible refine L2.rd_try ?_ | with_reducible refine L2.rd_xget ?_ | with_reducible refine L2.rd_ifE ?_)))
def spEq:Sp:=fun vs H Q _=>∃a b:Int,vs=[.int a,.int b]∧Bt 500 a∧Bt 500 b∧∀(p:Addr) (u v g:Int) (H':Hp),Same H H'→H' p=some (.tup [.int u,.int v,.int g])→Eqn a b u v g→Q (.ref p) H'
def spDivisor:Sp:=fun vs H Q _=>∃a b:Int,vs=[.int a,.int b]∧Bt 500 a∧Bt 500 b∧∀H',Same H H'→Q (.int (Int.gcd a b:Int)) H'
theorem at30{x y z:V}:atI [x,y,z] 0=some x:=rfl
theorem at31{x y z:V}:atI [x,y,z] 1=some y:=rfl
theorem at32{x y z:V}:atI [x,y,z] 2=some z:=rfl
theorem three{a b c:V}:([a,b,c]:List V).length≤sizeLine:=by show 3≤sizeLine;decide
theorem two{a b:V}:([a,b]:List V).length≤sizeLine:=by show 2≤sizeLine;decide
theorem bt_le{k m:Nat}{x y:Int}(h:Bt k y)(l:x.natAbs≤4*y.natAbs+4)(hk:k+4≤m):Bt m x:=by
 unfold Bt at*
 have p:2^(k+4)≤2^m:=Nat.pow_le_pow_right (by decide) hk
 have e:2^(k+4)=2^k*16:=by rw[Nat.pow_add]
 omega
theorem bt_le2{k m:Nat}{x y z:Int}(h:Bt k y)(h':Bt k z)(l:x.natAbs≤y.natAbs+z.natAbs+4)(hk:k+4≤m):Bt m x:=by
 unfold Bt at*
 have p:2^(k+4)≤2^m:=Nat.pow_le_pow_right (by decide) hk
 have e:2^(k+4)=2^k*16:=by rw[Nat.pow_add]
 omega
theorem bt_small{k:Nat}{x:Int}(h0:0≤x)(h1:x<18446744073709551616)(hk:64≤k):Bt k x:=Bt.mono (k:=64) (by unfold Bt;omega) hk
def spFull:Sp:=fun vs H Q _=>∃n:Int,vs=[.int n]∧0≤n∧n≤1000000∧Q (.int ((2^n.toNat-1:Nat):Int)) H
theorem bt_nat{b n:Nat}(h:b<2^n):Bt n (b:Int):=by unfold Bt;rw[Int.natAbs_natCast];exact h
theorem bt1:Bt 1 1:=by unfold Bt;decide
def spBitsByL(K:PySem.W.Frag):Sp:=fun vs H Q _=>∃(a:Addr) (n z:Int) (b:Nat),vs=[.ref a,.int z]∧SqT K H a [.int n,.int (b:Int)]∧0<n∧n≤300000∧b<2^n.toNat∧0<z∧z≤150000∧
 ∀c:Nat,Strt n.toNat b z.toNat c→Q (.int (c:Int)) H
def spOther(K:PySem.W.Frag):Sp:=fun vs H Q _=>∃(a:Addr) (n:Int) (b:Nat),vs=[.ref a]∧SqT K H a [.int n,.int (b:Int)]∧0<n∧n≤150000∧b<2^n.toNat∧
 ∀(p:Addr) (c:Nat),H p=none→c<2^n.toNat→(∀i,i<n.toNat→c.testBit i=!b.testBit i)→Q (.ref p) (upd H p (.tup [.int n,.int (c:Int)]))
theorem bt_div{k:Nat}{d n:Int}(h:Bt k d)(hn:0<n):Bt k (d/n):=by
 refine h.le ?_
 rcases Int.lt_or_le d 0 with c | c
 ·have h1:d/n<0:=Int.ediv_neg_of_neg_of_pos c hn
  have h2:d≤d/n:=(Int.le_ediv_iff_mul_le hn).mpr (by
   have:=Int.mul_le_mul_of_nonpos_left (show d≤0 by omega) (show 1≤n by omega)
   omega)
  omega
 ·have h1:0≤d/n:=Int.ediv_nonneg c (by omega)
  have h2:d/n≤d:=Int.ediv_le_self n c
  omega
theorem _root_.L2.Bt.sub{k:Nat}{x y:Int}(h:Bt k x)(g:Bt k y):Bt (k+1) (x-y):=by
 have:=h.add g.neg
 rwa [←Int.sub_eq_add_neg] at this
def tmV(t:Tm):List V:=[.int t.1,.int t.2.1,.int t.2.2.1,.int t.2.2.2]
inductive Tms(H:Hp):List V→List Tm→Prop
 | nil:Tms H [] []
 | cons {p:Addr} {t:Tm} {vs:List V} {ts:List Tm}:H p=some (.tup (tmV t))→Tms H vs ts→Tms H (.ref p::vs) (t::ts)
theorem Tms.same{H H':Hp}(s:Same H H'):∀{vs:List V} {ts:List Tm},Tms H vs ts→Tms H' vs ts
 | _,_,.nil=>.nil
 | _,_,.cons h t=>.cons (s _ _ h) (Tms.same s t)
theorem Tms.len{H:Hp}:∀{vs:List V} {ts:List Tm},Tms H vs ts→vs.length=ts.length
 | _,_,.nil=>rfl
 | _,_,.cons _ t=>by rw[List.length_cons,List.length_cons,Tms.len t]
theorem Tms.mem{H:Hp}{x:V}:∀{vs:List V} {ts:List Tm},Tms H vs ts→x∈vs→∃p t,x=.ref p∧t∈ts∧H p=some (.tup (tmV t))
 | _,_,.nil,h=>nomatch h
 | _,_,.cons g r,h=>by
  rcases List.mem_cons.mp h with e | e
  ·exact⟨_,_,e,List.mem_cons_self,g⟩
  ·obtain⟨p,t,e1,e2,e3⟩:=Tms.mem r e
   exact⟨p,t,e1,List.mem_cons_of_mem _ e2,e3⟩
theorem Tms.at{H:Hp}:∀{vs:List V} {ts:List Tm},Tms H vs ts→∀{i:Nat} {x:V},vs[i]?=some x→∃p t,x=.ref p∧ts[i]?=some t∧H p=some (.tup (tmV t))
 | _,_,.nil,i,x,h=>by simp at h
 | _,_,.cons g r,0,x,h=>by
  injection h with h
  exact⟨_,_,h.symm,rfl,g⟩
 | _,_,.cons g r,i+1,x,h=>Tms.at r (i:=i) h
def tmAt(H:Hp)(v:V):Option Tm:=match v with
 | .ref p=>match H p with
  | some (.tup [.int s,.int a,.int b,.int n])=>some (s,a,b,n)
  | _=>none
 | _=>none
theorem tmAt_eq{H:Hp}{p:Addr}{t:Tm}(h:H p=some (.tup (tmV t))):tmAt H (.ref p)=some t:=by
 unfold tmAt tmV at*
 simp only[h]
theorem Tms.fm{H:Hp}(g:Tm→Bool)(f:Tm→V):∀{vs:List V} {ts:List Tm},Tms H vs ts→(vs.filter fun v=>((tmAt H v).map g).getD false).map (fun v=>((tmAt H v).map f).getD .non)=(ts.filter g).map f
 | _,_,.nil=>rfl
 | _,_,.cons (p:=p) (t:=t) h r=>by
  rw[List.filter_cons,List.filter_cons,tmAt_eq h]
  show(if g t=true then _ else _:List V).map _=_
  by_cases c:g t=true
  ·rw[if_pos c,if_pos c,List.map_cons,List.map_cons,Tms.fm g f r,tmAt_eq h]
   rfl
  ·rw[if_neg c,if_neg c,Tms.fm g f r]
theorem at40{t:Tm}:atI (tmV t) 0=some (V.int t.1):=rfl
theorem at41{t:Tm}:atI (tmV t) 1=some (V.int t.2.1):=rfl
theorem at42{t:Tm}:atI (tmV t) 2=some (V.int t.2.2.1):=rfl
theorem at43{t:Tm}:atI (tmV t) 3=some (V.int t.2.2.2):=rfl
structure TmT(K:PySem.W.Frag)(H:Hp)(p:Addr)(ts:List Tm):Prop where
 ex:∃vs,SqT K H p vs∧Tms H vs ts
 ok:∀t∈ts,OkT t
 few:ts.length≤6
theorem TmT.same{K:PySem.W.Frag}{H H':Hp}{p:Addr}{ts:List Tm}(T:TmT K H p ts)(s:Same H H'):TmT K H' p ts:=by
 obtain⟨vs,h1,h2⟩:=T.ex
 exact⟨⟨vs,s.tup h1,h2.same s⟩,T.ok,T.few⟩
def spTermOn:Sp:=fun vs H Q _=>∃(p:Addr) (k:Int) (t:Tm),vs=[.ref p,.int k]∧H p=some (.tup (tmV t))∧OkT t∧Bt 400 k∧Q (.bl (onT t k)) H
def spSigns(K:PySem.W.Frag):Sp:=fun vs H Q _=>∃(p:Addr) (k:Int) (ts:List Tm),vs=[.ref p,.int k]∧TmT K H p ts∧Bt 400 k∧∀H',Same H H'→Q (.int (SU ts k)) H'
def spIsTerm:Sp:=fun vs H Q _=>∃(p:Addr) (t:Tm),vs=[.ref p]∧H p=some (.tup (tmV t))∧OkT t∧Q (.bl true) H
def spLeast(K:PySem.W.Frag):Sp:=fun vs H Q _=>∃(p:Addr) (b:Int) (ts:List Tm),vs=[.int b,.ref p]∧TmT K H p ts∧∀H',Same H H'→Q (.int (b-falls ts)) H'
structure GoodM(b:Int)(ts:List Tm):Prop where
 b0:0≤b
 b1:b≤20000
 fl:falls ts≤b
def spRefuseM(K:PySem.W.Frag):Sp:=fun vs H Q _=>∃(p:Addr) (b:Int) (ts:List Tm),vs=[.int b,.ref p]∧TmT K H p ts∧GoodM b ts∧∀H',Same H H'→Q .non H'
def spPeriod(K:PySem.W.Frag):Sp:=fun vs H Q _=>∃(p:Addr) (ts:List Tm),vs=[.ref p]∧TmT K H p ts∧∀H',Same H H'→Q (.int (PER ts)) H'
theorem per_pow{ts:List Tm}(h:∀t∈ts,OkT t):∀(i:Nat),i≤6→0<PER (ts.take i)∧PER (ts.take i)≤1000^i
 | 0,_=>⟨(show (0:Int)<1 by decide),(show (1:Int)≤1 by decide)⟩
 | i+1,hi=>by
  obtain⟨h1,h2⟩:=per_pow h i (by omega)
  rw[List.take_add_one]
  cases e:ts[i]? with
  | none=>
   simp only[Option.toList_none,List.append_nil]
   refine⟨h1,Int.le_trans h2 ?_⟩
   rw[Int.pow_succ]
   have:(0:Int)<1000^i:=Int.pow_pos (by decide)
   omega
  | some t=>
   have ok:=h t (List.mem_of_getElem? e)
   have e2:PER (ts.take i++(some t).toList)=lcmI (PER (ts.take i)) t.2.2.2:=by
    unfold PER
    rw[Option.toList_some,List.foldl_append]
    rfl
   rw[e2]
   have n0:=ok.n0
   refine⟨(lcmI_facts h1 (by omega)).1,Int.le_trans (lcmI_le h1 (by omega)) ?_⟩
   rw[Int.pow_succ]
   exact Int.mul_le_mul h2 ok.n1 (by omega) (Int.le_of_lt (Int.pow_pos (by decide)))
theorem pow6{i:Nat}(h:i≤6):(1000:Int)^i≤1000000000000000000:=by
 rcases(by omega:i=0∨i=1∨i=2∨i=3∨i=4∨i=5∨i=6) with e | e | e | e | e | e | e<;>subst e<;>decide
theorem per_dvd{ts:List Tm}(h:∀t∈ts,OkT t):∀(i:Nat),i≤6→∀t∈ts.take i,t.2.2.2∣PER (ts.take i)
 | 0,_=>fun t ht=>by simp at ht
 | i+1,hi=>by
  obtain⟨h1,_⟩:=per_pow h i (by omega)
  have ih:=per_dvd h i (by omega)
  rw[List.take_add_one]
  cases e:ts[i]? with
  | none=>
   simp only[Option.toList_none,List.append_nil]
   exact ih
  | some u=>
   have ok:=h u (List.mem_of_getElem? e)
   have e2:PER (ts.take i++(some u).toList)=lcmI (PER (ts.take i)) u.2.2.2:=by
    unfold PER
    rw[Option.toList_some,List.foldl_append]
    rfl
   have n0:=ok.n0
   have f:=lcmI_facts h1 (show 0<u.2.2.2 by omega)
   rw[e2]
   intro t ht
   rcases List.mem_append.mp ht with z | z
   ·exact Int.dvd_trans (ih t z) f.2.1
   ·rw[Option.toList_some,List.mem_singleton] at z
    subst z
    exact f.2.2.1
def mF(b:Int)(p:Addr)(c s:Int):List (Str×V):=[("base",.int b),("terms",.ref p),("full_count",.int c),("full_sum",.int s)]
structure Me(K:PySem.W.Frag)(C:Addr)(H:Hp)(x:Addr)(b:Int)(ts:List Tm):Prop where
 ex:∃dx p,H x=some (.ins C dx (mF b p (PER ts) (UP b ts (PER ts))))∧TmT K H p ts
 gd:GoodM b ts
 po:0<UP b ts (PER ts)
def spUpto(K:PySem.W.Frag)(C:Addr):Sp:=fun vs H Q _=>∃(x p dx:Addr) (k b:Int) (ts:List Tm) (fs:List (Str×V)),vs=[.ref x,.int k]∧H x=some (.ins C dx fs)∧fs.lookup (Str.ofString "base")=some (V.int b)∧fs.lookup (Str.ofString "terms")=some (V.ref p)∧TmT K H p ts∧0≤b∧b≤20000∧Bt 400 k∧∀H',Same H H'→Q (.int (UP b ts k)) H'
def spSeek(K:PySem.W.Frag)(C:Addr):Sp:=fun vs H Q _=>∃(x:Addr) (n b:Int) (ts:List Tm),vs=[.ref x,.int n]∧Me K C H x b ts∧Bt 300 n∧∀(k:Int) H',Same H H'→UP b ts k≤n→n<UP b ts (k+1)→Bt 370 k→Q (.int k) H'
def spInitM(K:PySem.W.Frag)(C:Addr):Sp:=fun vs H Q _=>∃(x dx:Addr) (b:Int) (v:V) (us:List V) (ts:List Tm),vs=[.ref x,.int b,v]∧H x=some (.ins C dx [])∧Tms H us ts∧((v=.non∧us=[])∨∃l,v=.ref l∧H l=some (.lst us))∧(∀t∈ts,OkT t)∧ts.length≤6∧GoodM b ts∧0<UP b ts (PER ts)∧
 ∀H',(∀y o,y≠x→H y=some o→H' y=some o)→Me K C H' x b ts→Q .non H'
theorem Me.same{K:PySem.W.Frag}{C:Addr}{H H':Hp}{x:Addr}{b:Int}{ts:List Tm}(M:Me K C H x b ts)(s:Same H H'):Me K C H' x b ts:=by
 obtain⟨dx,p,e,T⟩:=M.ex
 exact⟨⟨dx,p,s _ _ e,T.same s⟩,M.gd,M.po⟩
theorem Me.meth{K:PySem.W.Frag}{C:Addr}{H:Hp}{x:Addr}{b:Int}{ts:List Tm}(M:Me K C H x b ts):∃dx fs,H x=some (.ins C dx fs)∧fs.lookup (Str.ofString "seek")=none∧fs.lookup (Str.ofString "at")=none∧fs.lookup (Str.ofString "upto")=none∧fs.lookup (Str.ofString "period")=none:=by
 obtain⟨dx,p,e,T⟩:=M.ex
 exact⟨dx,_,e,rfl,rfl,rfl,rfl⟩
def spAt(K:PySem.W.Frag)(C:Addr):Sp:=fun vs H Q _=>∃(x:Addr) (k b:Int) (ts:List Tm),vs=[.ref x,.int k]∧Me K C H x b ts∧Bt 400 k∧∀H',Same H H'→Q (.int (AT b ts k)) H'
def spPer(K:PySem.W.Frag)(C:Addr):Sp:=fun vs H Q _=>∃(x:Addr) (b:Int) (ts:List Tm),vs=[.ref x]∧Me K C H x b ts∧Q (.int (PER ts)) H
theorem init_me{K:PySem.W.Frag}{C:Addr}{H1:Hp}{x dx:Addr}{b:Int}{v:V}{us:List V}{ts:List Tm}{Q:VK}{E:XK}(hx:H1 x=none)(hdx:H1 dx=none)(ne:dx≠x)(hT:Tms H1 us ts)(hv:(v=.non∧us=[])∨∃l,v=.ref l∧H1 l=some (.lst us))(ok:∀t∈ts,OkT t)(few:ts.length≤6)(g:GoodM b ts)(po:0<UP b ts (PER ts))
 (q:∀H',Same H1 H'→Me K C H' x b ts→Q .non H'):spInitM K C [.ref x,.int b,v] (upd (upd H1 dx (.own x)) x (.ins C dx [])) Q E:=by
 have k4:Same H1 (upd (upd H1 dx (.own x)) x (.ins C dx [])):=(same_new hdx _).trans (same_new (by rw[upd_ne (Ne.symm ne)];exact hx) _)
 have x4:upd (upd H1 dx (.own x)) x (.ins C dx []) x=some (.ins C dx []):=upd_same
 refine⟨x,dx,b,v,us,ts,rfl,x4,hT.same k4,?_,ok,few,g,po,fun H5 k5 M=>q _ (fun y o h=>k5 y o (fun e=>by subst e;rw[hx] at h;cases h) (k4 y o h)) M⟩
 rcases hv with z | ⟨l,z,e⟩
 ·exact .inl z
 ·exact .inr ⟨l,z,k4 _ _ e⟩
def But(l:Addr)(H H':Hp):Prop:=∀y o,y≠l→H y=some o→H' y=some o
theorem But.upd{l:Addr}{H:Hp}{o:HO}:But l H (L2.upd H l o):=fun y o hy h=>by rw[upd_ne hy];exact h
structure NoT(o:HO):Prop where
 t:∀vs,o≠.tup vs
 f:∀ob u,o≠.frz ob u
theorem NoT.lst{xs:List V}:NoT (.lst xs):=⟨fun _ z=>(nomatch z),fun _ _ z=>(nomatch z)⟩
theorem NoT.ins{C d:Addr}{fs:List (Str×V)}:NoT (.ins C d fs):=⟨fun _ z=>(nomatch z),fun _ _ z=>(nomatch z)⟩
theorem Tms.but{l:Addr}{H H':Hp}{o:HO}(hl:H l=some o)(no:NoT o)(k:But l H H'):∀{vs:List V} {ts:List Tm},Tms H vs ts→Tms H' vs ts
 | _,_,.nil=>.nil
 | _,_,.cons g r=>.cons (k _ _ (ne_of g hl (Ne.symm (no.t _))) g) (Tms.but hl no k r)
theorem sqT_but{K:PySem.W.Frag}{l p:Addr}{H H':Hp}{o:HO}{vs:List V}(hl:H l=some o)(no:NoT o)(k:But l H H')(h:SqT K H p vs):SqT K H' p vs:=by
 rcases h with (h | ⟨o,h⟩) | h
 ·exact .inl (.inl (k _ _ (ne_of h hl (Ne.symm (no.t _))) h))
 ·exact .inl (.inr ⟨o,k _ _ (ne_of h hl (Ne.symm (no.f _ _))) h⟩)
 ·exact .inr h
theorem TmT.but{K:PySem.W.Frag}{l p:Addr}{H H':Hp}{o:HO}{ts:List Tm}(hl:H l=some o)(no:NoT o)(k:But l H H')(T:TmT K H p ts):TmT K H' p ts:=by
 obtain⟨vs,h1,h2⟩:=T.ex
 exact⟨⟨vs,sqT_but hl no k h1,h2.but hl no k⟩,T.ok,T.few⟩
theorem Me.butX{K:PySem.W.Frag}{C l:Addr}{H H':Hp}{o:HO}{x:Addr}{b:Int}{ts:List Tm}(M:Me K C H x b ts)(hl:H l=some o)(no:NoT o)(ne:x≠l)(k:But l H H'):Me K C H' x b ts:=by
 obtain⟨dx,p,e,T⟩:=M.ex
 exact⟨⟨dx,p,k _ _ ne e,T.but hl no k⟩,M.gd,M.po⟩
theorem Me.but{K:PySem.W.Frag}{C l:Addr}{H H':Hp}{xs:List V}{x:Addr}{b:Int}{ts:List Tm}(M:Me K C H x b ts)(hl:H l=some (.lst xs))(k:But l H H'):Me K C H' x b ts:=by
 obtain⟨dx,p,e,T⟩:=M.ex
 exact M.butX hl .lst (ne_of e hl (by intro z;cases z)) k
structure TmL(K:PySem.W.Frag)(H:Hp)(l:Addr)(us:List V)(ts:List Tm):Prop where
 li:H l=some (.lst us)
 tm:Tms H us ts
 ok:∀t∈ts,OkT t
 few:ts.length≤6
theorem TmL.same{K:PySem.W.Frag}{H H':Hp}{l:Addr}{us:List V}{ts:List Tm}(T:TmL K H l us ts)(s:Same H H'):TmL K H' l us ts:=⟨s _ _ T.li,T.tm.same s,T.ok,T.few⟩
theorem GoodS.gm{ls:List Int}{lp:Int}{ts:List Tm}(g:GoodS ls lp ts):GoodM ls.sum ts:=⟨g.sum.1,g.sum.2,Int.le_of_lt g.f1⟩
theorem per_pos{ts:List Tm}(ok:∀t∈ts,OkT t)(few:ts.length≤6):0<PER ts∧PER ts≤1000000000000000000∧∀t∈ts,t.2.2.2∣PER ts:=by
 obtain⟨h1,h2⟩:=per_pow ok 6 (by decide)
 have hd:=per_dvd ok 6 (by decide)
 rw[List.take_of_length_le few] at h1 h2 hd
 exact⟨h1,Int.le_trans h2 (pow6 (by decide)),hd⟩
theorem GoodS.po{ls:List Int}{lp:Int}{ts:List Tm}(g:GoodS ls lp ts):0<UP ls.sum ts (PER ts):=UP_pos g.ok g.f1 (per_pos g.ok g.few).1
def sF(s lp:Int)(p y:Addr):List (Str×V):=[("start",.int s),("months",.ref p),("leap",.int lp),("years",.ref y)]
structure SunO(K:PySem.W.Frag)(CS CM:Addr)(H:Hp)(x:Addr)(s:Int)(ls:List Int)(lp:Int)(ts:List Tm):Prop where
 ex:∃dx p y,H x=some (.ins CS dx (sF s lp p y))∧SqT K H p (ls.map V.int)∧Me K CM H y ls.sum ts
 gd:GoodS ls lp ts
 bs:Bt 290 s
section
variable{K:PySem.W.Frag}{CS CM:Addr}{H H':Hp}{x:Addr}{s:Int}{ls:List Int}{lp:Int}{ts:List Tm}
theorem SunO.same(S:SunO K CS CM H x s ls lp ts)(e:Same H H'):SunO K CS CM H' x s ls lp ts:=by
 obtain⟨dx,p,y,h1,h2,h3⟩:=S.ex
 exact⟨⟨dx,p,y,e _ _ h1,e.tup h2,h3.same e⟩,S.gd,S.bs⟩
theorem SunO.but{l:Addr}{xs:List V}(S:SunO K CS CM H x s ls lp ts)(hl:H l=some (.lst xs))(k:But l H H'):SunO K CS CM H' x s ls lp ts:=by
 obtain⟨dx,p,y,h1,h2,h3⟩:=S.ex
 exact⟨⟨dx,p,y,k _ _ (ne_of h1 hl (by intro z;cases z)) h1,sqT_but hl .lst k h2,h3.but hl k⟩,S.gd,S.bs⟩
theorem SunO.meth(S:SunO K CS CM H x s ls lp ts):∃dx fs,H x=some (.ins CS dx fs)∧fs.lookup (Str.ofString "year_start")=none∧fs.lookup (Str.ofString "year_at")=none∧fs.lookup (Str.ofString "lengths")=none∧fs.lookup (Str.ofString "cycle")=none∧fs.lookup (Str.ofString "date_of")=none∧fs.lookup (Str.ofString "day_of")=none:=by
 obtain⟨dx,p,y,e,_⟩:=S.ex
 exact⟨dx,_,e,rfl,rfl,rfl,rfl,rfl,rfl⟩
end
def spRefMo(K:PySem.W.Frag):Sp:=fun vs H Q _=>∃(l:Addr) (lp:Int) (ls:List Int) (ts:List Tm),vs=[.ref l,.int lp]∧SqL K H l (ls.map V.int)∧GoodS ls lp ts∧Q .non H
def spInitS(K:PySem.W.Frag)(CS CM:Addr):Sp:=fun vs H Q _=>∃(x dx ll:Addr) (s lp:Int) (v:V) (us:List V) (ls:List Int) (ts:List Tm),vs=[.ref x,.int s,.ref ll,.int lp,v]∧H x=some (.ins CS dx [])∧H ll=some (.lst (ls.map V.int))∧Tms H us ts∧((v=.non∧us=[])∨∃l,v=.ref l∧H l=some (.lst us))∧GoodS ls lp ts∧Bt 290 s∧
 ∀H',(∀y o,y≠x→H y=some o→H' y=some o)→SunO K CS CM H' x s ls lp ts→Q .non H'
theorem init_sun{K:PySem.W.Frag}{CS CM:Addr}{H1:Hp}{x dx ll:Addr}{s lp:Int}{v:V}{us:List V}{ls:List Int}{ts:List Tm}{Q:VK}{E:XK}(hx:H1 x=none)(hdx:H1 dx=none)(ne:dx≠x)(hl:H1 ll=some (.lst (ls.map V.int)))(hT:Tms H1 us ts)(hv:(v=.non∧us=[])∨∃l,v=.ref l∧H1 l=some (.lst us))(g:GoodS ls lp ts)(bs:Bt 290 s)
 (q:∀H',Same H1 H'→SunO K CS CM H' x s ls lp ts→Q .non H'):spInitS K CS CM [.ref x,.int s,.ref ll,.int lp,v] (upd (upd H1 dx (.own x)) x (.ins CS dx [])) Q E:=by
 have k4:Same H1 (upd (upd H1 dx (.own x)) x (.ins CS dx [])):=(same_new hdx _).trans (same_new (by rw[upd_ne (Ne.symm ne)];exact hx) _)
 have x4:upd (upd H1 dx (.own x)) x (.ins CS dx []) x=some (.ins CS dx []):=upd_same
 refine⟨x,dx,ll,s,lp,v,us,ls,ts,rfl,x4,k4 _ _ hl,hT.same k4,?_,g,bs,fun H5 k5 M=>q _ (fun y o h=>k5 y o (fun e=>by subst e;rw[hx] at h;cases h) (k4 y o h)) M⟩
 rcases hv with z | ⟨l,z,e⟩
 ·exact .inl z
 ·exact .inr ⟨l,z,k4 _ _ e⟩
def spYS(K:PySem.W.Frag)(CS CM:Addr):Sp:=fun vs H Q _=>∃(x:Addr) (n s:Int) (ls:List Int) (lp:Int) (ts:List Tm),vs=[.ref x,.int n]∧SunO K CS CM H x s ls lp ts∧Bt 390 n∧∀H',Same H H'→Q (.int (s+UP ls.sum ts n)) H'
def spYA(K:PySem.W.Frag)(CS CM:Addr):Sp:=fun vs H Q _=>∃(x:Addr) (n s:Int) (ls:List Int) (lp:Int) (ts:List Tm),vs=[.ref x,.int n]∧SunO K CS CM H x s ls lp ts∧Bt 290 n∧∀(k:Int) H',Same H H'→s+UP ls.sum ts k≤n→n<s+UP ls.sum ts (k+1)→Bt 300 k→Q (.int k) H'
def spLens(K:PySem.W.Frag)(CS CM:Addr):Sp:=fun vs H Q _=>∃(x:Addr) (n s:Int) (ls:List Int) (lp:Int) (ts:List Tm),vs=[.ref x,.int n]∧SunO K CS CM H x s ls lp ts∧Bt 390 n∧∀(p:Addr) H',H p=none→Same H H'→H' p=some (.lst ((LENS ls lp ts n).map V.int))→Q (.ref p) H'
def spCyc(K:PySem.W.Frag)(CS CM:Addr):Sp:=fun vs H Q _=>∃(x:Addr) (s:Int) (ls:List Int) (lp:Int) (ts:List Tm),vs=[.ref x]∧SunO K CS CM H x s ls lp ts∧∀(p:Addr) H',Same H H'→H' p=some (.tup [.int (PER ts),.int (UP ls.sum ts (PER ts))])→Q (.ref p) H'
def moF(s:Int)(d m:Addr):List (Str×V):=[("start",.int s),("days",.ref d),("many",.ref m)]
structure MoonO(K:PySem.W.Frag)(CO CM:Addr)(H:Hp)(x:Addr)(s bd:Int)(td:List Tm)(bm:Int)(tm:List Tm):Prop where
 ex:∃dx d m,H x=some (.ins CO dx (moF s d m))∧Me K CM H d bd td∧Me K CM H m bm tm
 gd:GoodMo bd td bm tm
 bs:Bt 290 s
section
variable{K:PySem.W.Frag}{CO CM:Addr}{H H':Hp}{x:Addr}{s bd:Int}{td:List Tm}{bm:Int}{tm:List Tm}
theorem MoonO.same(S:MoonO K CO CM H x s bd td bm tm)(e:Same H H'):MoonO K CO CM H' x s bd td bm tm:=by
 obtain⟨dx,d,m,h1,h2,h3⟩:=S.ex
 exact⟨⟨dx,d,m,e _ _ h1,h2.same e,h3.same e⟩,S.gd,S.bs⟩
end
structure MdT(K:PySem.W.Frag)(H:Hp)(p l:Addr)(us:List V)(b:Int)(ts:List Tm):Prop where
 tu:H p=some (.tup [.int b,.ref l])
 tm:TmL K H l us ts
 fl:falls ts<b
theorem MdT.same{K:PySem.W.Frag}{H H':Hp}{p l:Addr}{us:List V}{b:Int}{ts:List Tm}(T:MdT K H p l us b ts)(s:Same H H'):MdT K H' p l us b ts:=⟨s _ _ T.tu,T.tm.same s,T.fl⟩
theorem rd_brk{D:Ends}{σ:L2.St}{H:Hp}(h:D.bk σ H):tBreak D σ H:=h
def CalO(K:PySem.W.Frag)(CS CO CM:Addr)(H:Hp)(x:Addr):CalD→Prop
 | .sun s ls lp ts=>SunO K CS CM H x s ls lp ts
 | .moon s bd td bm tm=>MoonO K CO CM H x s bd td bm tm
def isSun:CalD→Bool
 | .sun .. =>true
 | .moon .. =>false
section
variable{K:PySem.W.Frag}{CS CO CM:Addr}{H H':Hp}{x:Addr}{d:CalD}
theorem CalO.same(S:CalO K CS CO CM H x d)(e:Same H H'):CalO K CS CO CM H' x d:=by
 cases d with
 | sun s ls lp ts=>exact SunO.same S e
 | moon s bd td bm tm=>exact MoonO.same S e
theorem CalO.good(S:CalO K CS CO CM H x d):d.good:=by
 cases d with
 | sun s ls lp ts=>exact SunO.gd S
 | moon s bd td bm tm=>exact MoonO.gd S
end
def spDate(K:PySem.W.Frag)(CS CO CM:Addr)(b:Bool):Sp:=fun vs H Q _=>∃(x:Addr) (n:Int) (d:CalD),vs=[.ref x,.int n]∧isSun d=b∧CalO K CS CO CM H x d∧Bt 290 n∧∀(p:Addr) (y m r:Int) H',Same H H'→H' p=some (.tup [.int y,.int m,.int r])→IsD d y m r→DayOf d y m r=n→Bt 300 y→Q (.ref p) H'
section
variable{K:PySem.W.Frag}{CS CO CM:Addr}{H H':Hp}{x:Addr}{d:CalD}
end
theorem bt_log{k:Nat}{x:Int}(h:Bt k x)(hk:k≤1920)(h0:0<k):x.natAbs.log2<1920:=by
 unfold Bt at h
 by_cases z:x.natAbs=0
 ·rw[z];decide
 ·exact Nat.lt_of_lt_of_le ((Nat.log2_lt z).mpr h) hk
instance {a b c a' b' c':Int}:Decidable (DLe a b c a' b' c'):=by unfold DLe;infer_instance
instance {a b c a' b' c':Int}:Decidable (DLt a b c a' b' c'):=by unfold DLt;infer_instance
theorem lex_le{a b c a' b' c':Int}:lexB (fun i j=>decide (i≤j)) true [a,b,c] [a',b',c']=decide (DLe a b c a' b' c'):=by
 rw[Bool.eq_iff_iff,decide_eq_true_eq]
 unfold DLe
 by_cases h1:a=a'
 ·rw[lexB,if_pos h1]
  by_cases h2:b=b'
  ·rw[lexB,if_pos h2]
   by_cases h3:c=c'
   ·rw[lexB,if_pos h3]
    exact⟨fun _=>by omega,fun _=>rfl⟩
   ·rw[lexB,if_neg h3,decide_eq_true_eq]
    omega
  ·rw[lexB,if_neg h2,decide_eq_true_eq]
   omega
 ·rw[lexB,if_neg h1,decide_eq_true_eq]
  omega
def cF(o n:Addr)(k:Int)(lo fn:Addr):List (Str×V):=[("old",.ref o),("new",.ref n),("day",.int k),("last_old",.ref lo),("first_new",.ref fn)]
def CalH(K:PySem.W.Frag)(CS CO CM CC:Addr)(H:Hp):Addr→CalT→Prop
 | x,.one d=>CalO K CS CO CM H x d
 | x,.chg a b k=>∃(dx o n lo fn:Addr) (p q s p' q' s':Int),H x=some (.ins CC dx (cF o n k lo fn))∧CalH K CS CO CM CC H o a∧CalH K CS CO CM CC H n b∧H lo=some (.tup [.int p,.int q,.int s])∧H fn=some (.tup [.int p',.int q',.int s'])∧
  a.D (k-1) p q s∧b.D k p' q' s'∧DLt p q s p' q' s'∧Bt 288 k
theorem made_in{H1:Hp}{x dx:Addr}{o o':HO}(hx:H1 x=none)(hd:H1 dx=none):Same H1 (upd (upd H1 dx o) x o'):=fun y u e=>by
 rw[upd_ne (ne_of_none e hx),upd_ne (ne_of_none e hd)];exact e
section
variable{K:PySem.W.Frag}{CS CO CM CC cD cG:Addr}{H H':Hp}
theorem CalH.same:∀{c:CalT} {x:Addr},CalH K CS CO CM CC H x c→Same H H'→CalH K CS CO CM CC H' x c
 | .one d,x,S,e=>CalO.same S e
 | .chg a b k,x,S,e=>by
  obtain⟨dx,o,n,lo,fn,p,q,s,p',q',s',h1,h2,h3,h4,h5,h6⟩:=S
  exact⟨dx,o,n,lo,fn,p,q,s,p',q',s',e _ _ h1,CalH.same h2 e,CalH.same h3 e,e _ _ h4,e _ _ h5,h6⟩
end
section
variable{K:PySem.W.Frag}{CS CO CM CC cD cG:Addr}{H H':Hp}{x:Addr}
end
def CalT.bd(k:Nat):CalT→Prop
 | .one d=>Bt k d.st
 | .chg a b _=>a.bd k∧b.bd k
theorem Bt.one(k:Nat):Bt (k+1) 1:=by
 unfold Bt
 have:0<2^k:=Nat.two_pow_pos k
 rw[Nat.pow_succ]
 omega
def okNum(v:V):Prop:=∃i:Int,v=.int i∧i.natAbs.log2<1920
def ELong(cT:Addr)(n:Int)(H:Hp)(E:XK):Prop:=∀d H',Same H H'→H' d=some (.xd [("needed",.int n)])→E (.ref cT) (some d) H'
def ENum(cN:Addr)(H:Hp)(E:XK):Prop:=∀H',Same H H'→E (.ref cN) none H'
theorem ELong.later{cT:Addr}{n:Int}{H H':Hp}{E:XK}(h:ELong cT n H E)(s:Same H H'):ELong cT n H' E:=fun d H2 s2 e=>h d H2 (s.trans s2) e
theorem ENum.later{cN:Addr}{H H':Hp}{E:XK}(h:ENum cN H E)(s:Same H H'):ENum cN H' E:=fun H2 s2=>h H2 (s.trans s2)
theorem ENum.here{cN:Addr}{H:Hp}{E:XK}(h:ENum cN H E):E (.ref cN) none H:=h H (Same.refl H)
def spRefuseE(cN:Addr):Sp:=fun vs H Q E=>∃n:Int,vs=[.int n]∧(1≤n→Q .non H)∧(n<1→ENum cN H E)
def spTooLongE(cT:Addr):Sp:=fun vs H Q E=>∃n:Int,vs=[.int n]∧Bt 1900 n∧(n≤150000→Q .non H)∧(150000<n→ELong cT n H E)
def spCommonE(cN:Addr):Sp:=fun vs H Q E=>∃a b:Int,vs=[.int a,.int b]∧Bt 500 a∧Bt 500 b∧(1≤a→1≤b→∀H',Same H H'→Q (.int (lcmI a b)) H')∧(¬(1≤a∧1≤b)→ENum cN H E)
structure Two(K:PySem.W.Frag)(H:Hp)(a1 a2:Addr)(n1 n2:Int)(b1 b2:Nat):Prop where
 s1:SqT K H a1 [.int n1,.int (b1:Int)]
 s2:SqT K H a2 [.int n2,.int (b2:Int)]
 p1:0<n1
 p2:0<n2
 l1:n1≤150000
 l2:n2≤150000
 k1:b1<2^n1.toNat
 k2:b2<2^n2.toNat
theorem Two.later{K:PySem.W.Frag}{H H':Hp}{a1 a2:Addr}{n1 n2:Int}{b1 b2:Nat}(t:Two K H a1 a2 n1 n2 b1 b2)(s:Same H H'):Two K H' a1 a2 n1 n2 b1 b2:=⟨s.tup t.s1,s.tup t.s2,t.p1,t.p2,t.l1,t.l2,t.k1,t.k2⟩
theorem Two.bt{K:PySem.W.Frag}{H:Hp}{a1 a2:Addr}{n1 n2:Int}{b1 b2:Nat}(t:Two K H a1 a2 n1 n2 b1 b2):Bt 1900 (lcmI n1 n2):=by
 have h0:=(lcmI_facts t.p1 t.p2).1
 have h1:=lcmI_le t.p1 t.p2
 have h2:=Int.mul_le_mul t.l1 t.l2 (Int.le_of_lt t.p2) (by decide)
 exact bt_small (by omega) (by omega) (by decide)
def spCSE(K:PySem.W.Frag)(cT:Addr):Sp:=fun vs H Q E=>∃(a1 a2:Addr) (n1 n2:Int) (b1 b2:Nat),vs=[.ref a1,.ref a2]∧Two K H a1 a2 n1 n2 b1 b2∧(lcmI n1 n2≤150000→∀H',Same H H'→Q (.int (lcmI n1 n2)) H')∧(150000<lcmI n1 n2→ELong cT (lcmI n1 n2) H E)
def spRoundByE(K:PySem.W.Frag)(cN cT:Addr):Sp:=fun vs H Q E=>∃(a:Addr) (ds:List Int) (n:Int),vs=[.int n,.ref a]∧SqL K H a (ds.map V.int)∧Bt 1900 n∧
 (1≤n→n≤150000→∀(p:Addr) (b:Nat) (H':Hp),Same H H'→H' p=some (.tup [.int n,.int (b:Int)])→RB n ds b→Q (.ref p) H')∧(n<1→ENum cN H E)∧(150000<n→ELong cT n H E)
def spStretchedE(K:PySem.W.Frag)(cN cT:Addr):Sp:=fun vs H Q E=>∃(a:Addr) (n z:Int) (b:Nat),vs=[.ref a,.int z]∧SqT K H a [.int n,.int (b:Int)]∧0<n∧n≤150000∧b<2^n.toNat∧Bt 1900 z∧
 (1≤z→n∣z→z≤150000→∀(p:Addr) (c:Nat),H p=none→Strt n.toNat b z.toNat c→Q (.ref p) (upd H p (.tup [.int z,.int (c:Int)])))∧(z<1∨¬n∣z→ENum cN H E)∧(1≤z→n∣z→150000<z→ELong cT z H E)
def pcsV(b k:Nat):List V:=(List.range k).map fun j=>V.int ((pc b j:Nat):Int)
theorem pcsV_len(b k:Nat):(pcsV b k).length=k:=by unfold pcsV;simp
theorem pcsV_at{b k j:Nat}(h:j<k):(pcsV b k)[j]?=some (V.int ((pc b j:Nat):Int)):=by
 unfold pcsV
 rw[List.getElem?_map,List.getElem?_range h]
 rfl
theorem pcsV_zero(k:Nat):(List.replicate k [V.int 0]).flatten=pcsV 0 k:=by
 unfold pcsV
 have:(fun j=>V.int ((pc 0 j:Nat):Int))=fun _=>V.int 0:=by
  funext j
  unfold pc
  simp
 rw[this,List.map_const',List.length_range]
 induction k with
 | zero=>rfl
 | succ k ih=>rw[List.replicate_succ,List.flatten_cons,ih,List.replicate_succ];rfl
theorem pcsV_set{b k p:Nat}(h:p/256<k):(pcsV b k).set (p/256) (V.int ((pc b (p/256) ||| 2^(p%256):Nat):Int))=pcsV (b ||| 2^p) k:=by
 refine List.ext_getElem? fun j=>?_
 rw[List.getElem?_set]
 by_cases hj:j<k
 ·rw[pcsV_at hj]
  by_cases c:p/256=j
  ·rw[if_pos c,if_pos (by rw[pcsV_len];omega)]
   subst c
   rw[pcsV_at hj,pc_or_at]
  ·rw[if_neg c,pcsV_at hj,pc_or_ne (Ne.symm c)]
 ·have e:∀b,(pcsV b k)[j]?=none:=fun b=>List.getElem?_eq_none (by rw[pcsV_len];omega)
  rw[if_neg (by omega),e,e]
theorem rb_bits{n:Int}{b:Nat}(hn:0<n)(hb:b<2^n.toNat):b%2^(256*((n/256+1).toNat))=b:=
 Nat.mod_eq_of_lt (Nat.lt_of_lt_of_le hb (Nat.pow_le_pow_right (by decide) (by omega)))
def dl(b m:Nat):List Nat:=(List.range m).filter fun i=>b.testBit i
def dli(b m:Nat):List Int:=(dl b m).map fun(i:Nat)=>(i:Int)
theorem dl_add(b m k:Nat):dl b (m+k)=dl b m++((List.range k).filter fun i=>b.testBit (m+i)).map fun i=>m+i:=by
 unfold dl
 rw[List.range_add,List.filter_append,List.filter_map]
 rfl
theorem dl_over{b n:Nat}(hb:b<2^n)(k:Nat):dl b (n+k)=dl b n:=by
 rw[dl_add]
 have:((List.range k).filter fun i=>b.testBit (n+i))=[]:=by
  rw[List.filter_eq_nil_iff]
  intro i _
  rw[high hb (by omega)]
  exact Bool.false_ne_true
 rw[this,List.map_nil,List.append_nil]
theorem dl_len(b m:Nat):(dl b m).length≤m:=by
 unfold dl
 exact Nat.le_trans (List.length_filter_le _ _) (by simp)
theorem mem_dl{b m i:Nat}:i∈dl b m↔i<m∧b.testBit i=true:=by
 unfold dl
 rw[List.mem_filter,List.mem_range]
theorem mem_dli{b m:Nat}{d:Int}:d∈dli b m↔0≤d∧d<m∧b.testBit d.toNat=true:=by
 unfold dli
 rw[List.mem_map]
 constructor
 ·rintro⟨i,hi,rfl⟩
  obtain⟨h1,h2⟩:=mem_dl.mp hi
  exact⟨by omega,by omega,by rw[Int.toNat_natCast];exact h2⟩
 ·rintro⟨h1,h2,h3⟩
  exact⟨d.toNat,mem_dl.mpr ⟨by omega,h3⟩,by omega⟩
theorem dl_pair(b m:Nat):(dl b m).Pairwise (· < ·):=List.Pairwise.filter _ List.pairwise_lt_range
theorem dli_pair(b m:Nat):(dli b m).Pairwise (· < ·):=by
 unfold dli
 rw[List.pairwise_map]
 exact(dl_pair b m).imp fun h=>by omega
theorem dli_len(b m:Nat):(dli b m).length≤m:=by
 unfold dli
 rw[List.length_map]
 exact dl_len b m
def spDaysIn(K:PySem.W.Frag):Sp:=fun vs H Q _=>∃(a:Addr) (n:Int) (b:Nat),vs=[.ref a]∧SqT K H a [.int n,.int (b:Int)]∧0<n∧n≤150000∧b<2^n.toNat∧
 ∀(l:Addr) (H':Hp),H l=none→Same H H'→H' l=some (.lst ((dli b n.toNat).map V.int))→Q (.ref l) H'
theorem piece_bit(b m i:Nat):(Builtin.bitAnd (((b/2^m%2^256:Nat):Int)/2^i) 1 != 0)=(decide (i<256)&&b.testBit (m+i)):=by
 have h:(b/2^m%2^256).testBit i=(decide (i<256)&&b.testBit (m+i)):=by
  rw[Nat.testBit_mod_two_pow,←Nat.shiftRight_eq_div_pow,Nat.testBit_shiftRight]
 rw[shr_cast,show(1:Int)=((1:Nat):Int) from rfl,bitAnd_nat,Nat.and_one_is_mod,←h,Nat.testBit_eq_decide_div_mod_eq,Nat.shiftRight_eq_div_pow,Bool.eq_iff_iff]
 simp only[bne_iff_ne,decide_eq_true_eq]
 omega
theorem dli_step(b m:Nat):((dli b m).map V.int)++(((((List.range 256).map fun i=>V.int (0+(i:Nat)))).filter fun v=>match v with | .int d=>b.testBit (m+d.toNat) | _=>false).map fun v=>match v with | .int d=>V.int ((m:Int)+d) | _=>.non)=(dli b (m+256)).map V.int:=by
 unfold dli
 rw[dl_add,List.map_append,List.map_append]
 congr 1
 rw[List.filter_map,List.map_map,List.map_map,List.map_map]
 have e:((fun v:V=>match v with | .int d=>b.testBit (m+d.toNat) | _=>false) ∘ fun i:Nat=>V.int (0+(i:Nat)))=fun i=>b.testBit (m+i):=by
  funext i
  show b.testBit (m+(0+(i:Int)).toNat)=_
  rw[show (0+(i:Int)).toNat=i by omega]
 rw[e]
 refine List.map_congr_left fun i _=>?_
 show V.int ((m:Int)+(0+(i:Int)))=V.int (((m+i:Nat):Int))
 rw[show (m:Int)+(0+(i:Int))=((m+i:Nat):Int) by omega]
def spMany(K:PySem.W.Frag):Sp:=fun vs H Q _=>∃(a:Addr) (n f e:Int) (b:Nat),vs=[.ref a,.int f,.int e]∧SqT K H a [.int n,.int (b:Int)]∧0<n∧n≤150000∧b<2^n.toNat∧Bt 250 f∧Bt 250 e∧∀H',Same H H'→Q (.int (CC n b e-CC n b f)) H'
def spOnes:Sp:=fun vs H Q _=>∃(b n:Nat),vs=[.int (b:Int)]∧b<2^n∧n≤150000∧∀H',Same H H'→Q (.int ((cnt b n:Nat):Int)) H'
def spAhead(K:PySem.W.Frag):Sp:=fun vs H Q _=>∃(a:Addr) (n d:Int) (b:Nat),vs=[.ref a,.int d]∧SqT K H a [.int n,.int (b:Int)]∧0<n∧n≤150000∧b<2^n.toNat∧Bt 260 d∧∀H',Same H H'→Q (.int (CC n b d)) H'
theorem ev_mask{w z f c:Nat}(w0:0<w)(hf:f<2^z)(S:Strt (2*w) (2^w-1) z c)(k:Nat):Ev w (f/2^k) ((f/2^k) &&& c):=fun i=>by
 rw[Nat.testBit_and]
 have fl:f/2^k<2^z:=Nat.lt_of_le_of_lt (Nat.div_le_self _ _) hf
 by_cases h:i<z
 ·rw[S.bit i h,Nat.testBit_two_pow_sub_one]
 ·rw[high fl (by omega)];rfl
def spEveryE(K:PySem.W.Frag)(cN cT:Addr):Sp:=fun vs H Q E=>∃(k d:Int) (a:Addr) (n:Int) (b:Nat),vs=[.int k,.ref a,.int d]∧SqT K H a [.int n,.int (b:Int)]∧0<n∧n≤150000∧b<2^n.toNat∧Bt 250 d∧Bt 400 k∧(k<1→ENum cN H E)∧
 (1≤k→n*k≤150000→∀(p:Addr) (c:Nat) (H':Hp),Same H H'→H' p=some (.tup [.int (n*k),.int (c:Int)])→c<2^(n*k).toNat→(∀e,On (n*k) c e=true↔Evr n b k d e)→Q (.ref p) H')∧
 (1≤k→150000<n*k→ELong cT (n*k) H E)
theorem le_mulr{n k:Int}(hn:0<n)(hk:0<k):k≤n*k:=by
 have:=Int.mul_le_mul_of_nonneg_right (show 1≤n by omega) (Int.le_of_lt hk)
 omega
theorem dli_self{n:Int}{b:Nat}(hn:0<n)(d:Int):d∈dli b n.toNat↔0≤d∧d<n∧On n b d=true:=by
 rw[mem_dli]
 constructor
 ·rintro⟨h1,h2,h3⟩
  refine⟨h1,by omega,?_⟩
  unfold On
  rw[Int.emod_eq_of_lt h1 (by omega)]
  exact h3
 ·rintro⟨h1,h2,h3⟩
  refine⟨h1,by omega,?_⟩
  unfold On at h3
  rwa [Int.emod_eq_of_lt h1 (by omega)] at h3
def spJoin(K:PySem.W.Frag):Sp:=fun vs H Q _=>∃(a1 a2:Addr) (n1 n2:Int) (b1 b2:Nat),vs=[.ref a1,.ref a2]∧Two K H a1 a2 n1 n2 b1 b2∧lcmI n1 n2≤150000∧
 ∀(p:Addr) (c:Nat) (H':Hp),Same H H'→H' p=some (.tup [.int (lcmI n1 n2),.int (c:Int)])→c<2^(lcmI n1 n2).toNat→Q (.ref p) H'
def spWhS(K:PySem.W.Frag)(cT:Addr):Sp:=fun vs H Q E=>∃(a1 a2:Addr) (n1 n2:Int) (b1 b2:Nat),vs=[.ref a1,.ref a2]∧Two K H a1 a2 n1 n2 b1 b2∧
 (lcmI n1 n2≤150000→∀(p:Addr) (c:Nat) (H':Hp),Same H H'→H' p=some (.tup [.int (lcmI n1 n2),.int (c:Int)])→c<2^(lcmI n1 n2).toNat→Q (.ref p) H')∧(150000<lcmI n1 n2→ELong cT (lcmI n1 n2) H E)
def spGathS(K:PySem.W.Frag)(mg:Str→Option Value)(L:List (Str×Sp)):Sp:=fun vs H Q _=>∃(a1 a2 f:Addr) (n e:Int) (b c:Nat) (x:Str),vs=[.ref a1,.ref a2,.int e,.ref f]∧(x,spJoin K)∈L∧mg x=some (.ref f)∧H a1=some (.tup [.int n,.int (b:Int)])∧SqT K H a2 [.int n,.int (c:Int)]∧0<n∧n≤150000∧b<2^n.toNat∧c<2^n.toNat∧(e=1∨e= -1)∧
 ∀(p:Addr) (g:Nat) (H':Hp),Same H H'→H' p=some (.tup [.int n,.int (g:Int)])→g<2^n.toNat→Q (.ref p) H'
def spNearS(K:PySem.W.Frag):Sp:=fun vs H Q _=>∃(a:Addr) (n:Int) (b:Nat),vs=[.ref a]∧SqT K H a [.int n,.int (b:Int)]∧0<n∧n≤150000∧b<2^n.toNat∧
 ∀(p:Addr) (c:Nat) (H':Hp),Same H H'→H' p=some (.tup [.int n,.int (c:Int)])→c<2^n.toNat→Q (.ref p) H'
def spKthS(K:PySem.W.Frag)(cN cT:Addr):Sp:=fun vs H Q E=>∃(k:Int) (a1 a2:Addr) (n1 n2:Int) (b1 b2:Nat),vs=[.int k,.ref a1,.ref a2]∧Two K H a1 a2 n1 n2 b1 b2∧(k=0→ENum cN H E)∧
 (k≠0→lcmI n1 n2≤150000→∀(p:Addr) (c:Nat) (H':Hp),Same H H'→H' p=some (.tup [.int (lcmI n1 n2),.int (c:Int)])→c<2^(lcmI n1 n2).toNat→Q (.ref p) H')∧
 (k≠0→150000<lcmI n1 n2→ELong cT (lcmI n1 n2) H E)
def spLater(K:PySem.W.Frag):Sp:=fun vs H Q _=>∃(a:Addr) (n num:Int) (b:Nat),vs=[.ref a,.int num]∧SqT K H a [.int n,.int (b:Int)]∧0<n∧n≤150000∧b<2^n.toNat∧
 ∀p,H p=none→Q (.ref p) (upd H p (.tup [.int n,.int ((lat n.toNat b (num%n).toNat:Nat):Int)]))
theorem lcm_dvd{n z:Int}(n0:0<n)(z0:0<z)(h:n∣z):lcmI n z=z:=by
 have f:=lcmI_facts n0 z0
 have h1:lcmI n z∣z:=f.2.2.2.2.1 _ h (Int.dvd_refl _)
 exact Int.dvd_antisymm (by omega) (by omega) h1 f.2.2.1
theorem dli_mem{n:Int}{b:Nat}(n0:0<n)(d:Int):d∈dli b n.toNat↔0≤d∧d<n∧On n b d=true:=by
 rw[mem_dli]
 constructor
 ·rintro⟨h1,h2,h3⟩
  refine⟨h1,by omega,?_⟩
  unfold On
  rwa [Int.emod_eq_of_lt h1 (by omega)]
 ·rintro⟨h1,h2,h3⟩
  refine⟨h1,by omega,?_⟩
  unfold On at h3
  rwa [Int.emod_eq_of_lt h1 h2] at h3
theorem cut_from1(xs:List Int):cutV (xs.map V.int) (some 1) none=(xs.drop 1).map V.int:=cutV_from xs 1
theorem cut_upto1(xs:List V):cutV xs none (some 1)=xs.take 1:=cut_upto xs 1
theorem comp_zip{K:PySem.W.Frag}{a b:Addr}{xs ys:List Int}{σ:L2.St}{H:Hp}{Q:VK}{te:TE}(ha:SqL K H a (xs.map V.int))(hb:SqL K H b (ys.map V.int))(hl:xs.length<sizeLine)(f:Int→Int→Int)
 (he:∀(x y:Int) (H':Hp) (Q':VK),Q' (.int (f x y)) H'→te (some (.int x)::some (.int y)::σ) H' Q')
 (h:∀(D:Addr) (H':Hp),H D=none→Same H H'→H' D=some (.lst ((List.zipWith f xs ys).map V.int))→Q (.ref D) H'):
 CompRT 2 (gTup K 2 (gCons (gName 0) (gCons (gName 1) gNil))) tTrue te σ Q (Itz K a b) H:=by
 intro D hD
 have zl:(List.zipWith f xs ys).length=min xs.length ys.length:=List.length_zipWith
 refine⟨fun i m zs H2=>i≤min xs.length ys.length∧m=min xs.length ys.length-i∧zs=((List.zipWith f xs ys).take i).map V.int∧H2 D=some (.lst zs)∧Same H H2,⟨_,Nat.zero_le _,rfl,rfl,upd_same,same_new hD _⟩,?_⟩
 rintro i m zs H2 ⟨hi,rfl,rfl,hz,s2⟩
 refine⟨hz,?_⟩
 by_cases c:i<min xs.length ys.length
 ·have c1:i<xs.length:=by omega
  have c2:i<ys.length:=by omega
  have ex:(xs.map V.int)[i]?=some (.int xs[i]):=by rw[List.getElem?_map,List.getElem?_eq_getElem c1];rfl
  have ey:(ys.map V.int)[i]?=some (.int ys[i]):=by rw[List.getElem?_map,List.getElem?_eq_getElem c2];rfl
  refine .inr ⟨⟨_,_,_,_,s2.seq ha,s2.seq hb,ex,ey⟩,?_,min xs.length ys.length-(i+1),by omega,?_⟩
  ·rw[List.length_map,List.length_take]
   omega
  rintro v H3 ⟨T,x,y,hT,rfl,rfl,hxy⟩ ρ hρ
  obtain⟨gx,gy⟩:=hxy _ _ (s2.seq ha) (s2.seq hb)
  rw[ex] at gx
  rw[ey] at gy
  cases gx
  cases gy
  obtain⟨p,q,rfl⟩:∃p q,ρ=[p,q]:=by
   match ρ,hρ with
   | [p,q],_=>exact⟨p,q,rfl⟩
  refine⟨T,[.int xs[i],.int ys[i]],rfl,SqT.of upd_same,rfl,.int xs[i],[.int ys[i]],rfl,.int ys[i],[],rfl,⟨rfl,[some (.int xs[i]),some (.int ys[i])],rfl,rfl,?_⟩⟩
  refine rd_true ?_
  rw[if_pos rfl]
  have nT:D≠T:=ne_of_none hz hT
  refine he _ _ _ _ ⟨by rw[upd_ne nT];exact hz,by omega,rfl,?_,upd_same,?_⟩
  ·rw[List.take_succ,List.map_append]
   congr 1
   have:(List.zipWith f xs ys)[i]?=some (f xs[i] ys[i]):=by
    rw[List.getElem?_zipWith',List.getElem?_eq_getElem c1,List.getElem?_eq_getElem c2]
    rfl
   rw[this]
   rfl
  ·exact same_app hD (s2.trans (same_new hT _))
 ·have e:i=min xs.length ys.length:=by omega
  refine .inl ⟨⟨_,_,s2.seq ha,s2.seq hb,by rw[List.length_map,List.length_map];exact e⟩,h D H2 hD s2 ?_⟩
  rw[hz,List.take_of_length_le (by omega)]
inductive DueW where
 | num | long (n:Int) | rnd (n:Int)
def DueW.row:DueW→List V
 | .num=>[.str "number",.int 0]
 | .long n=>[.str "long",.int n]
 | .rnd n=>[.str "round",.int n]
def DueW.ends(cN cT:Addr)(D:DueW)(H:Hp)(Q:VK)(E:XK):Prop:=match D with
 | .num=>ENum cN H E
 | .long n=>ELong cT n H E
 | .rnd n=>∀(p:Addr) (c:Nat) (H':Hp),Same H H'→H' p=some (.tup [.int n,.int (c:Int)])→c<2^n.toNat→1≤n→n≤150000→Q (.ref p) H'
structure AskW(K:PySem.W.Frag)(H:Hp)(a1 a2:Addr)(k d n1 n2:Int)(b1 b2:Nat):Prop where
 w:Two K H a1 a2 n1 n2 b1 b2
 bk:Bt 400 k
 bd:Bt 250 d
theorem AskW.later{K:PySem.W.Frag}{H H':Hp}{a1 a2:Addr}{k d n1 n2:Int}{b1 b2:Nat}(a:AskW K H a1 a2 k d n1 n2 b1 b2)(s:Same H H'):AskW K H' a1 a2 k d n1 n2 b1 b2:=⟨a.w.later s,a.bk,a.bd⟩
def spSizes28(K:PySem.W.Frag):Sp:=fun vs H Q _=>∃(a:Addr) (ns:List Int),vs=[.ref a]∧SqL K H a (ns.map V.int)∧ns.length≤63∧∀(p:Addr) (x y:Int) (H':Hp),Same H H'→H' p=some (.tup [.int x,.int y])→1≤x→x≤150000→1≤y→y≤150000→Q (.ref p) H'
theorem lcm_self{n:Int}(h:0<n):lcmI n n=n:=by
 have f:=lcmI_facts h h
 exact Int.dvd_antisymm (Int.le_of_lt f.1) (Int.le_of_lt h) (f.2.2.2.2.1 n (Int.dvd_refl _) (Int.dvd_refl _)) f.2.1
def cpl(z:Str):List Nat:=z.cps.toList
theorem len_cpl(z:Str):(cpl z).length=z.length:=Array.length_toList
theorem asc_iff{z:Str}:asc z=true↔∀c∈cpl z,c<128:=by
 unfold asc cpl
 rw[Array.all_eq_true']
 simp[Array.mem_toList_iff]
structure TOk(z:Str):Prop where
 asc:asc z=true
 len:z.length≤1000000
theorem cpl_app(a b:Str):cpl (a++b)=cpl a++cpl b:=by
 show(a.cps++b.cps).toList=_
 rw[Array.toList_append]
 rfl
theorem asc_app{a b:Str}(h1:asc a=true)(h2:asc b=true):asc (a++b)=true:=asc_iff.mpr fun c hc=>by
 rw[cpl_app] at hc
 rcases List.mem_append.mp hc with h | h
 ·exact asc_iff.mp h1 c h
 ·exact asc_iff.mp h2 c h
theorem len_app(a b:Str):(a++b).length=a.length+b.length:=by
 rw[←len_cpl,cpl_app,List.length_append,len_cpl,len_cpl]
structure TL(k:Nat)(z:Str):Prop where
 asc:asc z=true
 len:z.length≤k
theorem TL.app{k m:Nat}{a b:Str}(h1:TL k a)(h2:TL m b):TL (k+m) (a++b):=⟨asc_app h1.asc h2.asc,by rw[len_app];have:=h1.len;have:=h2.len;omega⟩
theorem TL.mono{k m:Nat}{a:Str}(h1:TL k a)(h:k≤m):TL m a:=⟨h1.asc,Nat.le_trans h1.len h⟩
theorem TL.ok{k:Nat}{a:Str}(h1:TL k a)(h:k≤1000000):TOk a:=⟨h1.asc,Nat.le_trans h1.len h⟩
theorem digs_asc(m:Nat):∀c∈(Nat.toDigits 10 m).map Char.toNat,c<128:=fun c hc=>by
 obtain⟨ch,hch,e⟩:=List.mem_map.mp hc
 have r:=digit_range (Nat.isDigit_of_mem_toDigits (by decide) (by decide) hch)
 omega
theorem TL.int{i:Int}(h:i.natAbs.log2<1920):TL 1921 (intT i):=by
 refine⟨asc_iff.mpr fun c hc=>?_,intT_len h⟩
 unfold intT cpl at hc
 rw[signs_ofString] at hc
 cases i with
 | ofNat m=>
  have e:(toString (Int.ofNat m)).toList=Nat.toDigits 10 m:=by
   show(Nat.repr m).toList=_
   rw[Nat.toList_repr]
  rw[e] at hc
  exact digs_asc m c hc
 | negSucc m=>
  have e:(toString (Int.negSucc m)).toList='-'::Nat.toDigits 10 (m+1):=by
   show("-"++Nat.repr (m+1)).toList=_
   rw[String.toList_append,Nat.toList_repr]
   rfl
  rw[e,List.map_cons] at hc
  rcases List.mem_cons.mp hc with h | h
  ·have:('-':Char).toNat=45:=by decide
   omega
  ·exact digs_asc (m+1) c h
theorem log_small{i:Int}(h1: -1000000000000000000000000000000000000000000000000000000000000≤i)(h2:i≤1000000000000000000000000000000000000000000000000000000000000):i.natAbs.log2<1920:=by
 have b:Bt 200 i:=bt_of h1 h2
 unfold Bt at b
 by_cases z:i.natAbs=0
 ·rw[z];decide
 ·exact Nat.lt_of_lt_of_le ((Nat.log2_lt z).mpr b) (by decide)
theorem four{a b c d:V}:([a,b,c,d]:List V).length≤sizeLine:=by show 4≤sizeLine;decide
structure RC(K:PySem.W.Frag)(CR C:Addr):Prop where
 cl:Cls K C
 k:NoAttr K C "kept"
 m:NoAttr K C "made_of"
 w:NoAttr K C "words"
 ca:PySem.W.findIn K (.ref C) "__class__"=some (some (.builtin "object.__class__"))
 ob:PySem.W.mroIn K C (.type "object")=some true
 isr:PySem.W.kitOne K (.ref C) (.ref CR)=some true
def rF(p pm pw:Addr):List (Str×V):=[("kept",.ref p),("made_of",.ref pm),("words",.ref pw)]
structure RuleO(K:PySem.W.Frag)(CR:Addr)(CL:List Addr)(H:Hp)(x:Addr)(n:Int)(b:Nat):Prop where
 ex:∃C dx p pm pw,C∈CL∧RC K CR C∧H x=some (.ins C dx (rF p pm pw))∧H p=some (.tup [.int n,.int (b:Int)])
 n0:0<n
 n1:n≤150000
 lt:b<2^n.toNat
theorem RuleO.same{K:PySem.W.Frag}{CR:Addr}{CL:List Addr}{H H':Hp}{x:Addr}{n:Int}{b:Nat}(R:RuleO K CR CL H x n b)(s:Same H H'):RuleO K CR CL H' x n b:=by
 obtain⟨C,dx,p,pm,pw,h1,h2,h3,h4⟩:=R.ex
 exact⟨⟨C,dx,p,pm,pw,h1,h2,s _ _ h3,s _ _ h4⟩,R.n0,R.n1,R.lt⟩
theorem RuleO.meth{K:PySem.W.Frag}{CR:Addr}{CL:List Addr}{H:Hp}{x:Addr}{n:Int}{b:Nat}(R:RuleO K CR CL H x n b)(sp:Sp):∃C dx fs,(C,sp)∈CL.map (fun c=>(c,sp))∧H x=some (.ins C dx fs)∧fs.lookup (Str.ofString "turn")=none∧fs.lookup (Str.ofString "size")=none∧fs.lookup (Str.ofString "on")=none:=by
 obtain⟨C,dx,p,pm,pw,h1,h2,h3,h4⟩:=R.ex
 exact⟨C,dx,_,List.mem_map.mpr ⟨C,h1,rfl⟩,h3,rfl,rfl,rfl⟩
def KB(x:Addr)(H H':Hp):Prop:=∀y o,y≠x→H y=some o→H' y=some o
theorem KB.pre{x:Addr}{H H1 H':Hp}(s:Same H H1)(k:KB x H1 H'):KB x H H':=fun y o h e=>k y o h (s _ _ e)
theorem made_same{H1 H':Hp}{x dx:Addr}{o o':HO}(hx:H1 x=none)(hd:H1 dx=none)(ne:dx≠x)(k:KB x (upd (upd H1 dx o) x o') H'):Same H1 H':=fun y u e=>by
 have y1:y≠x:=ne_of_none e hx
 have y2:y≠dx:=ne_of_none e hd
 exact k y u y1 (by rw[upd_ne y1,upd_ne y2];exact e)
def spRInit(K:PySem.W.Frag)(CR:Addr):Sp:=fun vs H Q _=>∃(x p pm pw C dx:Addr),vs=[.ref x,.ref p,.ref pm,.ref pw]∧H x=some (.ins C dx [])∧RC K CR C∧
 ∀H',KB x H H'→H' x=some (.ins C dx (rF p pm pw))→Q .non H'
def spTurnM(K:PySem.W.Frag)(CR:Addr)(CL:List Addr):Sp:=fun vs H Q _=>∃(x:Addr) (n:Int) (b:Nat),vs=[.ref x]∧RuleO K CR CL H x n b∧∀p,H p=some (.tup [.int n,.int (b:Int)])→Q (.ref p) H
def spSizeM(K:PySem.W.Frag)(CR:Addr)(CL:List Addr):Sp:=fun vs H Q _=>∃(x:Addr) (n:Int) (b:Nat),vs=[.ref x]∧RuleO K CR CL H x n b∧Q (.int n) H
theorem made_rule{K:PySem.W.Frag}{CR:Addr}{CL:List Addr}{C x dx p pm pw:Addr}{H2 H':Hp}{n:Int}{b:Nat}(hC:C∈CL)(R:RC K CR C)(hx:H2 x=some (.ins C dx []))(hp:H2 p=some (.tup [.int n,.int (b:Int)]))(k:KB x H2 H')(e:H' x=some (.ins C dx (rF p pm pw)))(n0:0<n)(n1:n≤150000)(lt:b<2^n.toNat):RuleO K CR CL H' x n b:=
 ⟨⟨C,dx,p,pm,pw,hC,R,e,k _ _ (ne_of hp hx (fun z=>nomatch z)) hp⟩,n0,n1,lt⟩
def oI(o:Option Int):V:=match o with | none=>.non | some i=>.int i
structure WantOk(m d:Option Int)(st:Int):Prop where
 m1:∀i,m=some i→1≤i
 d0:d≠some 0
 st:1≤st
def spWantE(cN:Addr):Sp:=fun vs H Q E=>∃(m d:Option Int) (st:Int),vs=[oI m,oI d,.int st]∧(WantOk m d st→Q .non H)∧(¬WantOk m d st→ENum cN H E)
def domF(f n:Int)(d:Option Int):List Int:=match d with
 | none=>(List.range n.toNat).map fun i:Nat=>f+(i:Int)
 | some i=>if 0<i then (if n≤i-1 then [] else [f+(i-1)]) else (if n+i<0∨n≤n+i then [] else [f+(n+i)])
def spDoM:Sp:=fun vs H Q _=>∃(f n:Int) (d:Option Int),vs=[.int f,.int n,oI d]∧(d=none→0≤n∧n≤10000∧0≤f∧f+n<4294967296)∧∀(l:Addr) (H':Hp),H l=none→Same H H'→H' l=some (.lst ((domF f n d).map V.int))→Q (.ref l) H'
def spCyc44(CC cN:Addr):Sp:=fun vs H _ E=>∃x:Addr,vs=[.ref x]∧E (.ref cN) none H
theorem domF_len(f n i:Int):(domF f n (some i)).length≤1:=by
 unfold domF
 simp only[]
 split<;>split<;>simp
def spDivW:Sp:=fun vs H Q _=>∃x y:Int,vs=[.int x,.int y]∧0<x∧0<y∧Q (.int (Int.gcd x y:Int)) H
inductive Due65 where
 | num | cyc | long (n:Int) | made (n:Int)
def fit65(n:Int):Due65:=if 150000<n then .long n else .made n
def MadeE(K:PySem.W.Frag)(CR:Addr)(CL:List Addr)(C cN cY cT:Addr)(H:Hp)(x:Addr)(Q:VK)(E:XK)(D:Due65):Prop:=(∃dx,H x=some (.ins C dx []))∧match D with
 | .num=>ENum cN H E
 | .cyc=>ENum cY H E
 | .long n=>ELong cT n H E
 | .made n=>∀(b:Nat) H',KB x H H'→RuleO K CR CL H' x n b→Q .non H'
theorem MadeE.fit{K:PySem.W.Frag}{CR:Addr}{CL:List Addr}{C cN cY cT:Addr}{H:Hp}{x:Addr}{Q:VK}{E:XK}{n:Int}(h:MadeE K CR CL C cN cY cT H x Q E (fit65 n)):(∃dx,H x=some (.ins C dx []))∧(n≤150000→∀(b:Nat) H',KB x H H'→RuleO K CR CL H' x n b→Q .non H')∧(150000<n→ELong cT n H E):=by
 unfold fit65 at h
 by_cases c:150000<n
 ·rw[if_pos c] at h
  exact⟨h.1,fun z=>absurd z (by omega),fun _=>h.2⟩
 ·rw[if_neg c] at h
  exact⟨h.1,fun _=>h.2,fun z=>absurd z c⟩
section
variable(K:PySem.W.Frag)(CR CE:Addr)(CL:List Addr)(C cN cY cT:Addr)
def spI2E:Sp:=fun vs H Q E=>∃(x r t:Addr) (n1 n2:Int) (b1 b2:Nat),vs=[.ref x,.ref r,.ref t]∧RuleO K CR [CE] H r n1 b1∧RuleO K CR [CE] H t n2 b2∧MadeE K CR CL C cN cY cT H x Q E (fit65 (lcmI n1 n2))
def spI1E:Sp:=fun vs H Q E=>∃(x r:Addr) (n:Int) (b:Nat),vs=[.ref x,.ref r]∧RuleO K CR [CE] H r n b∧MadeE K CR CL C cN cY cT H x Q E (.made n)
def spILE:Sp:=fun vs H Q E=>∃(x r:Addr) (k n:Int) (b:Nat),vs=[.ref x,.int k,.ref r]∧Bt 400 k∧RuleO K CR [CE] H r n b∧MadeE K CR CL C cN cY cT H x Q E (.made n)
def spIKE:Sp:=fun vs H Q E=>∃(x r t:Addr) (k n1 n2:Int) (b1 b2:Nat),vs=[.ref x,.int k,.ref r,.ref t]∧Bt 400 k∧RuleO K CR [CE] H r n1 b1∧RuleO K CR [CE] H t n2 b2∧MadeE K CR CL C cN cY cT H x Q E (if k=0 then .num else fit65 (lcmI n1 n2))
def spIVE:Sp:=fun vs H Q E=>∃(x r:Addr) (k d n:Int) (b:Nat),vs=[.ref x,.int k,.ref r,.int d]∧Bt 250 k∧Bt 250 d∧RuleO K CR [CE] H r n b∧MadeE K CR CL C cN cY cT H x Q E (if k<1 then .num else fit65 (n*k))
def spIEE:Sp:=fun vs H Q E=>∃(x:Addr) (n r:Int),vs=[.ref x,.int n,.int r]∧Bt 400 n∧Bt 400 r∧MadeE K CR CL C cN cY cT H x Q E (if n<1 then .num else fit65 n)
end
def spEachT65:Sp:=fun vs H Q _=>∃n r:Int,vs=[.int n,.int r]∧1≤n∧n≤150000∧∀z,TL 6000 z→Q (.str z) H
theorem RuleO.one{K:PySem.W.Frag}{CR CE:Addr}{H:Hp}{x:Addr}{n:Int}{b:Nat}(R:RuleO K CR [CE] H x n b):∃dx fs,H x=some (.ins CE dx fs)∧fs.lookup (Str.ofString "turn")=none:=by
 obtain⟨C,dx,p,pm,pw,h1,h2,h3,h4⟩:=R.ex
 rw[List.mem_singleton.mp h1] at h3
 exact⟨dx,_,h3,rfl⟩
def spInitC65(K:PySem.W.Frag)(CS CM CC:Addr):Sp:=fun vs H Q _=>∃(H0:Hp) (x dx o nw:Addr) (k:Int),vs=[.ref x,.ref o,.ref nw,.int 0]∧H0 x=none∧H0 dx=none∧dx≠x∧H=upd (upd H0 dx (.own x)) x (.ins CC dx [])∧SunO K CS CM H0 o 0 [k] 1 []∧SunO K CS CM H0 nw 0 [k] 1 []∧1≤k∧∀H',Same H0 H'→(∃dx fs,H' x=some (.ins CC dx fs)∧fs.lookup (Str.ofString "cycle")=none)→Q .non H'
def Cal65(K:PySem.W.Frag)(CS CM CC:Addr)(H:Hp)(x:Addr)(k:Int):Bool→Prop
 | false=>SunO K CS CM H x 0 [k] 1 []
 | true=>∃dx fs,H x=some (.ins CC dx fs)∧fs.lookup (Str.ofString "cycle")=none
theorem Cal65.same{K:PySem.W.Frag}{CS CM CC:Addr}{H H':Hp}{x:Addr}{k:Int}{ch:Bool}(h:Cal65 K CS CM CC H x k ch)(s:Same H H'):Cal65 K CS CM CC H' x k ch:=by
 cases ch with
 | false=>exact SunO.same h s
 | true=>
  obtain⟨dx,fs,e,l⟩:=h
  exact⟨dx,fs,s _ _ e,l⟩
def spDoY65(K:PySem.W.Frag)(CS CM:Addr):Sp:=fun vs H Q _=>∃(x:Addr) (k y:Int) (m i:Option Int),vs=[.ref x,.int y,oI m,oI i]∧SunO K CS CM H x 0 [k] 1 []∧1≤k∧k≤400∧0≤y∧y≤100000∧∀(l:Addr) (ds:List Int) (H':Hp),H l=none→Same H H'→H' l=some (.lst (ds.map V.int))→ds.length≤1000→Q (.ref l) H'
open Classical in
noncomputable def due13(m i:Option Int)(st k:Int)(ch:Bool):Due65:=if WantOk m i st then (if ch=true then .cyc else fit65 (k*st)) else .num
theorem d13n{m i:Option Int}{st k:Int}{ch:Bool}(h:¬WantOk m i st):due13 m i st k ch=.num:=by unfold due13;rw[if_neg h]
theorem d13c{m i:Option Int}{st k:Int}(h:WantOk m i st):due13 m i st k true=.cyc:=by unfold due13;rw[if_pos h,if_pos rfl]
theorem d13f{m i:Option Int}{st k:Int}(h:WantOk m i st):due13 m i st k false=fit65 (k*st):=by unfold due13;rw[if_pos h];rfl
def spDated65(K:PySem.W.Frag)(CS CM CC cN cY cT:Addr):Sp:=fun vs H Q E=>∃(x:Addr) (k:Int) (ch:Bool) (m i:Option Int) (st r:Int),vs=[.ref x,oI m,oI i,.int st,.int r]∧Cal65 K CS CM CC H x k ch∧1≤k∧k≤400∧st≤1000∧ -1000≤st∧
 (¬WantOk m i st→ENum cN H E)∧(WantOk m i st→ch=true→ENum cY H E)∧(WantOk m i st→ch=false→150000<k*st→ELong cT (k*st) H E)∧
 (WantOk m i st→ch=false→k*st≤150000→∀(p:Addr) (b:Nat) (H':Hp),Same H H'→H' p=some (.tup [.int (k*st),.int (b:Int)])→b<2^(k*st).toNat→Q (.ref p) H')
def spWText:Sp:=fun vs H Q _=>∃m:Option Int,vs=[oI m]∧(∀i,m=some i→i.natAbs.log2<1920)∧∀z,TL 2000 z→Q (.str z) H
def spDText:Sp:=fun vs H Q _=>∃(z:Str) (m i:Option Int) (st r:Int),vs=[.str z,oI m,oI i,.int st,.int r]∧TL 100 z∧(∀j,m=some j→j.natAbs.log2<1920)∧(∀j,i=some j→j.natAbs.log2<1920)∧st≤150000∧∀(y:Str) (H':Hp),Same H H'→Q (.str y) H'
def spIDE(K:PySem.W.Frag)(CR:Addr)(CL:List Addr)(C CS CM CC cN cY cT:Addr):Sp:=fun vs H Q E=>∃(x y:Addr) (z:Str) (k:Int) (ch:Bool) (m i:Option Int) (st r:Int),vs=[.ref x,.str z,.ref y,oI m,oI i,.int st,.int r]∧TL 100 z∧(∀j,m=some j→j.natAbs.log2<1920)∧(∀j,i=some j→j.natAbs.log2<1920)∧Cal65 K CS CM CC H y k ch∧1≤k∧k≤400∧st≤1000∧ -1000≤st∧MadeE K CR CL C cN cY cT H x Q E (due13 m i st k ch)
noncomputable def due65(w k n1 n2:Int)(m i:Option Int)(st kk:Int)(ch:Bool):Due65:=
 if w<8 then fit65 (lcmI n1 n2) else if w=8 then (if k=0 then .num else fit65 (lcmI n1 n2)) else if w=9 then (if k<1 then .num else fit65 (n1*k)) else if w=10 then (if k<1 then .num else fit65 k) else if w<13 then .made n1 else due13 m i st kk ch
def Due65.ends(K:PySem.W.Frag)(CR:Addr)(CL:List Addr)(cN cY cT:Addr)(D:Due65)(H:Hp)(Q:VK)(E:XK):Prop:=match D with
 | .num=>ENum cN H E
 | .cyc=>ENum cY H E
 | .long n=>ELong cT n H E
 | .made n=>∀(x:Addr) (b:Nat) H',Same H H'→RuleO K CR CL H' x n b→Q (.ref x) H'
theorem made_due{K:PySem.W.Frag}{CR:Addr}{CL:List Addr}{C cN cY cT:Addr}{D:Due65}{H1:Hp}{x dx:Addr}{Q:VK}{E:XK}(h1:H1 x=none)(h2:H1 dx=none)(ne:dx≠x)(h:D.ends K CR CL cN cY cT H1 Q E):MadeE K CR CL C cN cY cT (upd (upd H1 dx (.own x)) x (.ins C dx [])) x (fun v H2=>v=.non∧Q (.ref x) H2) E D:=by
 have s:=made_in h1 h2 (o:=.own x) (o':=.ins C dx [])
 refine⟨⟨dx,upd_same⟩,?_⟩
 cases D with
 | num=>exact fun H' s'=>h H' (s.trans s')
 | cyc=>exact fun H' s'=>h H' (s.trans s')
 | long n=>exact fun d H' s'=>h d H' (s.trans s')
 | made n=>exact fun b H' k R=>⟨rfl,h x b H' (made_same h1 h2 ne k) R⟩
def Due65.row:Due65→List V
 | .num=>[.str "number",.int 0]
 | .cyc=>[.str "cycle",.int 0]
 | .long n=>[.str "long",.int n]
 | .made n=>[.str "made",.int n]
structure Ask65(K:PySem.W.Frag)(CR CE CS CM CC:Addr)(H:Hp)(r t p:Addr)(n1 n2:Int)(m i:Option Int)(st kk:Int)(ch:Bool):Prop where
 r1:∃b,RuleO K CR [CE] H r n1 b
 r2:∃b,RuleO K CR [CE] H t n2 b
 told:∃y,H p=some (.tup [.ref y,oI m,oI i,.int st,.int kk,.bl ch])∧Cal65 K CS CM CC H y kk ch
 m0:∀j,m=some j→j.natAbs≤1000
 i0:∀j,i=some j→j.natAbs≤1000
 k0:1≤kk
 k1:kk≤400
 s0: -1000≤st
 s1:st≤1000
theorem Ask65.same{K:PySem.W.Frag}{CR CE CS CM CC:Addr}{H H':Hp}{r t p:Addr}{n1 n2:Int}{m i:Option Int}{st kk:Int}{ch:Bool}(a:Ask65 K CR CE CS CM CC H r t p n1 n2 m i st kk ch)(s:Same H H'):Ask65 K CR CE CS CM CC H' r t p n1 n2 m i st kk ch:=by
 obtain⟨b1,R1⟩:=a.r1
 obtain⟨b2,R2⟩:=a.r2
 obtain⟨y,hp,C⟩:=a.told
 exact⟨⟨b1,R1.same s⟩,⟨b2,R2.same s⟩,⟨y,s _ _ hp,C.same s⟩,a.m0,a.i0,a.k0,a.k1,a.s0,a.s1⟩
def spPair65(K:PySem.W.Frag)(CR CE:Addr)(CL:List Addr)(cN cY cT:Addr):Sp:=fun vs H Q E=>∃(w:Int) (r t:Addr) (n1 n2:Int) (b1 b2:Nat),vs=[.int w,.ref r,.ref t]∧RuleO K CR [CE] H r n1 b1∧RuleO K CR [CE] H t n2 b2∧(fit65 (lcmI n1 n2)).ends K CR CL cN cY cT H Q E
def spMade65(K:PySem.W.Frag)(CR CE:Addr)(CL:List Addr)(CS CM CC cN cY cT:Addr):Sp:=fun vs H Q E=>∃(w k n1 n2:Int) (r t p:Addr) (m i:Option Int) (st kk:Int) (ch:Bool),vs=[.int w,.int k,.ref r,.ref t,.ref p]∧Ask65 K CR CE CS CM CC H r t p n1 n2 m i st kk ch∧0≤w∧w<14∧Bt 250 k∧(due65 w k n1 n2 m i st kk ch).ends K CR CL cN cY cT H Q E
def spTold65(K:PySem.W.Frag)(CR CE:Addr)(CL:List Addr)(CS CM CC:Addr):Sp:=fun vs H Q _=>∃(w k n1 n2:Int) (r t p:Addr) (m i:Option Int) (st kk:Int) (ch:Bool),vs=[.int w,.int k,.ref r,.ref t,.ref p]∧Ask65 K CR CE CS CM CC H r t p n1 n2 m i st kk ch∧0≤w∧w<14∧Bt 250 k∧∀(u:Addr) H',Same H H'→H' u=some (.tup (due65 w k n1 n2 m i st kk ch).row)→Q (.ref u) H'
def sz65(w k n1 n2 st kk:Int):Int:=if w<9 then lcmI n1 n2 else if w=9 then n1*k else if w=10 then k else if w<13 then n1 else kk*st
structure Sz65(H:Hp)(p:Addr)(k n1 n2:Int)(m i:Option Int)(st kk:Int)(ch:Bool):Prop where
 told:∃y,H p=some (.tup [.ref y,oI m,oI i,.int st,.int kk,.bl ch])
 n10:1≤n1
 n11:n1≤150000
 n20:1≤n2
 n21:n2≤150000
 k0:1≤kk
 k1:kk≤400
 s0: -1000≤st
 s1:st≤1000
 bk:Bt 250 k
def spSize65:Sp:=fun vs H Q _=>∃(w k n1 n2:Int) (p:Addr) (m i:Option Int) (st kk:Int) (ch:Bool),vs=[.int w,.int k,.int n1,.int n2,.ref p]∧Sz65 H p k n1 n2 m i st kk ch∧Q (.int (sz65 w k n1 n2 st kk)) H
def spDue65:Sp:=fun vs H Q _=>∃(w k n1 n2:Int) (p:Addr) (m i:Option Int) (st kk:Int) (ch:Bool),vs=[.int w,.int k,.int n1,.int n2,.ref p]∧Sz65 H p k n1 n2 m i st kk ch∧0≤w∧w<14∧∀(u:Addr) H',Same H H'→H' u=some (.tup (due65 w k n1 n2 m i st kk ch).row)→Q (.ref u) H'
def spCal65(K:PySem.W.Frag)(CS CM CC:Addr):Sp:=fun vs H Q _=>∃(a:Addr) (ns:List Int),vs=[.ref a]∧SqL K H a (ns.map V.int)∧ns.length≤63∧∀(p y:Addr) (m i:Option Int) (st kk:Int) (ch:Bool) H',Same H H'→H' p=some (.tup [.ref y,oI m,oI i,.int st,.int kk,.bl ch])→Cal65 K CS CM CC H' y kk ch→(∀j,m=some j→j.natAbs≤1000)→(∀j,i=some j→j.natAbs≤1000)→1≤kk→kk≤400→ -1000≤st→st≤1000→Q (.ref p) H'
theorem RuleO.any{K:PySem.W.Frag}{CR CE:Addr}{CL:List Addr}{H:Hp}{x:Addr}{n:Int}{b:Nat}(R:RuleO K CR [CE] H x n b)(m:CE∈CL):RuleO K CR CL H x n b:=by
 obtain⟨C,dx,p,pm,pw,h1,h⟩:=R.ex
 rw[List.mem_singleton.mp h1] at h
 exact⟨⟨CE,dx,p,pm,pw,m,h⟩,R.n0,R.n1,R.lt⟩
theorem ends_one{K:PySem.W.Frag}{CR CE:Addr}{CL:List Addr}{cN cY cT:Addr}{D:Due65}{H:Hp}{Q:VK}{E:XK}(m:CE∈CL)(h:D.ends K CR CL cN cY cT H Q E):D.ends K CR [CE] cN cY cT H Q E:=by
 cases D with
 | num=>exact h
 | cyc=>exact h
 | long n=>exact h
 | made n=>exact fun x b H' s R=>h x b H' s (R.any m)
def spNumber65:Sp:=fun vs H Q _=>∃c n:Int,vs=[.int c,.int n]∧1≤n∧n≤150000∧∀k,Bt 250 k→Q (.int k) H
theorem row65_flat(d:Due65):d.row.all flatV=true:=by cases d<;>rfl
theorem row65_eq(d:Due65):eqVs d.row d.row=true:=by
 cases d with
 | num=>decide
 | cyc=>decide
 | long n=>show((Str.ofString "long"==Str.ofString "long")&&((n==n)&&true))=true;simp
 | made n=>show((Str.ofString "made"==Str.ofString "made")&&((n==n)&&true))=true;simp
theorem fit_same{n:Int}(h0:1≤n)(h1:n≤150000):fit65 (lcmI n n)=.made n:=by
 rw[lcm_self (by omega)]
 unfold fit65
 rw[if_neg (by omega)]
theorem at_0{α:Type}{a:α}{l:List α}:atI (a::l) 0=some a:=atI_nat (j:=0) rfl
theorem at_1{α:Type}{a b:α}{l:List α}:atI (a::b::l) 1=some b:=atI_nat (j:=1) rfl
theorem at_2{α:Type}{a b c:α}{l:List α}:atI (a::b::c::l) 2=some c:=atI_nat (j:=2) rfl
theorem at_3{α:Type}{a b c d:α}{l:List α}:atI (a::b::c::d::l) 3=some d:=atI_nat (j:=3) rfl
theorem at_4{α:Type}{a b c d e:α}{l:List α}:atI (a::b::c::d::e::l) 4=some e:=atI_nat (j:=4) rfl
theorem at_5{α:Type}{a b c d e f:α}{l:List α}:atI (a::b::c::d::e::f::l) 5=some f:=atI_nat (j:=5) rfl
theorem want_iff(m i:Option Int)(st:Int):WantOk m i st↔(∀j,m=some j→1≤j)∧i≠some 0∧1≤st:=⟨fun W=>⟨W.m1,W.d0,W.st⟩,fun W=>⟨W.1,W.2.1,W.2.2⟩⟩
def Plain65(w k:Int)(m i:Option Int)(st:Int)(ch:Bool):Prop:=¬((w=8∧k=0)∨((w=9∨w=10)∧k<1))∧(w=13→WantOk m i st∧ch=false)
theorem due_sz{w k n1 n2:Int}{m i:Option Int}{st kk:Int}{ch:Bool}(h0:0≤w)(h1:w<14)(x0:1≤n1)(x1:n1≤150000)(p:Plain65 w k m i st ch):due65 w k n1 n2 m i st kk ch=fit65 (sz65 w k n1 n2 st kk):=by
 obtain⟨p1,p2⟩:=p
 unfold due65 sz65
 by_cases c1:w<8
 ·rw[if_pos c1,if_pos (by omega)]
 rw[if_neg c1]
 by_cases c2:w=8
 ·rw[if_pos c2,if_neg (fun z=>p1 (.inl ⟨c2,z⟩)),if_pos (by omega)]
 rw[if_neg c2,if_neg (show ¬w<9 by omega)]
 by_cases c3:w=9
 ·rw[if_pos c3,if_neg (fun z=>p1 (.inr ⟨.inl c3,z⟩)),if_pos c3]
 rw[if_neg c3,if_neg c3]
 by_cases c4:w=10
 ·rw[if_pos c4,if_neg (fun z=>p1 (.inr ⟨.inr c4,z⟩)),if_pos c4]
 rw[if_neg c4,if_neg c4]
 by_cases c5:w<13
 ·rw[if_pos c5,if_pos c5]
  unfold fit65
  rw[if_neg (by omega)]
 rw[if_neg c5,if_neg c5]
 obtain⟨W,rfl⟩:=p2 (by omega)
 exact d13f W
theorem due_num{w k n1 n2:Int}{m i:Option Int}{st kk:Int}{ch:Bool}(h:(w=8∧k=0)∨((w=9∨w=10)∧k<1)):due65 w k n1 n2 m i st kk ch=.num:=by
 unfold due65
 rcases h with ⟨rfl,rfl⟩ | ⟨rfl | rfl,h⟩
 ·rfl
 ·rw[if_neg (by decide),if_neg (by decide),if_pos rfl,if_pos h]
 ·rw[if_neg (by decide),if_neg (by decide),if_neg (by decide),if_pos rfl,if_pos h]
theorem due_13{k n1 n2:Int}{m i:Option Int}{st kk:Int}{ch:Bool}:due65 13 k n1 n2 m i st kk ch=due13 m i st kk ch:=by
 unfold due65
 rw[if_neg (by decide),if_neg (by decide),if_neg (by decide),if_neg (by decide),if_neg (by decide)]
theorem each_due{n:Int}(h0:1≤n)(h1:n≤150000):(if n<1 then Due65.num else fit65 n)=.made n:=by
 rw[if_neg (by omega)]
 unfold fit65
 rw[if_neg (by omega)]
theorem gcd_st(u v:Int):Int.gcd v (u%v)=Int.gcd u v:=by
 have e:u%v=u+v*(-(u/v)):=by rw[Int.mul_neg,Int.emod_def];omega
 rw[e,Int.gcd_add_mul_left_right,Int.gcd_comm]
structure Errs(K:PySem.W.Frag)(mg:Str→Option Value)(c_FeastError c_NoNumber c_TooLong c_NoMeasure c_NoChange c_NoCycle c_Rule c_Each c_Dated c_Not c_Both c_Either c_But c_Unlike c_Later c_Upon c_Until c_Near c_Till c_Kth c_Every c_Measure c_Calendar c_Sun c_Change:Addr):Prop where
 m_FeastError:mg "FeastError"=some (.ref c_FeastError)
 m_NoNumber:mg "NoNumber"=some (.ref c_NoNumber)
 h_NoNumber:HCls K mg "NoNumber" c_NoNumber
 m_TooLong:mg "TooLong"=some (.ref c_TooLong)
 h_TooLong:HCls K mg "TooLong" c_TooLong
 h_NoCycle:HCls K mg "NoCycle" c_NoCycle
 x_NoNumber:XCls K mg "NoNumber" c_NoNumber
 g_NoNumber:XGet K c_NoNumber
 i_NoNumber_FeastError:PySem.W.kitOne K (.ref c_NoNumber) (.ref c_FeastError)=some true
 r_NoNumber_NoNumber:PySem.W.mroIn K c_NoNumber (.ref c_NoNumber)=some true
 i_NoNumber_TooLong:PySem.W.kitOne K (.ref c_NoNumber) (.ref c_TooLong)=some false
 o_TooLong:XOwn K c_TooLong c_FeastError
 f_FeastError:FInit K mg "FeastError" c_FeastError
 d_TooLong:PySem.W.hasDictIn K c_TooLong=true
 na_TooLong_needed:PySem.W.findIn K (.ref c_TooLong) "needed"=some none
 g_TooLong:XGet K c_TooLong
 i_TooLong_FeastError:PySem.W.kitOne K (.ref c_TooLong) (.ref c_FeastError)=some true
 r_TooLong_NoNumber:PySem.W.mroIn K c_TooLong (.ref c_NoNumber)=some false
 i_TooLong_NoNumber:PySem.W.kitOne K (.ref c_TooLong) (.ref c_NoNumber)=some false
 r_TooLong_TooLong:PySem.W.mroIn K c_TooLong (.ref c_TooLong)=some true
 r_TooLong_NoCycle:PySem.W.mroIn K c_TooLong (.ref c_NoCycle)=some false
 x_NoCycle:XCls K mg "NoCycle" c_NoCycle
 g_NoCycle:XGet K c_NoCycle
 i_NoCycle_FeastError:PySem.W.kitOne K (.ref c_NoCycle) (.ref c_FeastError)=some true
 r_NoCycle_NoNumber:PySem.W.mroIn K c_NoCycle (.ref c_NoNumber)=some false
 i_NoCycle_NoNumber:PySem.W.kitOne K (.ref c_NoCycle) (.ref c_NoNumber)=some false
 r_NoCycle_NoCycle:PySem.W.mroIn K c_NoCycle (.ref c_NoCycle)=some true
 cl_Measure:Cls K c_Measure
 na_Measure_base:NoAttr K c_Measure "base"
 na_Measure_terms:NoAttr K c_Measure "terms"
 na_Measure_full_count:NoAttr K c_Measure "full_count"
 na_Measure_full_sum:NoAttr K c_Measure "full_sum"
 cl_Sun:Cls K c_Sun
 na_Sun_start:NoAttr K c_Sun "start"
 na_Sun_months:NoAttr K c_Sun "months"
 na_Sun_leap:NoAttr K c_Sun "leap"
 na_Sun_years:NoAttr K c_Sun "years"
 cl_Change:Cls K c_Change
 na_Change_old:NoAttr K c_Change "old"
 na_Change_new:NoAttr K c_Change "new"
 na_Change_day:NoAttr K c_Change "day"
 na_Change_last_old:NoAttr K c_Change "last_old"
 na_Change_first_new:NoAttr K c_Change "first_new"
 cl_Each:Cls K c_Each
 rc_Each:RC K c_Rule c_Each
 cl_Dated:Cls K c_Dated
 rc_Dated:RC K c_Rule c_Dated
 cl_Not:Cls K c_Not
 rc_Not:RC K c_Rule c_Not
 cl_Both:Cls K c_Both
 rc_Both:RC K c_Rule c_Both
 cl_Either:Cls K c_Either
 rc_Either:RC K c_Rule c_Either
 cl_But:Cls K c_But
 rc_But:RC K c_Rule c_But
 cl_Unlike:Cls K c_Unlike
 rc_Unlike:RC K c_Rule c_Unlike
 cl_Later:Cls K c_Later
 rc_Later:RC K c_Rule c_Later
 cl_Upon:Cls K c_Upon
 rc_Upon:RC K c_Rule c_Upon
 cl_Until:Cls K c_Until
 rc_Until:RC K c_Rule c_Until
 cl_Near:Cls K c_Near
 rc_Near:RC K c_Rule c_Near
 cl_Till:Cls K c_Till
 rc_Till:RC K c_Rule c_Till
 cl_Kth:Cls K c_Kth
 rc_Kth:RC K c_Rule c_Kth
 cl_Every:Cls K c_Every
 rc_Every:RC K c_Rule c_Every
section
variable{P:Program}{w:World}{K:PySem.W.Frag}{mg:Str→Option Value}{base:Heap}
variable{c_FeastError c_NoNumber c_TooLong c_NoMeasure c_NoChange c_NoCycle c_Rule c_Each c_Dated c_Not c_Both c_Either c_But c_Unlike c_Later c_Upon c_Until c_Near c_Till c_Kth c_Every c_Measure c_Calendar c_Sun c_Change:Addr}
theorem sc_TooLong___init__:FnScope ["self","needed"] ["self","needed"] (defScope s_TooLong___init__):=⟨rfl,rfl,rfl,by decide +kernel,rfl,by decide +kernel,by decide +kernel⟩
theorem ok_TooLong___init__{f:Addr}{fd:FuncData}(F:Fun K "__init__" "TooLong.__init__" s_TooLong___init__ f fd)(er:Errs K mg c_FeastError c_NoNumber c_TooLong c_NoMeasure c_NoChange c_NoCycle c_Rule c_Each c_Dated c_Not c_Both c_Either c_But c_Unlike c_Later c_Upon c_Until c_Near c_Till c_Kth c_Every c_Measure c_Calendar c_Sun c_Change):FnOk P w K mg base CX0 1 f fd ["self","needed"] (spInit1 c_TooLong "needed" okNum):=by
 refine F.ok (k:=0) sc_TooLong___init__ (fun vs H Q E h=>?_) (fun cdv A outer s H vs Q E hr h=>?_)
 ·obtain⟨e,v,rfl,_⟩:=h
  rfl
 obtain⟨e,v,rfl,⟨n,rfl,hn⟩,he,q⟩:=h
 refine⟨_,(pss_cons (ps_expr (pe_xinit er.f_FeastError rfl (pa_cons (pv 0) (pa_cons (pe_join (pj_cons pe_str (pj_cons (pe_fmt hr.toN (pv 1)) (pj_cons pe_str pj_nil)))) pa_nil))))
  (pss_one (ps_xf1 (pv 0) (pv 1) (by rfl)))),?_⟩
 walk_at "rdx"
 refine rd_jc 0 (by decide) (by decide) fun l1=>rd_ji _ l1 (by decide) rfl hn fun l2=>rd_jc _ l2 (by decide) fun l3=>rd_jnil (fits l3 (by decide)) ?_
 walk_at "rdx"
 refine⟨e,_,_,_,_,rfl,he,er.o_TooLong,(by show 1≤sizeLine;decide),?_⟩
 walk_at "rdx"
 exact⟨e,_,_,rfl,he,er.o_TooLong,er.na_TooLong_needed,fun d hd=>q d hd⟩
theorem sc_refuse_below_one:FnScope ["number"] ["number"] (defScope s_refuse_below_one):=⟨rfl,rfl,rfl,by decide +kernel,rfl,by decide +kernel,by decide +kernel⟩
theorem ok_refuse_below_one{f:Addr}{fd:FuncData}(F:Fun K "refuse_below_one" "refuse_below_one" s_refuse_below_one f fd)(er:Errs K mg c_FeastError c_NoNumber c_TooLong c_NoMeasure c_NoChange c_NoCycle c_Rule c_Each c_Dated c_Not c_Both c_Either c_But c_Unlike c_Later c_Upon c_Until c_Near c_Till c_Kth c_Every c_Measure c_Calendar c_Sun c_Change):FnOk P w K mg base (CX1 P w) 1 f fd ["number"] (spRefuseE c_NoNumber):=by
 refine F.okE (k:=0) sc_refuse_below_one (fun vs H Q E h=>?_) (fun cdv A outer s H vs Q E hr h T=>?_)
 ·obtain⟨n,rfl,_⟩:=h
  rfl
 obtain⟨n,rfl,qs,qe⟩:=h
 refine⟨_,(pss_one (ps_if (pt_cmpR op_lt (pv 0) pe_int (nomark _))
  (pss_one (ps_raise T rfl er.x_NoNumber rfl (pa_cons pe_str pa_nil)))
  pss_nil)),?_⟩
 walk_at "rdx"
 refine ite2d (fun c=>?_) (fun c=>?_)
 ·walk_at "rdx"
  exact⟨(by show 1≤sizeLine;decide),(qe c).here⟩
 ·walk_at "rdx"
  exact qs (by omega)
theorem sc_refuse_too_long:FnScope ["size"] ["size"] (defScope s_refuse_too_long):=⟨rfl,rfl,rfl,by decide +kernel,rfl,by decide +kernel,by decide +kernel⟩
theorem ok_refuse_too_long{f:Addr}{fd:FuncData}(F:Fun K "refuse_too_long" "refuse_too_long" s_refuse_too_long f fd)(er:Errs K mg c_FeastError c_NoNumber c_TooLong c_NoMeasure c_NoChange c_NoCycle c_Rule c_Each c_Dated c_Not c_Both c_Either c_But c_Unlike c_Later c_Upon c_Until c_Near c_Till c_Kth c_Every c_Measure c_Calendar c_Sun c_Change)(c_TooLong___init__:CalX P w K mg base 1 "TooLong" c_TooLong c_FeastError ["self","needed"] (spInit1 c_TooLong "needed" okNum)){tk_LONGEST:Tok}(m_LONGEST:mg "LONGEST"=some (.int 150000 tk_LONGEST)):FnOk P w K mg base (CX1 P w) 3 f fd ["size"] (spTooLongE c_TooLong):=by
 refine F.okE (k:=2) sc_refuse_too_long (fun vs H Q E h=>?_) (fun cdv A outer s H vs Q E hr h T=>?_)
 ·obtain⟨n,rfl,_⟩:=h
  rfl
 obtain⟨n,rfl,hb,qs,qe⟩:=h
 refine⟨_,(pss_one (ps_if (pt_cmpR op_gt (pv 0) (pe_glob rfl m_LONGEST (rel_int _ _)) (nomark _))
  (pss_one (ps_raiseC T rfl c_TooLong___init__ (hr.mono (by decide)) rfl (pa_cons (pv 0) pa_nil)))
  pss_nil)),?_⟩
 walk_at "rdx"
 refine ite2d (fun c=>?_) (fun c=>?_)
 ·walk_at "rdx"
  exact rd_raise1 (v:=.int n) (fun Q hQ=>rd_cons (rd_var rfl (rd_nil hQ))) ⟨n,rfl,bt_log hb (by decide) (by decide)⟩ (fun d H' s e=>qe c d H' s e)
 ·walk_at "rdx"
  exact qs (by omega)
theorem sc_equation:FnScope ["one","other","row","below","times","rest"] ["one","other"] (defScope s_equation):=⟨rfl,rfl,rfl,by decide +kernel,rfl,by decide +kernel,by decide +kernel⟩
theorem ok_equation{f:Addr}{fd:FuncData}(F:Fun K "equation" "equation" s_equation f fd):FnOk P w K mg base CX0 1 f fd ["one","other"] spEq:=by
 refine F.ok (k:=0) sc_equation (fun vs H Q E h=>?_) (fun cdv A outer s H vs Q E hr h=>?_)
 ·obtain⟨a,b,rfl,_⟩:=h
  rfl
 obtain⟨a,b,rfl,ha,hb,q⟩:=h
 refine⟨_,(pss_cons (ps_set (i:=2) sc_equation.nd rfl (by first | exact Or.inl rfl | exact Or.inr rfl) (pe_tup (pa_cons pe_int (pa_cons pe_int (pa_cons (pv 0) pa_nil)))))
  (pss_cons (ps_set (i:=3) sc_equation.nd rfl (by first | exact Or.inl rfl | exact Or.inr rfl) (pe_tup (pa_cons pe_int (pa_cons pe_int (pa_cons (pv 1) pa_nil)))))
  (pss_cons (ps_while PassesOwn.never (pt_cmpR op_ne (pe_ix ix_tup (pv 3) pe_int (fun _ _=>rfl)) pe_int (nomark _))
   (pss_cons (ps_set (i:=4) sc_equation.nd rfl (by first | exact Or.inl rfl | exact Or.inr rfl) (pe_op op_fdivF (pe_ix ix_tup (pv 2) pe_int (fun _ _=>rfl)) (pe_ix ix_tup (pv 3) pe_int (fun _ _=>rfl))))
  (pss_cons (ps_set (i:=5) sc_equation.nd rfl (by first | exact Or.inl rfl | exact Or.inr rfl) (pe_tup (pa_cons (pe_op op_sub (pe_ix ix_tup (pv 2) pe_int (fun _ _=>rfl)) (pe_op op_mulB (pv 4) (pe_ix ix_tup (pv 3) pe_int (fun _ _=>rfl)))) (pa_cons (pe_op op_sub (pe_ix ix_tup (pv 2) pe_int (fun _ _=>rfl)) (pe_op op_mulB (pv 4) (pe_ix ix_tup (pv 3) pe_int (fun _ _=>rfl)))) (pa_cons (pe_op op_sub (pe_ix ix_tup (pv 2) pe_int (fun _ _=>rfl)) (pe_op op_mulB (pv 4) (pe_ix ix_tup (pv 3) pe_int (fun _ _=>rfl)))) pa_nil)))))
  (pss_cons (ps_set (i:=2) sc_equation.nd rfl (by first | exact Or.inl rfl | exact Or.inr rfl) (pv 3))
  (pss_one (ps_set (i:=3) sc_equation.nd rfl (by first | exact Or.inl rfl | exact Or.inr rfl) (pv 5)))))))
  (pss_cons (ps_if (pt_cmpR op_lt (pe_ix ix_tup (pv 2) pe_int (fun _ _=>rfl)) pe_int (nomark _))
   (pss_one (ps_ret (pe_tup (pa_cons (pe_un un_neg (pe_ix ix_tup (pv 2) pe_int (fun _ _=>rfl))) (pa_cons (pe_un un_neg (pe_ix ix_tup (pv 2) pe_int (fun _ _=>rfl))) (pa_cons (pe_un un_neg (pe_ix ix_tup (pv 2) pe_int (fun _ _=>rfl))) pa_nil))))))
   pss_nil)
  (pss_one (ps_ret (pv 2))))))),?_⟩
 walk_at "rd"
 refine⟨three,fun p1 hp1=>?_⟩
 walk_at "rd"
 refine⟨three,fun p2 hp2=>?_⟩
 walk_at "rd"
 have n12:p1≠p2:=fun z=>by rw[←z,upd_same] at hp2;cases hp2
 refine⟨fun m σ' H'=>∃(pr pb:Addr) (u v r u' v' r':Int) (t1 t2:Option V),σ'=[some (.int a),some (.int b),some (.ref pr),some (.ref pb),t1,t2]∧Same H H'∧
  H' pr=some (.tup [.int u,.int v,.int r])∧H' pb=some (.tup [.int u',.int v',.int r'])∧EqI a b u v r u' v' r'∧m=r'.natAbs,
  ⟨_,p1,p2,1,0,a,0,1,b,none,none,rfl,(same_new hp1 _).trans (same_new hp2 _),by rw[upd_ne n12];exact upd_same,upd_same,EqI.start a b,rfl⟩,?_⟩
 rintro m σ' H' ⟨pr,pb,u,v,r,u',v',r',t1,t2,rfl,sm,hpr,hpb,I,rfl⟩
 have B:=I.bounds
 have br:=bt_le2 (m:=510) ha hb (show r.natAbs≤a.natAbs+b.natAbs+4 by omega) (by decide)
 have br':=bt_le (m:=510) hb (show r'.natAbs≤4*b.natAbs+4 by omega) (by decide)
 have bu':=bt_le (m:=510) hb (show u'.natAbs≤4*b.natAbs+4 by omega) (by decide)
 have bv':=bt_le (m:=510) ha (show v'.natAbs≤4*a.natAbs+4 by omega) (by decide)
 walk_at "rd"
 refine rd_ixT (SqT.of hpb) at32 ?_
 walk_at "rd"
 by_cases hz:r'=0
 ·subst hz
  refine iteNS rfl ?_
  have D:=I.done
  walk_at "rd"
  refine rd_ixT (SqT.of hpr) at32 ?_
  walk_at "rd"
  refine ite2d (fun c=>?_) (fun c=>?_)
  ·walk_at "rd"
   refine rd_ixT (SqT.of hpr) at30 ?_
   walk_at "rd"
   refine rd_ixT (SqT.of hpr) at31 ?_
   walk_at "rd"
   refine rd_ixT (SqT.of hpr) at32 ?_
   walk_at "rd"
   refine⟨three,fun p hp=>?_⟩
   exact q p _ _ _ _ (sm.trans (same_new hp _)) upd_same (D.1 c)
  ·walk_at "rd"
   exact q pr _ _ _ _ sm hpr (D.2 c)
 ·refine iteNN (fun z=>hz (V.int.inj z)) ?_
  refine⟨_,fun σ' H' hh=>hh,?_⟩
  have St:=I.step hz
  have bq:=bt_le (m:=520) br (show (r.fdiv r').natAbs≤4*r.natAbs+4 by have:=quot_bound (r:=r) hz;omega) (by decide)
  walk_at "rd"
  refine rd_ixT (SqT.of hpr) at32 ?_
  walk_at "rd"
  refine rd_ixT (SqT.of hpb) at32 ?_
  refine rd_i ⟨hz,br'.mono (by decide)⟩ ?_
  walk_at "rd"
  refine rd_ixT (SqT.of hpr) at30 ?_
  walk_at "rd"
  refine rd_ixT (SqT.of hpb) at30 ?_
  refine rd_i ⟨520,510,bq,bu',by decide⟩ ?_
  walk_at "rd"
  refine rd_ixT (SqT.of hpr) at31 ?_
  walk_at "rd"
  refine rd_ixT (SqT.of hpb) at31 ?_
  refine rd_i ⟨520,510,bq,bv',by decide⟩ ?_
  walk_at "rd"
  refine rd_ixT (SqT.of hpr) at32 ?_
  walk_at "rd"
  refine rd_ixT (SqT.of hpb) at32 ?_
  refine rd_i ⟨520,510,bq,br',by decide⟩ ?_
  walk_at "rd"
  refine⟨three,fun p hp=>?_⟩
  walk_at "rd"
  exact⟨_,St.2,pb,p,u',v',r',_,_,_,_,_,rfl,sm.trans (same_new hp _),(same_new hp _) _ _ hpb,upd_same,St.1,rfl⟩
theorem sc_divisor:FnScope ["one","other"] ["one","other"] (defScope s_divisor):=⟨rfl,rfl,rfl,by decide +kernel,rfl,by decide +kernel,by decide +kernel⟩
theorem ok_divisor{f:Addr}{fd:FuncData}(F:Fun K "divisor" "divisor" s_divisor f fd)(c_equation:Cal P w K mg base 1 "equation" ["one","other"] spEq):FnOk P w K mg base CX0 2 f fd ["one","other"] spDivisor:=by
 refine F.ok (k:=1) sc_divisor (fun vs H Q E h=>?_) (fun cdv A outer s H vs Q E hr h=>?_)
 ·obtain⟨a,b,rfl,_⟩:=h
  rfl
 obtain⟨a,b,rfl,ha,hb,q⟩:=h
 refine⟨_,(pss_one (ps_ret (pe_ix ix_tup (pe_cal c_equation (hr.mono (by decide)) rfl (pa_cons (pv 0) (pa_cons (pv 1) pa_nil))) pe_int (fun _ _=>rfl)))),?_⟩
 walk_at "rd"
 refine⟨a,b,rfl,ha,hb,fun p u v g H' sm hp e=>?_⟩
 walk_at "rd"
 refine rd_ixT (SqT.of hp) at32 ?_
 rw[e.gd]
 exact q _ sm
theorem sc_common:FnScope ["one","other"] ["one","other"] (defScope s_common):=⟨rfl,rfl,rfl,by decide +kernel,rfl,by decide +kernel,by decide +kernel⟩
theorem ok_common{f:Addr}{fd:FuncData}(F:Fun K "common" "common" s_common f fd)(c_refuse_below_one:CalE P w K mg base 1 "refuse_below_one" ["number"] (spRefuseE c_NoNumber))(c_divisor:Cal P w K mg base 2 "divisor" ["one","other"] spDivisor):FnOk P w K mg base (CX1 P w) 3 f fd ["one","other"] (spCommonE c_NoNumber):=by
 refine F.okE (k:=2) sc_common (fun vs H Q E h=>?_) (fun cdv A outer s H vs Q E hr h T=>?_)
 ·obtain⟨a,b,rfl,_⟩:=h
  rfl
 obtain⟨a,b,rfl,ha,hb,qs,qe⟩:=h
 refine⟨_,(pss_cons (ps_expr (pe_calE T c_refuse_below_one (hr.mono (by decide)) rfl (pa_cons (pv 0) pa_nil)))
  (pss_cons (ps_expr (pe_calE T c_refuse_below_one (hr.mono (by decide)) rfl (pa_cons (pv 1) pa_nil)))
  (pss_one (ps_ret (pe_op op_mulB (pe_op op_fdivB (pv 0) (pe_cal c_divisor (hr.mono (by decide)) rfl (pa_cons (pv 0) (pa_cons (pv 1) pa_nil)))) (pv 1)))))),?_⟩
 walk_at "rdx"
 refine⟨a,rfl,fun a0=>?_,fun a0=>qe (fun z=>by omega)⟩
 walk_at "rdx"
 refine⟨b,rfl,fun b0=>?_,fun b0=>qe (fun z=>by omega)⟩
 walk_at "rdx"
 refine⟨a,b,rfl,ha,hb,fun H' sm=>?_⟩
 have g0:=gcd_pos (b:=b) (show 0<a by omega)
 have g1:=gcd_le (b:=b) (show 0<a by omega)
 refine rd_i ⟨g0,(ha.le (x:=(Int.gcd a b:Int)) (by omega)).mono (by decide)⟩ ?_
 walk_at "rdx"
 have d0:0≤a/(Int.gcd a b:Int):=Int.ediv_nonneg (by omega) (by omega)
 have d1:a/(Int.gcd a b:Int)≤a:=Int.ediv_le_self _ (by omega)
 refine rd_i ⟨500,500,ha.le (by omega),hb,by decide⟩ ?_
 exact qs a0 b0 _ sm
theorem sc_round_by:FnScope ["size","days","pieces","day","bits","number","place"] ["size","days"] (defScope s_round_by):=⟨rfl,rfl,rfl,by decide +kernel,rfl,by decide +kernel,by decide +kernel⟩
theorem ok_round_by{f:Addr}{fd:FuncData}(F:Fun K "round_by" "round_by" s_round_by f fd)(c_refuse_below_one:CalE P w K mg base 1 "refuse_below_one" ["number"] (spRefuseE c_NoNumber))(c_refuse_too_long:CalE P w K mg base 3 "refuse_too_long" ["size"] (spTooLongE c_TooLong))(z_range:mg "range"=none)(z_len:mg "len"=none){tk_PIECE:Tok}(m_PIECE:mg "PIECE"=some (.int 256 tk_PIECE)):FnOk P w K mg base (CX1 P w) 4 f fd ["size","days"] (spRoundByE K c_NoNumber c_TooLong):=by
 refine F.okE (k:=3) sc_round_by (fun vs H Q E h=>?_) (fun cdv A outer s H vs Q E hr h T=>?_)
 ·obtain⟨a,ds,n,rfl,_⟩:=h
  rfl
 obtain⟨a,ds,n,rfl,hS,hb,qs,qn,ql⟩:=h
 refine⟨_,(pss_cons (ps_expr (pe_calE T c_refuse_below_one (hr.mono (by decide)) rfl (pa_cons (pv 0) pa_nil)))
  (pss_cons (ps_expr (pe_calE T c_refuse_too_long (hr.mono (by decide)) rfl (pa_cons (pv 0) pa_nil)))
  (pss_cons (ps_set (i:=2) sc_round_by.nd rfl (by first | exact Or.inl rfl | exact Or.inr rfl) (pe_op op_rep (pe_lst (pa_cons pe_int pa_nil)) (pe_op op_add (pe_op op_fdivB (pv 0) (pe_glob rfl m_PIECE (rel_int _ _))) pe_int)))
  (pss_cons (ps_for (by first | exact PassesOwn.leaving | exact PassesOwn.looking | with_unfolding_all passes_own) rfl (pi_list (pv 1)) (pg_name (i:=3) sc_round_by.nd rfl (by first | exact Or.inl rfl | exact Or.inr rfl))
   (pss_cons (ps_set (i:=6) sc_round_by.nd rfl (by first | exact Or.inl rfl | exact Or.inr rfl) (pe_op op_mod (pv 3) (pv 0)))
  (pss_one (ps_asg (pe_op op_or (pe_ix ix_list (pv 2) (pe_op op_fdivB (pv 6) (pe_glob rfl m_PIECE (rel_int _ _))) (fun _ _=>rfl)) (pe_op op_shlB pe_int (pe_op op_mod (pv 6) (pe_glob rfl m_PIECE (rel_int _ _))))) (pg_sub (pv 2) (pe_op op_fdivB (pv 6) (pe_glob rfl m_PIECE (rel_int _ _))) set_list)))))
  (pss_cons (ps_set (i:=4) sc_round_by.nd rfl (by first | exact Or.inl rfl | exact Or.inr rfl) pe_int)
  (pss_cons (ps_for (by first | exact PassesOwn.leaving | exact PassesOwn.looking | with_unfolding_all passes_own) rfl (pi_range1 rfl z_range (pa_cons (pe_callB call_len_seq rfl z_len PySem.boot_len (pa_cons (pv 2) pa_nil)) pa_nil)) (pg_name (i:=5) sc_round_by.nd rfl (by first | exact Or.inl rfl | exact Or.inr rfl))
   (pss_one (ps_set (i:=4) sc_round_by.nd rfl (by first | exact Or.inl rfl | exact Or.inr rfl) (pe_op op_or (pv 4) (pe_op op_shlB (pe_ix ix_list (pv 2) (pv 5) (fun _ _=>rfl)) (pe_op op_mulB (pv 5) (pe_glob rfl m_PIECE (rel_int _ _))))))))
  (pss_one (ps_ret (pe_tup (pa_cons (pv 0) (pa_cons (pv 4) pa_nil))))))))))),?_⟩
 walk_at "rdx"
 refine⟨n,rfl,fun n0=>?_,fun n0=>qn n0⟩
 walk_at "rdx"
 refine⟨n,rfl,hb,fun n1=>?_,fun n1=>ql n1⟩
 have fin:=qs n0 n1
 walk_at "rdx"
 refine⟨(by show 1≤sizeLine;decide),fun l0 hl0=>?_⟩
 walk_at "rdx"
 refine rd_rep upd_same (by omega) (by omega) (by show 1*_≤sizeLine;unfold sizeLine;omega) (fun l hl=>?_)
 have s0:=same_new hl0 (.lst [.int 0])
 have s1:=s0.trans (same_new hl (.lst (List.replicate (n/256+1).toNat [V.int 0]).flatten))
 have t1:upd (upd H l0 (.lst [.int 0])) l (.lst (List.replicate (n/256+1).toNat [V.int 0]).flatten) l=some (.lst (pcsV 0 (n/256+1).toNat)):=by rw[upd_same,pcsV_zero]
 have hl':H l=none:=s0.free hl
 generalize upd (upd H l0 (.lst [.int 0])) l (.lst (List.replicate (n/256+1).toNat [V.int 0]).flatten)=H1 at s1 t1 ⊢
 generalize hk:(n/256+1).toNat=k at t1
 walk_at "rdx"
 refine⟨_,rfl,a,rfl,⟨_,s1.seq hS⟩,for_list (xs:=ds.map V.int) (fun i σ' H'=>Same H H'∧∃(b:Nat) (c c':Option V),H' l=some (.lst (pcsV b k))∧σ'=[some (.int n),some (.ref a),some (.ref l),c,none,none,c']∧RB n (ds.take i) b) ⟨s1,0,none,none,t1,rfl,?_⟩ ?_ ?_ ?_⟩
 ·simpa using RB.nil n
 ·rintro i σ' H' _ ⟨s,_⟩
  exact s.seq hS
 ·rintro i x σ' H' hx ⟨s,b,c,c',t,rfl,B⟩
  rw[List.getElem?_map] at hx
  obtain⟨d,hd,rfl⟩:=Option.map_eq_some_iff.mp hx
  have m0:=Int.emod_nonneg d (show n≠0 by omega)
  have m1:=Int.emod_lt_of_pos d (show 0<n by omega)
  walk_at "rdx"
  have B':=B.snoc (x:=d) (by omega)
  obtain⟨p,hp⟩:∃p:Nat,d%n=(p:Int):=⟨(d%n).toNat,by omega⟩
  rw[hp,Int.toNat_natCast] at B'
  rw[hp] at m1 ⊢
  have e1:(p:Int)/256=((p/256:Nat):Int):=by omega
  have e2:(p:Int)%256=((p%256:Nat):Int):=by omega
  rw[e1]
  have pk:p/256<k:=by omega
  refine rd_ixL (SqL.of t) (atI_nat (pcsV_at pk)) ?_
  walk_at "rdx"
  rw[e2]
  refine rd_i ⟨by omega,1,bt1,by omega⟩ ?_
  walk_at "rdx"
  rw[Int.toNat_natCast,pow_cast,bitOr_nat]
  try rw[e1]
  refine rd_setL t (by rw[pcsV_len];exact pk) ?_
  rw[pcsV_set pk]
  refine⟨same_app hl' s,_,_,_,upd_same,rfl,?_⟩
  rw[List.take_add_one,hd]
  exact B'
 ·rintro σ' H2 ⟨s2,b,c,c',t2,rfl,B⟩
  rw[List.length_map,List.take_length] at B
  walk_at "rdx"
  walk_at "rdf"
  walk_at "rdx"
  refine⟨l,_,rfl,.inl (SqL.of t2),?_⟩
  walk_at "rdx"
  rw[pcsV_len]
  refine⟨(k:Int),rfl,by omega,by omega,for_range (n:=((k:Int)).toNat) (fun i σ' H'=>H'=H2∧∃(c1:Option V),σ'=[some (.int n),some (.ref a),some (.ref l),c,some (.int ((b%2^(256*i):Nat):Int)),c1,c']∧i≤k) ⟨rfl,none,?_,by omega⟩ ?_ ?_⟩
  ·rw[Nat.mul_zero,Nat.pow_zero,Nat.mod_one]
   rfl
  ·rintro i σ' H' hi ⟨rfl,c1,rfl,_⟩
   have ik:i<k:=by omega
   walk_at "rdx"
   rw[Int.zero_add]
   refine rd_ixL (SqL.of t2) (atI_nat (pcsV_at ik)) ?_
   walk_at "rdx"
   refine rd_i ⟨20,10,bt_nat (by omega),(by unfold Bt;decide),by decide⟩ ?_
   walk_at "rdx"
   refine rd_i ⟨by omega,256,bt_nat (pc_lt _ _),by omega⟩ ?_
   walk_at "rdx"
   rw[show ((i:Int)*256).toNat=256*i by omega,shl_cast,bitOr_nat,pc_join]
   exact⟨rfl,_,rfl,by omega⟩
  ·rintro σ' H' ⟨rfl,c1,rfl,_⟩
   walk_at "rdx"
   have e:256*((k:Int)).toNat=256*(n/256+1).toNat:=by omega
   rw[e,rb_bits (by omega) B.lt]
   refine⟨two',fun p hp=>?_⟩
   exact fin p b _ (s2.trans (same_new hp _)) upd_same B
theorem sc_full_bits:FnScope ["size"] ["size"] (defScope s_full_bits):=⟨rfl,rfl,rfl,by decide +kernel,rfl,by decide +kernel,by decide +kernel⟩
theorem ok_full_bits{f:Addr}{fd:FuncData}(F:Fun K "full_bits" "full_bits" s_full_bits f fd):FnOk P w K mg base CX0 1 f fd ["size"] spFull:=by
 refine F.ok (k:=0) sc_full_bits (fun vs H Q E h=>?_) (fun cdv A outer s H vs Q E hr h=>?_)
 ·obtain⟨n,rfl,_⟩:=h
  rfl
 obtain⟨n,rfl,h0,h1,q⟩:=h
 refine⟨_,(pss_one (ps_ret (pe_op op_sub (pe_op op_shlB pe_int (pv 0)) pe_int))),?_⟩
 walk_at "rd"
 refine rd_i ⟨h0,1,(by unfold Bt;decide),by omega⟩ ?_
 walk_at "rd"
 rw[full_cast]
 exact q
theorem sc_days_in:FnScope ["turn","days","first","piece"] ["turn"] (defScope s_days_in):=⟨rfl,rfl,rfl,by decide +kernel,rfl,by decide +kernel,by decide +kernel⟩
theorem ok_days_in{f:Addr}{fd:FuncData}(F:Fun K "days_in" "days_in" s_days_in f fd)(c_full_bits:Cal P w K mg base 1 "full_bits" ["size"] spFull)(z_range:mg "range"=none){tk_PIECE:Tok}(m_PIECE:mg "PIECE"=some (.int 256 tk_PIECE)):FnOk P w K mg base CX0 2 f fd ["turn"] (spDaysIn K):=by
 refine F.ok (k:=1) sc_days_in (fun vs H Q E h=>?_) (fun cdv A outer s H vs Q E hr h=>?_)
 ·obtain⟨a,n,b,rfl,_⟩:=h
  rfl
 obtain⟨a,n,b,rfl,hS,h0,h1,hb,q⟩:=h
 refine⟨_,(pss_cons (ps_set (i:=1) sc_days_in.nd rfl (by first | exact Or.inl rfl | exact Or.inr rfl) (pe_lst pa_nil))
  (pss_cons (ps_for PassesOwn.never rfl (pi_range3 rfl z_range (pa_cons pe_int (pa_cons (pe_ix ix_tup (pv 0) pe_int (fun _ _=>rfl)) (pa_cons (pe_glob rfl m_PIECE (rel_int _ _)) pa_nil)))) (pg_name (i:=2) sc_days_in.nd rfl (by first | exact Or.inl rfl | exact Or.inr rfl))
   (pss_cons (ps_set (i:=3) sc_days_in.nd rfl (by first | exact Or.inl rfl | exact Or.inr rfl) (pe_op op_and (pe_op op_shr (pe_ix ix_tup (pv 0) pe_int (fun _ _=>rfl)) (pv 2)) (pe_cal c_full_bits (hr.mono (by decide)) rfl (pa_cons (pe_glob rfl m_PIECE (rel_int _ _)) pa_nil))))
  (pss_one (ps_cut (ps_if (pt_cmpR op_gt (pv 3) pe_int (nomark _))
   (pss_one (ps_expr (pe_bm PySem.F.plainAttrs_list PySem.F.slot_list_extend PySem.F.type_list_extend mt_extend (pv 1) (pa_cons (pe_comp rfl (compOk_freeM ["turn","days","first","piece"] ["turn","days","first","piece"] rfl rfl (by with_unfolding_all rfl) (by decide +kernel) rfl (by decide +kernel) rfl (by decide +kernel) (by walk_at "fm") (by with_unfolding_all rfl) (by with_unfolding_all rfl)) (pi_range1 rfl z_range (pa_cons (pe_glob rfl m_PIECE (rel_int _ _)) pa_nil)) (fun _ _ _ _=>(pifs_one (pt_tru (pe_op op_and (pe_op op_shr (pv 4) (pv 0)) pe_int) (fun _=>rfl)))) (fun _ _ _ _=>(pe_op op_add (pv 3) (pv 0)))) pa_nil))))
   pss_nil)))))
  (pss_one (ps_ret (pv 1))))),?_⟩
 walk_at "rd"
 refine⟨(by show 0≤sizeLine;decide),fun l hl=>?_⟩
 have s1:=same_new hl (.lst [])
 have t1:upd H l (.lst []) l=some (.lst ((dli b (256*0)).map V.int)):=upd_same
 generalize upd H l (.lst [])=H1 at s1 t1 ⊢
 have hS1:=s1.tup hS
 walk_at "rd"
 walk_at "rdf"
 walk_at "rd"
 refine rd_ixT hS1 at0 ?_
 walk_at "rd"
 refine⟨0,n,256,rfl,by decide,by decide,small_step (by decide) (by decide) (by omega) (by omega) (by decide) (by decide),((n-1)/256+1).toNat,?_,?_⟩
 ·rw[rangeSize_up (by decide),if_pos h0,show n-0-1=n-1 by omega]
  omega
 refine for_rangeS (fun i σ' H'=>Same H H'∧H' l=some (.lst ((dli b (256*i)).map V.int))∧∃c c':Option V,σ'=[some (.ref a),some (.ref l),c,c']∧i≤700) ⟨s1,t1,none,none,rfl,by decide⟩ ?_ ?_
 ·rintro i σ' H2 hi ⟨s2,t2,c,c',rfl,_⟩
  have hS2:=s2.tup hS
  have i1:i<700:=by omega
  rw[show (0:Int)+(i:Int)*256=((256*i:Nat):Int) by omega]
  generalize hm:256*i=m at*
  walk_at "rd"
  refine rd_ixT hS2 at1 ?_
  walk_at "rd"
  refine rd_i (show (0:Int)≤(m:Int) by omega) ?_
  walk_at "rd"
  refine⟨256,rfl,by decide,by decide,?_⟩
  walk_at "rd"
  rw[Int.toNat_natCast,shr_cast,bitAnd_nat,Nat.and_two_pow_sub_one_eq_mod,Nat.shiftRight_eq_div_pow,show(256:Int).toNat=256 from rfl]
  refine rd_cut (fun σ' H'=>Same H H'∧H' l=some (.lst ((dli b (256*(i+1))).map V.int))∧∃c c':Option V,σ'=[some (.ref a),some (.ref l),c,c']∧i+1≤700) ?_ (fun σ' H' h=>h)
  walk_at "rd"
  refine ite2d (fun _=>?_) (fun p0=>?_)
  rotate_left
  ·walk_at "rd"
   refine⟨s2,?_,_,_,rfl,by omega⟩
   rw[t2,show 256*(i+1)=m+256 by omega,←dli_step]
   have:((((List.range 256).map fun i=>V.int (0+(i:Nat)))).filter fun v=>match v with | .int d=>b.testBit (m+d.toNat) | _=>false)=[]:=by
    rw[List.filter_eq_nil_iff]
    intro v hv
    obtain⟨j,hj,rfl⟩:=List.mem_map.mp hv
    have hj':j<256:=List.mem_range.mp hj
    show ¬b.testBit (m+(0+(j:Int)).toNat)=true
    rw[show (0+(j:Int)).toNat=j by omega]
    have e:(b/2^m%2^256).testBit j=b.testBit (m+j):=by
     rw[Nat.testBit_mod_two_pow,←Nat.shiftRight_eq_div_pow,Nat.testBit_shiftRight,decide_eq_true hj',Bool.true_and]
    rw[←e,show b/2^m%2^256=0 by omega,Nat.zero_testBit]
    exact Bool.false_ne_true
   rw[this,List.map_nil,List.append_nil]
  walk_at "rd"
  refine rd_ext rfl t2 ?_
  walk_at "rd"
  refine rd_comp (rd_rng1 ?_)
  walk_at "rd"
  refine⟨256,rfl,by decide,by decide,?_⟩
  refine comp_go walk_r ?_ (fun _ _ _=>trivial) (fun v=>match v with | .int d=>b.testBit (m+d.toNat) | _=>false) (fun v=>match v with | .int d=>V.int ((m:Int)+d) | _=>.non) (fun x hx D ys Q' hD h=>?_) (fun x hx _ D ys Q' hD h=>?_) (fun D hD=>?_)
  ·rw[List.length_map,List.length_range]
   exact small1000 (by decide)
  ·obtain⟨j,hj,rfl⟩:=List.mem_map.mp hx
   have hj':j<256:=List.mem_range.mp hj
   walk_at "rd"
   refine rd_i (show (0:Int)≤0+(j:Int) by omega) ?_
   walk_at "rd"
   rw[show (0+(j:Int)).toNat=j by omega,piece_bit,decide_eq_true hj',Bool.true_and]
   replace h:Q' (b.testBit (m+(0+(j:Int)).toNat)) _:=h
   rw[show (0+(j:Int)).toNat=j by omega] at h
   exact h
  ·obtain⟨j,hj,rfl⟩:=List.mem_map.mp hx
   walk_at "rd"
   exact h
  have s3:=same_new hD (.lst ((((List.range (Int.toNat 256)).map fun i=>V.int (0+(i:Nat))).filter fun v=>match v with | .int d=>b.testBit (m+d.toNat) | _=>false).map fun v=>match v with | .int d=>V.int ((m:Int)+d) | _=>.non))
  walk_at "rd"
  refine⟨l,D,_,_,rfl,rfl,s3 _ _ t2,upd_same,?_,?_⟩
  ·rw[List.length_map,List.length_map]
   refine Nat.le_trans (Nat.add_le_add (dli_len _ _) (List.length_filter_le _ _)) ?_
   rw[List.length_map,List.length_range]
   exact Nat.le_trans (show m+Int.toNat 256≤200000 by have:Int.toNat 256=256:=rfl;omega) (by decide)
  walk_at "rd"
  refine⟨same_app hl (s2.trans s3),?_,_,_,rfl,by omega⟩
  rw[upd_same,show Int.toNat 256=256 from rfl,dli_step,show 256*(i+1)=m+256 by omega]
 ·rintro σ' H2 ⟨s2,t2,c,c',rfl,_⟩
  walk_at "rd"
  refine q l _ hl s2 ?_
  rw[t2]
  unfold dli
  obtain⟨k,hk⟩:∃k,256*((n-1)/256+1).toNat=n.toNat+k:=⟨256*((n-1)/256+1).toNat-n.toNat,by omega⟩
  rw[hk,dl_over hb]
theorem sc_bits_by:FnScope ["turn","size","bits","width"] ["turn","size"] (defScope s_bits_by):=⟨rfl,rfl,rfl,by decide +kernel,rfl,by decide +kernel,by decide +kernel⟩
theorem ok_bits_by{f:Addr}{fd:FuncData}(F:Fun K "bits_by" "bits_by" s_bits_by f fd)(c_full_bits:Cal P w K mg base 1 "full_bits" ["size"] spFull):FnOk P w K mg base CX0 2 f fd ["turn","size"] (spBitsByL K):=by
 refine F.ok (k:=1) sc_bits_by (fun vs H Q E h=>?_) (fun cdv A outer s H vs Q E hr h=>?_)
 ·obtain⟨a,n,z,b,rfl,_⟩:=h
  rfl
 obtain⟨a,n,z,b,rfl,hS,h0,h1,hb,z0,z1,q⟩:=h
 refine⟨_,(pss_cons (ps_set (i:=2) sc_bits_by.nd rfl (by first | exact Or.inl rfl | exact Or.inr rfl) (pe_ix ix_tup (pv 0) pe_int (fun _ _=>rfl)))
  (pss_cons (ps_set (i:=3) sc_bits_by.nd rfl (by first | exact Or.inl rfl | exact Or.inr rfl) (pe_ix ix_tup (pv 0) pe_int (fun _ _=>rfl)))
  (pss_cons (ps_while PassesOwn.never (pt_cmpR op_lt (pv 3) (pv 1) (nomark _))
   (pss_cons (ps_set (i:=2) sc_bits_by.nd rfl (by first | exact Or.inl rfl | exact Or.inr rfl) (pe_op op_or (pv 2) (pe_op op_shlB (pv 2) (pv 3))))
  (pss_one (ps_set (i:=3) sc_bits_by.nd rfl (by first | exact Or.inl rfl | exact Or.inr rfl) (pe_op op_mulB (pv 3) pe_int)))))
  (pss_one (ps_ret (pe_op op_and (pv 2) (pe_cal c_full_bits (hr.mono (by decide)) rfl (pa_cons (pv 1) pa_nil)))))))),?_⟩
 walk_at "rd"
 refine rd_ixT hS at1 ?_
 walk_at "rd"
 refine rd_ixT hS at0 ?_
 walk_at "rd"
 refine⟨fun m σ' H'=>H'=H∧∃wd c:Nat,σ'=[some (.ref a),some (.int z),some (.int (c:Int)),some (.int (wd:Int))]∧n.toNat∣wd∧0<wd∧wd≤300000∧Strt n.toNat b wd c∧m=z.toNat-wd,
  ⟨_,rfl,n.toNat,b,?_,Nat.dvd_refl _,by omega,by omega,Strt.start hb,rfl⟩,?_⟩
 ·have e:((n.toNat:Nat):Int)=n:=by omega
  rw[e]
  rfl
 rintro m σ' H' ⟨rfl,wd,c,rfl,hd,w0,w1,S,rfl⟩
 walk_at "rd"
 refine ite2d (fun cc=>?_) (fun cc=>?_)
 ·refine⟨_,fun σ' H' hh=>hh,?_⟩
  walk_at "rd"
  refine rd_i ⟨by omega,wd,bt_nat S.lt,by omega⟩ ?_
  walk_at "rd"
  refine rd_i ⟨20,2,bt_nat (by omega),(by unfold Bt;decide),by decide⟩ ?_
  walk_at "rd"
  rw[Int.toNat_natCast,shl_cast,bitOr_nat]
  refine⟨z.toNat-wd*2,by omega,rfl,wd*2,c ||| (c <<< wd),?_,Nat.dvd_trans hd (Nat.dvd_mul_right _ _),by omega,by omega,S.dbl hd,rfl⟩
  rfl
 ·walk_at "rd"
  refine⟨z,rfl,by omega,by omega,?_⟩
  walk_at "rd"
  rw[bitAnd_nat]
  exact q _ (S.cut (by omega))
theorem sc_stretched:FnScope ["turn","size"] ["turn","size"] (defScope s_stretched):=⟨rfl,rfl,rfl,by decide +kernel,rfl,by decide +kernel,by decide +kernel⟩
theorem ok_stretched{f:Addr}{fd:FuncData}(F:Fun K "stretched" "stretched" s_stretched f fd)(er:Errs K mg c_FeastError c_NoNumber c_TooLong c_NoMeasure c_NoChange c_NoCycle c_Rule c_Each c_Dated c_Not c_Both c_Either c_But c_Unlike c_Later c_Upon c_Until c_Near c_Till c_Kth c_Every c_Measure c_Calendar c_Sun c_Change)(c_refuse_below_one:CalE P w K mg base 1 "refuse_below_one" ["number"] (spRefuseE c_NoNumber))(c_refuse_too_long:CalE P w K mg base 3 "refuse_too_long" ["size"] (spTooLongE c_TooLong))(c_bits_by:Cal P w K mg base 2 "bits_by" ["turn","size"] (spBitsByL K)):FnOk P w K mg base (CX1 P w) 4 f fd ["turn","size"] (spStretchedE K c_NoNumber c_TooLong):=by
 refine F.okE (k:=3) sc_stretched (fun vs H Q E h=>?_) (fun cdv A outer s H vs Q E hr h T=>?_)
 ·obtain⟨a,n,z,b,rfl,_⟩:=h
  rfl
 obtain⟨a,n,z,b,rfl,hS,h0,h1,hb,hz,qs,qn,ql⟩:=h
 refine⟨_,(pss_cons (ps_expr (pe_calE T c_refuse_below_one (hr.mono (by decide)) rfl (pa_cons (pv 1) pa_nil)))
  (pss_cons (ps_if (pt_cmpR op_ne (pe_op op_mod (pv 1) (pe_ix ix_tup (pv 0) pe_int (fun _ _=>rfl))) pe_int (nomark _))
   (pss_one (ps_raise T rfl er.x_NoNumber rfl (pa_cons pe_str pa_nil)))
   pss_nil)
  (pss_cons (ps_expr (pe_calE T c_refuse_too_long (hr.mono (by decide)) rfl (pa_cons (pv 1) pa_nil)))
  (pss_one (ps_ret (pe_tup (pa_cons (pv 1) (pa_cons (pe_cal c_bits_by (hr.mono (by decide)) rfl (pa_cons (pv 0) (pa_cons (pv 1) pa_nil))) pa_nil)))))))),?_⟩
 walk_at "rdx"
 refine⟨z,rfl,fun z0=>?_,fun z0=>qn (.inl z0)⟩
 walk_at "rdx"
 refine rd_ixT hS at0 ?_
 refine rd_i h0 ?_
 walk_at "rdx"
 by_cases hd:z%n=0
 ·have hd':n∣z:=Int.dvd_of_emod_eq_zero hd
  rw[hd]
  refine iteNS rfl ?_
  walk_at "rdx"
  refine⟨z,rfl,hz,fun z1=>?_,fun z1=>ql z0 hd' z1⟩
  walk_at "rdx"
  refine⟨a,n,z,b,rfl,hS,h0,by omega,hb,by omega,z1,fun c S=>?_⟩
  walk_at "rdx"
  exact⟨two',fun p hp=>qs z0 hd' z1 p c hp S⟩
 ·refine iteNN (fun q=>hd (V.int.inj q)) ?_
  walk_at "rdx"
  exact⟨(by show 1≤sizeLine;decide),(qn (.inr fun q=>hd (Int.emod_eq_zero_of_dvd q))).here⟩
theorem sc_common_size:FnScope ["one","other","size"] ["one","other"] (defScope s_common_size):=⟨rfl,rfl,rfl,by decide +kernel,rfl,by decide +kernel,by decide +kernel⟩
theorem ok_common_size{f:Addr}{fd:FuncData}(F:Fun K "common_size" "common_size" s_common_size f fd)(c_common:CalE P w K mg base 3 "common" ["one","other"] (spCommonE c_NoNumber))(c_refuse_too_long:CalE P w K mg base 3 "refuse_too_long" ["size"] (spTooLongE c_TooLong)):FnOk P w K mg base (CX1 P w) 4 f fd ["one","other"] (spCSE K c_TooLong):=by
 refine F.okE (k:=3) sc_common_size (fun vs H Q E h=>?_) (fun cdv A outer s H vs Q E hr h T=>?_)
 ·obtain⟨a1,a2,n1,n2,b1,b2,rfl,_⟩:=h
  rfl
 obtain⟨a1,a2,n1,n2,b1,b2,rfl,W,q,ql⟩:=h
 have p1:=W.p1
 have p2:=W.p2
 have l1:=W.l1
 have l2:=W.l2
 refine⟨_,(pss_cons (ps_set (i:=2) sc_common_size.nd rfl (by first | exact Or.inl rfl | exact Or.inr rfl) (pe_calE T c_common (hr.mono (by decide)) rfl (pa_cons (pe_ix ix_tup (pv 0) pe_int (fun _ _=>rfl)) (pa_cons (pe_ix ix_tup (pv 1) pe_int (fun _ _=>rfl)) pa_nil))))
  (pss_cons (ps_expr (pe_calE T c_refuse_too_long (hr.mono (by decide)) rfl (pa_cons (pv 2) pa_nil)))
  (pss_one (ps_ret (pv 2))))),?_⟩
 walk_at "rdx"
 refine rd_ixT W.s1 at0 ?_
 walk_at "rdx"
 refine rd_ixT W.s2 at0 ?_
 walk_at "rdx"
 refine⟨n1,n2,rfl,bt_small (by omega) (by omega) (by decide),bt_small (by omega) (by omega) (by decide),fun _ _ H1 s1=>?_,fun z=>absurd (show 1≤n1∧1≤n2 by omega) z⟩
 walk_at "rdx"
 refine⟨_,rfl,W.bt,fun lz=>?_,fun lz=>(ql lz).later s1⟩
 walk_at "rdx"
 exact q lz _ s1
theorem sc_ones_in:FnScope ["bits","fields","width","each_second"] ["bits"] (defScope s_ones_in):=⟨rfl,rfl,rfl,by decide +kernel,rfl,by decide +kernel,by decide +kernel⟩
theorem ok_ones_in{f:Addr}{fd:FuncData}(F:Fun K "ones_in" "ones_in" s_ones_in f fd)(c_bits_by:Cal P w K mg base 2 "bits_by" ["turn","size"] (spBitsByL K))(c_full_bits:Cal P w K mg base 1 "full_bits" ["size"] spFull):FnOk P w K mg base CX0 3 f fd ["bits"] spOnes:=by
 refine F.ok (k:=2) sc_ones_in (fun vs H Q E h=>?_) (fun cdv A outer s H vs Q E hr h=>?_)
 ·obtain⟨b,n,rfl,_⟩:=h
  rfl
 obtain⟨b,n,rfl,hb,hn,q⟩:=h
 refine⟨_,(pss_cons (ps_set (i:=1) sc_ones_in.nd rfl (by first | exact Or.inl rfl | exact Or.inr rfl) (pv 0))
  (pss_cons (ps_set (i:=2) sc_ones_in.nd rfl (by first | exact Or.inl rfl | exact Or.inr rfl) pe_int)
  (pss_cons (ps_while PassesOwn.never (pt_cmpR op_gt (pe_op op_shr (pv 1) (pv 2)) pe_int (nomark _))
   (pss_cons (ps_set (i:=3) sc_ones_in.nd rfl (by first | exact Or.inl rfl | exact Or.inr rfl) (pe_cal c_bits_by (hr.mono (by decide)) rfl (pa_cons (pe_tup (pa_cons (pe_op op_mulB pe_int (pv 2)) (pa_cons (pe_cal c_full_bits (hr.mono (by decide)) rfl (pa_cons (pv 2) pa_nil)) pa_nil))) (pa_cons (pe_bm0 PySem.F.plainAttrs_int PySem.F.slot_int_bit_length PySem.F.type_int_bit_length mt_bits (pv 1)) pa_nil))))
  (pss_cons (ps_set (i:=1) sc_ones_in.nd rfl (by first | exact Or.inl rfl | exact Or.inr rfl) (pe_op op_add (pe_op op_and (pv 1) (pv 3)) (pe_op op_and (pe_op op_shr (pv 1) (pv 2)) (pv 3))))
  (pss_one (ps_set (i:=2) sc_ones_in.nd rfl (by first | exact Or.inl rfl | exact Or.inr rfl) (pe_op op_mulB pe_int (pv 2)))))))
  (pss_one (ps_ret (pv 1)))))),?_⟩
 walk_at "rd"
 refine⟨fun m σ' H'=>Same H H'∧∃f w:Nat,∃x:Option V,σ'=[some (.int (b:Int)),some (.int (f:Int)),some (.int (w:Int)),x]∧0<w∧w≤300000∧f<2^n∧Dg w f (cnt b n)∧m=n-w,
  ⟨_,Same.refl _,b,1,none,rfl,by decide,by decide,hb,Dg.start n b hb,rfl⟩,?_⟩
 rintro m σ' H1 ⟨s1,f,w,x,rfl,w0,w1,hf,D,rfl⟩
 walk_at "rd"
 refine rd_i (show (0:Int)≤(w:Int) by omega) ?_
 walk_at "rd"
 rw[Int.toNat_natCast,shr_cast]
 refine ite2d (fun cc=>?_) (fun cc=>?_)
 ·have f1:2^w≤f:=by
   have h1:0<f >>> w:=by omega
   rw[Nat.shiftRight_eq_div_pow] at h1
   exact Nat.le_of_not_lt fun z=>by rw[Nat.div_eq_of_lt z] at h1;omega
  have wn:w<n:=by
   refine Nat.lt_of_not_le fun z=>?_
   have:=Nat.pow_le_pow_right (show 0<2 by decide) z
   omega
  have f0:f≠0:=by have:=Nat.two_pow_pos w;omega
  have l1:f<2^(f.log2+1):=Nat.lt_log2_self
  have l2:f.log2+1≤n:=by
   have:=Nat.log2_self_le f0
   refine Nat.lt_of_not_le fun z=>?_
   have:=Nat.pow_le_pow_right (show 0<2 by decide) z
   omega
  refine⟨_,fun σ' H' hh=>hh,?_⟩
  walk_at "rd"
  refine rd_i ⟨3,20,(by unfold Bt;decide),bt_nat (by omega),by decide⟩ ?_
  walk_at "rd"
  refine⟨(w:Int),rfl,by omega,by omega,?_⟩
  walk_at "rd"
  rw[Int.toNat_natCast,show(2:Int)*(w:Int)=((2*w:Nat):Int) by omega]
  refine⟨two',fun p hp=>?_⟩
  have s2:=same_new hp (.tup [.int ((2*w:Nat):Int),.int ((2^w-1:Nat):Int)])
  have t2:upd H1 p (.tup [.int ((2*w:Nat):Int),.int ((2^w-1:Nat):Int)]) p=some (.tup [.int ((2*w:Nat):Int),.int ((2^w-1:Nat):Int)]):=upd_same
  generalize upd H1 p (.tup [.int ((2*w:Nat):Int),.int ((2^w-1:Nat):Int)])=H2 at s2 t2 ⊢
  walk_at "rd"
  rw[intBits_nat f0]
  walk_at "rd"
  refine⟨p,_,_,_,rfl,SqT.of t2,by omega,by omega,?_,by omega,by omega,fun c S=>?_⟩
  ·rw[Int.toNat_natCast]
   have:=Nat.pow_le_pow_right (show 0<2 by decide) (show w≤2*w by omega)
   have:=Nat.two_pow_pos w
   omega
  rw[Int.toNat_natCast,show(((f.log2+1:Nat):Int)).toNat=f.log2+1 by omega] at S
  walk_at "rd"
  refine rd_i (show (0:Int)≤(w:Int) by omega) ?_
  walk_at "rd"
  refine rd_i ⟨3,20,(by unfold Bt;decide),bt_nat (by omega),by decide⟩ ?_
  walk_at "rd"
  have E1:=ev_mask w0 l1 S 0
  have E2:=ev_mask w0 l1 S w
  rw[Nat.pow_zero,Nat.div_one] at E1
  obtain⟨d1,d2⟩:=D.pair w0 E1 E2
  rw[Int.toNat_natCast,shr_cast,Nat.shiftRight_eq_div_pow,bitAnd_nat,bitAnd_nat]
  refine⟨n-2*w,by omega,s1.trans s2,(f &&& c)+(f/2^w &&& c),2*w,some (.int (c:Int)),?_,by omega,by omega,by omega,d1,rfl⟩
  rw[Int.natCast_add]
  rfl
 ·have fl:f<2^w:=by
   have h1:f >>> w=0:=Nat.eq_zero_of_not_pos fun z=>cc (Int.natCast_pos.mpr z)
   rw[Nat.shiftRight_eq_div_pow] at h1
   exact Nat.lt_of_not_le fun z=>by
    have:=(Nat.le_div_iff_mul_le (Nat.two_pow_pos w)).mpr (show 1*2^w≤f by omega)
    omega
  walk_at "rd"
  rw[D.last fl]
  exact q _ s1
theorem sc_days_ahead:FnScope ["turn","day","part"] ["turn","day"] (defScope s_days_ahead):=⟨rfl,rfl,rfl,by decide +kernel,rfl,by decide +kernel,by decide +kernel⟩
theorem ok_days_ahead{f:Addr}{fd:FuncData}(F:Fun K "days_ahead" "days_ahead" s_days_ahead f fd)(c_full_bits:Cal P w K mg base 1 "full_bits" ["size"] spFull)(c_ones_in:Cal P w K mg base 3 "ones_in" ["bits"] spOnes):FnOk P w K mg base CX0 4 f fd ["turn","day"] (spAhead K):=by
 refine F.ok (k:=3) sc_days_ahead (fun vs H Q E h=>?_) (fun cdv A outer s H vs Q E hr h=>?_)
 ·obtain⟨a,n,d,b,rfl,_⟩:=h
  rfl
 obtain⟨a,n,d,b,rfl,hS,h0,h1,hb,bd,q⟩:=h
 have m0:=Int.emod_nonneg d (show n≠0 by omega)
 have m1:=Int.emod_lt_of_pos d h0
 refine⟨_,(pss_cons (ps_set (i:=2) sc_days_ahead.nd rfl (by first | exact Or.inl rfl | exact Or.inr rfl) (pe_op op_and (pe_ix ix_tup (pv 0) pe_int (fun _ _=>rfl)) (pe_cal c_full_bits (hr.mono (by decide)) rfl (pa_cons (pe_op op_mod (pv 1) (pe_ix ix_tup (pv 0) pe_int (fun _ _=>rfl))) pa_nil))))
  (pss_one (ps_ret (pe_op op_add (pe_op op_mulB (pe_op op_fdivB (pv 1) (pe_ix ix_tup (pv 0) pe_int (fun _ _=>rfl))) (pe_cal c_ones_in (hr.mono (by decide)) rfl (pa_cons (pe_ix ix_tup (pv 0) pe_int (fun _ _=>rfl)) pa_nil))) (pe_cal c_ones_in (hr.mono (by decide)) rfl (pa_cons (pv 2) pa_nil)))))),?_⟩
 walk_at "rd"
 refine rd_ixT hS at1 ?_
 walk_at "rd"
 refine rd_ixT hS at0 ?_
 refine rd_i h0 ?_
 walk_at "rd"
 refine⟨d%n,rfl,m0,by omega,?_⟩
 walk_at "rd"
 rw[bitAnd_nat]
 refine rd_ixT hS at0 ?_
 walk_at "rd"
 refine rd_i (cdiv_small h0 (by omega)) ?_
 walk_at "rd"
 refine rd_ixT hS at1 ?_
 walk_at "rd"
 refine⟨b,n.toNat,rfl,hb,by omega,fun H1 s1=>?_⟩
 have cl:=cnt_le b n.toNat
 refine rd_i ⟨260,20,bt_div bd h0,bt_nat (by omega),by decide⟩ ?_
 walk_at "rd"
 refine⟨_,(d%n).toNat,rfl,and_full_lt _ _,by omega,fun H2 s2=>?_⟩
 walk_at "rd"
 rw[cnt_same (c:=b) fun i hi=>and_full_bit _ _ _ hi]
 exact q _ (s1.trans s2)
theorem sc_how_many:FnScope ["turn","first","end"] ["turn","first","end"] (defScope s_how_many):=⟨rfl,rfl,rfl,by decide +kernel,rfl,by decide +kernel,by decide +kernel⟩
theorem ok_how_many{f:Addr}{fd:FuncData}(F:Fun K "how_many" "how_many" s_how_many f fd)(c_days_ahead:Cal P w K mg base 4 "days_ahead" ["turn","day"] (spAhead K)):FnOk P w K mg base CX0 5 f fd ["turn","first","end"] (spMany K):=by
 refine F.ok (k:=4) sc_how_many (fun vs H Q E h=>?_) (fun cdv A outer s H vs Q E hr h=>?_)
 ·obtain⟨a,n,f',e,b,rfl,_⟩:=h
  rfl
 obtain⟨a,n,f',e,b,rfl,hS,h0,h1,hb,b1,b2,q⟩:=h
 refine⟨_,(pss_one (ps_ret (pe_op op_sub (pe_cal c_days_ahead (hr.mono (by decide)) rfl (pa_cons (pv 0) (pa_cons (pv 2) pa_nil))) (pe_cal c_days_ahead (hr.mono (by decide)) rfl (pa_cons (pv 0) (pa_cons (pv 1) pa_nil)))))),?_⟩
 walk_at "rd"
 refine⟨a,n,e,b,rfl,hS,h0,h1,hb,b2.mono (by decide),fun H1 s1=>?_⟩
 walk_at "rd"
 refine⟨a,n,f',b,rfl,s1.tup hS,h0,h1,hb,b1.mono (by decide),fun H2 s2=>?_⟩
 walk_at "rd"
 exact q _ (s1.trans s2)
theorem sc_both:FnScope ["one","other","size"] ["one","other"] (defScope s_both):=⟨rfl,rfl,rfl,by decide +kernel,rfl,by decide +kernel,by decide +kernel⟩
theorem ok_both{f:Addr}{fd:FuncData}(F:Fun K "both" "both" s_both f fd)(c_common_size:CalE P w K mg base 4 "common_size" ["one","other"] (spCSE K c_TooLong))(c_bits_by:Cal P w K mg base 2 "bits_by" ["turn","size"] (spBitsByL K)):FnOk P w K mg base (CX1 P w) 5 f fd ["one","other"] (spWhS K c_TooLong):=by
 refine F.okE (k:=4) sc_both (fun vs H Q E h=>?_) (fun cdv A outer s H vs Q E hr h T=>?_)
 ·obtain⟨a1,a2,n1,n2,b1,b2,rfl,_⟩:=h
  rfl
 obtain⟨a1,a2,n1,n2,b1,b2,rfl,W,q,ql⟩:=h
 have fl:=lcmI_facts W.p1 W.p2
 have l1:=W.l1
 have l2:=W.l2
 refine⟨_,(pss_cons (ps_set (i:=2) sc_both.nd rfl (by first | exact Or.inl rfl | exact Or.inr rfl) (pe_calE T c_common_size (hr.mono (by decide)) rfl (pa_cons (pv 0) (pa_cons (pv 1) pa_nil))))
  (pss_one (ps_ret (pe_tup (pa_cons (pv 2) (pa_cons (pe_op op_and (pe_cal c_bits_by (hr.mono (by decide)) rfl (pa_cons (pv 0) (pa_cons (pv 2) pa_nil))) (pe_cal c_bits_by (hr.mono (by decide)) rfl (pa_cons (pv 1) (pa_cons (pv 2) pa_nil)))) pa_nil)))))),?_⟩
 walk_at "rdx"
 refine⟨a1,a2,n1,n2,b1,b2,rfl,W,fun lz H1 s1=>?_,fun e=>ql e⟩
 walk_at "rdx"
 refine⟨a1,n1,_,b1,rfl,s1.tup W.s1,W.p1,(by omega),W.k1,fl.1,lz,fun c1 T1=>?_⟩
 walk_at "rdx"
 refine⟨a2,n2,_,b2,rfl,s1.tup W.s2,W.p2,(by omega),W.k2,fl.1,lz,fun c2 T2=>?_⟩
 walk_at "rdx"
 rw[bitAnd_nat]
 refine⟨two',fun p hp=>?_⟩
 exact q lz p _ _ (s1.trans (same_new hp _)) upd_same (Nat.and_lt_two_pow _ T2.lt)
theorem sc_either:FnScope ["one","other","size"] ["one","other"] (defScope s_either):=⟨rfl,rfl,rfl,by decide +kernel,rfl,by decide +kernel,by decide +kernel⟩
theorem ok_either{f:Addr}{fd:FuncData}(F:Fun K "either" "either" s_either f fd)(c_common_size:CalE P w K mg base 4 "common_size" ["one","other"] (spCSE K c_TooLong))(c_bits_by:Cal P w K mg base 2 "bits_by" ["turn","size"] (spBitsByL K)):FnOk P w K mg base CX0 5 f fd ["one","other"] (spJoin K):=by
 refine F.ok (k:=4) sc_either (fun vs H Q E h=>?_) (fun cdv A outer s H vs Q E hr h=>?_)
 ·obtain⟨a1,a2,n1,n2,b1,b2,rfl,_⟩:=h
  rfl
 obtain⟨a1,a2,n1,n2,b1,b2,rfl,W,lz,q⟩:=h
 have fl:=lcmI_facts W.p1 W.p2
 have l1:=W.l1
 have l2:=W.l2
 refine⟨_,(pss_cons (ps_set (i:=2) sc_either.nd rfl (by first | exact Or.inl rfl | exact Or.inr rfl) (pe_calE thr_never c_common_size (hr.mono (by decide)) rfl (pa_cons (pv 0) (pa_cons (pv 1) pa_nil))))
  (pss_one (ps_ret (pe_tup (pa_cons (pv 2) (pa_cons (pe_op op_or (pe_cal c_bits_by (hr.mono (by decide)) rfl (pa_cons (pv 0) (pa_cons (pv 2) pa_nil))) (pe_cal c_bits_by (hr.mono (by decide)) rfl (pa_cons (pv 1) (pa_cons (pv 2) pa_nil)))) pa_nil)))))),?_⟩
 walk_at "rdx"
 refine⟨a1,a2,n1,n2,b1,b2,rfl,W,fun _ H1 s1=>?_,fun e=>absurd e (by omega)⟩
 walk_at "rdx"
 refine⟨a1,n1,_,b1,rfl,s1.tup W.s1,W.p1,(by omega),W.k1,fl.1,lz,fun c1 T1=>?_⟩
 walk_at "rdx"
 refine⟨a2,n2,_,b2,rfl,s1.tup W.s2,W.p2,(by omega),W.k2,fl.1,lz,fun c2 T2=>?_⟩
 walk_at "rdx"
 rw[bitOr_nat]
 refine⟨two',fun p hp=>?_⟩
 exact q p _ _ (s1.trans (same_new hp _)) upd_same (Nat.or_lt_two_pow T1.lt T2.lt)
theorem sc_unlike:FnScope ["one","other","size"] ["one","other"] (defScope s_unlike):=⟨rfl,rfl,rfl,by decide +kernel,rfl,by decide +kernel,by decide +kernel⟩
theorem ok_unlike{f:Addr}{fd:FuncData}(F:Fun K "unlike" "unlike" s_unlike f fd)(c_common_size:CalE P w K mg base 4 "common_size" ["one","other"] (spCSE K c_TooLong))(c_bits_by:Cal P w K mg base 2 "bits_by" ["turn","size"] (spBitsByL K)):FnOk P w K mg base CX0 5 f fd ["one","other"] (spJoin K):=by
 refine F.ok (k:=4) sc_unlike (fun vs H Q E h=>?_) (fun cdv A outer s H vs Q E hr h=>?_)
 ·obtain⟨a1,a2,n1,n2,b1,b2,rfl,_⟩:=h
  rfl
 obtain⟨a1,a2,n1,n2,b1,b2,rfl,W,lz,q⟩:=h
 have fl:=lcmI_facts W.p1 W.p2
 have l1:=W.l1
 have l2:=W.l2
 refine⟨_,(pss_cons (ps_set (i:=2) sc_unlike.nd rfl (by first | exact Or.inl rfl | exact Or.inr rfl) (pe_calE thr_never c_common_size (hr.mono (by decide)) rfl (pa_cons (pv 0) (pa_cons (pv 1) pa_nil))))
  (pss_one (ps_ret (pe_tup (pa_cons (pv 2) (pa_cons (pe_op op_xor (pe_cal c_bits_by (hr.mono (by decide)) rfl (pa_cons (pv 0) (pa_cons (pv 2) pa_nil))) (pe_cal c_bits_by (hr.mono (by decide)) rfl (pa_cons (pv 1) (pa_cons (pv 2) pa_nil)))) pa_nil)))))),?_⟩
 walk_at "rdx"
 refine⟨a1,a2,n1,n2,b1,b2,rfl,W,fun _ H1 s1=>?_,fun e=>absurd e (by omega)⟩
 walk_at "rdx"
 refine⟨a1,n1,_,b1,rfl,s1.tup W.s1,W.p1,(by omega),W.k1,fl.1,lz,fun c1 T1=>?_⟩
 walk_at "rdx"
 refine⟨a2,n2,_,b2,rfl,s1.tup W.s2,W.p2,(by omega),W.k2,fl.1,lz,fun c2 T2=>?_⟩
 walk_at "rdx"
 rw[bitXor_nat]
 refine⟨two',fun p hp=>?_⟩
 exact q p _ _ (s1.trans (same_new hp _)) upd_same (Nat.xor_lt_two_pow T1.lt T2.lt)
theorem sc_either_nE:FnScope ["one","other","size"] ["one","other"] (defScope s_either_nE):=⟨rfl,rfl,rfl,by decide +kernel,rfl,by decide +kernel,by decide +kernel⟩
theorem ok_either_nE{f:Addr}{fd:FuncData}(F:Fun K "either" "either" s_either_nE f fd)(c_common_size:CalE P w K mg base 4 "common_size" ["one","other"] (spCSE K c_TooLong))(c_bits_by:Cal P w K mg base 2 "bits_by" ["turn","size"] (spBitsByL K)):FnOk P w K mg base (CX1 P w) 5 f fd ["one","other"] (spWhS K c_TooLong):=by
 refine F.okE (k:=4) sc_either_nE (fun vs H Q E h=>?_) (fun cdv A outer s H vs Q E hr h T=>?_)
 ·obtain⟨a1,a2,n1,n2,b1,b2,rfl,_⟩:=h
  rfl
 obtain⟨a1,a2,n1,n2,b1,b2,rfl,W,q,ql⟩:=h
 have fl:=lcmI_facts W.p1 W.p2
 have l1:=W.l1
 have l2:=W.l2
 refine⟨_,(pss_cons (ps_set (i:=2) sc_either_nE.nd rfl (by first | exact Or.inl rfl | exact Or.inr rfl) (pe_calE T c_common_size (hr.mono (by decide)) rfl (pa_cons (pv 0) (pa_cons (pv 1) pa_nil))))
  (pss_one (ps_ret (pe_tup (pa_cons (pv 2) (pa_cons (pe_op op_or (pe_cal c_bits_by (hr.mono (by decide)) rfl (pa_cons (pv 0) (pa_cons (pv 2) pa_nil))) (pe_cal c_bits_by (hr.mono (by decide)) rfl (pa_cons (pv 1) (pa_cons (pv 2) pa_nil)))) pa_nil)))))),?_⟩
 walk_at "rdx"
 refine⟨a1,a2,n1,n2,b1,b2,rfl,W,fun lz H1 s1=>?_,fun e=>ql e⟩
 walk_at "rdx"
 refine⟨a1,n1,_,b1,rfl,s1.tup W.s1,W.p1,(by omega),W.k1,fl.1,lz,fun c1 T1=>?_⟩
 walk_at "rdx"
 refine⟨a2,n2,_,b2,rfl,s1.tup W.s2,W.p2,(by omega),W.k2,fl.1,lz,fun c2 T2=>?_⟩
 walk_at "rdx"
 rw[bitOr_nat]
 refine⟨two',fun p hp=>?_⟩
 exact q lz p _ _ (s1.trans (same_new hp _)) upd_same (Nat.or_lt_two_pow T1.lt T2.lt)
theorem sc_unlike_nE:FnScope ["one","other","size"] ["one","other"] (defScope s_unlike_nE):=⟨rfl,rfl,rfl,by decide +kernel,rfl,by decide +kernel,by decide +kernel⟩
theorem ok_unlike_nE{f:Addr}{fd:FuncData}(F:Fun K "unlike" "unlike" s_unlike_nE f fd)(c_common_size:CalE P w K mg base 4 "common_size" ["one","other"] (spCSE K c_TooLong))(c_bits_by:Cal P w K mg base 2 "bits_by" ["turn","size"] (spBitsByL K)):FnOk P w K mg base (CX1 P w) 5 f fd ["one","other"] (spWhS K c_TooLong):=by
 refine F.okE (k:=4) sc_unlike_nE (fun vs H Q E h=>?_) (fun cdv A outer s H vs Q E hr h T=>?_)
 ·obtain⟨a1,a2,n1,n2,b1,b2,rfl,_⟩:=h
  rfl
 obtain⟨a1,a2,n1,n2,b1,b2,rfl,W,q,ql⟩:=h
 have fl:=lcmI_facts W.p1 W.p2
 have l1:=W.l1
 have l2:=W.l2
 refine⟨_,(pss_cons (ps_set (i:=2) sc_unlike_nE.nd rfl (by first | exact Or.inl rfl | exact Or.inr rfl) (pe_calE T c_common_size (hr.mono (by decide)) rfl (pa_cons (pv 0) (pa_cons (pv 1) pa_nil))))
  (pss_one (ps_ret (pe_tup (pa_cons (pv 2) (pa_cons (pe_op op_xor (pe_cal c_bits_by (hr.mono (by decide)) rfl (pa_cons (pv 0) (pa_cons (pv 2) pa_nil))) (pe_cal c_bits_by (hr.mono (by decide)) rfl (pa_cons (pv 1) (pa_cons (pv 2) pa_nil)))) pa_nil)))))),?_⟩
 walk_at "rdx"
 refine⟨a1,a2,n1,n2,b1,b2,rfl,W,fun lz H1 s1=>?_,fun e=>ql e⟩
 walk_at "rdx"
 refine⟨a1,n1,_,b1,rfl,s1.tup W.s1,W.p1,(by omega),W.k1,fl.1,lz,fun c1 T1=>?_⟩
 walk_at "rdx"
 refine⟨a2,n2,_,b2,rfl,s1.tup W.s2,W.p2,(by omega),W.k2,fl.1,lz,fun c2 T2=>?_⟩
 walk_at "rdx"
 rw[bitXor_nat]
 refine⟨two',fun p hp=>?_⟩
 exact q lz p _ _ (s1.trans (same_new hp _)) upd_same (Nat.xor_lt_two_pow T1.lt T2.lt)
theorem sc_other_days:FnScope ["turn"] ["turn"] (defScope s_other_days):=⟨rfl,rfl,rfl,by decide +kernel,rfl,by decide +kernel,by decide +kernel⟩
theorem ok_other_days{f:Addr}{fd:FuncData}(F:Fun K "other_days" "other_days" s_other_days f fd)(c_full_bits:Cal P w K mg base 1 "full_bits" ["size"] spFull):FnOk P w K mg base CX0 2 f fd ["turn"] (spOther K):=by
 refine F.ok (k:=1) sc_other_days (fun vs H Q E h=>?_) (fun cdv A outer s H vs Q E hr h=>?_)
 ·obtain⟨a,n,b,rfl,_⟩:=h
  rfl
 obtain⟨a,n,b,rfl,S,n0,n1,hb,q⟩:=h
 refine⟨_,(pss_one (ps_ret (pe_tup (pa_cons (pe_ix ix_tup (pv 0) pe_int (fun _ _=>rfl)) (pa_cons (pe_op op_xor (pe_ix ix_tup (pv 0) pe_int (fun _ _=>rfl)) (pe_cal c_full_bits (hr.mono (by decide)) rfl (pa_cons (pe_ix ix_tup (pv 0) pe_int (fun _ _=>rfl)) pa_nil))) pa_nil))))),?_⟩
 walk_at "rd"
 refine rd_ixT S at0 ?_
 walk_at "rd"
 refine rd_ixT S at1 ?_
 walk_at "rd"
 refine rd_ixT S at0 ?_
 walk_at "rd"
 refine⟨n,rfl,by omega,by omega,?_⟩
 walk_at "rd"
 rw[bitXor_nat]
 refine⟨two',fun p hp=>q p _ hp ?_ fun i hi=>?_⟩
 ·exact Nat.xor_lt_two_pow hb (by have:=Nat.two_pow_pos n.toNat;omega)
 ·rw[Nat.testBit_xor,Nat.testBit_two_pow_sub_one]
  simp[hi]
theorem sc_without:FnScope ["one","other"] ["one","other"] (defScope s_without):=⟨rfl,rfl,rfl,by decide +kernel,rfl,by decide +kernel,by decide +kernel⟩
theorem ok_without{f:Addr}{fd:FuncData}(F:Fun K "without" "without" s_without f fd)(c_both:CalE P w K mg base 5 "both" ["one","other"] (spWhS K c_TooLong))(c_other_days:Cal P w K mg base 2 "other_days" ["turn"] (spOther K)):FnOk P w K mg base CX0 6 f fd ["one","other"] (spJoin K):=by
 refine F.ok (k:=5) sc_without (fun vs H Q E h=>?_) (fun cdv A outer s H vs Q E hr h=>?_)
 ·obtain⟨a1,a2,n1,n2,b1,b2,rfl,_⟩:=h
  rfl
 obtain⟨a1,a2,n1,n2,b1,b2,rfl,W,lz,q⟩:=h
 refine⟨_,(pss_one (ps_ret (pe_calE thr_never c_both (hr.mono (by decide)) rfl (pa_cons (pv 0) (pa_cons (pe_cal c_other_days (hr.mono (by decide)) rfl (pa_cons (pv 1) pa_nil)) pa_nil))))),?_⟩
 walk_at "rdx"
 refine⟨a2,n2,b2,rfl,W.s2,W.p2,W.l2,W.k2,fun p c hp hc hbit=>?_⟩
 walk_at "rdx"
 refine⟨a1,p,n1,n2,b1,c,rfl,⟨(same_new hp _).tup W.s1,SqT.of upd_same,W.p1,W.p2,W.l1,W.l2,W.k1,hc⟩,fun _ p3 c3 H3 s3 hp3 B=>?_,fun e=>absurd e (by omega)⟩
 exact q p3 c3 H3 ((same_new hp _).trans s3) hp3 B
theorem sc_without_nE:FnScope ["one","other"] ["one","other"] (defScope s_without_nE):=⟨rfl,rfl,rfl,by decide +kernel,rfl,by decide +kernel,by decide +kernel⟩
theorem ok_without_nE{f:Addr}{fd:FuncData}(F:Fun K "without" "without" s_without_nE f fd)(c_both:CalE P w K mg base 5 "both" ["one","other"] (spWhS K c_TooLong))(c_other_days:Cal P w K mg base 2 "other_days" ["turn"] (spOther K)):FnOk P w K mg base (CX1 P w) 6 f fd ["one","other"] (spWhS K c_TooLong):=by
 refine F.okE (k:=5) sc_without_nE (fun vs H Q E h=>?_) (fun cdv A outer s H vs Q E hr h T=>?_)
 ·obtain⟨a1,a2,n1,n2,b1,b2,rfl,_⟩:=h
  rfl
 obtain⟨a1,a2,n1,n2,b1,b2,rfl,W,q,ql⟩:=h
 refine⟨_,(pss_one (ps_ret (pe_calE T c_both (hr.mono (by decide)) rfl (pa_cons (pv 0) (pa_cons (pe_cal c_other_days (hr.mono (by decide)) rfl (pa_cons (pv 1) pa_nil)) pa_nil))))),?_⟩
 walk_at "rdx"
 refine⟨a2,n2,b2,rfl,W.s2,W.p2,W.l2,W.k2,fun p c hp hc hbit=>?_⟩
 walk_at "rdx"
 refine⟨a1,p,n1,n2,b1,c,rfl,⟨(same_new hp _).tup W.s1,SqT.of upd_same,W.p1,W.p2,W.l1,W.l2,W.k1,hc⟩,fun lz p3 c3 H3 s3 hp3 B=>?_,fun e=>(ql e).later (same_new hp _)⟩
 exact q lz p3 c3 H3 ((same_new hp _).trans s3) hp3 B
theorem sc_later:FnScope ["turn","number","shift","bits"] ["turn","number"] (defScope s_later):=⟨rfl,rfl,rfl,by decide +kernel,rfl,by decide +kernel,by decide +kernel⟩
theorem ok_later{f:Addr}{fd:FuncData}(F:Fun K "later" "later" s_later f fd)(c_full_bits:Cal P w K mg base 1 "full_bits" ["size"] spFull):FnOk P w K mg base CX0 2 f fd ["turn","number"] (spLater K):=by
 refine F.ok (k:=1) sc_later (fun vs H Q E h=>?_) (fun cdv A outer s H vs Q E hr h=>?_)
 ·obtain⟨a,n,num,b,rfl,_⟩:=h
  rfl
 obtain⟨a,n,num,b,rfl,hS,h0,h1,hb,q⟩:=h
 refine⟨_,(pss_cons (ps_set (i:=2) sc_later.nd rfl (by first | exact Or.inl rfl | exact Or.inr rfl) (pe_op op_mod (pv 1) (pe_ix ix_tup (pv 0) pe_int (fun _ _=>rfl))))
  (pss_cons (ps_set (i:=3) sc_later.nd rfl (by first | exact Or.inl rfl | exact Or.inr rfl) (pe_op op_or (pe_op op_shlB (pe_ix ix_tup (pv 0) pe_int (fun _ _=>rfl)) (pv 2)) (pe_op op_shr (pe_ix ix_tup (pv 0) pe_int (fun _ _=>rfl)) (pe_op op_sub (pe_ix ix_tup (pv 0) pe_int (fun _ _=>rfl)) (pv 2)))))
  (pss_one (ps_ret (pe_tup (pa_cons (pe_ix ix_tup (pv 0) pe_int (fun _ _=>rfl)) (pa_cons (pe_op op_and (pv 3) (pe_cal c_full_bits (hr.mono (by decide)) rfl (pa_cons (pe_ix ix_tup (pv 0) pe_int (fun _ _=>rfl)) pa_nil))) pa_nil))))))),?_⟩
 have m0:=Int.emod_nonneg num (show n≠0 by omega)
 have m1:=Int.emod_lt_of_pos num h0
 walk_at "rd"
 refine rd_ixT hS at0 ?_
 refine rd_i h0 ?_
 walk_at "rd"
 refine rd_ixT hS at1 ?_
 walk_at "rd"
 refine rd_i ⟨m0,n.toNat,bt_nat hb,by omega⟩ ?_
 walk_at "rd"
 refine rd_ixT hS at1 ?_
 walk_at "rd"
 refine rd_ixT hS at0 ?_
 walk_at "rd"
 refine rd_i (show (0:Int)≤n-num%n by omega) ?_
 walk_at "rd"
 refine rd_ixT hS at0 ?_
 walk_at "rd"
 refine rd_ixT hS at0 ?_
 walk_at "rd"
 refine⟨n,rfl,by omega,by omega,?_⟩
 walk_at "rd"
 have e:(n-num%n).toNat=n.toNat-(num%n).toNat:=by omega
 rw[shl_cast,shr_cast,bitOr_nat,bitAnd_nat,e]
 refine⟨(by show 2≤sizeLine;decide),fun p hp=>?_⟩
 exact q p hp
theorem sc_gathered:FnScope ["turn","barred","step","join","told","free","stride"] ["turn","barred","step","join"] (defScope s_gathered):=⟨rfl,rfl,rfl,by decide +kernel,rfl,by decide +kernel,by decide +kernel⟩
theorem ok_gathered{f:Addr}{fd:FuncData}(F:Fun K "gathered" "gathered" s_gathered f fd)(c_other_days:Cal P w K mg base 2 "other_days" ["turn"] (spOther K))(c_both:CalE P w K mg base 5 "both" ["one","other"] (spWhS K c_TooLong))(c_later:Cal P w K mg base 2 "later" ["turn","number"] (spLater K))(c_either:Cal P w K mg base 5 "either" ["one","other"] (spJoin K))(c_unlike:Cal P w K mg base 5 "unlike" ["one","other"] (spJoin K))(z_abs:mg "abs"=none):FnOk P w K mg base CX0 6 f fd ["turn","barred","step","join"] (spGathS K mg [("either",spJoin K),("unlike",spJoin K)]):=by
 refine F.ok (k:=5) sc_gathered (fun vs H Q E h=>?_) (fun cdv A outer s H vs Q E hr h=>?_)
 ·obtain⟨a1,a2,f',n,e,b,c,x,rfl,_⟩:=h
  rfl
 obtain⟨a1,a2,f',n,e,b,c,x,rfl,hxj,hmg,S1,S2,n0,n1,hb,hc,he,q⟩:=h
 refine⟨_,(pss_cons (ps_set (i:=4) sc_gathered.nd rfl (by first | exact Or.inl rfl | exact Or.inr rfl) (pv 0))
  (pss_cons (ps_set (i:=5) sc_gathered.nd rfl (by first | exact Or.inl rfl | exact Or.inr rfl) (pe_cal c_other_days (hr.mono (by decide)) rfl (pa_cons (pv 1) pa_nil)))
  (pss_cons (ps_set (i:=6) sc_gathered.nd rfl (by first | exact Or.inl rfl | exact Or.inr rfl) (pv 2))
  (pss_cons (ps_while PassesOwn.never (pt_cmpR op_lt (pe_callB call_abs rfl z_abs PyProof.Rows.boot_abs (pa_cons (pv 6) pa_nil)) (pe_ix ix_tup (pv 0) pe_int (fun _ _=>rfl)) (nomark _))
   (pss_cons (ps_set (i:=4) sc_gathered.nd rfl (by first | exact Or.inl rfl | exact Or.inr rfl) (pe_calV (i:=3) (k:=5) (CalVs.cons c_either (CalVs.cons c_unlike CalVs.nil)) (hr.mono (by decide)) rfl (by first | exact Or.inl rfl | exact Or.inr (Or.inl rfl) | exact Or.inr (Or.inr rfl)) (pa_cons (pv 4) (pa_cons (pe_calE thr_never c_both (hr.mono (by decide)) rfl (pa_cons (pe_cal c_later (hr.mono (by decide)) rfl (pa_cons (pv 4) (pa_cons (pv 6) pa_nil))) (pa_cons (pv 5) pa_nil))) pa_nil))))
  (pss_cons (ps_set (i:=5) sc_gathered.nd rfl (by first | exact Or.inl rfl | exact Or.inr rfl) (pe_calE thr_never c_both (hr.mono (by decide)) rfl (pa_cons (pv 5) (pa_cons (pe_cal c_later (hr.mono (by decide)) rfl (pa_cons (pv 5) (pa_cons (pv 6) pa_nil))) pa_nil))))
  (pss_one (ps_set (i:=6) sc_gathered.nd rfl (by first | exact Or.inl rfl | exact Or.inr rfl) (pe_op op_mulB pe_int (pv 6)))))))
  (pss_one (ps_ret (pv 4))))))),?_⟩
 walk_at "rdx"
 refine⟨a2,n,c,rfl,S2,n0,n1,hc,fun pf fc hpf lf bf=>?_⟩
 have s1:=same_new hpf (.tup [.int n,.int (fc:Int)])
 have t1:upd H pf (.tup [.int n,.int (fc:Int)]) pf=some (.tup [.int n,.int (fc:Int)]):=upd_same
 generalize upd H pf (.tup [.int n,.int (fc:Int)])=H1 at s1 t1 ⊢
 have ls:=lcm_self n0
 walk_at "rdx"
 refine⟨fun m σ' H'=>Same H H'∧∃(pt pf:Addr) (g fr k:Nat),0<k∧k≤300000∧H' pt=some (.tup [.int n,.int (g:Int)])∧SqT K H' pf [.int n,.int (fr:Int)]∧g<2^n.toNat∧fr<2^n.toNat∧
  σ'=[some (.ref a1),some (.ref a2),some (.int e),some (.ref f'),some (.ref pt),some (.ref pf),some (.int (e*(k:Int)))]∧m=n.toNat-k,
  ⟨_,s1,a1,pf,b,fc,1,by decide,by decide,s1 _ _ S1,SqT.of t1,hb,lf,(by rw[show e*((1:Nat):Int)=e by omega];rfl),rfl⟩,?_⟩
 rintro m σ' H2 ⟨s2,pt,pf,g,fr,k,k0,k1,Tt,Tf,lg,lfr,rfl,rfl⟩
 have ek:(e*(k:Int)).natAbs=k:=by rcases he with h | h<;>rw[h]<;>omega
 walk_at "rdx"
 refine⟨_,rfl,?_⟩
 walk_at "rdx"
 refine rd_ixT (SqT.of (s2 _ _ S1)) at0 ?_
 walk_at "rdx"
 have mulb:∀x:Int,e*x=x∨e*x= -x:=fun x=>by rcases he with h | h<;>rw[h]<;>omega
 refine ite2d (fun hlt=>?_) (fun hge=>?_)
 ·have kn:(k:Int)<n:=by
   have:=mulb k
   split at hlt<;>omega
  refine⟨fun σ' H'=>∃m',m'<n.toNat-k∧Same H H'∧∃(pt pf:Addr) (g fr k:Nat),0<k∧k≤300000∧H' pt=some (.tup [.int n,.int (g:Int)])∧SqT K H' pf [.int n,.int (fr:Int)]∧g<2^n.toNat∧fr<2^n.toNat∧
   σ'=[some (.ref a1),some (.ref a2),some (.int e),some (.ref f'),some (.ref pt),some (.ref pf),some (.int (e*(k:Int)))]∧m'=n.toNat-k,fun σ' H' hh=>hh,?_⟩
  walk_at "rdx"
  refine rd_callV rfl hxj hmg ?_
  walk_at "rdx"
  refine⟨pt,n,_,g,rfl,SqT.of Tt,n0,n1,lg,fun p1 h1=>?_⟩
  have s3:=same_new h1 (.tup [.int n,.int ((lat n.toNat g (e*(k:Int)%n).toNat:Nat):Int)])
  have t3:upd H2 p1 (.tup [.int n,.int ((lat n.toNat g (e*(k:Int)%n).toNat:Nat):Int)]) p1=some _:=upd_same
  generalize upd H2 p1 (.tup [.int n,.int ((lat n.toNat g (e*(k:Int)%n).toNat:Nat):Int)])=H3 at s3 t3 ⊢
  walk_at "rdx"
  refine⟨p1,pf,n,n,_,fr,rfl,⟨SqT.of t3,s3.tup Tf,n0,n0,n1,n1,lat_lt _ _ _,lfr⟩,fun _ p2 c2 H4 s4 t4 B2=>?_,fun e=>absurd e (by rw[ls];omega)⟩
  rw[ls] at t4 B2
  walk_at "rdx"
  refine⟨pt,p2,n,n,g,c2,rfl,⟨SqT.of (s4 _ _ (s3 _ _ Tt)),SqT.of t4,n0,n0,n1,n1,lg,B2⟩,(by rw[ls];exact n1),fun p3 c3 H5 s5 t5 B3=>?_⟩
  rw[ls] at t5 B3
  walk_at "rdx"
  refine⟨pf,n,_,fr,rfl,s5.tup (s4.tup (s3.tup Tf)),n0,n1,lfr,fun p4 h4=>?_⟩
  have s6:=same_new h4 (.tup [.int n,.int ((lat n.toNat fr (e*(k:Int)%n).toNat:Nat):Int)])
  have t6:upd H5 p4 (.tup [.int n,.int ((lat n.toNat fr (e*(k:Int)%n).toNat:Nat):Int)]) p4=some _:=upd_same
  generalize upd H5 p4 (.tup [.int n,.int ((lat n.toNat fr (e*(k:Int)%n).toNat:Nat):Int)])=H6 at s6 t6 ⊢
  walk_at "rdx"
  refine⟨pf,p4,n,n,fr,_,rfl,⟨s6.tup (s5.tup (s4.tup (s3.tup Tf))),SqT.of t6,n0,n0,n1,n1,lfr,lat_lt _ _ _⟩,fun _ p5 c5 H7 s7 t7 B5=>?_,fun e=>absurd e (by rw[ls];omega)⟩
  rw[ls] at t7 B5
  walk_at "rdx"
  refine rd_i ⟨2,20,bt_nat (by decide),(by show(e*(k:Int)).natAbs<2^20;rw[ek];omega),by decide⟩ ?_
  walk_at "rdx"
  refine⟨n.toNat-2*k,by omega,s2.trans (s3.trans (s4.trans (s5.trans (s6.trans s7)))),p3,p5,c3,c5,2*k,by omega,by omega,s7 _ _ (s6 _ _ t5),SqT.of t7,B3,B5,?_,rfl⟩
  ·have:e*((2*k:Nat):Int)=2*(e*(k:Int)):=by rw[Int.natCast_mul,Int.mul_left_comm];rfl
   rw[this]
   rfl
 ·have kn:n.toNat≤k:=by
   have:=mulb k
   split at hge<;>omega
  walk_at "rdx"
  exact q pt g H2 s2 Tt lg
theorem sc_upon:FnScope ["R","S","size","days"] ["R","S"] (defScope s_upon):=⟨rfl,rfl,rfl,by decide +kernel,rfl,by decide +kernel,by decide +kernel⟩
theorem ok_upon{f:Addr}{fd:FuncData}(F:Fun K "upon" "upon" s_upon f fd)(c_common_size:CalE P w K mg base 4 "common_size" ["one","other"] (spCSE K c_TooLong))(c_stretched:CalE P w K mg base 4 "stretched" ["turn","size"] (spStretchedE K c_NoNumber c_TooLong))(c_both:CalE P w K mg base 5 "both" ["one","other"] (spWhS K c_TooLong))(c_gathered:Cal P w K mg base 6 "gathered" ["turn","barred","step","join"] (spGathS K mg [("either",spJoin K),("unlike",spJoin K)]))(c_later:Cal P w K mg base 2 "later" ["turn","number"] (spLater K))(c_either:Cal P w K mg base 5 "either" ["one","other"] (spJoin K)){fv_either:Addr}(v_either:mg "either"=some (.ref fv_either)):FnOk P w K mg base (CX1 P w) 7 f fd ["R","S"] (spWhS K c_TooLong):=by
 refine F.okE (k:=6) sc_upon (fun vs H Q E h=>?_) (fun cdv A outer s H vs Q E hr h T=>?_)
 ·obtain⟨a1,a2,n1,n2,b1,b2,rfl,_⟩:=h
  rfl
 obtain⟨a1,a2,n1,n2,b1,b2,rfl,W,q,ql⟩:=h
 have fl:=lcmI_facts W.p1 W.p2
 have bz:=W.bt
 refine⟨_,(pss_cons (ps_set (i:=2) sc_upon.nd rfl (by first | exact Or.inl rfl | exact Or.inr rfl) (pe_calE T c_common_size (hr.mono (by decide)) rfl (pa_cons (pv 0) (pa_cons (pv 1) pa_nil))))
  (pss_cons (ps_set (i:=3) sc_upon.nd rfl (by first | exact Or.inl rfl | exact Or.inr rfl) (pe_calE T c_stretched (hr.mono (by decide)) rfl (pa_cons (pv 0) (pa_cons (pv 2) pa_nil))))
  (pss_one (ps_ret (pe_calE T c_both (hr.mono (by decide)) rfl (pa_cons (pv 3) (pa_cons (pe_cal c_gathered (hr.mono (by decide)) rfl (pa_cons (pe_calE T c_stretched (hr.mono (by decide)) rfl (pa_cons (pv 1) (pa_cons (pv 2) pa_nil))) (pa_cons (pe_cal c_later (hr.mono (by decide)) rfl (pa_cons (pv 3) (pa_cons pe_int pa_nil))) (pa_cons pe_int (pa_cons (pe_glob rfl v_either (rel_ref _)) pa_nil))))) pa_nil))))))),?_⟩
 walk_at "rdx"
 refine⟨a1,a2,n1,n2,b1,b2,rfl,W,fun lz H1 s1=>?_,fun e=>ql e⟩
 replace q:=q lz
 clear ql
 generalize hz:lcmI n1 n2=z at*
 have z0:=fl.1
 have d1:n1∣z:=fl.2.1
 have d2:n2∣z:=fl.2.2.1
 have ls:=lcm_self z0
 walk_at "rdx"
 refine⟨a1,n1,z,b1,rfl,s1.tup W.s1,W.p1,W.l1,W.k1,bz,fun _ _ _ pr cr hr1 Sr=>?_,(fun e=>e.elim (fun e=>absurd e (by omega)) (fun e=>absurd d1 e)),(fun _ _ e=>absurd e (by omega))⟩
 have s2:=same_new hr1 (.tup [.int z,.int (cr:Int)])
 have t2:upd H1 pr (.tup [.int z,.int (cr:Int)]) pr=some (.tup [.int z,.int (cr:Int)]):=upd_same
 generalize upd H1 pr (.tup [.int z,.int (cr:Int)])=H2 at s2 t2 ⊢
 walk_at "rdx"
 refine⟨a2,n2,z,b2,rfl,s2.tup (s1.tup W.s2),W.p2,W.l2,W.k2,bz,fun _ _ _ ps cs hs1 Ss=>?_,(fun e=>e.elim (fun e=>absurd e (by omega)) (fun e=>absurd d2 e)),(fun _ _ e=>absurd e (by omega))⟩
 have s3:=same_new hs1 (.tup [.int z,.int (cs:Int)])
 have t3:upd H2 ps (.tup [.int z,.int (cs:Int)]) ps=some (.tup [.int z,.int (cs:Int)]):=upd_same
 generalize upd H2 ps (.tup [.int z,.int (cs:Int)])=H3 at s3 t3 ⊢
 walk_at "rdx"
 refine⟨pr,z,_,cr,rfl,s3.tup (SqT.of t2),z0,lz,Sr.lt,fun pl hl1=>?_⟩
 have s4:=same_new hl1 (.tup [.int z,.int ((lat z.toNat cr (1%z).toNat:Nat):Int)])
 have t4:upd H3 pl (.tup [.int z,.int ((lat z.toNat cr (1%z).toNat:Nat):Int)]) pl=some _:=upd_same
 generalize upd H3 pl (.tup [.int z,.int ((lat z.toNat cr (1%z).toNat:Nat):Int)])=H4 at s4 t4 ⊢
 walk_at "rdx"
 refine⟨ps,pl,_,z,1,cs,_,_,rfl,List.mem_cons_self,v_either,s4 _ _ t3,SqT.of t4,z0,lz,Ss.lt,lat_lt _ _ _,.inl rfl,fun pg g H5 s5 t5 lg=>?_⟩
 walk_at "rdx"
 refine⟨pr,pg,z,z,cr,g,rfl,⟨s5.tup (s4.tup (s3.tup (SqT.of t2))),SqT.of t5,z0,z0,lz,lz,Sr.lt,lg⟩,fun _ p c H6 s6 t6 B=>?_,fun e=>absurd e (by rw[ls];omega)⟩
 rw[ls] at t6 B
 exact q p c H6 (s1.trans (s2.trans (s3.trans (s4.trans (s5.trans s6))))) t6 B
theorem sc_until:FnScope ["R","S","size","days"] ["R","S"] (defScope s_until):=⟨rfl,rfl,rfl,by decide +kernel,rfl,by decide +kernel,by decide +kernel⟩
theorem ok_until{f:Addr}{fd:FuncData}(F:Fun K "until" "until" s_until f fd)(c_common_size:CalE P w K mg base 4 "common_size" ["one","other"] (spCSE K c_TooLong))(c_stretched:CalE P w K mg base 4 "stretched" ["turn","size"] (spStretchedE K c_NoNumber c_TooLong))(c_both:CalE P w K mg base 5 "both" ["one","other"] (spWhS K c_TooLong))(c_gathered:Cal P w K mg base 6 "gathered" ["turn","barred","step","join"] (spGathS K mg [("either",spJoin K),("unlike",spJoin K)]))(c_later:Cal P w K mg base 2 "later" ["turn","number"] (spLater K))(c_either:Cal P w K mg base 5 "either" ["one","other"] (spJoin K)){fv_either:Addr}(v_either:mg "either"=some (.ref fv_either)):FnOk P w K mg base (CX1 P w) 7 f fd ["R","S"] (spWhS K c_TooLong):=by
 refine F.okE (k:=6) sc_until (fun vs H Q E h=>?_) (fun cdv A outer s H vs Q E hr h T=>?_)
 ·obtain⟨a1,a2,n1,n2,b1,b2,rfl,_⟩:=h
  rfl
 obtain⟨a1,a2,n1,n2,b1,b2,rfl,W,q,ql⟩:=h
 have fl:=lcmI_facts W.p1 W.p2
 have bz:=W.bt
 refine⟨_,(pss_cons (ps_set (i:=2) sc_until.nd rfl (by first | exact Or.inl rfl | exact Or.inr rfl) (pe_calE T c_common_size (hr.mono (by decide)) rfl (pa_cons (pv 0) (pa_cons (pv 1) pa_nil))))
  (pss_cons (ps_set (i:=3) sc_until.nd rfl (by first | exact Or.inl rfl | exact Or.inr rfl) (pe_calE T c_stretched (hr.mono (by decide)) rfl (pa_cons (pv 0) (pa_cons (pv 2) pa_nil))))
  (pss_one (ps_ret (pe_calE T c_both (hr.mono (by decide)) rfl (pa_cons (pv 3) (pa_cons (pe_cal c_gathered (hr.mono (by decide)) rfl (pa_cons (pe_calE T c_stretched (hr.mono (by decide)) rfl (pa_cons (pv 1) (pa_cons (pv 2) pa_nil))) (pa_cons (pe_cal c_later (hr.mono (by decide)) rfl (pa_cons (pv 3) (pa_cons (pe_un un_neg pe_int) pa_nil))) (pa_cons (pe_un un_neg pe_int) (pa_cons (pe_glob rfl v_either (rel_ref _)) pa_nil))))) pa_nil))))))),?_⟩
 walk_at "rdx"
 refine⟨a1,a2,n1,n2,b1,b2,rfl,W,fun lz H1 s1=>?_,fun e=>ql e⟩
 replace q:=q lz
 clear ql
 generalize hz:lcmI n1 n2=z at*
 have z0:=fl.1
 have d1:n1∣z:=fl.2.1
 have d2:n2∣z:=fl.2.2.1
 have ls:=lcm_self z0
 walk_at "rdx"
 refine⟨a1,n1,z,b1,rfl,s1.tup W.s1,W.p1,W.l1,W.k1,bz,fun _ _ _ pr cr hr1 Sr=>?_,(fun e=>e.elim (fun e=>absurd e (by omega)) (fun e=>absurd d1 e)),(fun _ _ e=>absurd e (by omega))⟩
 have s2:=same_new hr1 (.tup [.int z,.int (cr:Int)])
 have t2:upd H1 pr (.tup [.int z,.int (cr:Int)]) pr=some (.tup [.int z,.int (cr:Int)]):=upd_same
 generalize upd H1 pr (.tup [.int z,.int (cr:Int)])=H2 at s2 t2 ⊢
 walk_at "rdx"
 refine⟨a2,n2,z,b2,rfl,s2.tup (s1.tup W.s2),W.p2,W.l2,W.k2,bz,fun _ _ _ ps cs hs1 Ss=>?_,(fun e=>e.elim (fun e=>absurd e (by omega)) (fun e=>absurd d2 e)),(fun _ _ e=>absurd e (by omega))⟩
 have s3:=same_new hs1 (.tup [.int z,.int (cs:Int)])
 have t3:upd H2 ps (.tup [.int z,.int (cs:Int)]) ps=some (.tup [.int z,.int (cs:Int)]):=upd_same
 generalize upd H2 ps (.tup [.int z,.int (cs:Int)])=H3 at s3 t3 ⊢
 walk_at "rdx"
 refine⟨pr,z,_,cr,rfl,s3.tup (SqT.of t2),z0,lz,Sr.lt,fun pl hl1=>?_⟩
 have s4:=same_new hl1 (.tup [.int z,.int ((lat z.toNat cr (-1%z).toNat:Nat):Int)])
 have t4:upd H3 pl (.tup [.int z,.int ((lat z.toNat cr (-1%z).toNat:Nat):Int)]) pl=some _:=upd_same
 generalize upd H3 pl (.tup [.int z,.int ((lat z.toNat cr (-1%z).toNat:Nat):Int)])=H4 at s4 t4 ⊢
 walk_at "rdx"
 refine⟨ps,pl,_,z,-1,cs,_,_,rfl,List.mem_cons_self,v_either,s4 _ _ t3,SqT.of t4,z0,lz,Ss.lt,lat_lt _ _ _,.inr rfl,fun pg g H5 s5 t5 lg=>?_⟩
 walk_at "rdx"
 refine⟨pr,pg,z,z,cr,g,rfl,⟨s5.tup (s4.tup (s3.tup (SqT.of t2))),SqT.of t5,z0,z0,lz,lz,Sr.lt,lg⟩,fun _ p c H6 s6 t6 B=>?_,fun e=>absurd e (by rw[ls];omega)⟩
 rw[ls] at t6 B
 exact q p c H6 (s1.trans (s2.trans (s3.trans (s4.trans (s5.trans s6))))) t6 B
theorem sc_till:FnScope ["R","S","size"] ["R","S"] (defScope s_till):=⟨rfl,rfl,rfl,by decide +kernel,rfl,by decide +kernel,by decide +kernel⟩
theorem ok_till{f:Addr}{fd:FuncData}(F:Fun K "till" "till" s_till f fd)(c_common_size:CalE P w K mg base 4 "common_size" ["one","other"] (spCSE K c_TooLong))(c_gathered:Cal P w K mg base 6 "gathered" ["turn","barred","step","join"] (spGathS K mg [("either",spJoin K),("unlike",spJoin K)]))(c_stretched:CalE P w K mg base 4 "stretched" ["turn","size"] (spStretchedE K c_NoNumber c_TooLong))(c_either:Cal P w K mg base 5 "either" ["one","other"] (spJoin K)){fv_either:Addr}(v_either:mg "either"=some (.ref fv_either)):FnOk P w K mg base (CX1 P w) 7 f fd ["R","S"] (spWhS K c_TooLong):=by
 refine F.okE (k:=6) sc_till (fun vs H Q E h=>?_) (fun cdv A outer s H vs Q E hr h T=>?_)
 ·obtain⟨a1,a2,n1,n2,b1,b2,rfl,_⟩:=h
  rfl
 obtain⟨a1,a2,n1,n2,b1,b2,rfl,W,q,ql⟩:=h
 have fl:=lcmI_facts W.p1 W.p2
 have bz:=W.bt
 refine⟨_,(pss_cons (ps_set (i:=2) sc_till.nd rfl (by first | exact Or.inl rfl | exact Or.inr rfl) (pe_calE T c_common_size (hr.mono (by decide)) rfl (pa_cons (pv 0) (pa_cons (pv 1) pa_nil))))
  (pss_one (ps_ret (pe_cal c_gathered (hr.mono (by decide)) rfl (pa_cons (pe_calE T c_stretched (hr.mono (by decide)) rfl (pa_cons (pv 0) (pa_cons (pv 2) pa_nil))) (pa_cons (pe_calE T c_stretched (hr.mono (by decide)) rfl (pa_cons (pv 1) (pa_cons (pv 2) pa_nil))) (pa_cons pe_int (pa_cons (pe_glob rfl v_either (rel_ref _)) pa_nil)))))))),?_⟩
 walk_at "rdx"
 refine⟨a1,a2,n1,n2,b1,b2,rfl,W,fun lz H1 s1=>?_,fun e=>ql e⟩
 replace q:=q lz
 clear ql
 generalize hz:lcmI n1 n2=z at*
 have z0:=fl.1
 have d1:n1∣z:=fl.2.1
 have d2:n2∣z:=fl.2.2.1
 have ls:=lcm_self z0
 walk_at "rdx"
 refine⟨a1,n1,z,b1,rfl,s1.tup W.s1,W.p1,W.l1,W.k1,bz,fun _ _ _ pr cr hr1 Sr=>?_,(fun e=>e.elim (fun e=>absurd e (by omega)) (fun e=>absurd d1 e)),(fun _ _ e=>absurd e (by omega))⟩
 have s2:=same_new hr1 (.tup [.int z,.int (cr:Int)])
 have t2:upd H1 pr (.tup [.int z,.int (cr:Int)]) pr=some (.tup [.int z,.int (cr:Int)]):=upd_same
 generalize upd H1 pr (.tup [.int z,.int (cr:Int)])=H2 at s2 t2 ⊢
 walk_at "rdx"
 refine⟨a2,n2,z,b2,rfl,s2.tup (s1.tup W.s2),W.p2,W.l2,W.k2,bz,fun _ _ _ ps cs hs1 Ss=>?_,(fun e=>e.elim (fun e=>absurd e (by omega)) (fun e=>absurd d2 e)),(fun _ _ e=>absurd e (by omega))⟩
 have s3:=same_new hs1 (.tup [.int z,.int (cs:Int)])
 have t3:upd H2 ps (.tup [.int z,.int (cs:Int)]) ps=some (.tup [.int z,.int (cs:Int)]):=upd_same
 generalize upd H2 ps (.tup [.int z,.int (cs:Int)])=H3 at s3 t3 ⊢
 walk_at "rdx"
 refine⟨pr,ps,_,z,1,cr,cs,_,rfl,List.mem_cons_self,v_either,s3 _ _ t2,SqT.of t3,z0,lz,Sr.lt,Ss.lt,.inl rfl,fun pg g H5 s5 t5 lg=>?_⟩
 exact q pg g H5 (s1.trans (s2.trans (s3.trans s5))) t5 lg
theorem sc_nearer_ahead:FnScope ["R","days","behind","first_nearer"] ["R"] (defScope s_nearer_ahead):=⟨rfl,rfl,rfl,by decide +kernel,rfl,by decide +kernel,by decide +kernel⟩
theorem ok_nearer_ahead{f:Addr}{fd:FuncData}(F:Fun K "nearer_ahead" "nearer_ahead" s_nearer_ahead f fd)(c_days_in:Cal P w K mg base 2 "days_in" ["turn"] (spDaysIn K))(c_till:CalE P w K mg base 7 "till" ["R","S"] (spWhS K c_TooLong))(c_round_by:CalE P w K mg base 4 "round_by" ["size","days"] (spRoundByE K c_NoNumber c_TooLong))(z_zip:mg "zip"=none):FnOk P w K mg base CX0 8 f fd ["R"] (spNearS K):=by
 refine F.ok (k:=7) sc_nearer_ahead (fun vs H Q E h=>?_) (fun cdv A outer s H vs Q E hr h=>?_)
 ·obtain⟨a,n,b,rfl,_⟩:=h
  rfl
 obtain⟨a,n,b,rfl,hS,h0,h1,hb,q⟩:=h
 refine⟨_,(pss_cons (ps_set (i:=1) sc_nearer_ahead.nd rfl (by first | exact Or.inl rfl | exact Or.inr rfl) (pe_cal c_days_in (hr.mono (by decide)) rfl (pa_cons (pv 0) pa_nil)))
  (pss_cons (ps_set (i:=2) sc_nearer_ahead.nd rfl (by first | exact Or.inl rfl | exact Or.inr rfl) (pe_op op_cat (pe_slice sl_list (pv 1) (po_some pe_int) po_none) (pe_comp rfl (compOk_freeM ["R","days","behind","first_nearer"] ["R","days","behind","first_nearer"] rfl rfl (by with_unfolding_all rfl) (by decide +kernel) rfl (by decide +kernel) rfl (by decide +kernel) (by walk_at "fm") (by with_unfolding_all rfl) (by with_unfolding_all rfl)) (pi_list (pe_slice sl_list (pv 1) po_none (po_some pe_int))) (fun _ _ _ _=>pifs_nil) (fun _ _ _ _=>(pe_op op_add (pv 0) (pe_ix ix_tup_c (pv 1) pe_int (fun _ _=>rfl)))))))
  (pss_cons (ps_setCompT (i:=3) sc_nearer_ahead.nd rfl (by first | exact Or.inl rfl | exact Or.inr rfl) (xs:=["day","other"]) rfl (compOkT_freeM ["day","other"] ["R","days","behind","first_nearer"] ["R","days","behind","first_nearer"] rfl rfl (by with_unfolding_all rfl) (by decide +kernel) rfl (by decide +kernel) (by decide +kernel) (by decide +kernel) (by walk_at "fm") (by with_unfolding_all rfl) (by with_unfolding_all rfl)) (pi_zip rfl z_zip (pa_cons (pv 1) (pa_cons (pv 2) pa_nil))) (fun _ _ _ _=>pifs_nil) (fun _ _ _ _=>(pg_tup_c (n:=2) rfl (pgs_cons (pg_name (i:=0) (show (["day","other","R","days","behind","first_nearer"]:List Str).Nodup from by decide +kernel) rfl (by first | exact Or.inl rfl | exact Or.inr rfl)) (pgs_cons (pg_name (i:=1) (show (["day","other","R","days","behind","first_nearer"]:List Str).Nodup from by decide +kernel) rfl (by first | exact Or.inl rfl | exact Or.inr rfl)) pgs_nil)))) (fun _ _ _ _=>(pe_op op_add (pe_op op_fdivB (pe_op op_add (pv 0) (pv 1)) pe_int) pe_int)))
  (pss_one (ps_ret (pe_calE thr_never c_till (hr.mono (by decide)) rfl (pa_cons (pv 0) (pa_cons (pe_calE thr_never c_round_by (hr.mono (by decide)) rfl (pa_cons (pe_ix ix_tup (pv 0) pe_int (fun _ _=>rfl)) (pa_cons (pv 3) pa_nil))) pa_nil)))))))),?_⟩
 walk_at "rdx"
 refine⟨a,n,b,rfl,hS,h0,h1,hb,fun l H1 hl s1 t1=>?_⟩
 have mem:=dli_mem (b:=b) h0
 have srt:=dli_pair b n.toNat
 have len:=dli_len b n.toNat
 generalize dli b n.toNat=ds at t1 mem srt len
 walk_at "rdx"
 refine rd_slL (SqL.of t1) (fun l2 hl2=>?_)
 rw[cut_from1]
 have s2:=same_new hl2 (.lst ((ds.drop 1).map V.int))
 have t2:upd H1 l2 (.lst ((ds.drop 1).map V.int)) l2=some _:=upd_same
 generalize upd H1 l2 (.lst ((ds.drop 1).map V.int))=H2 at s2 t2 ⊢
 refine rd_comp (rd_iL ?_)
 walk_at "rdx"
 refine rd_slL (SqL.of (s2 _ _ t1)) (fun l3 hl3=>?_)
 rw[cut_upto1,←List.map_take]
 have s3:=same_new hl3 (.lst ((ds.take 1).map V.int))
 have t3:upd H2 l3 (.lst ((ds.take 1).map V.int)) l3=some _:=upd_same
 generalize upd H2 l3 (.lst ((ds.take 1).map V.int))=H3 at s3 t3 ⊢
 have s13:=s1.trans (s2.trans s3)
 refine⟨l3,rfl,⟨_,SqL.of t3⟩,?_⟩
 refine comp_go walk_l ?_ (fun D ys hD=>(same_new hD _).seq (SqL.of t3)) (fun _=>true) (fun v=>match v with | .int d=>V.int (d+n) | _=>.non) (fun x hx D ys Q' hD h=>h) (fun x hx _ D ys Q' hD h=>?_) (fun D hD=>?_)
 ·rw[List.length_map,List.length_take]
  exact Nat.lt_of_le_of_lt (Nat.min_le_left _ _) (by decide)
 ·obtain⟨d,hd,rfl⟩:=List.mem_map.mp hx
  walk_at "rdx"
  refine rd_ixT ((same_new hD _).tup (s13.tup hS)) at0 ?_
  walk_at "rdx"
  exact h
 rw[List.filter_eq_self.mpr (fun _ _=>rfl),List.map_map]
 rw[show ((fun v:V=>match v with | .int d=>V.int (d+n) | _=>.non) ∘ V.int)=V.int ∘ (· +n) from rfl,←List.map_map]
 have s4:=same_new hD (.lst (((ds.take 1).map (· +n)).map V.int))
 have t4:upd H3 D (.lst (((ds.take 1).map (· +n)).map V.int)) D=some _:=upd_same
 generalize upd H3 D (.lst (((ds.take 1).map (· +n)).map V.int))=H4 at s4 t4 ⊢
 walk_at "rdx"
 have bl:=behind_len n ds
 refine rd_cat ((s3.trans s4) _ _ t2) t4 ?_ (fun l5 hl5=>?_)
 ·rw[←List.length_append,←List.map_append,List.length_map]
  exact Nat.le_trans (Nat.le_of_eq bl) (Nat.le_trans (show ds.length≤150000 by omega) (by decide))
 rw[←List.map_append]
 show gName _ _ _ (upd H4 l5 (.lst ((behindOf n ds).map V.int))) _
 have s5:=same_new hl5 (.lst ((behindOf n ds).map V.int))
 have t5:upd H4 l5 (.lst ((behindOf n ds).map V.int)) l5=some _:=upd_same
 generalize upd H4 l5 (.lst ((behindOf n ds).map V.int))=H5 at s5 t5 ⊢
 have s15:=s13.trans (s4.trans s5)
 have t15:=(s2.trans (s3.trans (s4.trans s5))) _ _ t1
 walk_at "rdx"
 refine rd_compT (rd_zip ?_)
 walk_at "rdx"
 refine⟨l,l5,rfl,⟨_,_,SqL.of t15,SqL.of t5⟩,?_⟩
 refine comp_zip (SqL.of t15) (SqL.of t5) ?_ (fun x y=>(x+y)/2+1) (fun x y H' Q' h=>?_) (fun D6 H6 hD6 s6 t6=>?_)
 ·exact Nat.lt_of_le_of_lt (show ds.length≤150000 by omega) (by decide)
 ·walk_at "rdx"
  exact h
 walk_at "rdx"
 refine rd_ixT (s6.tup (s15.tup hS)) at0 ?_
 walk_at "rdx"
 have ls:=lcm_self h0
 refine⟨D6,mids n ds,n,rfl,SqL.of t6,bt_small (by omega) (by omega) (by decide),fun _ _ p c H7 s7 t7 B=>?_,fun e=>absurd e (by omega),fun e=>absurd e (by omega)⟩
 walk_at "rdx"
 refine⟨a,p,n,n,b,c,rfl,⟨(s6.trans s7).tup (s15.tup hS),SqT.of t7,h0,h0,h1,h1,hb,B.lt⟩,fun _ p8 e H8 s8 t8 le=>?_,fun e=>absurd e (by rw[ls];omega)⟩
 rw[ls] at t8 le
 exact q p8 e H8 (s15.trans (s6.trans (s7.trans s8))) t8 le
theorem sc_near:FnScope ["R","S","early"] ["R","S"] (defScope s_near):=⟨rfl,rfl,rfl,by decide +kernel,rfl,by decide +kernel,by decide +kernel⟩
theorem ok_near{f:Addr}{fd:FuncData}(F:Fun K "near" "near" s_near f fd)(c_nearer_ahead:Cal P w K mg base 8 "nearer_ahead" ["R"] (spNearS K))(c_either:Cal P w K mg base 5 "either" ["one","other"] (spJoin K))(c_until:CalE P w K mg base 7 "until" ["R","S"] (spWhS K c_TooLong))(c_both:CalE P w K mg base 5 "both" ["one","other"] (spWhS K c_TooLong))(c_upon:CalE P w K mg base 7 "upon" ["R","S"] (spWhS K c_TooLong))(c_without:Cal P w K mg base 6 "without" ["one","other"] (spJoin K)):FnOk P w K mg base (CX1 P w) 9 f fd ["R","S"] (spWhS K c_TooLong):=by
 refine F.okE (k:=8) sc_near (fun vs H Q E h=>?_) (fun cdv A outer s H vs Q E hr h T=>?_)
 ·obtain⟨a1,a2,n1,n2,b1,b2,rfl,_⟩:=h
  rfl
 obtain⟨a1,a2,n1,n2,b1,b2,rfl,W,q,ql⟩:=h
 have p1:=W.p1
 have p2:=W.p2
 have fl:=lcmI_facts p1 p2
 have fl':=lcmI_comm p1 p2
 refine⟨_,(pss_cons (ps_set (i:=2) sc_near.nd rfl (by first | exact Or.inl rfl | exact Or.inr rfl) (pe_cal c_nearer_ahead (hr.mono (by decide)) rfl (pa_cons (pv 0) pa_nil)))
  (pss_one (ps_ret (pe_cal c_either (hr.mono (by decide)) rfl (pa_cons (pe_calE T c_until (hr.mono (by decide)) rfl (pa_cons (pv 0) (pa_cons (pe_calE T c_both (hr.mono (by decide)) rfl (pa_cons (pv 1) (pa_cons (pv 2) pa_nil))) pa_nil))) (pa_cons (pe_calE T c_upon (hr.mono (by decide)) rfl (pa_cons (pv 0) (pa_cons (pe_cal c_without (hr.mono (by decide)) rfl (pa_cons (pv 1) (pa_cons (pv 2) pa_nil))) pa_nil))) pa_nil)))))),?_⟩
 walk_at "rdx"
 refine⟨a1,n1,b1,rfl,W.s1,p1,W.l1,W.k1,fun pe e H1 s1 t1 le=>?_⟩
 walk_at "rdx"
 refine⟨a2,pe,n2,n1,b2,e,rfl,⟨s1.tup W.s2,SqT.of t1,p2,p1,W.l2,W.l1,W.k2,le⟩,fun lz pb cb H2 s2 t2 Bb=>?_,fun e=>by rw[←fl'] at e ⊢;exact(ql e).later s1⟩
 rw[←fl'] at lz t2 Bb
 replace q:=q lz
 clear ql
 generalize hz:lcmI n1 n2=z at*
 have z0:=fl.1
 have d1:n1∣z:=fl.2.1
 have d2:n2∣z:=fl.2.2.1
 have lz1:lcmI n1 z=z:=lcm_dvd p1 z0 d1
 have ls:=lcm_self z0
 walk_at "rdx"
 refine⟨a1,pb,n1,z,b1,cb,rfl,⟨(s1.trans s2).tup W.s1,SqT.of t2,p1,z0,W.l1,lz,W.k1,Bb⟩,fun _ pu cu H3 s3 t3 lu=>?_,fun e=>absurd e (by rw[lz1];omega)⟩
 rw[lz1] at t3 lu
 have s13:=s1.trans (s2.trans s3)
 walk_at "rdx"
 refine⟨a2,pe,n2,n1,b2,e,rfl,⟨s13.tup W.s2,SqT.of ((s2.trans s3) _ _ t1),p2,p1,W.l2,W.l1,W.k2,le⟩,by rw[←fl'];exact lz,fun pw cw H4 s4 t4 Bw=>?_⟩
 rw[←fl'] at t4 Bw
 walk_at "rdx"
 refine⟨a1,pw,n1,z,b1,cw,rfl,⟨(s13.trans s4).tup W.s1,SqT.of t4,p1,z0,W.l1,lz,W.k1,Bw⟩,fun _ pv cv H5 s5 t5 lv=>?_,fun e=>absurd e (by rw[lz1];omega)⟩
 rw[lz1] at t5 lv
 walk_at "rdx"
 refine⟨pu,pv,z,z,cu,cv,rfl,⟨SqT.of ((s4.trans s5) _ _ t3),SqT.of t5,z0,z0,lz,lz,lu,lv⟩,by rw[ls];exact lz,fun p c H6 s6 t6 B=>?_⟩
 rw[ls] at t6 B
 exact q p c H6 (s13.trans (s4.trans (s5.trans s6))) t6 B
theorem sc_kth:FnScope ["number","R","S","size","step","ends","days","place","odd"] ["number","R","S"] (defScope s_kth):=⟨rfl,rfl,rfl,by decide +kernel,rfl,by decide +kernel,by decide +kernel⟩
theorem ok_kth{f:Addr}{fd:FuncData}(F:Fun K "kth" "kth" s_kth f fd)(er:Errs K mg c_FeastError c_NoNumber c_TooLong c_NoMeasure c_NoChange c_NoCycle c_Rule c_Each c_Dated c_Not c_Both c_Either c_But c_Unlike c_Later c_Upon c_Until c_Near c_Till c_Kth c_Every c_Measure c_Calendar c_Sun c_Change)(c_common_size:CalE P w K mg base 4 "common_size" ["one","other"] (spCSE K c_TooLong))(c_stretched:CalE P w K mg base 4 "stretched" ["turn","size"] (spStretchedE K c_NoNumber c_TooLong))(c_later:Cal P w K mg base 2 "later" ["turn","number"] (spLater K))(c_both:CalE P w K mg base 5 "both" ["one","other"] (spWhS K c_TooLong))(c_gathered:Cal P w K mg base 6 "gathered" ["turn","barred","step","join"] (spGathS K mg [("either",spJoin K),("unlike",spJoin K)]))(c_unlike:Cal P w K mg base 5 "unlike" ["one","other"] (spJoin K))(c_without:Cal P w K mg base 6 "without" ["one","other"] (spJoin K))(c_upon:CalE P w K mg base 7 "upon" ["R","S"] (spWhS K c_TooLong))(c_until:CalE P w K mg base 7 "until" ["R","S"] (spWhS K c_TooLong))(z_abs:mg "abs"=none){fv_unlike:Addr}(v_unlike:mg "unlike"=some (.ref fv_unlike)):FnOk P w K mg base (CX1 P w) 8 f fd ["number","R","S"] (spKthS K c_NoNumber c_TooLong):=by
 refine F.okE (k:=7) sc_kth (fun vs H Q E h=>?_) (fun cdv A outer s H vs Q E hr h T=>?_)
 ·obtain⟨k,a1,a2,n1,n2,b1,b2,rfl,_⟩:=h
  rfl
 obtain⟨k,a1,a2,n1,n2,b1,b2,rfl,W,q0,q,ql⟩:=h
 have fl:=lcmI_facts W.p1 W.p2
 have bz:=W.bt
 refine⟨_,(pss_cons (ps_if (pt_cmpR op_eq (pv 0) pe_int (nomark _))
  (pss_one (ps_raise T rfl er.x_NoNumber rfl (pa_cons pe_str pa_nil)))
  pss_nil)
  (pss_cons (ps_set (i:=3) sc_kth.nd rfl (by first | exact Or.inl rfl | exact Or.inr rfl) (pe_calE T c_common_size (hr.mono (by decide)) rfl (pa_cons (pv 1) (pa_cons (pv 2) pa_nil))))
  (pss_cons (ps_cut (ps_set (i:=4) sc_kth.nd rfl (by first | exact Or.inl rfl | exact Or.inr rfl) (pe_ifExp (pt_cmpR op_gt (pv 0) pe_int (nomark _)) pe_int (pe_un un_neg pe_int))))
  (pss_cons (ps_cut (ps_set (i:=5) sc_kth.nd rfl (by first | exact Or.inl rfl | exact Or.inr rfl) (pe_ifExp (pt_cmpR op_gt (pv 0) pe_int (nomark _)) (pe_calE T c_stretched (hr.mono (by decide)) rfl (pa_cons (pv 2) (pa_cons (pv 3) pa_nil))) (pe_cal c_later (hr.mono (by decide)) rfl (pa_cons (pe_calE T c_stretched (hr.mono (by decide)) rfl (pa_cons (pv 2) (pa_cons (pv 3) pa_nil))) (pa_cons (pe_un un_neg pe_int) pa_nil))))))
  (pss_cons (ps_set (i:=6) sc_kth.nd rfl (by first | exact Or.inl rfl | exact Or.inr rfl) (pe_calE T c_stretched (hr.mono (by decide)) rfl (pa_cons (pv 1) (pa_cons (pv 3) pa_nil))))
  (pss_cons (ps_set (i:=7) sc_kth.nd rfl (by first | exact Or.inl rfl | exact Or.inr rfl) (pe_callB call_abs rfl z_abs PyProof.Rows.boot_abs (pa_cons (pv 0) pa_nil)))
  (pss_cons (ps_while (by first | exact PassesOwn.leaving | exact PassesOwn.looking | with_unfolding_all passes_own) (PW.pt (pw_and (pt_cmpR op_gt (pv 7) pe_int (nomark _)) (pw_and1 (pt_cmpR op_gt (pe_ix ix_tup (pv 6) pe_int (fun _ _=>rfl)) pe_int (nomark _)))))
   (pss_cons (ps_set (i:=8) sc_kth.nd rfl (by first | exact Or.inl rfl | exact Or.inr rfl) (pe_calE T c_both (hr.mono (by decide)) rfl (pa_cons (pv 6) (pa_cons (pe_cal c_gathered (hr.mono (by decide)) rfl (pa_cons (pv 6) (pa_cons (pv 5) (pa_cons (pv 4) (pa_cons (pe_glob rfl v_unlike (rel_ref _)) pa_nil))))) pa_nil))))
  (pss_cons (ps_cut (ps_set (i:=6) sc_kth.nd rfl (by first | exact Or.inl rfl | exact Or.inr rfl) (pe_ifExp (pt_cmpR op_eq (pe_op op_mod (pv 7) pe_int) pe_int (nomark _)) (pv 8) (pe_cal c_without (hr.mono (by decide)) rfl (pa_cons (pv 6) (pa_cons (pv 8) pa_nil))))))
  (pss_one (ps_set (i:=7) sc_kth.nd rfl (by first | exact Or.inl rfl | exact Or.inr rfl) (pe_op op_fdivB (pe_op op_add (pv 7) pe_int) pe_int))))))
  (pss_one (ps_ret (pe_ifExp (pt_cmpR op_gt (pv 0) pe_int (nomark _)) (pe_calE T c_upon (hr.mono (by decide)) rfl (pa_cons (pv 6) (pa_cons (pv 5) pa_nil))) (pe_calE T c_until (hr.mono (by decide)) rfl (pa_cons (pv 6) (pa_cons (pv 5) pa_nil))))))))))))),?_⟩
 walk_at "rdx"
 refine ite2d (fun c=>?_) (fun c=>?_)
 ·walk_at "rdx"
  exact⟨(by show 1≤sizeLine;decide),q0 (by injection c) _ (Same.refl _)⟩
 have k0:k≠0:=fun z=>c (by rw[z])
 walk_at "rdx"
 refine⟨a1,a2,n1,n2,b1,b2,rfl,W,fun lz H1 s1=>?_,fun e=>ql k0 e⟩
 replace q:=q k0 lz
 clear ql q0
 generalize hz:lcmI n1 n2=z at*
 have z0:=fl.1
 have d1:n1∣z:=fl.2.1
 have d2:n2∣z:=fl.2.2.1
 have ls:=lcm_self z0
 have str2:∀(H':Hp) (Q':VK) (E':XK),Same H H'→(∀(p:Addr) (c:Nat),H' p=none→c<2^z.toNat→Q' (.ref p) (upd H' p (.tup [.int z,.int (c:Int)])))→spStretchedE K c_NoNumber c_TooLong ([.ref a2,.int z]++[]) H' Q' E':=fun H' Q' E' s hq=>
  ⟨a2,n2,z,b2,rfl,s.tup W.s2,W.p2,W.l2,W.k2,bz,fun _ _ _ p c hp S=>hq p c hp S.lt,(fun e=>e.elim (fun e=>absurd e (by omega)) (fun e=>absurd d2 e)),(fun _ _ e=>absurd e (by omega))⟩
 walk_at "rdx"
 obtain⟨e,he⟩:∃e:Int,(0<k→e=1)∧(¬0<k→e= -1):=⟨if 0<k then 1 else -1,fun c=>if_pos c,fun c=>if_neg c⟩
 have he':e=1∨e= -1:=by
  by_cases c:0<k
  ·exact .inl (he.1 c)
  ·exact .inr (he.2 c)
 refine rd_cut (fun σ' H'=>σ'=[some (.int k),some (.ref a1),some (.ref a2),some (.int z),some (.int e),none,none,none,none]∧H'=H1) ?_ ?_
 ·walk_at "rdx"
  refine ite2d (fun c=>?_) (fun c=>?_)
  ·rw[he.1 c]
   walk_at "rdx"
   exact⟨rfl,rfl⟩
  ·rw[he.2 c]
   walk_at "rdx"
   exact⟨rfl,rfl⟩
 rintro σ' H1' ⟨rfl,rfl⟩
 walk_at "rdx"
 refine rd_cut (fun σ' H'=>∃(pe:Addr) (ce:Nat),σ'=[some (.int k),some (.ref a1),some (.ref a2),some (.int z),some (.int e),some (.ref pe),none,none,none]∧Same H1' H'∧H' pe=some (.tup [.int z,.int (ce:Int)])∧ce<2^z.toNat) ?_ ?_
 ·walk_at "rdx"
  refine ite2d (fun c=>?_) (fun c=>?_)
  ·walk_at "rdx"
   refine str2 _ _ _ s1 fun ps cs hs1 Ss=>?_
   walk_at "rdx"
   exact⟨ps,cs,rfl,same_new hs1 _,upd_same,Ss⟩
  ·walk_at "rdx"
   refine str2 _ _ _ s1 fun ps cs hs1 Ss=>?_
   walk_at "rdx"
   refine⟨ps,z,-1,cs,rfl,SqT.of upd_same,z0,lz,Ss,fun p hp=>?_⟩
   walk_at "rdx"
   exact⟨p,_,rfl,(same_new hs1 _).trans (same_new hp _),upd_same,lat_lt _ _ _⟩
 rintro σ' H2 ⟨pe,ce,rfl,s2,t2,lce⟩
 walk_at "rdx"
 refine⟨a1,n1,z,b1,rfl,s2.tup (s1.tup W.s1),W.p1,W.l1,W.k1,bz,fun _ _ _ pr cr hr1 Sr=>?_,(fun e=>e.elim (fun e=>absurd e (by omega)) (fun e=>absurd d1 e)),(fun _ _ e=>absurd e (by omega))⟩
 have s3:=same_new hr1 (.tup [.int z,.int (cr:Int)])
 have t3:upd H2 pr (.tup [.int z,.int (cr:Int)]) pr=some (.tup [.int z,.int (cr:Int)]):=upd_same
 generalize upd H2 pr (.tup [.int z,.int (cr:Int)])=H3 at s3 t3 ⊢
 walk_at "rdx"
 refine⟨_,rfl,?_⟩
 obtain⟨p0,hp0⟩:∃p0:Int,(if k<0 then -k else k)=p0:=⟨_,rfl⟩
 have ap:p0=(k.natAbs:Int):=by split at hp0<;>omega
 rw[hp0]
 walk_at "rdx"
 refine⟨fun m σ' H'=>Same H3 H'∧∃(pd:Addr) (t:Nat) (p:Int) (od:Option V),1≤p∧p≤p0∧H' pd=some (.tup [.int z,.int (t:Int)])∧t<2^z.toNat∧
  σ'=[some (.int k),some (.ref a1),some (.ref a2),some (.int z),some (.int e),some (.ref pe),some (.ref pd),some (.int p),od]∧m=p.toNat,
  ⟨_,Same.refl _,pr,cr,p0,none,by omega,by omega,t3,Sr.lt,rfl,rfl⟩,?_⟩
 rintro m σ' H4 ⟨s4,pd,t,p,od,p1,pp,td,lt,rfl,rfl⟩
 walk_at "rdx"
 have te:=s4 _ _ (s3 _ _ t2)
 have last:∀(Q':VK) (E':XK),(∀(p':Addr) (c':Nat) (H':Hp),Same H4 H'→H' p'=some (.tup [.int z,.int (c':Int)])→c'<2^z.toNat→Q' (.ref p') H')→spWhS K c_TooLong ([.ref pd,.ref pe]++[]) H4 Q' E':=fun Q' E' hq=>
  ⟨pd,pe,z,z,t,ce,rfl,⟨SqT.of td,SqT.of te,z0,z0,lz,lz,lt,lce⟩,fun _ p' c' H' s' t' lc'=>by rw[ls] at t' lc';exact hq p' c' H' s' t' lc',fun e=>absurd e (by rw[ls];omega)⟩
 have fin:∀p' (c':Nat) H',Same H4 H'→H' p'=some (.tup [.int z,.int (c':Int)])→c'<2^z.toNat→Q (.ref p') H':=fun p' c' H' s' t' lc'=>q p' c' H' (s1.trans (s2.trans (s3.trans (s4.trans s')))) t' lc'
 refine ite2d (fun hp=>?_) (fun hp=>?_)
 ·walk_at "rdx"
  refine rd_ixT (SqT.of td) at1 ?_
  walk_at "rdx"
  refine ite2d (fun ht=>?_) (fun ht=>?_)
  ·refine⟨fun σ' H'=>∃m',m'<p.toNat∧Same H3 H'∧∃(pd:Addr) (t:Nat) (p:Int) (od:Option V),1≤p∧p≤p0∧H' pd=some (.tup [.int z,.int (t:Int)])∧t<2^z.toNat∧
   σ'=[some (.int k),some (.ref a1),some (.ref a2),some (.int z),some (.int e),some (.ref pe),some (.ref pd),some (.int p),od]∧m'=p.toNat,fun σ' H' hh=>hh,?_⟩
   walk_at "rdx"
   refine⟨pd,pe,_,z,e,t,ce,_,rfl,List.mem_cons_of_mem _ List.mem_cons_self,v_unlike,td,SqT.of te,z0,lz,lt,lce,he',fun pg g H5 s5 t5 lg=>?_⟩
   walk_at "rdx"
   refine⟨pd,pg,z,z,t,g,rfl,⟨s5.tup (SqT.of td),SqT.of t5,z0,z0,lz,lz,lt,lg⟩,fun _ po c H6 s6 t6 B=>?_,fun e=>absurd e (by rw[ls];omega)⟩
   rw[ls] at t6 B
   have td6:=s6 _ _ (s5 _ _ td)
   walk_at "rdx"
   refine rd_cut (fun σ' H'=>∃(pn:Addr) (t':Nat),σ'=[some (.int k),some (.ref a1),some (.ref a2),some (.int z),some (.int e),some (.ref pe),some (.ref pn),some (.int p),some (.ref po)]∧Same H6 H'∧H' pn=some (.tup [.int z,.int (t':Int)])∧t'<2^z.toNat) ?_ ?_
   ·walk_at "rdx"
    refine ite2d (fun o=>?_) (fun o=>?_)
    ·walk_at "rdx"
     exact⟨po,c,rfl,Same.refl _,t6,B⟩
    ·walk_at "rdx"
     refine⟨pd,po,z,z,t,c,rfl,⟨SqT.of td6,SqT.of t6,z0,z0,lz,lz,lt,B⟩,(by rw[ls];exact lz),fun pn t' H7 s7 t7 B7=>?_⟩
     rw[ls] at t7 B7
     walk_at "rdx"
     exact⟨pn,t',rfl,s7,t7,B7⟩
   rintro σ' H7 ⟨pn,t',rfl,s7,t7,lt'⟩
   walk_at "rdx"
   exact⟨_,(by omega:((p+1)/2).toNat<p.toNat),s4.trans (s5.trans (s6.trans s7)),pn,t',(p+1)/2,_,by omega,by omega,t7,lt',rfl,rfl⟩
  ·walk_at "rdx"
   refine ite2d (fun c=>?_) (fun c=>?_)
   ·walk_at "rdx"
    exact last _ _ fin
   ·walk_at "rdx"
    exact last _ _ fin
 ·refine iteF ?_
  walk_at "rdx"
  refine ite2d (fun c=>?_) (fun c=>?_)
  ·walk_at "rdx"
   exact last _ _ fin
  ·walk_at "rdx"
   exact last _ _ fin
theorem sc_every:FnScope ["number","R","day","size","days","first","places"] ["number","R","day"] (defScope s_every):=⟨rfl,rfl,rfl,by decide +kernel,rfl,by decide +kernel,by decide +kernel⟩
theorem ok_every{f:Addr}{fd:FuncData}(F:Fun K "every" "every" s_every f fd)(c_refuse_below_one:CalE P w K mg base 1 "refuse_below_one" ["number"] (spRefuseE c_NoNumber))(c_refuse_too_long:CalE P w K mg base 3 "refuse_too_long" ["size"] (spTooLongE c_TooLong))(c_days_in:Cal P w K mg base 2 "days_in" ["turn"] (spDaysIn K))(c_how_many:Cal P w K mg base 5 "how_many" ["turn","first","end"] (spMany K))(c_round_by:CalE P w K mg base 4 "round_by" ["size","days"] (spRoundByE K c_NoNumber c_TooLong))(z_list:mg "list"=none)(z_range:mg "range"=none)(z_len:mg "len"=none):FnOk P w K mg base (CX1 P w) 6 f fd ["number","R","day"] (spEveryE K c_NoNumber c_TooLong):=by
 refine F.okE (k:=5) sc_every (fun vs H Q E h=>?_) (fun cdv A outer s H vs Q E hr h T=>?_)
 ·obtain⟨k,d,a,n,b,rfl,_⟩:=h
  rfl
 obtain⟨k,d,a,n,b,rfl,hS,h0,h1,hb,bd,bk,q0,q,ql⟩:=h
 have bn:Bt 64 n:=bt_small (by omega) (by omega) (by decide)
 refine⟨_,(pss_cons (ps_expr (pe_calE T c_refuse_below_one (hr.mono (by decide)) rfl (pa_cons (pv 0) pa_nil)))
  (pss_cons (ps_set (i:=3) sc_every.nd rfl (by first | exact Or.inl rfl | exact Or.inr rfl) (pe_op op_mulB (pe_ix ix_tup (pv 1) pe_int (fun _ _=>rfl)) (pv 0)))
  (pss_cons (ps_expr (pe_calE T c_refuse_too_long (hr.mono (by decide)) rfl (pa_cons (pv 3) pa_nil)))
  (pss_cons (ps_set (i:=4) sc_every.nd rfl (by first | exact Or.inl rfl | exact Or.inr rfl) (pe_cal c_days_in (hr.mono (by decide)) rfl (pa_cons (pv 1) pa_nil)))
  (pss_cons (ps_set (i:=5) sc_every.nd rfl (by first | exact Or.inl rfl | exact Or.inr rfl) (pe_op op_mod (pe_cal c_how_many (hr.mono (by decide)) rfl (pa_cons (pv 1) (pa_cons pe_int (pa_cons (pv 2) pa_nil)))) (pv 0)))
  (pss_cons (ps_set (i:=6) sc_every.nd rfl (by first | exact Or.inl rfl | exact Or.inr rfl) (pe_lrange3 rfl rfl z_list rfl z_range (pa_cons (pv 5) (pa_cons (pe_op op_mulB (pe_callB call_len_seq rfl z_len PySem.boot_len (pa_cons (pv 4) pa_nil)) (pv 0)) (pa_cons (pv 0) pa_nil)))))
  (pss_one (ps_ret (pe_calE T c_round_by (hr.mono (by decide)) rfl (pa_cons (pv 3) (pa_cons (pe_comp rfl (compOk_freeM ["number","R","day","size","days","first","places"] ["number","R","day","size","days","first","places"] rfl rfl (by with_unfolding_all rfl) (by decide +kernel) rfl (by decide +kernel) rfl (by decide +kernel) (by walk_at "fm") (by with_unfolding_all rfl) (by with_unfolding_all rfl)) (pi_list (pv 6)) (fun _ _ _ _=>pifs_nil) (fun _ _ _ _=>(pe_op op_add (pe_op op_mulB (pe_op op_fdivB (pv 0) (pe_callB call_len_c rfl z_len PySem.boot_len (pa_cons (pv 5) pa_nil))) (pe_ix ix_tup_c (pv 2) pe_int (fun _ _=>rfl))) (pe_ix ix_list_c (pv 5) (pe_op op_mod (pv 0) (pe_callB call_len_c rfl z_len PySem.boot_len (pa_cons (pv 5) pa_nil))) (fun _ _=>rfl))))) pa_nil))))))))))),?_⟩
 walk_at "rdx"
 refine⟨k,rfl,fun k1=>?_,fun e=>q0 e⟩
 walk_at "rdx"
 refine rd_ixT hS at0 ?_
 walk_at "rdx"
 refine rd_i ⟨64,400,bn,bk,by decide⟩ ?_
 walk_at "rdx"
 refine⟨n*k,rfl,(bn.mul bk).mono (by decide),fun lz=>?_,fun e=>ql k1 e⟩
 replace q:=q k1 lz
 clear ql q0
 have kn:=le_mulr h0 (show 0<k by omega)
 walk_at "rdx"
 refine⟨a,n,b,rfl,hS,h0,h1,hb,fun ld H1 _ s1 t1=>?_⟩
 have D:=Dn.mk' h0 (dli_pair b n.toNat) (dli_self (b:=b) h0)
 have len:=dli_len b n.toNat
 generalize dli b n.toNat=ds at t1 D len
 have hS1:=s1.tup hS
 walk_at "rdx"
 refine⟨a,n,0,d,b,rfl,hS1,h0,h1,hb,(by unfold Bt;decide),bd,fun H2 s2=>?_⟩
 rw[CC_zero,Int.sub_zero]
 walk_at "rdx"
 have f0:=Int.emod_nonneg (CC n b d) (show k≠0 by omega)
 have f1:=Int.emod_lt_of_pos (CC n b d) (show 0<k by omega)
 have t2:=s2 _ _ t1
 have hS2:=s2.tup hS1
 refine⟨ld,_,rfl,.inl (SqL.of t2),?_⟩
 rw[List.length_map]
 walk_at "rdx"
 refine rd_i ⟨64,64,bt_small (by omega) (by omega) (by decide),bt_small (by omega) (by omega) (by decide),by decide⟩ ?_
 walk_at "rdx"
 have mk:(ds.length:Int)*k≤n*k:=Int.mul_le_mul_of_nonneg_right (by omega) (by omega)
 have mk0:0≤(ds.length:Int)*k:=Int.mul_nonneg (by omega) (by omega)
 refine⟨CC n b d%k,(ds.length:Int)*k,k,ds.length,.inl rfl,by omega,by omega,small_step (by omega) (by omega) (by omega) (by omega) (by omega) (by omega),?_,by omega,fun lp hlp=>?_⟩
 ·rw[rangeSize_up (by omega)]
  rcases Nat.eq_zero_or_pos ds.length with z | z
  ·rw[z,if_neg (by simp;omega)]
   rfl
  ·have e1:(ds.length:Int)*k-CC n b d%k-1=(k-1-CC n b d%k)+k*((ds.length:Int)-1):=by
    rw[Int.mul_sub,Int.mul_comm k]
    omega
   have e2:k≤(ds.length:Int)*k:=le_mulr (by omega) (by omega)
   rw[if_pos (by omega),e1,Int.add_mul_ediv_left _ _ (by omega),Int.ediv_eq_zero_of_lt (by omega) (by omega)]
   omega
 have s3:=same_new hlp (.lst ((List.range ds.length).map fun(i:Nat)=>V.int (CC n b d%k+(i:Int)*k)))
 have t3:=s3 _ _ t2
 have p3:upd H2 lp (.lst ((List.range ds.length).map fun(i:Nat)=>V.int (CC n b d%k+(i:Int)*k))) lp=some (.lst ((List.range ds.length).map fun(i:Nat)=>V.int (CC n b d%k+(i:Int)*k))):=upd_same
 have hS3:=s3.tup hS2
 generalize upd H2 lp (.lst ((List.range ds.length).map fun(i:Nat)=>V.int (CC n b d%k+(i:Int)*k)))=H3 at s3 t3 p3 hS3 ⊢
 walk_at "rdx"
 refine rd_comp (rd_iL ?_)
 walk_at "rdx"
 refine⟨lp,rfl,⟨_,SqL.of p3⟩,?_⟩
 refine comp_go walk_l ?_ (fun D' ys hD'=>(same_new hD' _).seq (SqL.of p3)) (fun _=>true) (fun v=>match v with | .int P=>.int (dayOf n ds P) | _=>.non) (fun x hx D' ys Q' hD' h=>h) (fun x hx _ D' ys Q' hD' h=>?_) (fun D' hD'=>?_)
 ·rw[List.length_map,List.length_range]
  exact Nat.lt_of_le_of_lt (show ds.length≤150000 by omega) (by decide)
 ·obtain⟨i,hi,rfl⟩:=List.mem_map.mp hx
  have hi':=List.mem_range.mp hi
  replace h:Q' (.int (dayOf n ds (CC n b d%k+(i:Int)*k))) _:=h
  have ik:(i:Int)*k≤(ds.length:Int)*k:=Int.mul_le_mul_of_nonneg_right (by omega) (by omega)
  have ik0:0≤(i:Int)*k:=Int.mul_nonneg (by omega) (by omega)
  generalize hP:CC n b d%k+(i:Int)*k=P at h ⊢
  have m0:=Int.emod_nonneg P (show (ds.length:Int)≠0 by omega)
  have m1:=Int.emod_lt_of_pos P (show (0:Int)<(ds.length:Int) by omega)
  obtain⟨x,hx⟩:∃x,ds[(P%(ds.length:Int)).toNat]?=some x:=⟨_,List.getElem?_eq_getElem (by omega)⟩
  have ed:dayOf n ds P=P/(ds.length:Int)*n+x:=by
   unfold dayOf
   rw[hx]
   rfl
  rw[ed] at h
  have P0:0≤P:=by omega
  have P1:P/(ds.length:Int)≤P:=Int.ediv_le_self _ P0
  have P2:0≤P/(ds.length:Int):=Int.ediv_nonneg P0 (by omega)
  have t4:=same_new hD' (.lst ys) _ _ t3
  walk_at "rdx"
  refine⟨ld,_,rfl,.inl (SqL.of t4),?_⟩
  rw[List.length_map]
  walk_at "rdx"
  refine rd_i (cdiv_small (by omega) (by omega)) ?_
  walk_at "rdx"
  refine rd_ixT ((same_new hD' _).tup hS3) at0 ?_
  refine rd_i ⟨64,64,bt_small (by omega) (by omega) (by decide),bn,by decide⟩ ?_
  walk_at "rdx"
  refine⟨ld,_,rfl,.inl (SqL.of t4),?_⟩
  rw[List.length_map]
  walk_at "rdx"
  rw[show P%(ds.length:Int)=(((P%(ds.length:Int)).toNat:Nat):Int) by omega]
  refine rd_ixL (SqL.of t4) (atI_nat (at_map hx)) ?_
  walk_at "rdx"
  exact h
 have e:((((List.range ds.length).map fun(i:Nat)=>V.int (CC n b d%k+(i:Int)*k)).filter fun _=>true).map fun v=>match v with | .int P=>V.int (dayOf n ds P) | _=>.non)=(((List.range ds.length).map fun(i:Nat)=>dayOf n ds (CC n b d%k+(i:Int)*k)).map V.int):=by
  rw[List.filter_eq_self.mpr (fun _ _=>rfl),List.map_map,List.map_map]
  rfl
 rw[e]
 walk_at "rdx"
 refine⟨D',_,n*k,rfl,SqL.of upd_same,bt_small (by omega) (by omega) (by decide),fun _ _ p c H5 s5 t5 B=>?_,fun e=>absurd e (by omega),fun e=>absurd e (by omega)⟩
 refine q p c H5 ((((s1.trans s2).trans s3).trans (same_new hD' _)).trans s5) t5 B.lt fun x=>?_
 rw[B.bit x]
 exact evr_iff h0 (by omega) D x
theorem sc_Rule___init__:FnScope ["self","kept","made_of","words"] ["self","kept","made_of","words"] (defScope s_Rule___init__):=⟨rfl,rfl,rfl,by decide +kernel,rfl,by decide +kernel,by decide +kernel⟩
theorem ok_Rule___init__{f:Addr}{fd:FuncData}{ds:Array Value}(F:FunD K "__init__" "Rule.__init__" s_Rule___init__ f fd ds)(er:Errs K mg c_FeastError c_NoNumber c_TooLong c_NoMeasure c_NoChange c_NoCycle c_Rule c_Each c_Dated c_Not c_Both c_Either c_But c_Unlike c_Later c_Upon c_Until c_Near c_Till c_Kth c_Every c_Measure c_Calendar c_Sun c_Change):FnOk P w K mg base CX0 1 f fd ["self","kept","made_of","words"] (spRInit K c_Rule):=by
 refine F.ok (k:=0) sc_Rule___init__ (fun vs H Q E h=>?_) (fun cdv A outer s H vs Q E hr h=>?_)
 ·obtain⟨x,p,pm,pw,C,dx,rfl,_⟩:=h
  rfl
 obtain⟨x,p,pm,pw,C,dx,rfl,hx,R,q⟩:=h
 refine⟨_,(pss_cons (ps_fld (pv 0) (pe_ifExp (pt_cmpR op_isN (pv 1) pe_non (nomark _)) (pe_tup (pa_cons pe_int (pa_cons pe_int pa_nil))) (pv 1)) (by rfl))
  (pss_cons (ps_fld (pv 0) (pe_ifExp (pt_cmpR op_isN (pv 2) pe_non (nomark _)) (pe_tup pa_nil) (pv 2)) (by rfl))
  (pss_one (ps_fld (pv 0) (pe_ifExp (pt_cmpR op_isN (pv 3) pe_non (nomark _)) (pe_tup (pa_cons pe_str pa_nil)) (pv 3)) (by rfl))))),?_⟩
 walk_at "rd"
 refine rd_ifE ?_
 walk_at "rd"
 refine⟨rfl,rd_bl (iteN (fun e=>nomatch e) ?_)⟩
 walk_at "rd"
 refine⟨x,C,dx,[],rfl,hx,R.cl,R.k,by decide,?_⟩
 walk_at "rd"
 refine rd_ifE ?_
 walk_at "rd"
 refine⟨rfl,rd_bl (iteN (fun e=>nomatch e) ?_)⟩
 walk_at "rd"
 refine⟨x,C,dx,_,rfl,upd_same,R.cl,R.m,(show 1<1000 by decide),?_⟩
 walk_at "rd"
 refine rd_ifE ?_
 walk_at "rd"
 refine⟨rfl,rd_bl (iteN (fun e=>nomatch e) ?_)⟩
 walk_at "rd"
 refine⟨x,C,dx,_,rfl,upd_same,R.cl,R.w,(show 2<1000 by decide),?_⟩
 walk_at "rd"
 refine q _ (fun y o ne e=>?_) upd_same
 rw[upd_ne ne,upd_ne ne,upd_ne ne]
 exact e
theorem sc_Rule_size:FnScope ["self"] ["self"] (defScope s_Rule_size):=⟨rfl,rfl,rfl,by decide +kernel,rfl,by decide +kernel,by decide +kernel⟩
theorem ok_Rule_size{f:Addr}{fd:FuncData}(F:Fun K "size" "Rule.size" s_Rule_size f fd)(er:Errs K mg c_FeastError c_NoNumber c_TooLong c_NoMeasure c_NoChange c_NoCycle c_Rule c_Each c_Dated c_Not c_Both c_Either c_But c_Unlike c_Later c_Upon c_Until c_Near c_Till c_Kth c_Every c_Measure c_Calendar c_Sun c_Change):FnOk P w K mg base CX0 1 f fd ["self"] (spSizeM K c_Rule [c_Each,c_Dated,c_Not,c_Both,c_Either,c_But,c_Unlike,c_Later,c_Upon,c_Until,c_Near,c_Till,c_Kth,c_Every]):=by
 refine F.ok (k:=0) sc_Rule_size (fun vs H Q E h=>?_) (fun cdv A outer s H vs Q E hr h=>?_)
 ·obtain⟨x,n,b,rfl,_⟩:=h
  rfl
 obtain⟨x,n,b,rfl,R,q⟩:=h
 obtain⟨C,dx,p,pm,pw,hC,rc,hx,hp⟩:=R.ex
 refine⟨_,(pss_one (ps_ret (pe_ix ix_tup (pe_fld (pv 0) (by rfl)) pe_int (fun _ _=>rfl)))),?_⟩
 walk_at "rd"
 refine⟨x,C,dx,_,_,rfl,hx,rc.cl,rc.k,rfl,?_⟩
 walk_at "rd"
 refine rd_ixT (SqT.of hp) at0 ?_
 exact q
theorem sc_Rule_turn:FnScope ["self"] ["self"] (defScope s_Rule_turn):=⟨rfl,rfl,rfl,by decide +kernel,rfl,by decide +kernel,by decide +kernel⟩
theorem ok_Rule_turn{f:Addr}{fd:FuncData}(F:Fun K "turn" "Rule.turn" s_Rule_turn f fd)(er:Errs K mg c_FeastError c_NoNumber c_TooLong c_NoMeasure c_NoChange c_NoCycle c_Rule c_Each c_Dated c_Not c_Both c_Either c_But c_Unlike c_Later c_Upon c_Until c_Near c_Till c_Kth c_Every c_Measure c_Calendar c_Sun c_Change):FnOk P w K mg base CX0 1 f fd ["self"] (spTurnM K c_Rule [c_Each]):=by
 refine F.ok (k:=0) sc_Rule_turn (fun vs H Q E h=>?_) (fun cdv A outer s H vs Q E hr h=>?_)
 ·obtain⟨x,n,b,rfl,_⟩:=h
  rfl
 obtain⟨x,n,b,rfl,R,q⟩:=h
 obtain⟨C,dx,p,pm,pw,hC,rc,hx,hp⟩:=R.ex
 refine⟨_,(pss_one (ps_ret (pe_fld (pv 0) (by rfl)))),?_⟩
 walk_at "rd"
 exact⟨x,C,dx,_,_,rfl,hx,rc.cl,rc.k,rfl,q p hp⟩
theorem sc_each_text:FnScope ["step","rest","least_rest"] ["step","rest"] (defScope s_each_text):=⟨rfl,rfl,rfl,by decide +kernel,rfl,by decide +kernel,by decide +kernel⟩
theorem ok_each_text{f:Addr}{fd:FuncData}(F:Fun K "each_text" "each_text" s_each_text f fd):FnOk P w K mg base CX0 1 f fd ["step","rest"] spEachT65:=by
 refine F.ok (k:=0) sc_each_text (fun vs H Q E h=>?_) (fun cdv A outer s H vs Q E hr h=>?_)
 ·obtain⟨n,r,rfl,_⟩:=h
  rfl
 obtain⟨n,r,rfl,n0,n1,q⟩:=h
 refine⟨_,(pss_cons (ps_set (i:=2) sc_each_text.nd rfl (by first | exact Or.inl rfl | exact Or.inr rfl) (pe_op op_mod (pv 1) (pv 0)))
  (pss_one (ps_ret (pe_join (pj_cons pe_str (pj_cons (pe_fmt hr.toN (pv 0)) (pj_cons pe_str (pj_cons (pe_fmt hr.toN (pv 2)) pj_nil)))))))),?_⟩
 walk_at "rdx"
 try refine rd_join ?_
 have m0:=Int.emod_nonneg r (show n≠0 by omega)
 have m1:=Int.emod_lt_of_pos r (show 0<n by omega)
 have g1:=bt_log (bt_small (by omega) (by omega) (by decide):Bt 1900 n) (by decide) (by decide)
 have g2:=bt_log (bt_small (by omega) (by omega) (by decide):Bt 1900 (r%n)) (by decide) (by decide)
 refine rd_jc 0 (by decide) (by decide) fun l1=>rd_ji _ l1 (by decide) rfl g1 fun l2=>rd_jc _ l2 (by decide) fun l3=>rd_ji _ l3 (by decide) rfl g2 fun l4=>rd_jnil (fits l4 (by decide)) ?_
 refine q _ ?_
 have e0:TL 0 Str.empty:=⟨by decide +kernel,by decide +kernel⟩
 have e1:TL 5 (Str.ofString "each "):=⟨by decide +kernel,by decide +kernel⟩
 have e2:TL 6 (Str.ofString " from "):=⟨by decide +kernel,by decide +kernel⟩
 exact((((e0.app e1).app (TL.int g1)).app e2).app (TL.int g2)).mono (by decide)
theorem sc_Each___init__:FnScope ["self","size","rest","kept"] ["self","size","rest"] (defScope s_Each___init__):=⟨rfl,rfl,rfl,by decide +kernel,rfl,by decide +kernel,by decide +kernel⟩
theorem ok_Each___init__{f:Addr}{fd:FuncData}(F:Fun K "__init__" "Each.__init__" s_Each___init__ f fd)(er:Errs K mg c_FeastError c_NoNumber c_TooLong c_NoMeasure c_NoChange c_NoCycle c_Rule c_Each c_Dated c_Not c_Both c_Either c_But c_Unlike c_Later c_Upon c_Until c_Near c_Till c_Kth c_Every c_Measure c_Calendar c_Sun c_Change)(c_round_by:CalE P w K mg base 4 "round_by" ["size","days"] (spRoundByE K c_NoNumber c_TooLong))(c_Rule___init__:CalB P w K mg base 1 "Rule" ["self","kept","made_of","words"] (spRInit K c_Rule))(c_each_text:Cal P w K mg base 1 "each_text" ["step","rest"] spEachT65):FnOk P w K mg base (CX1 P w) 5 f fd ["self","size","rest"] (spIEE K c_Rule [c_Each] c_Each c_NoNumber c_NoCycle c_TooLong):=by
 refine F.okE (k:=4) sc_Each___init__ (fun vs H Q E h=>?_) (fun cdv A outer s H vs Q E hr h T=>?_)
 ·obtain⟨x,n,r,rfl,_⟩:=h
  rfl
 obtain⟨x,n,r,rfl,bn,br,h⟩:=h
 refine⟨_,(pss_cons (ps_set (i:=3) sc_Each___init__.nd rfl (by first | exact Or.inl rfl | exact Or.inr rfl) (pe_calE T c_round_by (hr.mono (by decide)) rfl (pa_cons (pv 1) (pa_cons (pe_lst (pa_cons (pv 2) pa_nil)) pa_nil))))
  (pss_one (ps_expr (pe_binit c_Rule___init__ (hr.mono (by decide)) rfl (pa_cons (pv 0) (pa_cons (pv 3) (pa_cons (pe_tup pa_nil) (pa_cons (pe_tup (pa_cons (pe_cal c_each_text (hr.mono (by decide)) rfl (pa_cons (pv 1) (pa_cons (pv 2) pa_nil))) pa_nil)) pa_nil)))))))),?_⟩
 walk_at "rdx"
 refine⟨(by show 1≤sizeLine;decide),fun l hl=>?_⟩
 refine fresh hl fun H1 s1 t1=>?_
 have t1:H1 l=some (.lst ([r].map V.int)):=t1
 walk_at "rdx"
 refine⟨l,[r],n,rfl,SqL.of t1,bn.mono (by decide),fun n0 n1 p b H2 s2 t2 B=>?_,fun n0=>?_,fun n1=>?_⟩
 ·rw[if_neg (by omega)] at h
  obtain⟨⟨dx,hx⟩,q,_⟩:=h.fit
  walk_at "rdx"
  refine⟨(by show 0≤sizeLine;decide),fun pm hpm=>?_⟩
  refine fresh hpm fun H3 s3 _=>?_
  walk_at "rdx"
  refine⟨n,r,rfl,by omega,n1,fun z _=>?_⟩
  walk_at "rdx"
  refine⟨(by show 1≤sizeLine;decide),fun pw hpw=>?_⟩
  refine fresh hpw fun H5 s5 _=>?_
  have s5:=s3.trans s5
  have hx5:=(s1.trans (s2.trans s5)) _ _ hx
  walk_at "rdx"
  exact⟨x,p,pm,pw,c_Each,dx,rfl,hx5,er.rc_Each,fun H' k e=>q n1 b H' (k.pre (s1.trans (s2.trans s5))) (made_rule (List.mem_of_getElem? (i:=0) rfl) er.rc_Each hx5 (s5 _ _ t2) k e (by omega) (by omega) B.lt)⟩
 ·rw[if_pos n0] at h
  exact ENum.later h.2 s1
 ·rw[if_neg (by omega)] at h
  exact(h.fit.2.2 n1).later s1
theorem sc_Both___init__:FnScope ["self","R","S"] ["self","R","S"] (defScope s_Both___init__):=⟨rfl,rfl,rfl,by decide +kernel,rfl,by decide +kernel,by decide +kernel⟩
theorem ok_Both___init__{f:Addr}{fd:FuncData}(F:Fun K "__init__" "Both.__init__" s_Both___init__ f fd)(er:Errs K mg c_FeastError c_NoNumber c_TooLong c_NoMeasure c_NoChange c_NoCycle c_Rule c_Each c_Dated c_Not c_Both c_Either c_But c_Unlike c_Later c_Upon c_Until c_Near c_Till c_Kth c_Every c_Measure c_Calendar c_Sun c_Change)(c_Rule___init__:CalB P w K mg base 1 "Rule" ["self","kept","made_of","words"] (spRInit K c_Rule))(c_both:CalE P w K mg base 5 "both" ["one","other"] (spWhS K c_TooLong))(c_Each_turn:CalM P w K mg base CX0 1 c_Each "turn" ["self"] (spTurnM K c_Rule [c_Each])):FnOk P w K mg base (CX1 P w) 6 f fd ["self","R","S"] (spI2E K c_Rule c_Each [c_Each,c_Dated,c_Not,c_Both,c_Either,c_But,c_Unlike,c_Later,c_Upon,c_Until,c_Near,c_Till,c_Kth,c_Every] c_Both c_NoNumber c_NoCycle c_TooLong):=by
 refine F.okE (k:=5) sc_Both___init__ (fun vs H Q E h=>?_) (fun cdv A outer s H vs Q E hr h T=>?_)
 ·obtain⟨x,r,t,n1,n2,b1,b2,rfl,_⟩:=h
  rfl
 obtain⟨x,r,t,n1,n2,b1,b2,rfl,R1,R2,h⟩:=h
 obtain⟨⟨dx,hx⟩,q,ql⟩:=h.fit
 have fl:=lcmI_facts R1.n0 R2.n0
 refine⟨_,(pss_one (ps_expr (pe_binit c_Rule___init__ (hr.mono (by decide)) rfl (pa_cons (pv 0) (pa_cons (pe_calE T c_both (hr.mono (by decide)) rfl (pa_cons (pe_mcal0 c_Each_turn er.cl_Each (hr.mono (by decide)) (pv 1)) (pa_cons (pe_mcal0 c_Each_turn er.cl_Each (hr.mono (by decide)) (pv 2)) pa_nil))) (pa_cons (pe_tup (pa_cons (pv 1) (pa_cons (pv 2) pa_nil))) (pa_cons (pe_tup (pa_cons pe_str (pa_cons pe_str (pa_cons pe_str pa_nil)))) pa_nil))))))),?_⟩
 walk_at "rdx"
 obtain⟨dr,fs,hr1,l1⟩:=R1.one
 refine⟨r,dr,fs,rfl,hr1,l1,?_⟩
 walk_at "rdx"
 refine⟨r,n1,b1,rfl,R1,fun p hp=>?_⟩
 walk_at "rdx"
 obtain⟨dr',fs',hr2,l2⟩:=R2.one
 refine⟨t,dr',fs',rfl,hr2,l2,?_⟩
 walk_at "rdx"
 refine⟨t,n2,b2,rfl,R2,fun p' hp'=>?_⟩
 walk_at "rdx"
 refine⟨p,p',n1,n2,b1,b2,rfl,⟨SqT.of hp,SqT.of hp',R1.n0,R2.n0,R1.n1,R2.n1,R1.lt,R2.lt⟩,fun lz p2 c H1 s1 t1 lt=>?_,ql⟩
 walk_at "rdx"
 refine⟨two',fun pm hpm=>?_⟩
 refine fresh hpm fun H2 s2 _=>?_
 walk_at "rdx"
 refine⟨(by show 3≤sizeLine;decide),fun pw hpw=>?_⟩
 refine fresh hpw fun H3 s3 _=>?_
 have s3:=s2.trans s3
 have hx3:=(s1.trans s3) _ _ hx
 walk_at "rdx"
 exact⟨x,p2,pm,pw,c_Both,dx,rfl,hx3,er.rc_Both,fun H' k e=>q lz c H' (k.pre (s1.trans s3)) (made_rule (List.mem_of_getElem? (i:=3) rfl) er.rc_Both hx3 (s3 _ _ t1) k e fl.1 lz lt)⟩
theorem sc_Either___init__:FnScope ["self","R","S"] ["self","R","S"] (defScope s_Either___init__):=⟨rfl,rfl,rfl,by decide +kernel,rfl,by decide +kernel,by decide +kernel⟩
theorem ok_Either___init__{f:Addr}{fd:FuncData}(F:Fun K "__init__" "Either.__init__" s_Either___init__ f fd)(er:Errs K mg c_FeastError c_NoNumber c_TooLong c_NoMeasure c_NoChange c_NoCycle c_Rule c_Each c_Dated c_Not c_Both c_Either c_But c_Unlike c_Later c_Upon c_Until c_Near c_Till c_Kth c_Every c_Measure c_Calendar c_Sun c_Change)(c_Rule___init__:CalB P w K mg base 1 "Rule" ["self","kept","made_of","words"] (spRInit K c_Rule))(c_either_nE:CalE P w K mg base 5 "either" ["one","other"] (spWhS K c_TooLong))(c_Each_turn:CalM P w K mg base CX0 1 c_Each "turn" ["self"] (spTurnM K c_Rule [c_Each])):FnOk P w K mg base (CX1 P w) 6 f fd ["self","R","S"] (spI2E K c_Rule c_Each [c_Each,c_Dated,c_Not,c_Both,c_Either,c_But,c_Unlike,c_Later,c_Upon,c_Until,c_Near,c_Till,c_Kth,c_Every] c_Either c_NoNumber c_NoCycle c_TooLong):=by
 refine F.okE (k:=5) sc_Either___init__ (fun vs H Q E h=>?_) (fun cdv A outer s H vs Q E hr h T=>?_)
 ·obtain⟨x,r,t,n1,n2,b1,b2,rfl,_⟩:=h
  rfl
 obtain⟨x,r,t,n1,n2,b1,b2,rfl,R1,R2,h⟩:=h
 obtain⟨⟨dx,hx⟩,q,ql⟩:=h.fit
 have fl:=lcmI_facts R1.n0 R2.n0
 refine⟨_,(pss_one (ps_expr (pe_binit c_Rule___init__ (hr.mono (by decide)) rfl (pa_cons (pv 0) (pa_cons (pe_calE T c_either_nE (hr.mono (by decide)) rfl (pa_cons (pe_mcal0 c_Each_turn er.cl_Each (hr.mono (by decide)) (pv 1)) (pa_cons (pe_mcal0 c_Each_turn er.cl_Each (hr.mono (by decide)) (pv 2)) pa_nil))) (pa_cons (pe_tup (pa_cons (pv 1) (pa_cons (pv 2) pa_nil))) (pa_cons (pe_tup (pa_cons pe_str (pa_cons pe_str (pa_cons pe_str pa_nil)))) pa_nil))))))),?_⟩
 walk_at "rdx"
 obtain⟨dr,fs,hr1,l1⟩:=R1.one
 refine⟨r,dr,fs,rfl,hr1,l1,?_⟩
 walk_at "rdx"
 refine⟨r,n1,b1,rfl,R1,fun p hp=>?_⟩
 walk_at "rdx"
 obtain⟨dr',fs',hr2,l2⟩:=R2.one
 refine⟨t,dr',fs',rfl,hr2,l2,?_⟩
 walk_at "rdx"
 refine⟨t,n2,b2,rfl,R2,fun p' hp'=>?_⟩
 walk_at "rdx"
 refine⟨p,p',n1,n2,b1,b2,rfl,⟨SqT.of hp,SqT.of hp',R1.n0,R2.n0,R1.n1,R2.n1,R1.lt,R2.lt⟩,fun lz p2 c H1 s1 t1 lt=>?_,ql⟩
 walk_at "rdx"
 refine⟨two',fun pm hpm=>?_⟩
 refine fresh hpm fun H2 s2 _=>?_
 walk_at "rdx"
 refine⟨(by show 3≤sizeLine;decide),fun pw hpw=>?_⟩
 refine fresh hpw fun H3 s3 _=>?_
 have s3:=s2.trans s3
 have hx3:=(s1.trans s3) _ _ hx
 walk_at "rdx"
 exact⟨x,p2,pm,pw,c_Either,dx,rfl,hx3,er.rc_Either,fun H' k e=>q lz c H' (k.pre (s1.trans s3)) (made_rule (List.mem_of_getElem? (i:=4) rfl) er.rc_Either hx3 (s3 _ _ t1) k e fl.1 lz lt)⟩
theorem sc_But___init__:FnScope ["self","R","S"] ["self","R","S"] (defScope s_But___init__):=⟨rfl,rfl,rfl,by decide +kernel,rfl,by decide +kernel,by decide +kernel⟩
theorem ok_But___init__{f:Addr}{fd:FuncData}(F:Fun K "__init__" "But.__init__" s_But___init__ f fd)(er:Errs K mg c_FeastError c_NoNumber c_TooLong c_NoMeasure c_NoChange c_NoCycle c_Rule c_Each c_Dated c_Not c_Both c_Either c_But c_Unlike c_Later c_Upon c_Until c_Near c_Till c_Kth c_Every c_Measure c_Calendar c_Sun c_Change)(c_Rule___init__:CalB P w K mg base 1 "Rule" ["self","kept","made_of","words"] (spRInit K c_Rule))(c_without_nE:CalE P w K mg base 6 "without" ["one","other"] (spWhS K c_TooLong))(c_Each_turn:CalM P w K mg base CX0 1 c_Each "turn" ["self"] (spTurnM K c_Rule [c_Each])):FnOk P w K mg base (CX1 P w) 7 f fd ["self","R","S"] (spI2E K c_Rule c_Each [c_Each,c_Dated,c_Not,c_Both,c_Either,c_But,c_Unlike,c_Later,c_Upon,c_Until,c_Near,c_Till,c_Kth,c_Every] c_But c_NoNumber c_NoCycle c_TooLong):=by
 refine F.okE (k:=6) sc_But___init__ (fun vs H Q E h=>?_) (fun cdv A outer s H vs Q E hr h T=>?_)
 ·obtain⟨x,r,t,n1,n2,b1,b2,rfl,_⟩:=h
  rfl
 obtain⟨x,r,t,n1,n2,b1,b2,rfl,R1,R2,h⟩:=h
 obtain⟨⟨dx,hx⟩,q,ql⟩:=h.fit
 have fl:=lcmI_facts R1.n0 R2.n0
 refine⟨_,(pss_one (ps_expr (pe_binit c_Rule___init__ (hr.mono (by decide)) rfl (pa_cons (pv 0) (pa_cons (pe_calE T c_without_nE (hr.mono (by decide)) rfl (pa_cons (pe_mcal0 c_Each_turn er.cl_Each (hr.mono (by decide)) (pv 1)) (pa_cons (pe_mcal0 c_Each_turn er.cl_Each (hr.mono (by decide)) (pv 2)) pa_nil))) (pa_cons (pe_tup (pa_cons (pv 1) (pa_cons (pv 2) pa_nil))) (pa_cons (pe_tup (pa_cons pe_str (pa_cons pe_str (pa_cons pe_str pa_nil)))) pa_nil))))))),?_⟩
 walk_at "rdx"
 obtain⟨dr,fs,hr1,l1⟩:=R1.one
 refine⟨r,dr,fs,rfl,hr1,l1,?_⟩
 walk_at "rdx"
 refine⟨r,n1,b1,rfl,R1,fun p hp=>?_⟩
 walk_at "rdx"
 obtain⟨dr',fs',hr2,l2⟩:=R2.one
 refine⟨t,dr',fs',rfl,hr2,l2,?_⟩
 walk_at "rdx"
 refine⟨t,n2,b2,rfl,R2,fun p' hp'=>?_⟩
 walk_at "rdx"
 refine⟨p,p',n1,n2,b1,b2,rfl,⟨SqT.of hp,SqT.of hp',R1.n0,R2.n0,R1.n1,R2.n1,R1.lt,R2.lt⟩,fun lz p2 c H1 s1 t1 lt=>?_,ql⟩
 walk_at "rdx"
 refine⟨two',fun pm hpm=>?_⟩
 refine fresh hpm fun H2 s2 _=>?_
 walk_at "rdx"
 refine⟨(by show 3≤sizeLine;decide),fun pw hpw=>?_⟩
 refine fresh hpw fun H3 s3 _=>?_
 have s3:=s2.trans s3
 have hx3:=(s1.trans s3) _ _ hx
 walk_at "rdx"
 exact⟨x,p2,pm,pw,c_But,dx,rfl,hx3,er.rc_But,fun H' k e=>q lz c H' (k.pre (s1.trans s3)) (made_rule (List.mem_of_getElem? (i:=5) rfl) er.rc_But hx3 (s3 _ _ t1) k e fl.1 lz lt)⟩
theorem sc_Unlike___init__:FnScope ["self","R","S"] ["self","R","S"] (defScope s_Unlike___init__):=⟨rfl,rfl,rfl,by decide +kernel,rfl,by decide +kernel,by decide +kernel⟩
theorem ok_Unlike___init__{f:Addr}{fd:FuncData}(F:Fun K "__init__" "Unlike.__init__" s_Unlike___init__ f fd)(er:Errs K mg c_FeastError c_NoNumber c_TooLong c_NoMeasure c_NoChange c_NoCycle c_Rule c_Each c_Dated c_Not c_Both c_Either c_But c_Unlike c_Later c_Upon c_Until c_Near c_Till c_Kth c_Every c_Measure c_Calendar c_Sun c_Change)(c_Rule___init__:CalB P w K mg base 1 "Rule" ["self","kept","made_of","words"] (spRInit K c_Rule))(c_unlike_nE:CalE P w K mg base 5 "unlike" ["one","other"] (spWhS K c_TooLong))(c_Each_turn:CalM P w K mg base CX0 1 c_Each "turn" ["self"] (spTurnM K c_Rule [c_Each])):FnOk P w K mg base (CX1 P w) 6 f fd ["self","R","S"] (spI2E K c_Rule c_Each [c_Each,c_Dated,c_Not,c_Both,c_Either,c_But,c_Unlike,c_Later,c_Upon,c_Until,c_Near,c_Till,c_Kth,c_Every] c_Unlike c_NoNumber c_NoCycle c_TooLong):=by
 refine F.okE (k:=5) sc_Unlike___init__ (fun vs H Q E h=>?_) (fun cdv A outer s H vs Q E hr h T=>?_)
 ·obtain⟨x,r,t,n1,n2,b1,b2,rfl,_⟩:=h
  rfl
 obtain⟨x,r,t,n1,n2,b1,b2,rfl,R1,R2,h⟩:=h
 obtain⟨⟨dx,hx⟩,q,ql⟩:=h.fit
 have fl:=lcmI_facts R1.n0 R2.n0
 refine⟨_,(pss_one (ps_expr (pe_binit c_Rule___init__ (hr.mono (by decide)) rfl (pa_cons (pv 0) (pa_cons (pe_calE T c_unlike_nE (hr.mono (by decide)) rfl (pa_cons (pe_mcal0 c_Each_turn er.cl_Each (hr.mono (by decide)) (pv 1)) (pa_cons (pe_mcal0 c_Each_turn er.cl_Each (hr.mono (by decide)) (pv 2)) pa_nil))) (pa_cons (pe_tup (pa_cons (pv 1) (pa_cons (pv 2) pa_nil))) (pa_cons (pe_tup (pa_cons pe_str (pa_cons pe_str (pa_cons pe_str pa_nil)))) pa_nil))))))),?_⟩
 walk_at "rdx"
 obtain⟨dr,fs,hr1,l1⟩:=R1.one
 refine⟨r,dr,fs,rfl,hr1,l1,?_⟩
 walk_at "rdx"
 refine⟨r,n1,b1,rfl,R1,fun p hp=>?_⟩
 walk_at "rdx"
 obtain⟨dr',fs',hr2,l2⟩:=R2.one
 refine⟨t,dr',fs',rfl,hr2,l2,?_⟩
 walk_at "rdx"
 refine⟨t,n2,b2,rfl,R2,fun p' hp'=>?_⟩
 walk_at "rdx"
 refine⟨p,p',n1,n2,b1,b2,rfl,⟨SqT.of hp,SqT.of hp',R1.n0,R2.n0,R1.n1,R2.n1,R1.lt,R2.lt⟩,fun lz p2 c H1 s1 t1 lt=>?_,ql⟩
 walk_at "rdx"
 refine⟨two',fun pm hpm=>?_⟩
 refine fresh hpm fun H2 s2 _=>?_
 walk_at "rdx"
 refine⟨(by show 3≤sizeLine;decide),fun pw hpw=>?_⟩
 refine fresh hpw fun H3 s3 _=>?_
 have s3:=s2.trans s3
 have hx3:=(s1.trans s3) _ _ hx
 walk_at "rdx"
 exact⟨x,p2,pm,pw,c_Unlike,dx,rfl,hx3,er.rc_Unlike,fun H' k e=>q lz c H' (k.pre (s1.trans s3)) (made_rule (List.mem_of_getElem? (i:=6) rfl) er.rc_Unlike hx3 (s3 _ _ t1) k e fl.1 lz lt)⟩
theorem sc_Upon___init__:FnScope ["self","R","S"] ["self","R","S"] (defScope s_Upon___init__):=⟨rfl,rfl,rfl,by decide +kernel,rfl,by decide +kernel,by decide +kernel⟩
theorem ok_Upon___init__{f:Addr}{fd:FuncData}(F:Fun K "__init__" "Upon.__init__" s_Upon___init__ f fd)(er:Errs K mg c_FeastError c_NoNumber c_TooLong c_NoMeasure c_NoChange c_NoCycle c_Rule c_Each c_Dated c_Not c_Both c_Either c_But c_Unlike c_Later c_Upon c_Until c_Near c_Till c_Kth c_Every c_Measure c_Calendar c_Sun c_Change)(c_Rule___init__:CalB P w K mg base 1 "Rule" ["self","kept","made_of","words"] (spRInit K c_Rule))(c_upon:CalE P w K mg base 7 "upon" ["R","S"] (spWhS K c_TooLong))(c_Each_turn:CalM P w K mg base CX0 1 c_Each "turn" ["self"] (spTurnM K c_Rule [c_Each])):FnOk P w K mg base (CX1 P w) 8 f fd ["self","R","S"] (spI2E K c_Rule c_Each [c_Each,c_Dated,c_Not,c_Both,c_Either,c_But,c_Unlike,c_Later,c_Upon,c_Until,c_Near,c_Till,c_Kth,c_Every] c_Upon c_NoNumber c_NoCycle c_TooLong):=by
 refine F.okE (k:=7) sc_Upon___init__ (fun vs H Q E h=>?_) (fun cdv A outer s H vs Q E hr h T=>?_)
 ·obtain⟨x,r,t,n1,n2,b1,b2,rfl,_⟩:=h
  rfl
 obtain⟨x,r,t,n1,n2,b1,b2,rfl,R1,R2,h⟩:=h
 obtain⟨⟨dx,hx⟩,q,ql⟩:=h.fit
 have fl:=lcmI_facts R1.n0 R2.n0
 refine⟨_,(pss_one (ps_expr (pe_binit c_Rule___init__ (hr.mono (by decide)) rfl (pa_cons (pv 0) (pa_cons (pe_calE T c_upon (hr.mono (by decide)) rfl (pa_cons (pe_mcal0 c_Each_turn er.cl_Each (hr.mono (by decide)) (pv 1)) (pa_cons (pe_mcal0 c_Each_turn er.cl_Each (hr.mono (by decide)) (pv 2)) pa_nil))) (pa_cons (pe_tup (pa_cons (pv 1) (pa_cons (pv 2) pa_nil))) (pa_cons (pe_tup (pa_cons pe_str (pa_cons pe_str (pa_cons pe_str pa_nil)))) pa_nil))))))),?_⟩
 walk_at "rdx"
 obtain⟨dr,fs,hr1,l1⟩:=R1.one
 refine⟨r,dr,fs,rfl,hr1,l1,?_⟩
 walk_at "rdx"
 refine⟨r,n1,b1,rfl,R1,fun p hp=>?_⟩
 walk_at "rdx"
 obtain⟨dr',fs',hr2,l2⟩:=R2.one
 refine⟨t,dr',fs',rfl,hr2,l2,?_⟩
 walk_at "rdx"
 refine⟨t,n2,b2,rfl,R2,fun p' hp'=>?_⟩
 walk_at "rdx"
 refine⟨p,p',n1,n2,b1,b2,rfl,⟨SqT.of hp,SqT.of hp',R1.n0,R2.n0,R1.n1,R2.n1,R1.lt,R2.lt⟩,fun lz p2 c H1 s1 t1 lt=>?_,ql⟩
 walk_at "rdx"
 refine⟨two',fun pm hpm=>?_⟩
 refine fresh hpm fun H2 s2 _=>?_
 walk_at "rdx"
 refine⟨(by show 3≤sizeLine;decide),fun pw hpw=>?_⟩
 refine fresh hpw fun H3 s3 _=>?_
 have s3:=s2.trans s3
 have hx3:=(s1.trans s3) _ _ hx
 walk_at "rdx"
 exact⟨x,p2,pm,pw,c_Upon,dx,rfl,hx3,er.rc_Upon,fun H' k e=>q lz c H' (k.pre (s1.trans s3)) (made_rule (List.mem_of_getElem? (i:=8) rfl) er.rc_Upon hx3 (s3 _ _ t1) k e fl.1 lz lt)⟩
theorem sc_Until___init__:FnScope ["self","R","S"] ["self","R","S"] (defScope s_Until___init__):=⟨rfl,rfl,rfl,by decide +kernel,rfl,by decide +kernel,by decide +kernel⟩
theorem ok_Until___init__{f:Addr}{fd:FuncData}(F:Fun K "__init__" "Until.__init__" s_Until___init__ f fd)(er:Errs K mg c_FeastError c_NoNumber c_TooLong c_NoMeasure c_NoChange c_NoCycle c_Rule c_Each c_Dated c_Not c_Both c_Either c_But c_Unlike c_Later c_Upon c_Until c_Near c_Till c_Kth c_Every c_Measure c_Calendar c_Sun c_Change)(c_Rule___init__:CalB P w K mg base 1 "Rule" ["self","kept","made_of","words"] (spRInit K c_Rule))(c_until:CalE P w K mg base 7 "until" ["R","S"] (spWhS K c_TooLong))(c_Each_turn:CalM P w K mg base CX0 1 c_Each "turn" ["self"] (spTurnM K c_Rule [c_Each])):FnOk P w K mg base (CX1 P w) 8 f fd ["self","R","S"] (spI2E K c_Rule c_Each [c_Each,c_Dated,c_Not,c_Both,c_Either,c_But,c_Unlike,c_Later,c_Upon,c_Until,c_Near,c_Till,c_Kth,c_Every] c_Until c_NoNumber c_NoCycle c_TooLong):=by
 refine F.okE (k:=7) sc_Until___init__ (fun vs H Q E h=>?_) (fun cdv A outer s H vs Q E hr h T=>?_)
 ·obtain⟨x,r,t,n1,n2,b1,b2,rfl,_⟩:=h
  rfl
 obtain⟨x,r,t,n1,n2,b1,b2,rfl,R1,R2,h⟩:=h
 obtain⟨⟨dx,hx⟩,q,ql⟩:=h.fit
 have fl:=lcmI_facts R1.n0 R2.n0
 refine⟨_,(pss_one (ps_expr (pe_binit c_Rule___init__ (hr.mono (by decide)) rfl (pa_cons (pv 0) (pa_cons (pe_calE T c_until (hr.mono (by decide)) rfl (pa_cons (pe_mcal0 c_Each_turn er.cl_Each (hr.mono (by decide)) (pv 1)) (pa_cons (pe_mcal0 c_Each_turn er.cl_Each (hr.mono (by decide)) (pv 2)) pa_nil))) (pa_cons (pe_tup (pa_cons (pv 1) (pa_cons (pv 2) pa_nil))) (pa_cons (pe_tup (pa_cons pe_str (pa_cons pe_str (pa_cons pe_str pa_nil)))) pa_nil))))))),?_⟩
 walk_at "rdx"
 obtain⟨dr,fs,hr1,l1⟩:=R1.one
 refine⟨r,dr,fs,rfl,hr1,l1,?_⟩
 walk_at "rdx"
 refine⟨r,n1,b1,rfl,R1,fun p hp=>?_⟩
 walk_at "rdx"
 obtain⟨dr',fs',hr2,l2⟩:=R2.one
 refine⟨t,dr',fs',rfl,hr2,l2,?_⟩
 walk_at "rdx"
 refine⟨t,n2,b2,rfl,R2,fun p' hp'=>?_⟩
 walk_at "rdx"
 refine⟨p,p',n1,n2,b1,b2,rfl,⟨SqT.of hp,SqT.of hp',R1.n0,R2.n0,R1.n1,R2.n1,R1.lt,R2.lt⟩,fun lz p2 c H1 s1 t1 lt=>?_,ql⟩
 walk_at "rdx"
 refine⟨two',fun pm hpm=>?_⟩
 refine fresh hpm fun H2 s2 _=>?_
 walk_at "rdx"
 refine⟨(by show 3≤sizeLine;decide),fun pw hpw=>?_⟩
 refine fresh hpw fun H3 s3 _=>?_
 have s3:=s2.trans s3
 have hx3:=(s1.trans s3) _ _ hx
 walk_at "rdx"
 exact⟨x,p2,pm,pw,c_Until,dx,rfl,hx3,er.rc_Until,fun H' k e=>q lz c H' (k.pre (s1.trans s3)) (made_rule (List.mem_of_getElem? (i:=9) rfl) er.rc_Until hx3 (s3 _ _ t1) k e fl.1 lz lt)⟩
theorem sc_Near___init__:FnScope ["self","R","S"] ["self","R","S"] (defScope s_Near___init__):=⟨rfl,rfl,rfl,by decide +kernel,rfl,by decide +kernel,by decide +kernel⟩
theorem ok_Near___init__{f:Addr}{fd:FuncData}(F:Fun K "__init__" "Near.__init__" s_Near___init__ f fd)(er:Errs K mg c_FeastError c_NoNumber c_TooLong c_NoMeasure c_NoChange c_NoCycle c_Rule c_Each c_Dated c_Not c_Both c_Either c_But c_Unlike c_Later c_Upon c_Until c_Near c_Till c_Kth c_Every c_Measure c_Calendar c_Sun c_Change)(c_Rule___init__:CalB P w K mg base 1 "Rule" ["self","kept","made_of","words"] (spRInit K c_Rule))(c_near:CalE P w K mg base 9 "near" ["R","S"] (spWhS K c_TooLong))(c_Each_turn:CalM P w K mg base CX0 1 c_Each "turn" ["self"] (spTurnM K c_Rule [c_Each])):FnOk P w K mg base (CX1 P w) 10 f fd ["self","R","S"] (spI2E K c_Rule c_Each [c_Each,c_Dated,c_Not,c_Both,c_Either,c_But,c_Unlike,c_Later,c_Upon,c_Until,c_Near,c_Till,c_Kth,c_Every] c_Near c_NoNumber c_NoCycle c_TooLong):=by
 refine F.okE (k:=9) sc_Near___init__ (fun vs H Q E h=>?_) (fun cdv A outer s H vs Q E hr h T=>?_)
 ·obtain⟨x,r,t,n1,n2,b1,b2,rfl,_⟩:=h
  rfl
 obtain⟨x,r,t,n1,n2,b1,b2,rfl,R1,R2,h⟩:=h
 obtain⟨⟨dx,hx⟩,q,ql⟩:=h.fit
 have fl:=lcmI_facts R1.n0 R2.n0
 refine⟨_,(pss_one (ps_expr (pe_binit c_Rule___init__ (hr.mono (by decide)) rfl (pa_cons (pv 0) (pa_cons (pe_calE T c_near (hr.mono (by decide)) rfl (pa_cons (pe_mcal0 c_Each_turn er.cl_Each (hr.mono (by decide)) (pv 1)) (pa_cons (pe_mcal0 c_Each_turn er.cl_Each (hr.mono (by decide)) (pv 2)) pa_nil))) (pa_cons (pe_tup (pa_cons (pv 1) (pa_cons (pv 2) pa_nil))) (pa_cons (pe_tup (pa_cons pe_str (pa_cons pe_str (pa_cons pe_str pa_nil)))) pa_nil))))))),?_⟩
 walk_at "rdx"
 obtain⟨dr,fs,hr1,l1⟩:=R1.one
 refine⟨r,dr,fs,rfl,hr1,l1,?_⟩
 walk_at "rdx"
 refine⟨r,n1,b1,rfl,R1,fun p hp=>?_⟩
 walk_at "rdx"
 obtain⟨dr',fs',hr2,l2⟩:=R2.one
 refine⟨t,dr',fs',rfl,hr2,l2,?_⟩
 walk_at "rdx"
 refine⟨t,n2,b2,rfl,R2,fun p' hp'=>?_⟩
 walk_at "rdx"
 refine⟨p,p',n1,n2,b1,b2,rfl,⟨SqT.of hp,SqT.of hp',R1.n0,R2.n0,R1.n1,R2.n1,R1.lt,R2.lt⟩,fun lz p2 c H1 s1 t1 lt=>?_,ql⟩
 walk_at "rdx"
 refine⟨two',fun pm hpm=>?_⟩
 refine fresh hpm fun H2 s2 _=>?_
 walk_at "rdx"
 refine⟨(by show 3≤sizeLine;decide),fun pw hpw=>?_⟩
 refine fresh hpw fun H3 s3 _=>?_
 have s3:=s2.trans s3
 have hx3:=(s1.trans s3) _ _ hx
 walk_at "rdx"
 exact⟨x,p2,pm,pw,c_Near,dx,rfl,hx3,er.rc_Near,fun H' k e=>q lz c H' (k.pre (s1.trans s3)) (made_rule (List.mem_of_getElem? (i:=10) rfl) er.rc_Near hx3 (s3 _ _ t1) k e fl.1 lz lt)⟩
theorem sc_Till___init__:FnScope ["self","R","S"] ["self","R","S"] (defScope s_Till___init__):=⟨rfl,rfl,rfl,by decide +kernel,rfl,by decide +kernel,by decide +kernel⟩
theorem ok_Till___init__{f:Addr}{fd:FuncData}(F:Fun K "__init__" "Till.__init__" s_Till___init__ f fd)(er:Errs K mg c_FeastError c_NoNumber c_TooLong c_NoMeasure c_NoChange c_NoCycle c_Rule c_Each c_Dated c_Not c_Both c_Either c_But c_Unlike c_Later c_Upon c_Until c_Near c_Till c_Kth c_Every c_Measure c_Calendar c_Sun c_Change)(c_Rule___init__:CalB P w K mg base 1 "Rule" ["self","kept","made_of","words"] (spRInit K c_Rule))(c_till:CalE P w K mg base 7 "till" ["R","S"] (spWhS K c_TooLong))(c_Each_turn:CalM P w K mg base CX0 1 c_Each "turn" ["self"] (spTurnM K c_Rule [c_Each])):FnOk P w K mg base (CX1 P w) 8 f fd ["self","R","S"] (spI2E K c_Rule c_Each [c_Each,c_Dated,c_Not,c_Both,c_Either,c_But,c_Unlike,c_Later,c_Upon,c_Until,c_Near,c_Till,c_Kth,c_Every] c_Till c_NoNumber c_NoCycle c_TooLong):=by
 refine F.okE (k:=7) sc_Till___init__ (fun vs H Q E h=>?_) (fun cdv A outer s H vs Q E hr h T=>?_)
 ·obtain⟨x,r,t,n1,n2,b1,b2,rfl,_⟩:=h
  rfl
 obtain⟨x,r,t,n1,n2,b1,b2,rfl,R1,R2,h⟩:=h
 obtain⟨⟨dx,hx⟩,q,ql⟩:=h.fit
 have fl:=lcmI_facts R1.n0 R2.n0
 refine⟨_,(pss_one (ps_expr (pe_binit c_Rule___init__ (hr.mono (by decide)) rfl (pa_cons (pv 0) (pa_cons (pe_calE T c_till (hr.mono (by decide)) rfl (pa_cons (pe_mcal0 c_Each_turn er.cl_Each (hr.mono (by decide)) (pv 1)) (pa_cons (pe_mcal0 c_Each_turn er.cl_Each (hr.mono (by decide)) (pv 2)) pa_nil))) (pa_cons (pe_tup (pa_cons (pv 1) (pa_cons (pv 2) pa_nil))) (pa_cons (pe_tup (pa_cons pe_str (pa_cons pe_str (pa_cons pe_str pa_nil)))) pa_nil))))))),?_⟩
 walk_at "rdx"
 obtain⟨dr,fs,hr1,l1⟩:=R1.one
 refine⟨r,dr,fs,rfl,hr1,l1,?_⟩
 walk_at "rdx"
 refine⟨r,n1,b1,rfl,R1,fun p hp=>?_⟩
 walk_at "rdx"
 obtain⟨dr',fs',hr2,l2⟩:=R2.one
 refine⟨t,dr',fs',rfl,hr2,l2,?_⟩
 walk_at "rdx"
 refine⟨t,n2,b2,rfl,R2,fun p' hp'=>?_⟩
 walk_at "rdx"
 refine⟨p,p',n1,n2,b1,b2,rfl,⟨SqT.of hp,SqT.of hp',R1.n0,R2.n0,R1.n1,R2.n1,R1.lt,R2.lt⟩,fun lz p2 c H1 s1 t1 lt=>?_,ql⟩
 walk_at "rdx"
 refine⟨two',fun pm hpm=>?_⟩
 refine fresh hpm fun H2 s2 _=>?_
 walk_at "rdx"
 refine⟨(by show 3≤sizeLine;decide),fun pw hpw=>?_⟩
 refine fresh hpw fun H3 s3 _=>?_
 have s3:=s2.trans s3
 have hx3:=(s1.trans s3) _ _ hx
 walk_at "rdx"
 exact⟨x,p2,pm,pw,c_Till,dx,rfl,hx3,er.rc_Till,fun H' k e=>q lz c H' (k.pre (s1.trans s3)) (made_rule (List.mem_of_getElem? (i:=11) rfl) er.rc_Till hx3 (s3 _ _ t1) k e fl.1 lz lt)⟩
theorem sc_Not___init__:FnScope ["self","R"] ["self","R"] (defScope s_Not___init__):=⟨rfl,rfl,rfl,by decide +kernel,rfl,by decide +kernel,by decide +kernel⟩
theorem ok_Not___init__{f:Addr}{fd:FuncData}(F:Fun K "__init__" "Not.__init__" s_Not___init__ f fd)(er:Errs K mg c_FeastError c_NoNumber c_TooLong c_NoMeasure c_NoChange c_NoCycle c_Rule c_Each c_Dated c_Not c_Both c_Either c_But c_Unlike c_Later c_Upon c_Until c_Near c_Till c_Kth c_Every c_Measure c_Calendar c_Sun c_Change)(c_Rule___init__:CalB P w K mg base 1 "Rule" ["self","kept","made_of","words"] (spRInit K c_Rule))(c_other_days:Cal P w K mg base 2 "other_days" ["turn"] (spOther K))(c_Each_turn:CalM P w K mg base CX0 1 c_Each "turn" ["self"] (spTurnM K c_Rule [c_Each])):FnOk P w K mg base (CX1 P w) 3 f fd ["self","R"] (spI1E K c_Rule c_Each [c_Each,c_Dated,c_Not,c_Both,c_Either,c_But,c_Unlike,c_Later,c_Upon,c_Until,c_Near,c_Till,c_Kth,c_Every] c_Not c_NoNumber c_NoCycle c_TooLong):=by
 refine F.okE (k:=2) sc_Not___init__ (fun vs H Q E h=>?_) (fun cdv A outer s H vs Q E hr h T=>?_)
 ·obtain⟨x,r,n,b,rfl,_⟩:=h
  rfl
 obtain⟨x,r,n,b,rfl,R,⟨dx,hx⟩,q⟩:=h
 refine⟨_,(pss_one (ps_expr (pe_binit c_Rule___init__ (hr.mono (by decide)) rfl (pa_cons (pv 0) (pa_cons (pe_cal c_other_days (hr.mono (by decide)) rfl (pa_cons (pe_mcal0 c_Each_turn er.cl_Each (hr.mono (by decide)) (pv 1)) pa_nil)) (pa_cons (pe_tup (pa_cons (pv 1) pa_nil)) (pa_cons (pe_tup (pa_cons pe_str (pa_cons pe_str pa_nil))) pa_nil))))))),?_⟩
 walk_at "rdx"
 obtain⟨dr,fs,hr1,l1⟩:=R.one
 refine⟨r,dr,fs,rfl,hr1,l1,?_⟩
 walk_at "rdx"
 refine⟨r,n,b,rfl,R,fun p hp=>?_⟩
 walk_at "rdx"
 refine⟨p,n,b,rfl,SqT.of hp,R.n0,R.n1,R.lt,fun p2 c hp2 hc hbit=>?_⟩
 refine fresh hp2 fun H1 s1 t1=>?_
 walk_at "rdx"
 refine⟨(by show 1≤sizeLine;decide),fun pm hpm=>?_⟩
 refine fresh hpm fun H2 s2 _=>?_
 walk_at "rdx"
 refine⟨two',fun pw hpw=>?_⟩
 refine fresh hpw fun H3 s3 _=>?_
 have s3:=s2.trans s3
 have hx3:=(s1.trans s3) _ _ hx
 walk_at "rdx"
 exact⟨x,p2,pm,pw,c_Not,dx,rfl,hx3,er.rc_Not,fun H' k e=>q c H' (k.pre (s1.trans s3)) (made_rule (List.mem_of_getElem? (i:=2) rfl) er.rc_Not hx3 (s3 _ _ t1) k e R.n0 R.n1 hc)⟩
theorem sc_Later___init__:FnScope ["self","number","R"] ["self","number","R"] (defScope s_Later___init__):=⟨rfl,rfl,rfl,by decide +kernel,rfl,by decide +kernel,by decide +kernel⟩
theorem ok_Later___init__{f:Addr}{fd:FuncData}(F:Fun K "__init__" "Later.__init__" s_Later___init__ f fd)(er:Errs K mg c_FeastError c_NoNumber c_TooLong c_NoMeasure c_NoChange c_NoCycle c_Rule c_Each c_Dated c_Not c_Both c_Either c_But c_Unlike c_Later c_Upon c_Until c_Near c_Till c_Kth c_Every c_Measure c_Calendar c_Sun c_Change)(c_Rule___init__:CalB P w K mg base 1 "Rule" ["self","kept","made_of","words"] (spRInit K c_Rule))(c_later:Cal P w K mg base 2 "later" ["turn","number"] (spLater K))(c_Each_turn:CalM P w K mg base CX0 1 c_Each "turn" ["self"] (spTurnM K c_Rule [c_Each])):FnOk P w K mg base (CX1 P w) 3 f fd ["self","number","R"] (spILE K c_Rule c_Each [c_Each,c_Dated,c_Not,c_Both,c_Either,c_But,c_Unlike,c_Later,c_Upon,c_Until,c_Near,c_Till,c_Kth,c_Every] c_Later c_NoNumber c_NoCycle c_TooLong):=by
 refine F.okE (k:=2) sc_Later___init__ (fun vs H Q E h=>?_) (fun cdv A outer s H vs Q E hr h T=>?_)
 ·obtain⟨x,r,num,n,b,rfl,_⟩:=h
  rfl
 obtain⟨x,r,num,n,b,rfl,bk,R,⟨dx,hx⟩,q⟩:=h
 refine⟨_,(pss_one (ps_expr (pe_binit c_Rule___init__ (hr.mono (by decide)) rfl (pa_cons (pv 0) (pa_cons (pe_cal c_later (hr.mono (by decide)) rfl (pa_cons (pe_mcal0 c_Each_turn er.cl_Each (hr.mono (by decide)) (pv 2)) (pa_cons (pv 1) pa_nil))) (pa_cons (pe_tup (pa_cons (pv 2) pa_nil)) (pa_cons (pe_tup (pa_cons (pe_join (pj_cons pe_str (pj_cons (pe_fmt hr.toN (pv 1)) (pj_cons pe_str pj_nil)))) (pa_cons pe_str pa_nil))) pa_nil))))))),?_⟩
 walk_at "rdx"
 obtain⟨dr,fs,hr1,l1⟩:=R.one
 refine⟨r,dr,fs,rfl,hr1,l1,?_⟩
 walk_at "rdx"
 refine⟨r,n,b,rfl,R,fun p hp=>?_⟩
 walk_at "rdx"
 refine⟨p,n,num,b,rfl,SqT.of hp,R.n0,R.n1,R.lt,fun p2 hp2=>?_⟩
 refine fresh hp2 fun H1 s1 t1=>?_
 walk_at "rdx"
 refine⟨(by show 1≤sizeLine;decide),fun pm hpm=>?_⟩
 refine fresh hpm fun H2 s2 _=>?_
 walk_at "rdx"
 try refine rd_join ?_
 refine rd_jc 0 (by decide) (by decide) fun l1=>rd_ji _ l1 (by decide) rfl (bt_log bk (by decide) (by decide)) fun l2=>rd_jc _ l2 (by decide) fun l3=>rd_jnil (fits l3 (by decide)) ?_
 generalize (Str.empty++Str.ofString "("++intT num++Str.ofString " later ")=zt
 walk_at "rdx"
 refine⟨two',fun pw hpw=>?_⟩
 refine fresh hpw fun H3 s3 _=>?_
 have s3:=s2.trans s3
 have hx3:=(s1.trans s3) _ _ hx
 walk_at "rdx"
 exact⟨x,p2,pm,pw,c_Later,dx,rfl,hx3,er.rc_Later,fun H' k e=>q _ H' (k.pre (s1.trans s3)) (made_rule (List.mem_of_getElem? (i:=7) rfl) er.rc_Later hx3 (s3 _ _ t1) k e R.n0 R.n1 (lat_lt _ _ _))⟩
theorem sc_Kth___init__:FnScope ["self","number","R","S","kept"] ["self","number","R","S"] (defScope s_Kth___init__):=⟨rfl,rfl,rfl,by decide +kernel,rfl,by decide +kernel,by decide +kernel⟩
theorem ok_Kth___init__{f:Addr}{fd:FuncData}(F:Fun K "__init__" "Kth.__init__" s_Kth___init__ f fd)(er:Errs K mg c_FeastError c_NoNumber c_TooLong c_NoMeasure c_NoChange c_NoCycle c_Rule c_Each c_Dated c_Not c_Both c_Either c_But c_Unlike c_Later c_Upon c_Until c_Near c_Till c_Kth c_Every c_Measure c_Calendar c_Sun c_Change)(c_kth:CalE P w K mg base 8 "kth" ["number","R","S"] (spKthS K c_NoNumber c_TooLong))(c_Each_turn:CalM P w K mg base CX0 1 c_Each "turn" ["self"] (spTurnM K c_Rule [c_Each]))(c_Rule___init__:CalB P w K mg base 1 "Rule" ["self","kept","made_of","words"] (spRInit K c_Rule)):FnOk P w K mg base (CX1 P w) 9 f fd ["self","number","R","S"] (spIKE K c_Rule c_Each [c_Each,c_Dated,c_Not,c_Both,c_Either,c_But,c_Unlike,c_Later,c_Upon,c_Until,c_Near,c_Till,c_Kth,c_Every] c_Kth c_NoNumber c_NoCycle c_TooLong):=by
 refine F.okE (k:=8) sc_Kth___init__ (fun vs H Q E h=>?_) (fun cdv A outer s H vs Q E hr h T=>?_)
 ·obtain⟨x,r,t,num,n1,n2,b1,b2,rfl,_⟩:=h
  rfl
 obtain⟨x,r,t,num,n1,n2,b1,b2,rfl,bk,R1,R2,h⟩:=h
 obtain⟨dx,hx⟩:=h.1
 have fl:=lcmI_facts R1.n0 R2.n0
 have h0:num=0→ENum c_NoNumber H E:=fun z=>by
  rw[if_pos z] at h
  exact h.2
 have h1:num≠0→(lcmI n1 n2≤150000→∀(b:Nat) H',KB x H H'→RuleO K c_Rule [c_Each,c_Dated,c_Not,c_Both,c_Either,c_But,c_Unlike,c_Later,c_Upon,c_Until,c_Near,c_Till,c_Kth,c_Every] H' x (lcmI n1 n2) b→Q .non H')∧(150000<lcmI n1 n2→ELong c_TooLong (lcmI n1 n2) H E):=fun z=>by
  rw[if_neg z] at h
  exact h.fit.2
 clear h
 refine⟨_,(pss_cons (ps_set (i:=4) sc_Kth___init__.nd rfl (by first | exact Or.inl rfl | exact Or.inr rfl) (pe_calE T c_kth (hr.mono (by decide)) rfl (pa_cons (pv 1) (pa_cons (pe_mcal0 c_Each_turn er.cl_Each (hr.mono (by decide)) (pv 2)) (pa_cons (pe_mcal0 c_Each_turn er.cl_Each (hr.mono (by decide)) (pv 3)) pa_nil)))))
  (pss_one (ps_expr (pe_binit c_Rule___init__ (hr.mono (by decide)) rfl (pa_cons (pv 0) (pa_cons (pv 4) (pa_cons (pe_tup (pa_cons (pv 2) (pa_cons (pv 3) pa_nil))) (pa_cons (pe_tup (pa_cons (pe_join (pj_cons pe_str (pj_cons (pe_fmt hr.toN (pv 1)) (pj_cons pe_str pj_nil)))) (pa_cons pe_str (pa_cons pe_str pa_nil)))) pa_nil)))))))),?_⟩
 walk_at "rdx"
 obtain⟨dr,fs,hr1,l1⟩:=R1.one
 refine⟨r,dr,fs,rfl,hr1,l1,?_⟩
 walk_at "rdx"
 refine⟨r,n1,b1,rfl,R1,fun p hp=>?_⟩
 walk_at "rdx"
 obtain⟨dr',fs',hr2,l2⟩:=R2.one
 refine⟨t,dr',fs',rfl,hr2,l2,?_⟩
 walk_at "rdx"
 refine⟨t,n2,b2,rfl,R2,fun p' hp'=>?_⟩
 walk_at "rdx"
 refine⟨num,p,p',n1,n2,b1,b2,rfl,⟨SqT.of hp,SqT.of hp',R1.n0,R2.n0,R1.n1,R2.n1,R1.lt,R2.lt⟩,h0,fun k0 lz p2 c H1 s1 t1 lt=>?_,fun k0 lz=>(h1 k0).2 lz⟩
 walk_at "rdx"
 refine⟨two',fun pm hpm=>?_⟩
 refine fresh hpm fun H2 s2 _=>?_
 walk_at "rdx"
 try refine rd_join ?_
 refine rd_jc 0 (by decide) (by decide) fun l1=>rd_ji _ l1 (by decide) rfl (bt_log bk (by decide) (by decide)) fun l2=>rd_jc _ l2 (by decide) fun l3=>rd_jnil (fits l3 (by decide)) ?_
 generalize (Str.empty++Str.ofString "("++intT num++Str.ofString " of ")=zt
 walk_at "rdx"
 refine⟨(by show 3≤sizeLine;decide),fun pw hpw=>?_⟩
 refine fresh hpw fun H3 s3 _=>?_
 have s3:=s2.trans s3
 have hx3:=(s1.trans s3) _ _ hx
 walk_at "rdx"
 exact⟨x,p2,pm,pw,c_Kth,dx,rfl,hx3,er.rc_Kth,fun H' k e=>(h1 k0).1 lz c H' (k.pre (s1.trans s3)) (made_rule (List.mem_of_getElem? (i:=12) rfl) er.rc_Kth hx3 (s3 _ _ t1) k e fl.1 lz lt)⟩
theorem sc_Every___init__:FnScope ["self","number","R","day","kept"] ["self","number","R","day"] (defScope s_Every___init__):=⟨rfl,rfl,rfl,by decide +kernel,rfl,by decide +kernel,by decide +kernel⟩
theorem ok_Every___init__{f:Addr}{fd:FuncData}(F:Fun K "__init__" "Every.__init__" s_Every___init__ f fd)(er:Errs K mg c_FeastError c_NoNumber c_TooLong c_NoMeasure c_NoChange c_NoCycle c_Rule c_Each c_Dated c_Not c_Both c_Either c_But c_Unlike c_Later c_Upon c_Until c_Near c_Till c_Kth c_Every c_Measure c_Calendar c_Sun c_Change)(c_every:CalE P w K mg base 6 "every" ["number","R","day"] (spEveryE K c_NoNumber c_TooLong))(c_Each_turn:CalM P w K mg base CX0 1 c_Each "turn" ["self"] (spTurnM K c_Rule [c_Each]))(c_Rule___init__:CalB P w K mg base 1 "Rule" ["self","kept","made_of","words"] (spRInit K c_Rule)):FnOk P w K mg base (CX1 P w) 7 f fd ["self","number","R","day"] (spIVE K c_Rule c_Each [c_Each,c_Dated,c_Not,c_Both,c_Either,c_But,c_Unlike,c_Later,c_Upon,c_Until,c_Near,c_Till,c_Kth,c_Every] c_Every c_NoNumber c_NoCycle c_TooLong):=by
 refine F.okE (k:=6) sc_Every___init__ (fun vs H Q E h=>?_) (fun cdv A outer s H vs Q E hr h T=>?_)
 ·obtain⟨x,r,num,d0,n,b,rfl,_⟩:=h
  rfl
 obtain⟨x,r,num,d0,n,b,rfl,bk,bd,R,h⟩:=h
 obtain⟨dx,hx⟩:=h.1
 have h0:num<1→ENum c_NoNumber H E:=fun z=>by
  rw[if_pos z] at h
  exact h.2
 have h1:1≤num→(n*num≤150000→∀(b:Nat) H',KB x H H'→RuleO K c_Rule [c_Each,c_Dated,c_Not,c_Both,c_Either,c_But,c_Unlike,c_Later,c_Upon,c_Until,c_Near,c_Till,c_Kth,c_Every] H' x (n*num) b→Q .non H')∧(150000<n*num→ELong c_TooLong (n*num) H E):=fun z=>by
  rw[if_neg (by omega)] at h
  exact h.fit.2
 clear h
 refine⟨_,(pss_cons (ps_set (i:=4) sc_Every___init__.nd rfl (by first | exact Or.inl rfl | exact Or.inr rfl) (pe_calE T c_every (hr.mono (by decide)) rfl (pa_cons (pv 1) (pa_cons (pe_mcal0 c_Each_turn er.cl_Each (hr.mono (by decide)) (pv 2)) (pa_cons (pv 3) pa_nil)))))
  (pss_one (ps_expr (pe_binit c_Rule___init__ (hr.mono (by decide)) rfl (pa_cons (pv 0) (pa_cons (pv 4) (pa_cons (pe_tup (pa_cons (pv 2) pa_nil)) (pa_cons (pe_tup (pa_cons (pe_join (pj_cons pe_str (pj_cons (pe_fmt hr.toN (pv 1)) (pj_cons pe_str pj_nil)))) (pa_cons (pe_join (pj_cons pe_str (pj_cons (pe_fmt hr.toN (pv 3)) (pj_cons pe_str pj_nil)))) pa_nil))) pa_nil)))))))),?_⟩
 walk_at "rdx"
 obtain⟨dr,fs,hr1,l1⟩:=R.one
 refine⟨r,dr,fs,rfl,hr1,l1,?_⟩
 walk_at "rdx"
 refine⟨r,n,b,rfl,R,fun p hp=>?_⟩
 walk_at "rdx"
 refine⟨num,d0,p,n,b,rfl,SqT.of hp,R.n0,R.n1,R.lt,bd,bk.mono (by decide),h0,fun k0 nk p2 c H1 s1 t1 lt on=>?_,fun k0 nk=>(h1 k0).2 nk⟩
 have z0:0<n*num:=Int.mul_pos R.n0 (by omega)
 walk_at "rdx"
 refine⟨(by show 1≤sizeLine;decide),fun pm hpm=>?_⟩
 refine fresh hpm fun H2 s2 _=>?_
 walk_at "rdx"
 try refine rd_join ?_
 refine rd_jc 0 (by decide) (by decide) fun l1=>rd_ji _ l1 (by decide) rfl (bt_log bk (by decide) (by decide)) fun l2=>rd_jc _ l2 (by decide) fun l3=>rd_jnil (fits l3 (by decide)) ?_
 generalize (Str.empty++Str.ofString "(every "++intT num++Str.ofString " of ")=zt
 walk_at "rdx"
 try refine rd_join ?_
 refine rd_jc 0 (by decide) (by decide) fun l1=>rd_ji _ l1 (by decide) rfl (bt_log bd (by decide) (by decide)) fun l2=>rd_jc _ l2 (by decide) fun l3=>rd_jnil (fits l3 (by decide)) ?_
 generalize (Str.empty++Str.ofString " from "++intT d0++Str.ofString ")")=zu
 walk_at "rdx"
 refine⟨two',fun pw hpw=>?_⟩
 refine fresh hpw fun H3 s3 _=>?_
 have s3:=s2.trans s3
 have hx3:=(s1.trans s3) _ _ hx
 walk_at "rdx"
 exact⟨x,p2,pm,pw,c_Every,dx,rfl,hx3,er.rc_Every,fun H' k e=>(h1 k0).1 nk c H' (k.pre (s1.trans s3)) (made_rule (List.mem_of_getElem? (i:=13) rfl) er.rc_Every hx3 (s3 _ _ t1) k e z0 nk lt)⟩
theorem sc_term_on:FnScope ["term","k"] ["term","k"] (defScope s_term_on):=⟨rfl,rfl,rfl,by decide +kernel,rfl,by decide +kernel,by decide +kernel⟩
theorem ok_term_on{f:Addr}{fd:FuncData}(F:Fun K "term_on" "term_on" s_term_on f fd):FnOk P w K mg base CX0 1 f fd ["term","k"] spTermOn:=by
 refine F.ok (k:=0) sc_term_on (fun vs H Q E h=>?_) (fun cdv A outer s H vs Q E hr h=>?_)
 ·obtain⟨p,k,t,rfl,_⟩:=h
  rfl
 obtain⟨p,k,t,rfl,hp,ok,bk,q⟩:=h
 have n0:=ok.n0
 have n1:=ok.n1
 have a0:=ok.a0
 have a1:=ok.a1
 refine⟨_,(pss_one (ps_ret (pe_cmpR op_ge (pe_op op_add (pe_op op_mod (pe_op op_add (pe_op op_mulB (pe_ix ix_tup (pv 0) pe_int (fun _ _=>rfl)) (pv 1)) (pe_ix ix_tup (pv 0) pe_int (fun _ _=>rfl))) (pe_ix ix_tup (pv 0) pe_int (fun _ _=>rfl))) (pe_ix ix_tup (pv 0) pe_int (fun _ _=>rfl))) (pe_ix ix_tup (pv 0) pe_int (fun _ _=>rfl)) (nomark _)))),?_⟩
 walk_at "rd"
 refine rd_ixT (SqT.of hp) at41 ?_
 walk_at "rd"
 refine rd_i ⟨64,400,bt_small (by omega) (by omega) (by decide),bk,by decide⟩ ?_
 walk_at "rd"
 refine rd_ixT (SqT.of hp) at42 ?_
 walk_at "rd"
 refine rd_ixT (SqT.of hp) at43 ?_
 walk_at "rd"
 refine rd_ixT (SqT.of hp) at41 ?_
 walk_at "rd"
 refine rd_ixT (SqT.of hp) at43 ?_
 walk_at "rd"
 exact q
theorem sc_signs_upto:FnScope ["terms","k"] ["terms","k"] (defScope s_signs_upto):=⟨rfl,rfl,rfl,by decide +kernel,rfl,by decide +kernel,by decide +kernel⟩
theorem ok_signs_upto{f:Addr}{fd:FuncData}(F:Fun K "signs_upto" "signs_upto" s_signs_upto f fd)(z_sum:mg "sum"=none):FnOk P w K mg base CX0 1 f fd ["terms","k"] (spSigns K):=by
 refine F.ok (k:=0) sc_signs_upto (fun vs H Q E h=>?_) (fun cdv A outer s H vs Q E hr h=>?_)
 ·obtain⟨p,k,ts,rfl,_⟩:=h
  rfl
 obtain⟨p,k,ts,rfl,T,bk,q⟩:=h
 obtain⟨us,hS,hT⟩:=T.ex
 refine⟨_,(pss_one (ps_ret (pe_callB (call_sum rfl) rfl z_sum PyProof.Rows.boot_sum (pa_cons (pe_comp rfl (compOk_freeM ["terms","k"] ["terms","k"] rfl rfl (by with_unfolding_all rfl) (by decide +kernel) rfl (by decide +kernel) rfl (by decide +kernel) (by walk_at "fm") (by with_unfolding_all rfl) (by with_unfolding_all rfl)) (pi_tup (pv 0)) (fun _ _ _ _=>pifs_nil) (fun _ _ _ _=>(pe_op op_mulB (pe_ix ix_tup_c (pv 0) pe_int (fun _ _=>rfl)) (pe_op op_fdivB (pe_op op_add (pe_op op_mulB (pe_ix ix_tup_c (pv 0) pe_int (fun _ _=>rfl)) (pv 2)) (pe_ix ix_tup_c (pv 0) pe_int (fun _ _=>rfl))) (pe_ix ix_tup_c (pv 0) pe_int (fun _ _=>rfl)))))) pa_nil)))),?_⟩
 walk_at "rd"
 refine comp_t rfl hS (by rw[hT.len];exact small1000 (by have:=T.few;omega)) (fun v=>((tmAt H v).map fun _=>true).getD false) (fun v=>((tmAt H v).map fun t=>V.int (t.1*ctT t k)).getD .non) (fun x hx D ys Q' hD h=>?_) (fun x hx _ D ys Q' hD h=>?_) (fun D hD=>?_)
 ·obtain⟨a,t,rfl,ht,ha⟩:=hT.mem hx
  rw[tmAt_eq ha] at h
  exact h
 ·obtain⟨a,t,rfl,ht,ha⟩:=hT.mem hx
  rw[tmAt_eq ha] at h
  have ok:=T.ok t ht
  have n0:=ok.n0
  have n1:=ok.n1
  have a0:=ok.a0
  have a1:=ok.a1
  have sg:=ok.sg
  have b0:=ok.b0
  have b1:=ok.b1
  have ha':=same_new hD (.lst ys) _ _ ha
  walk_at "rd"
  refine rd_ixT (SqT.of ha') at40 ?_
  walk_at "rd"
  refine rd_ixT (SqT.of ha') at41 ?_
  walk_at "rd"
  refine rd_i ⟨64,400,bt_small (by omega) (by omega) (by decide),bk,by decide⟩ ?_
  walk_at "rd"
  refine rd_ixT (SqT.of ha') at42 ?_
  walk_at "rd"
  refine rd_ixT (SqT.of ha') at43 ?_
  refine rd_i (cdiv_small (by omega) (by omega)) ?_
  have bb:Bt 465 (t.2.1*k+t.2.2.1):=((show Bt 64 t.2.1 from bt_small (by omega) (by omega) (by decide)).mul bk).add ((show Bt 64 t.2.2.1 from bt_small (by omega) (by omega) (by decide)).mono (by decide))
  refine rd_i ⟨200,465,bt_of (by omega) (by omega),bt_div bb (by omega),by decide⟩ ?_
  exact h
 rw[hT.fm (fun _=>true) fun t=>V.int (t.1*ctT t k),List.filter_eq_self.mpr (fun _ _=>rfl)]
 have e:(ts.map fun t=>V.int (t.1*ctT t k))=(ts.map fun t=>t.1*ctT t k).map V.int:=by rw[List.map_map];rfl
 rw[e]
 walk_at "rd"
 refine⟨D,_,rfl,SqL.of upd_same,?_⟩
 exact q _ (same_new hD _)
theorem sc_is_term:FnScope ["term"] ["term"] (defScope s_is_term):=⟨rfl,rfl,rfl,by decide +kernel,rfl,by decide +kernel,by decide +kernel⟩
theorem ok_is_term{f:Addr}{fd:FuncData}(F:Fun K "is_term" "is_term" s_is_term f fd){tk_GREATEST_N:Tok}(m_GREATEST_N:mg "GREATEST_N"=some (.int 1000 tk_GREATEST_N)):FnOk P w K mg base CX0 1 f fd ["term"] spIsTerm:=by
 refine F.ok (k:=0) sc_is_term (fun vs H Q E h=>?_) (fun cdv A outer s H vs Q E hr h=>?_)
 ·obtain⟨p,t,rfl,_⟩:=h
  rfl
 obtain⟨p,t,rfl,hp,ok,q⟩:=h
 have n0:=ok.n0
 have n1:=ok.n1
 have a0:=ok.a0
 have a1:=ok.a1
 have sg:=ok.sg
 have b0:=ok.b0
 have b1:=ok.b1
 refine⟨_,(pss_cons (ps_if (PW.pt (pw_and (pt_cmpR op_ne (pe_ix ix_tup (pv 0) pe_int (fun _ _=>rfl)) pe_int (nomark _)) (pw_and1 (pt_cmpR op_ne (pe_ix ix_tup (pv 0) pe_int (fun _ _=>rfl)) (pe_un un_neg pe_int) (nomark _)))))
  (pss_one (ps_ret pe_bl))
  pss_nil)
  (pss_one (ps_ret (pe_and (pe_chain op_le op_le pe_int (pe_ix ix_tup (pv 0) pe_int (fun _ _=>rfl)) (pe_glob rfl m_GREATEST_N (rel_int _ _))) (pe_and (pe_chain op_le op_le pe_int (pe_ix ix_tup (pv 0) pe_int (fun _ _=>rfl)) (pe_ix ix_tup (pv 0) pe_int (fun _ _=>rfl))) (pe_one (pe_chain op_le op_lt pe_int (pe_ix ix_tup (pv 0) pe_int (fun _ _=>rfl)) (pe_ix ix_tup (pv 0) pe_int (fun _ _=>rfl))))))))),?_⟩
 walk_at "rd"
 refine rd_ixT (SqT.of hp) at40 ?_
 walk_at "rd"
 have rest:True:=trivial
 rcases sg with e | e
 ·refine iteNS (congrArg V.int e) (iteF ?_)
  walk_at "rd"
  refine rd_ixT (SqT.of hp) at43 ?_
  walk_at "rd"
  refine iteD n0 ?_
  walk_at "rd"
  rw[decide_eq_true n1]
  refine iteT ?_
  walk_at "rd"
  refine rd_ixT (SqT.of hp) at41 ?_
  walk_at "rd"
  refine iteD a0 ?_
  walk_at "rd"
  refine rd_ixT (SqT.of hp) at43 ?_
  walk_at "rd"
  rw[decide_eq_true a1]
  refine iteT ?_
  walk_at "rd"
  refine rd_ixT (SqT.of hp) at42 ?_
  walk_at "rd"
  refine iteD b0 ?_
  walk_at "rd"
  refine rd_ixT (SqT.of hp) at43 ?_
  walk_at "rd"
  rw[decide_eq_true b1]
  exact q
 ·refine iteNN (fun z=>by have:=V.int.inj z;omega) ?_
  walk_at "rd"
  refine rd_ixT (SqT.of hp) at40 ?_
  walk_at "rd"
  refine iteNS (congrArg V.int e) ?_
  walk_at "rd"
  refine rd_ixT (SqT.of hp) at43 ?_
  walk_at "rd"
  refine iteD n0 ?_
  walk_at "rd"
  rw[decide_eq_true n1]
  refine iteT ?_
  walk_at "rd"
  refine rd_ixT (SqT.of hp) at41 ?_
  walk_at "rd"
  refine iteD a0 ?_
  walk_at "rd"
  refine rd_ixT (SqT.of hp) at43 ?_
  walk_at "rd"
  rw[decide_eq_true a1]
  refine iteT ?_
  walk_at "rd"
  refine rd_ixT (SqT.of hp) at42 ?_
  walk_at "rd"
  refine iteD b0 ?_
  walk_at "rd"
  refine rd_ixT (SqT.of hp) at43 ?_
  walk_at "rd"
  rw[decide_eq_true b1]
  exact q
theorem sc_least_length:FnScope ["base","terms"] ["base","terms"] (defScope s_least_length):=⟨rfl,rfl,rfl,by decide +kernel,rfl,by decide +kernel,by decide +kernel⟩
theorem ok_least_length{f:Addr}{fd:FuncData}(F:Fun K "least_length" "least_length" s_least_length f fd)(z_len:mg "len"=none):FnOk P w K mg base CX0 1 f fd ["base","terms"] (spLeast K):=by
 refine F.ok (k:=0) sc_least_length (fun vs H Q E h=>?_) (fun cdv A outer s H vs Q E hr h=>?_)
 ·obtain⟨p,b,ts,rfl,_⟩:=h
  rfl
 obtain⟨p,b,ts,rfl,T,q⟩:=h
 obtain⟨us,hS,hT⟩:=T.ex
 refine⟨_,(pss_one (ps_ret (pe_op op_sub (pv 0) (pe_callB call_len_seq rfl z_len PySem.boot_len (pa_cons (pe_comp rfl (compOk_nil ["base","terms"] rfl (by decide +kernel) rfl (by decide +kernel) rfl (by decide +kernel) (by decide +kernel)) (pi_tup (pv 1)) (fun _ _ _ _=>(pifs_one (pt_cmpR op_eq (pe_ix ix_tup_c (pv 0) pe_int (fun _ _=>rfl)) (pe_un un_neg pe_int) (nomark _)))) (fun _ _ _ _=>(pv 0))) pa_nil))))),?_⟩
 walk_at "rd"
 refine comp_t rfl hS (by rw[hT.len];exact small1000 (by have:=T.few;omega)) (fun v=>((tmAt H v).map fun t=>decide (t.1= -1)).getD false) (fun v=>v) (fun x hx D ys Q' hD h=>?_) (fun x hx _ D ys Q' hD h=>⟨_,rfl,h⟩) (fun D hD=>?_)
 ·obtain⟨a,t,rfl,ht,ha⟩:=hT.mem hx
  rw[tmAt_eq ha] at h
  walk_at "rd"
  refine rd_ixT (SqT.of (same_new hD _ _ _ ha)) at40 ?_
  walk_at "rd"
  rw[dec_int0]
  exact h
 walk_at "rd"
 refine⟨D,_,rfl,.inl (SqL.of upd_same),?_⟩
 walk_at "rd"
 have e:((us.filter fun v=>((tmAt H v).map fun t=>decide (t.1= -1)).getD false).map fun v=>v).length=(ts.filter fun t=>decide (t.1= -1)).length:=by
  have:=congrArg List.length (hT.fm (fun t=>decide (t.1= -1)) (fun _=>V.non))
  rw[List.length_map,List.length_map] at this
  rw[List.length_map]
  exact this
 rw[e]
 exact q _ (same_new hD _)
theorem sc_refuse_measure:FnScope ["base","terms"] ["base","terms"] (defScope s_refuse_measure):=⟨rfl,rfl,rfl,by decide +kernel,rfl,by decide +kernel,by decide +kernel⟩
theorem ok_refuse_measure{f:Addr}{fd:FuncData}(F:Fun K "refuse_measure" "refuse_measure" s_refuse_measure f fd)(c_is_term:Cal P w K mg base 1 "is_term" ["term"] spIsTerm)(c_least_length:Cal P w K mg base 1 "least_length" ["base","terms"] (spLeast K))(z_len:mg "len"=none)(z_all:mg "all"=none){tk_GREATEST_BASE:Tok}(m_GREATEST_BASE:mg "GREATEST_BASE"=some (.int 20000 tk_GREATEST_BASE)){tk_MOST_TERMS:Tok}(m_MOST_TERMS:mg "MOST_TERMS"=some (.int 6 tk_MOST_TERMS)):FnOk P w K mg base CX0 2 f fd ["base","terms"] (spRefuseM K):=by
 refine F.ok (k:=1) sc_refuse_measure (fun vs H Q E h=>?_) (fun cdv A outer s H vs Q E hr h=>?_)
 ·obtain⟨p,b,ts,rfl,_⟩:=h
  rfl
 obtain⟨p,b,ts,rfl,T,g,q⟩:=h
 obtain⟨us,hS,hT⟩:=T.ex
 have b0:=g.b0
 have b1:=g.b1
 have fl:=g.fl
 have few:=T.few
 refine⟨_,(pss_cons (ps_if (PW.pt (pw_or (pt_cmpR op_lt (pv 0) pe_int (nomark _)) (pw_or1 (pt_cmpR op_gt (pv 0) (pe_glob rfl m_GREATEST_BASE (rel_int _ _)) (nomark _)))))
  (pss_one ps_never)
  pss_nil)
  (pss_cons (ps_if (pt_cmpR op_gt (pe_callB call_len_seq rfl z_len PySem.boot_len (pa_cons (pv 1) pa_nil)) (pe_glob rfl m_MOST_TERMS (rel_int _ _)) (nomark _))
   (pss_one ps_never)
   pss_nil)
  (pss_cons (ps_if (pt_not (pt_val (pe_callB (call_all rfl) rfl z_all PyProof.Rows.boot_all (pa_cons (pe_comp rfl (compOk_nil ["base","terms"] rfl (by decide +kernel) rfl (by decide +kernel) rfl (by decide +kernel) (by decide +kernel)) (pi_tup (pv 1)) (fun _ _ _ _=>pifs_nil) (fun _ _ _ _=>(pe_cal c_is_term (hr.mono (by decide)) rfl (pa_cons (pv 0) pa_nil)))) pa_nil))))
   (pss_one ps_never)
   pss_nil)
  (pss_one (ps_if (pt_cmpR op_lt (pe_cal c_least_length (hr.mono (by decide)) rfl (pa_cons (pv 0) (pa_cons (pv 1) pa_nil))) pe_int (nomark _))
   (pss_one ps_never)
   pss_nil))))),?_⟩
 walk_at "rd"
 refine iteN (by omega) ?_
 walk_at "rd"
 refine iteN (by omega) ?_
 walk_at "rd"
 refine⟨p,us,rfl,.inr hS,?_⟩
 walk_at "rd"
 refine iteN (by rw[hT.len];omega) ?_
 walk_at "rd"
 refine comp_t rfl hS (by rw[hT.len];exact small1000 (by omega)) (fun _=>true) (fun _=>.bl true) (fun x hx D ys Q' hD h=>h) (fun x hx _ D ys Q' hD h=>?_) (fun D hD=>?_)
 ·obtain⟨a,t,rfl,ht,ha⟩:=hT.mem hx
  walk_at "rd"
  exact⟨a,t,rfl,same_new hD _ _ _ ha,T.ok t ht,h⟩
 have s1:=same_new hD (.lst ((us.filter fun _=>true).map fun _=>V.bl true))
 have e:((us.filter fun _=>true).map fun _=>V.bl true)=(us.map fun _=>true).map V.bl:=by
  rw[List.filter_eq_self.mpr (fun _ _=>rfl),List.map_map]
  rfl
 walk_at "rd"
 refine⟨D,us.map (fun _=>true),rfl,SqL.of (by rw[upd_same,e]),?_⟩
 walk_at "rd"
 rw[show ((us.map fun _=>true).all id)=true from List.all_eq_true.mpr (fun x hx=>by obtain⟨_,_,rfl⟩:=List.mem_map.mp hx;rfl)]
 refine iteF ?_
 walk_at "rd"
 refine⟨p,b,ts,rfl,T.same s1,fun H2 s2=>?_⟩
 walk_at "rd"
 refine iteN (by omega) ?_
 walk_at "rd"
 exact q _ (s1.trans s2)
theorem sc_period_of:FnScope ["terms","told","term"] ["terms"] (defScope s_period_of):=⟨rfl,rfl,rfl,by decide +kernel,rfl,by decide +kernel,by decide +kernel⟩
theorem ok_period_of{f:Addr}{fd:FuncData}(F:Fun K "period_of" "period_of" s_period_of f fd)(c_common:CalE P w K mg base 3 "common" ["one","other"] (spCommonE c_NoNumber)):FnOk P w K mg base CX0 4 f fd ["terms"] (spPeriod K):=by
 refine F.ok (k:=3) sc_period_of (fun vs H Q E h=>?_) (fun cdv A outer s H vs Q E hr h=>?_)
 ·obtain⟨p,ts,rfl,_⟩:=h
  rfl
 obtain⟨p,ts,rfl,T,q⟩:=h
 obtain⟨us,hS,hT⟩:=T.ex
 have few:=T.few
 have ulen:=hT.len
 refine⟨_,(pss_cons (ps_set (i:=1) sc_period_of.nd rfl (by first | exact Or.inl rfl | exact Or.inr rfl) pe_int)
  (pss_cons (ps_for PassesOwn.never rfl (pi_tup (pv 0)) (pg_name (i:=2) sc_period_of.nd rfl (by first | exact Or.inl rfl | exact Or.inr rfl))
   (pss_one (ps_set (i:=1) sc_period_of.nd rfl (by first | exact Or.inl rfl | exact Or.inr rfl) (pe_calE thr_never c_common (hr.mono (by decide)) rfl (pa_cons (pv 1) (pa_cons (pe_ix ix_tup (pv 2) pe_int (fun _ _=>rfl)) pa_nil))))))
  (pss_one (ps_ret (pv 1))))),?_⟩
 walk_at "rdx"
 walk_at "rdf"
 walk_at "rdx"
 refine⟨p,rfl,⟨us,hS⟩,for_tup (xs:=us) (fun i σ' H'=>Same H H'∧∃c:Option V,σ'=[some (.ref p),some (.int (PER (ts.take i))),c]) ⟨Same.refl _,none,rfl⟩ ?_ ?_ ?_⟩
 ·rintro i σ' H' _ ⟨s,_⟩
  exact s.tup hS
 ·rintro i x σ' H' hx ⟨s,c,rfl⟩
  obtain⟨a,t,rfl,ht,ha⟩:=hT.at hx
  have i6:i<6:=by
   have:=(List.getElem?_eq_some_iff.mp ht).1
   omega
  obtain⟨h1,h2⟩:=per_pow T.ok i (by omega)
  have h3:=pow6 (show i≤6 by omega)
  have ok:=T.ok t (List.mem_of_getElem? ht)
  have n0:=ok.n0
  have n1:=ok.n1
  walk_at "rdx"
  refine rd_ixT (SqT.of (s _ _ ha)) at43 ?_
  walk_at "rdx"
  refine⟨_,_,rfl,bt_small (by omega) (by omega) (by decide),bt_small (by omega) (by omega) (by decide),fun _ _ H2 s2=>?_,fun z=>absurd (⟨by omega,by omega⟩:(1:Int)≤PER (ts.take i)∧(1:Int)≤t.2.2.2) z⟩
  walk_at "rdx"
  refine⟨s.trans s2,some (.ref a),?_⟩
  have e2:PER (ts.take (i+1))=lcmI (PER (ts.take i)) t.2.2.2:=by
   unfold PER
   rw[List.take_add_one,ht,Option.toList_some,List.foldl_append]
   rfl
  rw[e2]
  rfl
 ·rintro σ' H' ⟨s,c,rfl⟩
  walk_at "rdx"
  rw[ulen,List.take_length]
  exact q _ s
theorem sc_Measure_upto:FnScope ["self","k"] ["self","k"] (defScope s_Measure_upto):=⟨rfl,rfl,rfl,by decide +kernel,rfl,by decide +kernel,by decide +kernel⟩
theorem ok_Measure_upto{f:Addr}{fd:FuncData}(F:Fun K "upto" "Measure.upto" s_Measure_upto f fd)(er:Errs K mg c_FeastError c_NoNumber c_TooLong c_NoMeasure c_NoChange c_NoCycle c_Rule c_Each c_Dated c_Not c_Both c_Either c_But c_Unlike c_Later c_Upon c_Until c_Near c_Till c_Kth c_Every c_Measure c_Calendar c_Sun c_Change)(c_signs_upto:Cal P w K mg base 1 "signs_upto" ["terms","k"] (spSigns K)):FnOk P w K mg base CX0 2 f fd ["self","k"] (spUpto K c_Measure):=by
 refine F.ok (k:=1) sc_Measure_upto (fun vs H Q E h=>?_) (fun cdv A outer s H vs Q E hr h=>?_)
 ·obtain⟨x,p,dx,k,b,ts,fs,rfl,_⟩:=h
  rfl
 obtain⟨x,p,dx,k,b,ts,fs,rfl,hx,fb,ft,T,b0,b1,bk,q⟩:=h
 refine⟨_,(pss_one (ps_ret (pe_op op_add (pe_op op_mulB (pe_fld (pv 0) (by rfl)) (pv 1)) (pe_cal c_signs_upto (hr.mono (by decide)) rfl (pa_cons (pe_fld (pv 0) (by rfl)) (pa_cons (pv 1) pa_nil)))))),?_⟩
 walk_at "rd"
 refine⟨x,c_Measure,dx,fs,_,rfl,hx,er.cl_Measure,er.na_Measure_base,fb,?_⟩
 walk_at "rd"
 refine rd_i ⟨64,400,bt_small (by omega) (by omega) (by decide),bk,by decide⟩ ?_
 walk_at "rd"
 refine⟨x,c_Measure,dx,fs,_,rfl,hx,er.cl_Measure,er.na_Measure_terms,ft,?_⟩
 walk_at "rd"
 refine⟨p,k,ts,rfl,T,bk,fun H' s=>?_⟩
 walk_at "rd"
 exact q _ s
theorem sc_Measure___init__:FnScope ["self","base","terms"] ["self","base","terms"] (defScope s_Measure___init__):=⟨rfl,rfl,rfl,by decide +kernel,rfl,by decide +kernel,by decide +kernel⟩
theorem ok_Measure___init__{f:Addr}{fd:FuncData}{ds:Array Value}(F:FunD K "__init__" "Measure.__init__" s_Measure___init__ f fd ds)(er:Errs K mg c_FeastError c_NoNumber c_TooLong c_NoMeasure c_NoChange c_NoCycle c_Rule c_Each c_Dated c_Not c_Both c_Either c_But c_Unlike c_Later c_Upon c_Until c_Near c_Till c_Kth c_Every c_Measure c_Calendar c_Sun c_Change)(c_refuse_measure:Cal P w K mg base 2 "refuse_measure" ["base","terms"] (spRefuseM K))(c_period_of:Cal P w K mg base 4 "period_of" ["terms"] (spPeriod K))(c_Measure_upto:CalM P w K mg base CX0 2 c_Measure "upto" ["self","k"] (spUpto K c_Measure))(z_tuple:mg "tuple"=none):FnOk P w K mg base CX0 5 f fd ["self","base","terms"] (spInitM K c_Measure):=by
 refine F.ok (k:=4) sc_Measure___init__ (fun vs H Q E h=>?_) (fun cdv A outer s H vs Q E hr h=>?_)
 ·obtain⟨x,dx,b,v,us,ts,rfl,_⟩:=h
  rfl
 obtain⟨x,dx,b,v,us,ts,rfl,hx,hT,hv,ok,few,g,po,q⟩:=h
 refine⟨_,(pss_cons (ps_fld (pv 0) (pv 1) (by rfl))
  (pss_cons (ps_fld (pv 0) (pe_ifExp (pt_cmpR op_isN (pv 2) pe_non (nomark _)) (pe_tup pa_nil) (pe_callTy call_tuple_of rfl z_tuple PyProof.Rows.boot_tuple (pa_cons (pv 2) pa_nil))) (by rfl))
  (pss_cons (ps_expr (pe_cal c_refuse_measure (hr.mono (by decide)) rfl (pa_cons (pe_fld (pv 0) (by rfl)) (pa_cons (pe_fld (pv 0) (by rfl)) pa_nil))))
  (pss_cons (ps_fld (pv 0) (pe_cal c_period_of (hr.mono (by decide)) rfl (pa_cons (pe_fld (pv 0) (by rfl)) pa_nil)) (by rfl))
  (pss_cons (ps_fld (pv 0) (pe_mcal c_Measure_upto er.cl_Measure (hr.mono (by decide)) (pv 0) (pa_cons (pe_fld (pv 0) (by rfl)) pa_nil)) (by rfl))
  (pss_one (ps_if (pt_cmpR op_eq (pe_fld (pv 0) (by rfl)) pe_int (nomark _))
   (pss_one ps_never)
   pss_nil))))))),?_⟩
 walk_at "rdx"
 refine⟨x,c_Measure,dx,[],rfl,hx,er.cl_Measure,er.na_Measure_base,by decide,?_⟩
 have k1:∀y o,y≠x→H y=some o→upd H x (.ins c_Measure dx (putF (Str.ofString "base") (.int b) [])) y=some o:=fun y o hy h=>by rw[upd_ne hy];exact h
 have x1:upd H x (.ins c_Measure dx (putF (Str.ofString "base") (.int b) [])) x=some (.ins c_Measure dx [(Str.ofString "base",.int b)]):=upd_same
 generalize upd H x (.ins c_Measure dx (putF (Str.ofString "base") (.int b) []))=H1 at k1 x1 ⊢
 have tmk:∀{H':Hp},(∀y o,y≠x→H y=some o→H' y=some o)→Tms H' us ts:=fun{H'} k=>by
  have:∀{vs:List V} {ts:List Tm},Tms H vs ts→Tms H' vs ts:=fun{vs ts} h=>by
   induction h with
   | nil=>exact .nil
   | cons h _ ih=>exact .cons (k _ _ (fun e=>by subst e;rw[hx] at h;cases h) h) ih
  exact this hT
 walk_at "rdx"
 rcases hv with ⟨rfl,eu⟩ | ⟨l,rfl,hl⟩
 all_goals refine⟨rfl,?_⟩
 all_goals walk_at "rdx"
 all_goals first | refine iteD rfl ?_ | refine iteN (fun z=>by cases z) ?_
 all_goals walk_at "rdx"
 all_goals first
  | refine⟨l,us,rfl,.inl ⟨SqL.of (k1 _ _ (ne_of hl hx (by intro z;cases z)) hl),fun p hp=>?_⟩⟩
  | (refine ⟨Nat.zero_le _,fun p hp=>?_⟩
     rw[show upd H1 p (.tup [])=upd H1 p (.tup us) by rw[eu]])
 all_goals
  have px:x≠p:=ne_of_none x1 hp
  walk_at "rdx"
  refine⟨x,c_Measure,dx,_,rfl,by rw[upd_ne px];exact x1,er.cl_Measure,er.na_Measure_terms,(by show 1<1000;decide),?_⟩
  have k2:∀y o,y≠x→H1 y=some o→upd (upd H1 p (.tup us)) x (.ins c_Measure dx (putF (Str.ofString "terms") (.ref p) [(Str.ofString "base",.int b)])) y=some o:=fun y o hy h=>by
   rw[upd_ne hy]
   exact same_new hp _ _ _ h
  have x2:upd (upd H1 p (.tup us)) x (.ins c_Measure dx (putF (Str.ofString "terms") (.ref p) [(Str.ofString "base",.int b)])) x=some (.ins c_Measure dx [(Str.ofString "base",.int b),(Str.ofString "terms",.ref p)]):=upd_same
  have p2:upd (upd H1 p (.tup us)) x (.ins c_Measure dx (putF (Str.ofString "terms") (.ref p) [(Str.ofString "base",.int b)])) p=some (.tup us):=by rw[upd_ne (Ne.symm px),upd_same]
  generalize upd (upd H1 p (.tup us)) x (.ins c_Measure dx (putF (Str.ofString "terms") (.ref p) [(Str.ofString "base",.int b)]))=H2 at k2 x2 p2 ⊢
  have k02:∀y o,y≠x→H y=some o→H2 y=some o:=fun y o hy h=>k2 y o hy (k1 y o hy h)
  have T2:TmT K H2 p ts:=⟨⟨us,SqT.of p2,tmk k02⟩,ok,few⟩
  walk_at "rdx"
  refine⟨x,c_Measure,dx,_,_,rfl,x2,er.cl_Measure,er.na_Measure_base,rfl,?_⟩
  walk_at "rdx"
  refine⟨x,c_Measure,dx,_,_,rfl,x2,er.cl_Measure,er.na_Measure_terms,rfl,?_⟩
  walk_at "rdx"
  refine⟨p,b,ts,rfl,T2,g,fun H3 s3=>?_⟩
  have x3:=s3 _ _ x2
  walk_at "rdx"
  refine⟨x,c_Measure,dx,_,_,rfl,x3,er.cl_Measure,er.na_Measure_terms,rfl,?_⟩
  walk_at "rdx"
  refine⟨p,ts,rfl,T2.same s3,fun H4 s4=>?_⟩
  have x4:=s4 _ _ x3
  have p4:=(s3.trans s4) _ _ p2
  walk_at "rdx"
  refine⟨x,c_Measure,dx,_,rfl,x4,er.cl_Measure,er.na_Measure_full_count,(by show 2<1000;decide),?_⟩
  have pne:p≠x:=Ne.symm px
  have k5:∀y o,y≠x→H4 y=some o→upd H4 x (.ins c_Measure dx (putF (Str.ofString "full_count") (.int (PER ts)) [(Str.ofString "base",.int b),(Str.ofString "terms",.ref p)])) y=some o:=fun y o hy h=>by rw[upd_ne hy];exact h
  have x5:upd H4 x (.ins c_Measure dx (putF (Str.ofString "full_count") (.int (PER ts)) [(Str.ofString "base",.int b),(Str.ofString "terms",.ref p)])) x=some (.ins c_Measure dx [(Str.ofString "base",.int b),(Str.ofString "terms",.ref p),(Str.ofString "full_count",.int (PER ts))]):=upd_same
  generalize upd H4 x (.ins c_Measure dx (putF (Str.ofString "full_count") (.int (PER ts)) [(Str.ofString "base",.int b),(Str.ofString "terms",.ref p)]))=H5 at k5 x5 ⊢
  have k05:∀y o,y≠x→H y=some o→H5 y=some o:=fun y o hy h=>k5 y o hy ((s3.trans s4) _ _ (k02 y o hy h))
  have T5:TmT K H5 p ts:=⟨⟨us,SqT.of (k5 _ _ pne p4),tmk k05⟩,ok,few⟩
  obtain⟨h1,h2⟩:=per_pow ok 6 (by decide)
  rw[List.take_of_length_le few] at h1 h2
  have h3:=pow6 (show 6≤6 by decide)
  walk_at "rdx"
  refine⟨x,dx,_,rfl,x5,rfl,?_⟩
  walk_at "rdx"
  refine⟨x,c_Measure,dx,_,_,rfl,x5,er.cl_Measure,er.na_Measure_full_count,rfl,?_⟩
  walk_at "rdx"
  refine⟨x,p,dx,PER ts,b,ts,_,rfl,x5,rfl,rfl,T5,g.b0,g.b1,bt_small (by omega) (by omega) (by decide),fun H6 s6=>?_⟩
  have x6:=s6 _ _ x5
  walk_at "rdx"
  refine⟨x,c_Measure,dx,_,rfl,x6,er.cl_Measure,er.na_Measure_full_sum,(by show 3<1000;decide),?_⟩
  have k7:∀y o,y≠x→H6 y=some o→upd H6 x (.ins c_Measure dx (putF (Str.ofString "full_sum") (.int (UP b ts (PER ts))) [(Str.ofString "base",.int b),(Str.ofString "terms",.ref p),(Str.ofString "full_count",.int (PER ts))])) y=some o:=fun y o hy h=>by rw[upd_ne hy];exact h
  have x7:upd H6 x (.ins c_Measure dx (putF (Str.ofString "full_sum") (.int (UP b ts (PER ts))) [(Str.ofString "base",.int b),(Str.ofString "terms",.ref p),(Str.ofString "full_count",.int (PER ts))])) x=some (.ins c_Measure dx (mF b p (PER ts) (UP b ts (PER ts)))):=upd_same
  generalize upd H6 x (.ins c_Measure dx (putF (Str.ofString "full_sum") (.int (UP b ts (PER ts))) [(Str.ofString "base",.int b),(Str.ofString "terms",.ref p),(Str.ofString "full_count",.int (PER ts))]))=H7 at k7 x7 ⊢
  have k07:∀y o,y≠x→H y=some o→H7 y=some o:=fun y o hy h=>k7 y o hy (s6 _ _ (k05 y o hy h))
  walk_at "rdx"
  refine⟨x,c_Measure,dx,_,_,rfl,x7,er.cl_Measure,er.na_Measure_full_sum,rfl,?_⟩
  walk_at "rdx"
  refine iteN (fun z=>by have:=V.int.inj z;omega) ?_
  walk_at "rdx"
  refine q _ k07 ⟨⟨dx,p,x7,⟨us,SqT.of (k7 _ _ pne (s6 _ _ (k5 _ _ pne p4))),tmk k07⟩,ok,few⟩,g,po⟩
theorem sc_Measure_at:FnScope ["self","k"] ["self","k"] (defScope s_Measure_at):=⟨rfl,rfl,rfl,by decide +kernel,rfl,by decide +kernel,by decide +kernel⟩
theorem ok_Measure_at{f:Addr}{fd:FuncData}(F:Fun K "at" "Measure.at" s_Measure_at f fd)(er:Errs K mg c_FeastError c_NoNumber c_TooLong c_NoMeasure c_NoChange c_NoCycle c_Rule c_Each c_Dated c_Not c_Both c_Either c_But c_Unlike c_Later c_Upon c_Until c_Near c_Till c_Kth c_Every c_Measure c_Calendar c_Sun c_Change)(c_term_on:Cal P w K mg base 1 "term_on" ["term","k"] spTermOn)(z_sum:mg "sum"=none):FnOk P w K mg base CX0 2 f fd ["self","k"] (spAt K c_Measure):=by
 refine F.ok (k:=1) sc_Measure_at (fun vs H Q E h=>?_) (fun cdv A outer s H vs Q E hr h=>?_)
 ·obtain⟨x,k,b,ts,rfl,_⟩:=h
  rfl
 obtain⟨x,k,b,ts,rfl,M,bk,q⟩:=h
 obtain⟨dx,p,hx,T⟩:=M.ex
 obtain⟨us,hS,hT⟩:=T.ex
 refine⟨_,(pss_one (ps_ret (pe_op op_add (pe_fld (pv 0) (by rfl)) (pe_callB (call_sum rfl) rfl z_sum PyProof.Rows.boot_sum (pa_cons (pe_comp rfl (compOk_freeM ["self","k"] ["self","k"] rfl rfl (by with_unfolding_all rfl) (by decide +kernel) rfl (by decide +kernel) rfl (by decide +kernel) (by walk_at "fm") (by with_unfolding_all rfl) (by with_unfolding_all rfl)) (pi_tup (pe_fld (pv 0) (by rfl))) (fun _ _ _ _=>(pifs_one (pt_val (pe_cal c_term_on (hr.mono (by decide)) rfl (pa_cons (pv 0) (pa_cons (pv 2) pa_nil)))))) (fun _ _ _ _=>(pe_ix ix_tup_c (pv 0) pe_int (fun _ _=>rfl)))) pa_nil))))),?_⟩
 walk_at "rdx"
 refine⟨x,c_Measure,dx,_,_,rfl,hx,er.cl_Measure,er.na_Measure_base,rfl,?_⟩
 walk_at "rdx"
 refine rd_comp (rd_iT ?_)
 walk_at "rdx"
 refine⟨x,c_Measure,dx,_,_,rfl,hx,er.cl_Measure,er.na_Measure_terms,rfl,?_⟩
 refine⟨p,rfl,⟨_,hS⟩,comp_go walk_t (by rw[hT.len];exact small1000 (by have:=T.few;omega)) (fun D ys hD=>(same_new hD _).tup hS) (fun v=>((tmAt H v).map fun t=>onT t k).getD false) (fun v=>((tmAt H v).map fun t=>V.int t.1).getD .non) (fun y hy D ys Q' hD h=>?_) (fun y hy _ D ys Q' hD h=>?_) (fun D hD=>?_)⟩
 ·obtain⟨a,t,rfl,ht,ha⟩:=hT.mem hy
  rw[tmAt_eq ha] at h
  walk_at "rdx"
  exact⟨a,k,t,rfl,same_new hD _ _ _ ha,T.ok t ht,bk,⟨_,rfl,h⟩⟩
 ·obtain⟨a,t,rfl,ht,ha⟩:=hT.mem hy
  rw[tmAt_eq ha] at h
  walk_at "rdx"
  refine rd_ixT (SqT.of (same_new hD _ _ _ ha)) at40 ?_
  exact h
 rw[hT.fm (fun t=>onT t k) fun t=>V.int t.1]
 have e:((ts.filter fun t=>onT t k).map fun t=>V.int t.1)=((ts.filter fun t=>onT t k).map fun t=>t.1).map V.int:=by rw[List.map_map];rfl
 rw[e]
 walk_at "rdx"
 refine⟨D,_,rfl,SqL.of upd_same,?_⟩
 walk_at "rdx"
 exact q _ (same_new hD _)
theorem sc_Measure_period:FnScope ["self"] ["self"] (defScope s_Measure_period):=⟨rfl,rfl,rfl,by decide +kernel,rfl,by decide +kernel,by decide +kernel⟩
theorem ok_Measure_period{f:Addr}{fd:FuncData}(F:Fun K "period" "Measure.period" s_Measure_period f fd)(er:Errs K mg c_FeastError c_NoNumber c_TooLong c_NoMeasure c_NoChange c_NoCycle c_Rule c_Each c_Dated c_Not c_Both c_Either c_But c_Unlike c_Later c_Upon c_Until c_Near c_Till c_Kth c_Every c_Measure c_Calendar c_Sun c_Change):FnOk P w K mg base CX0 1 f fd ["self"] (spPer K c_Measure):=by
 refine F.ok (k:=0) sc_Measure_period (fun vs H Q E h=>?_) (fun cdv A outer s H vs Q E hr h=>?_)
 ·obtain⟨x,b,ts,rfl,_⟩:=h
  rfl
 obtain⟨x,b,ts,rfl,M,q⟩:=h
 obtain⟨dx,p,hx,T⟩:=M.ex
 refine⟨_,(pss_one (ps_ret (pe_fld (pv 0) (by rfl)))),?_⟩
 walk_at "rdx"
 refine⟨x,c_Measure,dx,_,_,rfl,hx,er.cl_Measure,er.na_Measure_full_count,rfl,?_⟩
 exact q
theorem sc_Measure_seek:FnScope ["self","total","rest","low","high","middle"] ["self","total"] (defScope s_Measure_seek):=⟨rfl,rfl,rfl,by decide +kernel,rfl,by decide +kernel,by decide +kernel⟩
theorem ok_Measure_seek{f:Addr}{fd:FuncData}(F:Fun K "seek" "Measure.seek" s_Measure_seek f fd)(er:Errs K mg c_FeastError c_NoNumber c_TooLong c_NoMeasure c_NoChange c_NoCycle c_Rule c_Each c_Dated c_Not c_Both c_Either c_But c_Unlike c_Later c_Upon c_Until c_Near c_Till c_Kth c_Every c_Measure c_Calendar c_Sun c_Change)(c_Measure_upto:CalM P w K mg base CX0 2 c_Measure "upto" ["self","k"] (spUpto K c_Measure)):FnOk P w K mg base CX0 3 f fd ["self","total"] (spSeek K c_Measure):=by
 refine F.ok (k:=2) sc_Measure_seek (fun vs H Q E h=>?_) (fun cdv A outer s H vs Q E hr h=>?_)
 ·obtain⟨x,n,b,ts,rfl,_⟩:=h
  rfl
 obtain⟨x,n,b,ts,rfl,M,bn,q⟩:=h
 obtain⟨dx,p,hx,T⟩:=M.ex
 have po:=M.po
 have g:=M.gd
 have hb0:=g.b0
 have hb1:=g.b1
 have up:=UP_step (base:=b) T.ok
 have mono:=fun{j k:Int} (h:j≤k)=>UP_mono T.ok g.fl h
 have per:=UP_per (base:=b) T.ok (P:=PER ts) (fun t ht=>by
  have:=per_dvd T.ok 6 (by decide)
  rw[List.take_of_length_le T.few] at this
  exact this t ht)
 obtain⟨h1,h2⟩:=per_pow T.ok 6 (by decide)
 rw[List.take_of_length_le T.few] at h1 h2
 have h3:=pow6 (show 6≤6 by decide)
 have uz:=UP_zero (base:=b) T.ok
 have sl:=SU_le T.ok (Int.le_of_lt h1)
 have ln:(ts.length:Int)*PER ts≤6*PER ts:=Int.mul_le_mul_of_nonneg_right (by have:=T.few;omega) (Int.le_of_lt h1)
 have bm:b*PER ts≤20000*PER ts:=Int.mul_le_mul_of_nonneg_right hb1 (Int.le_of_lt h1)
 have us:UP b ts (PER ts)=b*PER ts+SU ts (PER ts):=rfl
 have bS:Bt 500 (UP b ts (PER ts)):=(bt_of (by omega) (by omega)).mono (by decide)
 clear us bm ln sl
 generalize hP:PER ts=P at*
 generalize hS:UP b ts P=S at*
 have m0:=Int.emod_nonneg n (show S≠0 by omega)
 have m1:=Int.emod_lt_of_pos n po
 have md:=Int.mul_ediv_add_emod n S
 refine⟨_,(pss_cons (ps_set (i:=2) sc_Measure_seek.nd rfl (by first | exact Or.inl rfl | exact Or.inr rfl) (pe_op op_mod (pv 1) (pe_fld (pv 0) (by rfl))))
  (pss_cons (ps_set (i:=3) sc_Measure_seek.nd rfl (by first | exact Or.inl rfl | exact Or.inr rfl) pe_int)
  (pss_cons (ps_set (i:=4) sc_Measure_seek.nd rfl (by first | exact Or.inl rfl | exact Or.inr rfl) (pe_fld (pv 0) (by rfl)))
  (pss_cons (ps_while PassesOwn.never (pt_cmpR op_gt (pe_op op_sub (pv 4) (pv 3)) pe_int (nomark _))
   (pss_cons (ps_set (i:=5) sc_Measure_seek.nd rfl (by first | exact Or.inl rfl | exact Or.inr rfl) (pe_op op_fdivB (pe_op op_add (pv 3) (pv 4)) pe_int))
  (pss_one (ps_cut (ps_if (pt_cmpR op_le (pe_mcal c_Measure_upto er.cl_Measure (hr.mono (by decide)) (pv 0) (pa_cons (pv 5) pa_nil)) (pv 2) (nomark _))
   (pss_one (ps_set (i:=3) sc_Measure_seek.nd rfl (by first | exact Or.inl rfl | exact Or.inr rfl) (pv 5)))
   (pss_one (ps_set (i:=4) sc_Measure_seek.nd rfl (by first | exact Or.inl rfl | exact Or.inr rfl) (pv 5))))))))
  (pss_one (ps_ret (pe_op op_add (pe_op op_mulB (pe_op op_fdivB (pv 1) (pe_fld (pv 0) (by rfl))) (pe_fld (pv 0) (by rfl))) (pv 3)))))))),?_⟩
 walk_at "rdx"
 refine⟨x,c_Measure,dx,_,_,rfl,hx,er.cl_Measure,er.na_Measure_full_sum,rfl,?_⟩
 walk_at "rdx"
 refine⟨x,c_Measure,dx,_,_,rfl,hx,er.cl_Measure,er.na_Measure_full_count,rfl,?_⟩
 walk_at "rdx"
 refine⟨fun m σ' H'=>Same H H'∧∃(lo hi:Int) (c:Option V),σ'=[some (.ref x),some (.int n),some (.int (n%S)),some (.int lo),some (.int hi),c]∧0≤lo∧lo<hi∧hi≤P∧UP b ts lo≤n%S∧n%S<UP b ts hi∧m=(hi-lo).toNat,
  ⟨_,Same.refl _,0,P,none,rfl,by decide,h1,Int.le_refl _,by rw[uz];exact m0,by rw[hS];exact m1,rfl⟩,?_⟩
 rintro m σ' H1 ⟨s1,lo,hi,c,rfl,l0,lh,hP',u1,u2,rfl⟩
 walk_at "rdx"
 refine ite2d (fun cc=>?_) (fun cc=>?_)
 ·refine⟨_,fun σ' H' hh=>hh,?_⟩
  walk_at "rdx"
  generalize hm:(lo+hi)/2=mi
  refine rd_cut (fun σ' H'=>∃i,i<(hi-lo).toNat∧Same H H'∧∃(lo hi:Int) (c:Option V),σ'=[some (.ref x),some (.int n),some (.int (n%S)),some (.int lo),some (.int hi),c]∧0≤lo∧lo<hi∧hi≤P∧UP b ts lo≤n%S∧n%S<UP b ts hi∧i=(hi-lo).toNat) ?_ (fun _ _ h=>h)
  walk_at "rdx"
  refine⟨x,dx,_,rfl,s1 _ _ hx,rfl,?_⟩
  walk_at "rdx"
  refine⟨x,p,dx,mi,b,ts,_,rfl,s1 _ _ hx,rfl,rfl,T.same s1,hb0,hb1,bt_small (by omega) (by omega) (by decide),fun H2 s2=>?_⟩
  walk_at "rdx"
  refine ite2d (fun c2=>?_) (fun c2=>?_)
  ·walk_at "rdx"
   exact⟨(hi-mi).toNat,by omega,s1.trans s2,mi,hi,_,rfl,by omega,by omega,hP',c2,u2,rfl⟩
  ·walk_at "rdx"
   exact⟨(mi-lo).toNat,by omega,s1.trans s2,lo,mi,_,rfl,l0,by omega,by omega,u1,by omega,rfl⟩
 ·have e:hi=lo+1:=by omega
  subst e
  walk_at "rdx"
  refine⟨x,c_Measure,dx,_,_,rfl,s1 _ _ hx,er.cl_Measure,er.na_Measure_full_sum,rfl,?_⟩
  walk_at "rdx"
  refine rd_i ⟨po,bS.mono (by decide)⟩ ?_
  walk_at "rdx"
  refine⟨x,c_Measure,dx,_,_,rfl,s1 _ _ hx,er.cl_Measure,er.na_Measure_full_count,rfl,?_⟩
  have bP:Bt 64 P:=bt_small (by omega) (by omega) (by decide)
  refine rd_i ⟨300,64,bt_div bn po,bP,by decide⟩ ?_
  walk_at "rdx"
  have e:=per lo (n/S)
  have e':=per (lo+1) (n/S)
  rw[show n/S*P+lo=lo+P*(n/S) by rw[Int.mul_comm];omega]
  refine q _ _ s1 ?_ ?_ ?_
  ·rw[e,Int.mul_comm (n/S) S]
   omega
  ·rw[show lo+P*(n/S)+1=lo+1+P*(n/S) by omega,e',Int.mul_comm (n/S) S]
   omega
  ·have:=(bP.mul (bt_div bn po)).add ((show Bt 64 lo from bt_small (by omega) (by omega) (by decide)).mono (show 64≤64+300 by decide))
   rw[Int.add_comm]
   exact this.mono (by decide)
theorem sc_refuse_months:FnScope ["lengths","leap"] ["lengths","leap"] (defScope s_refuse_months):=⟨rfl,rfl,rfl,by decide +kernel,rfl,by decide +kernel,by decide +kernel⟩
theorem ok_refuse_months{f:Addr}{fd:FuncData}(F:Fun K "refuse_months" "refuse_months" s_refuse_months f fd)(z_len:mg "len"=none)(z_min:mg "min"=none)(z_max:mg "max"=none){tk_MOST_MONTHS:Tok}(m_MOST_MONTHS:mg "MOST_MONTHS"=some (.int 20 tk_MOST_MONTHS)){tk_LONGEST_MONTH:Tok}(m_LONGEST_MONTH:mg "LONGEST_MONTH"=some (.int 1000 tk_LONGEST_MONTH)):FnOk P w K mg base CX0 1 f fd ["lengths","leap"] (spRefMo K):=by
 refine F.ok (k:=0) sc_refuse_months (fun vs H Q E h=>?_) (fun cdv A outer s H vs Q E hr h=>?_)
 ·obtain⟨l,lp,ls,ts,rfl,_⟩:=h
  rfl
 obtain⟨l,lp,ls,ts,rfl,hS,g,q⟩:=h
 have l0:=g.l0
 have l1:=g.l1
 have p0:=g.p0
 have p1:=g.p1
 have ne:ls≠[]:=fun z=>by rw[z] at l0;simp at l0
 refine⟨_,(pss_cons (ps_if (PW.pt (pw_or (pt_cmpR op_lt (pe_callB call_len_seq rfl z_len PySem.boot_len (pa_cons (pv 0) pa_nil)) pe_int (nomark _)) (pw_or1 (pt_cmpR op_gt (pe_callB call_len_seq rfl z_len PySem.boot_len (pa_cons (pv 0) pa_nil)) (pe_glob rfl m_MOST_MONTHS (rel_int _ _)) (nomark _)))))
  (pss_one ps_never)
  pss_nil)
  (pss_cons (ps_if (PW.pt (pw_or (pt_cmpR op_lt (pe_callB (call_minL rfl) rfl z_min PyProof.Rows.boot_min (pa_cons (pv 0) pa_nil)) pe_int (nomark _)) (pw_or1 (pt_cmpR op_gt (pe_callB (call_maxL rfl) rfl z_max PyProof.Rows.boot_max (pa_cons (pv 0) pa_nil)) (pe_glob rfl m_LONGEST_MONTH (rel_int _ _)) (nomark _)))))
   (pss_one ps_never)
   pss_nil)
  (pss_one (ps_if (PW.pt (pw_or (pt_cmpR op_lt (pv 1) pe_int (nomark _)) (pw_or1 (pt_cmpR op_gt (pv 1) (pe_callB call_len_seq rfl z_len PySem.boot_len (pa_cons (pv 0) pa_nil)) (nomark _)))))
   (pss_one ps_never)
   pss_nil)))),?_⟩
 walk_at "rdx"
 refine⟨l,_,rfl,.inl hS,?_⟩
 rw[List.length_map]
 walk_at "rdx"
 refine iteN (by omega) ?_
 walk_at "rdx"
 refine⟨l,_,rfl,.inl hS,?_⟩
 rw[List.length_map]
 walk_at "rdx"
 refine iteN (by omega) ?_
 walk_at "rdx"
 refine⟨l,ls,rfl,hS,ne,fun m hm _=>?_⟩
 have:=g.m m hm
 walk_at "rdx"
 refine iteN (by omega) ?_
 walk_at "rdx"
 refine⟨l,ls,rfl,hS,ne,fun m hm _=>?_⟩
 have:=g.m m hm
 walk_at "rdx"
 refine iteN (by omega) ?_
 walk_at "rdx"
 refine iteN (by omega) ?_
 walk_at "rdx"
 refine⟨l,_,rfl,.inl hS,?_⟩
 rw[List.length_map]
 walk_at "rdx"
 refine iteN (by omega) ?_
 walk_at "rdx"
 exact q
theorem sc_Sun___init__:FnScope ["self","start","lengths","leap","terms"] ["self","start","lengths","leap","terms"] (defScope s_Sun___init__):=⟨rfl,rfl,rfl,by decide +kernel,rfl,by decide +kernel,by decide +kernel⟩
theorem ok_Sun___init__{f:Addr}{fd:FuncData}{ds:Array Value}(F:FunD K "__init__" "Sun.__init__" s_Sun___init__ f fd ds)(er:Errs K mg c_FeastError c_NoNumber c_TooLong c_NoMeasure c_NoChange c_NoCycle c_Rule c_Each c_Dated c_Not c_Both c_Either c_But c_Unlike c_Later c_Upon c_Until c_Near c_Till c_Kth c_Every c_Measure c_Calendar c_Sun c_Change)(c_refuse_months:Cal P w K mg base 1 "refuse_months" ["lengths","leap"] (spRefMo K))(c_Measure___init__:CalI P w K mg base CX0 5 "Measure" c_Measure ["self","base","terms"] (spInitM K c_Measure))(c_least_length:Cal P w K mg base 1 "least_length" ["base","terms"] (spLeast K))(z_tuple:mg "tuple"=none)(z_sum:mg "sum"=none):FnOk P w K mg base CX0 7 f fd ["self","start","lengths","leap","terms"] (spInitS K c_Sun c_Measure):=by
 refine F.ok (k:=6) sc_Sun___init__ (fun vs H Q E h=>?_) (fun cdv A outer s H vs Q E hr h=>?_)
 ·obtain⟨x,dx,ll,s,lp,v,us,ls,ts,rfl,_⟩:=h
  rfl
 obtain⟨x,dx,ll,s,lp,v,us,ls,ts,rfl,hx,hl,hT,hv,g,bs,q⟩:=h
 have lx:ll≠x:=ne_of hl hx (by intro z;cases z)
 have l0:=g.l0
 have l1:=g.l1
 have p0:=g.p0
 have p1:=g.p1
 have f0:=g.f0
 have f1:=g.f1
 refine⟨_,(pss_cons (ps_expr (pe_cal c_refuse_months (hr.mono (by decide)) rfl (pa_cons (pv 2) (pa_cons (pv 3) pa_nil))))
  (pss_cons (ps_fld (pv 0) (pv 1) (by rfl))
  (pss_cons (ps_fld (pv 0) (pe_callTy call_tuple_of rfl z_tuple PyProof.Rows.boot_tuple (pa_cons (pv 2) pa_nil)) (by rfl))
  (pss_cons (ps_fld (pv 0) (pv 3) (by rfl))
  (pss_cons (ps_fld (pv 0) (pe_mk c_Measure___init__ (hr.mono (by decide)) rfl (pa_cons (pe_callB (call_sum rfl) rfl z_sum PyProof.Rows.boot_sum (pa_cons (pv 2) pa_nil)) (pa_cons (pv 4) pa_nil))) (by rfl))
  (pss_cons (ps_if (pt_cmpR op_lt (pe_cal c_least_length (hr.mono (by decide)) rfl (pa_cons (pe_ix ix_list (pv 2) (pe_op op_sub (pv 3) pe_int) (fun _ _=>rfl)) (pa_cons (pe_fld (pe_fld (pv 0) (by rfl)) (by rfl)) pa_nil))) pe_int (nomark _))
   (pss_one ps_never)
   pss_nil)
  (pss_one (ps_if (pt_cmpR op_lt (pe_cal c_least_length (hr.mono (by decide)) rfl (pa_cons (pe_fld (pe_fld (pv 0) (by rfl)) (by rfl)) (pa_cons (pe_fld (pe_fld (pv 0) (by rfl)) (by rfl)) pa_nil))) pe_int (nomark _))
   (pss_one ps_never)
   pss_nil)))))))),?_⟩
 walk_at "rdx"
 refine⟨ll,lp,ls,ts,rfl,SqL.of hl,g,?_⟩
 walk_at "rdx"
 refine⟨x,c_Sun,dx,[],rfl,hx,er.cl_Sun,er.na_Sun_start,by decide,?_⟩
 have k1:But x H (upd H x (.ins c_Sun dx (putF (Str.ofString "start") (.int s) []))):=But.upd
 have x1:upd H x (.ins c_Sun dx (putF (Str.ofString "start") (.int s) [])) x=some (.ins c_Sun dx [(Str.ofString "start",.int s)]):=upd_same
 generalize upd H x (.ins c_Sun dx (putF (Str.ofString "start") (.int s) []))=H1 at k1 x1 ⊢
 walk_at "rdx"
 refine⟨ll,_,rfl,.inl ⟨SqL.of (k1 _ _ lx hl),fun p hp=>?_⟩⟩
 have px:x≠p:=ne_of_none x1 hp
 walk_at "rdx"
 refine⟨x,c_Sun,dx,_,rfl,by rw[upd_ne px];exact x1,er.cl_Sun,er.na_Sun_months,(by show 1<1000;decide),?_⟩
 have k2:But x H1 (upd (upd H1 p (.tup (ls.map V.int))) x (.ins c_Sun dx (putF (Str.ofString "months") (.ref p) [(Str.ofString "start",.int s)]))):=fun y o hy h=>by
  rw[upd_ne hy]
  exact same_new hp _ _ _ h
 have x2:upd (upd H1 p (.tup (ls.map V.int))) x (.ins c_Sun dx (putF (Str.ofString "months") (.ref p) [(Str.ofString "start",.int s)])) x=some (.ins c_Sun dx [(Str.ofString "start",.int s),(Str.ofString "months",.ref p)]):=upd_same
 have t2:upd (upd H1 p (.tup (ls.map V.int))) x (.ins c_Sun dx (putF (Str.ofString "months") (.ref p) [(Str.ofString "start",.int s)])) p=some (.tup (ls.map V.int)):=by rw[upd_ne (Ne.symm px),upd_same]
 generalize upd (upd H1 p (.tup (ls.map V.int))) x (.ins c_Sun dx (putF (Str.ofString "months") (.ref p) [(Str.ofString "start",.int s)]))=H2 at k2 x2 t2 ⊢
 walk_at "rdx"
 refine⟨x,c_Sun,dx,_,rfl,x2,er.cl_Sun,er.na_Sun_leap,(by show 2<1000;decide),?_⟩
 have k3:But x H2 (upd H2 x (.ins c_Sun dx (putF (Str.ofString "leap") (.int lp) [(Str.ofString "start",.int s),(Str.ofString "months",.ref p)]))):=But.upd
 have x3:upd H2 x (.ins c_Sun dx (putF (Str.ofString "leap") (.int lp) [(Str.ofString "start",.int s),(Str.ofString "months",.ref p)])) x=some (.ins c_Sun dx [(Str.ofString "start",.int s),(Str.ofString "months",.ref p),(Str.ofString "leap",.int lp)]):=upd_same
 generalize upd H2 x (.ins c_Sun dx (putF (Str.ofString "leap") (.int lp) [(Str.ofString "start",.int s),(Str.ofString "months",.ref p)]))=H3 at k3 x3 ⊢
 have k03:But x H H3:=fun y o hy h=>k3 y o hy (k2 y o hy (k1 y o hy h))
 have l3:=k03 _ _ lx hl
 have t3:=k3 _ _ (Ne.symm px) t2
 walk_at "rdx"
 refine⟨ll,ls,rfl,SqL.of l3,?_⟩
 walk_at "rdx"
 refine fun y dy hy hdy ne=>init_me hy hdy ne (hT.but hx .ins k03) ?_ g.ok g.few g.gm g.po fun H4 s4 M4=>⟨rfl,?_⟩
 ·rcases hv with z | ⟨l,z,e⟩
  ·exact .inl z
  ·exact .inr ⟨l,z,k03 _ _ (ne_of e hx (by intro z;cases z)) e⟩
 have x4:=s4 _ _ x3
 have yx:y≠x:=fun e=>by subst e;rw[x3] at hy;cases hy
 walk_at "rdx"
 refine⟨x,c_Sun,dx,_,rfl,x4,er.cl_Sun,er.na_Sun_years,(by show 3<1000;decide),?_⟩
 have k5:But x H4 (upd H4 x (.ins c_Sun dx (putF (Str.ofString "years") (.ref y) [(Str.ofString "start",.int s),(Str.ofString "months",.ref p),(Str.ofString "leap",.int lp)]))):=But.upd
 have x5:upd H4 x (.ins c_Sun dx (putF (Str.ofString "years") (.ref y) [(Str.ofString "start",.int s),(Str.ofString "months",.ref p),(Str.ofString "leap",.int lp)])) x=some (.ins c_Sun dx (sF s lp p y)):=upd_same
 generalize upd H4 x (.ins c_Sun dx (putF (Str.ofString "years") (.ref y) [(Str.ofString "start",.int s),(Str.ofString "months",.ref p),(Str.ofString "leap",.int lp)]))=H5 at k5 x5 ⊢
 have M5:=M4.butX x4 .ins yx k5
 have t5:=k5 _ _ (Ne.symm px) (s4 _ _ t3)
 have l5:=k5 _ _ lx (s4 _ _ l3)
 have k05:∀y o,y≠x→H y=some o→H5 y=some o:=fun y o hy h=>k5 y o hy (s4 _ _ (k03 y o hy h))
 obtain⟨d5,tp,e5,T5⟩:=M5.ex
 have elp:lp-1=(((lp-1).toNat:Nat):Int):=by omega
 have hat:atI (ls.map V.int) (lp-1)=some (V.int (ls.getD (lp-1).toNat 0)):=by
  conv=>lhs;rw[elp]
  refine atI_nat ?_
  rw[List.getElem?_map,List.getD_eq_getElem?_getD,List.getElem?_eq_getElem (by omega)]
  rfl
 walk_at "rdx"
 refine rd_ixL (SqL.of l5) hat ?_
 walk_at "rdx"
 refine⟨x,c_Sun,dx,_,_,rfl,x5,er.cl_Sun,er.na_Sun_years,rfl,?_⟩
 walk_at "rdx"
 refine⟨y,c_Measure,d5,_,_,rfl,e5,er.cl_Measure,er.na_Measure_terms,rfl,?_⟩
 walk_at "rdx"
 refine⟨tp,_,ts,rfl,T5,fun H6 s6=>?_⟩
 walk_at "rdx"
 refine iteN (by omega) ?_
 walk_at "rdx"
 have x6:=s6 _ _ x5
 have e6:=s6 _ _ e5
 refine⟨x,c_Sun,dx,_,_,rfl,x6,er.cl_Sun,er.na_Sun_years,rfl,?_⟩
 walk_at "rdx"
 refine⟨y,c_Measure,d5,_,_,rfl,e6,er.cl_Measure,er.na_Measure_base,rfl,?_⟩
 walk_at "rdx"
 refine⟨x,c_Sun,dx,_,_,rfl,x6,er.cl_Sun,er.na_Sun_years,rfl,?_⟩
 walk_at "rdx"
 refine⟨y,c_Measure,d5,_,_,rfl,e6,er.cl_Measure,er.na_Measure_terms,rfl,?_⟩
 walk_at "rdx"
 refine⟨tp,_,ts,rfl,T5.same s6,fun H7 s7=>?_⟩
 walk_at "rdx"
 refine iteN (by omega) ?_
 walk_at "rdx"
 refine q _ (fun y o hy h=>s7 _ _ (s6 _ _ (k05 y o hy h))) ⟨⟨dx,p,y,s7 _ _ x6,SqT.of (s7 _ _ (s6 _ _ t5)),(M5.same s6).same s7⟩,g,bs⟩
theorem sc_Sun_year_start:FnScope ["self","year"] ["self","year"] (defScope s_Sun_year_start):=⟨rfl,rfl,rfl,by decide +kernel,rfl,by decide +kernel,by decide +kernel⟩
theorem ok_Sun_year_start{f:Addr}{fd:FuncData}(F:Fun K "year_start" "Sun.year_start" s_Sun_year_start f fd)(er:Errs K mg c_FeastError c_NoNumber c_TooLong c_NoMeasure c_NoChange c_NoCycle c_Rule c_Each c_Dated c_Not c_Both c_Either c_But c_Unlike c_Later c_Upon c_Until c_Near c_Till c_Kth c_Every c_Measure c_Calendar c_Sun c_Change)(c_Measure_upto:CalM P w K mg base CX0 2 c_Measure "upto" ["self","k"] (spUpto K c_Measure)):FnOk P w K mg base CX0 3 f fd ["self","year"] (spYS K c_Sun c_Measure):=by
 refine F.ok (k:=2) sc_Sun_year_start (fun vs H Q E h=>?_) (fun cdv A outer s H vs Q E hr h=>?_)
 ·obtain⟨x,n,s,ls,lp,ts,rfl,_⟩:=h
  rfl
 obtain⟨x,n,s,ls,lp,ts,rfl,S,bn,q⟩:=h
 obtain⟨dx,p,y,hx,hp,M⟩:=S.ex
 obtain⟨d,fs,ey,ly⟩:=M.meth
 obtain⟨d2,tp,e2,T2⟩:=M.ex
 refine⟨_,(pss_one (ps_ret (pe_op op_add (pe_fld (pv 0) (by rfl)) (pe_mcal c_Measure_upto er.cl_Measure (hr.mono (by decide)) (pe_fld (pv 0) (by rfl)) (pa_cons (pv 1) pa_nil))))),?_⟩
 walk_at "rdx"
 refine⟨x,c_Sun,dx,_,_,rfl,hx,er.cl_Sun,er.na_Sun_start,rfl,?_⟩
 walk_at "rdx"
 refine⟨x,c_Sun,dx,_,_,rfl,hx,er.cl_Sun,er.na_Sun_years,rfl,?_⟩
 walk_at "rdx"
 refine⟨y,d,fs,rfl,ey,ly.2.2.1,?_⟩
 walk_at "rdx"
 refine⟨y,tp,d2,n,_,ts,_,rfl,e2,rfl,rfl,T2,M.gd.b0,M.gd.b1,bn.mono (by decide),fun H' s'=>?_⟩
 walk_at "rdx"
 exact q _ s'
theorem sc_Sun_year_at:FnScope ["self","day"] ["self","day"] (defScope s_Sun_year_at):=⟨rfl,rfl,rfl,by decide +kernel,rfl,by decide +kernel,by decide +kernel⟩
theorem ok_Sun_year_at{f:Addr}{fd:FuncData}(F:Fun K "year_at" "Sun.year_at" s_Sun_year_at f fd)(er:Errs K mg c_FeastError c_NoNumber c_TooLong c_NoMeasure c_NoChange c_NoCycle c_Rule c_Each c_Dated c_Not c_Both c_Either c_But c_Unlike c_Later c_Upon c_Until c_Near c_Till c_Kth c_Every c_Measure c_Calendar c_Sun c_Change)(c_Measure_seek:CalM P w K mg base CX0 3 c_Measure "seek" ["self","total"] (spSeek K c_Measure)):FnOk P w K mg base CX0 4 f fd ["self","day"] (spYA K c_Sun c_Measure):=by
 refine F.ok (k:=3) sc_Sun_year_at (fun vs H Q E h=>?_) (fun cdv A outer s H vs Q E hr h=>?_)
 ·obtain⟨x,n,s,ls,lp,ts,rfl,_⟩:=h
  rfl
 obtain⟨x,n,s,ls,lp,ts,rfl,S,bn,q⟩:=h
 obtain⟨dx,p,y,hx,hp,M⟩:=S.ex
 obtain⟨d,fs,ey,ly⟩:=M.meth
 refine⟨_,(pss_one (ps_ret (pe_mcal c_Measure_seek er.cl_Measure (hr.mono (by decide)) (pe_fld (pv 0) (by rfl)) (pa_cons (pe_op op_sub (pv 1) (pe_fld (pv 0) (by rfl))) pa_nil)))),?_⟩
 walk_at "rdx"
 refine⟨x,c_Sun,dx,_,_,rfl,hx,er.cl_Sun,er.na_Sun_years,rfl,?_⟩
 walk_at "rdx"
 refine⟨y,d,fs,rfl,ey,ly.1,?_⟩
 walk_at "rdx"
 refine⟨x,c_Sun,dx,_,_,rfl,hx,er.cl_Sun,er.na_Sun_start,rfl,?_⟩
 walk_at "rdx"
 refine⟨y,n-s,_,ts,rfl,M,(bn.sub S.bs).mono (by decide),fun k H' s' u1 u2 bk=>?_⟩
 exact q _ _ s' (by omega) (by omega) (((bn.sub S.bs).le (seek_small S.gd.ok S.gd.f1 u1 u2)).mono (by decide))
theorem sc_Sun_lengths:FnScope ["self","year","told"] ["self","year"] (defScope s_Sun_lengths):=⟨rfl,rfl,rfl,by decide +kernel,rfl,by decide +kernel,by decide +kernel⟩
theorem ok_Sun_lengths{f:Addr}{fd:FuncData}(F:Fun K "lengths" "Sun.lengths" s_Sun_lengths f fd)(er:Errs K mg c_FeastError c_NoNumber c_TooLong c_NoMeasure c_NoChange c_NoCycle c_Rule c_Each c_Dated c_Not c_Both c_Either c_But c_Unlike c_Later c_Upon c_Until c_Near c_Till c_Kth c_Every c_Measure c_Calendar c_Sun c_Change)(c_Measure_at:CalM P w K mg base CX0 2 c_Measure "at" ["self","k"] (spAt K c_Measure))(z_list:mg "list"=none):FnOk P w K mg base CX0 3 f fd ["self","year"] (spLens K c_Sun c_Measure):=by
 refine F.ok (k:=2) sc_Sun_lengths (fun vs H Q E h=>?_) (fun cdv A outer s H vs Q E hr h=>?_)
 ·obtain⟨x,n,s,ls,lp,ts,rfl,_⟩:=h
  rfl
 obtain⟨x,n,s,ls,lp,ts,rfl,S,bn,q⟩:=h
 obtain⟨dx,p,y,hx,hp,M⟩:=S.ex
 have g:=S.gd
 have p0:=g.p0
 have p1:=g.p1
 have elp:lp-1=(((lp-1).toNat:Nat):Int):=by omega
 generalize hi:(lp-1).toNat=i at elp
 have il:i<ls.length:=by omega
 refine⟨_,(pss_cons (ps_set (i:=2) sc_Sun_lengths.nd rfl (by first | exact Or.inl rfl | exact Or.inr rfl) (pe_callTy call_list_of rfl z_list PyProof.Rows.boot_list (pa_cons (pe_fld (pv 0) (by rfl)) pa_nil)))
  (pss_cons (ps_asg (pe_op op_sub (pe_op op_add (pe_ix ix_list (pv 2) (pe_op op_sub (pe_fld (pv 0) (by rfl)) pe_int) (fun _ _=>rfl)) (pe_mcal c_Measure_at er.cl_Measure (hr.mono (by decide)) (pe_fld (pv 0) (by rfl)) (pa_cons (pv 1) pa_nil))) (pe_fld (pe_fld (pv 0) (by rfl)) (by rfl))) (pg_sub (pv 2) (pe_op op_sub (pe_fld (pv 0) (by rfl)) pe_int) set_list))
  (pss_one (ps_ret (pv 2))))),?_⟩
 walk_at "rdx"
 refine⟨x,c_Sun,dx,_,_,rfl,hx,er.cl_Sun,er.na_Sun_months,rfl,?_⟩
 walk_at "rdx"
 refine⟨p,_,rfl,.inr hp,fun l hl=>?_⟩
 have s1:=same_new hl (.lst (ls.map V.int))
 have t1:upd H l (.lst (ls.map V.int)) l=some (.lst (ls.map V.int)):=upd_same
 generalize upd H l (.lst (ls.map V.int))=H1 at s1 t1 ⊢
 have M1:=M.same s1
 obtain⟨d1,fs,e1,l1⟩:=M1.meth
 obtain⟨d2,tp,e2,T2⟩:=M1.ex
 have x1:=s1 _ _ hx
 walk_at "rdx"
 refine⟨x,c_Sun,dx,_,_,rfl,x1,er.cl_Sun,er.na_Sun_leap,rfl,?_⟩
 walk_at "rdx"
 rw[elp]
 have hat:atI (ls.map V.int) (i:Int)=some (V.int (ls.getD i 0)):=by
  refine atI_nat ?_
  rw[List.getElem?_map,List.getD_eq_getElem?_getD,List.getElem?_eq_getElem il]
  rfl
 refine rd_ixL (SqL.of t1) hat ?_
 walk_at "rdx"
 refine⟨x,c_Sun,dx,_,_,rfl,x1,er.cl_Sun,er.na_Sun_years,rfl,?_⟩
 walk_at "rdx"
 refine⟨y,d1,fs,rfl,e1,l1.2.1,?_⟩
 walk_at "rdx"
 refine⟨y,n,_,ts,rfl,M1,bn.mono (by decide),fun H2 s2=>?_⟩
 have x2:=s2 _ _ x1
 walk_at "rdx"
 refine⟨x,c_Sun,dx,_,_,rfl,x2,er.cl_Sun,er.na_Sun_years,rfl,?_⟩
 walk_at "rdx"
 refine⟨y,c_Measure,d2,_,_,rfl,s2 _ _ e2,er.cl_Measure,er.na_Measure_base,rfl,?_⟩
 walk_at "rdx"
 refine⟨x,c_Sun,dx,_,_,rfl,x2,er.cl_Sun,er.na_Sun_leap,rfl,?_⟩
 walk_at "rdx"
 rw[elp]
 have t2:=s2 _ _ t1
 refine rd_setL t2 (by rw[List.length_map];exact il) ?_
 walk_at "rdx"
 have ev:ls.getD i 0+AT ls.sum ts n-ls.sum=ls.getD i 0+ONS ts n:=by
  unfold AT
  omega
 rw[ev]
 have el:(ls.map V.int).set i (V.int (ls.getD i 0+ONS ts n))=(LENS ls lp ts n).map V.int:=by
  unfold LENS
  rw[hi,List.map_set]
 rw[el]
 refine q l _ hl (fun b o h=>?_) upd_same
 rw[upd_ne (ne_of_none h hl)]
 exact s2 _ _ (s1 _ _ h)
theorem sc_Sun_cycle:FnScope ["self","years"] ["self"] (defScope s_Sun_cycle):=⟨rfl,rfl,rfl,by decide +kernel,rfl,by decide +kernel,by decide +kernel⟩
theorem ok_Sun_cycle{f:Addr}{fd:FuncData}(F:Fun K "cycle" "Sun.cycle" s_Sun_cycle f fd)(er:Errs K mg c_FeastError c_NoNumber c_TooLong c_NoMeasure c_NoChange c_NoCycle c_Rule c_Each c_Dated c_Not c_Both c_Either c_But c_Unlike c_Later c_Upon c_Until c_Near c_Till c_Kth c_Every c_Measure c_Calendar c_Sun c_Change)(c_Measure_period:CalM P w K mg base CX0 1 c_Measure "period" ["self"] (spPer K c_Measure))(c_Measure_upto:CalM P w K mg base CX0 2 c_Measure "upto" ["self","k"] (spUpto K c_Measure)):FnOk P w K mg base CX0 3 f fd ["self"] (spCyc K c_Sun c_Measure):=by
 refine F.ok (k:=2) sc_Sun_cycle (fun vs H Q E h=>?_) (fun cdv A outer s H vs Q E hr h=>?_)
 ·obtain⟨x,s,ls,lp,ts,rfl,_⟩:=h
  rfl
 obtain⟨x,s,ls,lp,ts,rfl,S,q⟩:=h
 obtain⟨dx,p,y,hx,hp,M⟩:=S.ex
 obtain⟨d,fs,ey,ly⟩:=M.meth
 obtain⟨d2,tp,e2,T2⟩:=M.ex
 have pp:=per_pos S.gd.ok S.gd.few
 refine⟨_,(pss_cons (ps_set (i:=1) sc_Sun_cycle.nd rfl (by first | exact Or.inl rfl | exact Or.inr rfl) (pe_mcal0 c_Measure_period er.cl_Measure (hr.mono (by decide)) (pe_fld (pv 0) (by rfl))))
  (pss_one (ps_ret (pe_tup (pa_cons (pv 1) (pa_cons (pe_mcal c_Measure_upto er.cl_Measure (hr.mono (by decide)) (pe_fld (pv 0) (by rfl)) (pa_cons (pv 1) pa_nil)) pa_nil)))))),?_⟩
 walk_at "rdx"
 refine⟨x,c_Sun,dx,_,_,rfl,hx,er.cl_Sun,er.na_Sun_years,rfl,?_⟩
 walk_at "rdx"
 refine⟨y,d,fs,rfl,ey,ly.2.2.2,?_⟩
 walk_at "rdx"
 refine⟨y,_,ts,rfl,M,?_⟩
 walk_at "rdx"
 refine⟨x,c_Sun,dx,_,_,rfl,hx,er.cl_Sun,er.na_Sun_years,rfl,?_⟩
 walk_at "rdx"
 refine⟨y,d,fs,rfl,ey,ly.2.2.1,?_⟩
 walk_at "rdx"
 refine⟨y,tp,d2,_,_,ts,_,rfl,e2,rfl,rfl,T2,M.gd.b0,M.gd.b1,bt_small (by omega) (by omega) (by decide),fun H' s'=>?_⟩
 walk_at "rdx"
 refine⟨two,fun c hc=>?_⟩
 exact q _ _ (s'.trans (same_new hc _)) upd_same
theorem sc_Sun_date_of:FnScope ["self","day","year","rest","month","length"] ["self","day"] (defScope s_Sun_date_of):=⟨rfl,rfl,rfl,by decide +kernel,rfl,by decide +kernel,by decide +kernel⟩
theorem ok_Sun_date_of{f:Addr}{fd:FuncData}(F:Fun K "date_of" "Calendar.date_of" s_Sun_date_of f fd)(er:Errs K mg c_FeastError c_NoNumber c_TooLong c_NoMeasure c_NoChange c_NoCycle c_Rule c_Each c_Dated c_Not c_Both c_Either c_But c_Unlike c_Later c_Upon c_Until c_Near c_Till c_Kth c_Every c_Measure c_Calendar c_Sun c_Change)(c_Sun_year_at:CalM P w K mg base CX0 4 c_Sun "year_at" ["self","day"] (spYA K c_Sun c_Measure))(c_Sun_year_start:CalM P w K mg base CX0 3 c_Sun "year_start" ["self","year"] (spYS K c_Sun c_Measure))(c_Sun_lengths:CalM P w K mg base CX0 3 c_Sun "lengths" ["self","year"] (spLens K c_Sun c_Measure)):FnOk P w K mg base CX0 5 f fd ["self","day"] (spDate K c_Sun c_Sun c_Measure true):=by
 refine F.ok (k:=4) sc_Sun_date_of (fun vs H Q E h=>?_) (fun cdv A outer s H vs Q E hr h=>?_)
 ·obtain⟨x,n,d,rfl,_⟩:=h
  rfl
 obtain⟨x,n,d,rfl,hb,S,bn,q⟩:=h
 obtain⟨s,ls,lp,ts,rfl⟩:∃s ls lp ts,d=.sun s ls lp ts:=by
  cases d with
  | sun s ls lp ts=>first | exact⟨s,ls,lp,ts,rfl⟩ | cases hb
  | moon s bd td bm tm=>first | exact(Bool.noConfusion hb) | cases hb
 have g:=CalO.good S
 refine⟨_,(pss_cons (ps_set (i:=2) sc_Sun_date_of.nd rfl (by first | exact Or.inl rfl | exact Or.inr rfl) (pe_mcal c_Sun_year_at er.cl_Sun (hr.mono (by decide)) (pv 0) (pa_cons (pv 1) pa_nil)))
  (pss_cons (ps_set (i:=3) sc_Sun_date_of.nd rfl (by first | exact Or.inl rfl | exact Or.inr rfl) (pe_op op_sub (pv 1) (pe_mcal c_Sun_year_start er.cl_Sun (hr.mono (by decide)) (pv 0) (pa_cons (pv 2) pa_nil))))
  (pss_cons (ps_set (i:=4) sc_Sun_date_of.nd rfl (by first | exact Or.inl rfl | exact Or.inr rfl) pe_int)
  (pss_cons (ps_for PassesOwn.never rfl (pi_list (pe_mcal c_Sun_lengths er.cl_Sun (hr.mono (by decide)) (pv 0) (pa_cons (pv 2) pa_nil))) (pg_name (i:=5) sc_Sun_date_of.nd rfl (by first | exact Or.inl rfl | exact Or.inr rfl))
   (pss_cons (ps_if (pt_cmpR op_lt (pv 3) (pv 5) (nomark _))
   (pss_one ps_break)
   pss_nil)
  (pss_cons (ps_set (i:=3) sc_Sun_date_of.nd rfl (by first | exact Or.inl rfl | exact Or.inr rfl) (pe_op op_sub (pv 3) (pv 5)))
  (pss_one (ps_set (i:=4) sc_Sun_date_of.nd rfl (by first | exact Or.inl rfl | exact Or.inr rfl) (pe_op op_add (pv 4) pe_int))))))
  (pss_one (ps_ret (pe_tup (pa_cons (pv 2) (pa_cons (pv 4) (pa_cons (pe_op op_add (pv 3) pe_int) pa_nil)))))))))),?_⟩
 walk_at "rdx"
 obtain⟨dx,fs,e,ml⟩:=SunO.meth S
 refine⟨x,dx,fs,rfl,e,ml.2.1,?_⟩
 walk_at "rdx"
 refine⟨x,n,s,ls,lp,ts,rfl,S,bn,fun y H1 s1 y0 y1 by'=>?_⟩
 have S1:=CalO.same S s1
 walk_at "rdx"
 obtain⟨dx1,fs1,e1,ml1⟩:=SunO.meth S1
 refine⟨x,dx1,fs1,rfl,e1,ml1.1,?_⟩
 walk_at "rdx"
 refine⟨x,y,s,ls,lp,ts,rfl,S1,by'.mono (by decide),fun H2 s2=>?_⟩
 have S2:=CalO.same S1 s2
 walk_at "rdx"
 walk_at "rdf"
 walk_at "rdx"
 obtain⟨dx2,fs2,e2,ml2⟩:=SunO.meth S2
 refine⟨x,dx2,fs2,rfl,e2,ml2.2.2.1,?_⟩
 walk_at "rdx"
 refine⟨x,y,s,ls,lp,ts,rfl,S2,by'.mono (by decide),fun l H3 hl s3 t3=>?_⟩
 have st:=CalD.step g y
 have nn:=CalD.mem g y
 have ln:=CalD.len g y
 generalize hD:CalD.sun s ls lp ts=d at*
 replace y0:d.Y y≤n:=by rw[←hD];exact y0
 replace y1:n<d.Y (y+1):=by rw[←hD];exact y1
 replace t3:H3 l=some (.lst ((d.L y).map V.int)):=by rw[←hD];exact t3
 have eY:s+UP ls.sum ts y=d.Y y:=by rw[←hD];rfl
 rw[eY]
 refine⟨l,rfl,⟨_,SqL.of t3⟩,for_list (xs:=(d.L y).map V.int) (fun i σ' H'=>H3=H'∧i≤(d.L y).length∧PS (d.L y) i≤n-d.Y y∧∃c:Option V,σ'=[some (.ref x),some (.int n),some (.int y),some (.int (n-d.Y y-PS (d.L y) i)),some (.int ((i:Int)+1)),c]) ⟨rfl,Nat.zero_le _,by rw[PS_zero];omega,none,?_⟩ ?_ ?_ ?_⟩
 ·rw[PS_zero,Int.sub_zero]
  rfl
 ·rintro i σ' H' _ ⟨rfl,_⟩
  exact SqL.of t3
 ·rintro i v σ' H' hv ⟨rfl,hi,hp,c,rfl⟩
  rw[List.getElem?_map] at hv
  obtain⟨z,hz,rfl⟩:=Option.map_eq_some_iff.mp hv
  have il:i<(d.L y).length:=(List.getElem?_eq_some_iff.mp hz).1
  have ez:(d.L y).getD i 0=z:=by
   rw[List.getD_eq_getElem?_getD,hz]
   rfl
  have ps:=PS_succ il
  rw[ez] at ps
  walk_at "rdx"
  refine ite2d (fun c1=>?_) (fun c1=>?_)
  ·walk_at "rdx"
   refine rd_brk ?_
   walk_at "rdx"
   refine⟨three,fun p hp'=>?_⟩
   refine q p y ((i:Int)+1) _ _ ((s1.trans s2).trans (s3.trans (same_new hp' _))) upd_same ⟨by omega,by omega,by omega,?_⟩ ?_ by'
   ·rw[show ((i:Int)+1-1).toNat=i by omega,ez]
    omega
   ·unfold DayOf
    rw[show ((i:Int)+1-1).toNat=i by omega]
    omega
  ·walk_at "rdx"
   refine⟨rfl,by omega,by omega,some (.int z),?_⟩
   rw[ps,show n-d.Y y-(PS (d.L y) i+z)=n-d.Y y-PS (d.L y) i-z by omega,show((i+1:Nat):Int)+1=(i:Int)+1+1 by omega]
   rfl
 ·rintro σ' H' ⟨rfl,_,hp,c,rfl⟩
  rw[List.length_map,PS_len] at hp
  omega
theorem sc_Change___init__:FnScope ["self","old","new","day"] ["self","old","new","day"] (defScope s_Change___init__):=⟨rfl,rfl,rfl,by decide +kernel,rfl,by decide +kernel,by decide +kernel⟩
theorem ok_Change___init__{f:Addr}{fd:FuncData}(F:Fun K "__init__" "Change.__init__" s_Change___init__ f fd)(er:Errs K mg c_FeastError c_NoNumber c_TooLong c_NoMeasure c_NoChange c_NoCycle c_Rule c_Each c_Dated c_Not c_Both c_Either c_But c_Unlike c_Later c_Upon c_Until c_Near c_Till c_Kth c_Every c_Measure c_Calendar c_Sun c_Change)(c_Sun_date_of:CalM P w K mg base CX0 5 c_Sun "date_of" ["self","day"] (spDate K c_Sun c_Sun c_Measure true)):FnOk P w K mg base CX0 6 f fd ["self","old","new","day"] (spInitC65 K c_Sun c_Measure c_Change):=by
 refine F.ok (k:=5) sc_Change___init__ (fun vs H Q E h=>?_) (fun cdv A outer s H vs Q E hr h=>?_)
 ·obtain⟨H0,x,dx,o,nw,k,rfl,_⟩:=h
  rfl
 obtain⟨H0,x,dx,o,nw,k,rfl,hx,hdx,ne,eH,ha,hb,k0,q⟩:=h
 have s0:Same H0 H:=by rw[eH];exact made_in hx hdx
 have x0:H x=some (.ins c_Change dx []):=by rw[eH];exact upd_same
 clear eH
 refine⟨_,(pss_cons (ps_fld (pv 0) (pv 1) (by rfl))
  (pss_cons (ps_fld (pv 0) (pv 2) (by rfl))
  (pss_cons (ps_fld (pv 0) (pv 3) (by rfl))
  (pss_cons (ps_fld (pv 0) (pe_mcal c_Sun_date_of er.cl_Sun (hr.mono (by decide)) (pv 1) (pa_cons (pe_op op_sub (pv 3) pe_int) pa_nil)) (by rfl))
  (pss_cons (ps_fld (pv 0) (pe_mcal c_Sun_date_of er.cl_Sun (hr.mono (by decide)) (pv 2) (pa_cons (pv 3) pa_nil)) (by rfl))
  (pss_one (ps_if (pt_cmpR (op_leX hr.units0) (pe_fld (pv 0) (by rfl)) (pe_fld (pv 0) (by rfl)) (nomark _))
   (pss_one ps_never)
   pss_nil))))))),?_⟩
 walk_at "rdx"
 refine⟨x,c_Change,dx,[],rfl,x0,er.cl_Change,er.na_Change_old,by decide,?_⟩
 have s1:Same H0 (upd H x (.ins c_Change dx (putF (Str.ofString "old") (.ref o) []))):=same_app hx s0
 have x1:upd H x (.ins c_Change dx (putF (Str.ofString "old") (.ref o) [])) x=some (.ins c_Change dx [(Str.ofString "old",.ref o)]):=upd_same
 generalize upd H x (.ins c_Change dx (putF (Str.ofString "old") (.ref o) []))=H1 at s1 x1 ⊢
 walk_at "rdx"
 refine⟨x,c_Change,dx,_,rfl,x1,er.cl_Change,er.na_Change_new,(by show 1<1000;decide),?_⟩
 have s2:Same H0 (upd H1 x (.ins c_Change dx (putF (Str.ofString "new") (.ref nw) [(Str.ofString "old",.ref o)]))):=same_app hx s1
 have x2:upd H1 x (.ins c_Change dx (putF (Str.ofString "new") (.ref nw) [(Str.ofString "old",.ref o)])) x=some (.ins c_Change dx [(Str.ofString "old",.ref o),(Str.ofString "new",.ref nw)]):=upd_same
 generalize upd H1 x (.ins c_Change dx (putF (Str.ofString "new") (.ref nw) [(Str.ofString "old",.ref o)]))=H2 at s2 x2 ⊢
 walk_at "rdx"
 refine⟨x,c_Change,dx,_,rfl,x2,er.cl_Change,er.na_Change_day,(by show 2<1000;decide),?_⟩
 have s3:Same H0 (upd H2 x (.ins c_Change dx (putF (Str.ofString "day") (.int 0) [(Str.ofString "old",.ref o),(Str.ofString "new",.ref nw)]))):=same_app hx s2
 have x3:upd H2 x (.ins c_Change dx (putF (Str.ofString "day") (.int 0) [(Str.ofString "old",.ref o),(Str.ofString "new",.ref nw)])) x=some (.ins c_Change dx [(Str.ofString "old",.ref o),(Str.ofString "new",.ref nw),(Str.ofString "day",.int 0)]):=upd_same
 generalize upd H2 x (.ins c_Change dx (putF (Str.ofString "day") (.int 0) [(Str.ofString "old",.ref o),(Str.ofString "new",.ref nw)]))=H3 at s3 x3 ⊢
 walk_at "rdx"
 obtain⟨dy,fs,e,ml⟩:=SunO.meth (ha.same s3)
 refine⟨o,dy,fs,rfl,e,ml.2.2.2.2.1,?_⟩
 walk_at "rdx"
 refine⟨o,_,.sun 0 [k] 1 [],rfl,rfl,ha.same s3,(show Bt 290 (0-1) by unfold Bt;decide),fun p y m r H4 s4 t4 d4 e4 _=>?_⟩
 have s04:=s3.trans s4
 walk_at "rdx"
 refine⟨x,c_Change,dx,_,rfl,s4 _ _ x3,er.cl_Change,er.na_Change_last_old,(by show 3<1000;decide),?_⟩
 have s5:Same H0 (upd H4 x (.ins c_Change dx (putF (Str.ofString "last_old") (.ref p) [(Str.ofString "old",.ref o),(Str.ofString "new",.ref nw),(Str.ofString "day",.int 0)]))):=same_app hx s04
 have x5:upd H4 x (.ins c_Change dx (putF (Str.ofString "last_old") (.ref p) [(Str.ofString "old",.ref o),(Str.ofString "new",.ref nw),(Str.ofString "day",.int 0)])) x=some (.ins c_Change dx [(Str.ofString "old",.ref o),(Str.ofString "new",.ref nw),(Str.ofString "day",.int 0),(Str.ofString "last_old",.ref p)]):=upd_same
 have px:p≠x:=ne_of t4 (s4 _ _ x3) (by intro z;cases z)
 have t5:upd H4 x (.ins c_Change dx (putF (Str.ofString "last_old") (.ref p) [(Str.ofString "old",.ref o),(Str.ofString "new",.ref nw),(Str.ofString "day",.int 0)])) p=some (.tup [.int y,.int m,.int r]):=by rw[upd_ne px];exact t4
 generalize upd H4 x (.ins c_Change dx (putF (Str.ofString "last_old") (.ref p) [(Str.ofString "old",.ref o),(Str.ofString "new",.ref nw),(Str.ofString "day",.int 0)]))=H5 at s5 x5 t5 ⊢
 walk_at "rdx"
 obtain⟨dy',fs',e',ml'⟩:=SunO.meth (hb.same s5)
 refine⟨nw,dy',fs',rfl,e',ml'.2.2.2.2.1,?_⟩
 walk_at "rdx"
 refine⟨nw,_,.sun 0 [k] 1 [],rfl,rfl,hb.same s5,(show Bt 290 0 by unfold Bt;exact Nat.two_pow_pos _),fun p' y' m' r' H6 s6 t6 d6 e6 _=>?_⟩
 have s06:=s5.trans s6
 have t56:=s6 _ _ t5
 walk_at "rdx"
 refine⟨x,c_Change,dx,_,rfl,s6 _ _ x5,er.cl_Change,er.na_Change_first_new,(by show 4<1000;decide),?_⟩
 have s7:Same H0 (upd H6 x (.ins c_Change dx (putF (Str.ofString "first_new") (.ref p') [(Str.ofString "old",.ref o),(Str.ofString "new",.ref nw),(Str.ofString "day",.int 0),(Str.ofString "last_old",.ref p)]))):=same_app hx s06
 have x7:upd H6 x (.ins c_Change dx (putF (Str.ofString "first_new") (.ref p') [(Str.ofString "old",.ref o),(Str.ofString "new",.ref nw),(Str.ofString "day",.int 0),(Str.ofString "last_old",.ref p)])) x=some (.ins c_Change dx (cF o nw 0 p p')):=upd_same
 have px':p'≠x:=ne_of t6 (s6 _ _ x5) (by intro z;cases z)
 have t7:upd H6 x (.ins c_Change dx (putF (Str.ofString "first_new") (.ref p') [(Str.ofString "old",.ref o),(Str.ofString "new",.ref nw),(Str.ofString "day",.int 0),(Str.ofString "last_old",.ref p)])) p=some (.tup [.int y,.int m,.int r]):=by rw[upd_ne px];exact t56
 have t7':upd H6 x (.ins c_Change dx (putF (Str.ofString "first_new") (.ref p') [(Str.ofString "old",.ref o),(Str.ofString "new",.ref nw),(Str.ofString "day",.int 0),(Str.ofString "last_old",.ref p)])) p'=some (.tup [.int y',.int m',.int r']):=by rw[upd_ne px'];exact t6
 generalize upd H6 x (.ins c_Change dx (putF (Str.ofString "first_new") (.ref p') [(Str.ofString "old",.ref o),(Str.ofString "new",.ref nw),(Str.ofString "day",.int 0),(Str.ofString "last_old",.ref p)]))=H7 at s7 x7 t7 t7' ⊢
 walk_at "rdx"
 refine⟨x,c_Change,dx,_,_,rfl,x7,er.cl_Change,er.na_Change_first_new,rfl,?_⟩
 walk_at "rdx"
 refine⟨x,c_Change,dx,_,_,rfl,x7,er.cl_Change,er.na_Change_last_old,rfl,?_⟩
 refine⟨p',p,[y',m',r'],[y,m,r],rfl,rfl,SqT.of t7',SqT.of t7,rfl,?_⟩
 rw[lex_le]
 walk_at "rdx"
 have g:=ha.gd
 have yr:=d4.year (d:=.sun 0 [k] 1 []) g
 have yr':=d6.year (d:=.sun 0 [k] 1 []) g
 rw[e4] at yr
 rw[e6] at yr'
 have eY:∀y,(CalD.sun 0 [k] 1 []).Y y=0+((k+0)*y+0):=fun _=>rfl
 rw[eY,eY] at yr yr'
 have y1:y<0:=by
  refine Int.not_le.mp fun z=>?_
  have:=Int.mul_nonneg (show 0≤k+0 by omega) z
  omega
 have y2:0≤y':=by
  refine Int.not_lt.mp fun z=>?_
  have:=Int.mul_nonneg (show 0≤k+0 by omega) (show 0≤ -(y'+1) by omega)
  rw[Int.mul_neg] at this
  omega
 refine iteN (fun z=>by unfold DLe at z;omega) ?_
 walk_at "rdx"
 exact q _ s7 ⟨dx,_,x7,rfl⟩
theorem sc_Change_cycle:FnScope ["self"] ["self"] (defScope s_Change_cycle):=⟨rfl,rfl,rfl,by decide +kernel,rfl,by decide +kernel,by decide +kernel⟩
theorem ok_Change_cycle{f:Addr}{fd:FuncData}(F:Fun K "cycle" "Change.cycle" s_Change_cycle f fd)(er:Errs K mg c_FeastError c_NoNumber c_TooLong c_NoMeasure c_NoChange c_NoCycle c_Rule c_Each c_Dated c_Not c_Both c_Either c_But c_Unlike c_Later c_Upon c_Until c_Near c_Till c_Kth c_Every c_Measure c_Calendar c_Sun c_Change):FnOk P w K mg base (CX1 P w) 1 f fd ["self"] (spCyc44 c_Change c_NoCycle):=by
 refine F.okE (k:=0) sc_Change_cycle (fun vs H Q E h=>?_) (fun cdv A outer s H vs Q E hr h T=>?_)
 ·obtain⟨x,rfl,_⟩:=h
  rfl
 obtain⟨x,rfl,q⟩:=h
 refine⟨_,(pss_one (ps_raise T rfl er.x_NoCycle rfl (pa_cons pe_str pa_nil))),?_⟩
 walk_at "rdx"
 exact⟨(by show 1≤sizeLine;decide),q⟩
theorem sc_refuse_wanted:FnScope ["month","day","step"] ["month","day","step"] (defScope s_refuse_wanted):=⟨rfl,rfl,rfl,by decide +kernel,rfl,by decide +kernel,by decide +kernel⟩
theorem ok_refuse_wanted{f:Addr}{fd:FuncData}(F:Fun K "refuse_wanted" "refuse_wanted" s_refuse_wanted f fd)(er:Errs K mg c_FeastError c_NoNumber c_TooLong c_NoMeasure c_NoChange c_NoCycle c_Rule c_Each c_Dated c_Not c_Both c_Either c_But c_Unlike c_Later c_Upon c_Until c_Near c_Till c_Kth c_Every c_Measure c_Calendar c_Sun c_Change)(c_refuse_below_one:CalE P w K mg base 1 "refuse_below_one" ["number"] (spRefuseE c_NoNumber)):FnOk P w K mg base (CX1 P w) 2 f fd ["month","day","step"] (spWantE c_NoNumber):=by
 refine F.okE (k:=1) sc_refuse_wanted (fun vs H Q E h=>?_) (fun cdv A outer s H vs Q E hr h T=>?_)
 ·obtain⟨m,d,st,rfl,_⟩:=h
  cases m<;>cases d<;>rfl
 obtain⟨m,d,st,rfl,qs,qe⟩:=h
 have lst:(WantOk m d st↔(∀i,m=some i→1≤i)∧d≠some 0∧1≤st):=⟨fun W=>⟨W.m1,W.d0,W.st⟩,fun W=>⟨W.1,W.2.1,W.2.2⟩⟩
 have ret:∀{H':Hp},Same H H'→¬WantOk m d st→ENum c_NoNumber H' E:=fun s h H2 s2=>qe h H2 (s.trans s2)
 rw[lst] at qs qe ret
 refine⟨_,(pss_cons (ps_cut (ps_if (pt_cmpR op_notN (pv 0) pe_non (nomark _))
  (pss_one (ps_expr (pe_calE T c_refuse_below_one (hr.mono (by decide)) rfl (pa_cons (pv 0) pa_nil))))
  pss_nil))
  (pss_cons (ps_if (pt_cmpR op_eq (pv 1) pe_int (nomark _))
   (pss_one (ps_raise T rfl er.x_NoNumber rfl (pa_cons pe_str pa_nil)))
   pss_nil)
  (pss_one (ps_expr (pe_calE T c_refuse_below_one (hr.mono (by decide)) rfl (pa_cons (pv 2) pa_nil)))))),?_⟩
 cases m with
 | none=>
  walk_at "rdx"
  refine rd_cut (fun σ' H'=>H'=H∧σ'=[some .non,some (oI d),some (.int st)]) ?_ ?_
  ·walk_at "rdx"
   refine⟨rfl,?_⟩
   walk_at "rdx"
   refine iteF ?_
   walk_at "rdx"
   exact⟨rfl,rfl⟩
  rintro σ' H' ⟨rfl,rfl⟩
  cases d with
  | none=>
   walk_at "rdx"
   refine iteN (fun e=>nomatch e) ?_
   walk_at "rdx"
   exact⟨st,rfl,fun h=>qs ⟨fun i e=>(nomatch e),fun e=>(nomatch e),h⟩,fun h=>ret (Same.refl _) fun W=>absurd W.2.2 (by omega)⟩
  | some i=>
   walk_at "rdx"
   refine ite2d (fun e=>?_) (fun e=>?_)
   ·walk_at "rdx"
    exact⟨(by show 1≤sizeLine;decide),ret (Same.refl _) (fun W=>W.2.1 (by rw[V.int.inj e])) _ (Same.refl _)⟩
   ·walk_at "rdx"
    exact⟨st,rfl,fun h=>qs ⟨fun i e=>(nomatch e),(fun z=>e (by cases z;rfl)),h⟩,fun h=>ret (Same.refl _) fun W=>absurd W.2.2 (by omega)⟩
 | some j=>
  walk_at "rdx"
  refine rd_cut (fun σ' H'=>H'=H∧1≤j∧σ'=[some (.int j),some (oI d),some (.int st)]) ?_ ?_
  ·walk_at "rdx"
   refine⟨rfl,?_⟩
   walk_at "rdx"
   refine iteT ?_
   walk_at "rdx"
   refine⟨j,rfl,fun h1=>⟨rfl,h1,rfl⟩,fun h1=>ret (Same.refl _) fun W=>absurd (W.1 j rfl) (by omega)⟩
  rintro σ' H' ⟨rfl,j1,rfl⟩
  cases d with
  | none=>
   walk_at "rdx"
   refine iteN (fun e=>nomatch e) ?_
   walk_at "rdx"
   exact⟨st,rfl,fun h=>qs ⟨(fun i e=>by cases e;exact j1),fun e=>(nomatch e),h⟩,fun h=>ret (Same.refl _) fun W=>absurd W.2.2 (by omega)⟩
  | some i=>
   walk_at "rdx"
   refine ite2d (fun e=>?_) (fun e=>?_)
   ·walk_at "rdx"
    exact⟨(by show 1≤sizeLine;decide),ret (Same.refl _) (fun W=>W.2.1 (by rw[V.int.inj e])) _ (Same.refl _)⟩
   ·walk_at "rdx"
    exact⟨st,rfl,fun h=>qs ⟨(fun i e=>by cases e;exact j1),(fun z=>e (by cases z;rfl)),h⟩,fun h=>ret (Same.refl _) fun W=>absurd W.2.2 (by omega)⟩
theorem sc_days_of_month:FnScope ["first","length","day","place"] ["first","length","day"] (defScope s_days_of_month):=⟨rfl,rfl,rfl,by decide +kernel,rfl,by decide +kernel,by decide +kernel⟩
theorem ok_days_of_month{f:Addr}{fd:FuncData}(F:Fun K "days_of_month" "days_of_month" s_days_of_month f fd)(z_list:mg "list"=none)(z_range:mg "range"=none):FnOk P w K mg base CX0 1 f fd ["first","length","day"] spDoM:=by
 refine F.ok (k:=0) sc_days_of_month (fun vs H Q E h=>?_) (fun cdv A outer s H vs Q E hr h=>?_)
 ·obtain⟨f,n,d,rfl,_⟩:=h
  cases d<;>rfl
 obtain⟨f,n,d,rfl,hd,q⟩:=h
 refine⟨_,(pss_cons (ps_if (pt_cmpR op_isN (pv 2) pe_non (nomark _))
  (pss_one (ps_ret (pe_lrange2 rfl rfl z_list rfl z_range (pa_cons (pv 0) (pa_cons (pe_op op_add (pv 0) (pv 1)) pa_nil)))))
  pss_nil)
  (pss_cons (ps_set (i:=3) sc_days_of_month.nd rfl (by first | exact Or.inl rfl | exact Or.inr rfl) (pe_ifExp (pt_cmpR op_gt (pv 2) pe_int (nomark _)) (pe_op op_sub (pv 2) pe_int) (pe_op op_add (pv 1) (pv 2))))
  (pss_cons (ps_if (PW.pt (pw_or (pt_cmpR op_lt (pv 3) pe_int (nomark _)) (pw_or1 (pt_cmpR op_ge (pv 3) (pv 1) (nomark _)))))
   (pss_one (ps_ret (pe_lst pa_nil)))
   pss_nil)
  (pss_one (ps_ret (pe_lst (pa_cons (pe_op op_add (pv 0) (pv 3)) pa_nil))))))),?_⟩
 cases d with
 | none=>
  obtain⟨n0,n1,hb⟩:=hd rfl
  walk_at "rdx"
  refine⟨rfl,?_⟩
  walk_at "rdx"
  refine iteT ?_
  walk_at "rdx"
  refine lr2 (by omega) (by omega) (by omega) (by omega) (by omega) (by omega) (fun l hl=>?_)
  refine q l _ hl (same_new hl _) ?_
  rw[upd_same]
  unfold domF
  rw[show f+n-f=n by omega,List.map_map]
  refine congrArg some (congrArg HO.lst (List.map_congr_left fun k _=>?_))
  show V.int (f+(k:Int)*1)=V.int (f+(k:Int))
  rw[Int.mul_one]
 | some i=>
  rw[show oI (some i)=V.int i from rfl]
  walk_at "rdx"
  refine⟨rfl,?_⟩
  walk_at "rdx"
  refine iteF ?_
  walk_at "rdx"
  refine ite2d (fun h=>?_) (fun h=>?_)
  ·walk_at "rdx"
   refine iteN (by omega) ?_
   walk_at "rdx"
   refine ite2d (fun h2=>?_) (fun h2=>?_)
   ·walk_at "rdx"
    refine⟨Nat.zero_le _,fun l hl=>?_⟩
    refine q l _ hl (same_new hl _) ?_
    rw[upd_same]
    unfold domF
    simp only[]
    rw[if_pos h,if_pos h2]
    rfl
   ·walk_at "rdx"
    refine⟨(by show 1≤sizeLine;decide),fun l hl=>?_⟩
    refine q l _ hl (same_new hl _) ?_
    rw[upd_same]
    unfold domF
    simp only[]
    rw[if_pos h,if_neg h2]
    rfl
  ·walk_at "rdx"
   refine ite2d (fun h1=>iteT ?_) (fun h1=>?_)
   ·walk_at "rdx"
    refine⟨Nat.zero_le _,fun l hl=>?_⟩
    refine q l _ hl (same_new hl _) ?_
    rw[upd_same]
    unfold domF
    simp only[]
    rw[if_neg h,if_pos (.inl h1)]
    rfl
   walk_at "rdx"
   refine ite2d (fun h2=>?_) (fun h2=>?_)
   ·walk_at "rdx"
    refine⟨Nat.zero_le _,fun l hl=>?_⟩
    refine q l _ hl (same_new hl _) ?_
    rw[upd_same]
    unfold domF
    simp only[]
    rw[if_neg h,if_pos (.inr h2)]
    rfl
   ·walk_at "rdx"
    refine⟨(by show 1≤sizeLine;decide),fun l hl=>?_⟩
    refine q l _ hl (same_new hl _) ?_
    rw[upd_same]
    unfold domF
    simp only[]
    rw[if_neg h,if_neg (by omega)]
    rfl
theorem sc_days_of_year:FnScope ["calendar","year","month","day","told","first","number","length"] ["calendar","year","month","day"] (defScope s_days_of_year):=⟨rfl,rfl,rfl,by decide +kernel,rfl,by decide +kernel,by decide +kernel⟩
theorem ok_days_of_year{f:Addr}{fd:FuncData}(F:Fun K "days_of_year" "days_of_year" s_days_of_year f fd)(er:Errs K mg c_FeastError c_NoNumber c_TooLong c_NoMeasure c_NoChange c_NoCycle c_Rule c_Each c_Dated c_Not c_Both c_Either c_But c_Unlike c_Later c_Upon c_Until c_Near c_Till c_Kth c_Every c_Measure c_Calendar c_Sun c_Change)(c_Sun_year_start:CalM P w K mg base CX0 3 c_Sun "year_start" ["self","year"] (spYS K c_Sun c_Measure))(c_Sun_lengths:CalM P w K mg base CX0 3 c_Sun "lengths" ["self","year"] (spLens K c_Sun c_Measure))(c_days_of_month:Cal P w K mg base 1 "days_of_month" ["first","length","day"] spDoM):FnOk P w K mg base CX0 4 f fd ["calendar","year","month","day"] (spDoY65 K c_Sun c_Measure):=by
 refine F.ok (k:=3) sc_days_of_year (fun vs H Q E h=>?_) (fun cdv A outer s H vs Q E hr h=>?_)
 ·obtain⟨x,k,y,m,i,rfl,_⟩:=h
  cases m<;>cases i<;>rfl
 obtain⟨x,k,y,m,i,rfl,S,k0,k1,y0,y1,q⟩:=h
 refine⟨_,(pss_cons (ps_set (i:=4) sc_days_of_year.nd rfl (by first | exact Or.inl rfl | exact Or.inr rfl) (pe_lst pa_nil))
  (pss_cons (ps_set (i:=5) sc_days_of_year.nd rfl (by first | exact Or.inl rfl | exact Or.inr rfl) (pe_mcal c_Sun_year_start er.cl_Sun (hr.mono (by decide)) (pv 0) (pa_cons (pv 1) pa_nil)))
  (pss_cons (ps_set (i:=6) sc_days_of_year.nd rfl (by first | exact Or.inl rfl | exact Or.inr rfl) pe_int)
  (pss_cons (ps_for PassesOwn.never rfl (pi_list (pe_mcal c_Sun_lengths er.cl_Sun (hr.mono (by decide)) (pv 0) (pa_cons (pv 1) pa_nil))) (pg_name (i:=7) sc_days_of_year.nd rfl (by first | exact Or.inl rfl | exact Or.inr rfl))
   (pss_cons (ps_cut (ps_if (PW.pt (pw_or (pt_cmpR op_isN (pv 2) pe_non (nomark _)) (pw_or1 (pt_cmpR op_eq (pv 2) (pv 6) (nomark _)))))
   (pss_one (ps_expr (pe_bm PySem.F.plainAttrs_list PySem.F.slot_list_extend PySem.F.type_list_extend mt_extend (pv 4) (pa_cons (pe_cal c_days_of_month (hr.mono (by decide)) rfl (pa_cons (pv 5) (pa_cons (pv 7) (pa_cons (pv 3) pa_nil)))) pa_nil))))
   pss_nil))
  (pss_cons (ps_set (i:=5) sc_days_of_year.nd rfl (by first | exact Or.inl rfl | exact Or.inr rfl) (pe_op op_add (pv 5) (pv 7)))
  (pss_one (ps_set (i:=6) sc_days_of_year.nd rfl (by first | exact Or.inl rfl | exact Or.inr rfl) (pe_op op_add (pv 6) pe_int))))))
  (pss_one (ps_ret (pv 4))))))),?_⟩
 walk_at "rdx"
 refine⟨Nat.zero_le _,fun t0 ht0=>?_⟩
 refine fresh ht0 fun H1 s1 e1=>?_
 have S1:=S.same s1
 walk_at "rdx"
 obtain⟨dx,fs,e,ml⟩:=SunO.meth S1
 refine⟨x,dx,fs,rfl,e,ml.1,?_⟩
 walk_at "rdx"
 refine⟨x,y,0,[k],1,[],rfl,S1,bt_small (by omega) (by omega) (by decide),fun H2 s2=>?_⟩
 have S2:=S1.same s2
 have e2:=s2 _ _ e1
 have s12:=s1.trans s2
 have ey:(0:Int)+UP [k].sum [] y=k*y:=by
  show(0:Int)+((k+0)*y+0)=k*y
  rw[Int.add_zero,Int.add_zero,Int.zero_add]
 rw[ey]
 have ky:0≤k*y∧k*y≤40000000:=by
  have a:=Int.mul_nonneg (show 0≤k by omega) y0
  have b:=Int.mul_le_mul k1 y1 y0 (by decide)
  omega
 generalize k*y=f at ky
 walk_at "rdx"
 refine rd_for (rd_iL ?_)
 walk_at "rdx"
 obtain⟨dx',fs',e',ml'⟩:=SunO.meth S2
 refine⟨x,dx',fs',rfl,e',ml'.2.2.1,?_⟩
 walk_at "rdx"
 refine⟨x,y,0,[k],1,[],rfl,S2,bt_small (by omega) (by omega) (by decide),fun l H3 hl s3 t3=>?_⟩
 have eL:LENS [k] 1 [] y=[k]:=by
  unfold LENS
  show[k].set 0 (k+0)=[k]
  rw[Int.add_zero]
  rfl
 rw[eL] at t3
 have e3:=s3 _ _ e2
 have s13:=s12.trans s3
 have lt:l≠t0:=fun z=>by rw[z,e2] at hl;cases hl
 refine⟨l,rfl,⟨_,SqL.of t3⟩,for_list (xs:=[k].map V.int) (fun j σ' H'=>Same H H'∧H' l=some (.lst ([k].map V.int))∧∃(ds:List Int) (f' nn:Int) (v:Option V),(j=0→f'=f)∧ds.length≤400*j∧H' t0=some (.lst (ds.map V.int))∧σ'=[some (.ref x),some (.int y),some (oI m),some (oI i),some (.ref t0),some (.int f'),some (.int nn),v]) ⟨s13,t3,[],f,1,_,fun _=>rfl,Nat.zero_le _,e3,rfl⟩ ?_ ?_ ?_⟩
 ·rintro j σ' H' hj ⟨_,t,_⟩
  exact SqL.of t
 ·rintro j v0 σ' H4 hv ⟨sH,tl,ds,f',nn,v,hf,dk,td,rfl⟩
  have j0:j=0:=by
   have:=(List.getElem?_eq_some_iff.mp hv).1
   simpa using this
  subst j0
  cases hv
  obtain rfl:=hf rfl
  obtain rfl:ds=[]:=List.length_eq_zero_iff.mp (by omega)
  walk_at "rdx"
  refine rd_cut (fun σ' H'=>Same H H'∧H' l=some (.lst ([k].map V.int))∧∃(ds:List Int),ds.length≤400∧H' t0=some (.lst (ds.map V.int))∧σ'=[some (.ref x),some (.int y),some (oI m),some (oI i),some (.ref t0),some (.int f'),some (.int nn),some (.int k)]) ?_ ?_
  ·have dl:(domF f' k i).length≤400:=by
    cases i with
    | none=>
     unfold domF
     rw[List.length_map,List.length_range]
     omega
    | some i=>exact Nat.le_trans (domF_len f' k i) (by decide)
   have ext:∀(l5:Addr) (H5:Hp) (s5:Same H4 H5) (t5:H5 l5=some (.lst ((domF f' k i).map V.int))) {Q2:VK},(∀(H6:Hp),Same H H6→H6 l=some (.lst ([k].map V.int))→H6 t0=some (.lst ((domF f' k i).map V.int))→Q2 .non H6)→rExtend (.ref t0) [.ref l5] H5 Q2:=fun l5 H5 s5 t5 {Q2} hQ=>by
    refine⟨t0,l5,_,_,rfl,rfl,s5 _ _ td,t5,?_,?_⟩
    ·rw[List.length_map,List.length_map,sizeLine_eq]
     show 0+_≤_
     omega
    ·refine hQ _ (fun r o ho=>?_) ?_ upd_same
     ·rw[upd_ne fun z=>by rw[z,ht0] at ho;cases ho]
      exact s5 _ _ (sH _ _ ho)
     ·rw[upd_ne lt]
      exact s5 _ _ tl
   have skip:Same H H4∧H4 l=some (.lst ([k].map V.int))∧∃(ds:List Int),ds.length≤400∧H4 t0=some (.lst (ds.map V.int))∧[some (V.ref x),some (.int y),some (oI m),some (oI i),some (.ref t0),some (.int f'),some (.int nn),some (.int k)]=[some (.ref x),some (.int y),some (oI m),some (oI i),some (.ref t0),some (.int f'),some (.int nn),some (.int k)]:=⟨sH,tl,[],by decide,td,rfl⟩
   cases m with
   | none=>
    walk_at "rdx"
    refine⟨rfl,?_⟩
    walk_at "rdx"
    refine iteT (iteT ?_)
    walk_at "rdx"
    refine rd_ext rfl td ?_
    walk_at "rdx"
    refine⟨f',k,i,rfl,fun _=>by omega,fun l5 H5 h5 s5 t5=>?_⟩
    refine rd_nil ?_
    refine ext l5 H5 s5 t5 fun H6 a1 a2 a3=>?_
    exact⟨a1,a2,_,dl,a3,rfl⟩
   | some j=>
    walk_at "rdx"
    refine⟨rfl,?_⟩
    walk_at "rdx"
    refine iteF ?_
    walk_at "rdx"
    refine ite2d (fun _=>?_) (fun _=>?_)
    ·walk_at "rdx"
     refine rd_ext rfl td ?_
     walk_at "rdx"
     refine⟨f',k,i,rfl,fun _=>by omega,fun l5 H5 h5 s5 t5=>?_⟩
     refine rd_nil ?_
     refine ext l5 H5 s5 t5 fun H6 a1 a2 a3=>?_
     exact⟨a1,a2,_,dl,a3,rfl⟩
    ·walk_at "rdx"
     exact skip
  rintro σ' H5 ⟨sH,tl,ds,dk,td,rfl⟩
  walk_at "rdx"
  exact⟨sH,tl,ds,_,_,_,fun z=>absurd z (by decide),by omega,td,rfl⟩
 ·rintro σ' H4 ⟨sH,tl,ds,f',nn,v,hf,dk,td,rfl⟩
  walk_at "rdx"
  exact q t0 ds _ ht0 sH td (by have:([k].map V.int).length=1:=rfl;omega)
theorem sc_dated:FnScope ["calendar","month","day","step","rest","cycle","years","size","days","year"] ["calendar","month","day","step","rest"] (defScope s_dated):=⟨rfl,rfl,rfl,by decide +kernel,rfl,by decide +kernel,by decide +kernel⟩
theorem ok_dated{f:Addr}{fd:FuncData}{ds:Array Value}(F:FunD K "dated" "dated" s_dated f fd ds)(er:Errs K mg c_FeastError c_NoNumber c_TooLong c_NoMeasure c_NoChange c_NoCycle c_Rule c_Each c_Dated c_Not c_Both c_Either c_But c_Unlike c_Later c_Upon c_Until c_Near c_Till c_Kth c_Every c_Measure c_Calendar c_Sun c_Change)(c_refuse_wanted:CalE P w K mg base 2 "refuse_wanted" ["month","day","step"] (spWantE c_NoNumber))(c_Sun_cycle:CalM P w K mg base CX0 3 c_Sun "cycle" ["self"] (spCyc K c_Sun c_Measure))(c_Change_cycle:CalM P w K mg base (CX1 P w) 1 c_Change "cycle" ["self"] (spCyc44 c_Change c_NoCycle))(c_common:CalE P w K mg base 3 "common" ["one","other"] (spCommonE c_NoNumber))(c_refuse_too_long:CalE P w K mg base 3 "refuse_too_long" ["size"] (spTooLongE c_TooLong))(c_days_of_year:Cal P w K mg base 4 "days_of_year" ["calendar","year","month","day"] (spDoY65 K c_Sun c_Measure))(c_round_by:CalE P w K mg base 4 "round_by" ["size","days"] (spRoundByE K c_NoNumber c_TooLong))(z_range:mg "range"=none):FnOk P w K mg base (CX1 P w) 5 f fd ["calendar","month","day","step","rest"] (spDated65 K c_Sun c_Measure c_Change c_NoNumber c_NoCycle c_TooLong):=by
 refine F.okE (k:=4) sc_dated (fun vs H Q E h=>?_) (fun cdv A outer s H vs Q E hr h T=>?_)
 ·obtain⟨x,k,ch,m,i,st,r,rfl,_⟩:=h
  cases m<;>cases i<;>rfl
 obtain⟨x,k,ch,m,i,st,r,rfl,S,k0,k1,st1,st0,en,ey,el,q⟩:=h
 refine⟨_,(pss_cons (ps_expr (pe_calE T c_refuse_wanted (hr.mono (by decide)) rfl (pa_cons (pv 1) (pa_cons (pv 2) (pa_cons (pv 3) pa_nil)))))
  (pss_cons (ps_set (i:=5) sc_dated.nd rfl (by first | exact Or.inl rfl | exact Or.inr rfl) (pe_mcalLE0 (k:=3) T (CalL.cons er.cl_Sun (CalM.toE c_Sun_cycle) (by decide) (CalL.cons er.cl_Change c_Change_cycle (by decide) CalL.nil)) (hr.mono (by decide)) (pv 0)))
  (pss_cons (ps_set (i:=6) sc_dated.nd rfl (by first | exact Or.inl rfl | exact Or.inr rfl) (pe_calE T c_common (hr.mono (by decide)) rfl (pa_cons (pe_ix ix_tup (pv 5) pe_int (fun _ _=>rfl)) (pa_cons (pv 3) pa_nil))))
  (pss_cons (ps_set (i:=7) sc_dated.nd rfl (by first | exact Or.inl rfl | exact Or.inr rfl) (pe_op op_mulB (pe_op op_fdivB (pv 6) (pe_ix ix_tup (pv 5) pe_int (fun _ _=>rfl))) (pe_ix ix_tup (pv 5) pe_int (fun _ _=>rfl))))
  (pss_cons (ps_expr (pe_calE T c_refuse_too_long (hr.mono (by decide)) rfl (pa_cons (pv 7) pa_nil)))
  (pss_cons (ps_set (i:=8) sc_dated.nd rfl (by first | exact Or.inl rfl | exact Or.inr rfl) (pe_lst pa_nil))
  (pss_cons (ps_for (by first | exact PassesOwn.leaving | exact PassesOwn.looking | with_unfolding_all passes_own) rfl (pi_range3 rfl z_range (pa_cons (pe_op op_mod (pv 4) (pv 3)) (pa_cons (pv 6) (pa_cons (pv 3) pa_nil)))) (pg_name (i:=9) sc_dated.nd rfl (by first | exact Or.inl rfl | exact Or.inr rfl))
   (pss_one (ps_expr (pe_bm PySem.F.plainAttrs_list PySem.F.slot_list_extend PySem.F.type_list_extend mt_extend (pv 8) (pa_cons (pe_cal c_days_of_year (hr.mono (by decide)) rfl (pa_cons (pv 0) (pa_cons (pv 9) (pa_cons (pv 1) (pa_cons (pv 2) pa_nil))))) pa_nil)))))
  (pss_one (ps_ret (pe_calE T c_round_by (hr.mono (by decide)) rfl (pa_cons (pv 7) (pa_cons (pv 8) pa_nil)))))))))))),?_⟩
 walk_at "rdx"
 refine⟨m,i,st,rfl,fun W=>?_,fun W=>en W⟩
 have w1:=W.st
 walk_at "rdx"
 cases ch with
 | true=>
  obtain⟨dx,fs,e,l⟩:=S
  exact⟨x,c_Change,dx,fs,_,List.mem_cons_of_mem _ List.mem_cons_self,rfl,e,l,x,rfl,ey W rfl H (Same.refl H)⟩
 | false=>
  have S:SunO K c_Sun c_Measure H x 0 [k] 1 []:=S
  obtain⟨dx,fs,e,ml⟩:=SunO.meth S
  refine⟨x,c_Sun,dx,fs,_,List.mem_cons_self,rfl,e,ml.2.2.2.1,?_⟩
  refine⟨x,0,[k],1,[],rfl,S,fun c H1 s1 t1=>?_⟩
  have t1:H1 c=some (.tup [.int 1,.int k]):=by
   rw[t1]
   show some (HO.tup [.int 1,.int ((k+0)*1+0)])=_
   rw[Int.add_zero,Int.mul_one,Int.add_zero]
  have S1:=S.same s1
  have ks:k*st≤400*1000∧1≤k*st:=by
   have a:=Int.mul_le_mul k1 st1 (by omega) (by decide)
   have b:=Int.mul_le_mul k0 w1 (by decide) (by omega)
   omega
  walk_at "rdx"
  refine rd_ixT (SqT.of t1) rfl ?_
  walk_at "rdx"
  refine⟨_,_,rfl,(show Bt 500 1 by unfold Bt;decide),bt_small (by omega) (by omega) (by decide),fun _ _ H2 s2=>?_,fun z=>absurd (⟨by decide,w1⟩:(1:Int)≤1∧1≤st) z⟩
  have e1:lcmI 1 st=st:=by
   unfold lcmI
   simp
  rw[e1]
  walk_at "rdx"
  refine rd_ixT (SqT.of (s2 _ _ t1)) rfl ?_
  walk_at "rdx"
  refine rd_ixT (SqT.of (s2 _ _ t1)) rfl ?_
  rw[Int.ediv_one]
  refine rd_i ⟨64,64,bt_small (by omega) (by omega) (by decide),bt_small (by omega) (by omega) (by decide),by decide⟩ ?_
  rw[Int.mul_comm st k]
  walk_at "rdx"
  refine⟨_,rfl,bt_small (by omega) (by omega) (by decide),fun z1=>?_,fun z1=>(el W rfl z1).later (s1.trans s2)⟩
  have q:=q W rfl z1
  have S2:=S1.same s2
  walk_at "rdx"
  refine⟨Nat.zero_le _,fun l hl=>?_⟩
  refine fresh hl fun H3 s3 t3=>?_
  have hlH:H l=none:=(s1.trans s2).free hl
  have S3:=S2.same s3
  have s03:=(s1.trans s2).trans s3
  walk_at "rdx"
  refine rd_for (rd_rng3 ?_)
  walk_at "rdx"
  try refine rd_i (show 0<st by omega) ?_
  try walk_at "rdx"
  have r0:=Int.emod_nonneg r (show st≠0 by omega)
  have r1:=Int.emod_lt_of_pos r (show 0<st by omega)
  generalize r%st=R at*
  have hn:((1:Nat):Int)=Builtin.Range.rangeSize R st st:=by
   rw[rangeSize_up (i:=R) (j:=st) (c:=st) (by omega),if_pos (by omega)]
   have:(st-R-1)/st=0:=Int.ediv_eq_zero_of_lt (by omega) (by omega)
   omega
  refine⟨R,st,st,rfl,by omega,by omega,small_step (by omega) (by omega) (by omega) (by omega) (by omega) (by omega),1,hn,for_rangeS (fun j σ' H'=>Same H H'∧∃(ds:List Int) (v:Option V),ds.length≤1000*j∧H' l=some (.lst (ds.map V.int))∧SunO K c_Sun c_Measure H' x 0 [k] 1 []∧σ'=[some (.ref x),some (oI m),some (oI i),some (.int st),some (.int r),some (.ref c),some (.int st),some (.int (k*st)),some (.ref l),v]) ⟨s03,[],_,Nat.zero_le _,t3,S3,rfl⟩ ?_ ?_⟩
  ·rintro j σ' H4 hj ⟨sH,ds,v,dl,tl,SH,rfl⟩
   obtain rfl:j=0:=by omega
   walk_at "rdx"
   refine rd_ext rfl tl ?_
   walk_at "rdx"
   refine⟨x,k,_,m,i,rfl,SH,k0,k1,by omega,by omega,fun l5 d5 H5 h5 s5 t5 z5=>?_⟩
   refine rd_nil ?_
   have tl5:=s5 _ _ tl
   refine⟨l,l5,_,_,rfl,rfl,tl5,t5,?_,?_⟩
   ·rw[List.length_map,List.length_map,sizeLine_eq]
    omega
   ·rw[←List.map_append]
    have SH5:=SH.same s5
    refine⟨fun u o ho=>?_,ds++d5,_,?_,upd_same,SunO.but SH5 tl5 ?_,rfl⟩
    ·rw[upd_ne fun z=>by rw[z,hlH] at ho;cases ho]
     exact s5 _ _ (sH _ _ ho)
    ·rw[List.length_append]
     omega
    ·exact fun u o ne ho=>by rw[upd_ne ne];exact ho
  ·rintro σ' H4 ⟨sH,ds,v,dl,tl,SH,rfl⟩
   walk_at "rdx"
   refine⟨l,ds,_,rfl,SqL.of tl,bt_small (by omega) (by omega) (by decide),fun _ _ p b H6 s6 t6 B=>?_,fun z=>absurd z (by omega),fun z=>absurd z (by omega)⟩
   exact q p b H6 (sH.trans s6) t6 B.lt
theorem sc_wanted_text:FnScope ["number"] ["number"] (defScope s_wanted_text):=⟨rfl,rfl,rfl,by decide +kernel,rfl,by decide +kernel,by decide +kernel⟩
theorem ok_wanted_text{f:Addr}{fd:FuncData}(F:Fun K "wanted_text" "wanted_text" s_wanted_text f fd)(z_str:mg "str"=none):FnOk P w K mg base CX0 1 f fd ["number"] spWText:=by
 refine F.ok (k:=0) sc_wanted_text (fun vs H Q E h=>?_) (fun cdv A outer s H vs Q E hr h=>?_)
 ·obtain⟨m,rfl,_⟩:=h
  rfl
 obtain⟨m,rfl,hm,q⟩:=h
 refine⟨_,(pss_one (ps_ret (pe_ifExp (pt_cmpR op_isN (pv 0) pe_non (nomark _)) pe_str (pe_callTy call_str_int rfl z_str PyProof.Rows.boot_str (pa_cons (pv 0) pa_nil))))),?_⟩
 cases m with
 | none=>
  walk_at "rdx"
  try refine rd_ifE ?_
  walk_at "rdx"
  refine⟨rfl,?_⟩
  walk_at "rdx"
  refine iteT ?_
  walk_at "rdx"
  exact q _ ⟨by decide +kernel,by decide +kernel⟩
 | some j=>
  rw[show oI (some j)=V.int j from rfl]
  walk_at "rdx"
  try refine rd_ifE ?_
  walk_at "rdx"
  refine⟨rfl,?_⟩
  walk_at "rdx"
  refine iteF ?_
  walk_at "rdx"
  exact⟨_,rfl,hm j rfl,q _ ((TL.int (hm j rfl)).mono (by decide))⟩
theorem sc_dated_text:FnScope ["name","month","day","step","rest","words"] ["name","month","day","step","rest"] (defScope s_dated_text):=⟨rfl,rfl,rfl,by decide +kernel,rfl,by decide +kernel,by decide +kernel⟩
theorem ok_dated_text{f:Addr}{fd:FuncData}(F:Fun K "dated_text" "dated_text" s_dated_text f fd)(c_wanted_text:Cal P w K mg base 1 "wanted_text" ["number"] spWText)(c_each_text:Cal P w K mg base 1 "each_text" ["step","rest"] spEachT65):FnOk P w K mg base CX0 2 f fd ["name","month","day","step","rest"] spDText:=by
 refine F.ok (k:=1) sc_dated_text (fun vs H Q E h=>?_) (fun cdv A outer s H vs Q E hr h=>?_)
 ·obtain⟨z,m,i,st,r,rfl,_⟩:=h
  cases m<;>cases i<;>rfl
 obtain⟨z,m,i,st,r,rfl,tz,hm,hi,st1,q⟩:=h
 refine⟨_,(pss_cons (ps_set (i:=5) sc_dated_text.nd rfl (by first | exact Or.inl rfl | exact Or.inr rfl) (pe_lst (pa_cons pe_str (pa_cons (pv 0) (pa_cons (pe_cal c_wanted_text (hr.mono (by decide)) rfl (pa_cons (pv 1) pa_nil)) (pa_cons (pe_cal c_wanted_text (hr.mono (by decide)) rfl (pa_cons (pv 2) pa_nil)) pa_nil))))))
  (pss_cons (ps_cut (ps_if (pt_cmpR op_gt (pv 3) pe_int (nomark _))
   (pss_one (ps_expr (pe_bm PySem.F.plainAttrs_list PySem.F.slot_list_append PySem.F.type_list_append mt_append (pv 5) (pa_cons (pe_cal c_each_text (hr.mono (by decide)) rfl (pa_cons (pv 3) (pa_cons (pv 4) pa_nil))) pa_nil))))
   pss_nil))
  (pss_one (ps_ret (pe_bm PySem.F.plainAttrs_str PySem.F.slot_str_join PySem.F.type_str_join mt_join pe_str (pa_cons (pv 5) pa_nil)))))),?_⟩
 walk_at "rdx"
 refine⟨m,rfl,hm,fun z1 t1=>?_⟩
 walk_at "rdx"
 refine⟨i,rfl,hi,fun z2 t2=>?_⟩
 walk_at "rdx"
 refine⟨four,fun l hl=>?_⟩
 refine fresh hl fun H1 s1 e1=>?_
 have e1:H1 l=some (.lst (([Str.ofString "date",z,z1,z2]:List Str).map V.str)):=e1
 walk_at "rdx"
 refine rd_cut (fun σ' H'=>Same H H'∧∃(zs:List Str) (w0 w1 w2 w3 w4:V),H' l=some (.lst (zs.map V.str))∧(zs.map (·.length)).sum+zs.length*1≤16777216∧σ'=[some w0,some w1,some w2,some w3,some w4,some (.ref l)]) ?_ ?_
 ·walk_at "rdx"
  have tzl:=tz.len
  have t1l:=t1.len
  have t2l:=t2.len
  refine ite2d (fun c=>?_) (fun c=>?_)
  ·walk_at "rdx"
   refine rd_append rfl e1 ?_
   walk_at "rdx"
   refine⟨_,_,rfl,by omega,st1,fun z3 t3=>?_⟩
   refine rd_nil ?_
   have t3l:=t3.len
   refine rd_app e1 (by show 4<sizeLine;decide) ?_
   walk_at "rdx"
   refine⟨same_app hl s1,[Str.ofString "date",z,z1,z2,z3],_,_,_,_,_,upd_same,?_,rfl⟩
   show(4+(z.length+(z1.length+(z2.length+(z3.length+0)))))+5*1≤16777216
   omega
  ·walk_at "rdx"
   refine⟨s1,[Str.ofString "date",z,z1,z2],_,_,_,_,_,e1,?_,rfl⟩
   show(4+(z.length+(z1.length+(z2.length+0))))+4*1≤16777216
   omega
 rintro σ' H2 ⟨s2,zs,w0,w1,w2,w3,w4,e2,hz,rfl⟩
 walk_at "rdx"
 refine rd_bm ?_
 walk_at "rdx"
 refine⟨rfl,?_⟩
 walk_at "rdx"
 refine⟨_,l,zs,rfl,rfl,SqL.of e2,?_,q _ _ s2⟩
 have e1:(Str.ofString " ").length=1:=by decide +kernel
 rw[e1]
 exact hz
theorem sc_Dated___init__:FnScope ["self","name","calendar","month","day","step","rest","kept"] ["self","name","calendar","month","day","step","rest"] (defScope s_Dated___init__):=⟨rfl,rfl,rfl,by decide +kernel,rfl,by decide +kernel,by decide +kernel⟩
theorem ok_Dated___init__{f:Addr}{fd:FuncData}{ds:Array Value}(F:FunD K "__init__" "Dated.__init__" s_Dated___init__ f fd ds)(er:Errs K mg c_FeastError c_NoNumber c_TooLong c_NoMeasure c_NoChange c_NoCycle c_Rule c_Each c_Dated c_Not c_Both c_Either c_But c_Unlike c_Later c_Upon c_Until c_Near c_Till c_Kth c_Every c_Measure c_Calendar c_Sun c_Change)(c_dated:CalE P w K mg base 5 "dated" ["calendar","month","day","step","rest"] (spDated65 K c_Sun c_Measure c_Change c_NoNumber c_NoCycle c_TooLong))(c_Rule___init__:CalB P w K mg base 1 "Rule" ["self","kept","made_of","words"] (spRInit K c_Rule))(c_dated_text:Cal P w K mg base 2 "dated_text" ["name","month","day","step","rest"] spDText):FnOk P w K mg base (CX1 P w) 6 f fd ["self","name","calendar","month","day","step","rest"] (spIDE K c_Rule [c_Each,c_Dated,c_Not,c_Both,c_Either,c_But,c_Unlike,c_Later,c_Upon,c_Until,c_Near,c_Till,c_Kth,c_Every] c_Dated c_Sun c_Measure c_Change c_NoNumber c_NoCycle c_TooLong):=by
 refine F.okE (k:=5) sc_Dated___init__ (fun vs H Q E h=>?_) (fun cdv A outer s H vs Q E hr h T=>?_)
 ·obtain⟨x,y,z,k,ch,m,i,st,r,rfl,_⟩:=h
  cases m<;>cases i<;>rfl
 obtain⟨x,y,z,k,ch,m,i,st,r,rfl,tz,hm,hi,C,k0,k1,st1,st0,h⟩:=h
 obtain⟨dx,hx⟩:=h.1
 refine⟨_,(pss_cons (ps_set (i:=7) sc_Dated___init__.nd rfl (by first | exact Or.inl rfl | exact Or.inr rfl) (pe_calE T c_dated (hr.mono (by decide)) rfl (pa_cons (pv 2) (pa_cons (pv 3) (pa_cons (pv 4) (pa_cons (pv 5) (pa_cons (pv 6) pa_nil)))))))
  (pss_one (ps_expr (pe_binit c_Rule___init__ (hr.mono (by decide)) rfl (pa_cons (pv 0) (pa_cons (pv 7) (pa_cons (pe_tup pa_nil) (pa_cons (pe_tup (pa_cons (pe_cal c_dated_text (hr.mono (by decide)) rfl (pa_cons (pv 1) (pa_cons (pv 3) (pa_cons (pv 4) (pa_cons (pv 5) (pa_cons (pv 6) pa_nil)))))) pa_nil)) pa_nil)))))))),?_⟩
 walk_at "rdx"
 refine⟨y,k,ch,m,i,st,r,rfl,C,k0,k1,st1,st0,fun W=>?_,fun W c=>?_,fun W c l=>?_,fun W c l p b H1 s1 t1 lt=>?_⟩
 ·rw[d13n W] at h
  exact h.2
 ·subst c
  rw[d13c W] at h
  exact h.2
 ·subst c
  rw[d13f W] at h
  exact h.fit.2.2 l
 ·subst c
  rw[d13f W] at h
  have q:=h.fit.2.1 l
  have ks:1≤k*st:=by
   have b:=Int.mul_le_mul k0 W.st (by decide) (by omega)
   omega
  walk_at "rdx"
  refine⟨(by show 0≤sizeLine;decide),fun pm hpm=>?_⟩
  refine fresh hpm fun H2 s2 _=>?_
  walk_at "rdx"
  refine⟨z,m,i,st,r,rfl,tz,hm,hi,by omega,fun zt H3 s3=>?_⟩
  walk_at "rdx"
  refine⟨(by show 1≤sizeLine;decide),fun pw hpw=>?_⟩
  refine fresh hpw fun H4 s4 _=>?_
  have s4:=s2.trans (s3.trans s4)
  have hx4:=(s1.trans s4) _ _ hx
  walk_at "rdx"
  exact⟨x,p,pm,pw,c_Dated,dx,rfl,hx4,er.rc_Dated,fun H' kk e=>q b H' (kk.pre (s1.trans s4)) (made_rule (List.mem_of_getElem? (i:=1) rfl) er.rc_Dated hx4 (s4 _ _ t1) kk e (by omega) l lt)⟩
theorem sc_law_cell_at:FnScope ["_law_script","_law_k"] ["_law_script","_law_k"] (defScope s_law_cell_at):=⟨rfl,rfl,rfl,by decide +kernel,rfl,by decide +kernel,by decide +kernel⟩
theorem ok_law_cell_at{f:Addr}{fd:FuncData}(F:Fun K "_law_cell_at" "_law_cell_at" s_law_cell_at f fd)(z_len:mg "len"=none):FnOk P w K mg base CX0 1 f fd ["_law_script","_law_k"] (spCell K):=by
 refine F.ok (k:=0) sc_law_cell_at (fun vs H Q E h=>?_) (fun cdv A outer s H vs Q E hr h=>?_)
 ·obtain⟨a,ns,k,rfl,_⟩:=h
  rfl
 obtain⟨a,ns,k,rfl,hS,h0,hl,q⟩:=h
 refine⟨_,(pss_cons (ps_if (pt_cmpR op_lt (pv 1) (pe_callB call_len_seq rfl z_len PySem.boot_len (pa_cons (pv 0) pa_nil)) (nomark _))
  (pss_one (ps_ret (pe_ix ix_list (pv 0) (pv 1) (fun _ _=>rfl))))
  pss_nil)
  (pss_one (ps_ret pe_int))),?_⟩
 walk_at "rd"
 refine⟨a,_,rfl,.inl hS,?_⟩
 walk_at "rd"
 rw[List.length_map]
 refine ite2d (fun c=>?_) (fun c=>?_)
 ·walk_at "rd"
  refine rd_ixL hS (at_ints h0 c) ?_
  exact q
 ·walk_at "rd"
  have e:ns.getD k.toNat 0=0:=by
   simp[List.getD,List.getElem?_eq_none (show ns.length≤k.toNat by omega)]
  rw[e] at q
  exact q
theorem sc_law_whole:FnScope ["_law_found"] ["_law_found"] (defScope s_law_whole):=⟨rfl,rfl,rfl,by decide +kernel,rfl,by decide +kernel,by decide +kernel⟩
theorem ok_law_whole{f:Addr}{fd:FuncData}(F:Fun K "_law_whole" "_law_whole" s_law_whole f fd)(z_isinstance:mg "isinstance"=none)(z_int:mg "int"=none)(z_bool:mg "bool"=none):FnOk P w K mg base CX0 1 f fd ["_law_found"] spWhole:=by
 refine F.ok (k:=0) sc_law_whole (fun vs H Q E h=>?_) (fun cdv A outer s H vs Q E hr h=>?_)
 ·obtain⟨i,rfl,_⟩:=h
  rfl
 obtain⟨i,rfl,q⟩:=h
 refine⟨_,(pss_one (ps_ret (pe_and (pe_callB call_isi rfl z_isinstance PyProof.Rows.boot_isinstance (pa_cons (pv 0) (pa_cons (pe_bltn rfl z_int PyProof.Rows.boot_int (rel_ty _)) pa_nil))) (pe_one (pe_not (pe_callB call_isi rfl z_isinstance PyProof.Rows.boot_isinstance (pa_cons (pv 0) (pa_cons (pe_bltn rfl z_bool PyProof.Rows.boot_bool (rel_ty _)) pa_nil)))))))),?_⟩
 walk_at "rd"
 refine rd_isi (.int i) (kit_int_int K) ?_
 walk_at "rd"
 refine iteT ?_
 walk_at "rd"
 refine rd_isi (.int i) (kit_ib K) ?_
 walk_at "rd"
 exact q
theorem sc_law_divisor:FnScope ["_law_one","_law_other"] ["_law_one","_law_other"] (defScope s_law_divisor):=⟨rfl,rfl,rfl,by decide +kernel,rfl,by decide +kernel,by decide +kernel⟩
theorem ok_law_divisor{f:Addr}{fd:FuncData}(F:Fun K "_law_divisor" "_law_divisor" s_law_divisor f fd):FnOk P w K mg base CX0 1 f fd ["_law_one","_law_other"] spDivW:=by
 refine F.ok (k:=0) sc_law_divisor (fun vs H Q E h=>?_) (fun cdv A outer s H vs Q E hr h=>?_)
 ·obtain⟨x,y,rfl,_⟩:=h
  rfl
 obtain⟨x,y,rfl,x0,y0,q⟩:=h
 refine⟨_,(pss_cons (ps_while PassesOwn.never (pt_cmpR op_ne (pv 1) pe_int (nomark _))
  (pss_one (ps_par (i:=0) (j:=1) rfl sc_law_divisor.nd rfl rfl (by decide) rfl rfl (pa_cons (pv 1) (pa_cons (pe_op op_mod (pv 0) (pv 1)) pa_nil)) (by with_unfolding_all rfl))))
  (pss_one (ps_ret (pv 0)))),?_⟩
 walk_at "rd"
 refine⟨fun m σ' H'=>H'=H∧∃u v:Int,σ'=[some (.int u),some (.int v)]∧0<u∧0≤v∧Int.gcd u v=Int.gcd x y∧v.toNat=m,⟨_,rfl,x,y,rfl,x0,by omega,rfl,rfl⟩,?_⟩
 rintro m σ' H' ⟨rfl,u,v,rfl,u0,v0,hg,rfl⟩
 walk_at "rd"
 by_cases hv:v=0
 ·subst hv
  refine iteNS rfl ?_
  walk_at "rd"
  rw[Int.gcd_zero_right] at hg
  have:((Int.gcd x y:Nat):Int)=u:=by omega
  rw[this] at q
  exact q
 ·refine iteNN (fun z=>hv (V.int.inj z)) ?_
  refine⟨_,fun σ' H' hh=>hh,?_⟩
  walk_at "rd"
  refine⟨_,_,rfl,?_⟩
  have m0:=Int.emod_nonneg u hv
  have m1:=Int.emod_lt_of_pos u (show 0<v by omega)
  refine⟨(u%v).toNat,by omega,rfl,v,u%v,rfl,by omega,m0,?_,rfl⟩
  rw[←hg]
  exact gcd_st u v
theorem sc_law_sizes:FnScope ["_law_script","_law_way","_law_one","_law_other"] ["_law_script"] (defScope s_law_sizes):=⟨rfl,rfl,rfl,by decide +kernel,rfl,by decide +kernel,by decide +kernel⟩
theorem ok_law_sizes{f:Addr}{fd:FuncData}(F:Fun K "_law_sizes" "_law_sizes" s_law_sizes f fd)(c__law_cell_at:Cal P w K mg base 1 "_law_cell_at" ["_law_script","_law_k"] (spCell K)):FnOk P w K mg base CX0 2 f fd ["_law_script"] (spSizes28 K):=by
 refine F.ok (k:=1) sc_law_sizes (fun vs H Q E h=>?_) (fun cdv A outer s H vs Q E hr h=>?_)
 ·obtain⟨a,ns,rfl,_⟩:=h
  rfl
 obtain⟨a,ns,rfl,hS,h63,q⟩:=h
 refine⟨_,(pss_cons (ps_set (i:=1) sc_law_sizes.nd rfl (by first | exact Or.inl rfl | exact Or.inr rfl) (pe_op op_mod (pe_cal c__law_cell_at (hr.mono (by decide)) rfl (pa_cons (pv 0) (pa_cons pe_int pa_nil))) pe_int))
  (pss_cons (ps_set (i:=2) sc_law_sizes.nd rfl (by first | exact Or.inl rfl | exact Or.inr rfl) (pe_op op_add pe_int (pe_op op_mod (pe_cal c__law_cell_at (hr.mono (by decide)) rfl (pa_cons (pv 0) (pa_cons pe_int pa_nil))) pe_int)))
  (pss_cons (ps_set (i:=3) sc_law_sizes.nd rfl (by first | exact Or.inl rfl | exact Or.inr rfl) (pe_op op_add pe_int (pe_op op_mod (pe_cal c__law_cell_at (hr.mono (by decide)) rfl (pa_cons (pv 0) (pa_cons pe_int pa_nil))) pe_int)))
  (pss_cons (ps_cut (ps_if (pt_cmpR op_eq (pv 1) pe_int (nomark _))
   (pss_cons (ps_set (i:=2) sc_law_sizes.nd rfl (by first | exact Or.inl rfl | exact Or.inr rfl) (pe_op op_sub pe_int (pe_op op_mod (pe_cal c__law_cell_at (hr.mono (by decide)) rfl (pa_cons (pv 0) (pa_cons pe_int pa_nil))) pe_int)))
  (pss_one (ps_set (i:=3) sc_law_sizes.nd rfl (by first | exact Or.inl rfl | exact Or.inr rfl) (pe_op op_sub pe_int (pe_op op_mod (pe_cal c__law_cell_at (hr.mono (by decide)) rfl (pa_cons (pv 0) (pa_cons pe_int pa_nil))) pe_int)))))
   pss_nil))
  (pss_cons (ps_cut (ps_if (pt_cmpR op_eq (pv 1) pe_int (nomark _))
   (pss_cons (ps_set (i:=2) sc_law_sizes.nd rfl (by first | exact Or.inl rfl | exact Or.inr rfl) (pe_ix ix_list (pe_lst (pa_cons pe_int (pa_cons pe_int (pa_cons pe_int (pa_cons pe_int (pa_cons pe_int (pa_cons pe_int pa_nil))))))) (pe_op op_mod (pe_cal c__law_cell_at (hr.mono (by decide)) rfl (pa_cons (pv 0) (pa_cons pe_int pa_nil))) pe_int) (fun _ _=>rfl)))
  (pss_one (ps_set (i:=3) sc_law_sizes.nd rfl (by first | exact Or.inl rfl | exact Or.inr rfl) (pe_ix ix_list (pe_lst (pa_cons pe_int (pa_cons pe_int (pa_cons pe_int (pa_cons pe_int (pa_cons pe_int (pa_cons pe_int pa_nil))))))) (pe_op op_mod (pe_cal c__law_cell_at (hr.mono (by decide)) rfl (pa_cons (pv 0) (pa_cons pe_int pa_nil))) pe_int) (fun _ _=>rfl)))))
   pss_nil))
  (pss_one (ps_ret (pe_tup (pa_cons (pv 2) (pa_cons (pv 3) pa_nil)))))))))),?_⟩
 walk_at "rdc"
 refine rd_cut (fun σ' H'=>H'=H∧∃w x y:Int,σ'=[some (.ref a),some (.int w),some (.int x),some (.int y)]∧1≤x∧x≤150000∧1≤y∧y≤150000) ?_ ?_
 ·walk_at "rdc"
  refine ite2d (fun _=>?_) (fun _=>?_)
  ·walk_at "rdc"
   exact⟨rfl,_,_,_,rfl,by omega,by omega,by omega,by omega⟩
  ·walk_at "rdc"
   exact⟨rfl,_,_,_,rfl,by omega,by omega,by omega,by omega⟩
 rintro σ' H1 ⟨rfl,w',x,y,rfl,x0,x1,y0,y1⟩
 walk_at "rdc"
 have i0:0≤ns.getD (Int.toNat 1) 0%6:=by omega
 have i1:ns.getD (Int.toNat 1) 0%6<6:=by omega
 have pick:∀xs:List Int,xs.length=6→(∀x∈xs,1≤x∧x≤150000)→∃x,atI (xs.map V.int) (ns.getD (Int.toNat 1) 0%6)=some (V.int x)∧1≤x∧x≤150000:=fun xs hl hx=>by
  obtain⟨x,h⟩:∃x,xs[(ns.getD (Int.toNat 1) 0%6).toNat]?=some x:=⟨_,List.getElem?_eq_getElem (by omega)⟩
  have e:ns.getD (Int.toNat 1) 0%6=(((ns.getD (Int.toNat 1) 0%6).toNat:Nat):Int):=by omega
  refine⟨x,?_,hx x (List.mem_of_getElem? h)⟩
  rw[e]
  exact atI_nat (at_map h)
 refine rd_cut (fun σ' H'=>Same H1 H'∧∃w x y:Int,σ'=[some (.ref a),some (.int w),some (.int x),some (.int y)]∧1≤x∧x≤150000∧1≤y∧y≤150000) ?_ ?_
 ·walk_at "rdc"
  refine ite2d (fun _=>?_) (fun _=>?_)
  ·walk_at "rdc"
   refine⟨(by show 6≤sizeLine;decide),fun l hl=>?_⟩
   have s1:=same_new hl (.lst [.int 2,.int 75001,.int 1000,.int 150000,.int 389,.int 2999])
   have t1:upd H1 l (.lst [.int 2,.int 75001,.int 1000,.int 150000,.int 389,.int 2999]) l=some (.lst (([2,75001,1000,150000,389,2999]:List Int).map V.int)):=upd_same
   generalize upd H1 l (.lst [.int 2,.int 75001,.int 1000,.int 150000,.int 389,.int 2999])=H2 at s1 t1 ⊢
   have hS2:=s1.seq hS
   obtain⟨u,hu,u0,u1⟩:=pick [2,75001,1000,150000,389,2999] rfl (by decide)
   walk_at "rdc"
   refine rd_ixL (SqL.of t1) hu ?_
   walk_at "rdc"
   refine⟨(by show 6≤sizeLine;decide),fun l2 hl2=>?_⟩
   have s2:=same_new hl2 (.lst [.int 75001,.int 2,.int 150,.int 1,.int 401,.int 2999])
   have t2:upd H2 l2 (.lst [.int 75001,.int 2,.int 150,.int 1,.int 401,.int 2999]) l2=some (.lst (([75001,2,150,1,401,2999]:List Int).map V.int)):=upd_same
   generalize upd H2 l2 (.lst [.int 75001,.int 2,.int 150,.int 1,.int 401,.int 2999])=H3 at s2 t2 ⊢
   have hS3:=s2.seq hS2
   obtain⟨v,hv,v0,v1⟩:=pick [75001,2,150,1,401,2999] rfl (by decide)
   walk_at "rdc"
   refine rd_ixL (SqL.of t2) hv ?_
   walk_at "rdc"
   exact⟨s1.trans s2,_,_,_,rfl,u0,u1,v0,v1⟩
  ·walk_at "rdc"
   exact⟨Same.refl _,_,_,_,rfl,x0,x1,y0,y1⟩
 rintro σ' H2 ⟨s2,w2,x,y,rfl,x0,x1,y0,y1⟩
 walk_at "rdc"
 exact⟨two',fun p hp=>q p x y _ (s2.trans (same_new hp _)) upd_same x0 x1 y0 y1⟩
theorem sc_law_number:FnScope ["_law_cell","_law_size_here"] ["_law_cell","_law_size_here"] (defScope s_law_number):=⟨rfl,rfl,rfl,by decide +kernel,rfl,by decide +kernel,by decide +kernel⟩
theorem ok_law_number{f:Addr}{fd:FuncData}(F:Fun K "_law_number" "_law_number" s_law_number f fd):FnOk P w K mg base CX0 1 f fd ["_law_cell","_law_size_here"] spNumber65:=by
 refine F.ok (k:=0) sc_law_number (fun vs H Q E h=>?_) (fun cdv A outer s H vs Q E hr h=>?_)
 ·obtain⟨c,n,rfl,_⟩:=h
  rfl
 obtain⟨c,n,rfl,n0,n1,q⟩:=h
 refine⟨_,(pss_cons (ps_if (pt_cmpR op_eq (pe_op op_mod (pv 0) pe_int) pe_int (nomark _))
  (pss_one (ps_ret (pe_op op_sub (pe_op op_mod (pe_op op_fdivB (pv 0) pe_int) pe_int) pe_int)))
  pss_nil)
  (pss_cons (ps_if (pt_cmpR op_eq (pe_op op_mod (pv 0) pe_int) pe_int (nomark _))
   (pss_one (ps_ret (pe_op op_add (pe_op op_fdivB pe_int (pv 1)) (pe_op op_mod (pe_op op_fdivB (pv 0) pe_int) pe_int))))
   pss_nil)
  (pss_one (ps_ret (pe_op op_sub (pe_op op_mod (pe_op op_fdivB (pv 0) pe_int) (pe_op op_pow pe_int pe_int)) (pe_op op_pow pe_int pe_int)))))),?_⟩
 walk_at "rdx"
 refine ite2d (fun _=>?_) (fun _=>?_)
 ·walk_at "rdx"
  exact q _ ((bt_of (by omega) (by omega)).mono (by decide))
 walk_at "rdx"
 refine ite2d (fun _=>?_) (fun _=>?_)
 ·walk_at "rdx"
  refine rd_i (cdiv_small (by omega) (by omega)) ?_
  walk_at "rdx"
  have e1:0≤150000/n:=Int.ediv_nonneg (by decide) (by omega)
  have e2:150000/n≤150000:=Int.ediv_le_self _ (by decide)
  exact q _ (bt_small (by omega) (by omega) (by decide))
 walk_at "rdx"
 rw[p40,p39]
 exact q _ ((bt_of (by omega) (by omega)).mono (by decide))
theorem sc_law_pair:FnScope ["_law_way","_law_one","_law_other"] ["_law_way","_law_one","_law_other"] (defScope s_law_pair):=⟨rfl,rfl,rfl,by decide +kernel,rfl,by decide +kernel,by decide +kernel⟩
theorem ok_law_pair{f:Addr}{fd:FuncData}(F:Fun K "_law_pair" "_law_pair" s_law_pair f fd)(er:Errs K mg c_FeastError c_NoNumber c_TooLong c_NoMeasure c_NoChange c_NoCycle c_Rule c_Each c_Dated c_Not c_Both c_Either c_But c_Unlike c_Later c_Upon c_Until c_Near c_Till c_Kth c_Every c_Measure c_Calendar c_Sun c_Change)(c_Both___init__:CalI P w K mg base (CX1 P w) 6 "Both" c_Both ["self","R","S"] (spI2E K c_Rule c_Each [c_Each,c_Dated,c_Not,c_Both,c_Either,c_But,c_Unlike,c_Later,c_Upon,c_Until,c_Near,c_Till,c_Kth,c_Every] c_Both c_NoNumber c_NoCycle c_TooLong))(c_Either___init__:CalI P w K mg base (CX1 P w) 6 "Either" c_Either ["self","R","S"] (spI2E K c_Rule c_Each [c_Each,c_Dated,c_Not,c_Both,c_Either,c_But,c_Unlike,c_Later,c_Upon,c_Until,c_Near,c_Till,c_Kth,c_Every] c_Either c_NoNumber c_NoCycle c_TooLong))(c_But___init__:CalI P w K mg base (CX1 P w) 7 "But" c_But ["self","R","S"] (spI2E K c_Rule c_Each [c_Each,c_Dated,c_Not,c_Both,c_Either,c_But,c_Unlike,c_Later,c_Upon,c_Until,c_Near,c_Till,c_Kth,c_Every] c_But c_NoNumber c_NoCycle c_TooLong))(c_Unlike___init__:CalI P w K mg base (CX1 P w) 6 "Unlike" c_Unlike ["self","R","S"] (spI2E K c_Rule c_Each [c_Each,c_Dated,c_Not,c_Both,c_Either,c_But,c_Unlike,c_Later,c_Upon,c_Until,c_Near,c_Till,c_Kth,c_Every] c_Unlike c_NoNumber c_NoCycle c_TooLong))(c_Upon___init__:CalI P w K mg base (CX1 P w) 8 "Upon" c_Upon ["self","R","S"] (spI2E K c_Rule c_Each [c_Each,c_Dated,c_Not,c_Both,c_Either,c_But,c_Unlike,c_Later,c_Upon,c_Until,c_Near,c_Till,c_Kth,c_Every] c_Upon c_NoNumber c_NoCycle c_TooLong))(c_Until___init__:CalI P w K mg base (CX1 P w) 8 "Until" c_Until ["self","R","S"] (spI2E K c_Rule c_Each [c_Each,c_Dated,c_Not,c_Both,c_Either,c_But,c_Unlike,c_Later,c_Upon,c_Until,c_Near,c_Till,c_Kth,c_Every] c_Until c_NoNumber c_NoCycle c_TooLong))(c_Near___init__:CalI P w K mg base (CX1 P w) 10 "Near" c_Near ["self","R","S"] (spI2E K c_Rule c_Each [c_Each,c_Dated,c_Not,c_Both,c_Either,c_But,c_Unlike,c_Later,c_Upon,c_Until,c_Near,c_Till,c_Kth,c_Every] c_Near c_NoNumber c_NoCycle c_TooLong))(c_Till___init__:CalI P w K mg base (CX1 P w) 8 "Till" c_Till ["self","R","S"] (spI2E K c_Rule c_Each [c_Each,c_Dated,c_Not,c_Both,c_Either,c_But,c_Unlike,c_Later,c_Upon,c_Until,c_Near,c_Till,c_Kth,c_Every] c_Till c_NoNumber c_NoCycle c_TooLong)):FnOk P w K mg base (CX1 P w) 12 f fd ["_law_way","_law_one","_law_other"] (spPair65 K c_Rule c_Each [c_Each,c_Dated,c_Not,c_Both,c_Either,c_But,c_Unlike,c_Later,c_Upon,c_Until,c_Near,c_Till,c_Kth,c_Every] c_NoNumber c_NoCycle c_TooLong):=by
 refine F.okE (k:=11) sc_law_pair (fun vs H Q E h=>?_) (fun cdv A outer s H vs Q E hr h T=>?_)
 ·obtain⟨w',r,t,n1,n2,b1,b2,rfl,_⟩:=h
  rfl
 obtain⟨w',r,t,n1,n2,b1,b2,rfl,R1,R2,h⟩:=h
 refine⟨_,(pss_cons (ps_if (pt_cmpR op_eq (pv 0) pe_int (nomark _))
  (pss_one (ps_ret (pe_mkE T c_Both___init__ (hr.mono (by decide)) rfl (pa_cons (pv 1) (pa_cons (pv 2) pa_nil)))))
  pss_nil)
  (pss_cons (ps_if (pt_cmpR op_eq (pv 0) pe_int (nomark _))
   (pss_one (ps_ret (pe_mkE T c_Either___init__ (hr.mono (by decide)) rfl (pa_cons (pv 1) (pa_cons (pv 2) pa_nil)))))
   pss_nil)
  (pss_cons (ps_if (pt_cmpR op_eq (pv 0) pe_int (nomark _))
   (pss_one (ps_ret (pe_mkE T c_But___init__ (hr.mono (by decide)) rfl (pa_cons (pv 1) (pa_cons (pv 2) pa_nil)))))
   pss_nil)
  (pss_cons (ps_if (pt_cmpR op_eq (pv 0) pe_int (nomark _))
   (pss_one (ps_ret (pe_mkE T c_Unlike___init__ (hr.mono (by decide)) rfl (pa_cons (pv 1) (pa_cons (pv 2) pa_nil)))))
   pss_nil)
  (pss_cons (ps_if (pt_cmpR op_eq (pv 0) pe_int (nomark _))
   (pss_one (ps_ret (pe_mkE T c_Upon___init__ (hr.mono (by decide)) rfl (pa_cons (pv 1) (pa_cons (pv 2) pa_nil)))))
   pss_nil)
  (pss_cons (ps_if (pt_cmpR op_eq (pv 0) pe_int (nomark _))
   (pss_one (ps_ret (pe_mkE T c_Until___init__ (hr.mono (by decide)) rfl (pa_cons (pv 1) (pa_cons (pv 2) pa_nil)))))
   pss_nil)
  (pss_cons (ps_if (pt_cmpR op_eq (pv 0) pe_int (nomark _))
   (pss_one (ps_ret (pe_mkE T c_Near___init__ (hr.mono (by decide)) rfl (pa_cons (pv 1) (pa_cons (pv 2) pa_nil)))))
   pss_nil)
  (pss_one (ps_ret (pe_mkE T c_Till___init__ (hr.mono (by decide)) rfl (pa_cons (pv 1) (pa_cons (pv 2) pa_nil)))))))))))),?_⟩
 walk_at "rdx"
 refine ite2d (fun _=>?_) (fun _=>?_)
 ·skip
  walk_at "rdx"
  intro x dx h1 h2 ne
  have s:=made_in h1 h2 (o:=.own x) (o':=.ins c_Both dx [])
  exact⟨x,r,t,n1,n2,b1,b2,rfl,R1.same s,R2.same s,made_due h1 h2 ne h⟩
 walk_at "rdx"
 refine ite2d (fun _=>?_) (fun _=>?_)
 ·skip
  walk_at "rdx"
  intro x dx h1 h2 ne
  have s:=made_in h1 h2 (o:=.own x) (o':=.ins c_Either dx [])
  exact⟨x,r,t,n1,n2,b1,b2,rfl,R1.same s,R2.same s,made_due h1 h2 ne h⟩
 walk_at "rdx"
 refine ite2d (fun _=>?_) (fun _=>?_)
 ·skip
  walk_at "rdx"
  intro x dx h1 h2 ne
  have s:=made_in h1 h2 (o:=.own x) (o':=.ins c_But dx [])
  exact⟨x,r,t,n1,n2,b1,b2,rfl,R1.same s,R2.same s,made_due h1 h2 ne h⟩
 walk_at "rdx"
 refine ite2d (fun _=>?_) (fun _=>?_)
 ·skip
  walk_at "rdx"
  intro x dx h1 h2 ne
  have s:=made_in h1 h2 (o:=.own x) (o':=.ins c_Unlike dx [])
  exact⟨x,r,t,n1,n2,b1,b2,rfl,R1.same s,R2.same s,made_due h1 h2 ne h⟩
 walk_at "rdx"
 refine ite2d (fun _=>?_) (fun _=>?_)
 ·skip
  walk_at "rdx"
  intro x dx h1 h2 ne
  have s:=made_in h1 h2 (o:=.own x) (o':=.ins c_Upon dx [])
  exact⟨x,r,t,n1,n2,b1,b2,rfl,R1.same s,R2.same s,made_due h1 h2 ne h⟩
 walk_at "rdx"
 refine ite2d (fun _=>?_) (fun _=>?_)
 ·skip
  walk_at "rdx"
  intro x dx h1 h2 ne
  have s:=made_in h1 h2 (o:=.own x) (o':=.ins c_Until dx [])
  exact⟨x,r,t,n1,n2,b1,b2,rfl,R1.same s,R2.same s,made_due h1 h2 ne h⟩
 walk_at "rdx"
 refine ite2d (fun _=>?_) (fun _=>?_)
 ·skip
  walk_at "rdx"
  intro x dx h1 h2 ne
  have s:=made_in h1 h2 (o:=.own x) (o':=.ins c_Near dx [])
  exact⟨x,r,t,n1,n2,b1,b2,rfl,R1.same s,R2.same s,made_due h1 h2 ne h⟩
 walk_at "rdx"
 intro x dx h1 h2 ne
 have s:=made_in h1 h2 (o:=.own x) (o':=.ins c_Till dx [])
 exact⟨x,r,t,n1,n2,b1,b2,rfl,R1.same s,R2.same s,made_due h1 h2 ne h⟩
theorem sc_law_made:FnScope ["_law_way","_law_number_here","_law_one","_law_other","_law_told_here"] ["_law_way","_law_number_here","_law_one","_law_other","_law_told_here"] (defScope s_law_made):=⟨rfl,rfl,rfl,by decide +kernel,rfl,by decide +kernel,by decide +kernel⟩
theorem ok_law_made{f:Addr}{fd:FuncData}(F:Fun K "_law_made" "_law_made" s_law_made f fd)(er:Errs K mg c_FeastError c_NoNumber c_TooLong c_NoMeasure c_NoChange c_NoCycle c_Rule c_Each c_Dated c_Not c_Both c_Either c_But c_Unlike c_Later c_Upon c_Until c_Near c_Till c_Kth c_Every c_Measure c_Calendar c_Sun c_Change)(c__law_pair:CalE P w K mg base 12 "_law_pair" ["_law_way","_law_one","_law_other"] (spPair65 K c_Rule c_Each [c_Each,c_Dated,c_Not,c_Both,c_Either,c_But,c_Unlike,c_Later,c_Upon,c_Until,c_Near,c_Till,c_Kth,c_Every] c_NoNumber c_NoCycle c_TooLong))(c_Kth___init__:CalI P w K mg base (CX1 P w) 9 "Kth" c_Kth ["self","number","R","S"] (spIKE K c_Rule c_Each [c_Each,c_Dated,c_Not,c_Both,c_Either,c_But,c_Unlike,c_Later,c_Upon,c_Until,c_Near,c_Till,c_Kth,c_Every] c_Kth c_NoNumber c_NoCycle c_TooLong))(c_Every___init__:CalI P w K mg base (CX1 P w) 7 "Every" c_Every ["self","number","R","day"] (spIVE K c_Rule c_Each [c_Each,c_Dated,c_Not,c_Both,c_Either,c_But,c_Unlike,c_Later,c_Upon,c_Until,c_Near,c_Till,c_Kth,c_Every] c_Every c_NoNumber c_NoCycle c_TooLong))(c_Each___init__:CalI P w K mg base (CX1 P w) 5 "Each" c_Each ["self","size","rest"] (spIEE K c_Rule [c_Each] c_Each c_NoNumber c_NoCycle c_TooLong))(c_Not___init__:CalI P w K mg base (CX1 P w) 3 "Not" c_Not ["self","R"] (spI1E K c_Rule c_Each [c_Each,c_Dated,c_Not,c_Both,c_Either,c_But,c_Unlike,c_Later,c_Upon,c_Until,c_Near,c_Till,c_Kth,c_Every] c_Not c_NoNumber c_NoCycle c_TooLong))(c_Later___init__:CalI P w K mg base (CX1 P w) 3 "Later" c_Later ["self","number","R"] (spILE K c_Rule c_Each [c_Each,c_Dated,c_Not,c_Both,c_Either,c_But,c_Unlike,c_Later,c_Upon,c_Until,c_Near,c_Till,c_Kth,c_Every] c_Later c_NoNumber c_NoCycle c_TooLong))(c_Dated___init__:CalI P w K mg base (CX1 P w) 6 "Dated" c_Dated ["self","name","calendar","month","day","step","rest"] (spIDE K c_Rule [c_Each,c_Dated,c_Not,c_Both,c_Either,c_But,c_Unlike,c_Later,c_Upon,c_Until,c_Near,c_Till,c_Kth,c_Every] c_Dated c_Sun c_Measure c_Change c_NoNumber c_NoCycle c_TooLong)):FnOk P w K mg base (CX1 P w) 13 f fd ["_law_way","_law_number_here","_law_one","_law_other","_law_told_here"] (spMade65 K c_Rule c_Each [c_Each,c_Dated,c_Not,c_Both,c_Either,c_But,c_Unlike,c_Later,c_Upon,c_Until,c_Near,c_Till,c_Kth,c_Every] c_Sun c_Measure c_Change c_NoNumber c_NoCycle c_TooLong):=by
 refine F.okE (k:=12) sc_law_made (fun vs H Q E h=>?_) (fun cdv A outer s H vs Q E hr h T=>?_)
 ·obtain⟨w',k,n1,n2,r,t,p,m,i,st,kk,ch,rfl,_⟩:=h
  rfl
 obtain⟨w',k,n1,n2,r,t,p,m,i,st,kk,ch,rfl,a,w0,w1,bk,h⟩:=h
 obtain⟨b1,R1⟩:=a.r1
 obtain⟨b2,R2⟩:=a.r2
 obtain⟨y,hp,C⟩:=a.told
 unfold due65 at h
 refine⟨_,(pss_cons (ps_if (pt_cmpR op_lt (pv 0) pe_int (nomark _))
  (pss_one (ps_ret (pe_calE T c__law_pair (hr.mono (by decide)) rfl (pa_cons (pv 0) (pa_cons (pv 2) (pa_cons (pv 3) pa_nil))))))
  pss_nil)
  (pss_cons (ps_if (pt_cmpR op_eq (pv 0) pe_int (nomark _))
   (pss_one (ps_ret (pe_mkE T c_Kth___init__ (hr.mono (by decide)) rfl (pa_cons (pv 1) (pa_cons (pv 2) (pa_cons (pv 3) pa_nil))))))
   pss_nil)
  (pss_cons (ps_if (pt_cmpR op_eq (pv 0) pe_int (nomark _))
   (pss_one (ps_ret (pe_mkE T c_Every___init__ (hr.mono (by decide)) rfl (pa_cons (pv 1) (pa_cons (pv 2) (pa_cons (pv 1) pa_nil))))))
   pss_nil)
  (pss_cons (ps_if (pt_cmpR op_eq (pv 0) pe_int (nomark _))
   (pss_one (ps_ret (pe_mkE T c_Each___init__ (hr.mono (by decide)) rfl (pa_cons (pv 1) (pa_cons (pv 1) pa_nil)))))
   pss_nil)
  (pss_cons (ps_if (pt_cmpR op_eq (pv 0) pe_int (nomark _))
   (pss_one (ps_ret (pe_mkE T c_Not___init__ (hr.mono (by decide)) rfl (pa_cons (pv 2) pa_nil))))
   pss_nil)
  (pss_cons (ps_if (pt_cmpR op_eq (pv 0) pe_int (nomark _))
   (pss_one (ps_ret (pe_mkE T c_Later___init__ (hr.mono (by decide)) rfl (pa_cons (pv 1) (pa_cons (pv 2) pa_nil)))))
   pss_nil)
  (pss_one (ps_ret (pe_mkE T c_Dated___init__ (hr.mono (by decide)) rfl (pa_cons pe_str (pa_cons (pe_ix ix_tup (pv 4) pe_int (fun _ _=>rfl)) (pa_cons (pe_ix ix_tup (pv 4) pe_int (fun _ _=>rfl)) (pa_cons (pe_ix ix_tup (pv 4) pe_int (fun _ _=>rfl)) (pa_cons (pe_ix ix_tup (pv 4) pe_int (fun _ _=>rfl)) (pa_cons (pv 1) pa_nil))))))))))))))),?_⟩
 walk_at "rdx"
 refine ite2d (fun c=>?_) (fun c8=>?_)
 ·rw[if_pos c] at h
  walk_at "rdx"
  exact⟨w',r,t,n1,n2,b1,b2,rfl,R1,R2,h⟩
 rw[if_neg c8] at h
 walk_at "rdx"
 by_cases c:w'=8
 ·rw[if_pos c] at h
  refine iteD (congrArg V.int c) ?_
  walk_at "rdx"
  intro x dx h1 h2 ne
  have s:=made_in h1 h2 (o:=.own x) (o':=.ins c_Kth dx [])
  exact⟨x,r,t,k,n1,n2,b1,b2,rfl,bk.mono (by decide),R1.same s,R2.same s,made_due h1 h2 ne h⟩
 rw[if_neg c] at h
 refine iteN (fun z=>c (V.int.inj z)) ?_
 walk_at "rdx"
 by_cases c9:w'=9
 ·rw[if_pos c9] at h
  refine iteD (congrArg V.int c9) ?_
  walk_at "rdx"
  intro x dx h1 h2 ne
  have s:=made_in h1 h2 (o:=.own x) (o':=.ins c_Every dx [])
  exact⟨x,r,k,k,n1,b1,rfl,bk,bk,R1.same s,made_due h1 h2 ne h⟩
 rw[if_neg c9] at h
 refine iteN (fun z=>c9 (V.int.inj z)) ?_
 walk_at "rdx"
 by_cases c10:w'=10
 ·rw[if_pos c10] at h
  refine iteD (congrArg V.int c10) ?_
  walk_at "rdx"
  intro x dx h1 h2 ne
  exact⟨x,k,k,rfl,bk.mono (by decide),bk.mono (by decide),made_due h1 h2 ne (ends_one (List.mem_of_getElem? (i:=0) rfl) h)⟩
 rw[if_neg c10] at h
 refine iteN (fun z=>c10 (V.int.inj z)) ?_
 walk_at "rdx"
 by_cases c11:w'=11
 ·rw[if_pos (by omega)] at h
  refine iteD (congrArg V.int c11) ?_
  walk_at "rdx"
  intro x dx h1 h2 ne
  have s:=made_in h1 h2 (o:=.own x) (o':=.ins c_Not dx [])
  exact⟨x,r,n1,b1,rfl,R1.same s,made_due h1 h2 ne h⟩
 refine iteN (fun z=>c11 (V.int.inj z)) ?_
 walk_at "rdx"
 by_cases c12:w'=12
 ·rw[if_pos (by omega)] at h
  refine iteD (congrArg V.int c12) ?_
  walk_at "rdx"
  intro x dx h1 h2 ne
  have s:=made_in h1 h2 (o:=.own x) (o':=.ins c_Later dx [])
  exact⟨x,r,k,n1,b1,rfl,bk.mono (by decide),R1.same s,made_due h1 h2 ne h⟩
 rw[if_neg (by omega)] at h
 refine iteN (fun z=>c12 (V.int.inj z)) ?_
 have lg:∀{o:Option Int},(∀j,o=some j→j.natAbs≤1000)→∀j,o=some j→j.natAbs.log2<1920:=fun ho j hj=>by
  have:=ho j hj
  exact log_small (by omega) (by omega)
 walk_at "rdx"
 refine rd_ixT (SqT.of hp) at_0 ?_
 walk_at "rdx"
 refine rd_ixT (SqT.of hp) at_1 ?_
 walk_at "rdx"
 refine rd_ixT (SqT.of hp) at_2 ?_
 walk_at "rdx"
 refine rd_ixT (SqT.of hp) at_3 ?_
 walk_at "rdx"
 intro x dx h1 h2 ne
 have s:=made_in h1 h2 (o:=.own x) (o':=.ins c_Dated dx [])
 exact⟨x,y,_,kk,ch,m,i,st,k,rfl,⟨by decide +kernel,by decide +kernel⟩,lg a.m0,lg a.i0,C.same s,a.k0,a.k1,a.s1,a.s0,made_due h1 h2 ne h⟩
theorem sc_law_told:FnScope ["_law_way","_law_number_here","_law_one","_law_other","_law_told_here","_law_found","_law_word","_law_needed","_law_fits","e"] ["_law_way","_law_number_here","_law_one","_law_other","_law_told_here"] (defScope s_law_told):=⟨rfl,rfl,rfl,by decide +kernel,rfl,by decide +kernel,by decide +kernel⟩
theorem ok_law_told{f:Addr}{fd:FuncData}(F:Fun K "_law_told" "_law_told" s_law_told f fd)(er:Errs K mg c_FeastError c_NoNumber c_TooLong c_NoMeasure c_NoChange c_NoCycle c_Rule c_Each c_Dated c_Not c_Both c_Either c_But c_Unlike c_Later c_Upon c_Until c_Near c_Till c_Kth c_Every c_Measure c_Calendar c_Sun c_Change)(c__law_made:CalE P w K mg base 13 "_law_made" ["_law_way","_law_number_here","_law_one","_law_other","_law_told_here"] (spMade65 K c_Rule c_Each [c_Each,c_Dated,c_Not,c_Both,c_Either,c_But,c_Unlike,c_Later,c_Upon,c_Until,c_Near,c_Till,c_Kth,c_Every] c_Sun c_Measure c_Change c_NoNumber c_NoCycle c_TooLong))(c_Each_size:CalM P w K mg base CX0 1 c_Each "size" ["self"] (spSizeM K c_Rule [c_Each,c_Dated,c_Not,c_Both,c_Either,c_But,c_Unlike,c_Later,c_Upon,c_Until,c_Near,c_Till,c_Kth,c_Every]))(c_Dated_size:CalM P w K mg base CX0 1 c_Dated "size" ["self"] (spSizeM K c_Rule [c_Each,c_Dated,c_Not,c_Both,c_Either,c_But,c_Unlike,c_Later,c_Upon,c_Until,c_Near,c_Till,c_Kth,c_Every]))(c_Not_size:CalM P w K mg base CX0 1 c_Not "size" ["self"] (spSizeM K c_Rule [c_Each,c_Dated,c_Not,c_Both,c_Either,c_But,c_Unlike,c_Later,c_Upon,c_Until,c_Near,c_Till,c_Kth,c_Every]))(c_Both_size:CalM P w K mg base CX0 1 c_Both "size" ["self"] (spSizeM K c_Rule [c_Each,c_Dated,c_Not,c_Both,c_Either,c_But,c_Unlike,c_Later,c_Upon,c_Until,c_Near,c_Till,c_Kth,c_Every]))(c_Either_size:CalM P w K mg base CX0 1 c_Either "size" ["self"] (spSizeM K c_Rule [c_Each,c_Dated,c_Not,c_Both,c_Either,c_But,c_Unlike,c_Later,c_Upon,c_Until,c_Near,c_Till,c_Kth,c_Every]))(c_But_size:CalM P w K mg base CX0 1 c_But "size" ["self"] (spSizeM K c_Rule [c_Each,c_Dated,c_Not,c_Both,c_Either,c_But,c_Unlike,c_Later,c_Upon,c_Until,c_Near,c_Till,c_Kth,c_Every]))(c_Unlike_size:CalM P w K mg base CX0 1 c_Unlike "size" ["self"] (spSizeM K c_Rule [c_Each,c_Dated,c_Not,c_Both,c_Either,c_But,c_Unlike,c_Later,c_Upon,c_Until,c_Near,c_Till,c_Kth,c_Every]))(c_Later_size:CalM P w K mg base CX0 1 c_Later "size" ["self"] (spSizeM K c_Rule [c_Each,c_Dated,c_Not,c_Both,c_Either,c_But,c_Unlike,c_Later,c_Upon,c_Until,c_Near,c_Till,c_Kth,c_Every]))(c_Upon_size:CalM P w K mg base CX0 1 c_Upon "size" ["self"] (spSizeM K c_Rule [c_Each,c_Dated,c_Not,c_Both,c_Either,c_But,c_Unlike,c_Later,c_Upon,c_Until,c_Near,c_Till,c_Kth,c_Every]))(c_Until_size:CalM P w K mg base CX0 1 c_Until "size" ["self"] (spSizeM K c_Rule [c_Each,c_Dated,c_Not,c_Both,c_Either,c_But,c_Unlike,c_Later,c_Upon,c_Until,c_Near,c_Till,c_Kth,c_Every]))(c_Near_size:CalM P w K mg base CX0 1 c_Near "size" ["self"] (spSizeM K c_Rule [c_Each,c_Dated,c_Not,c_Both,c_Either,c_But,c_Unlike,c_Later,c_Upon,c_Until,c_Near,c_Till,c_Kth,c_Every]))(c_Till_size:CalM P w K mg base CX0 1 c_Till "size" ["self"] (spSizeM K c_Rule [c_Each,c_Dated,c_Not,c_Both,c_Either,c_But,c_Unlike,c_Later,c_Upon,c_Until,c_Near,c_Till,c_Kth,c_Every]))(c_Kth_size:CalM P w K mg base CX0 1 c_Kth "size" ["self"] (spSizeM K c_Rule [c_Each,c_Dated,c_Not,c_Both,c_Either,c_But,c_Unlike,c_Later,c_Upon,c_Until,c_Near,c_Till,c_Kth,c_Every]))(c_Every_size:CalM P w K mg base CX0 1 c_Every "size" ["self"] (spSizeM K c_Rule [c_Each,c_Dated,c_Not,c_Both,c_Either,c_But,c_Unlike,c_Later,c_Upon,c_Until,c_Near,c_Till,c_Kth,c_Every]))(c__law_whole:Cal P w K mg base 1 "_law_whole" ["_law_found"] spWhole)(z_isinstance:mg "isinstance"=none):FnOk P w K mg base CX0 14 f fd ["_law_way","_law_number_here","_law_one","_law_other","_law_told_here"] (spTold65 K c_Rule c_Each [c_Each,c_Dated,c_Not,c_Both,c_Either,c_But,c_Unlike,c_Later,c_Upon,c_Until,c_Near,c_Till,c_Kth,c_Every] c_Sun c_Measure c_Change):=by
 refine F.ok (k:=13) sc_law_told (fun vs H Q E h=>?_) (fun cdv A outer s H vs Q E hr h=>?_)
 ·obtain⟨w',k,n1,n2,r,t,p,m,i,st,kk,ch,rfl,_⟩:=h
  rfl
 obtain⟨w',k,n1,n2,r,t,p,m,i,st,kk,ch,rfl,a,w0,w1,bk,q⟩:=h
 refine⟨_,(pss_cons (ps_set (i:=5) sc_law_told.nd rfl (by first | exact Or.inl rfl | exact Or.inr rfl) pe_non)
  (pss_cons (ps_set (i:=6) sc_law_told.nd rfl (by first | exact Or.inl rfl | exact Or.inr rfl) pe_str)
  (pss_cons (ps_set (i:=7) sc_law_told.nd rfl (by first | exact Or.inl rfl | exact Or.inr rfl) pe_int)
  (pss_cons (ps_set (i:=8) sc_law_told.nd rfl (by first | exact Or.inl rfl | exact Or.inr rfl) pe_bl)
  (pss_cons (ps_cut (ps_try rfl rfl (fun _ _ _ T=>(pss_one (ps_set (i:=5) sc_law_told.nd rfl (by first | exact Or.inl rfl | exact Or.inr rfl) (pe_calE T c__law_made (hr.mono (by decide)) rfl (pa_cons (pv 0) (pa_cons (pv 1) (pa_cons (pv 2) (pa_cons (pv 3) (pa_cons (pv 4) pa_nil)))))))))
   (phs_consA (i:=9) er.h_NoNumber rfl sc_law_told.nd rfl rfl (fun _=>(pss_cons (ps_set (i:=6) sc_law_told.nd rfl (by first | exact Or.inl rfl | exact Or.inr rfl) pe_str)
  (pss_one (ps_set (i:=8) sc_law_told.nd rfl (by first | exact Or.inl rfl | exact Or.inr rfl) (pe_and (pe_callB call_isiX rfl z_isinstance PyProof.Rows.boot_isinstance (pa_cons (pv 9) (pa_cons (pe_glob rfl er.m_FeastError (rel_ref _)) pa_nil))) (pe_one (pe_not (pe_callB call_isiX rfl z_isinstance PyProof.Rows.boot_isinstance (pa_cons (pv 9) (pa_cons (pe_glob rfl er.m_TooLong (rel_ref _)) pa_nil))))))))))
   (phs_consA (i:=9) er.h_NoCycle rfl sc_law_told.nd rfl rfl (fun _=>(pss_cons (ps_set (i:=6) sc_law_told.nd rfl (by first | exact Or.inl rfl | exact Or.inr rfl) pe_str)
  (pss_one (ps_set (i:=8) sc_law_told.nd rfl (by first | exact Or.inl rfl | exact Or.inr rfl) (pe_and (pe_callB call_isiX rfl z_isinstance PyProof.Rows.boot_isinstance (pa_cons (pv 9) (pa_cons (pe_glob rfl er.m_FeastError (rel_ref _)) pa_nil))) (pe_one (pe_not (pe_callB call_isiX rfl z_isinstance PyProof.Rows.boot_isinstance (pa_cons (pv 9) (pa_cons (pe_glob rfl er.m_NoNumber (rel_ref _)) pa_nil))))))))))
   (phs_consA (i:=9) er.h_TooLong rfl sc_law_told.nd rfl rfl (fun _=>(pss_cons (ps_set (i:=6) sc_law_told.nd rfl (by first | exact Or.inl rfl | exact Or.inr rfl) pe_str)
  (pss_cons (ps_set (i:=7) sc_law_told.nd rfl (by first | exact Or.inl rfl | exact Or.inr rfl) (pe_xget (pv 9) (by rfl)))
  (pss_one (ps_set (i:=8) sc_law_told.nd rfl (by first | exact Or.inl rfl | exact Or.inr rfl) (pe_and (pe_callB call_isiX rfl z_isinstance PyProof.Rows.boot_isinstance (pa_cons (pv 9) (pa_cons (pe_glob rfl er.m_FeastError (rel_ref _)) pa_nil))) (pe_one (pe_not (pe_callB call_isiX rfl z_isinstance PyProof.Rows.boot_isinstance (pa_cons (pv 9) (pa_cons (pe_glob rfl er.m_NoNumber (rel_ref _)) pa_nil)))))))))))
   phs_nil)))))
  (pss_cons (ps_cut (ps_if (pt_cmpR op_eq (pv 6) pe_str (nomark _))
   (pss_one (ps_set (i:=7) sc_law_told.nd rfl (by first | exact Or.inl rfl | exact Or.inr rfl) (pe_mcalL0 (k:=1) (CalL.cons er.cl_Each c_Each_size (by decide) (CalL.cons er.cl_Dated c_Dated_size (by decide) (CalL.cons er.cl_Not c_Not_size (by decide) (CalL.cons er.cl_Both c_Both_size (by decide) (CalL.cons er.cl_Either c_Either_size (by decide) (CalL.cons er.cl_But c_But_size (by decide) (CalL.cons er.cl_Unlike c_Unlike_size (by decide) (CalL.cons er.cl_Later c_Later_size (by decide) (CalL.cons er.cl_Upon c_Upon_size (by decide) (CalL.cons er.cl_Until c_Until_size (by decide) (CalL.cons er.cl_Near c_Near_size (by decide) (CalL.cons er.cl_Till c_Till_size (by decide) (CalL.cons er.cl_Kth c_Kth_size (by decide) (CalL.cons er.cl_Every c_Every_size (by decide) CalL.nil)))))))))))))) (hr.mono (by decide)) (pv 5))))
   pss_nil))
  (pss_cons (ps_if (PW.pt (pw_or (pt_not (pt_val (pv 8))) (pw_or1 (pt_not (pt_val (pe_cal c__law_whole (hr.mono (by decide)) rfl (pa_cons (pv 7) pa_nil)))))))
   (pss_one (ps_ret pe_non))
   pss_nil)
  (pss_one (ps_ret (pe_tup (pa_cons (pv 6) (pa_cons (pv 7) pa_nil)))))))))))),?_⟩
 walk_at "rdx"
 refine rd_cut (fun σ' H'=>Same H H'∧match due65 w' k n1 n2 m i st kk ch with
  | .num=>∃x:Option V,σ'=[some (.int w'),some (.int k),some (.ref r),some (.ref t),some (.ref p),x,some (.str "number"),some (.int 0),some (.bl true),none]
  | .cyc=>∃x:Option V,σ'=[some (.int w'),some (.int k),some (.ref r),some (.ref t),some (.ref p),x,some (.str "cycle"),some (.int 0),some (.bl true),none]
  | .long n=>∃x:Option V,σ'=[some (.int w'),some (.int k),some (.ref r),some (.ref t),some (.ref p),x,some (.str "long"),some (.int n),some (.bl true),none]
  | .made n=>∃(x:Addr) (b:Nat),σ'=[some (.int w'),some (.int k),some (.ref r),some (.ref t),some (.ref p),some (.ref x),some (.str "made"),some (.int 0),some (.bl true),none]∧RuleO K c_Rule [c_Each,c_Dated,c_Not,c_Both,c_Either,c_But,c_Unlike,c_Later,c_Upon,c_Until,c_Near,c_Till,c_Kth,c_Every] H' x n b) ?_ ?_
 ·walk_at "rdx"
  refine⟨w',k,n1,n2,r,t,p,m,i,st,kk,ch,rfl,a,w0,w1,bk,?_⟩
  cases hd:due65 w' k n1 n2 m i st kk ch with
  | made n=>
   intro x b H1 s1 R
   walk_at "rdx"
   exact⟨s1,x,b,rfl,R⟩
  | num=>
   intro H1 s1 ea hea
   refine rd_handA er.r_NoNumber_NoNumber ?_
   refine fresh hea fun H2 s2 t2=>?_
   walk_at "rdx"
   refine rd_isiX t2 trivial er.g_NoNumber rfl er.i_NoNumber_FeastError ?_
   walk_at "rdx"
   refine iteT ?_
   walk_at "rdx"
   refine rd_isiX t2 trivial er.g_NoNumber rfl er.i_NoNumber_TooLong ?_
   walk_at "rdx"
   exact⟨s1.trans s2,_,rfl⟩
  | cyc=>
   intro H1 s1 ea hea
   refine rd_handAN er.r_NoCycle_NoNumber (rd_handA er.r_NoCycle_NoCycle ?_)
   refine fresh hea fun H2 s2 t2=>?_
   walk_at "rdx"
   refine rd_isiX t2 trivial er.g_NoCycle rfl er.i_NoCycle_FeastError ?_
   walk_at "rdx"
   refine iteT ?_
   walk_at "rdx"
   refine rd_isiX t2 trivial er.g_NoCycle rfl er.i_NoCycle_NoNumber ?_
   walk_at "rdx"
   exact⟨s1.trans s2,_,rfl⟩
  | long n=>
   intro dd H1 s1 hx ea hea
   refine rd_handAN er.r_TooLong_NoNumber (rd_handAN er.r_TooLong_NoCycle (rd_handA er.r_TooLong_TooLong ?_))
   refine fresh hea fun H2 s2 t2=>?_
   have x2:=s2 _ _ hx
   walk_at "rdx"
   refine⟨ea,c_TooLong,dd,_,_,rfl,t2,x2,er.g_TooLong,er.d_TooLong,er.na_TooLong_needed,rfl,?_⟩
   walk_at "rdx"
   refine rd_isiX t2 ⟨_,x2⟩ er.g_TooLong rfl er.i_TooLong_FeastError ?_
   walk_at "rdx"
   refine iteT ?_
   walk_at "rdx"
   refine rd_isiX t2 ⟨_,x2⟩ er.g_TooLong rfl er.i_TooLong_NoNumber ?_
   walk_at "rdx"
   exact⟨s1.trans s2,_,rfl⟩
 rintro σ' H1 ⟨s1,hh⟩
 cases hd:due65 w' k n1 n2 m i st kk ch with
 | num=>
  rw[hd] at hh q
  obtain⟨x,rfl⟩:=hh
  walk_at "rdy"
  refine rd_cut (fun σ' H'=>σ'=[some (.int w'),some (.int k),some (.ref r),some (.ref t),some (.ref p),x,some (.str "number"),some (.int 0),some (.bl true),none]∧H'=H1) ?_ ?_
  ·walk_at "rdy"
   refine iteN (by intro z;cases z) ?_
   walk_at "rdy"
   exact⟨rfl,rfl⟩
  rintro σ' H2 ⟨rfl,rfl⟩
  walk_at "rdy"
  refine iteF ?_
  walk_at "rdy"
  refine iteF ?_
  walk_at "rdy"
  exact⟨two',fun p hp=>q p _ (s1.trans (same_new hp _)) upd_same⟩
 | cyc=>
  rw[hd] at hh q
  obtain⟨x,rfl⟩:=hh
  walk_at "rdy"
  refine rd_cut (fun σ' H'=>σ'=[some (.int w'),some (.int k),some (.ref r),some (.ref t),some (.ref p),x,some (.str "cycle"),some (.int 0),some (.bl true),none]∧H'=H1) ?_ ?_
  ·walk_at "rdy"
   refine iteN (by intro z;cases z) ?_
   walk_at "rdy"
   exact⟨rfl,rfl⟩
  rintro σ' H2 ⟨rfl,rfl⟩
  walk_at "rdy"
  refine iteF ?_
  walk_at "rdy"
  refine iteF ?_
  walk_at "rdy"
  exact⟨two',fun p hp=>q p _ (s1.trans (same_new hp _)) upd_same⟩
 | long n=>
  rw[hd] at hh q
  obtain⟨x,rfl⟩:=hh
  walk_at "rdy"
  refine rd_cut (fun σ' H'=>σ'=[some (.int w'),some (.int k),some (.ref r),some (.ref t),some (.ref p),x,some (.str "long"),some (.int n),some (.bl true),none]∧H'=H1) ?_ ?_
  ·walk_at "rdy"
   refine iteN (by intro z;cases z) ?_
   walk_at "rdy"
   exact⟨rfl,rfl⟩
  rintro σ' H2 ⟨rfl,rfl⟩
  walk_at "rdy"
  refine iteF ?_
  walk_at "rdy"
  refine iteF ?_
  walk_at "rdy"
  exact⟨two',fun p hp=>q p _ (s1.trans (same_new hp _)) upd_same⟩
 | made n=>
  rw[hd] at hh q
  obtain⟨x,b,rfl,R⟩:=hh
  walk_at "rdy"
  refine rd_cut (fun σ' H'=>σ'=[some (.int w'),some (.int k),some (.ref r),some (.ref t),some (.ref p),some (.ref x),some (.str "made"),some (.int n),some (.bl true),none]∧H'=H1) ?_ ?_
  ·walk_at "rdy"
   refine iteD rfl ?_
   walk_at "rdy"
   obtain⟨C,dx,fs,mm,hx2,_,l2,_⟩:=R.meth (spSizeM K c_Rule [c_Each,c_Dated,c_Not,c_Both,c_Either,c_But,c_Unlike,c_Later,c_Upon,c_Until,c_Near,c_Till,c_Kth,c_Every])
   refine⟨x,C,dx,fs,_,mm,rfl,hx2,l2,?_⟩
   walk_at "rdy"
   refine⟨x,n,b,rfl,R,?_⟩
   walk_at "rdy"
   exact⟨rfl,rfl⟩
  rintro σ' H2 ⟨rfl,rfl⟩
  walk_at "rdy"
  refine iteF ?_
  walk_at "rdy"
  refine iteF ?_
  walk_at "rdy"
  exact⟨two',fun p hp=>q p _ (s1.trans (same_new hp _)) upd_same⟩
theorem sc_law_size:FnScope ["_law_way","_law_number_here","_law_one","_law_other","_law_told_here"] ["_law_way","_law_number_here","_law_one","_law_other","_law_told_here"] (defScope s_law_size):=⟨rfl,rfl,rfl,by decide +kernel,rfl,by decide +kernel,by decide +kernel⟩
theorem ok_law_size{f:Addr}{fd:FuncData}(F:Fun K "_law_size" "_law_size" s_law_size f fd)(c__law_divisor:Cal P w K mg base 1 "_law_divisor" ["_law_one","_law_other"] spDivW):FnOk P w K mg base CX0 2 f fd ["_law_way","_law_number_here","_law_one","_law_other","_law_told_here"] spSize65:=by
 refine F.ok (k:=1) sc_law_size (fun vs H Q E h=>?_) (fun cdv A outer s H vs Q E hr h=>?_)
 ·obtain⟨w',k,n1,n2,p,m,i,st,kk,ch,rfl,_⟩:=h
  rfl
 obtain⟨w',k,n1,n2,p,m,i,st,kk,ch,rfl,z,q⟩:=h
 obtain⟨y,hp⟩:=z.told
 have x0:=z.n10
 have x1:=z.n11
 have y0:=z.n20
 have y1:=z.n21
 have k0:=z.k0
 have k1:=z.k1
 have s0:=z.s0
 have s1:=z.s1
 unfold sz65 at q
 refine⟨_,(pss_cons (ps_if (pt_cmpR op_lt (pv 0) pe_int (nomark _))
  (pss_one (ps_ret (pe_op op_mulB (pe_op op_fdivB (pv 2) (pe_cal c__law_divisor (hr.mono (by decide)) rfl (pa_cons (pv 2) (pa_cons (pv 3) pa_nil)))) (pv 3))))
  pss_nil)
  (pss_cons (ps_if (pt_cmpR op_eq (pv 0) pe_int (nomark _))
   (pss_one (ps_ret (pe_op op_mulB (pv 2) (pv 1))))
   pss_nil)
  (pss_cons (ps_if (pt_cmpR op_eq (pv 0) pe_int (nomark _))
   (pss_one (ps_ret (pv 1)))
   pss_nil)
  (pss_cons (ps_if (pt_cmpR op_lt (pv 0) pe_int (nomark _))
   (pss_one (ps_ret (pv 2)))
   pss_nil)
  (pss_one (ps_ret (pe_op op_mulB (pe_ix ix_tup (pv 4) pe_int (fun _ _=>rfl)) (pe_ix ix_tup (pv 4) pe_int (fun _ _=>rfl))))))))),?_⟩
 walk_at "rdx"
 refine ite2d (fun c=>?_) (fun c=>?_)
 ·rw[if_pos c] at q
  walk_at "rdx"
  refine⟨n1,n2,rfl,by omega,by omega,?_⟩
  have g0:=gcd_pos (b:=n2) (show 0<n1 by omega)
  have g1:=gcd_le (b:=n2) (show 0<n1 by omega)
  refine rd_i (cdiv_small g0 (by omega)) ?_
  have d0:0≤n1/(Int.gcd n1 n2:Int):=Int.ediv_nonneg (by omega) (by omega)
  have d1:n1/(Int.gcd n1 n2:Int)≤n1:=Int.ediv_le_self _ (by omega)
  walk_at "rdx"
  refine rd_i ⟨64,64,bt_small (by omega) (by omega) (by decide),bt_small (by omega) (by omega) (by decide),by decide⟩ ?_
  exact q
 rw[if_neg c] at q
 walk_at "rdx"
 by_cases c9:w'=9
 ·rw[if_pos c9] at q
  refine iteD (congrArg V.int c9) ?_
  walk_at "rdx"
  exact rd_i ⟨64,250,bt_small (by omega) (by omega) (by decide),z.bk,by decide⟩ q
 rw[if_neg c9] at q
 refine iteN (fun z=>c9 (V.int.inj z)) ?_
 walk_at "rdx"
 by_cases c10:w'=10
 ·rw[if_pos c10] at q
  refine iteD (congrArg V.int c10) ?_
  walk_at "rdx"
  exact q
 rw[if_neg c10] at q
 refine iteN (fun z=>c10 (V.int.inj z)) ?_
 walk_at "rdx"
 refine ite2d (fun c=>?_) (fun c=>?_)
 ·rw[if_pos c] at q
  walk_at "rdx"
  exact q
 rw[if_neg c] at q
 walk_at "rdx"
 refine rd_ixT (SqT.of hp) at_4 ?_
 walk_at "rdx"
 refine rd_ixT (SqT.of hp) at_3 ?_
 exact rd_i ⟨64,64,bt_small (by omega) (by omega) (by decide),(show Bt 64 st by unfold Bt;omega),by decide⟩ q
theorem sc_law_due:FnScope ["_law_way","_law_number_here","_law_one","_law_other","_law_told_here","_law_size_here"] ["_law_way","_law_number_here","_law_one","_law_other","_law_told_here"] (defScope s_law_due):=⟨rfl,rfl,rfl,by decide +kernel,rfl,by decide +kernel,by decide +kernel⟩
theorem ok_law_due{f:Addr}{fd:FuncData}(F:Fun K "_law_due" "_law_due" s_law_due f fd)(c__law_size:Cal P w K mg base 2 "_law_size" ["_law_way","_law_number_here","_law_one","_law_other","_law_told_here"] spSize65):FnOk P w K mg base CX0 3 f fd ["_law_way","_law_number_here","_law_one","_law_other","_law_told_here"] spDue65:=by
 refine F.ok (k:=2) sc_law_due (fun vs H Q E h=>?_) (fun cdv A outer s H vs Q E hr h=>?_)
 ·obtain⟨w',k,n1,n2,p,m,i,st,kk,ch,rfl,_⟩:=h
  rfl
 obtain⟨w',k,n1,n2,p,m,i,st,kk,ch,rfl,z,w0,w1,q⟩:=h
 obtain⟨y,hp⟩:=z.told
 have num:due65 w' k n1 n2 m i st kk ch=.num→∀u,H u=none→Q (.ref u) (upd H u (.tup [.str "number",.int 0])):=fun e u hu=>q u _ (same_new hu _) (by rw[e];exact upd_same)
 have nv:∀{a b:Int},a≠b→V.int a≠V.int b:=fun h z=>h (V.int.inj z)
 refine⟨_,(pss_cons (ps_cut (ps_if (PW.pt (pw_or (PW.pt (pw_and (pt_cmpR op_eq (pv 0) pe_int (nomark _)) (pw_and1 (pt_cmpR op_eq (pv 1) pe_int (nomark _))))) (pw_or1 (PW.pt (pw_and (PW.pt (pw_or (pt_cmpR op_eq (pv 0) pe_int (nomark _)) (pw_or1 (pt_cmpR op_eq (pv 0) pe_int (nomark _))))) (pw_and1 (pt_cmpR op_lt (pv 1) pe_int (nomark _))))))))
  (pss_one (ps_ret (pe_tup (pa_cons pe_str (pa_cons pe_int pa_nil)))))
  pss_nil))
  (pss_cons (ps_cut (ps_if (pt_cmpR op_eq (pv 0) pe_int (nomark _))
   (pss_cons (ps_cut (ps_if (PW.pt (pw_or (PW.pt (pw_and (pt_cmpR op_notN (pe_ix ix_tup (pv 4) pe_int (fun _ _=>rfl)) pe_non (nomark _)) (pw_and1 (pt_cmpR op_lt (pe_ix ix_tup (pv 4) pe_int (fun _ _=>rfl)) pe_int (nomark _))))) (pw_or (pt_cmpR op_eq (pe_ix ix_tup (pv 4) pe_int (fun _ _=>rfl)) pe_int (nomark _)) (pw_or1 (pt_cmpR op_lt (pe_ix ix_tup (pv 4) pe_int (fun _ _=>rfl)) pe_int (nomark _))))))
   (pss_one (ps_ret (pe_tup (pa_cons pe_str (pa_cons pe_int pa_nil)))))
   pss_nil))
  (pss_one (ps_if (pt_val (pe_ix ix_tup (pv 4) pe_int (fun _ _=>rfl)))
   (pss_one (ps_ret (pe_tup (pa_cons pe_str (pa_cons pe_int pa_nil)))))
   pss_nil)))
   pss_nil))
  (pss_cons (ps_set (i:=5) sc_law_due.nd rfl (by first | exact Or.inl rfl | exact Or.inr rfl) (pe_cal c__law_size (hr.mono (by decide)) rfl (pa_cons (pv 0) (pa_cons (pv 1) (pa_cons (pv 2) (pa_cons (pv 3) (pa_cons (pv 4) pa_nil)))))))
  (pss_cons (ps_if (pt_cmpR op_gt (pv 5) pe_int (nomark _))
   (pss_one (ps_ret (pe_tup (pa_cons pe_str (pa_cons (pv 5) pa_nil)))))
   pss_nil)
  (pss_one (ps_ret (pe_tup (pa_cons pe_str (pa_cons (pv 5) pa_nil))))))))),?_⟩
 walk_at "rdx"
 refine rd_cut (fun σ' H'=>H'=H∧¬((w'=8∧k=0)∨((w'=9∨w'=10)∧k<1))∧σ'=[some (.int w'),some (.int k),some (.int n1),some (.int n2),some (.ref p),none]) ?_ ?_
 ·walk_at "rdx"
  by_cases c8:w'=8
  ·refine iteD (congrArg V.int c8) ?_
   walk_at "rdx"
   by_cases k0:k=0
   ·refine iteD (congrArg V.int k0) (iteT ?_)
    walk_at "rdx"
    exact⟨two',num (due_num (.inl ⟨c8,k0⟩))⟩
   ·refine iteN (nv k0) ?_
    walk_at "rdx"
    refine iteN (nv (by omega)) ?_
    walk_at "rdx"
    refine iteN (nv (by omega)) ?_
    walk_at "rdx"
    try refine iteF ?_
    walk_at "rdx"
    exact⟨rfl,by omega,rfl⟩
  refine iteN (nv c8) ?_
  walk_at "rdx"
  try refine iteF ?_
  walk_at "rdx"
  by_cases c9:w'=9
  ·refine iteD (congrArg V.int c9) ?_
   try refine iteT ?_
   walk_at "rdx"
   by_cases k1:k<1
   ·refine iteD k1 ?_
    try refine iteT ?_
    walk_at "rdx"
    exact⟨two',num (due_num (.inr ⟨.inl c9,k1⟩))⟩
   ·refine iteN k1 ?_
    walk_at "rdx"
    exact⟨rfl,by omega,rfl⟩
  refine iteN (nv c9) ?_
  walk_at "rdx"
  by_cases c10:w'=10
  ·refine iteD (congrArg V.int c10) ?_
   try refine iteT ?_
   walk_at "rdx"
   by_cases k1:k<1
   ·refine iteD k1 ?_
    try refine iteT ?_
    walk_at "rdx"
    exact⟨two',num (due_num (.inr ⟨.inr c10,k1⟩))⟩
   ·refine iteN k1 ?_
    walk_at "rdx"
    exact⟨rfl,by omega,rfl⟩
  refine iteN (nv c10) ?_
  try refine iteF ?_
  walk_at "rdx"
  exact⟨rfl,by omega,rfl⟩
 rintro σ' H' ⟨rfl,p1,rfl⟩
 walk_at "rdx"
 refine rd_cut (fun σ' H''=>H''=H'∧Plain65 w' k m i st ch∧σ'=[some (.int w'),some (.int k),some (.int n1),some (.int n2),some (.ref p),none]) ?_ ?_
 ·walk_at "rdx"
  by_cases c13:w'=13
  rotate_left
  ·refine iteN (nv c13) ?_
   walk_at "rdx"
   exact⟨rfl,⟨p1,fun z=>absurd z c13⟩,rfl⟩
  refine iteD (congrArg V.int c13) ?_
  have e13:due65 w' k n1 n2 m i st kk ch=due13 m i st kk ch:=by rw[c13];exact due_13
  have bad:¬WantOk m i st→∀u,H' u=none→Q (.ref u) (upd H' u (.tup [.str "number",.int 0])):=fun h=>num (e13.trans (d13n h))
  rw[want_iff] at bad
  walk_at "rdx"
  refine rd_cut (fun σ' H''=>H''=H'∧WantOk m i st∧σ'=[some (.int w'),some (.int k),some (.int n1),some (.int n2),some (.ref p),none]) ?_ ?_
  ·walk_at "rdx"
   refine rd_ixT (SqT.of hp) at_1 ?_
   walk_at "rdx"
   refine⟨rfl,?_⟩
   walk_at "rdx"
   cases m with
   | none=>
    have hm:∀j,(none:Option Int)=some j→1≤j:=fun j z=>nomatch z
    refine iteF ?_
    try refine iteF ?_
    walk_at "rdx"
    refine rd_ixT (SqT.of hp) at_2 ?_
    walk_at "rdx"
    cases i with
    | none=>
     have i0:(none:Option Int)≠some 0:=fun z=>nomatch z
     rw[show oI none=V.non from rfl]
     walk_at "rdx"
     refine iteN (fun z=>nomatch z) ?_
     walk_at "rdx"
     refine rd_ixT (SqT.of hp) at_3 ?_
     walk_at "rdx"
     by_cases s1:st<1
     ·refine iteD s1 ?_
      try refine iteT ?_
      walk_at "rdx"
      exact⟨two',bad fun W=>by have:=W.2.2;omega⟩
     refine iteN s1 ?_
     walk_at "rdx"
     exact⟨rfl,(want_iff _ _ _).mpr ⟨hm,i0,by omega⟩,rfl⟩
    | some j2=>
     rw[show oI (some j2)=V.int j2 from rfl]
     walk_at "rdx"
     by_cases j20:j2=0
     ·refine iteD (congrArg V.int j20) ?_
      try refine iteT ?_
      walk_at "rdx"
      exact⟨two',bad fun W=>W.2.1 (by rw[j20])⟩
     have i0:some j2≠some 0:=fun z=>j20 (by injection z)
     refine iteN (nv j20) ?_
     walk_at "rdx"
     refine rd_ixT (SqT.of hp) at_3 ?_
     walk_at "rdx"
     by_cases s1:st<1
     ·refine iteD s1 ?_
      try refine iteT ?_
      walk_at "rdx"
      exact⟨two',bad fun W=>by have:=W.2.2;omega⟩
     refine iteN s1 ?_
     walk_at "rdx"
     exact⟨rfl,(want_iff _ _ _).mpr ⟨hm,i0,by omega⟩,rfl⟩
   | some j=>
    refine iteT ?_
    have hp':H' p=some (.tup [.ref y,.int j,oI i,.int st,.int kk,.bl ch]):=hp
    walk_at "rdx"
    refine rd_ixT (SqT.of hp') at_1 ?_
    walk_at "rdx"
    by_cases j1:j<1
    ·refine iteD j1 ?_
     try refine iteT ?_
     walk_at "rdx"
     exact⟨two',bad fun W=>by have:=W.1 j rfl;omega⟩
    have hm:∀j',some j=some j'→1≤j':=fun j' z=>by cases z;omega
    refine iteN j1 ?_
    try refine iteF ?_
    walk_at "rdx"
    refine rd_ixT (SqT.of hp) at_2 ?_
    walk_at "rdx"
    cases i with
    | none=>
     have i0:(none:Option Int)≠some 0:=fun z=>nomatch z
     rw[show oI none=V.non from rfl]
     walk_at "rdx"
     refine iteN (fun z=>nomatch z) ?_
     walk_at "rdx"
     refine rd_ixT (SqT.of hp) at_3 ?_
     walk_at "rdx"
     by_cases s1:st<1
     ·refine iteD s1 ?_
      try refine iteT ?_
      walk_at "rdx"
      exact⟨two',bad fun W=>by have:=W.2.2;omega⟩
     refine iteN s1 ?_
     walk_at "rdx"
     exact⟨rfl,(want_iff _ _ _).mpr ⟨hm,i0,by omega⟩,rfl⟩
    | some j2=>
     rw[show oI (some j2)=V.int j2 from rfl]
     walk_at "rdx"
     by_cases j20:j2=0
     ·refine iteD (congrArg V.int j20) ?_
      try refine iteT ?_
      walk_at "rdx"
      exact⟨two',bad fun W=>W.2.1 (by rw[j20])⟩
     have i0:some j2≠some 0:=fun z=>j20 (by injection z)
     refine iteN (nv j20) ?_
     walk_at "rdx"
     refine rd_ixT (SqT.of hp) at_3 ?_
     walk_at "rdx"
     by_cases s1:st<1
     ·refine iteD s1 ?_
      try refine iteT ?_
      walk_at "rdx"
      exact⟨two',bad fun W=>by have:=W.2.2;omega⟩
     refine iteN s1 ?_
     walk_at "rdx"
     exact⟨rfl,(want_iff _ _ _).mpr ⟨hm,i0,by omega⟩,rfl⟩
  rintro σ' H'' ⟨rfl,W,rfl⟩
  walk_at "rdx"
  refine rd_ixT (SqT.of hp) at_5 ?_
  walk_at "rdx"
  cases ch with
  | true=>
   try refine⟨_,rfl,?_⟩
   refine iteT ?_
   walk_at "rdx"
   exact⟨two',fun u hu=>q u _ (same_new hu _) (by rw[e13,d13c W];exact upd_same)⟩
  | false=>
   try refine⟨_,rfl,?_⟩
   refine iteF ?_
   walk_at "rdx"
   exact⟨rfl,⟨p1,fun _=>⟨W,rfl⟩⟩,rfl⟩
 rintro σ' H'' ⟨rfl,P,rfl⟩
 walk_at "rdx"
 refine⟨w',k,n1,n2,p,m,i,st,kk,ch,rfl,z,?_⟩
 have e:=due_sz (n2:=n2) (kk:=kk) w0 w1 z.n10 z.n11 P
 rw[e] at q
 unfold fit65 at q
 generalize sz65 w' k n1 n2 st kk=sz at q ⊢
 walk_at "rdx"
 refine ite2d (fun c=>?_) (fun c=>?_)
 ·rw[if_pos c] at q
  walk_at "rdx"
  exact⟨two',fun u hu=>q u _ (same_new hu _) upd_same⟩
 ·rw[if_neg c] at q
  walk_at "rdx"
  exact⟨two',fun u hu=>q u _ (same_new hu _) upd_same⟩
theorem sc_law_calendar:FnScope ["_law_script","_law_cell","_law_many","_law_step","_law_calendar_here","_law_change","_law_month","_law_day"] ["_law_script"] (defScope s_law_calendar):=⟨rfl,rfl,rfl,by decide +kernel,rfl,by decide +kernel,by decide +kernel⟩
theorem ok_law_calendar{f:Addr}{fd:FuncData}(F:Fun K "_law_calendar" "_law_calendar" s_law_calendar f fd)(er:Errs K mg c_FeastError c_NoNumber c_TooLong c_NoMeasure c_NoChange c_NoCycle c_Rule c_Each c_Dated c_Not c_Both c_Either c_But c_Unlike c_Later c_Upon c_Until c_Near c_Till c_Kth c_Every c_Measure c_Calendar c_Sun c_Change)(c__law_cell_at:Cal P w K mg base 1 "_law_cell_at" ["_law_script","_law_k"] (spCell K))(c_Sun___init___d2:CalID P w K mg base CX0 7 "Sun" c_Sun ["self","start","lengths","leap","terms"] [(.int 1),.non] (spInitS K c_Sun c_Measure))(c_Change___init__:CalI P w K mg base CX0 6 "Change" c_Change ["self","old","new","day"] (spInitC65 K c_Sun c_Measure c_Change)):FnOk P w K mg base CX0 9 f fd ["_law_script"] (spCal65 K c_Sun c_Measure c_Change):=by
 refine F.ok (k:=8) sc_law_calendar (fun vs H Q E h=>?_) (fun cdv A outer s H vs Q E hr h=>?_)
 ·obtain⟨a,ns,rfl,_⟩:=h
  rfl
 obtain⟨a,ns,rfl,hS,h63,q⟩:=h
 refine⟨_,(pss_cons (ps_set (i:=1) sc_law_calendar.nd rfl (by first | exact Or.inl rfl | exact Or.inr rfl) (pe_cal c__law_cell_at (hr.mono (by decide)) rfl (pa_cons (pv 0) (pa_cons pe_int pa_nil))))
  (pss_cons (ps_set (i:=2) sc_law_calendar.nd rfl (by first | exact Or.inl rfl | exact Or.inr rfl) (pe_op op_add pe_int (pe_op op_mod (pv 1) pe_int)))
  (pss_cons (ps_set (i:=3) sc_law_calendar.nd rfl (by first | exact Or.inl rfl | exact Or.inr rfl) (pe_op op_sub (pe_op op_mod (pe_op op_fdivB (pe_cal c__law_cell_at (hr.mono (by decide)) rfl (pa_cons (pv 0) (pa_cons pe_int pa_nil))) pe_int) pe_int) pe_int))
  (pss_cons (ps_cut (ps_if (pt_cmpR op_eq (pe_op op_mod (pe_op op_fdivB (pv 1) pe_int) pe_int) pe_int (nomark _))
   (pss_cons (ps_set (i:=2) sc_law_calendar.nd rfl (by first | exact Or.inl rfl | exact Or.inr rfl) pe_int)
  (pss_one (ps_set (i:=3) sc_law_calendar.nd rfl (by first | exact Or.inl rfl | exact Or.inr rfl) (pe_op op_add pe_int (pe_op op_mod (pe_op op_fdivB (pe_cal c__law_cell_at (hr.mono (by decide)) rfl (pa_cons (pv 0) (pa_cons pe_int pa_nil))) pe_int) pe_int)))))
   pss_nil))
  (pss_cons (ps_set (i:=4) sc_law_calendar.nd rfl (by first | exact Or.inl rfl | exact Or.inr rfl) (pe_mkD c_Sun___init___d2 (hr.mono (by decide)) rfl (pa_cons pe_int (pa_cons (pe_lst (pa_cons (pv 2) pa_nil)) pa_nil))))
  (pss_cons (ps_set (i:=5) sc_law_calendar.nd rfl (by first | exact Or.inl rfl | exact Or.inr rfl) (pe_cmpR op_eq (pe_op op_mod (pe_op op_fdivB (pv 1) pe_int) pe_int) pe_int (nomark _)))
  (pss_cons (ps_cut (ps_if (pt_val (pv 5))
   (pss_one (ps_set (i:=4) sc_law_calendar.nd rfl (by first | exact Or.inl rfl | exact Or.inr rfl) (pe_mk c_Change___init__ (hr.mono (by decide)) rfl (pa_cons (pv 4) (pa_cons (pe_mkD c_Sun___init___d2 (hr.mono (by decide)) rfl (pa_cons pe_int (pa_cons (pe_lst (pa_cons (pv 2) pa_nil)) pa_nil))) (pa_cons pe_int pa_nil))))))
   pss_nil))
  (pss_cons (ps_set (i:=6) sc_law_calendar.nd rfl (by first | exact Or.inl rfl | exact Or.inr rfl) (pe_ix ix_list (pe_lst (pa_cons pe_non (pa_cons pe_int (pa_cons pe_int (pa_cons pe_int (pa_cons (pe_un un_neg pe_int) pa_nil)))))) (pe_op op_mod (pe_cal c__law_cell_at (hr.mono (by decide)) rfl (pa_cons (pv 0) (pa_cons pe_int pa_nil))) pe_int) (fun _ _=>rfl)))
  (pss_cons (ps_set (i:=7) sc_law_calendar.nd rfl (by first | exact Or.inl rfl | exact Or.inr rfl) (pe_ix ix_list (pe_lst (pa_cons pe_non (pa_cons pe_int (pa_cons (pe_un un_neg pe_int) (pa_cons pe_int (pa_cons pe_int pa_nil)))))) (pe_op op_mod (pe_op op_fdivB (pe_cal c__law_cell_at (hr.mono (by decide)) rfl (pa_cons (pv 0) (pa_cons pe_int pa_nil))) pe_int) pe_int) (fun _ _=>rfl)))
  (pss_one (ps_ret (pe_tup (pa_cons (pv 4) (pa_cons (pv 6) (pa_cons (pv 7) (pa_cons (pv 3) (pa_cons (pv 2) (pa_cons (pv 5) pa_nil)))))))))))))))))),?_⟩
 walk_at "rdc"
 generalize ns.getD (Int.toNat 5) 0=c5
 walk_at "rdc"
 refine rd_cut (fun σ' H'=>H'=H∧∃kk st:Int,1≤kk∧kk≤400∧ -1000≤st∧st≤1000∧σ'=[some (.ref a),some (.int c5),some (.int kk),some (.int st),none,none,none,none]) ?_ ?_
 ·walk_at "rdc"
  refine ite2d (fun _=>?_) (fun _=>?_)
  ·walk_at "rdc"
   exact⟨rfl,_,_,by decide,by decide,by omega,by omega,rfl⟩
  ·walk_at "rdc"
   exact⟨rfl,_,_,by omega,by omega,by omega,by omega,rfl⟩
 rintro σ' H' ⟨rfl,kk,st,k0,k1,s0,s1,rfl⟩
 have g:GoodS [kk] 1 []:=⟨by show 1≤1;decide,by show 1≤20;decide,fun n hn=>by rw[List.mem_singleton.mp hn];omega,by decide,by show(1:Int)≤1;decide,by show(0:Int)≤kk;omega,by show(0:Int)<kk+0;omega,(fun t ht=>nomatch ht),by decide⟩
 have b0:Bt 290 (0:Int):=by unfold Bt;exact Nat.two_pow_pos _
 walk_at "rdc"
 refine⟨(by show 1≤sizeLine;decide),fun l hl=>?_⟩
 refine fresh hl fun H1 t1 e1=>?_
 refine rd_nil ?_
 refine fun x dx hx hdx ne=>?_
 refine init_sun hx hdx ne (us:=[]) (ls:=[kk]) (ts:=[]) e1 .nil (.inl ⟨rfl,rfl⟩) g b0 fun H2 t2 S=>⟨rfl,?_⟩
 have t02:=t1.trans t2
 walk_at "rdc"
 generalize hch:decide (V.int (c5/400%8)=V.int 5)=ch
 refine rd_cut (fun σ' H''=>Same H2 H''∧∃y:Addr,Cal65 K c_Sun c_Measure c_Change H'' y kk ch∧σ'=[some (.ref a),some (.int c5),some (.int kk),some (.int st),some (.ref y),some (.bl ch),none,none]) ?_ ?_
 ·walk_at "rdc"
  cases ch with
  | false=>
   refine iteF ?_
   walk_at "rdc"
   exact⟨Same.refl _,x,S,rfl⟩
  | true=>
   refine iteT ?_
   walk_at "rdc"
   refine⟨(by show 1≤sizeLine;decide),fun l3 hl3=>?_⟩
   refine fresh hl3 fun H3 t3 e3=>?_
   refine rd_nil ?_
   refine fun x4 dx4 hx4 hdx4 ne4=>?_
   refine init_sun hx4 hdx4 ne4 (us:=[]) (ls:=[kk]) (ts:=[]) e3 .nil (.inl ⟨rfl,rfl⟩) g b0 fun H4 t4 S4=>⟨rfl,?_⟩
   walk_at "rdc"
   refine fun x5 dx5 hx5 hdx5 ne5=>⟨H4,x5,dx5,x,x4,kk,rfl,hx5,hdx5,ne5,rfl,S.same (t3.trans t4),S4,k0,fun H5 t5 C5=>⟨rfl,?_⟩⟩
   walk_at "rdc"
   exact⟨(t3.trans t4).trans t5,x5,C5,rfl⟩
 rintro σ' H3 ⟨t3,y,C,rfl⟩
 have t03:=t02.trans t3
 have hS3:=t03.seq hS
 walk_at "rdc"
 refine⟨(by show 5≤sizeLine;decide),fun l4 hl4=>?_⟩
 refine fresh hl4 fun H4 t4 e4=>?_
 have hS4:=t4.seq hS3
 walk_at "rdc"
 generalize ns.getD (Int.toNat 6) 0=c6
 obtain⟨m,hm,bm⟩:∃m:Option Int,atI [V.non,V.int 1,V.int 2,V.int 0,V.int (-1)] (c6%5)=some (oI m)∧∀j,m=some j→j.natAbs≤1000:=by
  rcases(by omega:c6%5=0∨c6%5=1∨c6%5=2∨c6%5=3∨c6%5=4) with e | e | e | e | e<;>rw[e]
  ·exact⟨none,at_0,fun j z=>nomatch z⟩
  ·exact⟨some 1,at_1,fun j z=>by cases z;decide⟩
  ·exact⟨some 2,at_2,fun j z=>by cases z;decide⟩
  ·exact⟨some 0,at_3,fun j z=>by cases z;decide⟩
  ·exact⟨some (-1),at_4,fun j z=>by cases z;decide⟩
 refine rd_ixL (SqL.of e4) hm ?_
 walk_at "rdc"
 refine⟨(by show 5≤sizeLine;decide),fun l5 hl5=>?_⟩
 refine fresh hl5 fun H5 t5 e5=>?_
 have hS5:=t5.seq hS4
 walk_at "rdc"
 obtain⟨i,hi,bi⟩:∃i:Option Int,atI [V.non,V.int 1,V.int (-1),V.int 0,V.int 400] (ns.getD (Int.toNat 6) 0/5%5)=some (oI i)∧∀j,i=some j→j.natAbs≤1000:=by
  generalize ns.getD (Int.toNat 6) 0=c7
  rcases(by omega:c7/5%5=0∨c7/5%5=1∨c7/5%5=2∨c7/5%5=3∨c7/5%5=4) with e | e | e | e | e<;>rw[e]
  ·exact⟨none,at_0,fun j z=>nomatch z⟩
  ·exact⟨some 1,at_1,fun j z=>by cases z;decide⟩
  ·exact⟨some (-1),at_2,fun j z=>by cases z;decide⟩
  ·exact⟨some 0,at_3,fun j z=>by cases z;decide⟩
  ·exact⟨some 400,at_4,fun j z=>by cases z;decide⟩
 refine rd_ixL (SqL.of e5) hi ?_
 walk_at "rdc"
 refine⟨(by show 6≤sizeLine;decide),fun p hp=>?_⟩
 refine fresh hp fun H6 t6 e6=>?_
 exact q p y m i st kk ch H6 ((t03.trans t4).trans (t5.trans t6)) e6 (C.same ((t4.trans t5).trans t6)) bm bi k0 k1 s0 s1
theorem sc_law:FnScope ["_law_script","_law_one","_law_other","_law_way","_law_number_here","_law_told_here","_law_due_here","_law_first","_law_second"] ["_law_script"] (defScope s_law):=⟨rfl,rfl,rfl,by decide +kernel,rfl,by decide +kernel,by decide +kernel⟩
theorem ok_law{f:Addr}{fd:FuncData}(F:Fun K "law" "law" s_law f fd)(er:Errs K mg c_FeastError c_NoNumber c_TooLong c_NoMeasure c_NoChange c_NoCycle c_Rule c_Each c_Dated c_Not c_Both c_Either c_But c_Unlike c_Later c_Upon c_Until c_Near c_Till c_Kth c_Every c_Measure c_Calendar c_Sun c_Change)(c__law_sizes:Cal P w K mg base 2 "_law_sizes" ["_law_script"] (spSizes28 K))(c__law_cell_at:Cal P w K mg base 1 "_law_cell_at" ["_law_script","_law_k"] (spCell K))(c__law_number:Cal P w K mg base 1 "_law_number" ["_law_cell","_law_size_here"] spNumber65)(c__law_calendar:Cal P w K mg base 9 "_law_calendar" ["_law_script"] (spCal65 K c_Sun c_Measure c_Change))(c__law_due:Cal P w K mg base 3 "_law_due" ["_law_way","_law_number_here","_law_one","_law_other","_law_told_here"] spDue65)(c_Each___init__:CalI P w K mg base (CX1 P w) 5 "Each" c_Each ["self","size","rest"] (spIEE K c_Rule [c_Each] c_Each c_NoNumber c_NoCycle c_TooLong))(c__law_told:Cal P w K mg base 14 "_law_told" ["_law_way","_law_number_here","_law_one","_law_other","_law_told_here"] (spTold65 K c_Rule c_Each [c_Each,c_Dated,c_Not,c_Both,c_Either,c_But,c_Unlike,c_Later,c_Upon,c_Until,c_Near,c_Till,c_Kth,c_Every] c_Sun c_Measure c_Change)):FnOk P w K mg base CX0 15 f fd ["_law_script"] (spLaw K):=by
 refine F.ok (k:=14) sc_law (fun vs H Q E h=>?_) (fun cdv A outer s H vs Q E hr h=>?_)
 ·obtain⟨a,ns,rfl,_⟩:=h
  rfl
 obtain⟨a,ns,rfl,hS,h63,hB,q⟩:=h
 refine⟨_,(pss_cons (ps_asg (pe_cal c__law_sizes (hr.mono (by decide)) rfl (pa_cons (pv 0) pa_nil)) (pg_tup rfl (pgs_cons (pg_name (i:=1) sc_law.nd rfl (by first | exact Or.inl rfl | exact Or.inr rfl)) (pgs_cons (pg_name (i:=2) sc_law.nd rfl (by first | exact Or.inl rfl | exact Or.inr rfl)) pgs_nil))))
  (pss_cons (ps_set (i:=3) sc_law.nd rfl (by first | exact Or.inl rfl | exact Or.inr rfl) (pe_op op_mod (pe_cal c__law_cell_at (hr.mono (by decide)) rfl (pa_cons (pv 0) (pa_cons pe_int pa_nil))) pe_int))
  (pss_cons (ps_set (i:=4) sc_law.nd rfl (by first | exact Or.inl rfl | exact Or.inr rfl) (pe_cal c__law_number (hr.mono (by decide)) rfl (pa_cons (pe_cal c__law_cell_at (hr.mono (by decide)) rfl (pa_cons (pv 0) (pa_cons pe_int pa_nil))) (pa_cons (pv 1) pa_nil))))
  (pss_cons (ps_set (i:=5) sc_law.nd rfl (by first | exact Or.inl rfl | exact Or.inr rfl) (pe_cal c__law_calendar (hr.mono (by decide)) rfl (pa_cons (pv 0) pa_nil)))
  (pss_cons (ps_set (i:=6) sc_law.nd rfl (by first | exact Or.inl rfl | exact Or.inr rfl) (pe_cal c__law_due (hr.mono (by decide)) rfl (pa_cons (pv 3) (pa_cons (pv 4) (pa_cons (pv 1) (pa_cons (pv 2) (pa_cons (pv 5) pa_nil)))))))
  (pss_cons (ps_cut (ps_if (PW.pt (pw_and (pt_cmpR op_eq (pe_ix ix_tup (pv 6) pe_int (fun _ _=>rfl)) pe_str (nomark _)) (pw_and1 (pt_cmpR op_lt (pv 3) pe_int (nomark _)))))
   (pss_cons (ps_set (i:=2) sc_law.nd rfl (by first | exact Or.inl rfl | exact Or.inr rfl) (pv 1))
  (pss_one (ps_set (i:=6) sc_law.nd rfl (by first | exact Or.inl rfl | exact Or.inr rfl) (pe_tup (pa_cons pe_str (pa_cons (pv 1) pa_nil))))))
   pss_nil))
  (pss_cons (ps_set (i:=7) sc_law.nd rfl (by first | exact Or.inl rfl | exact Or.inr rfl) (pe_mkE thr_never c_Each___init__ (hr.mono (by decide)) rfl (pa_cons (pv 1) (pa_cons (pe_op op_mod (pe_cal c__law_cell_at (hr.mono (by decide)) rfl (pa_cons (pv 0) (pa_cons pe_int pa_nil))) (pe_op op_pow pe_int pe_int)) pa_nil))))
  (pss_cons (ps_set (i:=8) sc_law.nd rfl (by first | exact Or.inl rfl | exact Or.inr rfl) (pe_mkE thr_never c_Each___init__ (hr.mono (by decide)) rfl (pa_cons (pv 2) (pa_cons (pe_op op_mod (pe_cal c__law_cell_at (hr.mono (by decide)) rfl (pa_cons (pv 0) (pa_cons pe_int pa_nil))) (pe_op op_pow pe_int pe_int)) pa_nil))))
  (pss_one (ps_ret (pe_cmpR (op_eqT hr.units0) (pe_cal c__law_told (hr.mono (by decide)) rfl (pa_cons (pv 3) (pa_cons (pv 4) (pa_cons (pv 7) (pa_cons (pv 8) (pa_cons (pv 5) pa_nil)))))) (pv 6) (nomark _)))))))))))),?_⟩
 walk_at "rdc"
 refine⟨a,ns,rfl,hS,h63,fun p n1 n2 H1 s1 t1 x0 x1 y0 y1=>?_⟩
 have hS1:=s1.seq hS
 walk_at "rdc"
 refine⟨p,_,rfl,SqT.of t1,rfl,?_⟩
 walk_at "rdc"
 generalize hw:ns.getD (Int.toNat 3) 0%14=w'
 refine⟨_,n1,rfl,x0,x1,fun k bk=>?_⟩
 walk_at "rdc"
 refine⟨a,ns,rfl,hS1,h63,fun pt y m i st kk ch H2 s2 t2 C2 bm bi k0 k1 st0 st1=>?_⟩
 have hS2:=s2.seq hS1
 walk_at "rdc"
 refine⟨w',k,n1,n2,pt,m,i,st,kk,ch,rfl,⟨⟨y,t2⟩,x0,x1,y0,y1,k0,k1,st0,st1,bk⟩,by omega,by omega,fun pd H3 s3 t3=>?_⟩
 have hS3:=s3.seq hS2
 have u3:=s3 _ _ t2
 have C3:=C2.same s3
 walk_at "rdc"
 refine rd_cut (fun σ' H'=>Same H3 H'∧∃(n2:Int) (pd:Addr),σ'=[some (.ref a),some (.int n1),some (.int n2),some (.int w'),some (.int k),some (.ref pt),some (.ref pd),none,none]∧1≤n2∧n2≤150000∧H' pd=some (.tup (due65 w' k n1 n2 m i st kk ch).row)) ?_ ?_
 ·walk_at "rdc"
  cases hd:due65 w' k n1 n2 m i st kk ch with
  | num=>
   rw[hd] at t3
   refine rd_ixT (SqT.of t3) at_0 ?_
   walk_at "rdc"
   refine iteN (by intro z;cases z) (iteF ?_)
   walk_at "rdc"
   exact⟨Same.refl _,n2,pd,rfl,y0,y1,by rw[hd];exact t3⟩
  | cyc=>
   rw[hd] at t3
   refine rd_ixT (SqT.of t3) at_0 ?_
   walk_at "rdc"
   refine iteN (by intro z;cases z) (iteF ?_)
   walk_at "rdc"
   exact⟨Same.refl _,n2,pd,rfl,y0,y1,by rw[hd];exact t3⟩
  | long n=>
   rw[hd] at t3
   refine rd_ixT (SqT.of t3) at_0 ?_
   walk_at "rdc"
   refine iteN (by intro z;cases z) (iteF ?_)
   walk_at "rdc"
   exact⟨Same.refl _,n2,pd,rfl,y0,y1,by rw[hd];exact t3⟩
  | made n=>
   rw[hd] at t3
   refine rd_ixT (SqT.of t3) at_0 ?_
   walk_at "rdc"
   refine iteD rfl ?_
   walk_at "rdc"
   refine ite2d (fun c=>?_) (fun c=>?_)
   ·walk_at "rdc"
    refine⟨two',fun pe hpe=>?_⟩
    refine⟨same_new hpe _,n1,pe,rfl,x0,x1,?_⟩
    have e:due65 w' k n1 n1 m i st kk ch=.made n1:=by
     unfold due65 at hd ⊢
     by_cases c8:w'<8
     ·rw[if_pos c8,fit_same x0 x1]
     ·rw[if_neg c8,if_pos (by omega)] at hd ⊢
      by_cases z:k=0
      ·rw[if_pos z] at hd
       cases hd
      ·rw[if_neg z,fit_same x0 x1]
    rw[e]
    exact upd_same
   ·walk_at "rdc"
    exact⟨Same.refl _,n2,pd,rfl,y0,y1,by rw[hd];exact t3⟩
 rintro σ' H4 ⟨s4,n2,pd,rfl,y0,y1,t4⟩
 have hS4:=s4.seq hS3
 have b40:∀c:Int,Bt 400 (c%10^Int.toNat 40):=fun c=>by
  rw[p40]
  exact(bt_of (by omega) (by omega)).mono (by decide)
 walk_at "rdx"
 walk_at "rdc"
 intro x1' dx1 g1 g2 ne1
 refine⟨x1',n1,_,rfl,bt_small (by omega) (by omega) (by decide),b40 _,?_⟩
 rw[each_due x0 x1]
 refine⟨⟨dx1,upd_same⟩,fun b1 H5 k5 R1=>⟨rfl,?_⟩⟩
 have s5:=made_same g1 g2 ne1 k5
 have hS5:=s5.seq hS4
 walk_at "rdx"
 walk_at "rdc"
 intro x2' dx2 g3 g4 ne2
 refine⟨x2',n2,_,rfl,bt_small (by omega) (by omega) (by decide),b40 _,?_⟩
 rw[each_due y0 y1]
 refine⟨⟨dx2,upd_same⟩,fun b2 H6 k6 R2=>⟨rfl,?_⟩⟩
 have s6:=made_same g3 g4 ne2 k6
 have s36:=(s4.trans s5).trans s6
 walk_at "rdc"
 refine⟨w',k,n1,n2,_,_,pt,m,i,st,kk,ch,rfl,⟨⟨b1,R1.same s6⟩,⟨b2,R2⟩,⟨y,s36 _ _ u3,C3.same s36⟩,bm,bi,k0,k1,st0,st1⟩,by omega,by omega,bk,fun pe H7 s7 t7=>?_⟩
 walk_at "rdc"
 refine rd_eqT (SqT.of t7) (SqT.of (((s5.trans s6).trans s7) _ _ t4)) (row65_flat _) (row65_flat _) ?_
 rw[row65_eq]
 exact q _
end
theorem all_mk{l:PySem.W.OpenLaw}{w:World}{K:PySem.W.Frag}{h:Heap}{mg:Str→Option Value}{fa f0 f16 f17 f32 f71 f76 f87 f90 f102:Addr}{c_FeastError c_NoNumber c_TooLong c_NoMeasure c_NoChange c_NoCycle c_Rule c_Each c_Dated c_Not c_Both c_Either c_But c_Unlike c_Later c_Upon c_Until c_Near c_Till c_Kth c_Every c_Measure c_Calendar c_Sun c_Change:Addr}(X:K.In h)(G:h.Ns mainGlobals mg)(hfa:mg "law"=some (.ref fa))
 {od0 an0 od16 an16 od17 an17 od32 an32 od71 an71 od76 an76 od87 an87 od90 an90 od102 an102:Option Addr}{sl0 sl16 sl17 sl32 sl71 sl76 sl87 sl90 sl102:Array (Option Value)}{oc0 kV0 dc0 pm0 cd0 ct0 oc16 kV16 dc16 pm16 cd16 ct16 oc17 kV17 dc17 pm17 cd17 ct17 oc32 kV32 dc32 pm32 cd32 ct32 oc71 kV71 dc71 pm71 cd71 ct71 oc76 kV76 dc76 pm76 cd76 ct76 oc87 kV87 dc87 pm87 cd87 ct87 oc90 kV90 dc90 pm90 cd90 ct90 oc102 kV102 dc102 pm102 cd102 ct102:Value}{tk_LONGEST:Tok}{tk_PIECE:Tok}{tk_GREATEST_N:Tok}{tk_GREATEST_BASE:Tok}{tk_MOST_TERMS:Tok}{tk_MOST_MONTHS:Tok}{tk_LONGEST_MONTH:Tok}
 {T32:Addr}{to32:Value}{td32:Option Addr}{tn32:Nat}{ts32:Array (Option Value)}
 {T71:Addr}{to71:Value}{td71:Option Addr}{tn71:Nat}{ts71:Array (Option Value)}
 {T76:Addr}{to76:Value}{td76:Option Addr}{tn76:Nat}{ts76:Array (Option Value)}{tkd_Sun___init___0:Tok}
 {T87:Addr}{to87:Value}{td87:Option Addr}{tn87:Nat}{ts87:Array (Option Value)}{tkd_dated_2:Tok}{tkd_dated_3:Tok}
 {T90:Addr}{to90:Value}{td90:Option Addr}{tn90:Nat}{ts90:Array (Option Value)}{tkd_Dated___init___2:Tok}{tkd_Dated___init___3:Tok}
 {dd_TooLong:Option Addr}{cd_TooLong:ClassData}{q0_TooLong q1_TooLong q2_TooLong q3_TooLong q5_TooLong:Option Value}
 (n_FeastError:PySem.W.nsIn K mainGlobals "FeastError"=some (some (.ref c_FeastError)))
 (n_NoNumber:PySem.W.nsIn K mainGlobals "NoNumber"=some (some (.ref c_NoNumber)))
 (t_NoNumber:PySem.W.typeIn K (.ref c_NoNumber)=some (.type "type"))
 (k_NoNumber:PySem.W.hasDictIn K c_NoNumber=true)
 (b_NoNumber:PySem.W.mroIn K c_NoNumber (.type "BaseException")=some true)
 (n_TooLong:PySem.W.nsIn K mainGlobals "TooLong"=some (some (.ref c_TooLong)))
 (t_TooLong:PySem.W.typeIn K (.ref c_TooLong)=some (.type "type"))
 (k_TooLong:PySem.W.hasDictIn K c_TooLong=true)
 (b_TooLong:PySem.W.mroIn K c_TooLong (.type "BaseException")=some true)
 (n_NoMeasure:PySem.W.nsIn K mainGlobals "NoMeasure"=some (some (.ref c_NoMeasure)))
 (n_NoChange:PySem.W.nsIn K mainGlobals "NoChange"=some (some (.ref c_NoChange)))
 (n_NoCycle:PySem.W.nsIn K mainGlobals "NoCycle"=some (some (.ref c_NoCycle)))
 (t_NoCycle:PySem.W.typeIn K (.ref c_NoCycle)=some (.type "type"))
 (k_NoCycle:PySem.W.hasDictIn K c_NoCycle=true)
 (b_NoCycle:PySem.W.mroIn K c_NoCycle (.type "BaseException")=some true)
 (e_NoNumber:PySem.W.excIn K c_NoNumber bmV "ValueError.__new__"=true)
 (ga_NoNumber:PySem.W.findIn K (.ref c_NoNumber) "__getattribute__"=some (some (.builtin "BaseException.__getattribute__")))
 (gk_NoNumber:PySem.W.findIn K (.ref c_NoNumber) "__getattr__"=some none)
 (ob_NoNumber:PySem.W.mroIn K c_NoNumber (.type "object")=some true)
 (ca_NoNumber:PySem.W.findIn K (.ref c_NoNumber) "__class__"=some (some (.builtin "object.__class__")))
 (i_NoNumber_FeastError:PySem.W.kitOne K (.ref c_NoNumber) (.ref c_FeastError)=some true)
 (r_NoNumber_NoNumber:PySem.W.mroIn K c_NoNumber (.ref c_NoNumber)=some true)
 (i_NoNumber_TooLong:PySem.W.kitOne K (.ref c_NoNumber) (.ref c_TooLong)=some false)
 (o_TooLong:K.lookup c_TooLong=some ⟨.type "type",dd_TooLong,.cls cd_TooLong,#[q0_TooLong,q1_TooLong,q2_TooLong,q3_TooLong,some (.builtin "ValueError.__new__"),q5_TooLong]⟩)
 (om_TooLong:cd_TooLong.mro=.ref c_TooLong::.ref c_FeastError::bmV)
 (od_TooLong:cd_TooLong.hasDel=false)
 (oh_TooLong:cd_TooLong.hasDict=true)
 (sa_TooLong:PySem.W.findIn K (.ref c_TooLong) "__setattr__"=some (some (.builtin "object.__setattr__")))
 (kp_TooLong:PySem.W.keepIn K (.ref c_TooLong)=true)
 (e_FeastError:PySem.W.excIn K c_FeastError bmV "ValueError.__new__"=true)
 (fs_FeastError:PySem.W.specialIn K (.ref c_FeastError) "__getattribute__"=some (some (.builtin "type.__getattribute__")))
 (fr_FeastError:PySem.W.readsIn K c_FeastError (.type "type")=true)
 (ff_FeastError:PySem.W.findCls K (.ref c_FeastError) (.type "type") "__init__"=some (.val (.builtin "ValueError.__init__")))
 (na_TooLong_needed:PySem.W.findIn K (.ref c_TooLong) "needed"=some none)
 (ga_TooLong:PySem.W.findIn K (.ref c_TooLong) "__getattribute__"=some (some (.builtin "BaseException.__getattribute__")))
 (gk_TooLong:PySem.W.findIn K (.ref c_TooLong) "__getattr__"=some none)
 (ob_TooLong:PySem.W.mroIn K c_TooLong (.type "object")=some true)
 (ca_TooLong:PySem.W.findIn K (.ref c_TooLong) "__class__"=some (some (.builtin "object.__class__")))
 (i_TooLong_FeastError:PySem.W.kitOne K (.ref c_TooLong) (.ref c_FeastError)=some true)
 (r_TooLong_NoNumber:PySem.W.mroIn K c_TooLong (.ref c_NoNumber)=some false)
 (i_TooLong_NoNumber:PySem.W.kitOne K (.ref c_TooLong) (.ref c_NoNumber)=some false)
 (r_TooLong_TooLong:PySem.W.mroIn K c_TooLong (.ref c_TooLong)=some true)
 (r_TooLong_NoCycle:PySem.W.mroIn K c_TooLong (.ref c_NoCycle)=some false)
 (e_NoCycle:PySem.W.excIn K c_NoCycle bmV "ValueError.__new__"=true)
 (ga_NoCycle:PySem.W.findIn K (.ref c_NoCycle) "__getattribute__"=some (some (.builtin "BaseException.__getattribute__")))
 (gk_NoCycle:PySem.W.findIn K (.ref c_NoCycle) "__getattr__"=some none)
 (ob_NoCycle:PySem.W.mroIn K c_NoCycle (.type "object")=some true)
 (ca_NoCycle:PySem.W.findIn K (.ref c_NoCycle) "__class__"=some (some (.builtin "object.__class__")))
 (i_NoCycle_FeastError:PySem.W.kitOne K (.ref c_NoCycle) (.ref c_FeastError)=some true)
 (r_NoCycle_NoNumber:PySem.W.mroIn K c_NoCycle (.ref c_NoNumber)=some false)
 (i_NoCycle_NoNumber:PySem.W.kitOne K (.ref c_NoCycle) (.ref c_NoNumber)=some false)
 (r_NoCycle_NoCycle:PySem.W.mroIn K c_NoCycle (.ref c_NoCycle)=some true)
 (n_Measure:PySem.W.nsIn K mainGlobals "Measure"=some (some (.ref c_Measure)))
 (pg_Measure:PySem.W.plainGet K c_Measure Str.empty=true)
 (k_Measure:PySem.W.hasDictIn K c_Measure=true)
 (po_Measure:PySem.W.plainOver K c_Measure=true)
 (sa_Measure:PySem.W.findIn K (.ref c_Measure) "__setattr__"=some (some (.builtin "object.__setattr__")))
 (mk_Measure:PySem.W.makesIn K c_Measure=true)
 (kp_Measure:PySem.W.keepIn K (.ref c_Measure)=true)
 (na_Measure_base:PySem.W.findIn K (.ref c_Measure) "base"=some none)
 (na_Measure_terms:PySem.W.findIn K (.ref c_Measure) "terms"=some none)
 (na_Measure_full_count:PySem.W.findIn K (.ref c_Measure) "full_count"=some none)
 (na_Measure_full_sum:PySem.W.findIn K (.ref c_Measure) "full_sum"=some none)
 (n_Sun:PySem.W.nsIn K mainGlobals "Sun"=some (some (.ref c_Sun)))
 (pg_Sun:PySem.W.plainGet K c_Sun Str.empty=true)
 (k_Sun:PySem.W.hasDictIn K c_Sun=true)
 (po_Sun:PySem.W.plainOver K c_Sun=true)
 (sa_Sun:PySem.W.findIn K (.ref c_Sun) "__setattr__"=some (some (.builtin "object.__setattr__")))
 (mk_Sun:PySem.W.makesIn K c_Sun=true)
 (kp_Sun:PySem.W.keepIn K (.ref c_Sun)=true)
 (na_Sun_start:PySem.W.findIn K (.ref c_Sun) "start"=some none)
 (na_Sun_months:PySem.W.findIn K (.ref c_Sun) "months"=some none)
 (na_Sun_leap:PySem.W.findIn K (.ref c_Sun) "leap"=some none)
 (na_Sun_years:PySem.W.findIn K (.ref c_Sun) "years"=some none)
 (n_Change:PySem.W.nsIn K mainGlobals "Change"=some (some (.ref c_Change)))
 (pg_Change:PySem.W.plainGet K c_Change Str.empty=true)
 (k_Change:PySem.W.hasDictIn K c_Change=true)
 (po_Change:PySem.W.plainOver K c_Change=true)
 (sa_Change:PySem.W.findIn K (.ref c_Change) "__setattr__"=some (some (.builtin "object.__setattr__")))
 (mk_Change:PySem.W.makesIn K c_Change=true)
 (kp_Change:PySem.W.keepIn K (.ref c_Change)=true)
 (na_Change_old:PySem.W.findIn K (.ref c_Change) "old"=some none)
 (na_Change_new:PySem.W.findIn K (.ref c_Change) "new"=some none)
 (na_Change_day:PySem.W.findIn K (.ref c_Change) "day"=some none)
 (na_Change_last_old:PySem.W.findIn K (.ref c_Change) "last_old"=some none)
 (na_Change_first_new:PySem.W.findIn K (.ref c_Change) "first_new"=some none)
 (n_Calendar:PySem.W.nsIn K mainGlobals "Calendar"=some (some (.ref c_Calendar)))
 (n_Rule:PySem.W.nsIn K mainGlobals "Rule"=some (some (.ref c_Rule)))
 (n_Each:PySem.W.nsIn K mainGlobals "Each"=some (some (.ref c_Each)))
 (pg_Each:PySem.W.plainGet K c_Each Str.empty=true)
 (k_Each:PySem.W.hasDictIn K c_Each=true)
 (po_Each:PySem.W.plainOver K c_Each=true)
 (sa_Each:PySem.W.findIn K (.ref c_Each) "__setattr__"=some (some (.builtin "object.__setattr__")))
 (mk_Each:PySem.W.makesIn K c_Each=true)
 (kp_Each:PySem.W.keepIn K (.ref c_Each)=true)
 (na_Each_kept:PySem.W.findIn K (.ref c_Each) "kept"=some none)
 (na_Each_made_of:PySem.W.findIn K (.ref c_Each) "made_of"=some none)
 (na_Each_words:PySem.W.findIn K (.ref c_Each) "words"=some none)
 (ca_Each:PySem.W.findIn K (.ref c_Each) "__class__"=some (some (.builtin "object.__class__")))
 (ob_Each:PySem.W.mroIn K c_Each (.type "object")=some true)
 (i_Each_Rule:PySem.W.kitOne K (.ref c_Each) (.ref c_Rule)=some true)
 (n_Dated:PySem.W.nsIn K mainGlobals "Dated"=some (some (.ref c_Dated)))
 (pg_Dated:PySem.W.plainGet K c_Dated Str.empty=true)
 (k_Dated:PySem.W.hasDictIn K c_Dated=true)
 (po_Dated:PySem.W.plainOver K c_Dated=true)
 (sa_Dated:PySem.W.findIn K (.ref c_Dated) "__setattr__"=some (some (.builtin "object.__setattr__")))
 (mk_Dated:PySem.W.makesIn K c_Dated=true)
 (kp_Dated:PySem.W.keepIn K (.ref c_Dated)=true)
 (na_Dated_kept:PySem.W.findIn K (.ref c_Dated) "kept"=some none)
 (na_Dated_made_of:PySem.W.findIn K (.ref c_Dated) "made_of"=some none)
 (na_Dated_words:PySem.W.findIn K (.ref c_Dated) "words"=some none)
 (ca_Dated:PySem.W.findIn K (.ref c_Dated) "__class__"=some (some (.builtin "object.__class__")))
 (ob_Dated:PySem.W.mroIn K c_Dated (.type "object")=some true)
 (i_Dated_Rule:PySem.W.kitOne K (.ref c_Dated) (.ref c_Rule)=some true)
 (n_Not:PySem.W.nsIn K mainGlobals "Not"=some (some (.ref c_Not)))
 (pg_Not:PySem.W.plainGet K c_Not Str.empty=true)
 (k_Not:PySem.W.hasDictIn K c_Not=true)
 (po_Not:PySem.W.plainOver K c_Not=true)
 (sa_Not:PySem.W.findIn K (.ref c_Not) "__setattr__"=some (some (.builtin "object.__setattr__")))
 (mk_Not:PySem.W.makesIn K c_Not=true)
 (kp_Not:PySem.W.keepIn K (.ref c_Not)=true)
 (na_Not_kept:PySem.W.findIn K (.ref c_Not) "kept"=some none)
 (na_Not_made_of:PySem.W.findIn K (.ref c_Not) "made_of"=some none)
 (na_Not_words:PySem.W.findIn K (.ref c_Not) "words"=some none)
 (ca_Not:PySem.W.findIn K (.ref c_Not) "__class__"=some (some (.builtin "object.__class__")))
 (ob_Not:PySem.W.mroIn K c_Not (.type "object")=some true)
 (i_Not_Rule:PySem.W.kitOne K (.ref c_Not) (.ref c_Rule)=some true)
 (n_Both:PySem.W.nsIn K mainGlobals "Both"=some (some (.ref c_Both)))
 (pg_Both:PySem.W.plainGet K c_Both Str.empty=true)
 (k_Both:PySem.W.hasDictIn K c_Both=true)
 (po_Both:PySem.W.plainOver K c_Both=true)
 (sa_Both:PySem.W.findIn K (.ref c_Both) "__setattr__"=some (some (.builtin "object.__setattr__")))
 (mk_Both:PySem.W.makesIn K c_Both=true)
 (kp_Both:PySem.W.keepIn K (.ref c_Both)=true)
 (na_Both_kept:PySem.W.findIn K (.ref c_Both) "kept"=some none)
 (na_Both_made_of:PySem.W.findIn K (.ref c_Both) "made_of"=some none)
 (na_Both_words:PySem.W.findIn K (.ref c_Both) "words"=some none)
 (ca_Both:PySem.W.findIn K (.ref c_Both) "__class__"=some (some (.builtin "object.__class__")))
 (ob_Both:PySem.W.mroIn K c_Both (.type "object")=some true)
 (i_Both_Rule:PySem.W.kitOne K (.ref c_Both) (.ref c_Rule)=some true)
 (n_Either:PySem.W.nsIn K mainGlobals "Either"=some (some (.ref c_Either)))
 (pg_Either:PySem.W.plainGet K c_Either Str.empty=true)
 (k_Either:PySem.W.hasDictIn K c_Either=true)
 (po_Either:PySem.W.plainOver K c_Either=true)
 (sa_Either:PySem.W.findIn K (.ref c_Either) "__setattr__"=some (some (.builtin "object.__setattr__")))
 (mk_Either:PySem.W.makesIn K c_Either=true)
 (kp_Either:PySem.W.keepIn K (.ref c_Either)=true)
 (na_Either_kept:PySem.W.findIn K (.ref c_Either) "kept"=some none)
 (na_Either_made_of:PySem.W.findIn K (.ref c_Either) "made_of"=some none)
 (na_Either_words:PySem.W.findIn K (.ref c_Either) "words"=some none)
 (ca_Either:PySem.W.findIn K (.ref c_Either) "__class__"=some (some (.builtin "object.__class__")))
 (ob_Either:PySem.W.mroIn K c_Either (.type "object")=some true)
 (i_Either_Rule:PySem.W.kitOne K (.ref c_Either) (.ref c_Rule)=some true)
 (n_But:PySem.W.nsIn K mainGlobals "But"=some (some (.ref c_But)))
 (pg_But:PySem.W.plainGet K c_But Str.empty=true)
 (k_But:PySem.W.hasDictIn K c_But=true)
 (po_But:PySem.W.plainOver K c_But=true)
 (sa_But:PySem.W.findIn K (.ref c_But) "__setattr__"=some (some (.builtin "object.__setattr__")))
 (mk_But:PySem.W.makesIn K c_But=true)
 (kp_But:PySem.W.keepIn K (.ref c_But)=true)
 (na_But_kept:PySem.W.findIn K (.ref c_But) "kept"=some none)
 (na_But_made_of:PySem.W.findIn K (.ref c_But) "made_of"=some none)
 (na_But_words:PySem.W.findIn K (.ref c_But) "words"=some none)
 (ca_But:PySem.W.findIn K (.ref c_But) "__class__"=some (some (.builtin "object.__class__")))
 (ob_But:PySem.W.mroIn K c_But (.type "object")=some true)
 (i_But_Rule:PySem.W.kitOne K (.ref c_But) (.ref c_Rule)=some true)
 (n_Unlike:PySem.W.nsIn K mainGlobals "Unlike"=some (some (.ref c_Unlike)))
 (pg_Unlike:PySem.W.plainGet K c_Unlike Str.empty=true)
 (k_Unlike:PySem.W.hasDictIn K c_Unlike=true)
 (po_Unlike:PySem.W.plainOver K c_Unlike=true)
 (sa_Unlike:PySem.W.findIn K (.ref c_Unlike) "__setattr__"=some (some (.builtin "object.__setattr__")))
 (mk_Unlike:PySem.W.makesIn K c_Unlike=true)
 (kp_Unlike:PySem.W.keepIn K (.ref c_Unlike)=true)
 (na_Unlike_kept:PySem.W.findIn K (.ref c_Unlike) "kept"=some none)
 (na_Unlike_made_of:PySem.W.findIn K (.ref c_Unlike) "made_of"=some none)
 (na_Unlike_words:PySem.W.findIn K (.ref c_Unlike) "words"=some none)
 (ca_Unlike:PySem.W.findIn K (.ref c_Unlike) "__class__"=some (some (.builtin "object.__class__")))
 (ob_Unlike:PySem.W.mroIn K c_Unlike (.type "object")=some true)
 (i_Unlike_Rule:PySem.W.kitOne K (.ref c_Unlike) (.ref c_Rule)=some true)
 (n_Later:PySem.W.nsIn K mainGlobals "Later"=some (some (.ref c_Later)))
 (pg_Later:PySem.W.plainGet K c_Later Str.empty=true)
 (k_Later:PySem.W.hasDictIn K c_Later=true)
 (po_Later:PySem.W.plainOver K c_Later=true)
 (sa_Later:PySem.W.findIn K (.ref c_Later) "__setattr__"=some (some (.builtin "object.__setattr__")))
 (mk_Later:PySem.W.makesIn K c_Later=true)
 (kp_Later:PySem.W.keepIn K (.ref c_Later)=true)
 (na_Later_kept:PySem.W.findIn K (.ref c_Later) "kept"=some none)
 (na_Later_made_of:PySem.W.findIn K (.ref c_Later) "made_of"=some none)
 (na_Later_words:PySem.W.findIn K (.ref c_Later) "words"=some none)
 (ca_Later:PySem.W.findIn K (.ref c_Later) "__class__"=some (some (.builtin "object.__class__")))
 (ob_Later:PySem.W.mroIn K c_Later (.type "object")=some true)
 (i_Later_Rule:PySem.W.kitOne K (.ref c_Later) (.ref c_Rule)=some true)
 (n_Upon:PySem.W.nsIn K mainGlobals "Upon"=some (some (.ref c_Upon)))
 (pg_Upon:PySem.W.plainGet K c_Upon Str.empty=true)
 (k_Upon:PySem.W.hasDictIn K c_Upon=true)
 (po_Upon:PySem.W.plainOver K c_Upon=true)
 (sa_Upon:PySem.W.findIn K (.ref c_Upon) "__setattr__"=some (some (.builtin "object.__setattr__")))
 (mk_Upon:PySem.W.makesIn K c_Upon=true)
 (kp_Upon:PySem.W.keepIn K (.ref c_Upon)=true)
 (na_Upon_kept:PySem.W.findIn K (.ref c_Upon) "kept"=some none)
 (na_Upon_made_of:PySem.W.findIn K (.ref c_Upon) "made_of"=some none)
 (na_Upon_words:PySem.W.findIn K (.ref c_Upon) "words"=some none)
 (ca_Upon:PySem.W.findIn K (.ref c_Upon) "__class__"=some (some (.builtin "object.__class__")))
 (ob_Upon:PySem.W.mroIn K c_Upon (.type "object")=some true)
 (i_Upon_Rule:PySem.W.kitOne K (.ref c_Upon) (.ref c_Rule)=some true)
 (n_Until:PySem.W.nsIn K mainGlobals "Until"=some (some (.ref c_Until)))
 (pg_Until:PySem.W.plainGet K c_Until Str.empty=true)
 (k_Until:PySem.W.hasDictIn K c_Until=true)
 (po_Until:PySem.W.plainOver K c_Until=true)
 (sa_Until:PySem.W.findIn K (.ref c_Until) "__setattr__"=some (some (.builtin "object.__setattr__")))
 (mk_Until:PySem.W.makesIn K c_Until=true)
 (kp_Until:PySem.W.keepIn K (.ref c_Until)=true)
 (na_Until_kept:PySem.W.findIn K (.ref c_Until) "kept"=some none)
 (na_Until_made_of:PySem.W.findIn K (.ref c_Until) "made_of"=some none)
 (na_Until_words:PySem.W.findIn K (.ref c_Until) "words"=some none)
 (ca_Until:PySem.W.findIn K (.ref c_Until) "__class__"=some (some (.builtin "object.__class__")))
 (ob_Until:PySem.W.mroIn K c_Until (.type "object")=some true)
 (i_Until_Rule:PySem.W.kitOne K (.ref c_Until) (.ref c_Rule)=some true)
 (n_Near:PySem.W.nsIn K mainGlobals "Near"=some (some (.ref c_Near)))
 (pg_Near:PySem.W.plainGet K c_Near Str.empty=true)
 (k_Near:PySem.W.hasDictIn K c_Near=true)
 (po_Near:PySem.W.plainOver K c_Near=true)
 (sa_Near:PySem.W.findIn K (.ref c_Near) "__setattr__"=some (some (.builtin "object.__setattr__")))
 (mk_Near:PySem.W.makesIn K c_Near=true)
 (kp_Near:PySem.W.keepIn K (.ref c_Near)=true)
 (na_Near_kept:PySem.W.findIn K (.ref c_Near) "kept"=some none)
 (na_Near_made_of:PySem.W.findIn K (.ref c_Near) "made_of"=some none)
 (na_Near_words:PySem.W.findIn K (.ref c_Near) "words"=some none)
 (ca_Near:PySem.W.findIn K (.ref c_Near) "__class__"=some (some (.builtin "object.__class__")))
 (ob_Near:PySem.W.mroIn K c_Near (.type "object")=some true)
 (i_Near_Rule:PySem.W.kitOne K (.ref c_Near) (.ref c_Rule)=some true)
 (n_Till:PySem.W.nsIn K mainGlobals "Till"=some (some (.ref c_Till)))
 (pg_Till:PySem.W.plainGet K c_Till Str.empty=true)
 (k_Till:PySem.W.hasDictIn K c_Till=true)
 (po_Till:PySem.W.plainOver K c_Till=true)
 (sa_Till:PySem.W.findIn K (.ref c_Till) "__setattr__"=some (some (.builtin "object.__setattr__")))
 (mk_Till:PySem.W.makesIn K c_Till=true)
 (kp_Till:PySem.W.keepIn K (.ref c_Till)=true)
 (na_Till_kept:PySem.W.findIn K (.ref c_Till) "kept"=some none)
 (na_Till_made_of:PySem.W.findIn K (.ref c_Till) "made_of"=some none)
 (na_Till_words:PySem.W.findIn K (.ref c_Till) "words"=some none)
 (ca_Till:PySem.W.findIn K (.ref c_Till) "__class__"=some (some (.builtin "object.__class__")))
 (ob_Till:PySem.W.mroIn K c_Till (.type "object")=some true)
 (i_Till_Rule:PySem.W.kitOne K (.ref c_Till) (.ref c_Rule)=some true)
 (n_Kth:PySem.W.nsIn K mainGlobals "Kth"=some (some (.ref c_Kth)))
 (pg_Kth:PySem.W.plainGet K c_Kth Str.empty=true)
 (k_Kth:PySem.W.hasDictIn K c_Kth=true)
 (po_Kth:PySem.W.plainOver K c_Kth=true)
 (sa_Kth:PySem.W.findIn K (.ref c_Kth) "__setattr__"=some (some (.builtin "object.__setattr__")))
 (mk_Kth:PySem.W.makesIn K c_Kth=true)
 (kp_Kth:PySem.W.keepIn K (.ref c_Kth)=true)
 (na_Kth_kept:PySem.W.findIn K (.ref c_Kth) "kept"=some none)
 (na_Kth_made_of:PySem.W.findIn K (.ref c_Kth) "made_of"=some none)
 (na_Kth_words:PySem.W.findIn K (.ref c_Kth) "words"=some none)
 (ca_Kth:PySem.W.findIn K (.ref c_Kth) "__class__"=some (some (.builtin "object.__class__")))
 (ob_Kth:PySem.W.mroIn K c_Kth (.type "object")=some true)
 (i_Kth_Rule:PySem.W.kitOne K (.ref c_Kth) (.ref c_Rule)=some true)
 (n_Every:PySem.W.nsIn K mainGlobals "Every"=some (some (.ref c_Every)))
 (pg_Every:PySem.W.plainGet K c_Every Str.empty=true)
 (k_Every:PySem.W.hasDictIn K c_Every=true)
 (po_Every:PySem.W.plainOver K c_Every=true)
 (sa_Every:PySem.W.findIn K (.ref c_Every) "__setattr__"=some (some (.builtin "object.__setattr__")))
 (mk_Every:PySem.W.makesIn K c_Every=true)
 (kp_Every:PySem.W.keepIn K (.ref c_Every)=true)
 (na_Every_kept:PySem.W.findIn K (.ref c_Every) "kept"=some none)
 (na_Every_made_of:PySem.W.findIn K (.ref c_Every) "made_of"=some none)
 (na_Every_words:PySem.W.findIn K (.ref c_Every) "words"=some none)
 (ca_Every:PySem.W.findIn K (.ref c_Every) "__class__"=some (some (.builtin "object.__class__")))
 (ob_Every:PySem.W.mroIn K c_Every (.type "object")=some true)
 (i_Every_Rule:PySem.W.kitOne K (.ref c_Every) (.ref c_Rule)=some true)
 (bsp_Rule:PySem.W.specialIn K (.ref c_Rule) "__getattribute__"=some (some (.builtin "type.__getattribute__")))
 (brd_Rule:PySem.W.readsIn K c_Rule (.type "type")=true)
 (xsp:PySem.W.specialIn K (.builtin "object.__class__") "__get__"=some (some (.builtin "getset_descriptor.__get__")))
 (xtk:PySem.W.takesIn K (.builtin "object.__class__")=some true)
 (a0:PySem.W.findIn K (.ref c_TooLong) "__init__"=some (some (.ref f0)))(l0:K.lookup f0=some ⟨oc0,od0,.func (PySem.W.fnOf "__init__" "TooLong.__init__" (defArgs s_TooLong___init__) (defBody s_TooLong___init__) (defScope s_TooLong___init__) .none kV0 dc0 pm0 an0 cd0 ct0),sl0⟩)(c0:PySem.W.codeIn K cd0 "TooLong.__init__"=true)(k0:PySem.W.keepIn K (.ref f0)=true)
 (u0:PySem.W.typeIn K (.ref f0)=some (.type "function"))
 (q1:FnG K "refuse_below_one" "refuse_below_one" "refuse_below_one" s_refuse_below_one)
 (q2:FnG K "refuse_too_long" "refuse_too_long" "refuse_too_long" s_refuse_too_long)
 (q3:FnG K "equation" "equation" "equation" s_equation)
 (q4:FnG K "divisor" "divisor" "divisor" s_divisor)
 (q5:FnG K "common" "common" "common" s_common)
 (q6:FnG K "round_by" "round_by" "round_by" s_round_by)
 (q7:FnG K "full_bits" "full_bits" "full_bits" s_full_bits)
 (q8:FnG K "days_in" "days_in" "days_in" s_days_in)
 (q9:FnG K "bits_by" "bits_by" "bits_by" s_bits_by)
 (q10:FnG K "stretched" "stretched" "stretched" s_stretched)
 (q11:FnG K "common_size" "common_size" "common_size" s_common_size)
 (q12:FnG K "ones_in" "ones_in" "ones_in" s_ones_in)
 (q13:FnG K "days_ahead" "days_ahead" "days_ahead" s_days_ahead)
 (q14:FnG K "how_many" "how_many" "how_many" s_how_many)
 (q15:FnG K "both" "both" "both" s_both)
 (a16:PySem.W.nsIn K mainGlobals "either"=some (some (.ref f16)))(l16:K.lookup f16=some ⟨oc16,od16,.func (PySem.W.fnOf "either" "either" (defArgs s_either) (defBody s_either) (defScope s_either) .none kV16 dc16 pm16 an16 cd16 ct16),sl16⟩)(c16:PySem.W.codeIn K cd16 "either"=true)(k16:PySem.W.keepIn K (.ref f16)=true)
 (a17:PySem.W.nsIn K mainGlobals "unlike"=some (some (.ref f17)))(l17:K.lookup f17=some ⟨oc17,od17,.func (PySem.W.fnOf "unlike" "unlike" (defArgs s_unlike) (defBody s_unlike) (defScope s_unlike) .none kV17 dc17 pm17 an17 cd17 ct17),sl17⟩)(c17:PySem.W.codeIn K cd17 "unlike"=true)(k17:PySem.W.keepIn K (.ref f17)=true)
 (q18:FnG K "either" "either" "either" s_either_nE)
 (q19:FnG K "unlike" "unlike" "unlike" s_unlike_nE)
 (q20:FnG K "other_days" "other_days" "other_days" s_other_days)
 (q21:FnG K "without" "without" "without" s_without)
 (q22:FnG K "without" "without" "without" s_without_nE)
 (q23:FnG K "later" "later" "later" s_later)
 (q24:FnG K "gathered" "gathered" "gathered" s_gathered)
 (q25:FnG K "upon" "upon" "upon" s_upon)
 (q26:FnG K "until" "until" "until" s_until)
 (q27:FnG K "till" "till" "till" s_till)
 (q28:FnG K "nearer_ahead" "nearer_ahead" "nearer_ahead" s_nearer_ahead)
 (q29:FnG K "near" "near" "near" s_near)
 (q30:FnG K "kth" "kth" "kth" s_kth)
 (q31:FnG K "every" "every" "every" s_every)
 (a32:PySem.W.findIn K (.ref c_Rule) "__init__"=some (some (.ref f32)))(l32:K.lookup f32=some ⟨oc32,od32,.func (PySem.W.fnOf "__init__" "Rule.__init__" (defArgs s_Rule___init__) (defBody s_Rule___init__) (defScope s_Rule___init__) (.ref T32) kV32 dc32 pm32 an32 cd32 ct32),sl32⟩)(c32:PySem.W.codeIn K cd32 "Rule.__init__"=true)(k32:PySem.W.keepIn K (.ref f32)=true)
 (t32:K.lookup T32=some ⟨to32,td32,.seq #[.none,.none,.none] tn32,ts32⟩)
 (bfc32:PySem.W.findCls K (.ref c_Rule) (.type "type") "__init__"=some (.val (.ref f32)))
 (q33:FnM K c_Rule "size" "size" "Rule.size" s_Rule_size)
 (q34:FnM K c_Rule "turn" "turn" "Rule.turn" s_Rule_turn)
 (q35:FnM K c_Each "size" "size" "Rule.size" s_Rule_size)
 (q36:FnM K c_Dated "size" "size" "Rule.size" s_Rule_size)
 (q37:FnM K c_Not "size" "size" "Rule.size" s_Rule_size)
 (q38:FnM K c_Both "size" "size" "Rule.size" s_Rule_size)
 (q39:FnM K c_Either "size" "size" "Rule.size" s_Rule_size)
 (q40:FnM K c_But "size" "size" "Rule.size" s_Rule_size)
 (q41:FnM K c_Unlike "size" "size" "Rule.size" s_Rule_size)
 (q42:FnM K c_Later "size" "size" "Rule.size" s_Rule_size)
 (q43:FnM K c_Upon "size" "size" "Rule.size" s_Rule_size)
 (q44:FnM K c_Until "size" "size" "Rule.size" s_Rule_size)
 (q45:FnM K c_Near "size" "size" "Rule.size" s_Rule_size)
 (q46:FnM K c_Till "size" "size" "Rule.size" s_Rule_size)
 (q47:FnM K c_Kth "size" "size" "Rule.size" s_Rule_size)
 (q48:FnM K c_Every "size" "size" "Rule.size" s_Rule_size)
 (q49:FnM K c_Each "turn" "turn" "Rule.turn" s_Rule_turn)
 (q50:FnG K "each_text" "each_text" "each_text" s_each_text)
 (q51:FnM K c_Each "__init__" "__init__" "Each.__init__" s_Each___init__)
 (q52:FnM K c_Both "__init__" "__init__" "Both.__init__" s_Both___init__)
 (q53:FnM K c_Either "__init__" "__init__" "Either.__init__" s_Either___init__)
 (q54:FnM K c_But "__init__" "__init__" "But.__init__" s_But___init__)
 (q55:FnM K c_Unlike "__init__" "__init__" "Unlike.__init__" s_Unlike___init__)
 (q56:FnM K c_Upon "__init__" "__init__" "Upon.__init__" s_Upon___init__)
 (q57:FnM K c_Until "__init__" "__init__" "Until.__init__" s_Until___init__)
 (q58:FnM K c_Near "__init__" "__init__" "Near.__init__" s_Near___init__)
 (q59:FnM K c_Till "__init__" "__init__" "Till.__init__" s_Till___init__)
 (q60:FnM K c_Not "__init__" "__init__" "Not.__init__" s_Not___init__)
 (q61:FnM K c_Later "__init__" "__init__" "Later.__init__" s_Later___init__)
 (q62:FnM K c_Kth "__init__" "__init__" "Kth.__init__" s_Kth___init__)
 (q63:FnM K c_Every "__init__" "__init__" "Every.__init__" s_Every___init__)
 (q64:FnG K "term_on" "term_on" "term_on" s_term_on)
 (q65:FnG K "signs_upto" "signs_upto" "signs_upto" s_signs_upto)
 (q66:FnG K "is_term" "is_term" "is_term" s_is_term)
 (q67:FnG K "least_length" "least_length" "least_length" s_least_length)
 (q68:FnG K "refuse_measure" "refuse_measure" "refuse_measure" s_refuse_measure)
 (q69:FnG K "period_of" "period_of" "period_of" s_period_of)
 (q70:FnM K c_Measure "upto" "upto" "Measure.upto" s_Measure_upto)
 (a71:PySem.W.findIn K (.ref c_Measure) "__init__"=some (some (.ref f71)))(l71:K.lookup f71=some ⟨oc71,od71,.func (PySem.W.fnOf "__init__" "Measure.__init__" (defArgs s_Measure___init__) (defBody s_Measure___init__) (defScope s_Measure___init__) (.ref T71) kV71 dc71 pm71 an71 cd71 ct71),sl71⟩)(c71:PySem.W.codeIn K cd71 "Measure.__init__"=true)(k71:PySem.W.keepIn K (.ref f71)=true)
 (t71:K.lookup T71=some ⟨to71,td71,.seq #[.none] tn71,ts71⟩)
 (u71:PySem.W.typeIn K (.ref f71)=some (.type "function"))
 (q72:FnM K c_Measure "at" "at" "Measure.at" s_Measure_at)
 (q73:FnM K c_Measure "period" "period" "Measure.period" s_Measure_period)
 (q74:FnM K c_Measure "seek" "seek" "Measure.seek" s_Measure_seek)
 (q75:FnG K "refuse_months" "refuse_months" "refuse_months" s_refuse_months)
 (a76:PySem.W.findIn K (.ref c_Sun) "__init__"=some (some (.ref f76)))(l76:K.lookup f76=some ⟨oc76,od76,.func (PySem.W.fnOf "__init__" "Sun.__init__" (defArgs s_Sun___init__) (defBody s_Sun___init__) (defScope s_Sun___init__) (.ref T76) kV76 dc76 pm76 an76 cd76 ct76),sl76⟩)(c76:PySem.W.codeIn K cd76 "Sun.__init__"=true)(k76:PySem.W.keepIn K (.ref f76)=true)
 (t76:K.lookup T76=some ⟨to76,td76,.seq #[(.int 1 tkd_Sun___init___0),.none] tn76,ts76⟩)
 (u76:PySem.W.typeIn K (.ref f76)=some (.type "function"))
 (q77:FnM K c_Sun "year_start" "year_start" "Sun.year_start" s_Sun_year_start)
 (q78:FnM K c_Sun "year_at" "year_at" "Sun.year_at" s_Sun_year_at)
 (q79:FnM K c_Sun "lengths" "lengths" "Sun.lengths" s_Sun_lengths)
 (q80:FnM K c_Sun "cycle" "cycle" "Sun.cycle" s_Sun_cycle)
 (q81:FnM K c_Sun "date_of" "date_of" "Calendar.date_of" s_Sun_date_of)
 (q82:FnM K c_Change "__init__" "__init__" "Change.__init__" s_Change___init__)
 (q83:FnM K c_Change "cycle" "cycle" "Change.cycle" s_Change_cycle)
 (q84:FnG K "refuse_wanted" "refuse_wanted" "refuse_wanted" s_refuse_wanted)
 (q85:FnG K "days_of_month" "days_of_month" "days_of_month" s_days_of_month)
 (q86:FnG K "days_of_year" "days_of_year" "days_of_year" s_days_of_year)
 (a87:PySem.W.nsIn K mainGlobals "dated"=some (some (.ref f87)))(l87:K.lookup f87=some ⟨oc87,od87,.func (PySem.W.fnOf "dated" "dated" (defArgs s_dated) (defBody s_dated) (defScope s_dated) (.ref T87) kV87 dc87 pm87 an87 cd87 ct87),sl87⟩)(c87:PySem.W.codeIn K cd87 "dated"=true)(k87:PySem.W.keepIn K (.ref f87)=true)
 (t87:K.lookup T87=some ⟨to87,td87,.seq #[.none,.none,(.int 1 tkd_dated_2),(.int 0 tkd_dated_3)] tn87,ts87⟩)
 (q88:FnG K "wanted_text" "wanted_text" "wanted_text" s_wanted_text)
 (q89:FnG K "dated_text" "dated_text" "dated_text" s_dated_text)
 (a90:PySem.W.findIn K (.ref c_Dated) "__init__"=some (some (.ref f90)))(l90:K.lookup f90=some ⟨oc90,od90,.func (PySem.W.fnOf "__init__" "Dated.__init__" (defArgs s_Dated___init__) (defBody s_Dated___init__) (defScope s_Dated___init__) (.ref T90) kV90 dc90 pm90 an90 cd90 ct90),sl90⟩)(c90:PySem.W.codeIn K cd90 "Dated.__init__"=true)(k90:PySem.W.keepIn K (.ref f90)=true)
 (t90:K.lookup T90=some ⟨to90,td90,.seq #[.none,.none,(.int 1 tkd_Dated___init___2),(.int 0 tkd_Dated___init___3)] tn90,ts90⟩)
 (u90:PySem.W.typeIn K (.ref f90)=some (.type "function"))
 (q91:FnG K "_law_cell_at" "_law_cell_at" "_law_cell_at" s_law_cell_at)
 (q92:FnG K "_law_whole" "_law_whole" "_law_whole" s_law_whole)
 (q93:FnG K "_law_divisor" "_law_divisor" "_law_divisor" s_law_divisor)
 (q94:FnG K "_law_sizes" "_law_sizes" "_law_sizes" s_law_sizes)
 (q95:FnG K "_law_number" "_law_number" "_law_number" s_law_number)
 (q96:FnG K "_law_pair" "_law_pair" "_law_pair" s_law_pair)
 (q97:FnG K "_law_made" "_law_made" "_law_made" s_law_made)
 (q98:FnG K "_law_told" "_law_told" "_law_told" s_law_told)
 (q99:FnG K "_law_size" "_law_size" "_law_size" s_law_size)
 (q100:FnG K "_law_due" "_law_due" "_law_due" s_law_due)
 (q101:FnG K "_law_calendar" "_law_calendar" "_law_calendar" s_law_calendar)
 (a102:PySem.W.nsIn K mainGlobals "law"=some (some (.ref f102)))(l102:K.lookup f102=some ⟨oc102,od102,.func (PySem.W.fnOf "law" "law" (defArgs s_law) (defBody s_law) (defScope s_law) .none kV102 dc102 pm102 an102 cd102 ct102),sl102⟩)(c102:PySem.W.codeIn K cd102 "law"=true)(k102:PySem.W.keepIn K (.ref f102)=true)
 (z_range:PySem.W.nsIn K mainGlobals "range"=some none)
 (z_len:PySem.W.nsIn K mainGlobals "len"=some none)
 (z_abs:PySem.W.nsIn K mainGlobals "abs"=some none)
 (z_zip:PySem.W.nsIn K mainGlobals "zip"=some none)
 (z_list:PySem.W.nsIn K mainGlobals "list"=some none)
 (z_sum:PySem.W.nsIn K mainGlobals "sum"=some none)
 (z_all:PySem.W.nsIn K mainGlobals "all"=some none)
 (z_tuple:PySem.W.nsIn K mainGlobals "tuple"=some none)
 (z_min:PySem.W.nsIn K mainGlobals "min"=some none)
 (z_max:PySem.W.nsIn K mainGlobals "max"=some none)
 (z_str:PySem.W.nsIn K mainGlobals "str"=some none)
 (z_isinstance:PySem.W.nsIn K mainGlobals "isinstance"=some none)
 (z_int:PySem.W.nsIn K mainGlobals "int"=some none)
 (z_bool:PySem.W.nsIn K mainGlobals "bool"=some none)
 (m_LONGEST:PySem.W.nsIn K mainGlobals "LONGEST"=some (some (.int 150000 tk_LONGEST)))
 (m_PIECE:PySem.W.nsIn K mainGlobals "PIECE"=some (some (.int 256 tk_PIECE)))
 (m_GREATEST_N:PySem.W.nsIn K mainGlobals "GREATEST_N"=some (some (.int 1000 tk_GREATEST_N)))
 (m_GREATEST_BASE:PySem.W.nsIn K mainGlobals "GREATEST_BASE"=some (some (.int 20000 tk_GREATEST_BASE)))
 (m_MOST_TERMS:PySem.W.nsIn K mainGlobals "MOST_TERMS"=some (some (.int 6 tk_MOST_TERMS)))
 (m_MOST_MONTHS:PySem.W.nsIn K mainGlobals "MOST_MONTHS"=some (some (.int 20 tk_MOST_MONTHS)))
 (m_LONGEST_MONTH:PySem.W.nsIn K mainGlobals "LONGEST_MONTH"=some (some (.int 1000 tk_LONGEST_MONTH)))
 :∃fd:FuncData,(∀(s:Shared) (v:Value),BindsTo s fd ⟨[v],[]⟩ [("_law_script",v)])∧∀base:Heap,K.In base→base.Ns mainGlobals mg→FnOk l.prog w K mg base CX0 15 fa fd ["_law_script"] (spLaw K):=by
 have e:=hfa.symm.trans (PySem.W.mg_of X G a102)
 cases e
 have F0:=fun_mk (st:=s_TooLong___init__) l0 c0 k0
 have b0:=F0.binds (ps:=["self","needed"]) fun _ _ _ _ _ _ us hl=>by obtain⟨_,_,rfl⟩:=len2 hl;rfl
 have F16:=fun_mk (st:=s_either) l16 c16 k16
 have b16:=F16.binds (ps:=["one","other"]) fun _ _ _ _ _ _ us hl=>by obtain⟨_,_,rfl⟩:=len2 hl;rfl
 have F17:=fun_mk (st:=s_unlike) l17 c17 k17
 have b17:=F17.binds (ps:=["one","other"]) fun _ _ _ _ _ _ us hl=>by obtain⟨_,_,rfl⟩:=len2 hl;rfl
 have F32:=fun_mkD (st:=s_Rule___init__) l32 c32 k32 t32 rfl
 have b32:=FunD.bindsD (ps:=["self","kept","made_of","words"]) (dv:=[]) 4 rfl F32 fun _ _ _ _ _ _ _ us hl=>by obtain⟨_,_,_,_,rfl⟩:=len4 hl;exact⟨_,rfl,rfl⟩
 have F71:=fun_mkD (st:=s_Measure___init__) l71 c71 k71 t71 rfl
 have b71:=FunD.bindsD (ps:=["self","base","terms"]) (dv:=[]) 3 rfl F71 fun _ _ _ _ _ _ _ us hl=>by obtain⟨_,_,_,rfl⟩:=len3 hl;exact⟨_,rfl,rfl⟩
 have F76:=fun_mkD (st:=s_Sun___init__) l76 c76 k76 t76 rfl
 have b76:=FunD.bindsD (ps:=["self","start","lengths","leap","terms"]) (dv:=[]) 5 rfl F76 fun _ _ _ _ _ _ _ us hl=>by obtain⟨_,_,_,_,_,rfl⟩:=len5 hl;exact⟨_,rfl,rfl⟩
 have b76_2:=FunD.bindsD (ps:=["self","start","lengths","leap","terms"]) (dv:=[(.int 1 tkd_Sun___init___0),.none]) 3 rfl F76 fun _ _ _ _ _ _ _ us hl=>by obtain⟨_,_,_,rfl⟩:=len3 hl;exact⟨_,rfl,rfl⟩
 have F87:=fun_mkD (st:=s_dated) l87 c87 k87 t87 rfl
 have b87:=FunD.bindsD (ps:=["calendar","month","day","step","rest"]) (dv:=[]) 5 rfl F87 fun _ _ _ _ _ _ _ us hl=>by obtain⟨_,_,_,_,_,rfl⟩:=len5 hl;exact⟨_,rfl,rfl⟩
 have F90:=fun_mkD (st:=s_Dated___init__) l90 c90 k90 t90 rfl
 have b90:=FunD.bindsD (ps:=["self","name","calendar","month","day","step","rest"]) (dv:=[]) 7 rfl F90 fun _ _ _ _ _ _ _ us hl=>by obtain⟨_,_,_,_,_,_,_,rfl⟩:=len7 hl;exact⟨_,rfl,rfl⟩
 have F102:=fun_mk (st:=s_law) l102 c102 k102
 have y_range:=PySem.W.mg_none_of X G z_range
 have y_len:=PySem.W.mg_none_of X G z_len
 have y_abs:=PySem.W.mg_none_of X G z_abs
 have y_zip:=PySem.W.mg_none_of X G z_zip
 have y_list:=PySem.W.mg_none_of X G z_list
 have y_sum:=PySem.W.mg_none_of X G z_sum
 have y_all:=PySem.W.mg_none_of X G z_all
 have y_tuple:=PySem.W.mg_none_of X G z_tuple
 have y_min:=PySem.W.mg_none_of X G z_min
 have y_max:=PySem.W.mg_none_of X G z_max
 have y_str:=PySem.W.mg_none_of X G z_str
 have y_isinstance:=PySem.W.mg_none_of X G z_isinstance
 have y_int:=PySem.W.mg_none_of X G z_int
 have y_bool:=PySem.W.mg_none_of X G z_bool
 have y_LONGEST:=PySem.W.mg_of X G m_LONGEST
 have y_PIECE:=PySem.W.mg_of X G m_PIECE
 have y_GREATEST_N:=PySem.W.mg_of X G m_GREATEST_N
 have y_GREATEST_BASE:=PySem.W.mg_of X G m_GREATEST_BASE
 have y_MOST_TERMS:=PySem.W.mg_of X G m_MOST_TERMS
 have y_MOST_MONTHS:=PySem.W.mg_of X G m_MOST_MONTHS
 have y_LONGEST_MONTH:=PySem.W.mg_of X G m_LONGEST_MONTH
 refine⟨PySem.W.fnOf "law" "law" (defArgs s_law) (defBody s_law) (defScope s_law) .none kV102 dc102 pm102 an102 cd102 ct102,fun s v=>.of_eq rfl,fun base _ _=>?_⟩
 have er:Errs K mg c_FeastError c_NoNumber c_TooLong c_NoMeasure c_NoChange c_NoCycle c_Rule c_Each c_Dated c_Not c_Both c_Either c_But c_Unlike c_Later c_Upon c_Until c_Near c_Till c_Kth c_Every c_Measure c_Calendar c_Sun c_Change:=⟨PySem.W.mg_of X G n_FeastError,PySem.W.mg_of X G n_NoNumber,⟨PySem.W.mg_of X G n_NoNumber,t_NoNumber,has_cls k_NoNumber,b_NoNumber⟩,PySem.W.mg_of X G n_TooLong,⟨PySem.W.mg_of X G n_TooLong,t_TooLong,has_cls k_TooLong,b_TooLong⟩,⟨PySem.W.mg_of X G n_NoCycle,t_NoCycle,has_cls k_NoCycle,b_NoCycle⟩,⟨PySem.W.mg_of X G n_NoNumber,e_NoNumber⟩,⟨ga_NoNumber,gk_NoNumber,b_NoNumber,ob_NoNumber,ca_NoNumber,has_cls k_NoNumber,xsp,xtk⟩,i_NoNumber_FeastError,r_NoNumber_NoNumber,i_NoNumber_TooLong,⟨⟨_,_,_,_,_,_,_,o_TooLong,om_TooLong,od_TooLong,oh_TooLong⟩,e_FeastError,sa_TooLong⟩,⟨PySem.W.mg_of X G n_FeastError,fs_FeastError,fr_FeastError,ff_FeastError⟩,k_TooLong,na_TooLong_needed,⟨ga_TooLong,gk_TooLong,b_TooLong,ob_TooLong,ca_TooLong,has_cls k_TooLong,xsp,xtk⟩,i_TooLong_FeastError,r_TooLong_NoNumber,i_TooLong_NoNumber,r_TooLong_TooLong,r_TooLong_NoCycle,⟨PySem.W.mg_of X G n_NoCycle,e_NoCycle⟩,⟨ga_NoCycle,gk_NoCycle,b_NoCycle,ob_NoCycle,ca_NoCycle,has_cls k_NoCycle,xsp,xtk⟩,i_NoCycle_FeastError,r_NoCycle_NoNumber,i_NoCycle_NoNumber,r_NoCycle_NoCycle,⟨pg_Measure,k_Measure,po_Measure,sa_Measure⟩,na_Measure_base,na_Measure_terms,na_Measure_full_count,na_Measure_full_sum,⟨pg_Sun,k_Sun,po_Sun,sa_Sun⟩,na_Sun_start,na_Sun_months,na_Sun_leap,na_Sun_years,⟨pg_Change,k_Change,po_Change,sa_Change⟩,na_Change_old,na_Change_new,na_Change_day,na_Change_last_old,na_Change_first_new,⟨pg_Each,k_Each,po_Each,sa_Each⟩,⟨⟨pg_Each,k_Each,po_Each,sa_Each⟩,na_Each_kept,na_Each_made_of,na_Each_words,ca_Each,ob_Each,i_Each_Rule⟩,⟨pg_Dated,k_Dated,po_Dated,sa_Dated⟩,⟨⟨pg_Dated,k_Dated,po_Dated,sa_Dated⟩,na_Dated_kept,na_Dated_made_of,na_Dated_words,ca_Dated,ob_Dated,i_Dated_Rule⟩,⟨pg_Not,k_Not,po_Not,sa_Not⟩,⟨⟨pg_Not,k_Not,po_Not,sa_Not⟩,na_Not_kept,na_Not_made_of,na_Not_words,ca_Not,ob_Not,i_Not_Rule⟩,⟨pg_Both,k_Both,po_Both,sa_Both⟩,⟨⟨pg_Both,k_Both,po_Both,sa_Both⟩,na_Both_kept,na_Both_made_of,na_Both_words,ca_Both,ob_Both,i_Both_Rule⟩,⟨pg_Either,k_Either,po_Either,sa_Either⟩,⟨⟨pg_Either,k_Either,po_Either,sa_Either⟩,na_Either_kept,na_Either_made_of,na_Either_words,ca_Either,ob_Either,i_Either_Rule⟩,⟨pg_But,k_But,po_But,sa_But⟩,⟨⟨pg_But,k_But,po_But,sa_But⟩,na_But_kept,na_But_made_of,na_But_words,ca_But,ob_But,i_But_Rule⟩,⟨pg_Unlike,k_Unlike,po_Unlike,sa_Unlike⟩,⟨⟨pg_Unlike,k_Unlike,po_Unlike,sa_Unlike⟩,na_Unlike_kept,na_Unlike_made_of,na_Unlike_words,ca_Unlike,ob_Unlike,i_Unlike_Rule⟩,⟨pg_Later,k_Later,po_Later,sa_Later⟩,⟨⟨pg_Later,k_Later,po_Later,sa_Later⟩,na_Later_kept,na_Later_made_of,na_Later_words,ca_Later,ob_Later,i_Later_Rule⟩,⟨pg_Upon,k_Upon,po_Upon,sa_Upon⟩,⟨⟨pg_Upon,k_Upon,po_Upon,sa_Upon⟩,na_Upon_kept,na_Upon_made_of,na_Upon_words,ca_Upon,ob_Upon,i_Upon_Rule⟩,⟨pg_Until,k_Until,po_Until,sa_Until⟩,⟨⟨pg_Until,k_Until,po_Until,sa_Until⟩,na_Until_kept,na_Until_made_of,na_Until_words,ca_Until,ob_Until,i_Until_Rule⟩,⟨pg_Near,k_Near,po_Near,sa_Near⟩,⟨⟨pg_Near,k_Near,po_Near,sa_Near⟩,na_Near_kept,na_Near_made_of,na_Near_words,ca_Near,ob_Near,i_Near_Rule⟩,⟨pg_Till,k_Till,po_Till,sa_Till⟩,⟨⟨pg_Till,k_Till,po_Till,sa_Till⟩,na_Till_kept,na_Till_made_of,na_Till_words,ca_Till,ob_Till,i_Till_Rule⟩,⟨pg_Kth,k_Kth,po_Kth,sa_Kth⟩,⟨⟨pg_Kth,k_Kth,po_Kth,sa_Kth⟩,na_Kth_kept,na_Kth_made_of,na_Kth_words,ca_Kth,ob_Kth,i_Kth_Rule⟩,⟨pg_Every,k_Every,po_Every,sa_Every⟩,⟨⟨pg_Every,k_Every,po_Every,sa_Every⟩,na_Every_kept,na_Every_made_of,na_Every_words,ca_Every,ob_Every,i_Every_Rule⟩⟩
 have C_TooLong___init__:CalX l.prog w K mg base 1 "TooLong" c_TooLong c_FeastError ["self","needed"] (spInit1 c_TooLong "needed" okNum):=⟨⟨f0,_,ok_TooLong___init__ F0 er,b0,⟨er.o_TooLong,PySem.W.mg_of X G n_TooLong,kp_TooLong,a0,u0⟩⟩⟩
 have C_refuse_below_one:CalE l.prog w K mg base 1 "refuse_below_one" ["number"] (spRefuseE c_NoNumber):=calE_of X G q1 (by walk_at "b1") fun F=>ok_refuse_below_one F er
 have C_refuse_too_long:CalE l.prog w K mg base 3 "refuse_too_long" ["size"] (spTooLongE c_TooLong):=calE_of X G q2 (by walk_at "b1") fun F=>ok_refuse_too_long F er C_TooLong___init__ y_LONGEST
 have C_equation:Cal l.prog w K mg base 1 "equation" ["one","other"] spEq:=cal_of X G q3 (by walk_at "b2") fun F=>ok_equation F
 have C_divisor:Cal l.prog w K mg base 2 "divisor" ["one","other"] spDivisor:=cal_of X G q4 (by walk_at "b2") fun F=>ok_divisor F C_equation
 have C_common:CalE l.prog w K mg base 3 "common" ["one","other"] (spCommonE c_NoNumber):=calE_of X G q5 (by walk_at "b2") fun F=>ok_common F C_refuse_below_one C_divisor
 have C_round_by:CalE l.prog w K mg base 4 "round_by" ["size","days"] (spRoundByE K c_NoNumber c_TooLong):=calE_of X G q6 (by walk_at "b2") fun F=>ok_round_by F C_refuse_below_one C_refuse_too_long y_range y_len y_PIECE
 have C_full_bits:Cal l.prog w K mg base 1 "full_bits" ["size"] spFull:=cal_of X G q7 (by walk_at "b1") fun F=>ok_full_bits F
 have C_days_in:Cal l.prog w K mg base 2 "days_in" ["turn"] (spDaysIn K):=cal_of X G q8 (by walk_at "b1") fun F=>ok_days_in F C_full_bits y_range y_PIECE
 have C_bits_by:Cal l.prog w K mg base 2 "bits_by" ["turn","size"] (spBitsByL K):=cal_of X G q9 (by walk_at "b2") fun F=>ok_bits_by F C_full_bits
 have C_stretched:CalE l.prog w K mg base 4 "stretched" ["turn","size"] (spStretchedE K c_NoNumber c_TooLong):=calE_of X G q10 (by walk_at "b2") fun F=>ok_stretched F er C_refuse_below_one C_refuse_too_long C_bits_by
 have C_common_size:CalE l.prog w K mg base 4 "common_size" ["one","other"] (spCSE K c_TooLong):=calE_of X G q11 (by walk_at "b2") fun F=>ok_common_size F C_common C_refuse_too_long
 have C_ones_in:Cal l.prog w K mg base 3 "ones_in" ["bits"] spOnes:=cal_of X G q12 (by walk_at "b1") fun F=>ok_ones_in F C_bits_by C_full_bits
 have C_days_ahead:Cal l.prog w K mg base 4 "days_ahead" ["turn","day"] (spAhead K):=cal_of X G q13 (by walk_at "b2") fun F=>ok_days_ahead F C_full_bits C_ones_in
 have C_how_many:Cal l.prog w K mg base 5 "how_many" ["turn","first","end"] (spMany K):=cal_of X G q14 (by walk_at "b3") fun F=>ok_how_many F C_days_ahead
 have C_both:CalE l.prog w K mg base 5 "both" ["one","other"] (spWhS K c_TooLong):=calE_of X G q15 (by walk_at "b2") fun F=>ok_both F C_common_size C_bits_by
 have C_either:Cal l.prog w K mg base 5 "either" ["one","other"] (spJoin K):=⟨⟨f16,_,ok_either F16 C_common_size C_bits_by,b16,k16,PySem.W.mg_of X G a16⟩⟩
 have C_unlike:Cal l.prog w K mg base 5 "unlike" ["one","other"] (spJoin K):=⟨⟨f17,_,ok_unlike F17 C_common_size C_bits_by,b17,k17,PySem.W.mg_of X G a17⟩⟩
 have C_either_nE:CalE l.prog w K mg base 5 "either" ["one","other"] (spWhS K c_TooLong):=calE_of X G q18 (by walk_at "b2") fun F=>ok_either_nE F C_common_size C_bits_by
 have C_unlike_nE:CalE l.prog w K mg base 5 "unlike" ["one","other"] (spWhS K c_TooLong):=calE_of X G q19 (by walk_at "b2") fun F=>ok_unlike_nE F C_common_size C_bits_by
 have C_other_days:Cal l.prog w K mg base 2 "other_days" ["turn"] (spOther K):=cal_of X G q20 (by walk_at "b1") fun F=>ok_other_days F C_full_bits
 have C_without:Cal l.prog w K mg base 6 "without" ["one","other"] (spJoin K):=cal_of X G q21 (by walk_at "b2") fun F=>ok_without F C_both C_other_days
 have C_without_nE:CalE l.prog w K mg base 6 "without" ["one","other"] (spWhS K c_TooLong):=calE_of X G q22 (by walk_at "b2") fun F=>ok_without_nE F C_both C_other_days
 have C_later:Cal l.prog w K mg base 2 "later" ["turn","number"] (spLater K):=cal_of X G q23 (by walk_at "b2") fun F=>ok_later F C_full_bits
 have C_gathered:Cal l.prog w K mg base 6 "gathered" ["turn","barred","step","join"] (spGathS K mg [("either",spJoin K),("unlike",spJoin K)]):=cal_of X G q24 (by walk_at "b4") fun F=>ok_gathered F C_other_days C_both C_later C_either C_unlike y_abs
 have C_upon:CalE l.prog w K mg base 7 "upon" ["R","S"] (spWhS K c_TooLong):=calE_of X G q25 (by walk_at "b2") fun F=>ok_upon F C_common_size C_stretched C_both C_gathered C_later C_either (PySem.W.mg_of X G a16)
 have C_until:CalE l.prog w K mg base 7 "until" ["R","S"] (spWhS K c_TooLong):=calE_of X G q26 (by walk_at "b2") fun F=>ok_until F C_common_size C_stretched C_both C_gathered C_later C_either (PySem.W.mg_of X G a16)
 have C_till:CalE l.prog w K mg base 7 "till" ["R","S"] (spWhS K c_TooLong):=calE_of X G q27 (by walk_at "b2") fun F=>ok_till F C_common_size C_gathered C_stretched C_either (PySem.W.mg_of X G a16)
 have C_nearer_ahead:Cal l.prog w K mg base 8 "nearer_ahead" ["R"] (spNearS K):=cal_of X G q28 (by walk_at "b1") fun F=>ok_nearer_ahead F C_days_in C_till C_round_by y_zip
 have C_near:CalE l.prog w K mg base 9 "near" ["R","S"] (spWhS K c_TooLong):=calE_of X G q29 (by walk_at "b2") fun F=>ok_near F C_nearer_ahead C_either C_until C_both C_upon C_without
 have C_kth:CalE l.prog w K mg base 8 "kth" ["number","R","S"] (spKthS K c_NoNumber c_TooLong):=calE_of X G q30 (by walk_at "b3") fun F=>ok_kth F er C_common_size C_stretched C_later C_both C_gathered C_unlike C_without C_upon C_until y_abs (PySem.W.mg_of X G a17)
 have C_every:CalE l.prog w K mg base 6 "every" ["number","R","day"] (spEveryE K c_NoNumber c_TooLong):=calE_of X G q31 (by walk_at "b3") fun F=>ok_every F C_refuse_below_one C_refuse_too_long C_days_in C_how_many C_round_by y_list y_range y_len
 have C_Rule___init__:CalB l.prog w K mg base 1 "Rule" ["self","kept","made_of","words"] (spRInit K c_Rule):=⟨⟨f32,c_Rule,_,ok_Rule___init__ F32 er,b32,⟨PySem.W.mg_of X G n_Rule,bsp_Rule,brd_Rule,bfc32,k32⟩⟩⟩
 have C_Rule_size:CalM l.prog w K mg base CX0 1 c_Rule "size" ["self"] (spSizeM K c_Rule [c_Each,c_Dated,c_Not,c_Both,c_Either,c_But,c_Unlike,c_Later,c_Upon,c_Until,c_Near,c_Till,c_Kth,c_Every]):=calM_of q33 (by walk_at "b1") fun F=>ok_Rule_size F er
 have C_Rule_turn:CalM l.prog w K mg base CX0 1 c_Rule "turn" ["self"] (spTurnM K c_Rule [c_Each]):=calM_of q34 (by walk_at "b1") fun F=>ok_Rule_turn F er
 have C_Each_size:CalM l.prog w K mg base CX0 1 c_Each "size" ["self"] (spSizeM K c_Rule [c_Each,c_Dated,c_Not,c_Both,c_Either,c_But,c_Unlike,c_Later,c_Upon,c_Until,c_Near,c_Till,c_Kth,c_Every]):=calM_of q35 (by walk_at "b1") fun F=>ok_Rule_size F er
 have C_Dated_size:CalM l.prog w K mg base CX0 1 c_Dated "size" ["self"] (spSizeM K c_Rule [c_Each,c_Dated,c_Not,c_Both,c_Either,c_But,c_Unlike,c_Later,c_Upon,c_Until,c_Near,c_Till,c_Kth,c_Every]):=calM_of q36 (by walk_at "b1") fun F=>ok_Rule_size F er
 have C_Not_size:CalM l.prog w K mg base CX0 1 c_Not "size" ["self"] (spSizeM K c_Rule [c_Each,c_Dated,c_Not,c_Both,c_Either,c_But,c_Unlike,c_Later,c_Upon,c_Until,c_Near,c_Till,c_Kth,c_Every]):=calM_of q37 (by walk_at "b1") fun F=>ok_Rule_size F er
 have C_Both_size:CalM l.prog w K mg base CX0 1 c_Both "size" ["self"] (spSizeM K c_Rule [c_Each,c_Dated,c_Not,c_Both,c_Either,c_But,c_Unlike,c_Later,c_Upon,c_Until,c_Near,c_Till,c_Kth,c_Every]):=calM_of q38 (by walk_at "b1") fun F=>ok_Rule_size F er
 have C_Either_size:CalM l.prog w K mg base CX0 1 c_Either "size" ["self"] (spSizeM K c_Rule [c_Each,c_Dated,c_Not,c_Both,c_Either,c_But,c_Unlike,c_Later,c_Upon,c_Until,c_Near,c_Till,c_Kth,c_Every]):=calM_of q39 (by walk_at "b1") fun F=>ok_Rule_size F er
 have C_But_size:CalM l.prog w K mg base CX0 1 c_But "size" ["self"] (spSizeM K c_Rule [c_Each,c_Dated,c_Not,c_Both,c_Either,c_But,c_Unlike,c_Later,c_Upon,c_Until,c_Near,c_Till,c_Kth,c_Every]):=calM_of q40 (by walk_at "b1") fun F=>ok_Rule_size F er
 have C_Unlike_size:CalM l.prog w K mg base CX0 1 c_Unlike "size" ["self"] (spSizeM K c_Rule [c_Each,c_Dated,c_Not,c_Both,c_Either,c_But,c_Unlike,c_Later,c_Upon,c_Until,c_Near,c_Till,c_Kth,c_Every]):=calM_of q41 (by walk_at "b1") fun F=>ok_Rule_size F er
 have C_Later_size:CalM l.prog w K mg base CX0 1 c_Later "size" ["self"] (spSizeM K c_Rule [c_Each,c_Dated,c_Not,c_Both,c_Either,c_But,c_Unlike,c_Later,c_Upon,c_Until,c_Near,c_Till,c_Kth,c_Every]):=calM_of q42 (by walk_at "b1") fun F=>ok_Rule_size F er
 have C_Upon_size:CalM l.prog w K mg base CX0 1 c_Upon "size" ["self"] (spSizeM K c_Rule [c_Each,c_Dated,c_Not,c_Both,c_Either,c_But,c_Unlike,c_Later,c_Upon,c_Until,c_Near,c_Till,c_Kth,c_Every]):=calM_of q43 (by walk_at "b1") fun F=>ok_Rule_size F er
 have C_Until_size:CalM l.prog w K mg base CX0 1 c_Until "size" ["self"] (spSizeM K c_Rule [c_Each,c_Dated,c_Not,c_Both,c_Either,c_But,c_Unlike,c_Later,c_Upon,c_Until,c_Near,c_Till,c_Kth,c_Every]):=calM_of q44 (by walk_at "b1") fun F=>ok_Rule_size F er
 have C_Near_size:CalM l.prog w K mg base CX0 1 c_Near "size" ["self"] (spSizeM K c_Rule [c_Each,c_Dated,c_Not,c_Both,c_Either,c_But,c_Unlike,c_Later,c_Upon,c_Until,c_Near,c_Till,c_Kth,c_Every]):=calM_of q45 (by walk_at "b1") fun F=>ok_Rule_size F er
 have C_Till_size:CalM l.prog w K mg base CX0 1 c_Till "size" ["self"] (spSizeM K c_Rule [c_Each,c_Dated,c_Not,c_Both,c_Either,c_But,c_Unlike,c_Later,c_Upon,c_Until,c_Near,c_Till,c_Kth,c_Every]):=calM_of q46 (by walk_at "b1") fun F=>ok_Rule_size F er
 have C_Kth_size:CalM l.prog w K mg base CX0 1 c_Kth "size" ["self"] (spSizeM K c_Rule [c_Each,c_Dated,c_Not,c_Both,c_Either,c_But,c_Unlike,c_Later,c_Upon,c_Until,c_Near,c_Till,c_Kth,c_Every]):=calM_of q47 (by walk_at "b1") fun F=>ok_Rule_size F er
 have C_Every_size:CalM l.prog w K mg base CX0 1 c_Every "size" ["self"] (spSizeM K c_Rule [c_Each,c_Dated,c_Not,c_Both,c_Either,c_But,c_Unlike,c_Later,c_Upon,c_Until,c_Near,c_Till,c_Kth,c_Every]):=calM_of q48 (by walk_at "b1") fun F=>ok_Rule_size F er
 have C_Each_turn:CalM l.prog w K mg base CX0 1 c_Each "turn" ["self"] (spTurnM K c_Rule [c_Each]):=calM_of q49 (by walk_at "b1") fun F=>ok_Rule_turn F er
 have C_each_text:Cal l.prog w K mg base 1 "each_text" ["step","rest"] spEachT65:=cal_of X G q50 (by walk_at "b2") fun F=>ok_each_text F
 have C_Each___init__:CalI l.prog w K mg base (CX1 l.prog w) 5 "Each" c_Each ["self","size","rest"] (spIEE K c_Rule [c_Each] c_Each c_NoNumber c_NoCycle c_TooLong):=calI_of X G mk_Each kp_Each n_Each q51 (by walk_at "b3") fun F=>ok_Each___init__ F er C_round_by C_Rule___init__ C_each_text
 have C_Both___init__:CalI l.prog w K mg base (CX1 l.prog w) 6 "Both" c_Both ["self","R","S"] (spI2E K c_Rule c_Each [c_Each,c_Dated,c_Not,c_Both,c_Either,c_But,c_Unlike,c_Later,c_Upon,c_Until,c_Near,c_Till,c_Kth,c_Every] c_Both c_NoNumber c_NoCycle c_TooLong):=calI_of X G mk_Both kp_Both n_Both q52 (by walk_at "b3") fun F=>ok_Both___init__ F er C_Rule___init__ C_both C_Each_turn
 have C_Either___init__:CalI l.prog w K mg base (CX1 l.prog w) 6 "Either" c_Either ["self","R","S"] (spI2E K c_Rule c_Each [c_Each,c_Dated,c_Not,c_Both,c_Either,c_But,c_Unlike,c_Later,c_Upon,c_Until,c_Near,c_Till,c_Kth,c_Every] c_Either c_NoNumber c_NoCycle c_TooLong):=calI_of X G mk_Either kp_Either n_Either q53 (by walk_at "b3") fun F=>ok_Either___init__ F er C_Rule___init__ C_either_nE C_Each_turn
 have C_But___init__:CalI l.prog w K mg base (CX1 l.prog w) 7 "But" c_But ["self","R","S"] (spI2E K c_Rule c_Each [c_Each,c_Dated,c_Not,c_Both,c_Either,c_But,c_Unlike,c_Later,c_Upon,c_Until,c_Near,c_Till,c_Kth,c_Every] c_But c_NoNumber c_NoCycle c_TooLong):=calI_of X G mk_But kp_But n_But q54 (by walk_at "b3") fun F=>ok_But___init__ F er C_Rule___init__ C_without_nE C_Each_turn
 have C_Unlike___init__:CalI l.prog w K mg base (CX1 l.prog w) 6 "Unlike" c_Unlike ["self","R","S"] (spI2E K c_Rule c_Each [c_Each,c_Dated,c_Not,c_Both,c_Either,c_But,c_Unlike,c_Later,c_Upon,c_Until,c_Near,c_Till,c_Kth,c_Every] c_Unlike c_NoNumber c_NoCycle c_TooLong):=calI_of X G mk_Unlike kp_Unlike n_Unlike q55 (by walk_at "b3") fun F=>ok_Unlike___init__ F er C_Rule___init__ C_unlike_nE C_Each_turn
 have C_Upon___init__:CalI l.prog w K mg base (CX1 l.prog w) 8 "Upon" c_Upon ["self","R","S"] (spI2E K c_Rule c_Each [c_Each,c_Dated,c_Not,c_Both,c_Either,c_But,c_Unlike,c_Later,c_Upon,c_Until,c_Near,c_Till,c_Kth,c_Every] c_Upon c_NoNumber c_NoCycle c_TooLong):=calI_of X G mk_Upon kp_Upon n_Upon q56 (by walk_at "b3") fun F=>ok_Upon___init__ F er C_Rule___init__ C_upon C_Each_turn
 have C_Until___init__:CalI l.prog w K mg base (CX1 l.prog w) 8 "Until" c_Until ["self","R","S"] (spI2E K c_Rule c_Each [c_Each,c_Dated,c_Not,c_Both,c_Either,c_But,c_Unlike,c_Later,c_Upon,c_Until,c_Near,c_Till,c_Kth,c_Every] c_Until c_NoNumber c_NoCycle c_TooLong):=calI_of X G mk_Until kp_Until n_Until q57 (by walk_at "b3") fun F=>ok_Until___init__ F er C_Rule___init__ C_until C_Each_turn
 have C_Near___init__:CalI l.prog w K mg base (CX1 l.prog w) 10 "Near" c_Near ["self","R","S"] (spI2E K c_Rule c_Each [c_Each,c_Dated,c_Not,c_Both,c_Either,c_But,c_Unlike,c_Later,c_Upon,c_Until,c_Near,c_Till,c_Kth,c_Every] c_Near c_NoNumber c_NoCycle c_TooLong):=calI_of X G mk_Near kp_Near n_Near q58 (by walk_at "b3") fun F=>ok_Near___init__ F er C_Rule___init__ C_near C_Each_turn
 have C_Till___init__:CalI l.prog w K mg base (CX1 l.prog w) 8 "Till" c_Till ["self","R","S"] (spI2E K c_Rule c_Each [c_Each,c_Dated,c_Not,c_Both,c_Either,c_But,c_Unlike,c_Later,c_Upon,c_Until,c_Near,c_Till,c_Kth,c_Every] c_Till c_NoNumber c_NoCycle c_TooLong):=calI_of X G mk_Till kp_Till n_Till q59 (by walk_at "b3") fun F=>ok_Till___init__ F er C_Rule___init__ C_till C_Each_turn
 have C_Not___init__:CalI l.prog w K mg base (CX1 l.prog w) 3 "Not" c_Not ["self","R"] (spI1E K c_Rule c_Each [c_Each,c_Dated,c_Not,c_Both,c_Either,c_But,c_Unlike,c_Later,c_Upon,c_Until,c_Near,c_Till,c_Kth,c_Every] c_Not c_NoNumber c_NoCycle c_TooLong):=calI_of X G mk_Not kp_Not n_Not q60 (by walk_at "b2") fun F=>ok_Not___init__ F er C_Rule___init__ C_other_days C_Each_turn
 have C_Later___init__:CalI l.prog w K mg base (CX1 l.prog w) 3 "Later" c_Later ["self","number","R"] (spILE K c_Rule c_Each [c_Each,c_Dated,c_Not,c_Both,c_Either,c_But,c_Unlike,c_Later,c_Upon,c_Until,c_Near,c_Till,c_Kth,c_Every] c_Later c_NoNumber c_NoCycle c_TooLong):=calI_of X G mk_Later kp_Later n_Later q61 (by walk_at "b3") fun F=>ok_Later___init__ F er C_Rule___init__ C_later C_Each_turn
 have C_Kth___init__:CalI l.prog w K mg base (CX1 l.prog w) 9 "Kth" c_Kth ["self","number","R","S"] (spIKE K c_Rule c_Each [c_Each,c_Dated,c_Not,c_Both,c_Either,c_But,c_Unlike,c_Later,c_Upon,c_Until,c_Near,c_Till,c_Kth,c_Every] c_Kth c_NoNumber c_NoCycle c_TooLong):=calI_of X G mk_Kth kp_Kth n_Kth q62 (by walk_at "b4") fun F=>ok_Kth___init__ F er C_kth C_Each_turn C_Rule___init__
 have C_Every___init__:CalI l.prog w K mg base (CX1 l.prog w) 7 "Every" c_Every ["self","number","R","day"] (spIVE K c_Rule c_Each [c_Each,c_Dated,c_Not,c_Both,c_Either,c_But,c_Unlike,c_Later,c_Upon,c_Until,c_Near,c_Till,c_Kth,c_Every] c_Every c_NoNumber c_NoCycle c_TooLong):=calI_of X G mk_Every kp_Every n_Every q63 (by walk_at "b4") fun F=>ok_Every___init__ F er C_every C_Each_turn C_Rule___init__
 have C_term_on:Cal l.prog w K mg base 1 "term_on" ["term","k"] spTermOn:=cal_of X G q64 (by walk_at "b2") fun F=>ok_term_on F
 have C_signs_upto:Cal l.prog w K mg base 1 "signs_upto" ["terms","k"] (spSigns K):=cal_of X G q65 (by walk_at "b2") fun F=>ok_signs_upto F y_sum
 have C_is_term:Cal l.prog w K mg base 1 "is_term" ["term"] spIsTerm:=cal_of X G q66 (by walk_at "b1") fun F=>ok_is_term F y_GREATEST_N
 have C_least_length:Cal l.prog w K mg base 1 "least_length" ["base","terms"] (spLeast K):=cal_of X G q67 (by walk_at "b2") fun F=>ok_least_length F y_len
 have C_refuse_measure:Cal l.prog w K mg base 2 "refuse_measure" ["base","terms"] (spRefuseM K):=cal_of X G q68 (by walk_at "b2") fun F=>ok_refuse_measure F C_is_term C_least_length y_len y_all y_GREATEST_BASE y_MOST_TERMS
 have C_period_of:Cal l.prog w K mg base 4 "period_of" ["terms"] (spPeriod K):=cal_of X G q69 (by walk_at "b1") fun F=>ok_period_of F C_common
 have C_Measure_upto:CalM l.prog w K mg base CX0 2 c_Measure "upto" ["self","k"] (spUpto K c_Measure):=calM_of q70 (by walk_at "b2") fun F=>ok_Measure_upto F er C_signs_upto
 have C_Measure___init__:CalI l.prog w K mg base CX0 5 "Measure" c_Measure ["self","base","terms"] (spInitM K c_Measure):=⟨⟨f71,_,ok_Measure___init__ F71 er C_refuse_measure C_period_of C_Measure_upto y_tuple,b71,⟨mk_Measure,a71,beq_iff_eq.mpr u71,kp_Measure⟩,PySem.W.mg_of X G n_Measure⟩⟩
 have C_Measure_at:CalM l.prog w K mg base CX0 2 c_Measure "at" ["self","k"] (spAt K c_Measure):=calM_of q72 (by walk_at "b2") fun F=>ok_Measure_at F er C_term_on y_sum
 have C_Measure_period:CalM l.prog w K mg base CX0 1 c_Measure "period" ["self"] (spPer K c_Measure):=calM_of q73 (by walk_at "b1") fun F=>ok_Measure_period F er
 have C_Measure_seek:CalM l.prog w K mg base CX0 3 c_Measure "seek" ["self","total"] (spSeek K c_Measure):=calM_of q74 (by walk_at "b2") fun F=>ok_Measure_seek F er C_Measure_upto
 have C_refuse_months:Cal l.prog w K mg base 1 "refuse_months" ["lengths","leap"] (spRefMo K):=cal_of X G q75 (by walk_at "b2") fun F=>ok_refuse_months F y_len y_min y_max y_MOST_MONTHS y_LONGEST_MONTH
 have C_Sun___init__:CalI l.prog w K mg base CX0 7 "Sun" c_Sun ["self","start","lengths","leap","terms"] (spInitS K c_Sun c_Measure):=⟨⟨f76,_,ok_Sun___init__ F76 er C_refuse_months C_Measure___init__ C_least_length y_tuple y_sum,b76,⟨mk_Sun,a76,beq_iff_eq.mpr u76,kp_Sun⟩,PySem.W.mg_of X G n_Sun⟩⟩
 have C_Sun___init___d2:CalID l.prog w K mg base CX0 7 "Sun" c_Sun ["self","start","lengths","leap","terms"] [(.int 1),.non] (spInitS K c_Sun c_Measure):=⟨⟨f76,_,_,ok_Sun___init__ F76 er C_refuse_months C_Measure___init__ C_least_length y_tuple y_sum,b76_2,(.cons (by first | exact rfl | exact rel_int _ _ | trivial) (.cons (by first | exact rfl | exact rel_int _ _ | trivial) .nil)),⟨mk_Sun,a76,beq_iff_eq.mpr u76,kp_Sun⟩,PySem.W.mg_of X G n_Sun⟩⟩
 have C_Sun_year_start:CalM l.prog w K mg base CX0 3 c_Sun "year_start" ["self","year"] (spYS K c_Sun c_Measure):=calM_of q77 (by walk_at "b2") fun F=>ok_Sun_year_start F er C_Measure_upto
 have C_Sun_year_at:CalM l.prog w K mg base CX0 4 c_Sun "year_at" ["self","day"] (spYA K c_Sun c_Measure):=calM_of q78 (by walk_at "b2") fun F=>ok_Sun_year_at F er C_Measure_seek
 have C_Sun_lengths:CalM l.prog w K mg base CX0 3 c_Sun "lengths" ["self","year"] (spLens K c_Sun c_Measure):=calM_of q79 (by walk_at "b2") fun F=>ok_Sun_lengths F er C_Measure_at y_list
 have C_Sun_cycle:CalM l.prog w K mg base CX0 3 c_Sun "cycle" ["self"] (spCyc K c_Sun c_Measure):=calM_of q80 (by walk_at "b1") fun F=>ok_Sun_cycle F er C_Measure_period C_Measure_upto
 have C_Sun_date_of:CalM l.prog w K mg base CX0 5 c_Sun "date_of" ["self","day"] (spDate K c_Sun c_Sun c_Measure true):=calM_of q81 (by walk_at "b2") fun F=>ok_Sun_date_of F er C_Sun_year_at C_Sun_year_start C_Sun_lengths
 have C_Change___init__:CalI l.prog w K mg base CX0 6 "Change" c_Change ["self","old","new","day"] (spInitC65 K c_Sun c_Measure c_Change):=calI_of X G mk_Change kp_Change n_Change q82 (by walk_at "b4") fun F=>ok_Change___init__ F er C_Sun_date_of
 have C_Change_cycle:CalM l.prog w K mg base (CX1 l.prog w) 1 c_Change "cycle" ["self"] (spCyc44 c_Change c_NoCycle):=calM_of q83 (by walk_at "b1") fun F=>ok_Change_cycle F er
 have C_refuse_wanted:CalE l.prog w K mg base 2 "refuse_wanted" ["month","day","step"] (spWantE c_NoNumber):=calE_of X G q84 (by walk_at "b3") fun F=>ok_refuse_wanted F er C_refuse_below_one
 have C_days_of_month:Cal l.prog w K mg base 1 "days_of_month" ["first","length","day"] spDoM:=cal_of X G q85 (by walk_at "b3") fun F=>ok_days_of_month F y_list y_range
 have C_days_of_year:Cal l.prog w K mg base 4 "days_of_year" ["calendar","year","month","day"] (spDoY65 K c_Sun c_Measure):=cal_of X G q86 (by walk_at "b4") fun F=>ok_days_of_year F er C_Sun_year_start C_Sun_lengths C_days_of_month
 have C_dated:CalE l.prog w K mg base 5 "dated" ["calendar","month","day","step","rest"] (spDated65 K c_Sun c_Measure c_Change c_NoNumber c_NoCycle c_TooLong):=⟨⟨f87,_,ok_dated F87 er C_refuse_wanted C_Sun_cycle C_Change_cycle C_common C_refuse_too_long C_days_of_year C_round_by y_range,b87,k87,PySem.W.mg_of X G a87⟩⟩
 have C_wanted_text:Cal l.prog w K mg base 1 "wanted_text" ["number"] spWText:=cal_of X G q88 (by walk_at "b1") fun F=>ok_wanted_text F y_str
 have C_dated_text:Cal l.prog w K mg base 2 "dated_text" ["name","month","day","step","rest"] spDText:=cal_of X G q89 (by walk_at "b5") fun F=>ok_dated_text F C_wanted_text C_each_text
 have C_Dated___init__:CalI l.prog w K mg base (CX1 l.prog w) 6 "Dated" c_Dated ["self","name","calendar","month","day","step","rest"] (spIDE K c_Rule [c_Each,c_Dated,c_Not,c_Both,c_Either,c_But,c_Unlike,c_Later,c_Upon,c_Until,c_Near,c_Till,c_Kth,c_Every] c_Dated c_Sun c_Measure c_Change c_NoNumber c_NoCycle c_TooLong):=⟨⟨f90,_,ok_Dated___init__ F90 er C_dated C_Rule___init__ C_dated_text,b90,⟨mk_Dated,a90,beq_iff_eq.mpr u90,kp_Dated⟩,PySem.W.mg_of X G n_Dated⟩⟩
 have C_law_cell_at:Cal l.prog w K mg base 1 "_law_cell_at" ["_law_script","_law_k"] (spCell K):=cal_of X G q91 (by walk_at "b2") fun F=>ok_law_cell_at F y_len
 have C_law_whole:Cal l.prog w K mg base 1 "_law_whole" ["_law_found"] spWhole:=cal_of X G q92 (by walk_at "b1") fun F=>ok_law_whole F y_isinstance y_int y_bool
 have C_law_divisor:Cal l.prog w K mg base 1 "_law_divisor" ["_law_one","_law_other"] spDivW:=cal_of X G q93 (by walk_at "b2") fun F=>ok_law_divisor F
 have C_law_sizes:Cal l.prog w K mg base 2 "_law_sizes" ["_law_script"] (spSizes28 K):=cal_of X G q94 (by walk_at "b1") fun F=>ok_law_sizes F C_law_cell_at
 have C_law_number:Cal l.prog w K mg base 1 "_law_number" ["_law_cell","_law_size_here"] spNumber65:=cal_of X G q95 (by walk_at "b2") fun F=>ok_law_number F
 have C_law_pair:CalE l.prog w K mg base 12 "_law_pair" ["_law_way","_law_one","_law_other"] (spPair65 K c_Rule c_Each [c_Each,c_Dated,c_Not,c_Both,c_Either,c_But,c_Unlike,c_Later,c_Upon,c_Until,c_Near,c_Till,c_Kth,c_Every] c_NoNumber c_NoCycle c_TooLong):=calE_of X G q96 (by walk_at "b3") fun F=>ok_law_pair F er C_Both___init__ C_Either___init__ C_But___init__ C_Unlike___init__ C_Upon___init__ C_Until___init__ C_Near___init__ C_Till___init__
 have C_law_made:CalE l.prog w K mg base 13 "_law_made" ["_law_way","_law_number_here","_law_one","_law_other","_law_told_here"] (spMade65 K c_Rule c_Each [c_Each,c_Dated,c_Not,c_Both,c_Either,c_But,c_Unlike,c_Later,c_Upon,c_Until,c_Near,c_Till,c_Kth,c_Every] c_Sun c_Measure c_Change c_NoNumber c_NoCycle c_TooLong):=calE_of X G q97 (by walk_at "b5") fun F=>ok_law_made F er C_law_pair C_Kth___init__ C_Every___init__ C_Each___init__ C_Not___init__ C_Later___init__ C_Dated___init__
 have C_law_told:Cal l.prog w K mg base 14 "_law_told" ["_law_way","_law_number_here","_law_one","_law_other","_law_told_here"] (spTold65 K c_Rule c_Each [c_Each,c_Dated,c_Not,c_Both,c_Either,c_But,c_Unlike,c_Later,c_Upon,c_Until,c_Near,c_Till,c_Kth,c_Every] c_Sun c_Measure c_Change):=cal_of X G q98 (by walk_at "b5") fun F=>ok_law_told F er C_law_made C_Each_size C_Dated_size C_Not_size C_Both_size C_Either_size C_But_size C_Unlike_size C_Later_size C_Upon_size C_Until_size C_Near_size C_Till_size C_Kth_size C_Every_size C_law_whole y_isinstance
 have C_law_size:Cal l.prog w K mg base 2 "_law_size" ["_law_way","_law_number_here","_law_one","_law_other","_law_told_here"] spSize65:=cal_of X G q99 (by walk_at "b5") fun F=>ok_law_size F C_law_divisor
 have C_law_due:Cal l.prog w K mg base 3 "_law_due" ["_law_way","_law_number_here","_law_one","_law_other","_law_told_here"] spDue65:=cal_of X G q100 (by walk_at "b5") fun F=>ok_law_due F C_law_size
 have C_law_calendar:Cal l.prog w K mg base 9 "_law_calendar" ["_law_script"] (spCal65 K c_Sun c_Measure c_Change):=cal_of X G q101 (by walk_at "b1") fun F=>ok_law_calendar F er C_law_cell_at C_Sun___init___d2 C_Change___init__
 exact ok_law F102 er C_law_sizes C_law_cell_at C_law_number C_law_calendar C_law_due C_Each___init__ C_law_told
end Fw
def PySem.W.Fast.tw12134724423457020198:Unit:=()
def PySem.W.Fast.tw4400807799484062257:Unit:=()
def PySem.W.Fast.tw14333236415309139428:Unit:=()
def PySem.W.Fast.tw18292871251946297045:Unit:=()
def PySem.W.Fast.tw17099524143924358792:Unit:=()
def PySem.W.Fast.tw13802590119128970453:Unit:=()
def PySem.W.Fast.tw16847392440692483152:Unit:=()
def PySem.W.Fast.tw12566463910879271174:Unit:=()
def PySem.W.Fast.tw17698748842912004305:Unit:=()
def PySem.W.Fast.tw15192449051607267100:Unit:=()
def PySem.W.Fast.tw15593079341843505338:Unit:=()
def PySem.W.Fast.tw9645163625663446740:Unit:=()
def PySem.W.Fast.tw13382850388572437358:Unit:=()
def PySem.W.Fast.tw8806351784236311599:Unit:=()
def PySem.W.Fast.tw1153757260224424399:Unit:=()
def PySem.W.Fast.tw16239222550564167752:Unit:=()
def PySem.W.Fast.tw16185551240389590940:Unit:=()
def PySem.W.Fast.tw8048126244807547111:Unit:=()
def PySem.W.Fast.tw16334872570737256782:Unit:=()
def PySem.W.Fast.tw2599805930624452294:Unit:=()
def PySem.W.Fast.tw378683934607221150:Unit:=()
def PySem.W.Fast.tw13256343089810116002:Unit:=()
def PySem.W.Fast.tw13704255771216821483:Unit:=()
def PySem.W.Fast.tw16466431047480009734:Unit:=()
def PySem.W.Fast.tw7620254305846835491:Unit:=()
def PySem.W.Fast.tw6718650555789708124:Unit:=()
def PySem.W.Fast.tw12618314171072962097:Unit:=()
def PySem.W.Fast.tw17173438019775799881:Unit:=()
def PySem.W.Fast.tw156658657996296696:Unit:=()
def PySem.W.Fast.tw9360453109487374386:Unit:=()
def PySem.W.Fast.tw11008096747050937482:Unit:=()
def PySem.W.Fast.tw15309695385183589521:Unit:=()
def PySem.W.Fast.tw12623224732601557935:Unit:=()
def PySem.W.Fast.tw17707481623594037615:Unit:=()
def PySem.W.Fast.tw8193964815485892558:Unit:=()
def PySem.W.Fast.tw3499619666149147940:Unit:=()
def PySem.W.Fast.tw6890086045561727353:Unit:=()
def PySem.W.Fast.tw132589848506027747:Unit:=()
def PySem.W.Fast.tw792046426891641839:Unit:=()
def PySem.W.Fast.tw4486330657674302891:Unit:=()
def PySem.W.Fast.tw884462899945994962:Unit:=()
def PySem.W.Fast.tw12919478046413310906:Unit:=()
def PySem.W.Fast.tw9318767423536299569:Unit:=()
def PySem.W.Fast.tw11832038807045559438:Unit:=()
def PySem.W.Fast.tw5701396292272580700:Unit:=()
def PySem.W.Fast.tw13311514384780480131:Unit:=()
def PySem.W.Fast.tw6223401127685219990:Unit:=()
def PySem.W.Fast.tw6390512076417249076:Unit:=()
def PySem.W.Fast.tw15429000324513131867:Unit:=()
def PySem.W.Fast.tw5200131933911837285:Unit:=()
def PySem.W.Fast.tw12132065094118797238:Unit:=()
def PySem.W.Fast.tw11862610645772817559:Unit:=()
def PySem.W.Fast.tw5770386490745868498:Unit:=()
def PySem.W.Fast.tw17979649903667421499:Unit:=()
def PySem.W.Fast.tw5215035346914974986:Unit:=()
def PySem.W.Fast.tw5586706434414578000:Unit:=()
def PySem.W.Fast.tw646249996729726893:Unit:=()
def PySem.W.Fast.tw6250165109577186094:Unit:=()
def PySem.W.Fast.tw4932831467702733863:Unit:=()
def PySem.W.Fast.tw15739389510874185359:Unit:=()
def PySem.W.Fast.tw14443151432719007052:Unit:=()
def PySem.W.Fast.tw6962624855674035817:Unit:=()
def PySem.W.Fast.tw7849606678908582149:Unit:=()
def PySem.W.Fast.tw14034151895415418932:Unit:=()
def PySem.W.Fast.tw13409914554979430236:Unit:=()
def PySem.W.Fast.tw12445215817894025527:Unit:=()
def PySem.W.Fast.tw16349280720337770193:Unit:=()
def PySem.W.Fast.tw16819077432466810302:Unit:=()
def PySem.W.Fast.tw17867746473917298746:Unit:=()
def PySem.W.Fast.tw10705416760403976418:Unit:=()
def PySem.W.Fast.tw6888492376427804403:Unit:=()
def PySem.W.Fast.tw11786102496854755709:Unit:=()
def PySem.W.Fast.tw11571723468613241588:Unit:=()
def PySem.W.Fast.tw17110114217721531445:Unit:=()
def PySem.W.Fast.tw5307110017000827035:Unit:=()
def PySem.W.Fast.tw1910556657188949524:Unit:=()
def PySem.W.Fast.tw12358537617875530723:Unit:=()
def PySem.W.Fast.tw8161887598292474991:Unit:=()
def PySem.W.Fast.tw8450133200327457333:Unit:=()
def PySem.W.Fast.tw13899883645929307182:Unit:=()
def PySem.W.Fast.tw6228152141545236127:Unit:=()
def PySem.W.Fast.tw11035682034721671580:Unit:=()
def PySem.W.Fast.tw10772559984464257201:Unit:=()
def PySem.W.Fast.tw8845629820688237237:Unit:=()
def PySem.W.Fast.tw12711929107251324689:Unit:=()
def PySem.W.Fast.tw13859579051257365783:Unit:=()
def PySem.W.Fast.tw16451232108795825047:Unit:=()
def PySem.W.Fast.tw8491143624478449800:Unit:=()
def PySem.W.Fast.tw12905666815845470284:Unit:=()
def PySem.W.Fast.tw6361593520581861952:Unit:=()
def PySem.W.Fast.tw15838673439610288944:Unit:=()
def PySem.W.Fast.tw6010526958881098341:Unit:=()
def PySem.W.Fast.tw18043344827303216961:Unit:=()
def PySem.W.Fast.tw6833433324435416922:Unit:=()
def PySem.W.Fast.tw4231954788961963490:Unit:=()
def PySem.W.Fast.tw12948819662142099592:Unit:=()
def PySem.W.Fast.tw7424129443943642526:Unit:=()
def PySem.W.Fast.tw7724937793504699907:Unit:=()
def PySem.W.Fast.tw15571363580048086049:Unit:=()
def PySem.W.Fast.tw16356718773513817247:Unit:=()
def PySem.W.Fast.tw6885634704160171051:Unit:=()
def PySem.W.Fast.tw6857247035972866921:PySem.Program:=PySem.Challenge.pw_feastwheel_k65_rules_refused
theorem PySem.W.Fast.te6857247035972866921:PySem.Challenge.pw_feastwheel_k65_rules_refused=PySem.W.Fast.tw6857247035972866921:=rfl
open PySem PySem.W PyProof.Rows
local macro_rules | `(tactic| walk_at "qg")=> `(tactic| (refine' L2.fnG_mk ?_ ?_ ?_ ?_<;>first | k_is | skip))
local macro_rules | `(tactic| walk_at "qm")=> `(tactic| (refine' L2.fnM_mk ?_ ?_ ?_ ?_ ?_<;>first | k_is | skip))
set_option maxRecDepth 100000 in
set_option maxHeartbeats 0 in
theorem PySem.Challenge.cw_feastwheel_k65_rules_refused_holds : PySem.Challenge.rw_feastwheel_k65_rules_refused.Holds := by
 w_on;o_law;k_head;(case hw=>w_witness2)
 k_fill
 refine L2.walk_ofB (l:=PySem.Challenge.rw_feastwheel_k65_rules_refused) (k:=15) rfl rfl ⟨rfl,by decide,by decide,rfl⟩ (fun w h Y=>PySem.W.kIn_of Y) ?F
 case F=>
  intro w mg fa h KX G hmg
  refine' Fw.all_mk KX G hmg ?n_FeastError ?n_NoNumber ?t_NoNumber ?k_NoNumber ?b_NoNumber ?n_TooLong ?t_TooLong ?k_TooLong ?b_TooLong ?n_NoMeasure ?n_NoChange ?n_NoCycle ?t_NoCycle ?k_NoCycle ?b_NoCycle ?e_NoNumber ?ga_NoNumber ?gk_NoNumber ?ob_NoNumber ?ca_NoNumber ?i_NoNumber_FeastError ?r_NoNumber_NoNumber ?i_NoNumber_TooLong ?o_TooLong ?om_TooLong ?od_TooLong ?oh_TooLong ?sa_TooLong ?kp_TooLong ?e_FeastError ?fs_FeastError ?fr_FeastError ?ff_FeastError ?na_TooLong_needed ?ga_TooLong ?gk_TooLong ?ob_TooLong ?ca_TooLong ?i_TooLong_FeastError ?r_TooLong_NoNumber ?i_TooLong_NoNumber ?r_TooLong_TooLong ?r_TooLong_NoCycle ?e_NoCycle ?ga_NoCycle ?gk_NoCycle ?ob_NoCycle ?ca_NoCycle ?i_NoCycle_FeastError ?r_NoCycle_NoNumber ?i_NoCycle_NoNumber ?r_NoCycle_NoCycle ?n_Measure ?pg_Measure ?k_Measure ?po_Measure ?sa_Measure ?mk_Measure ?kp_Measure ?na_Measure_base ?na_Measure_terms ?na_Measure_full_count ?na_Measure_full_sum ?n_Sun ?pg_Sun ?k_Sun ?po_Sun ?sa_Sun ?mk_Sun ?kp_Sun ?na_Sun_start ?na_Sun_months ?na_Sun_leap ?na_Sun_years ?n_Change ?pg_Change ?k_Change ?po_Change ?sa_Change ?mk_Change ?kp_Change ?na_Change_old ?na_Change_new ?na_Change_day ?na_Change_last_old ?na_Change_first_new ?n_Calendar ?n_Rule ?n_Each ?pg_Each ?k_Each ?po_Each ?sa_Each ?mk_Each ?kp_Each ?na_Each_kept ?na_Each_made_of ?na_Each_words ?ca_Each ?ob_Each ?i_Each_Rule ?n_Dated ?pg_Dated ?k_Dated ?po_Dated ?sa_Dated ?mk_Dated ?kp_Dated ?na_Dated_kept ?na_Dated_made_of ?na_Dated_words ?ca_Dated ?ob_Dated ?i_Dated_Rule ?n_Not ?pg_Not ?k_Not ?po_Not ?sa_Not ?mk_Not ?kp_Not ?na_Not_kept ?na_Not_made_of ?na_Not_words ?ca_Not ?ob_Not ?i_Not_Rule ?n_Both ?pg_Both ?k_Both ?po_Both ?sa_Both ?mk_Both ?kp_Both ?na_Both_kept ?na_Both_made_of ?na_Both_words ?ca_Both ?ob_Both ?i_Both_Rule ?n_Either ?pg_Either ?k_Either ?po_Either ?sa_Either ?mk_Either ?kp_Either ?na_Either_kept ?na_Either_made_of ?na_Either_words ?ca_Either ?ob_Either ?i_Either_Rule ?n_But ?pg_But ?k_But ?po_But ?sa_But ?mk_But ?kp_But ?na_But_kept ?na_But_made_of ?na_But_words ?ca_But ?ob_But ?i_But_Rule ?n_Unlike ?pg_Unlike ?k_Unlike ?po_Unlike ?sa_Unlike ?mk_Unlike ?kp_Unlike ?na_Unlike_kept ?na_Unlike_made_of ?na_Unlike_words ?ca_Unlike ?ob_Unlike ?i_Unlike_Rule ?n_Later ?pg_Later ?k_Later ?po_Later ?sa_Later ?mk_Later ?kp_Later ?na_Later_kept ?na_Later_made_of ?na_Later_words ?ca_Later ?ob_Later ?i_Later_Rule ?n_Upon ?pg_Upon ?k_Upon ?po_Upon ?sa_Upon ?mk_Upon ?kp_Upon ?na_Upon_kept ?na_Upon_made_of ?na_Upon_words ?ca_Upon ?ob_Upon ?i_Upon_Rule ?n_Until ?pg_Until ?k_Until ?po_Until ?sa_Until ?mk_Until ?kp_Until ?na_Until_kept ?na_Until_made_of ?na_Until_words ?ca_Until ?ob_Until ?i_Until_Rule ?n_Near ?pg_Near ?k_Near ?po_Near ?sa_Near ?mk_Near ?kp_Near ?na_Near_kept ?na_Near_made_of ?na_Near_words ?ca_Near ?ob_Near ?i_Near_Rule ?n_Till ?pg_Till ?k_Till ?po_Till ?sa_Till ?mk_Till ?kp_Till ?na_Till_kept ?na_Till_made_of ?na_Till_words ?ca_Till ?ob_Till ?i_Till_Rule ?n_Kth ?pg_Kth ?k_Kth ?po_Kth ?sa_Kth ?mk_Kth ?kp_Kth ?na_Kth_kept ?na_Kth_made_of ?na_Kth_words ?ca_Kth ?ob_Kth ?i_Kth_Rule ?n_Every ?pg_Every ?k_Every ?po_Every ?sa_Every ?mk_Every ?kp_Every ?na_Every_kept ?na_Every_made_of ?na_Every_words ?ca_Every ?ob_Every ?i_Every_Rule ?bsp_Rule ?brd_Rule ?xsp ?xtk ?a0 ?l0 ?c0 ?k0 ?u0 ?q1 ?q2 ?q3 ?q4 ?q5 ?q6 ?q7 ?q8 ?q9 ?q10 ?q11 ?q12 ?q13 ?q14 ?q15 ?a16 ?l16 ?c16 ?k16 ?a17 ?l17 ?c17 ?k17 ?q18 ?q19 ?q20 ?q21 ?q22 ?q23 ?q24 ?q25 ?q26 ?q27 ?q28 ?q29 ?q30 ?q31 ?a32 ?l32 ?c32 ?k32 ?t32 ?bfc32 ?q33 ?q34 ?q35 ?q36 ?q37 ?q38 ?q39 ?q40 ?q41 ?q42 ?q43 ?q44 ?q45 ?q46 ?q47 ?q48 ?q49 ?q50 ?q51 ?q52 ?q53 ?q54 ?q55 ?q56 ?q57 ?q58 ?q59 ?q60 ?q61 ?q62 ?q63 ?q64 ?q65 ?q66 ?q67 ?q68 ?q69 ?q70 ?a71 ?l71 ?c71 ?k71 ?t71 ?u71 ?q72 ?q73 ?q74 ?q75 ?a76 ?l76 ?c76 ?k76 ?t76 ?u76 ?q77 ?q78 ?q79 ?q80 ?q81 ?q82 ?q83 ?q84 ?q85 ?q86 ?a87 ?l87 ?c87 ?k87 ?t87 ?q88 ?q89 ?a90 ?l90 ?c90 ?k90 ?t90 ?u90 ?q91 ?q92 ?q93 ?q94 ?q95 ?q96 ?q97 ?q98 ?q99 ?q100 ?q101 ?a102 ?l102 ?c102 ?k102 ?z_range ?z_len ?z_abs ?z_zip ?z_list ?z_sum ?z_all ?z_tuple ?z_min ?z_max ?z_str ?z_isinstance ?z_int ?z_bool ?m_LONGEST ?m_PIECE ?m_GREATEST_N ?m_GREATEST_BASE ?m_MOST_TERMS ?m_MOST_MONTHS ?m_LONGEST_MONTH
  (case n_FeastError=>k_is)
  (case n_NoNumber=>k_is)
  (case t_NoNumber=>k_is)
  (case k_NoNumber=>k_is)
  (case b_NoNumber=>k_is)
  (case n_TooLong=>k_is)
  (case t_TooLong=>k_is)
  (case k_TooLong=>k_is)
  (case b_TooLong=>k_is)
  (case n_NoMeasure=>k_is)
  (case n_NoChange=>k_is)
  (case n_NoCycle=>k_is)
  (case t_NoCycle=>k_is)
  (case k_NoCycle=>k_is)
  (case b_NoCycle=>k_is)
  (case e_NoNumber=>k_exc)
  (case ga_NoNumber=>k_is)
  (case gk_NoNumber=>k_is)
  (case ob_NoNumber=>k_is)
  (case ca_NoNumber=>k_is)
  (case i_NoNumber_FeastError=>kit_is)
  (case r_NoNumber_NoNumber=>k_is)
  (case i_NoNumber_TooLong=>kit_is)
  (case o_TooLong=>k_is)
  (case om_TooLong=>rfl)
  (case od_TooLong=>rfl)
  (case oh_TooLong=>rfl)
  (case sa_TooLong=>k_is)
  (case kp_TooLong=>k_is)
  (case e_FeastError=>k_exc)
  (case fs_FeastError=>k_is)
  (case fr_FeastError=>k_is)
  (case ff_FeastError=>k_is)
  (case na_TooLong_needed=>k_is)
  (case ga_TooLong=>k_is)
  (case gk_TooLong=>k_is)
  (case ob_TooLong=>k_is)
  (case ca_TooLong=>k_is)
  (case i_TooLong_FeastError=>kit_is)
  (case r_TooLong_NoNumber=>k_is)
  (case i_TooLong_NoNumber=>kit_is)
  (case r_TooLong_TooLong=>k_is)
  (case r_TooLong_NoCycle=>k_is)
  (case e_NoCycle=>k_exc)
  (case ga_NoCycle=>k_is)
  (case gk_NoCycle=>k_is)
  (case ob_NoCycle=>k_is)
  (case ca_NoCycle=>k_is)
  (case i_NoCycle_FeastError=>kit_is)
  (case r_NoCycle_NoNumber=>k_is)
  (case i_NoCycle_NoNumber=>kit_is)
  (case r_NoCycle_NoCycle=>k_is)
  (case n_Measure=>k_is)
  (case pg_Measure=>k_is)
  (case k_Measure=>k_is)
  (case po_Measure=>k_is)
  (case sa_Measure=>k_is)
  (case mk_Measure=>k_is)
  (case kp_Measure=>k_is)
  (case na_Measure_base=>k_is)
  (case na_Measure_terms=>k_is)
  (case na_Measure_full_count=>k_is)
  (case na_Measure_full_sum=>k_is)
  (case n_Sun=>k_is)
  (case pg_Sun=>k_is)
  (case k_Sun=>k_is)
  (case po_Sun=>k_is)
  (case sa_Sun=>k_is)
  (case mk_Sun=>k_is)
  (case kp_Sun=>k_is)
  (case na_Sun_start=>k_is)
  (case na_Sun_months=>k_is)
  (case na_Sun_leap=>k_is)
  (case na_Sun_years=>k_is)
  (case n_Change=>k_is)
  (case pg_Change=>k_is)
  (case k_Change=>k_is)
  (case po_Change=>k_is)
  (case sa_Change=>k_is)
  (case mk_Change=>k_is)
  (case kp_Change=>k_is)
  (case na_Change_old=>k_is)
  (case na_Change_new=>k_is)
  (case na_Change_day=>k_is)
  (case na_Change_last_old=>k_is)
  (case na_Change_first_new=>k_is)
  (case n_Calendar=>k_is)
  (case n_Rule=>k_is)
  (case n_Each=>k_is)
  (case pg_Each=>k_is)
  (case k_Each=>k_is)
  (case po_Each=>k_is)
  (case sa_Each=>k_is)
  (case mk_Each=>k_is)
  (case kp_Each=>k_is)
  (case na_Each_kept=>k_is)
  (case na_Each_made_of=>k_is)
  (case na_Each_words=>k_is)
  (case ca_Each=>k_is)
  (case ob_Each=>k_is)
  (case i_Each_Rule=>kit_is)
  (case n_Dated=>k_is)
  (case pg_Dated=>k_is)
  (case k_Dated=>k_is)
  (case po_Dated=>k_is)
  (case sa_Dated=>k_is)
  (case mk_Dated=>k_is)
  (case kp_Dated=>k_is)
  (case na_Dated_kept=>k_is)
  (case na_Dated_made_of=>k_is)
  (case na_Dated_words=>k_is)
  (case ca_Dated=>k_is)
  (case ob_Dated=>k_is)
  (case i_Dated_Rule=>kit_is)
  (case n_Not=>k_is)
  (case pg_Not=>k_is)
  (case k_Not=>k_is)
  (case po_Not=>k_is)
  (case sa_Not=>k_is)
  (case mk_Not=>k_is)
  (case kp_Not=>k_is)
  (case na_Not_kept=>k_is)
  (case na_Not_made_of=>k_is)
  (case na_Not_words=>k_is)
  (case ca_Not=>k_is)
  (case ob_Not=>k_is)
  (case i_Not_Rule=>kit_is)
  (case n_Both=>k_is)
  (case pg_Both=>k_is)
  (case k_Both=>k_is)
  (case po_Both=>k_is)
  (case sa_Both=>k_is)
  (case mk_Both=>k_is)
  (case kp_Both=>k_is)
  (case na_Both_kept=>k_is)
  (case na_Both_made_of=>k_is)
  (case na_Both_words=>k_is)
  (case ca_Both=>k_is)
  (case ob_Both=>k_is)
  (case i_Both_Rule=>kit_is)
  (case n_Either=>k_is)
  (case pg_Either=>k_is)
  (case k_Either=>k_is)
  (case po_Either=>k_is)
  (case sa_Either=>k_is)
  (case mk_Either=>k_is)
  (case kp_Either=>k_is)
  (case na_Either_kept=>k_is)
  (case na_Either_made_of=>k_is)
  (case na_Either_words=>k_is)
  (case ca_Either=>k_is)
  (case ob_Either=>k_is)
  (case i_Either_Rule=>kit_is)
  (case n_But=>k_is)
  (case pg_But=>k_is)
  (case k_But=>k_is)
  (case po_But=>k_is)
  (case sa_But=>k_is)
  (case mk_But=>k_is)
  (case kp_But=>k_is)
  (case na_But_kept=>k_is)
  (case na_But_made_of=>k_is)
  (case na_But_words=>k_is)
  (case ca_But=>k_is)
  (case ob_But=>k_is)
  (case i_But_Rule=>kit_is)
  (case n_Unlike=>k_is)
  (case pg_Unlike=>k_is)
  (case k_Unlike=>k_is)
  (case po_Unlike=>k_is)
  (case sa_Unlike=>k_is)
  (case mk_Unlike=>k_is)
  (case kp_Unlike=>k_is)
  (case na_Unlike_kept=>k_is)
  (case na_Unlike_made_of=>k_is)
  (case na_Unlike_words=>k_is)
  (case ca_Unlike=>k_is)
  (case ob_Unlike=>k_is)
  (case i_Unlike_Rule=>kit_is)
  (case n_Later=>k_is)
  (case pg_Later=>k_is)
  (case k_Later=>k_is)
  (case po_Later=>k_is)
  (case sa_Later=>k_is)
  (case mk_Later=>k_is)
  (case kp_Later=>k_is)
  (case na_Later_kept=>k_is)
  (case na_Later_made_of=>k_is)
  (case na_Later_words=>k_is)
  (case ca_Later=>k_is)
  (case ob_Later=>k_is)
  (case i_Later_Rule=>kit_is)
  (case n_Upon=>k_is)
  (case pg_Upon=>k_is)
  (case k_Upon=>k_is)
  (case po_Upon=>k_is)
  (case sa_Upon=>k_is)
  (case mk_Upon=>k_is)
  (case kp_Upon=>k_is)
  (case na_Upon_kept=>k_is)
  (case na_Upon_made_of=>k_is)
  (case na_Upon_words=>k_is)
  (case ca_Upon=>k_is)
  (case ob_Upon=>k_is)
  (case i_Upon_Rule=>kit_is)
  (case n_Until=>k_is)
  (case pg_Until=>k_is)
  (case k_Until=>k_is)
  (case po_Until=>k_is)
  (case sa_Until=>k_is)
  (case mk_Until=>k_is)
  (case kp_Until=>k_is)
  (case na_Until_kept=>k_is)
  (case na_Until_made_of=>k_is)
  (case na_Until_words=>k_is)
  (case ca_Until=>k_is)
  (case ob_Until=>k_is)
  (case i_Until_Rule=>kit_is)
  (case n_Near=>k_is)
  (case pg_Near=>k_is)
  (case k_Near=>k_is)
  (case po_Near=>k_is)
  (case sa_Near=>k_is)
  (case mk_Near=>k_is)
  (case kp_Near=>k_is)
  (case na_Near_kept=>k_is)
  (case na_Near_made_of=>k_is)
  (case na_Near_words=>k_is)
  (case ca_Near=>k_is)
  (case ob_Near=>k_is)
  (case i_Near_Rule=>kit_is)
  (case n_Till=>k_is)
  (case pg_Till=>k_is)
  (case k_Till=>k_is)
  (case po_Till=>k_is)
  (case sa_Till=>k_is)
  (case mk_Till=>k_is)
  (case kp_Till=>k_is)
  (case na_Till_kept=>k_is)
  (case na_Till_made_of=>k_is)
  (case na_Till_words=>k_is)
  (case ca_Till=>k_is)
  (case ob_Till=>k_is)
  (case i_Till_Rule=>kit_is)
  (case n_Kth=>k_is)
  (case pg_Kth=>k_is)
  (case k_Kth=>k_is)
  (case po_Kth=>k_is)
  (case sa_Kth=>k_is)
  (case mk_Kth=>k_is)
  (case kp_Kth=>k_is)
  (case na_Kth_kept=>k_is)
  (case na_Kth_made_of=>k_is)
  (case na_Kth_words=>k_is)
  (case ca_Kth=>k_is)
  (case ob_Kth=>k_is)
  (case i_Kth_Rule=>kit_is)
  (case n_Every=>k_is)
  (case pg_Every=>k_is)
  (case k_Every=>k_is)
  (case po_Every=>k_is)
  (case sa_Every=>k_is)
  (case mk_Every=>k_is)
  (case kp_Every=>k_is)
  (case na_Every_kept=>k_is)
  (case na_Every_made_of=>k_is)
  (case na_Every_words=>k_is)
  (case ca_Every=>k_is)
  (case ob_Every=>k_is)
  (case i_Every_Rule=>kit_is)
  (case bsp_Rule=>k_is)
  (case brd_Rule=>k_is)
  (case xsp=>k_is)
  (case xtk=>k_is)
  (case a0=>k_is)
  (case l0=>k_is)
  (case c0=>k_is)
  (case k0=>k_is)
  (case u0=>k_is)
  (case q1=>walk_at "qg")
  (case q2=>walk_at "qg")
  (case q3=>walk_at "qg")
  (case q4=>walk_at "qg")
  (case q5=>walk_at "qg")
  (case q6=>walk_at "qg")
  (case q7=>walk_at "qg")
  (case q8=>walk_at "qg")
  (case q9=>walk_at "qg")
  (case q10=>walk_at "qg")
  (case q11=>walk_at "qg")
  (case q12=>walk_at "qg")
  (case q13=>walk_at "qg")
  (case q14=>walk_at "qg")
  (case q15=>walk_at "qg")
  (case a16=>k_is)
  (case l16=>k_is)
  (case c16=>k_is)
  (case k16=>k_is)
  (case a17=>k_is)
  (case l17=>k_is)
  (case c17=>k_is)
  (case k17=>k_is)
  (case q18=>walk_at "qg")
  (case q19=>walk_at "qg")
  (case q20=>walk_at "qg")
  (case q21=>walk_at "qg")
  (case q22=>walk_at "qg")
  (case q23=>walk_at "qg")
  (case q24=>walk_at "qg")
  (case q25=>walk_at "qg")
  (case q26=>walk_at "qg")
  (case q27=>walk_at "qg")
  (case q28=>walk_at "qg")
  (case q29=>walk_at "qg")
  (case q30=>walk_at "qg")
  (case q31=>walk_at "qg")
  (case a32=>k_is)
  (case l32=>k_is)
  (case c32=>k_is)
  (case k32=>k_is)
  (case t32=>k_is)
  (case bfc32=>k_is)
  (case q33=>walk_at "qm")
  (case q34=>walk_at "qm")
  (case q35=>walk_at "qm")
  (case q36=>walk_at "qm")
  (case q37=>walk_at "qm")
  (case q38=>walk_at "qm")
  (case q39=>walk_at "qm")
  (case q40=>walk_at "qm")
  (case q41=>walk_at "qm")
  (case q42=>walk_at "qm")
  (case q43=>walk_at "qm")
  (case q44=>walk_at "qm")
  (case q45=>walk_at "qm")
  (case q46=>walk_at "qm")
  (case q47=>walk_at "qm")
  (case q48=>walk_at "qm")
  (case q49=>walk_at "qm")
  (case q50=>walk_at "qg")
  (case q51=>walk_at "qm")
  (case q52=>walk_at "qm")
  (case q53=>walk_at "qm")
  (case q54=>walk_at "qm")
  (case q55=>walk_at "qm")
  (case q56=>walk_at "qm")
  (case q57=>walk_at "qm")
  (case q58=>walk_at "qm")
  (case q59=>walk_at "qm")
  (case q60=>walk_at "qm")
  (case q61=>walk_at "qm")
  (case q62=>walk_at "qm")
  (case q63=>walk_at "qm")
  (case q64=>walk_at "qg")
  (case q65=>walk_at "qg")
  (case q66=>walk_at "qg")
  (case q67=>walk_at "qg")
  (case q68=>walk_at "qg")
  (case q69=>walk_at "qg")
  (case q70=>walk_at "qm")
  (case a71=>k_is)
  (case l71=>k_is)
  (case c71=>k_is)
  (case k71=>k_is)
  (case t71=>k_is)
  (case u71=>k_is)
  (case q72=>walk_at "qm")
  (case q73=>walk_at "qm")
  (case q74=>walk_at "qm")
  (case q75=>walk_at "qg")
  (case a76=>k_is)
  (case l76=>k_is)
  (case c76=>k_is)
  (case k76=>k_is)
  (case t76=>k_is)
  (case u76=>k_is)
  (case q77=>walk_at "qm")
  (case q78=>walk_at "qm")
  (case q79=>walk_at "qm")
  (case q80=>walk_at "qm")
  (case q81=>walk_at "qm")
  (case q82=>walk_at "qm")
  (case q83=>walk_at "qm")
  (case q84=>walk_at "qg")
  (case q85=>walk_at "qg")
  (case q86=>walk_at "qg")
  (case a87=>k_is)
  (case l87=>k_is)
  (case c87=>k_is)
  (case k87=>k_is)
  (case t87=>k_is)
  (case q88=>walk_at "qg")
  (case q89=>walk_at "qg")
  (case a90=>k_is)
  (case l90=>k_is)
  (case c90=>k_is)
  (case k90=>k_is)
  (case t90=>k_is)
  (case u90=>k_is)
  (case q91=>walk_at "qg")
  (case q92=>walk_at "qg")
  (case q93=>walk_at "qg")
  (case q94=>walk_at "qg")
  (case q95=>walk_at "qg")
  (case q96=>walk_at "qg")
  (case q97=>walk_at "qg")
  (case q98=>walk_at "qg")
  (case q99=>walk_at "qg")
  (case q100=>walk_at "qg")
  (case q101=>walk_at "qg")
  (case a102=>k_is)
  (case l102=>k_is)
  (case c102=>k_is)
  (case k102=>k_is)
  (case z_range=>k_is)
  (case z_len=>k_is)
  (case z_abs=>k_is)
  (case z_zip=>k_is)
  (case z_list=>k_is)
  (case z_sum=>k_is)
  (case z_all=>k_is)
  (case z_tuple=>k_is)
  (case z_min=>k_is)
  (case z_max=>k_is)
  (case z_str=>k_is)
  (case z_isinstance=>k_is)
  (case z_int=>k_is)
  (case z_bool=>k_is)
  (case m_LONGEST=>k_is)
  (case m_PIECE=>k_is)
  (case m_GREATEST_N=>k_is)
  (case m_GREATEST_BASE=>k_is)
  (case m_MOST_TERMS=>k_is)
  (case m_MOST_MONTHS=>k_is)
  (case m_LONGEST_MONTH=>k_is)
#print axioms PySem.Challenge.cw_feastwheel_k65_rules_refused_holds
