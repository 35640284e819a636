import PyProof.Rows.All
import Wide.All
import KE.KNestM
import KE.RegKIsAll
import OpenK.KOwn
import OpenK.KLine
import Wide.FinOn
import Lean
import PyProof.EqAt
import PyProof.EqKinds
import PyProof.TupleCall
import KE.KItem
import KE.IntBitsLaws
import KE.KEqSeq
import KE.KIntText
import KE.IntTextLaws
import PySem.Challenge.RW_feastwheel_k75_no_rule_texts
set_option Elab.async false
set_option linter.all false
namespace PySem.W.Fast
def tw18437791939627735471:=()
def tw8696637683734026091:=()
def tw14546517210788086722:=()
def tw14737340428575367869:=()
def tw18243491817957388711:=()
def tw17745791612048112853:=()
def tw9533779648961877068:=()
def tw9375641500645463253:=()
def tw2274308585531709456:=()
def tw3050953569798689942:=()
def tw12898689677749791038:=()
def tw10091396026032625850:=()
def tw12082686422011449548:=()
def tw15062059704839827327:=()
def tw3028061697371033963:=()
def tw2713498986053897905:=()
def tw12145664113039032737:=()
def tw12502041902004964888:=()
def tw8275634513505185561:=()
def tw9767156703657003242:=()
def tw13587499072513951637:=()
def tw2597265781363002088:=()
def tw9362476483897166826:=()
def tw8291051385892705964:=()
def tw4922900736539836313:=()
def tw3002043554735509080:=()
def tw14189946704747328470:=()
def tw5437920632203003686:=()
def tw6633056416872812355:=()
def tw9160225938006408270:=()
def tw16005771098081598446:=()
def tw15487490640845583945:=()
def tw10596534318454821535:=()
def tw5168191404320550033:=()
def tw6625778057500508659:=()
def tw1602963533594673525:=()
def tw13239315214901610749:=()
def tw16686098436176062658:=()
def tw1446221738209763306:=()
def tw4203123027225696478:=()
def tw13770628082695604156:=()
def tw4972531553183338574:=()
def tw5446746115893063008:=()
def tw7707243308208360107:=()
def tw5773907200626560217:=()
def tw8361535383536214691:=()
def tw10456716976775848864:=()
def tw273293197474753068:=()
def tw12480129702639242411:=()
def tw10690243512715611183:=()
def tw11605209465109023439:=()
def tw13048886636714836735:=()
def tw15346947197452584479:=()
def tw2359144949985995285:=()
def tw2024133666666891110:=()
def tw12510475071148334641:=()
def tw12555810148451669631:=()
def tw9549031656706475738:=()
def tw14770902824620642702:=()
def tw9829022262841661537:=()
def tw3005320525090580186:=()
def tw17841527965540280183:=()
def tw1421083412848977028:=()
def tw5213873957077476333:=()
def tw14062268839472689675:=()
def tw3835648624313492742:=()
def tw12499680778690243605:=()
def tw12917204695387969408:=()
def tw2375931228592582096:=()
def tw17369359765091564652:=()
def tw5180419266718545425:=()
def tw14395022204368126649:=()
def tw11400789471743801358:=()
def tw5479608130862442776:=()
def tw8711339118143231567:=()
def tw12378845817185893700:=()
def tw12987069311878817827:=()
def tw7500613114153700751:=()
def tw12807820165813253540:=()
def tw7338413346434075356:=()
def tw7085031473845779538:=()
def tw4520038728468116807:=()
def tw16031661741179054748:=()
def tw11923480634819057663:=()
def tw9250468508386015700:=()
def tw2339416843533388557:=()
def tw6775459130495403157:=()
def tw15357866962989001630:=()
def tw6943884937190624037:=()
def tw13010953677019202554:=()
def tw12507775992745457471:=()
def tw3625788918007070400:=()
def tw9890914321046022523:=()
def tw14892838747251561693:=()
def tw1600429905978344401:=()
def tw16120452879455985249:=()
def tw4829203609172671809:=()
def tw928313147685256473:=()
def tw11496545336553598955:=()
def tw13426905606609234374:=()
def tw4803394403550617721:=()
def tw12104968105361040712:=()
def tw12019867866521730451:=()
def tw5377824221383785766:=()
def tw10712076721710907758:=()
def tw805486992439606898:=()
def tw8540637405803335968:=()
def tw6493480696374138985:=()
def tw3018594536779895312:=()
def tw3341751276528050829:=()
def tw12012016092327371363:=()
def tw18281651555727578003:=()
def tw2438844179357569059:=()
def tw3149830772545424452:=()
def tw8251457575456549723:=()
def tw703772235394847379:=()
def tw6853855459296643144:=()
def tw4082924211300899817:=()
def tw5905032494834772604:=()
def tw11085244684246333480:=()
def tw9911628488832586178:=()
def tw10819943306883409398:=()
def tw15853459182686554334:=()
def tw9197833127879717056:=()
def tw16899217955630204051:=()
def tw13606023491641845159:=()
def tw11336492110364273192:=()
def tw4367770940995988531:=()
def tw12750550094553586704:=()
def tw2150802548670127705:=()
def tw2442685261720678336:=()
def tw11609197514262017291:=()
def tw6236832226788543210:=()
def tw17203866651236112717:=()
def tw5465005852984053418:=()
def tw1764713338721108297:=()
def tw4355010996771222440:=()
def tw6022147503486747881:=()
def tw13366838308895494894:=()
def tw17072734309347668422:=()
def tw4234639227802583416:=()
def tw11553791482519929503:=()
def tw10872581783158572542:=()
def tw14132687645236172783:=()
def tw8862248602032987310:=()
def tw5497170762169535821:=()
def tw15601751518092685025:=()
def tw14963271442284433207:=()
def tw8121001866350788618:PySem.Program:=PySem.Challenge.pw_feastwheel_k75_no_rule_texts
theorem te8121001866350788618:PySem.Challenge.pw_feastwheel_k75_no_rule_texts=tw8121001866350788618:=rfl
def tw14985490552685253496:=()
def tw7503271259803519913:=()
def tw18202923101760366878:=()
def tw14510482264878754463:=()
def tw2162137351812212752:=()
def tw4196246750898816253:=()
def tw12568318767907363411:=()
def tw1237423592834890569:=()
def tw11995757625773119540:=()
def tw11332974256838956449:=()
def tw15714349483996156275:=()
def tw8939548405643905608:=()
def tw11632216569423512718:=()
def tw737076244297826852:=()
def tw403442728173730131:=()
def tw11564514798722765299:=()
def tw13275886212700875717:=()
def tw341847732572345561:=()
def tw17512762983210510785:=()
def tw15878276617965259038:=()
def tw10298486660786079767:=()
def tw11002947500431974356:=()
def tw829900555013249265:=()
def tw13523742566414623362:=()
end PySem.W.Fast
open PySem PySem.W PyProof.Rows in
set_option maxRecDepth 100000 in
set_option maxHeartbeats 0 in
open_top hd76 for PySem.Challenge.rw_feastwheel_k75_no_rule_texts
set_option Elab.async false
set_option linter.all false
set_option maxRecDepth 100000
namespace L2
open PySem PySem.Spec PyProof.Rows
abbrev Key:=Sum Int Str
def keyIs:Key→Value→Bool
 | .inl k,v=>Value.isInt k v
 | .inr x,v=>Value.isStrOf x v
def keyH(w:World):Key→Int
 | .inl k=>hashInt k
 | .inr x=>hashStr w x
theorem keyIs_shape:∀{k:Key} {v:Value},keyIs k v=true→(∃i t,k=Sum.inl i∧v=Value.int i t)∨(∃x t,k=Sum.inr x∧v=Value.str x t)
 | .inl i,v,h=>by
  obtain⟨t,e⟩:=Value.isInt_shape (k:=i) (v:=v) h
  exact .inl ⟨i,t,rfl,e⟩
 | .inr x,v,h=>by
  obtain⟨t,e⟩:=Value.isStrOf_shape (x:=x) (v:=v) h
  exact .inr ⟨x,t,rfl,e⟩
theorem keyIs_int(i:Int)(t:Tok):keyIs (.inl i) (.int i t)=true:=by simp[keyIs,Value.isInt]
theorem keyIs_str(x:Str)(t:Tok):keyIs (.inr x) (.str x t)=true:=by simp[keyIs,Value.isStrOf]
theorem key_ll(a b:Int):decide ((Sum.inl a:Key)=Sum.inl b)=(a==b):=by
 by_cases e:a=b
 ·subst e;simp
 ·have h:¬(Sum.inl a:Key)=Sum.inl b:=fun q=>e (Sum.inl.inj q)
  rw[decide_eq_false h]
  exact(beq_eq_false_iff_ne.mpr e).symm
theorem key_rr(a b:Str):decide ((Sum.inr a:Key)=Sum.inr b)=decide (a=b):=by
 by_cases e:a=b
 ·subst e;simp
 ·have h:¬(Sum.inr a:Key)=Sum.inr b:=fun q=>e (Sum.inr.inj q)
  rw[decide_eq_false h,decide_eq_false e]
theorem key_lr(a:Int)(b:Str):decide ((Sum.inl a:Key)=Sum.inr b)=false:=decide_eq_false (fun q=>nomatch q)
theorem key_rl(a:Str)(b:Int):decide ((Sum.inr a:Key)=Sum.inl b)=false:=decide_eq_false (fun q=>nomatch q)
def mixKind(prog:Program)(w:World):PySem.KeyKind prog w Key where
 is:=keyIs
 hash:=keyH w
 inj:=fun v a b ha hb=>by
  rcases keyIs_shape ha with ⟨i,t,rfl,rfl⟩ | ⟨x,t,rfl,rfl⟩
  ·rcases keyIs_shape hb with ⟨j,u,rfl,e⟩ | ⟨y,u,rfl,e⟩
   ·injection e with e1 _;rw[e1]
   ·exact nomatch e
  ·rcases keyIs_shape hb with ⟨j,u,rfl,e⟩ | ⟨y,u,rfl,e⟩
   ·exact nomatch e
   ·injection e with e1 _;rw[e1]
 byValue:=fun k v h=>by
  rcases keyIs_shape h with ⟨i,t,rfl,rfl⟩ | ⟨x,t,rfl,rfl⟩<;>rfl
 pyHash:=fun hv h=>by
  rcases keyIs_shape hv with ⟨i,t,rfl,rfl⟩ | ⟨x,t,rfl,rfl⟩
  ·exact wpAny_pyHash_int h
  ·exact wpAny_pyHash_str h
 eqBool:=fun hu hv h=>by
  rcases keyIs_shape hu with ⟨i,t,rfl,rfl⟩ | ⟨x,t,rfl,rfl⟩
  ·rcases keyIs_shape hv with ⟨j,u,rfl,rfl⟩ | ⟨y,u,rfl,rfl⟩
   ·rw[key_ll] at h;exact wpAny_eqBool_int h
   ·rw[key_lr] at h;exact SeqAt.EqAt.int_str i t y u _ _ _ _ h
  ·rcases keyIs_shape hv with ⟨j,u,rfl,rfl⟩ | ⟨y,u,rfl,rfl⟩
   ·rw[key_rl] at h;exact SeqAt.EqAt.str_int x t j u _ _ _ _ h
   ·rw[key_rr] at h;exact wpAny_eqBool_str h
 «strs»:=fun k x t v h=>by
  rcases keyIs_shape h with ⟨i,u,rfl,e⟩ | ⟨y,u,rfl,e⟩
  ·exact nomatch e
  ·injection e with e1 _
   subst e1
   cases v<;>rfl
theorem mixKind_int(prog:Program)(w:World)(i:Int)(t:Tok):(mixKind prog w).is (.inl i) (.int i t)=true:=keyIs_int i t
theorem mixKind_str(prog:Program)(w:World)(x:Str)(t:Tok):(mixKind prog w).is (.inr x) (.str x t)=true:=keyIs_str x t
end L2
namespace L2
open PySem PySem.Spec PyProof.Rows
inductive V where
 | non | bl (b:Bool) | int (i:Int) | str (x:Str) | byt (b:Array UInt8) | flt (b:UInt64) | ref (a:Addr) | ty (n:String)
 deriving DecidableEq
def RelV:V→Value→Prop
 | .non,u=>u=Value.none
 | .bl b,u=>u=Value.bool b
 | .int i,u=>∃t,u=Value.int i t
 | .str x,u=>∃t,u=Value.str x t
 | .byt b,u=>∃t,u=Value.bytes b t
 | .flt b,u=>∃t,u=Value.float b t
 | .ref a,u=>u=Value.ref a
 | .ty n,u=>u=Value.type n
abbrev Vals:List V→List Value→Prop:=Paired RelV
theorem Vals.length{xs:List V}{us:List Value}(r:Vals xs us):xs.length=us.length:=Paired.length r
theorem Vals.get:∀{xs:List V} {us:List Value} {i:Nat} {x:V},Vals xs us→xs[i]?=some x→∃u,us[i]?=some u∧RelV x u
 | _,_,_,_,.nil,e=>by simp at e
 | _,_,0,_,.cons r _,e=>by simp at e;subst e;exact⟨_,rfl,r⟩
 | _,_,i+1,x,.cons _ t,e=>by
  obtain⟨u,h1,h2⟩:=Vals.get (i:=i) (x:=x) t (by simpa using e)
  exact⟨u,by simpa using h1,h2⟩
theorem Vals.set{x:V}{u:Value}(r:RelV x u):∀{xs:List V} {us:List Value} (i:Nat),Vals xs us→Vals (xs.set i x) (us.set i u)
 | _,_,_,.nil=>.nil
 | _,_,0,.cons _ t=>.cons r t
 | _,_,i+1,.cons q t=>.cons q (Vals.set r i t)
theorem Vals.append:∀{xs ys:List V} {us ws:List Value},Vals xs us→Vals ys ws→Vals (xs++ys) (us++ws)
 | _,_,_,_,.nil,s=>s
 | _,_,_,_,.cons r t,s=>.cons r (Vals.append t s)
theorem Vals.take:∀{xs:List V} {us:List Value} (n:Nat),Vals xs us→Vals (xs.take n) (us.take n)
 | _,_,0,_=>.nil
 | _,_,_+1,.nil=>.nil
 | _,_,n+1,.cons r t=>.cons r (Vals.take n t)
def RelO:Option V→Option Value→Prop
 | some v,some u=>RelV v u
 | none,none=>True
 | _,_=>False
def KV{κ:Type}:List (κ×V)→List (κ×Value)→Prop:=Paired fun(p:κ×V) (q:κ×Value)=>p.1=q.1∧RelV p.2 q.2
def kV:Key→V
 | .inl i=>.int i
 | .inr x=>.str x
inductive HO where
 | lst (xs:List V)
 | tup (xs:List V)
 | dK (kvs:List (Key×V)) | dT (kvs:List (List Key×V))
 | set (S:Int→Bool) (n:Nat)
 | ins (C dx:Addr) (fs:List (Str×V))
 | own (x:Addr)
 | xd (fs:List (Str×V))
 | met (f x:Addr)
 | rng (lo hi:Int)
 | frz (o:Obj) (u:HO)
 | tbl (ps:Array Value)
 | ext (φ:Heap→Prop)
abbrev Hp:=Addr→Option HO
def upd(H:Hp)(a:Addr)(o:HO):Hp:=fun b=>if b=a then some o else H b
theorem upd_same{H:Hp}{a:Addr}{o:HO}:upd H a o a=some o:=by unfold upd;rw[if_pos rfl]
theorem upd_ne{H:Hp}{a b:Addr}{o:HO}(h:b≠a):upd H a o b=H b:=by unfold upd;rw[if_neg h]
theorem upd_upd{H:Hp}{a:Addr}{o u:HO}:upd (upd H a o) a u=upd H a u:=by
 funext b;unfold upd;split<;>rfl
theorem ne_of{H:Hp}{a b:Addr}{o u:HO}(h:H a=some o)(h':H b=some u)(d:o≠u):a≠b:=by
 intro e;subst e;rw[h] at h';exact d (Option.some.inj h')
theorem ne_of_none{H:Hp}{a b:Addr}{o:HO}(h:H a=some o)(h':H b=none):a≠b:=by
 intro e;subst e;rw[h] at h';cases h'
section
variable(P:Program)(w:World)
def ObjOk(H:Hp)(h:Heap)(a:Addr):HO→Prop
 | .lst xs=>xs.length≤sizeLine∧∃(its:List Value) (n:Nat),Vals xs its∧h.get? a=some { cls:=.type "list",data:=.seq its.toArray n }
 | .tup xs=>xs.length≤sizeLine∧∃its:List Value,Vals xs its∧IsTup h a its.toArray
 | .dK kvs=>kvs.length≤sizeLine∧(a==sysModules)=false∧∃vs,KV kvs vs∧h.DictOf (mixKind P w) a vs
 | .dT kvs=>kvs.length≤sizeLine∧(a==sysModules)=false∧∃xs:List (List Key×Addr×Value),
  Paired (fun (p:List Key×V) (q:List Key×Addr×Value)=>p.1=q.1∧H q.2.1=some (.tup (p.1.map kV))∧RelV p.2 q.2.2) kvs xs∧
  ∃o es ep,h.get? a=some o∧o.ExactDict∧o.data=.dict es ep∧es.toList=xs.map (entryOfKey (tupleKind (mixKind P w)))∧(xs.map (·.1)).Nodup
 | .set S n=>h.SetOf (intKind P w) a S n
 | .ins C dx fs=>H dx=some (.own a)∧fs.length≤1000∧dx≠a∧h.get? a=some (PySem.W.instObj C dx)∧
  ∃mA,h.Ns1 dx mA∧(∀f,RelO (fs.lookup f) (mA f))∧PySem.Within mA (fs.map (·.1))
 | .own _=>∃o,h.get? a=some o
 | .xd fs=>∃mA,h.Ns1 a mA∧∀f,RelO (fs.lookup f) (mA f)
 | .rng lo hi=>∃t u v,h.get? a=some { cls:=.type "range",data:=.fields #[.int lo t,.int hi u,.int 1 v] }
 | .frz o u=>h.get? a=some o∧ObjOk H h a u
 | .tbl ps=>h.get? a=some { cls:=.none,data:=.fields ps }
 | .met f x=>h.get? a=some (PySem.W.methodObj (.ref f) (.ref x))
 | .ext φ=>φ h∧(∃o,h.get? a=some o)∧∀h1 h2:Heap,φ h1→(∀o,h1.get? a=some o→h2.get? a=some o)→φ h2
def HOk(H:Hp)(h:Heap):Prop:=∀a o,H a=some o→ObjOk P w H h a o
end
section
variable{P:Program}{w:World}{H H':Hp}{h h':Heap}{a:Addr}{o:HO}
theorem ObjOk.lt(x:ObjOk P w H h a o):a<h.objs.size:=by
 cases o with
 | lst xs=>obtain⟨_,_,_,_,e⟩:=x;exact Heap.lt_size e
 | tup xs=>obtain⟨_,_,_,p⟩:=x;exact p.lt
 | dK kvs=>obtain⟨_,_,_,_,o,_,_,e,_⟩:=x;exact Heap.lt_size e
 | dT kvs=>obtain⟨_,_,_,_,o,_,_,e,_⟩:=x;exact Heap.lt_size e
 | set S n=>obtain⟨o,_,_,_,e,_⟩:=x;exact Heap.lt_size e
 | ins C dx fs=>obtain⟨_,_,_,e,_⟩:=x;exact Heap.lt_size e
 | own y=>obtain⟨_,e⟩:=x;exact Heap.lt_size e
 | xd fs=>obtain⟨_,⟨_,_,_,e,_⟩,_⟩:=x;exact Heap.lt_size e
 | rng lo hi=>obtain⟨_,_,_,e⟩:=x;exact Heap.lt_size e
 | frz ob u=>obtain⟨e,_⟩:=x;exact Heap.lt_size e
 | tbl ps=>exact Heap.lt_size (show h.get? a=some _ from x)
 | met f y=>exact Heap.lt_size (show h.get? a=some _ from x)
 | ext φ=>obtain⟨_,⟨_,e⟩,_⟩:=x;exact Heap.lt_size e
theorem Paired.mapP{α β:Type}{F G:α→β→Prop}:∀{l₁:List α} {l₂:List β},Paired F l₁ l₂→(∀a b,F a b→G a b)→Paired G l₁ l₂
 | _,_,.nil,_=>.nil
 | _,_,.cons r t,f=>.cons (f _ _ r) (Paired.mapP t f)
theorem ObjOk.stay(x:ObjOk P w H h a o)(k:∀b u,(b=a∨H b=some (.own a))→h.get? b=some u→h'.get? b=some u)
 (ho:∀b,H b=some (.own a)→H' b=some (.own a))(ht:∀b xs,H b=some (.tup xs)→H' b=some (.tup xs)):ObjOk P w H' h' a o:=by
 induction o with
 | lst xs=>obtain⟨z,its,n,r,e⟩:=x;exact⟨z,its,n,r,k _ _ (.inl rfl) e⟩
 | tup xs=>obtain⟨z,its,r,ob,e,c⟩:=x;exact⟨z,its,r,ob,k _ _ (.inl rfl) e,c⟩
 | dK kvs=>obtain⟨z,y,vs,r,ob,es,ep,e,c⟩:=x;exact⟨z,y,vs,r,ob,es,ep,k _ _ (.inl rfl) e,c⟩
 | dT kvs=>
  obtain⟨z,y,xs,r,ob,es,ep,e,c⟩:=x
  exact⟨z,y,xs,Paired.mapP r fun p q z=>⟨z.1,ht _ _ z.2.1,z.2.2⟩,ob,es,ep,k _ _ (.inl rfl) e,c⟩
 | set S n=>obtain⟨ob,es,ep,t,e,c⟩:=x;exact⟨ob,es,ep,t,k _ _ (.inl rfl) e,c⟩
 | ins C dx fs=>
  obtain⟨d,z,ne,e,mA,⟨od,es,ep,e2,c⟩,r⟩:=x
  exact⟨ho _ d,z,ne,k _ _ (.inl rfl) e,mA,⟨od,es,ep,k _ _ (.inr d) e2,c⟩,r⟩
 | own y=>obtain⟨ob,e⟩:=x;exact⟨ob,k _ _ (.inl rfl) e⟩
 | xd fs=>obtain⟨mA,⟨od,es,ep,e,c⟩,r⟩:=x;exact⟨mA,⟨od,es,ep,k _ _ (.inl rfl) e,c⟩,r⟩
 | rng lo hi=>obtain⟨t,u,v,e⟩:=x;exact⟨t,u,v,k _ _ (.inl rfl) e⟩
 | frz ob u ih=>obtain⟨e,q⟩:=x;exact⟨k _ _ (.inl rfl) e,ih q⟩
 | tbl ps=>
  have e:h.get? a=some { cls:=.none,data:=.fields ps }:=x
  show h'.get? a=some { cls:=.none,data:=.fields ps }
  exact k a _ (.inl rfl) e
 | met f y=>
  have e:h.get? a=some (PySem.W.methodObj (.ref f) (.ref y)):=x
  show h'.get? a=some (PySem.W.methodObj (.ref f) (.ref y))
  exact k a _ (.inl rfl) e
 | ext φ=>obtain⟨p,⟨o,e⟩,st⟩:=x;exact⟨st _ _ p fun o q=>k _ _ (.inl rfl) q,⟨o,k _ _ (.inl rfl) e⟩,st⟩
theorem HOk.lt(x:HOk P w H h)(e:H a=some o):a<h.objs.size:=(x a o e).lt
theorem HOk.fresh(x:HOk P w H h)(e:h.objs.size≤a):H a=none:=by
 cases q:H a with
 | none=>rfl
 | some u=>exact absurd (Nat.lt_of_lt_of_le (x.lt q) e) (Nat.lt_irrefl _)
theorem HOk.kept(x:HOk P w H h)(k:∀b u,h.get? b=some u→h'.get? b=some u):HOk P w H h':=fun a o e=>
 (x a o e).stay (fun b u _ q=>k b u q) (fun _ q=>q) fun _ _ q=>q
theorem HOk.laid(x:HOk P w H h)(k:∀b u,h.get? b=some u→h'.get? b=some u)(hp:h.objs.size≤a)(new:ObjOk P w (upd H a o) h' a o):HOk P w (upd H a o) h':=fun b u e=>by
 have hn:=x.fresh hp
 by_cases hb:b=a
 ·subst hb;rw[upd_same] at e;cases e;exact new
 ·rw[upd_ne hb] at e
  exact(x b u e).stay (fun c v _ q=>k c v q) (fun c q=>by rw[upd_ne (ne_of_none q hn)];exact q) fun c xs q=>by rw[upd_ne (ne_of_none q hn)];exact q
end
def Rd(H:Hp)(a:Addr)(u:HO):Prop:=H a=some u∨∃o,H a=some (.frz o u)
theorem Rd.of{H:Hp}{a:Addr}{u:HO}(h:H a=some u):Rd H a u:=.inl h
theorem Rd.ok{P:Program}{w:World}{H:Hp}{h:Heap}{a:Addr}{u:HO}(r:Rd H a u)(x:HOk P w H h):ObjOk P w H h a u:=by
 rcases r with r | ⟨o,r⟩
 ·exact x a u r
 ·obtain⟨_,q⟩:=x a _ r
  exact q
def Mut:Option HO→Prop
 | some (.lst _)=>True
 | some (.dK _)=>True
 | some (.dT _)=>True
 | some (.set _ _)=>True
 | some (.ins _ _ _)=>True
 | some (.ext _)=>True
 | _=>False
section
variable{P:Program}{w:World}{H:Hp}{h h':Heap}{x e:Addr}{o':HO}
theorem HOk.write(ok:HOk P w H h)(mu:Mut (H x))(he:e=x∨H e=some (.own x))(k:∀b u,b≠e→h.get? b=some u→h'.get? b=some u)(heo:∃u,h'.get? e=some u)
 (new:ObjOk P w (upd H x o') h' x o'):HOk P w (upd H x o') h':=fun b u q=>by
 have nown:∀c y,H c=some (.own y)→c≠x:=fun c y r z=>by subst z;rw[r] at mu;exact mu
 have ntup:∀c xs,H c=some (.tup xs)→c≠x:=fun c xs r z=>by subst z;rw[r] at mu;exact mu
 by_cases hb:b=x
 ·subst hb;rw[upd_same] at q;cases q;exact new
 ·rw[upd_ne hb] at q
  by_cases hbe:b=e
  ·have q':H b=some (.own x):=by
    rcases he with z | z
    ·exact absurd (hbe.trans z) hb
    ·rw[hbe];exact z
   rw[q] at q';cases q'
   obtain⟨v,hv⟩:=heo
   exact⟨v,by rw[hbe];exact hv⟩
  ·refine(ok b u q).stay (fun c v hc r=>k c v ?_ r) (fun c r=>by rw[upd_ne (nown c b r)];exact r) fun c xs r=>by rw[upd_ne (ntup c xs r)];exact r
   rcases hc with rfl | hc
   ·exact hbe
   ·rintro rfl
    rcases he with z | z
    ·exact nown c b hc z
    ·rw[hc] at z;cases z;exact hb rfl
end
structure Un(fs ex:List Addr)(H H':Hp)(h h':Heap):Prop where
 keep:∀b o,h.get? b=some o→H b=none→b∉fs→b∉ex→h'.get? b=some o
 slot:∀b o,h.get? b=some o→H b=none→b∈fs→b∉ex→∃sl,h'.get? b=some { o with slots:=sl }
 free:∀b o,h.get? b=some o→H b=none→b∉ex→H' b=none
 there:∀b o,h.get? b=some o→b∉ex→∃o',h'.get? b=some o'
 tups:∀b xs,H b=some (.tup xs)→H' b=some (.tup xs)
 frzs:∀b o u,H b=some (.frz o u)→H' b=some (.frz o u)
 tbls:∀b ps,H b=some (.tbl ps)→∃more,H' b=some (.tbl (ps++more))
section
variable{fs fs' ex ex':List Addr}{H H1 H2:Hp}{h h1 h2 h':Heap}{a x e:Addr}{o:HO}
theorem Un.any(u:Un fs ex H H1 h h1){b:Addr}{ob:Obj}(q:h.get? b=some ob)(n:H b=none)(hx:b∉ex):∃sl,h1.get? b=some { ob with slots:=sl }:=by
 by_cases hb:b∈fs
 ·exact u.slot b ob q n hb hx
 ·exact⟨ob.slots,u.keep b ob q n hb hx⟩
theorem Un.trans(a:Un fs ex H H1 h h1)(b:Un fs ex H1 H2 h1 h2):Un fs ex H H2 h h2 where
 keep:=fun c ob q n hc hx=>b.keep c ob (a.keep c ob q n hc hx) (a.free c ob q n hx) hc hx
 slot:=fun c ob q n hc hx=>by
  obtain⟨sl,e1⟩:=a.slot c ob q n hc hx
  obtain⟨sl',e2⟩:=b.slot c _ e1 (a.free c ob q n hx) hc hx
  exact⟨sl',e2⟩
 free:=fun c ob q n hx=>by
  obtain⟨o',e1⟩:=a.there c ob q hx
  exact b.free c o' e1 (a.free c ob q n hx) hx
 there:=fun c ob q hx=>by
  obtain⟨o',e1⟩:=a.there c ob q hx
  exact b.there c o' e1 hx
 tups:=fun c xs q=>b.tups c xs (a.tups c xs q)
 frzs:=fun c ob xs q=>b.frzs c ob xs (a.frzs c ob xs q)
 tbls:=fun c ps q=>by
  obtain⟨m1,e1⟩:=a.tbls c ps q
  obtain⟨m2,e2⟩:=b.tbls c _ e1
  exact⟨m1++m2,by rw[e2,Array.append_assoc]⟩
theorem Un.kept(k:∀b u,h.get? b=some u→h'.get? b=some u):Un fs ex H H h h':=
 ⟨fun b ob q _ _ _=>k b ob q,fun b ob q _ _ _=>⟨ob.slots,k b ob q⟩,fun _ _ _ n _=>n,fun b ob q _=>⟨ob,k b ob q⟩,fun _ _ q=>q,fun _ _ _ q=>q,fun _ ps q=>⟨#[],by rw[q];simp⟩⟩
theorem Un.refl:Un fs ex H H h h:=Un.kept fun _ _ q=>q
theorem Un.laid(k:∀b u,h.get? b=some u→h'.get? b=some u)(hp:h.objs.size≤a)(hn:H a=none):Un fs ex H (upd H a o) h h' where
 keep:=fun b u q _ _ _=>k b u q
 slot:=fun b u q _ _ _=>⟨u.slots,k b u q⟩
 free:=fun b u q n _=>by rw[upd_ne (Nat.ne_of_lt (Nat.lt_of_lt_of_le (Heap.lt_size q) hp))];exact n
 there:=fun b u q _=>⟨u,k b u q⟩
 tups:=fun b xs q=>by rw[upd_ne (ne_of_none q hn)];exact q
 frzs:=fun b u xs q=>by rw[upd_ne (ne_of_none q hn)];exact q
 tbls:=fun b ps q=>⟨#[],by rw[upd_ne (ne_of_none q hn),q];simp⟩
theorem Un.write(mu:Mut (H x))(he:e=x∨H e=some (.own x))(k:∀b u,b≠e→h.get? b=some u→h'.get? b=some u)(heo:∃u,h'.get? e=some u):Un fs ex H (upd H x o) h h':=by
 have hx:∀b,H b=none→b≠x:=fun b n z=>by subst z;rw[n] at mu;exact mu
 have hb:∀b,H b=none→b≠e:=fun b n z=>by
  subst z
  rcases he with r | r
  ·exact hx b n r
  ·rw[n] at r;cases r
 have hm:∀b u,H b=some u→¬Mut (some u)→b≠x:=fun b u q nm z=>by subst z;rw[q] at mu;exact nm mu
 refine⟨fun b u q n _ _=>k b u (hb b n) q,fun b u q n _ _=>⟨u.slots,k b u (hb b n) q⟩,fun b u q n _=>by rw[upd_ne (hx b n)];exact n,fun b u q _=>?_,
  fun b xs q=>by rw[upd_ne (hm b _ q fun z=>z)];exact q,fun b u xs q=>by rw[upd_ne (hm b _ q fun z=>z)];exact q,fun b ps q=>⟨#[],by rw[upd_ne (hm b _ q fun z=>z),q];simp⟩⟩
 by_cases hbe:b=e
 ·subst hbe;exact heo
 ·exact⟨u,k b u hbe q⟩
theorem Un.mono(u:Un fs ex H H1 h h1)(hs:∀b∈fs,b∈fs')(hx:∀b∈ex,b∈ex'):Un fs' ex' H H1 h h1:=
 ⟨fun b ob q n hb he=>u.keep b ob q n (fun z=>hb (hs b z)) fun z=>he (hx b z),fun _ _ q n _ he=>u.any q n fun z=>he (hx _ z),fun b ob q n he=>u.free b ob q n fun z=>he (hx b z),fun b ob q he=>u.there b ob q fun z=>he (hx b z),u.tups,u.frzs,u.tbls⟩
end
def trk(h:Heap)(H:Hp):List Addr:=(List.range h.objs.size).filter fun a=>(H a).isSome
def hidT(h:Heap)(H:Hp):Heap:=PySem.W.hideAll h (trk h H)
theorem hidT_size(h:Heap)(H:Hp):(hidT h H).objs.size=h.objs.size:=PySem.W.hideAll_size _ _
theorem hidT_get{h:Heap}{H:Hp}{b:Addr}{o:Obj}(e:h.get? b=some o)(n:H b=none):(hidT h H).get? b=some o:=
 PySem.W.hideAll_get _ e fun hm=>by
  have q:(H b).isSome=true:=(List.mem_filter.mp hm).2
  rw[n] at q;simp at q
theorem of_hidT{h:Heap}{H:Hp}{b:Addr}{o:Obj}(e:(hidT h H).get? b=some o):h.get? b=some o∧H b=none:=by
 have e':h.get? b=some o:=PySem.W.of_hideAll (trk h H) e
 refine⟨e',?_⟩
 cases q:H b with
 | none=>rfl
 | some x=>
  have hm:b∈trk h H:=List.mem_filter.mpr ⟨List.mem_range.mpr (Heap.lt_size e'),by simp[q]⟩
  have z:(hidT h H).get? b=none:=PySem.W.hideAll_none (trk h H) hm
  rw[z] at e;cases e
def allNews(g h:Heap)(L:Addr):List (Addr×Obj):=(List.range h.objs.size).filterMap fun a=>if a=L∨(g.get? a).isSome=true then none else (h.get? a).map fun o=>(a,o)
def rest(g h:Heap)(L d:Addr):List (Addr×Obj):=(allNews g h L).filter fun p=>decide (p.1≠d)
end L2
namespace L2
open PySem PySem.Spec PyProof.Rows
structure Mod(K:PySem.W.Frag)(mg:Str→Option Value)(base:Heap):Prop where
 kin:K.In base
 glob:base.Ns mainGlobals mg
 blt:∃mb,base.Ns builtinsNs mb∧∀x:Str,x≠"__name__"→mb x=bootBuiltins x
 nolimit:base.NoLimit
structure Cx where
 prog:Program
 w:World
 K:PySem.W.Frag
 mg:Str→Option Value
 base:Heap
 A:Around
 N:List Str
 s₀:Shared
 H₀:Hp
 env:Env
 outer:List Env
 stack:List Env
 ex:List Addr
 fn:Str→Bool
 calm:Bool
 pn:List (Addr×Obj)
 xe:Value→Shared→Prop
def frs(l:List Env):List Addr:=l.filterMap (·.frame)
abbrev Cx.fs(X:Cx):List Addr:=frs X.outer
def Vis(sc:Scope)(x:Str):Prop:=sc.names.lookup x=some .local∨sc.names.lookup x=some .cell∨sc.names.lookup x=some .free
def Loc(sc:Scope)(x:Str):Prop:=sc.names.lookup x=some .local∨sc.names.lookup x=some .cell
def Look(env:Env)(h:Heap)(m:Str→Option Value)(x:Str)(u:Value):Prop:=
 (env.kindOf x=some .local∧m x=some u)∨((env.kindOf x=some .cell∨env.kindOf x=some .free)∧∃c,env.cells.lookup x=some c∧h.IsCell c (some u))
structure Cx.Ok(X:Cx):Prop where
 mod:Mod X.K X.mg X.base
 kind:X.env.scope.kind=.function
 glob:X.env.globals=mainGlobals
 blt:X.env.builtins=builtinsNs
 above:X.s₀.heap.objs.size≤X.env.locals
 inj:∀x y c,X.env.cells.lookup x=some c→X.env.cells.lookup y=some c→x=y
 has:∀x,(X.env.kindOf x=some .cell∨X.env.kindOf x=some .free)→∃c,X.env.cells.lookup x=some c
 cab:∀x c,X.fn x=true→X.env.cells.lookup x=some c→X.s₀.heap.objs.size≤c
 hd:X.calm=true→X.A.handled=none
 frames:X.A.frames=some X.stack
 stk:X.stack=X.outer∨(X.stack=X.env::X.outer∧X.env.frame=some X.env.locals)
 exf:∀b∈X.ex,b≠X.env.locals∧∀x c,X.env.cells.lookup x=some c→c≠b
 bs:∀b o,X.base.get? b=some o→X.s₀.heap.get? b=some o∧X.H₀ b=none
 bsz:X.base.objs.size≤X.s₀.heap.objs.size
 noex:∀b o,X.base.get? b=some o→b∉X.ex
 exfs:∀b∈X.ex,b∉X.fs
 funs:X.s₀.heap.FunFrames X.base X.outer
 frf:∀b∈X.fs,X.H₀ b=none
structure Inv(X:Cx)(pins:List (Addr×Obj))(σ:List (Option V))(H:Hp)(s:Shared):Prop where
 ok:X.Ok
 os:s.os=X.s₀.os
 bare:AllBare s.gens
 base:Un X.fs X.ex X.H₀ H X.s₀.heap s.heap
 loc:∃m,s.heap.Ns X.env.locals m∧∀(i:Nat) (x:Str) (v:V),X.N[i]?=some x→σ[i]?=some (some v)→Vis X.env.scope x→∃u,RelV v u∧Look X.env s.heap m x u
 cell:∀x c,X.env.cells.lookup x=some c→∃v,s.heap.IsCell c v
 free:H X.env.locals=none
 freeC:∀x c,X.env.cells.lookup x=some c→H c=none
 pin:∀p∈X.pn++pins,s.heap.get? p.1=some p.2∧H p.1=none∧p.1≠X.env.locals∧p.1∉X.fs∧∀v,p.2.data≠.cell v
 hok:HOk X.prog X.w H s.heap
 len:σ.length=X.N.length
section
variable{X:Cx}{pins:List (Addr×Obj)}{σ:List (Option V)}{H H':Hp}{s:Shared}{h':Heap}
theorem Cx.Ok.nofr(ok:X.Ok){b:Addr}{o:Obj}(e:X.base.get? b=some o):b∉X.fs:=fun hb=>by
 have:=(ok.funs.mem hb).1
 rw[e] at this;cases this
theorem Inv.bs(I:Inv X pins σ H s):∀b o,X.base.get? b=some o→s.heap.get? b=some o∧H b=none:=fun b o e=>
 ⟨I.base.keep b o (I.ok.bs b o e).1 (I.ok.bs b o e).2 (I.ok.nofr e) (I.ok.noex b o e),I.base.free b o (I.ok.bs b o e).1 (I.ok.bs b o e).2 (I.ok.noex b o e)⟩
theorem Inv.bk(I:Inv X pins σ H s):∀b o,X.base.get? b=some o→s.heap.get? b=some o:=fun b o e=>(I.bs b o e).1
theorem Inv.mod(I:Inv X pins σ H s):Mod X.K X.mg X.base:=I.ok.mod
theorem Inv.kIn(I:Inv X pins σ H s):X.K.In s.heap:=I.ok.mod.kin.keeps I.bk
theorem Inv.lt(I:Inv X pins σ H s):X.env.locals<s.heap.objs.size:=let ⟨_,hn,_⟩:=I.loc;hn.lt
theorem Inv.sz(I:Inv X pins σ H s):X.s₀.heap.objs.size≤s.heap.objs.size:=Nat.le_trans I.ok.above (Nat.le_of_lt I.lt)
theorem Inv.nofs(I:Inv X pins σ H s){a:Addr}(h:s.heap.objs.size≤a):a∉X.fs:=fun hb=>by
 obtain⟨_,o,ho,_⟩:=I.ok.funs.mem hb
 exact absurd (Nat.lt_of_lt_of_le (Heap.lt_size ho) (Nat.le_trans I.sz h)) (Nat.lt_irrefl _)
theorem Inv.cne(I:Inv X pins σ H s):∀x c,X.env.cells.lookup x=some c→c≠X.env.locals:=fun x c e z=>by
 obtain⟨v,o,ho,hd⟩:=I.cell x c e
 obtain⟨m,⟨o',es,ep,ho',hd',_⟩,_⟩:=I.loc
 rw[z,ho'] at ho;cases ho;rw[hd'] at hd;cases hd
theorem Inv.funs(I:Inv X pins σ H s):s.heap.FunFrames X.base X.outer:=by
 have all:∀(l:List Env),(∀b∈frs l,b∈X.fs)→X.s₀.heap.FunFrames X.base l→s.heap.FunFrames X.base l:=by
  intro l
  induction l with
  | nil=>intro _ _;trivial
  | cons env r ih=>
   intro hs hl
   obtain⟨hk,⟨L,o,hf,hn,ho,hd⟩,hr⟩:=hl
   have hL:L∈X.fs:=hs L (by unfold frs;rw[List.filterMap_cons,hf];exact List.mem_cons_self)
   obtain⟨sl,e⟩:=I.base.slot L o ho (I.ok.frf L hL) hL fun z=>I.ok.exfs L z hL
   exact⟨hk,⟨L,_,hf,hn,e,hd⟩,ih (fun b hb=>hs b (by unfold frs;rw[List.filterMap_cons,hf];exact List.mem_cons_of_mem _ hb)) hr⟩
 exact all X.outer (fun _ hb=>hb) I.ok.funs
theorem Inv.stack(I:Inv X pins σ H s):s.heap.FunFrames X.base X.stack:=by
 rcases I.ok.stk with e | ⟨e,hf⟩
 ·rw[e];exact I.funs
 ·rw[e]
  obtain⟨m,hn,_⟩:=I.loc
  refine .cons (by rw[I.ok.kind];decide) hf hn ?_ I.funs
  exact Heap.get?_none_of_le (Nat.le_trans I.ok.bsz I.ok.above)
theorem Inv.stkSub(I:Inv X pins σ H s):∀b∈frs X.stack,b∈X.env.locals::X.fs:=fun b hb=>by
 rcases I.ok.stk with e | ⟨e,hf⟩
 ·rw[e] at hb;exact List.mem_cons_of_mem _ hb
 ·rw[e] at hb
  unfold frs at hb
  rw[List.filterMap_cons,hf] at hb
  exact hb
theorem Inv.stkFree(I:Inv X pins σ H s):∀b∈frs X.stack,H b=none:=fun b hb=>by
 rcases List.mem_cons.mp (I.stkSub b hb) with e | hb
 ·rw[e];exact I.free
 ·obtain⟨_,o,ho,_⟩:=I.ok.funs.mem hb
  exact I.base.free b o ho (I.ok.frf b hb) fun z=>I.ok.exfs b z hb
theorem Inv.step{g':Array GenState}{t':Nat}{d':Drawn}{ch:List Addr}(I:Inv X pins σ H s)
 (hch:∀b∈ch,(b∈X.ex∨X.s₀.heap.objs.size≤b)∧b≠X.env.locals∧(∀x c,X.env.cells.lookup x=some c→c≠b)∧∀p∈X.pn++pins,p.1≠b)
 (keep:∀b o,b≠X.env.locals→b∉X.fs→b∉ch→s.heap.get? b=some o→H b=none→h'.get? b=some o)
 (slot:∀b o,b≠X.env.locals→b∈X.fs→b∉ch→s.heap.get? b=some o→H b=none→∃sl,h'.get? b=some { o with slots:=sl })(free:∀b o,b∉ch→s.heap.get? b=some o→H b=none→H' b=none)
 (there:∀b o,b∉ch→s.heap.get? b=some o→∃o',h'.get? b=some o')
 (tups:∀b xs,H b=some (.tup xs)→H' b=some (.tup xs))(frzs:∀b o u,H b=some (.frz o u)→H' b=some (.frz o u))(tbls:∀b ps,H b=some (.tbl ps)→∃more,H' b=some (.tbl (ps++more)))
 (ns:∀m,s.heap.Ns X.env.locals m→h'.Ns X.env.locals m)(hok:HOk X.prog X.w H' h')(hg:AllBare g'):
 Inv X pins σ H' { s with heap:=h',gens:=g',drawn:=d',toks:=t' }:=by
 have neL:∀b o,X.s₀.heap.get? b=some o→b≠X.env.locals:=fun b o e=>Nat.ne_of_lt (Nat.lt_of_lt_of_le (Heap.lt_size e) I.ok.above)
 have neC:∀b o,X.s₀.heap.get? b=some o→b∉X.ex→b∉ch:=fun b o e hx hb=>by
  rcases(hch b hb).1 with z | z
  ·exact hx z
  ·exact absurd (Nat.lt_of_lt_of_le (Heap.lt_size e) z) (Nat.lt_irrefl _)
 have cellK:∀x c,X.env.cells.lookup x=some c→∀v,s.heap.IsCell c v→h'.IsCell c v:=fun x c e v ⟨o,ho,hd⟩=>by
  have nch:c∉ch:=fun z=>(hch c z).2.2.1 x c e rfl
  by_cases hc:c∈X.fs
  ·obtain⟨sl,q⟩:=slot c o (I.cne x c e) hc nch ho (I.freeC x c e)
   exact⟨_,q,hd⟩
  ·exact⟨o,keep c o (I.cne x c e) hc nch ho (I.freeC x c e),hd⟩
 refine⟨I.ok,I.os,hg,⟨fun b o e n hb hx=>?_,fun b o e n hb hx=>?_,fun b o e n hx=>?_,fun b o e hx=>?_,fun b xs e=>tups b xs (I.base.tups b xs e),fun b o xs e=>frzs b o xs (I.base.frzs b o xs e),fun b ps e=>?_⟩,?_,fun x c e=>?_,?_,fun x c e=>?_,fun p hp=>?_,hok,I.len⟩
 ·exact keep b o (neL b o e) hb (neC b o e hx) (I.base.keep b o e n hb hx) (I.base.free b o e n hx)
 ·obtain⟨sl,e1⟩:=I.base.slot b o e n hb hx
  obtain⟨sl',e2⟩:=slot b _ (neL b o e) hb (neC b o e hx) e1 (I.base.free b o e n hx)
  exact⟨sl',e2⟩
 ·obtain⟨o',e1⟩:=I.base.there b o e hx
  exact free b o' (neC b o e hx) e1 (I.base.free b o e n hx)
 ·obtain⟨o',e1⟩:=I.base.there b o e hx
  exact there b o' (neC b o e hx) e1
 ·obtain⟨m1,e1⟩:=I.base.tbls b ps e
  obtain⟨m2,e2⟩:=tbls b _ e1
  exact⟨m1++m2,by rw[e2,Array.append_assoc]⟩
 ·obtain⟨m,hn,hl⟩:=I.loc
  refine⟨m,ns m hn,fun i x v e1 e2 e3=>?_⟩
  obtain⟨u,r,l⟩:=hl i x v e1 e2 e3
  refine⟨u,r,?_⟩
  rcases l with l | ⟨k,c,e,z⟩
  ·exact .inl l
  ·exact .inr ⟨k,c,e,cellK x c e _ z⟩
 ·obtain⟨v,z⟩:=I.cell x c e
  exact⟨v,cellK x c e v z⟩
 ·obtain⟨m,⟨o,_,_,ho,_⟩,_⟩:=I.loc
  exact free _ o (fun z=>(hch _ z).2.1 rfl) ho I.free
 ·obtain⟨v,o,ho,hd⟩:=I.cell x c e
  exact free c o (fun z=>(hch c z).2.2.1 x c e rfl) ho (I.freeC x c e)
 ·obtain⟨e,n,ne,nf,d⟩:=I.pin p hp
  have nch:p.1∉ch:=fun z=>(hch p.1 z).2.2.2 p hp rfl
  exact⟨keep p.1 p.2 ne nf nch e n,free p.1 p.2 nch e n,ne,nf,d⟩
theorem Inv.un{t':Nat}(I:Inv X pins σ H s)(u:Un X.fs [] H H' s.heap h')(hok:HOk X.prog X.w H' h'):Inv X pins σ H' { s with heap:=h',toks:=t' }:=by
 obtain⟨m,⟨o,es,ep,ho,r⟩,_⟩:=id I.loc
 obtain⟨sl,hL⟩:=u.any ho I.free (by simp)
 exact I.step (g':=s.gens) (d':=s.drawn) (ch:=[]) (fun _ z=>nomatch z) (fun b o _ hb _ e n=>u.keep b o e n hb (by simp)) (fun b o _ hb _ e n=>u.slot b o e n hb (by simp)) (fun b o _ e n=>u.free b o e n (by simp)) (fun b o _ e=>u.there b o e (by simp)) u.tups u.frzs u.tbls (fun m' hm=>by
  obtain⟨o',es',ep',ho',r'⟩:=hm
  rw[ho] at ho';cases ho'
  exact⟨_,es',ep',hL,r'⟩) hok I.bare
theorem Inv.call{g':Array GenState}{t':Nat}{d':Drawn}{ch:List Addr}(I:Inv X pins σ H s)(u:Un (frs X.stack) ch H H' s.heap h')(hok:HOk X.prog X.w H' h')(hg:AllBare g')
 (hch:∀b∈ch,(b∈X.ex∨X.s₀.heap.objs.size≤b)∧b≠X.env.locals∧(∀x c,X.env.cells.lookup x=some c→c≠b)∧∀p∈X.pn++pins,p.1≠b):
 Inv X pins σ H' { s with heap:=h',gens:=g',drawn:=d',toks:=t' }:=by
 obtain⟨m,⟨o,es,ep,ho,r⟩,_⟩:=id I.loc
 obtain⟨sl,hL⟩:=u.any ho I.free fun z=>(hch _ z).2.1 rfl
 exact I.step (ch:=ch) hch (fun b o hL hb hc e n=>u.keep b o e n (fun z=>(List.mem_cons.mp (I.stkSub b z)).elim hL hb) hc) (fun b o _ _ hc e n=>u.any e n hc) (fun b o hc e n=>u.free b o e n hc) (fun b o hc e=>u.there b o e hc) u.tups u.frzs u.tbls (fun m' hm=>by
  obtain⟨o',es',ep',ho',r'⟩:=hm
  rw[ho] at ho';cases ho'
  exact⟨_,es',ep',hL,r'⟩) hok hg
theorem Inv.turned{t':Nat}{it:Addr}(I:Inv X pins σ H s)(k:∀b o,b≠it→s.heap.get? b=some o→h'.get? b=some o)(hn:H it=none)(hL:it≠X.env.locals)
 (h1:it∈X.ex∨X.s₀.heap.objs.size≤it)(h2:∀x c,X.env.cells.lookup x=some c→c≠it)(h3:∀p∈X.pn++pins,p.1≠it):Inv X pins σ H { s with heap:=h',toks:=t' }:=by
 have nit:∀b u,H b=some u→b≠it:=fun b u e z=>by rw[z,hn] at e;cases e
 refine I.step (g':=s.gens) (d':=s.drawn) (ch:=[it]) (fun b hb=>?_) (fun b o _ _ hc e _=>k b o (fun z=>hc (by simp[z])) e) (fun b o _ _ hc e _=>⟨o.slots,k b o (fun z=>hc (by simp[z])) e⟩) (fun _ _ _ _ n=>n)
  (fun b o hc e=>⟨o,k b o (fun z=>hc (by simp[z])) e⟩) (fun _ _ e=>e) (fun _ _ _ e=>e) (fun b ps e=>⟨#[],by rw[e];simp⟩) (fun m hm=>?_) (fun b u e=>?_) I.bare
 ·have e:b=it:=by simpa using hb
  subst e
  exact⟨h1,hL,h2,h3⟩
 ·obtain⟨o,es,ep,ho,r⟩:=hm
  exact⟨o,es,ep,k _ o (Ne.symm hL) ho,r⟩
 ·refine(I.hok b u e).stay (fun c v hc q=>k c v ?_ q) (fun _ q=>q) fun _ _ q=>q
  rcases hc with z | z
  ·rw[z];exact nit b u e
  ·exact nit c _ z
theorem Inv.tok(I:Inv X pins σ H s)(t:Nat):Inv X pins σ H { s with toks:=t }:=I.un (h':=s.heap) (t':=t) Un.refl I.hok
theorem Inv.kept{t':Nat}(I:Inv X pins σ H s)(k:∀b u,s.heap.get? b=some u→h'.get? b=some u):Inv X pins σ H { s with heap:=h',toks:=t' }:=I.un (Un.kept k) (I.hok.kept k)
theorem Inv.laid{a:Addr}{o:HO}{t':Nat}(I:Inv X pins σ H s)(k:∀b u,s.heap.get? b=some u→h'.get? b=some u)(hp:s.heap.objs.size≤a)(new:ObjOk X.prog X.w (upd H a o) h' a o):
 Inv X pins σ (upd H a o) { s with heap:=h',toks:=t' }:=I.un (Un.laid k hp (I.hok.fresh hp)) (I.hok.laid k hp new)
theorem Inv.write{x e:Addr}{o:HO}{t':Nat}(I:Inv X pins σ H s)(mu:Mut (H x))(he:e=x∨H e=some (.own x))(k:∀b u,b≠e→s.heap.get? b=some u→h'.get? b=some u)(heo:∃u,h'.get? e=some u)
 (new:ObjOk X.prog X.w (upd H x o) h' x o):Inv X pins σ (upd H x o) { s with heap:=h',toks:=t' }:=I.un (Un.write mu he k heo) (I.hok.write mu he k heo new)
theorem Inv.pins_of{pins':List (Addr×Obj)}(I:Inv X pins σ H s)(h:∀p∈pins',s.heap.get? p.1=some p.2∧H p.1=none∧p.1≠X.env.locals∧p.1∉X.fs∧∀v,p.2.data≠.cell v):Inv X pins' σ H s:=
 ⟨I.ok,I.os,I.bare,I.base,I.loc,I.cell,I.free,I.freeC,fun p hp=>(List.mem_append.mp hp).elim (fun z=>I.pin p (List.mem_append_left _ z)) (h p),I.hok,I.len⟩
theorem nodup_ix{N:List Str}(hN:N.Nodup){i j:Nat}{x:Str}(a:N[i]?=some x)(b:N[j]?=some x):i=j:=by
 obtain⟨h1,e1⟩:=List.getElem?_eq_some_iff.mp a
 obtain⟨h2,e2⟩:=List.getElem?_eq_some_iff.mp b
 exact(List.getElem_inj hN).mp (e1.trans e2.symm)
theorem store_ok2{M:Model}{A:Around}{E:Value→Shared→Prop}{i:Nat}{x:Str}{v:V}{u:Value}{Q:Unit→Shared→Prop}(I:Inv X pins σ H s)(hN:X.N.Nodup)(hi:X.N[i]?=some x)(hx:Loc X.env.scope x)(r:RelV v u)
 (h:∀s',Inv X pins (σ.set i (some v)) H s'→(∃a,Heap.SameBut a s.heap s'.heap∧(a=X.env.locals∨X.env.cells.lookup x=some a))→Q () s')(hf:X.fn x=true∨X.env.scope.names.lookup x=some .local:=by first | exact .inl rfl | exact .inr rfl | assumption):wpAny M A (storeName X.env x u) Q E s:=by
 obtain⟨m,hn,hl⟩:=id I.loc
 have hcls:(X.env.scope.kind==.class||(X.env.scope.kind==.module&&X.env.locals != X.env.globals))=false:=by rw[I.ok.kind];rfl
 have hiσ:i<σ.length:=by rw[I.len];exact(List.getElem?_eq_some_iff.mp hi).1
 have cne:=I.cne
 have tracked:∀{a:Addr} {h':Heap},(∃o,s.heap.get? a=some o∧H a=none)→Heap.SameBut a s.heap h'→HOk X.prog X.w H h':=fun{a h'} ha hs b ob e=>by
  obtain⟨_,_,hfree⟩:=ha
  refine(I.hok b ob e).stay (fun c w' hc q=>(hs.2 c ?_).trans q) (fun _ q=>q) fun _ _ q=>q
  rintro rfl
  rcases hc with rfl | hc
  ·rw[hfree] at e;cases e
  ·rw[hfree] at hc;cases hc
 rcases hx with hk | hk
 ·refine wpAny_storeName_local hk hn (fun h' hn' hs=>?_) hcls
  obtain⟨oL,_,_,hoL,_⟩:=id hn
  refine h _ ⟨I.ok,I.os,I.bare,⟨fun b o e n hb hx=>?_,fun b o e n hb hx=>?_,I.base.free,fun b o e hx=>?_,I.base.tups,I.base.frzs,I.base.tbls⟩,⟨_,hn',fun j y v' e1 e2 e3=>?_⟩,fun y c e=>?_,I.free,I.freeC,fun p hp=>?_,tracked ⟨oL,hoL,I.free⟩ hs,by simpa using I.len⟩ ⟨_,hs,.inl rfl⟩
  ·exact(hs.2 b (Nat.ne_of_lt (Nat.lt_of_lt_of_le (Heap.lt_size e) I.ok.above))).trans (I.base.keep b o e n hb hx)
  ·obtain⟨sl,e1⟩:=I.base.slot b o e n hb hx
   exact⟨sl,(hs.2 b (Nat.ne_of_lt (Nat.lt_of_lt_of_le (Heap.lt_size e) I.ok.above))).trans e1⟩
  ·obtain⟨o',e1⟩:=I.base.there b o e hx
   exact⟨o',(hs.2 b (Nat.ne_of_lt (Nat.lt_of_lt_of_le (Heap.lt_size e) I.ok.above))).trans e1⟩
  ·by_cases hj:j=i
   ·subst hj
    rw[hi] at e1;cases e1
    rw[List.getElem?_set_self hiσ] at e2
    cases e2
    exact⟨u,r,.inl ⟨hk,by simp⟩⟩
   ·rw[List.getElem?_set_ne (Ne.symm hj)] at e2
    obtain⟨u',r',q⟩:=hl j y v' e1 e2 e3
    refine⟨u',r',?_⟩
    rcases q with ⟨k,e⟩ | ⟨k,c,e,z⟩
    ·refine .inl ⟨k,?_⟩
     have:y≠x:=fun e=>hj (nodup_ix hN e1 (e ▸ hi))
     simp[this,e]
    ·exact .inr ⟨k,c,e,z.sameBut hs (cne y c e)⟩
  ·obtain⟨w',z⟩:=I.cell y c e
   exact⟨w',z.sameBut hs (cne y c e)⟩
  ·obtain⟨e,n,ne,nf,d⟩:=I.pin p hp
   exact⟨(hs.2 p.1 ne).trans e,n,ne,nf,d⟩
 ·have hfn:X.fn x=true:=by
   rcases hf with z | z
   ·exact z
   ·rw[z] at hk;cases hk
  obtain⟨c,hc⟩:=I.ok.has x (.inl hk)
  obtain⟨w',z⟩:=I.cell x c hc
  refine wpAny_storeName_cell I.ok.kind hk hc z (fun h' hc' hs=>?_)
  obtain⟨oc,hoc,hocd⟩:=id z
  refine h { s with heap:=h' } ⟨I.ok,I.os,I.bare,⟨fun b o e n hb hx=>?_,fun b o e n hb hx=>?_,I.base.free,fun b o e hx=>?_,I.base.tups,I.base.frzs,I.base.tbls⟩,⟨m,hn.sameBut hs (Ne.symm (cne x c hc)),fun j y v' e1 e2 e3=>?_⟩,fun y c' e=>?_,I.free,I.freeC,fun p hp=>?_,tracked ⟨oc,hoc,I.freeC x c hc⟩ hs,by simpa using I.len⟩ ⟨c,hs,.inr hc⟩
  ·exact(hs.2 b (Nat.ne_of_lt (Nat.lt_of_lt_of_le (Heap.lt_size e) (I.ok.cab x c hfn hc)))).trans (I.base.keep b o e n hb hx)
  ·obtain⟨sl,e1⟩:=I.base.slot b o e n hb hx
   exact⟨sl,(hs.2 b (Nat.ne_of_lt (Nat.lt_of_lt_of_le (Heap.lt_size e) (I.ok.cab x c hfn hc)))).trans e1⟩
  ·obtain⟨o',e1⟩:=I.base.there b o e hx
   exact⟨o',(hs.2 b (Nat.ne_of_lt (Nat.lt_of_lt_of_le (Heap.lt_size e) (I.ok.cab x c hfn hc)))).trans e1⟩
  ·by_cases hj:j=i
   ·subst hj
    rw[hi] at e1;cases e1
    rw[List.getElem?_set_self hiσ] at e2
    cases e2
    exact⟨u,r,.inr ⟨.inl hk,c,hc,hc'⟩⟩
   ·rw[List.getElem?_set_ne (Ne.symm hj)] at e2
    obtain⟨u',r',q⟩:=hl j y v' e1 e2 e3
    refine⟨u',r',?_⟩
    rcases q with q | ⟨k,c',e,z'⟩
    ·exact .inl q
    ·refine .inr ⟨k,c',e,z'.sameBut hs ?_⟩
     rintro rfl
     exact hj (nodup_ix hN e1 (I.ok.inj _ _ _ e hc ▸ hi))
  ·by_cases hcc:c'=c
   ·subst hcc;exact⟨_,hc'⟩
   ·obtain⟨w2,z2⟩:=I.cell y c' e
    exact⟨w2,z2.sameBut hs hcc⟩
  ·obtain⟨e,n,ne,nf,d⟩:=I.pin p hp
   refine⟨(hs.2 p.1 ?_).trans e,n,ne,nf,d⟩
   intro q
   rw[q,hoc] at e
   have q':oc=p.2:=Option.some.inj e
   exact d w' (by rw[←q'];exact hocd)
theorem store_ok{M:Model}{A:Around}{E:Value→Shared→Prop}{i:Nat}{x:Str}{v:V}{u:Value}{Q:Unit→Shared→Prop}(I:Inv X pins σ H s)(hN:X.N.Nodup)(hi:X.N[i]?=some x)(hx:Loc X.env.scope x)(r:RelV v u)
 (h:∀s',Inv X pins (σ.set i (some v)) H s'→Q () s')(hf:X.fn x=true∨X.env.scope.names.lookup x=some .local:=by first | exact .inl rfl | exact .inr rfl | assumption):wpAny M A (storeName X.env x u) Q E s:=
 store_ok2 I hN hi hx r (fun s' I' _=>h s' I') hf
theorem Inv.call'{s':Shared}{ch:List Addr}(I:Inv X pins σ H s)(ho:s'.os=s.os)(u:Un (frs X.stack) ch H H' s.heap s'.heap)(hok:HOk X.prog X.w H' s'.heap)(hg:AllBare s'.gens)
 (hch:∀b∈ch,(b∈X.ex∨X.s₀.heap.objs.size≤b)∧b≠X.env.locals∧(∀x c,X.env.cells.lookup x=some c→c≠b)∧∀p∈X.pn++pins,p.1≠b):Inv X pins σ H' s':=by
 obtain⟨h',g',d',t',o'⟩:=s'
 have e:o'=s.os:=ho
 subst e
 exact I.call (g':=g') (t':=t') (d':=d') u hok hg hch
end
abbrev XK:=Value→Option Addr→Hp→Prop
abbrev St:=List (Option V)
abbrev VK:=V→Hp→Prop
abbrev TE:=St→Hp→VK→Prop
abbrev TT:=St→Hp→(Bool→Hp→Prop)→Prop
abbrev TA:=St→Hp→(List V→Hp→Prop)→Prop
structure Ends where
 nx:St→Hp→Prop
 rt:VK
 bk:St→Hp→Prop:=fun _ _=>False
 ct:St→Hp→Prop:=fun _ _=>False
abbrev TS:=Ends→St→Hp→Prop
def EP(X:Cx)(pins:List (Addr×Obj))(σ:St)(Q:VK)(u:Value)(s':Shared):Prop:=∃v H',Inv X pins σ H' s'∧RelV v u∧Q v H'
def TP(X:Cx)(pins:List (Addr×Obj))(σ:St)(Q:Bool→Hp→Prop)(b:Bool)(s':Shared):Prop:=∃H',Inv X pins σ H' s'∧Q b H'
def AP(X:Cx)(pins:List (Addr×Obj))(σ:St)(Q:List V→Hp→Prop)(us:List Value)(s':Shared):Prop:=∃vs H',Inv X pins σ H' s'∧Vals vs us∧Q vs H'
def SP(X:Cx)(pins:List (Addr×Obj))(D:Ends)(f:Flow)(s':Shared):Prop:=
 match f with
 | .next=>∃σ' H',Inv X pins σ' H' s'∧D.nx σ' H'
 | .brk=>∃σ' H',Inv X pins σ' H' s'∧D.bk σ' H'
 | .cont=>∃σ' H',Inv X pins σ' H' s'∧D.ct σ' H'
 | .ret u=>∃v σ' H',Inv X pins σ' H' s'∧RelV v u∧D.rt v H'
def PE(X:Cx)(e:Expr)(t:TE):Prop:=
 ∀(pins:List (Addr×Obj)) (s:Shared) (σ:St) (H:Hp) (Q:VK),Inv X pins σ H s→t σ H Q→wpAny (model X.prog X.w) X.A (eval e X.env) (EP X pins σ Q) X.xe s
def PT(X:Cx)(e:Expr)(t:TT):Prop:=
 ∀(pins:List (Addr×Obj)) (s:Shared) (σ:St) (H:Hp) (Q:Bool→Hp→Prop),Inv X pins σ H s→t σ H Q→wpAny (model X.prog X.w) X.A (isTrue e X.env (eval e X.env)) (TP X pins σ Q) X.xe s
def PW(X:Cx)(e:Expr)(t:TT):Prop:=
 ∀(whole:Sem Value) (pins:List (Addr×Obj)) (s:Shared) (σ:St) (H:Hp) (Q:Bool→Hp→Prop),Inv X pins σ H s→t σ H Q→wpAny (model X.prog X.w) X.A (isTrue e X.env whole) (TP X pins σ Q) X.xe s
theorem PW.pt{X:Cx}{e:Expr}{t:TT}(h:PW X e t):PT X e t:=h _
def PA(X:Cx)(es:List Expr)(t:TA):Prop:=
 ∀(pos:Pos) (pins:List (Addr×Obj)) (s:Shared) (σ:St) (H:Hp) (Q:List V→Hp→Prop),Inv X pins σ H s→t σ H Q→wpAny (model X.prog X.w) X.A (spliced (backTo pos (starEach es X.env))) (AP X pins σ Q) X.xe s
def PS(X:Cx)(st:Stmt)(t:TS):Prop:=
 ∀(pins:List (Addr×Obj)) (s:Shared) (σ:St) (H:Hp) (D:Ends),Inv X pins σ H s→t D σ H→wpAny (model X.prog X.w) X.A (exec st X.env) (SP X pins D) X.xe s
def PSs(X:Cx)(st:List Stmt)(t:TS):Prop:=
 ∀(pins:List (Addr×Obj)) (s:Shared) (σ:St) (H:Hp) (D:Ends),Inv X pins σ H s→t D σ H→wpAny (model X.prog X.w) X.A (execs st X.env) (SP X pins D) X.xe s
theorem thn{α:Type}{t:Sem α}{Q Q':α→Shared→Prop}{M:Model}{A:Around}{E:Value→Shared→Prop}{s:Shared}(h:wpAny M A t Q E s)(hQ:∀a s,Q a s→Q' a s):wpAny M A t Q' E s:=wpAny_mono h hQ fun _ _ x=>x
end L2
namespace L2
open PySem PySem.Spec PyProof.Rows
section
variable{X:Cx}
def tVar(i:Nat):TE:=fun σ H Q=>∃v,σ[i]?=some (some v)∧Q v H
def tC(v:V):TE:=fun _ H Q=>Q v H
theorem pe_var{i:Nat}{x:Str}{pos:Pos}(hN:X.N[i]?=some x)(hv:Vis X.env.scope x)(hd:(x==("__debug__":Str))=false:=by decide)(hcd:(x==("__classdict__":Str))=false:=by decide):PE X (.Name x pos) (tVar i):=by
 intro pins s σ H Q I h
 obtain⟨v,e,h⟩:=h
 obtain⟨m,hn,hl⟩:=I.loc
 obtain⟨u,r,l⟩:=hl i x v hN e hv
 have fin:EP X pins σ Q u s:=⟨v,H,I,r,h⟩
 rcases l with ⟨hk,hm⟩ | ⟨hk,c,hc,hcell⟩
 ·exact wpAny_Name (wpAny_loadName_local I.ok.kind hk hn hm fin) hd
 ·rcases hk with hk | hk
  ·exact wpAny_Name (wpAny_loadName_cell I.ok.kind hk hc hcell fin) hd
  ·exact wpAny_Name (wpAny_loadName_free I.ok.kind hk hc hcell fin hcd) hd
theorem pe_int{i j pos}:PE X (.Constant (.int i) j pos) (tC (.int i)):=fun _ _ _ H _ I h=>wpAny_Constant_int ⟨.int i,H,I.tok _,⟨_,rfl⟩,h⟩
theorem pe_bl{b j pos}:PE X (.Constant (.bool b) j pos) (tC (.bl b)):=fun _ _ _ H _ I h=>Constant_bool ⟨.bl b,H,I,rfl,h⟩
theorem pe_non{j pos}:PE X (.Constant .none j pos) (tC .non):=fun _ _ _ H _ I h=>Constant_none ⟨.non,H,I,rfl,h⟩
theorem pe_str{x j pos}:PE X (.Constant (.str x) j pos) (tC (.str x)):=fun _ _ _ H _ I h=>Calls.Constant_str ⟨.str x,H,I.tok _,⟨_,rfl⟩,h⟩
def Gl(X:Cx)(x:Str):Prop:=X.env.kindOf x=some .globalImplicit
theorem ld_glob{E:Value→Shared→Prop}{pins:List (Addr×Obj)}{s:Shared}{σ:St}{H:Hp}{x:Str}{u:Value}{pos:Pos}{Q:Value→Shared→Prop}(I:Inv X pins σ H s)(hg:Gl X x)(hm:X.mg x=some u)(h:Q u s)
 (hd:(x==("__debug__":Str))=false:=by decide):wpAny (model X.prog X.w) X.A (eval (.Name x pos) X.env) Q E s:=
 Calls.Name_function_global I.ok.kind hg (Calls.loadGlobal_global (by rw[I.ok.glob];exact I.mod.glob.keeps I.bk) hm h) hd
theorem ld_blt{E:Value→Shared→Prop}{pins:List (Addr×Obj)}{s:Shared}{σ:St}{H:Hp}{x:Str}{u:Value}{pos:Pos}{Q:Value→Shared→Prop}(I:Inv X pins σ H s)(hg:Gl X x)(hm:X.mg x=none)(hv:bootBuiltins x=some u)(h:Q u s)
 (hn:x≠"__name__":=by decide)(hd:(x==("__debug__":Str))=false:=by decide):wpAny (model X.prog X.w) X.A (eval (.Name x pos) X.env) Q E s:=by
 obtain⟨mb,h1,h2⟩:=I.mod.blt
 exact Calls.Name_function_global I.ok.kind hg (Calls.loadGlobal_builtin (by rw[I.ok.glob];exact I.mod.glob.keeps I.bk) hm (by rw[I.ok.blt];exact h1.keeps I.bk) ((h2 x hn).trans hv) h) hd
theorem pe_glob{x:Str}{v:V}{u:Value}{pos:Pos}(hg:Gl X x)(hm:X.mg x=some u)(r:RelV v u)(hd:(x==("__debug__":Str))=false:=by decide):PE X (.Name x pos) (tC v):=
 fun _ _ _ H _ I h=>ld_glob I hg hm ⟨v,H,I,r,h⟩ hd
theorem pe_bltn{x:Str}{v:V}{u:Value}{pos:Pos}(hg:Gl X x)(hm:X.mg x=none)(hv:bootBuiltins x=some u)(r:RelV v u)(hn:x≠"__name__":=by decide)(hd:(x==("__debug__":Str))=false:=by decide):PE X (.Name x pos) (tC v):=
 fun _ _ _ H _ I h=>ld_blt I hg hm hv ⟨v,H,I,r,h⟩ hn hd
variable{a b:Expr}{ta tb:TE}{pos:Pos}
def tB(t:TE):TT:=fun σ H Q=>t σ H fun x H1=>∃c,x=.bl c∧Q c H1
theorem pt_val{e:Expr}{t:TE}(h:PE X e t)(he:∀whole,isTrue e X.env whole=(do let v ←whole;standAt e.pos;holding [v] (truthy v)):=by intro _;rfl):PT X e (tB t):=by
 intro pins s σ H Q I hw
 refine isTrue_plain (thn (h pins s σ H _ I hw) fun v s1 ⟨x,H1,I1,r1,q1⟩=>?_) (he _)
 obtain⟨d,rfl,q⟩:=q1
 cases r1
 exact wpAny_truthy_bool ⟨H1,I1,q⟩
variable{tA tB':TT}{rest:List Expr}
def tOr(t u:TT):TT:=fun σ H Q=>t σ H fun c H1=>if c=true then Q true H1 else u σ H1 Q
def tNot(t:TT):TT:=fun σ H Q=>t σ H fun c H1=>Q (!c) H1
theorem pw_or1(ha:PT X a tA):PW X (.BoolOp .Or [a] pos) tA:=by
 intro wh pins s σ H Q I h
 refine isTrue_or (thn (ha pins s σ H Q I h) fun c s1 e=>?_)
 cases c with
 | false=>exact isTrue_or_nil e
 | true=>exact e
theorem pw_or(ha:PT X a tA)(hb:PW X (.BoolOp .Or (b::rest) pos) tB'):PW X (.BoolOp .Or (a::b::rest) pos) (tOr tA tB'):=by
 intro wh pins s σ H Q I h
 refine isTrue_or (thn (ha pins s σ H _ I h) fun c s1 ⟨H1,I1,q1⟩=>?_)
 cases c with
 | true=>exact⟨H1,I1,q1⟩
 | false=>exact hb wh pins s1 σ H1 Q I1 q1
theorem pt_not(ha:PT X a tA):PT X (.UnaryOp .Not a pos) (tNot tA):=by
 intro pins s σ H Q I h
 exact isTrue_not (ha pins s σ H (fun c H1=>Q (!c) H1) I h)
def tAndV(ta tb:TE):TE:=fun σ H Q=>ta σ H fun x H1=>∃c,x=.bl c∧if c=true then tb σ H1 Q else Q (.bl false) H1
def tNotV(ta:TE):TE:=fun σ H Q=>ta σ H fun x H1=>∃c,x=.bl c∧Q (.bl (!c)) H1
theorem pe_one{op}{t:TE}(h:PE X a t):PE X (.BoolOp op [a] pos) t:=fun pins s σ H Q I hw=>BoolOp_one (h pins s σ H Q I hw)
theorem pe_and(ha:PE X a ta)(hb:PE X (.BoolOp .And (b::rest) pos) tb):PE X (.BoolOp .And (a::b::rest) pos) (tAndV ta tb):=by
 intro pins s σ H Q I h
 refine BoolOp_and (thn (ha pins s σ H _ I h) fun v s1 ⟨x,H1,I1,r1,q1⟩=>?_)
 obtain⟨c,rfl,q1⟩:=q1
 cases r1
 refine wpAny_truthy_bool ?_
 cases c with
 | true=>exact hb pins s1 σ H1 Q I1 q1
 | false=>exact⟨.bl false,H1,I1,rfl,q1⟩
theorem pe_not(ha:PE X a ta):PE X (.UnaryOp .Not a pos) (tNotV ta):=by
 intro pins s σ H Q I h
 refine UnaryOp_ (thn (ha pins s σ H _ I h) fun v s1 ⟨x,H1,I1,r1,q1⟩=>?_)
 obtain⟨c,rfl,q1⟩:=q1
 cases r1
 exact not_of (wpAny_truthy_bool ⟨.bl (!c),H1,I1,rfl,q1⟩)
def tIf(t:TT)(ta tb:TE):TE:=fun σ H Q=>t σ H fun c H1=>if c=true then ta σ H1 Q else tb σ H1 Q
theorem pe_ifExp{c:Expr}(hc:PT X c tA)(ha:PE X a ta)(hb:PE X b tb):PE X (.IfExp c a b pos) (tIf tA ta tb):=by
 intro pins s σ H Q I h
 refine wpAny_IfExp (thn (hc pins s σ H _ I h) fun d s1 ⟨H1,I1,q1⟩=>?_)
 cases d with
 | true=>exact ha pins s1 σ H1 Q I1 q1
 | false=>exact hb pins s1 σ H1 Q I1 q1
end
end L2
namespace L2
open PySem PySem.Spec PyProof.Rows
def SqL(K:PySem.W.Frag)(H:Hp)(a:Addr)(xs:List V):Prop:=
 Rd H a (.lst xs)∨
  ∃(o:Obj) (its:Array Value) (n:Nat),K.lookup a=some o∧o.cls=.type "list"∧o.dict=none∧o.data=.seq its n∧its.size≤sizeLine∧Vals xs its.toList
def SqT(K:PySem.W.Frag)(H:Hp)(a:Addr)(xs:List V):Prop:=
 Rd H a (.tup xs)∨
  ∃(o:Obj) (its:Array Value) (n:Nat),K.lookup a=some o∧o.cls=.type "tuple"∧o.data=.seq its n∧its.size≤sizeLine∧Vals xs its.toList
def absV:Value→Option V
 | .none=>some .non
 | .bool b=>some (.bl b)
 | .int i _=>some (.int i)
 | .str x _=>some (.str x)
 | .bytes b _=>some (.byt b)
 | .float b _=>some (.flt b)
 | .ref a=>some (.ref a)
 | .type n=>some (.ty n)
 | _=>none
theorem RelV.abs{x:V}{u:Value}(r:RelV x u):absV u=some x:=by
 cases x with
 | non=>cases r;rfl
 | bl _=>cases r;rfl
 | int _=>obtain⟨t,rfl⟩:=r;rfl
 | str _=>obtain⟨t,rfl⟩:=r;rfl
 | byt _=>obtain⟨t,rfl⟩:=r;rfl
 | flt _=>obtain⟨t,rfl⟩:=r;rfl
 | ref _=>cases r;rfl
 | ty _=>cases r;rfl
theorem RelV.inj{x y:V}{u:Value}(r:RelV x u)(q:RelV y u):x=y:=Option.some.inj (r.abs.symm.trans q.abs)
theorem Vals.inj:∀{xs ys:List V} {us:List Value},Vals xs us→Vals ys us→xs=ys
 | _,_,_,.nil,.nil=>rfl
 | _,_,_,.cons r t,.cons r' t'=>by rw[r.inj r',Vals.inj t t']
section
variable{X:Cx}{pins:List (Addr×Obj)}{σ:St}{H:Hp}{s:Shared}{a:Addr}{xs ys:List V}
theorem SqL.of{K:PySem.W.Frag}(h:H a=some (.lst xs)):SqL K H a xs:=.inl (.inl h)
theorem SqT.of{K:PySem.W.Frag}(h:H a=some (.tup xs)):SqT K H a xs:=.inl (.inl h)
theorem Inv.list(I:Inv X pins σ H s)(h:SqL X.K H a xs):∃its:List Value,Vals xs its∧PlainL s.heap a its.toArray∧xs.length≤sizeLine:=by
 rcases h with h | ⟨o,its,n,hk,hc,hd,hs,hz,r⟩
 ·obtain⟨z,its,n,r,e⟩:=h.ok I.hok
  exact⟨its,r,⟨_,n,e,rfl,rfl,rfl⟩,z⟩
 ·refine⟨its.toList,r,⟨o,n,I.kIn a o hk,hc,hd,by simpa using hs⟩,?_⟩
  have e:=r.length
  simp only[Array.length_toList] at e
  omega
theorem Inv.tuple(I:Inv X pins σ H s)(h:SqT X.K H a xs):∃its:List Value,Vals xs its∧IsTup s.heap a its.toArray∧xs.length≤sizeLine:=by
 rcases h with h | ⟨o,its,n,hk,hc,hs,hz,r⟩
 ·obtain⟨z,its,r,p⟩:=h.ok I.hok
  exact⟨its,r,p,z⟩
 ·refine⟨its.toList,r,⟨o,I.kIn a o hk,hc,n,by simpa using hs⟩,?_⟩
  have e:=r.length
  simp only[Array.length_toList] at e
  omega
theorem Inv.list_inj(I:Inv X pins σ H s)(h:SqL X.K H a xs)(h':SqL X.K H a ys):xs=ys:=by
 obtain⟨its,r,⟨o,n,e,_,_,d⟩,_⟩:=I.list h
 obtain⟨its',r',⟨o',n',e',_,_,d'⟩,_⟩:=I.list h'
 rw[e] at e';cases e'
 rw[d] at d'
 injection d' with d1 _
 have:its=its':=by simpa using congrArg Array.toList d1
 subst this
 exact r.inj r'
theorem Inv.tuple_inj(I:Inv X pins σ H s)(h:SqT X.K H a xs)(h':SqT X.K H a ys):xs=ys:=by
 obtain⟨its,r,⟨o,e,_,n,d⟩,_⟩:=I.tuple h
 obtain⟨its',r',⟨o',e',_,n',d'⟩,_⟩:=I.tuple h'
 rw[e] at e';cases e'
 rw[d] at d'
 injection d' with d1 _
 have:its=its':=by simpa using congrArg Array.toList d1
 subst this
 exact r.inj r'
end
abbrev Cx.wish(X:Cx)(E:Value→Shared→Prop):Cx:={ X with xe:=E }
abbrev Cx.nox(X:Cx):Cx:=X.wish fun _ _=>False
theorem Cx.Ok.wish{X:Cx}(ok:X.Ok)(E:Value→Shared→Prop):(X.wish E).Ok:=
 ⟨ok.mod,ok.kind,ok.glob,ok.blt,ok.above,ok.inj,ok.has,ok.cab,ok.hd,ok.frames,ok.stk,ok.exf,ok.bs,ok.bsz,ok.noex,ok.exfs,ok.funs,ok.frf⟩
theorem Cx.Ok.unwish{X:Cx}{E:Value→Shared→Prop}(ok:(X.wish E).Ok):X.Ok:=
 ⟨ok.mod,ok.kind,ok.glob,ok.blt,ok.above,ok.inj,ok.has,ok.cab,ok.hd,ok.frames,ok.stk,ok.exf,ok.bs,ok.bsz,ok.noex,ok.exfs,ok.funs,ok.frf⟩
section
variable{X:Cx}{pins:List (Addr×Obj)}{σ:St}{H:Hp}{s:Shared}{E:Value→Shared→Prop}
theorem Inv.wish(I:Inv X pins σ H s)(E:Value→Shared→Prop):Inv (X.wish E) pins σ H s:=⟨I.ok.wish E,I.os,I.bare,I.base,I.loc,I.cell,I.free,I.freeC,I.pin,I.hok,I.len⟩
theorem Inv.unwish(I:Inv (X.wish E) pins σ H s):Inv X pins σ H s:=⟨I.ok.unwish,I.os,I.bare,I.base,I.loc,I.cell,I.free,I.freeC,I.pin,I.hok,I.len⟩
theorem SP.unwish{D:Ends}{f:Flow}{s':Shared}(h:SP (X.wish E) pins D f s'):SP X pins D f s':=by
 cases f with
 | next=>obtain⟨σ',H',I,q⟩:=h;exact⟨σ',H',I.unwish,q⟩
 | brk=>obtain⟨σ',H',I,q⟩:=h;exact⟨σ',H',I.unwish,q⟩
 | cont=>obtain⟨σ',H',I,q⟩:=h;exact⟨σ',H',I.unwish,q⟩
 | ret u=>obtain⟨v,σ',H',I,r,q⟩:=h;exact⟨v,σ',H',I.unwish,r,q⟩
theorem PSs.nox{st:List Stmt}{t:TS}(h:PSs X.nox st t):PSs X st t:=fun pins s σ H D I hw=>
 wpAny_mono (h pins s σ H D (I.wish _) hw) (fun _ _ q=>q.unwish) fun _ _ z=>False.elim z
end
section
variable{X:Cx}{st:Stmt}{rest:List Stmt}{t u:TS}{e:Expr}{te:TE}{pos:Pos}
def tNext:TS:=fun D σ H=>D.nx σ H
def tSeq(t u:TS):TS:=fun D σ H=>t { D with nx:=u D } σ H
theorem pss_nil:PSs X [] tNext:=fun _ _ σ H _ I h=>wpAny_execs_nil ⟨σ,H,I,h⟩
theorem pss_cons(h1:PS X st t)(h2:PSs X rest u):PSs X (st::rest) (tSeq t u):=by
 intro pins s σ H D I h
 refine wpAny_execs_cons (thn (h1 pins s σ H { D with nx:=u D } I h) fun f s1 q=>?_)
 cases f with
 | next=>
  obtain⟨σ',H',I',q⟩:=q
  exact h2 pins s1 σ' H' D I' q
 | ret v=>exact q
 | brk=>exact q
 | cont=>exact q
theorem pss_one(h1:PS X st t):PSs X [st] t:=by
 intro pins s σ H D I h
 refine wpAny_execs_cons (thn (h1 pins s σ H D I h) fun f s1 q=>?_)
 cases f with
 | next=>exact wpAny_execs_nil q
 | ret v=>exact q
 | brk=>exact q
 | cont=>exact q
theorem Inv.quiet{pins:List (Addr×Obj)}{σ:St}{H:Hp}{s:Shared}(I:Inv X pins σ H s):interactive X.env=false:=by simp[interactive,I.ok.kind]
def tDrop(te:TE):TS:=fun D σ H=>te σ H fun _ H1=>D.nx σ H1
theorem ps_expr(he:PE X e te)(hs:swapsWith e none pos.line X.env=pure false:=by rfl):PS X (.Expr e pos) (tDrop te):=by
 intro pins s σ H D I h
 exact wpAny_Expr_any (thn (he pins s σ H _ I h) fun v s1 ⟨x,H1,I1,r1,q1⟩=>⟨σ,H1,I1,q1⟩) I.quiet hs
def tRet(te:TE):TS:=fun D σ H=>te σ H D.rt
theorem ps_ret(he:PE X e te):PS X (.Return (some e) pos) (tRet te):=by
 intro pins s σ H D I h
 exact wpAny_Return_some (thn (he pins s σ H _ I h) fun v s1 ⟨x,H1,I1,r1,q1⟩=>⟨x,σ,H1,I1,r1,q1⟩)
def tIfS(c:TT)(t u:TS):TS:=fun D σ H=>c σ H fun b H1=>if b=true then t D σ H1 else u D σ H1
theorem ps_if{c:Expr}{a b:List Stmt}{tc:TT}(hc:PT X c tc)(ha:PSs X a t)(hb:PSs X b u):PS X (.If c a b pos) (tIfS tc t u):=by
 intro pins s σ H D I h
 refine wpAny_If (thn (hc pins s σ H _ I h) fun d s1 ⟨H1,I1,q1⟩=>?_)
 cases d with
 | true=>exact ha pins s1 σ H1 D I1 q1
 | false=>exact hb pins s1 σ H1 D I1 q1
def tNever:TS:=fun _ _ _=>False
theorem ps_never:PS X st tNever:=fun _ _ _ _ _ _ h=>h.elim
end
abbrev TG:=V→St→Hp→(St→Hp→Prop)→Prop
def PG(X:Cx)(target:Expr)(t:TG):Prop:=
 ∀(pins:List (Addr×Obj)) (s:Shared) (σ:St) (H:Hp) (v:V) (u:Value) (Q:St→Hp→Prop),Inv X pins σ H s→RelV v u→t v σ H Q→
  wpAny (model X.prog X.w) X.A (assign target X.env u) (fun _ s'=>∃σ' H',Inv X pins σ' H' s'∧Q σ' H') X.xe s
abbrev TSet:=V→V→V→Hp→(Hp→Prop)→Prop
def PSet(X:Cx)(t:TSet):Prop:=
 ∀(pins:List (Addr×Obj)) (s:Shared) (σ:St) (H:Hp) (o i v:V) (ov iv u:Value) (Q:Hp→Prop),Inv X pins σ H s→RelV o ov→RelV i iv→RelV v u→t o i v H Q→
  wpAny (model X.prog X.w) X.A (setItem ov iv u) (fun _ s'=>∃H',Inv X pins σ H' s'∧Q H') X.xe s
section
variable{X:Cx}{pos:Pos}
def gName(i:Nat):TG:=fun v σ H Q=>Q (σ.set i (some v)) H
theorem pg_name{i:Nat}{x:Str}(hN:X.N.Nodup)(hi:X.N[i]?=some x)(hx:Loc X.env.scope x)(hf:X.fn x=true∨X.env.scope.names.lookup x=some .local:=by first | exact .inl rfl | exact .inr rfl | assumption):PG X (.Name x pos) (gName i):=by
 intro pins s σ H v u Q I r h
 exact wpAny_assign_Name (store_ok I hN hi hx r (fun s' I'=>⟨_,H,I',h⟩) hf)
def gSub(to ti:TE)(t:TSet):TG:=fun v σ H Q=>to σ H fun o H1=>ti σ H1 fun i H2=>t o i v H2 fun H3=>Q σ H3
theorem pg_sub{o i:Expr}{to ti:TE}{t:TSet}(ho:PE X o to)(hi:PE X i ti)(hs:PSet X t)
 (ha:∀v,assign (.Subscript o i pos) X.env v=(do
  let ov ←holding [v] (eval o X.env)
  let iv ←holding [v,ov] (eval i X.env)
  standAt pos
  holding [v,ov,iv] (setItem ov iv v)
  release [v,ov,iv] []):=by intro _;rfl):PG X (.Subscript o i pos) (gSub to ti t):=by
 intro pins s σ H v u Q I r h
 rw[ha]
 refine wpAny_bind (wpAny_holding (thn (ho pins s σ H _ I h) fun ov s1 ⟨x,H1,I1,r1,q1⟩=>?_))
 refine wpAny_bind (wpAny_holding (thn (hi pins s1 σ H1 _ I1 q1) fun iv s2 ⟨y,H2,I2,r2,q2⟩=>?_))
 refine wpAny_bind (wpAny_standAt (wpAny_bind (wpAny_holding (thn (hs pins s2 σ H2 x y v ov iv u _ I2 r1 r2 r q2) fun _ s3 ⟨H3,I3,q3⟩=>?_))))
 exact wpAny_release ⟨σ,H3,I3,q3⟩
def tAsg(te:TE)(g:TG):TS:=fun D σ H=>te σ H fun x H1=>g x σ H1 D.nx
theorem ps_asg{tg e:Expr}{te:TE}{g:TG}(he:PE X e te)(hg:PG X tg g)(hs:swapsWithSole [tg] e pos.line X.env=pure false:=by rfl)(hw:swappedStores [tg] e X.env=pure none:=by rfl)
 (h1:(assignEach [tg] X.env).map (·.2)=[assign tg X.env]:=by rfl):PS X (.Assign [tg] e pos) (tAsg te g):=by
 intro pins s σ H D I h
 refine wpAny_Assign_stores (thn (he pins s σ H _ I h) fun v s1 ⟨x,H1,I1,r1,q1⟩=>?_) hs hw
 rw[h1]
 exact thn (hg pins s1 σ H1 x v _ I1 r1 q1) fun _ s2 q=>q
theorem ps_set{i:Nat}{x:Str}{e:Expr}{te:TE}{pos':Pos}(hN:X.N.Nodup)(hi:X.N[i]?=some x)(hx:Loc X.env.scope x)(he:PE X e te)(hs:swapsWith e (some (.Name x pos')) pos.line X.env=pure false:=by rfl)(hf:X.fn x=true∨X.env.scope.names.lookup x=some .local:=by first | exact .inl rfl | exact .inr rfl | assumption):
 PS X (.Assign [.Name x pos'] e pos) (tAsg te (gName i)):=by
 intro pins s σ H D I h
 refine wpAny_Assign_Name (thn (he pins s σ H _ I h) fun v s1 ⟨y,H1,I1,r1,q1⟩=>?_) hs
 exact store_ok I1 hN hi hx r1 (fun s2 I2=>⟨_,H1,I2,q1⟩) hf
end
section
variable{X:Cx}{pos:Pos}
def tWhile(c:TT)(tb:TS):TS:=fun D σ H=>∃W:Nat→St→Hp→Prop,(∃m,W m σ H)∧∀m σ H,W m σ H→
 c σ H fun b H1=>if b=true then ∃N:St→Hp→Prop,(∀σ' H',N σ' H'→∃m',m'<m∧W m' σ' H')∧tb { D with nx:=N,ct:=N,bk:=D.nx } σ H1 else D.nx σ H1
theorem ps_while{c:Expr}{body:List Stmt}{tc:TT}{tb:TS}(hp:PassesOwn (model X.prog X.w) X.A X.env X.xe)(hc:PT X c tc)(hb:PSs X body tb):PS X (.While c body [] pos) (tWhile tc tb):=by
 intro pins s σ H D I h
 obtain⟨W,⟨m0,w0⟩,turn⟩:=h
 refine wpAny_While (codeAny_whileLoop (fun n s'=>∃σ' H',Inv X pins σ' H' s'∧W n σ' H') ?_ m0 ⟨σ,H,I,w0⟩)
 rintro n s1 ⟨σ1,H1,I1,w1⟩
 refine wpAny_passesOwn hp (thn (hc pins s1 σ1 H1 _ I1 (turn n σ1 H1 w1)) fun b s2 ⟨H2,I2,q2⟩=>?_)
 cases b with
 | true=>
  obtain⟨N,hN,q2⟩:=q2
  rw[if_pos rfl]
  refine wpAny_passesOwn hp (thn (hb pins s2 σ1 H2 _ I2 q2) fun f s3 q3=>?_)
  cases f with
  | next=>
   obtain⟨σ3,H3,I3,n3⟩:=q3
   obtain⟨m',hm,w3⟩:=hN σ3 H3 n3
   exact⟨m',hm,σ3,H3,I3,w3⟩
  | cont=>
   obtain⟨σ3,H3,I3,n3⟩:=q3
   obtain⟨m',hm,w3⟩:=hN σ3 H3 n3
   exact⟨m',hm,σ3,H3,I3,w3⟩
  | brk=>exact q3
  | ret v=>exact q3
 | false=>
  rw[if_neg Bool.false_ne_true]
  exact wpAny_execs_nil ⟨σ1,H2,I2,q2⟩
end
structure It where
 go:Nat→Hp→Prop
 yld:Nat→Hp→V→Hp→Prop
 stop:Nat→Hp→Prop
def FpOk(X:Cx)(pins:List (Addr×Obj))(H:Hp)(b:Addr):Prop:=
 H b=none∧b≠X.env.locals∧b∉X.fs∧(b∈X.ex∨X.s₀.heap.objs.size≤b)∧(∀x c,X.env.cells.lookup x=some c→c≠b)∧∀p∈X.pn++pins,p.1≠b
theorem Inv.fpOk{X:Cx}{pins:List (Addr×Obj)}{σ:St}{H H':Hp}{s:Shared}{b:Addr}(I:Inv X pins σ H s)(hb:s.heap.objs.size≤b)(hn:H' b=none):FpOk X pins H' b:=by
 refine⟨hn,Nat.ne_of_gt (Nat.lt_of_lt_of_le I.lt hb),I.nofs hb,.inr (Nat.le_trans I.sz hb),fun x c e z=>?_,fun p hp z=>?_⟩
 ·obtain⟨v,q⟩:=I.cell x c e
  exact absurd (Nat.lt_of_lt_of_le q.lt (by rw[z];exact hb)) (Nat.lt_irrefl _)
 ·exact absurd (Nat.lt_of_lt_of_le (Heap.lt_size (I.pin p hp).1) (by rw[z];exact hb)) (Nat.lt_irrefl _)
structure Turn(P:Program)(w:World)(K:PySem.W.Frag)(tg:Expr)(J:It)(fp:List Addr)(it:Addr)(tn:Nat→Heap→Prop):Prop where
 mem:it∈fp
 obj:∀i h,tn i h→∀b∈fp,∃o,h.get? b=some o∧∀v,o.data≠.cell v
 keep:∀i h h',tn i h→(∀b∈fp,∀o,h.get? b=some o→h'.get? b=some o)→tn i h'
 item:∀(X:Cx),X.prog=P→X.w=w→X.K=K→X.calm=true→∀(i:Nat) (pins:List (Addr×Obj)) (s:Shared) (σ:St) (H:Hp) (E:Value→Shared→Prop),Inv X pins σ H s→(∀b∈fp,FpOk X pins H b)→tn i s.heap→J.go i H→
  wpAny (model P w) X.A (pyNext (.ref it)) (fun r s1=>∃u,r=some u∧
   wpAny (model P w) X.A (letOwnedTupleGo tg (.ref it) u) (fun _ s2=>∃x H',Inv X pins σ H' s2∧RelV x u∧J.yld i H x H'∧tn (i+1) s2.heap∧∀b∈fp,H' b=none) E s1) E s
 done:∀(X:Cx),X.prog=P→X.w=w→X.K=K→X.calm=true→∀(i:Nat) (pins:List (Addr×Obj)) (s:Shared) (σ:St) (H:Hp) (E:Value→Shared→Prop),Inv X pins σ H s→(∀b∈fp,FpOk X pins H b)→tn i s.heap→J.stop i H→
  wpAny (model P w) X.A (pyNext (.ref it)) (fun r s1=>r=none∧Inv X pins σ H s1) E s
 self:∀(A:Around) (i:Nat) (s:Shared) (Q:Value→Shared→Prop) (E:Value→Shared→Prop),tn i s.heap→Q (.ref it) s→wpAny (model P w) A (pyIter (.ref it)) Q E s
abbrev TI:=St→Hp→(It→Hp→Prop)→Prop
def PIE(X:Cx)(pins:List (Addr×Obj))(σ:St)(tg:Expr)(R:It→Hp→Prop)(itv:Value)(s2:Shared):Prop:=
 ∃(it:Addr) (fp:List Addr) (tn:Nat→Heap→Prop) (J:It) (H':Hp),itv=.ref it∧Inv X pins σ H' s2∧Turn X.prog X.w X.K tg J fp it tn∧tn 0 s2.heap∧(∀b∈fp,FpOk X pins H' b)∧R J H'
def PI(X:Cx)(tg iter:Expr)(wi:TI):Prop:=
 ∀(pins:List (Addr×Obj)) (s:Shared) (σ:St) (H:Hp) (R:It→Hp→Prop),Inv X pins σ H s→wi σ H R→
  wpAny (model X.prog X.w) X.A (eval iter X.env) (fun v s1=>wpAny (model X.prog X.w) X.A (pyIter v) (PIE X pins σ tg R) X.xe s1) X.xe s
theorem go_of{M:Model}{A:Around}{E:Value→Shared→Prop}{s:Shared}{tg:Expr}{it:Addr}{u:Value}{o:Obj}{n:String}{vs:Array Value}{Q:Unit→Shared→Prop}(ho:s.heap.get? it=some o)(hc:o.cls=.type n)(hd:o.data=.fields vs)
 (hn:["enumerate","zip","dict_itemiterator","dict_reverseitemiterator","odict_iterator","itertools.zip_longest","itertools.pairwise"].contains n=false)(hQ:Q () s):wpAny M A (letOwnedTupleGo tg (.ref it) u) Q E s:=by
 unfold letOwnedTupleGo
 cases tg<;>first
  | exact wpAny_pure hQ
  | (cases u<;>first
   | exact wpAny_pure hQ
   | (refine wpAny_bind (wpAny_load ho ?_)
      rw[hc,hd]
      show wpAny M A (if (["enumerate","zip","dict_itemiterator","dict_reverseitemiterator","odict_iterator","itertools.zip_longest","itertools.pairwise"].contains n&&vs[0]?==some (rawInt _))=true then _ else _) Q E s
      rw[if_neg (by intro h;rw[hn,Bool.false_and] at h;cases h)]
      exact wpAny_pure hQ))
def Itl(K:PySem.W.Frag)(a:Addr):It:=
 ⟨fun i H=>∃xs x,SqL K H a xs∧xs[i]?=some x,fun i H x H'=>H'=H∧∀xs,SqL K H a xs→xs[i]?=some x,fun i H=>∃xs,SqL K H a xs∧xs.length≤i⟩
def Itt(K:PySem.W.Frag)(a:Addr):It:=
 ⟨fun i H=>∃xs x,SqT K H a xs∧xs[i]?=some x,fun i H x H'=>H'=H∧∀xs,SqT K H a xs→xs[i]?=some x,fun i H=>∃xs,SqT K H a xs∧xs.length≤i⟩
def Itr(lo:Int)(n:Nat):It:=⟨fun i _=>i<n,fun i H x H'=>H'=H∧x=.int (lo+i),fun i _=>n≤i⟩
theorem turn_list{P:Program}{w:World}{K:PySem.W.Frag}{tg:Expr}(a it:Addr):Turn P w K tg (Itl K a) [it] it (fun i h=>h.IsListIter it a i) where
 mem:=by simp
 obj:=fun i h st b hb=>by
  have e:b=it:=by simpa using hb
  subst e
  obtain⟨o,e,c,d⟩:=st
  exact⟨o,e,fun v z=>by rw[d] at z;cases z⟩
 keep:=fun i h h' st k=>st.at fun o e=>k it (by simp) o e
 item:=by
  intro X hP hw hK hc i pins s σ H E I hf st hg
  subst hP hw hK
  obtain⟨xs,x,hq,hx⟩:=hg
  obtain⟨its,rv,p,hz⟩:=I.list hq
  obtain⟨u,hu,ru⟩:=rv.get hx
  obtain⟨f0,f1,f2,f3,f4,f5⟩:=hf it (by simp)
  refine wpAny_pyNext_list_item st p.isList (x:=u) (by simpa using hu) fun h' st' sb=>?_
  have I1:Inv X pins σ H { s with heap:=h' }:=I.turned (t':=s.toks) (fun b o hb e=>(sb.2 b hb).trans e) f0 f1 f3 f4 f5
  obtain⟨o,e,c,d⟩:=id st'
  exact⟨u,rfl,go_of (s:={ s with heap:=h' }) e c d (by decide) ⟨x,H,I1,ru,⟨rfl,fun ys hy=>by rw[I.list_inj hy hq];exact hx⟩,st',fun b hb=>(hf b hb).1⟩⟩
 done:=by
  intro X hP hw hK hc i pins s σ H E I hf st hg
  subst hP hw hK
  obtain⟨xs,hq,hx⟩:=hg
  obtain⟨its,rv,p,hz⟩:=I.list hq
  obtain⟨f0,f1,f2,f3,f4,f5⟩:=hf it (by simp)
  have hl:=rv.length
  exact wpAny_pyNext_list_end (I.ok.hd hc) st p.isList (by simp;omega) fun h' eb=>⟨rfl,I.turned (t':=s.toks) (fun b o hb e=>eb b o hb e) f0 f1 f3 f4 f5⟩
 self:=fun _ _ _ _ _ st h=>wpAny_pyIter_listiter st h
theorem turn_tuple{P:Program}{w:World}{K:PySem.W.Frag}{tg:Expr}(a it:Addr):Turn P w K tg (Itt K a) [it] it (fun i h=>h.IsTupleIter it a i) where
 mem:=by simp
 obj:=fun i h st b hb=>by
  have e:b=it:=by simpa using hb
  subst e
  obtain⟨o,e,c,d⟩:=st
  exact⟨o,e,fun v z=>by rw[d] at z;cases z⟩
 keep:=fun i h h' st k=>st.at fun o e=>k it (by simp) o e
 item:=by
  intro X hP hw hK hc i pins s σ H E I hf st hg
  subst hP hw hK
  obtain⟨xs,x,hq,hx⟩:=hg
  obtain⟨its,rv,p,hz⟩:=I.tuple hq
  obtain⟨u,hu,ru⟩:=rv.get hx
  obtain⟨f0,f1,f2,f3,f4,f5⟩:=hf it (by simp)
  refine wpAny_pyNext_tuple_item st (show s.heap.IsTuple a its.toArray from p) (x:=u) (by simpa using hu) fun h' st' sb=>?_
  have I1:Inv X pins σ H { s with heap:=h' }:=I.turned (t':=s.toks) (fun b o hb e=>(sb.2 b hb).trans e) f0 f1 f3 f4 f5
  obtain⟨o,e,c,d⟩:=id st'
  exact⟨u,rfl,go_of (s:={ s with heap:=h' }) e c d (by decide) ⟨x,H,I1,ru,⟨rfl,fun ys hy=>by rw[I.tuple_inj hy hq];exact hx⟩,st',fun b hb=>(hf b hb).1⟩⟩
 done:=by
  intro X hP hw hK hc i pins s σ H E I hf st hg
  subst hP hw hK
  obtain⟨xs,hq,hx⟩:=hg
  obtain⟨its,rv,p,hz⟩:=I.tuple hq
  obtain⟨f0,f1,f2,f3,f4,f5⟩:=hf it (by simp)
  have hl:=rv.length
  exact wpAny_pyNext_tuple_end (I.ok.hd hc) st (show s.heap.IsTuple a its.toArray from p) (by simp;omega) fun h' eb=>⟨rfl,I.turned (t':=s.toks) (fun b o hb e=>eb b o hb e) f0 f1 f3 f4 f5⟩
 self:=fun _ _ _ _ _ st h=>wpAny_pyIter_tupleiter st h
theorem turn_range{P:Program}{w:World}{K:PySem.W.Frag}{tg:Expr}(it:Addr)(lo:Int)(n:Nat):Turn P w K tg (Itr lo n) [it] it (fun i h=>IsRangeIter h it (lo+(i:Nat)*1) ((n:Int)-(i:Nat)) 1) where
 mem:=by simp
 obj:=fun i h st b hb=>by
  have e:b=it:=by simpa using hb
  subst e
  exact⟨_,st,fun v z=>by
   have z':Data.fields _=Data.cell v:=z
   cases z'⟩
 keep:=fun i h h' st k=>k it (by simp) _ st
 item:=by
  intro X hP hw hK hc i pins s σ H E I hf st hg
  subst hP hw hK
  obtain⟨f0,f1,f2,f3,f4,f5⟩:=hf it (by simp)
  have W:=Walks.range (prog:=X.prog) (w:=X.w) (I.ok.hd hc) it lo 1 n
  refine W.item i s _ _ hg st fun v h' tk hv st' kk=>?_
  obtain⟨t,rfl⟩:=hv
  have I1:Inv X pins σ H { s with heap:=h',toks:=tk }:=I.turned (fun b o hb e=>kk b o (by simpa using hb) e) f0 f1 f3 f4 f5
  refine⟨_,rfl,go_of (s:={ s with heap:=h',toks:=tk }) (n:="range_iterator") st' rfl rfl (by decide) ⟨.int (lo+i),H,I1,⟨t,?_⟩,⟨rfl,rfl⟩,st',fun b hb=>(hf b hb).1⟩⟩
  rw[Int.mul_one]
 done:=by
  intro X hP hw hK hc i pins s σ H E I hf st hg
  subst hP hw hK
  obtain⟨f0,f1,f2,f3,f4,f5⟩:=hf it (by simp)
  exact wpAny_pyNext_range_end (I.ok.hd hc) st (by have:n≤i:=hg;omega) fun h' eb=>⟨rfl,I.turned (t':=s.toks) (fun b o hb e=>eb b o hb e) f0 f1 f3 f4 f5⟩
 self:=fun _ _ _ _ _ st h=>wpAny_pyIter_rangeiter st h
end L2
namespace L2
open PySem PySem.Spec PyProof.Rows
section
variable{X:Cx}{tg:Expr}
def iList(K:PySem.W.Frag)(tl:TE):TI:=fun σ H R=>tl σ H fun x H1=>∃a,x=.ref a∧(∃xs,SqL K H1 a xs)∧R (Itl K a) H1
def iTup(K:PySem.W.Frag)(tl:TE):TI:=fun σ H R=>tl σ H fun x H1=>∃a,x=.ref a∧(∃xs,SqT K H1 a xs)∧R (Itt K a) H1
theorem pi_list{l:Expr}{tl:TE}(hl:PE X l tl):PI X tg l (iList X.K tl):=by
 intro pins s σ H R I h
 refine thn (hl pins s σ H _ I h) fun v s1 ⟨x,H1,I1,r1,q1⟩=>?_
 obtain⟨a,e,⟨xs,hq⟩,q⟩:=q1
 subst e
 cases r1
 obtain⟨its,rv,p,hz⟩:=I1.list hq
 refine wpAny_pyIter_list p.isList ?_
 refine⟨s1.heap.objs.size,[s1.heap.objs.size],_,_,H1,rfl,I1.kept (t':=s1.toks) fun b o e=>Heap.get?_push_of_some _ e,turn_list a _,⟨_,Heap.get?_push_size _ rfl,rfl,rfl⟩,fun b hb=>?_,q⟩
 have e:b=s1.heap.objs.size:=by simpa using hb
 subst e
 exact I1.fpOk (Nat.le_refl _) (I1.hok.fresh (Nat.le_refl _))
theorem pi_tup{l:Expr}{tl:TE}(hl:PE X l tl):PI X tg l (iTup X.K tl):=by
 intro pins s σ H R I h
 refine thn (hl pins s σ H _ I h) fun v s1 ⟨x,H1,I1,r1,q1⟩=>?_
 obtain⟨a,e,⟨xs,hq⟩,q⟩:=q1
 subst e
 cases r1
 obtain⟨its,rv,p,hz⟩:=I1.tuple hq
 refine wpAny_pyIter_tuple (show s1.heap.IsTuple a its.toArray from p) ?_
 refine⟨s1.heap.objs.size,[s1.heap.objs.size],_,_,H1,rfl,I1.kept (t':=s1.toks) fun b o e=>Heap.get?_push_of_some _ e,turn_tuple a _,⟨_,Heap.get?_push_size _ rfl,rfl,rfl⟩,fun b hb=>?_,q⟩
 have e:b=s1.heap.objs.size:=by simpa using hb
 subst e
 exact I1.fpOk (Nat.le_refl _) (I1.hok.fresh (Nat.le_refl _))
theorem range_it{pins:List (Addr×Obj)}{σ:St}{H:Hp}{s:Shared}{R:It→Hp→Prop}{E:Value→Shared→Prop}{lo hi:Int}{t u v:Tok}{tk:Nat}(I:Inv X pins σ H s)(h1: -(2^62)≤lo)(h2:lo<2^62)(h3: -(2^62)≤hi)(h4:hi<2^62)
 (q:R (Itr lo (hi-lo).toNat) H):wpAny (model X.prog X.w) X.A (pyIter (.ref s.heap.objs.size)) (PIE X pins σ tg R) E { s with heap:=s.heap.push { cls:=.type "range",data:=.fields #[.int lo t,.int hi u,.int 1 v] },toks:=tk }:=by
 refine wpAny_pyIter_range (IsRange.new ..) (small_one h1 h2 h3 h4) ?_
 have I1:Inv X pins σ H { s with heap:=s.heap.push { cls:=.type "range",data:=.fields #[.int lo t,.int hi u,.int 1 v] },toks:=tk }:=I.kept fun b o e=>Heap.get?_push_of_some _ e
 refine⟨(s.heap.push { cls:=.type "range",data:=.fields #[.int lo t,.int hi u,.int 1 v] }).objs.size,[(s.heap.push { cls:=.type "range",data:=.fields #[.int lo t,.int hi u,.int 1 v] }).objs.size],_,_,H,rfl,
  I1.kept (t':=tk) fun b o e=>Heap.get?_push_of_some _ e,turn_range _ lo (hi-lo).toNat,?_,fun b hb=>?_,q⟩
 ·have e1:lo+((0:Nat):Int)*1=lo:=by simp
  have e2:(((hi-lo).toNat:Nat):Int)-((0:Nat):Int)=Builtin.Range.rangeSize lo hi 1:=by rw[rangeSize_one];split<;>omega
  show IsRangeIter _ _ (lo+((0:Nat):Int)*1) ((((hi-lo).toNat:Nat):Int)-((0:Nat):Int)) 1
  rw[e1,e2]
  exact Heap.get?_push_size _ rfl
 ·have e:b=(s.heap.push { cls:=.type "range",data:=.fields #[.int lo t,.int hi u,.int 1 v] }).objs.size:=by simpa using hb
  subst e
  exact I1.fpOk (Nat.le_refl _) (I1.hok.fresh (Nat.le_refl _))
def iRng1(ta:TA):TI:=fun σ H R=>ta σ H fun vs H1=>∃j:Int,vs=[.int j]∧ -(2^62)≤j∧j<2^62∧R (Itr 0 j.toNat) H1
theorem pi_range1{a:Expr}{ta:TA}{p pos:Pos}(hg:Gl X "range")(hm:X.mg "range"=none)(ha:PA X [a] ta)(hs:starEach [a] X.env=[(false,eval a X.env)]:=by rfl):PI X tg (.Call (.Name "range" p) [a] [] pos) (iRng1 ta):=by
 intro pins s σ H R I h
 refine Call_ (ld_blt I hg hm boot_range (PyProof.Rows.callWith_type1 (thn (ha pos pins s σ H _ I h) fun us s1 ⟨vs,H1,I1,r1,q1⟩=>?_) hs rfl))
 obtain⟨j,e,q1,q2,q⟩:=q1
 subst e
 cases r1 with
 | cons r rr=>
  cases rr
  obtain⟨t,rfl⟩:=r
  exact call_range_1 (range_it I1 (by omega) (by omega) q1 q2 (by simpa using q))
def tFor(wi:TI)(g:TG)(tb:TS):TS:=fun D σ H=>wi σ H fun J H1=>∃W:Nat→Nat→St→Hp→Prop,(∃m,W 0 m σ H1)∧∀i m σ H,W i m σ H→
 (J.stop i H∧D.nx σ H)∨(J.go i H∧∃N:St→Hp→Prop,(∀σ' H',N σ' H'→∃m',m'<m∧W (i+1) m' σ' H')∧∀x H',J.yld i H x H'→g x σ H' fun σ2 H2=>tb { D with nx:=N,ct:=N,bk:=D.nx } σ2 H2)
def pinsAt(fp:List Addr)(h:Heap):List (Addr×Obj):=fp.filterMap fun b=>(h.get? b).map fun o=>(b,o)
theorem mem_pinsAt{fp:List Addr}{h:Heap}{b:Addr}{o:Obj}(hb:b∈fp)(e:h.get? b=some o):(b,o)∈pinsAt fp h:=List.mem_filterMap.mpr ⟨b,hb,by rw[e];rfl⟩
theorem of_pinsAt{fp:List Addr}{h:Heap}{p:Addr×Obj}(hp:p∈pinsAt fp h):p.1∈fp∧h.get? p.1=some p.2:=by
 obtain⟨b,hb,e⟩:=List.mem_filterMap.mp hp
 cases q:h.get? b with
 | none=>rw[q] at e;cases e
 | some o=>
  rw[q] at e
  have e':(b,o)=p:=Option.some.inj e
  subst e'
  exact⟨hb,q⟩
theorem Inv.pinned{pins:List (Addr×Obj)}{σ:St}{H:Hp}{s:Shared}{fp:List Addr}(I:Inv X pins σ H s)(hf:∀b∈fp,FpOk X pins H b)(ho:∀b∈fp,∃o,s.heap.get? b=some o∧∀v,o.data≠.cell v):Inv X (pins++pinsAt fp s.heap) σ H s:=
 I.pins_of fun p hp=>(List.mem_append.mp hp).elim (fun z=>I.pin p (List.mem_append_right _ z)) fun z=>by
  obtain⟨hb,e⟩:=of_pinsAt z
  obtain⟨f0,f1,f2,_⟩:=hf p.1 hb
  obtain⟨o,e',d⟩:=ho p.1 hb
  rw[e] at e';cases e'
  exact⟨e,f0,f1,f2,d⟩
theorem Inv.unpinned{pins pl:List (Addr×Obj)}{σ:St}{H:Hp}{s:Shared}(I:Inv X (pins++pl) σ H s):Inv X pins σ H s:=I.pins_of fun p hp=>I.pin p (List.mem_append_right _ (List.mem_append_left _ hp))
theorem ps_for{iter:Expr}{body:List Stmt}{wi:TI}{g:TG}{tb:TS}{pos:Pos}(hp:PassesOwn (model X.prog X.w) X.A X.env X.xe)(hc:X.calm=true)(hi:PI X tg iter wi)(hg:PG X tg g)(hb:PSs X body tb)
 (hs:∀x,foldedSetIterable iter X.env x=pure x:=by intro _;rfl):PS X (.For tg iter body [] pos) (tFor wi g tb):=by
 intro pins s σ H D I h
 refine wpAny_For (thn (hi pins s σ H _ I h) fun v s1 h1=>thn h1 fun itv s2 h2=>?_) hs
 obtain⟨it,fp,tn,J,H2,e,I2,T,st2,f2,W,⟨m0,w0⟩,turn⟩:=h2
 subst e
 have stat:∀{H':Hp},(∀b∈fp,H' b=none)→∀b∈fp,FpOk X pins H' b:=fun hn b hb=>⟨hn b hb,(f2 b hb).2⟩
 refine codeAny_forLoop_any (fun n s'=>∃i σ' H',Inv X pins σ' H' s'∧tn i s'.heap∧(∀b∈fp,H' b=none)∧W i n σ' H') ?_ m0 ⟨0,σ,H2,I2,st2,fun b hb=>(f2 b hb).1,w0⟩
 rintro n s3 ⟨i,σ3,H3,I3,st3,fr3,w3⟩
 rcases turn i n σ3 H3 w3 with ⟨stop,qn⟩ | ⟨go,N,hN,step⟩
 ·refine wpAny_passesOwn hp (thn (T.done X rfl rfl rfl hc i pins s3 σ3 H3 X.xe I3 (stat fr3) st3 stop) fun r s4 ⟨hr,I4⟩=>?_)
  subst hr
  exact wpAny_execs_nil ⟨σ3,H3,I4,qn⟩
 ·refine wpAny_passesOwn hp (thn (T.item X rfl rfl rfl hc i pins s3 σ3 H3 X.xe I3 (stat fr3) st3 go) fun r s4 ⟨u,hr,h4⟩=>?_)
  subst hr
  refine wpAny_passesOwn hp (thn h4 fun _ s5 ⟨x,H5,I5,r5,y5,st5,fr5⟩=>?_)
  have I5':=I5.pinned (stat fr5) (T.obj _ _ st5)
  refine wpAny_passesOwn hp (thn (hg _ s5 σ3 H5 x u _ I5' r5 (step x H5 y5)) fun _ s6 ⟨σ6,H6,I6,q6⟩=>?_)
  refine wpAny_passesOwn hp (thn (hb _ s6 σ6 H6 _ I6 q6) fun f s7 q7=>?_)
  have again:∀{σ7:St} {H7:Hp},Inv X (pins++pinsAt fp s5.heap) σ7 H7 s7→N σ7 H7→∃m,m<n∧∃i σ' H',Inv X pins σ' H' s7∧tn i s7.heap∧(∀b∈fp,H' b=none)∧W i m σ' H':=fun{σ7 H7} I7 n7=>by
   obtain⟨m',hm,w7⟩:=hN σ7 H7 n7
   refine⟨m',hm,i+1,σ7,H7,I7.unpinned,T.keep _ _ _ st5 fun b hb o e=>(I7.pin (b,o) (List.mem_append_right _ (List.mem_append_right _ (mem_pinsAt hb e)))).1,fun b hb=>?_,w7⟩
   obtain⟨o,e,d⟩:=T.obj _ _ st5 b hb
   exact(I7.pin (b,o) (List.mem_append_right _ (List.mem_append_right _ (mem_pinsAt hb e)))).2.1
  cases f with
  | next=>obtain⟨σ7,H7,I7,n7⟩:=q7;exact again I7 n7
  | cont=>obtain⟨σ7,H7,I7,n7⟩:=q7;exact again I7 n7
  | brk=>obtain⟨σ7,H7,I7,q7⟩:=q7;exact⟨σ7,H7,I7.unpinned,q7⟩
  | ret v=>obtain⟨x7,σ7,H7,I7,r7,q7⟩:=q7;exact⟨x7,σ7,H7,I7.unpinned,r7,q7⟩
end
theorem for_list{K:PySem.W.Frag}{a:Addr}{xs:List V}{g:TG}{tb:TS}{D:Ends}{σ:St}{H:Hp}(Pv:Nat→St→Hp→Prop)(h0:Pv 0 σ H)(hl:∀i σ H,i≤xs.length→Pv i σ H→SqL K H a xs)
 (hs:∀i x σ H,xs[i]?=some x→Pv i σ H→g x σ H fun σ2 H2=>tb { D with nx:=Pv (i+1),ct:=Pv (i+1),bk:=D.nx } σ2 H2)(hd:∀σ H,Pv xs.length σ H→D.nx σ H):
 ∃W:Nat→Nat→St→Hp→Prop,(∃m,W 0 m σ H)∧∀i m σ H,W i m σ H→
  ((Itl K a).stop i H∧D.nx σ H)∨((Itl K a).go i H∧∃N:St→Hp→Prop,(∀σ' H',N σ' H'→∃m',m'<m∧W (i+1) m' σ' H')∧∀x H',(Itl K a).yld i H x H'→g x σ H' fun σ2 H2=>tb { D with nx:=N,ct:=N,bk:=D.nx } σ2 H2):=by
 refine⟨fun i m σ H=>m=xs.length-i∧i≤xs.length∧Pv i σ H,⟨xs.length,by simp,Nat.zero_le _,h0⟩,?_⟩
 rintro i m σ H ⟨rfl,hi,p⟩
 have q:=hl i σ H hi p
 by_cases hlt:i<xs.length
 ·refine .inr ⟨⟨xs,xs[i],q,by simp[hlt]⟩,Pv (i+1),fun σ' H' p'=>⟨xs.length-(i+1),by omega,rfl,hlt,p'⟩,fun x H' y=>?_⟩
  obtain⟨e,y⟩:=y
  subst e
  exact hs i x σ _ (y xs q) p
 ·have e:i=xs.length:=by omega
  subst e
  exact .inl ⟨⟨xs,q,Nat.le_refl _⟩,hd σ H p⟩
theorem for_tup{K:PySem.W.Frag}{a:Addr}{xs:List V}{g:TG}{tb:TS}{D:Ends}{σ:St}{H:Hp}(Pv:Nat→St→Hp→Prop)(h0:Pv 0 σ H)(hl:∀i σ H,i≤xs.length→Pv i σ H→SqT K H a xs)
 (hs:∀i x σ H,xs[i]?=some x→Pv i σ H→g x σ H fun σ2 H2=>tb { D with nx:=Pv (i+1),ct:=Pv (i+1),bk:=D.nx } σ2 H2)(hd:∀σ H,Pv xs.length σ H→D.nx σ H):
 ∃W:Nat→Nat→St→Hp→Prop,(∃m,W 0 m σ H)∧∀i m σ H,W i m σ H→
  ((Itt K a).stop i H∧D.nx σ H)∨((Itt K a).go i H∧∃N:St→Hp→Prop,(∀σ' H',N σ' H'→∃m',m'<m∧W (i+1) m' σ' H')∧∀x H',(Itt K a).yld i H x H'→g x σ H' fun σ2 H2=>tb { D with nx:=N,ct:=N,bk:=D.nx } σ2 H2):=by
 refine⟨fun i m σ H=>m=xs.length-i∧i≤xs.length∧Pv i σ H,⟨xs.length,by simp,Nat.zero_le _,h0⟩,?_⟩
 rintro i m σ H ⟨rfl,hi,p⟩
 have q:=hl i σ H hi p
 by_cases hlt:i<xs.length
 ·refine .inr ⟨⟨xs,xs[i],q,by simp[hlt]⟩,Pv (i+1),fun σ' H' p'=>⟨xs.length-(i+1),by omega,rfl,hlt,p'⟩,fun x H' y=>?_⟩
  obtain⟨e,y⟩:=y
  subst e
  exact hs i x σ _ (y xs q) p
 ·have e:i=xs.length:=by omega
  subst e
  exact .inl ⟨⟨xs,q,Nat.le_refl _⟩,hd σ H p⟩
theorem for_range{lo:Int}{n:Nat}{g:TG}{tb:TS}{D:Ends}{σ:St}{H:Hp}(Pv:Nat→St→Hp→Prop)(h0:Pv 0 σ H)
 (hs:∀i σ H,i<n→Pv i σ H→g (.int (lo+i)) σ H fun σ2 H2=>tb { D with nx:=Pv (i+1),ct:=Pv (i+1),bk:=D.nx } σ2 H2)(hd:∀σ H,Pv n σ H→D.nx σ H):
 ∃W:Nat→Nat→St→Hp→Prop,(∃m,W 0 m σ H)∧∀i m σ H,W i m σ H→
  ((Itr lo n).stop i H∧D.nx σ H)∨((Itr lo n).go i H∧∃N:St→Hp→Prop,(∀σ' H',N σ' H'→∃m',m'<m∧W (i+1) m' σ' H')∧∀x H',(Itr lo n).yld i H x H'→g x σ H' fun σ2 H2=>tb { D with nx:=N,ct:=N,bk:=D.nx } σ2 H2):=by
 refine⟨fun i m σ H=>m=n-i∧i≤n∧Pv i σ H,⟨n,by simp,Nat.zero_le _,h0⟩,?_⟩
 rintro i m σ H ⟨rfl,hi,p⟩
 by_cases hlt:i<n
 ·refine .inr ⟨hlt,Pv (i+1),fun σ' H' p'=>⟨n-(i+1),by omega,rfl,hlt,p'⟩,fun x H' y=>?_⟩
  obtain⟨e,y⟩:=y
  subst e y
  exact hs i σ _ hlt p
 ·have e:i=n:=by omega
  subst e
  exact .inl ⟨Nat.le_refl _,hd σ H p⟩
end L2
namespace L2
open PySem PySem.Spec PyProof.Rows
abbrev R2:=V→V→Hp→VK→Prop
def OpR(X:Cx)(f:Value→Value→Sem Value)(r:R2):Prop:=
 ∀(pins:List (Addr×Obj)) (s:Shared) (σ:St) (H:Hp) (x y:V) (v u:Value) (Q:VK),Inv X pins σ H s→RelV x v→RelV y u→r x y H Q→
  wpAny (model X.prog X.w) X.A (f v u) (EP X pins σ Q) X.xe s
def UnR(X:Cx)(f:Value→Sem Value)(r:V→Hp→VK→Prop):Prop:=
 ∀(pins:List (Addr×Obj)) (s:Shared) (σ:St) (H:Hp) (x:V) (v:Value) (Q:VK),Inv X pins σ H s→RelV x v→r x H Q→
  wpAny (model X.prog X.w) X.A (f v) (EP X pins σ Q) X.xe s
def CallR(X:Cx)(f:Value)(r:List V→Hp→VK→Prop):Prop:=
 ∀(pins:List (Addr×Obj)) (s:Shared) (σ:St) (H:Hp) (xs:List V) (us:List Value) (Q:VK),Inv X pins σ H s→Vals xs us→r xs H Q→
  wpAny (model X.prog X.w) X.A (call f us) (EP X pins σ Q) X.xe s
def tOp(r:R2)(ta tb:TE):TE:=fun σ H Q=>ta σ H fun x H1=>tb σ H1 fun y H2=>r x y H2 Q
def tUn(r:V→Hp→VK→Prop)(ta:TE):TE:=fun σ H Q=>ta σ H fun x H1=>r x H1 Q
def rI(C:Int→Int→Prop)(g:Int→Int→V):R2:=fun x y H Q=>∃i j,x=.int i∧y=.int j∧C i j∧Q (g i j) H
def rI0(g:Int→Int→V):R2:=fun x y H Q=>∃i j,x=.int i∧y=.int j∧Q (g i j) H
def rU(g:Int→V):V→Hp→VK→Prop:=fun x H Q=>∃i,x=.int i∧Q (g i) H
section
variable{X:Cx}{a b c:Expr}{ta tb tc:TE}{pos:Pos}
theorem binT(ha:PE X a ta)(hb:PE X b tb){pins:List (Addr×Obj)}{s:Shared}{σ:St}{H:Hp}{R:V→V→Hp→Prop}(I:Inv X pins σ H s)
 (h:ta σ H fun x H1=>tb σ H1 fun y H2=>R x y H2){Q:Value→Shared→Prop}{f:Value→Value→Sem Value}
 (hf:∀v u s2 x y H2,Inv X pins σ H2 s2→RelV x v→RelV y u→R x y H2→wpAny (model X.prog X.w) X.A (f v u) Q X.xe s2):
 wpAny (model X.prog X.w) X.A (eval a X.env) (fun v s₁=>wpAny (model X.prog X.w) X.A (eval b X.env) (fun u s₂=>wpAny (model X.prog X.w) X.A (f v u) Q X.xe s₂) X.xe s₁) X.xe s:=by
 refine thn (ha pins s σ H _ I h) fun v s1 ⟨x,H1,I1,r1,q1⟩=>?_
 refine thn (hb pins s1 σ H1 _ I1 q1) fun u s2 ⟨y,H2,I2,r2,q2⟩=>?_
 exact hf v u s2 x y H2 I2 r1 r2 q2
theorem pe_op{op:Operator}{r:R2}(ho:OpR X (binaryOp op) r)(ha:PE X a ta)(hb:PE X b tb):PE X (.BinOp a op b pos) (tOp r ta tb):=by
 intro pins s σ H Q I h
 exact wpAny_BinOp (binT ha hb I h fun v u s2 x y H2 I2 rx ry q=>ho pins s2 σ H2 x y v u Q I2 rx ry q)
theorem pe_un{op:UnaryOp}{r:V→Hp→VK→Prop}(ho:UnR X (unaryOp op) r)(ha:PE X a ta):PE X (.UnaryOp op a pos) (tUn r ta):=by
 intro pins s σ H Q I h
 exact UnaryOp_ (thn (ha pins s σ H _ I h) fun v s1 ⟨x,H1,I1,r1,q1⟩=>ho pins s1 σ H1 x v Q I1 r1 q1)
theorem opI{f:Value→Value→Sem Value}{C:Int→Int→Prop}{g:Int→Int→Int}
 (rule:∀(i j:Int) (t u:Tok) (s:Shared) (Q:Value→Shared→Prop) (E:Value→Shared→Prop),C i j→Q (.int (g i j) s.toks) { s with toks:=s.toks+1 }→wpAny (model X.prog X.w) X.A (f (.int i t) (.int j u)) Q E s):
 OpR X f (rI C fun i j=>.int (g i j)):=by
 intro pins s σ H x y v u Q I rx ry h
 obtain⟨i,j,rfl,rfl,hc,q⟩:=h
 obtain⟨t,rfl⟩:=rx
 obtain⟨t',rfl⟩:=ry
 exact rule i j t t' s _ _ hc ⟨.int (g i j),H,I.tok _,⟨_,rfl⟩,q⟩
theorem opI0{f:Value→Value→Sem Value}{g:Int→Int→Int}
 (rule:∀(i j:Int) (t u:Tok) (s:Shared) (Q:Value→Shared→Prop) (E:Value→Shared→Prop),Q (.int (g i j) s.toks) { s with toks:=s.toks+1 }→wpAny (model X.prog X.w) X.A (f (.int i t) (.int j u)) Q E s):
 OpR X f (rI0 fun i j=>.int (g i j)):=by
 intro pins s σ H x y v u Q I rx ry h
 obtain⟨i,j,rfl,rfl,q⟩:=h
 obtain⟨t,rfl⟩:=rx
 obtain⟨t',rfl⟩:=ry
 exact rule i j t t' s _ _ ⟨.int (g i j),H,I.tok _,⟨_,rfl⟩,q⟩
theorem opB0{f:Value→Value→Sem Value}{g:Int→Int→Bool}
 (rule:∀(i j:Int) (t u:Tok) (s:Shared) (Q:Value→Shared→Prop) (E:Value→Shared→Prop),Q (.bool (g i j)) s→wpAny (model X.prog X.w) X.A (f (.int i t) (.int j u)) Q E s):
 OpR X f (rI0 fun i j=>.bl (g i j)):=by
 intro pins s σ H x y v u Q I rx ry h
 obtain⟨i,j,rfl,rfl,q⟩:=h
 obtain⟨t,rfl⟩:=rx
 obtain⟨t',rfl⟩:=ry
 exact rule i j t t' s _ _ ⟨.bl (g i j),H,I,rfl,q⟩
def CPow(i j:Int):Prop:=0≤j∧j≤1000000∧i.natAbs<2^64
def CMul(i j:Int):Prop:=(-(2^64)<i∧i<2^64)∨(-(2^64)<j∧j<2^64)
theorem CMul.ok{i j:Int}(h:CMul i j):IntMulOk i j:=by
 rcases h with ⟨h1,h2⟩ | ⟨h1,h2⟩
 ·exact .of_left (intBits_le_64 h1 h2)
 ·exact .of_right (intBits_le_64 h1 h2)
theorem op_add:OpR X (binaryOp .Add) (rI0 fun i j=>.int (i+j)):=opI0 fun _ _ _ _ _ _ _ q=>add_int q
theorem op_sub:OpR X (binaryOp .Sub) (rI0 fun i j=>.int (i-j)):=opI0 fun _ _ _ _ _ _ _ q=>sub_int q
theorem op_mod:OpR X (binaryOp .Mod) (rI (fun _ j=>0<j) fun i j=>.int (i%j)):=opI fun i j _ _ _ _ _ hc q=>by
 have h1:(0:Int)<j:=hc
 exact mod_int' (by omega) (by rw[Int.fmod_eq_emod_of_nonneg i (by omega)];exact q)
theorem op_pow:OpR X (binaryOp .Pow) (rI CPow fun i j=>.int (i^j.toNat)):=opI fun _ _ _ _ _ _ _ hc q=>pow_int_small hc.1 hc.2.1 hc.2.2 q
theorem op_and:OpR X (binaryOp .BitAnd) (rI0 fun i j=>.int (Builtin.bitAnd i j)):=opI0 fun _ _ _ _ _ _ _ q=>and_int q
theorem op_or:OpR X (binaryOp .BitOr) (rI0 fun i j=>.int (Builtin.bitOr i j)):=opI0 fun _ _ _ _ _ _ _ q=>or_int q
theorem op_xor:OpR X (binaryOp .BitXor) (rI0 fun i j=>.int (Builtin.bitXor i j)):=opI0 fun _ _ _ _ _ _ _ q=>xor_int q
theorem unI{f:Value→Sem Value}{g:Int→Int}
 (rule:∀(i:Int) (t:Tok) (s:Shared) (Q:Value→Shared→Prop) (E:Value→Shared→Prop),Q (.int (g i) s.toks) { s with toks:=s.toks+1 }→wpAny (model X.prog X.w) X.A (f (.int i t)) Q E s):
 UnR X f (rU fun i=>.int (g i)):=by
 intro pins s σ H x v Q I rx h
 obtain⟨i,rfl,q⟩:=h
 obtain⟨t,rfl⟩:=rx
 exact rule i t s _ _ ⟨.int (g i),H,I.tok _,⟨_,rfl⟩,q⟩
theorem un_neg:UnR X (unaryOp .USub) (rU fun i=>.int (-i)):=unI fun _ _ _ _ _ q=>neg_int q
end
def scal:V→V→Bool
 | .non,.non=>true | .non,.int _=>true | .int _,.non=>true | .non,.bl _=>true | .bl _,.non=>true | .non,.str _=>true | .str _,.non=>true
 | .int _,.int _=>true | .bl _,.bl _=>true | .str _,.str _=>true | .byt _,.byt _=>true
 | .int _,.str _=>true | .str _,.int _=>true | .bl _,.str _=>true | .str _,.bl _=>true
 | _,_=>false
def rEq:R2:=fun x y H Q=>scal x y=true∧Q (.bl (decide (x=y))) H
def rNe:R2:=fun x y H Q=>scal x y=true∧Q (.bl (!decide (x=y))) H
theorem dec_int{i j:Int}:decide (V.int i=V.int j)=(i==j):=by
 rw[Bool.eq_iff_iff]
 simp
theorem dec_bl{i j:Bool}:decide (V.bl i=V.bl j)=(i==j):=by
 rw[Bool.eq_iff_iff]
 simp
theorem dec_str{i j:Str}:decide (V.str i=V.str j)=(i==j):=by
 rw[Bool.eq_iff_iff]
 simp
theorem dec_byt{i j:Array UInt8}:decide (V.byt i=V.byt j)=(i.toList==j.toList):=by
 rw[Bool.eq_iff_iff]
 cases i
 cases j
 simp
section
variable{X:Cx}{a b c:Expr}{ta tb tc:TE}{pos:Pos}
theorem fin_bl{pins:List (Addr×Obj)}{σ:St}{H:Hp}{s:Shared}{Q:VK}{k k':Bool}(I:Inv X pins σ H s)(q:Q (.bl k) H)(e:k=k'):EP X pins σ Q (.bool k') s:=by
 subst e
 exact⟨.bl k,H,I,rfl,q⟩
theorem op_eq:OpR X (compareOp .Eq) rEq:=by
 intro pins s σ H x y v u Q I rx ry h
 obtain⟨hs,q⟩:=h
 cases x with
 | non=>
  cases rx
  cases y with
  | non=>cases ry;exact PySem.EqNone.eq_none_none (fin_bl I q (by simp))
  | bl j=>cases ry;exact PySem.EqNone.eq_none_bool (fin_bl I q (by simp))
  | int j=>obtain⟨t',rfl⟩:=ry;exact PySem.EqNone.eq_none_int (fin_bl I q (by simp))
  | str j=>obtain⟨t',rfl⟩:=ry;exact PySem.EqNone.eq_none_str (fin_bl I q (by simp))
  | _=>exact absurd (show false=true from hs) Bool.false_ne_true
 | bl i=>
  cases rx
  cases y with
  | non=>cases ry;exact PySem.EqNone.eq_bool_none (fin_bl I q (by simp))
  | bl j=>cases ry;exact eq_bool (fin_bl I q dec_bl)
  | str j=>obtain⟨t',rfl⟩:=ry;exact PySem.EqMixed.eq_bool_str (fin_bl I q (by simp))
  | _=>exact absurd (show false=true from hs) Bool.false_ne_true
 | int i=>
  obtain⟨t,rfl⟩:=rx
  cases y with
  | non=>cases ry;exact PySem.EqNone.eq_int_none (fin_bl I q (by simp))
  | int j=>obtain⟨t',rfl⟩:=ry;exact eq_int (fin_bl I q dec_int)
  | str j=>obtain⟨t',rfl⟩:=ry;exact PySem.EqMixed.eq_int_str (fin_bl I q (by simp))
  | _=>exact absurd (show false=true from hs) Bool.false_ne_true
 | str i=>
  obtain⟨t,rfl⟩:=rx
  cases y with
  | non=>cases ry;exact PySem.EqNone.eq_str_none (fin_bl I q (by simp))
  | bl j=>cases ry;exact PySem.EqMixed.eq_str_bool (fin_bl I q (by simp))
  | int j=>obtain⟨t',rfl⟩:=ry;exact PySem.EqMixed.eq_str_int (fin_bl I q (by simp))
  | str j=>obtain⟨t',rfl⟩:=ry;exact eq_str (fin_bl I q dec_str)
  | _=>exact absurd (show false=true from hs) Bool.false_ne_true
 | byt i=>
  obtain⟨t,rfl⟩:=rx
  cases y with
  | byt j=>obtain⟨t',rfl⟩:=ry;exact PySem.W.eq_bytes (fin_bl I q dec_byt)
  | _=>exact absurd (show false=true from hs) Bool.false_ne_true
 | _=>cases y<;>exact absurd (show false=true from hs) Bool.false_ne_true
theorem op_ne:OpR X (compareOp .NotEq) rNe:=by
 intro pins s σ H x y v u Q I rx ry h
 obtain⟨hs,q⟩:=h
 cases x with
 | non=>
  cases rx
  cases y with
  | non=>cases ry;exact PySem.EqNone.ne_none_none (fin_bl I q (by simp))
  | bl j=>cases ry;exact PySem.EqNone.ne_none_bool (fin_bl I q (by simp))
  | int j=>obtain⟨t',rfl⟩:=ry;exact PySem.EqNone.ne_none_int (fin_bl I q (by simp))
  | str j=>obtain⟨t',rfl⟩:=ry;exact PySem.EqNone.ne_none_str (fin_bl I q (by simp))
  | _=>exact absurd (show false=true from hs) Bool.false_ne_true
 | bl i=>
  cases rx
  cases y with
  | non=>cases ry;exact PySem.EqNone.ne_bool_none (fin_bl I q (by simp))
  | bl j=>cases ry;exact ne_bool (fin_bl I q (congrArg not dec_bl))
  | str j=>obtain⟨t',rfl⟩:=ry;exact PySem.EqMixed.ne_bool_str (fin_bl I q (by simp))
  | _=>exact absurd (show false=true from hs) Bool.false_ne_true
 | int i=>
  obtain⟨t,rfl⟩:=rx
  cases y with
  | non=>cases ry;exact PySem.EqNone.ne_int_none (fin_bl I q (by simp))
  | int j=>obtain⟨t',rfl⟩:=ry;exact ne_int (fin_bl I q (congrArg not dec_int))
  | str j=>obtain⟨t',rfl⟩:=ry;exact PySem.EqMixed.ne_int_str (fin_bl I q (by simp))
  | _=>exact absurd (show false=true from hs) Bool.false_ne_true
 | str i=>
  obtain⟨t,rfl⟩:=rx
  cases y with
  | non=>cases ry;exact PySem.EqNone.ne_str_none (fin_bl I q (by simp))
  | bl j=>cases ry;exact PySem.EqMixed.ne_str_bool (fin_bl I q (by simp))
  | int j=>obtain⟨t',rfl⟩:=ry;exact PySem.EqMixed.ne_str_int (fin_bl I q (by simp))
  | str j=>obtain⟨t',rfl⟩:=ry;exact ne_str (fin_bl I q (congrArg not dec_str))
  | _=>exact absurd (show false=true from hs) Bool.false_ne_true
 | byt i=>
  obtain⟨t,rfl⟩:=rx
  cases y with
  | byt j=>obtain⟨t',rfl⟩:=ry;exact PySem.W.ne_bytes (fin_bl I q (congrArg not dec_byt))
  | _=>exact absurd (show false=true from hs) Bool.false_ne_true
 | _=>cases y<;>exact absurd (show false=true from hs) Bool.false_ne_true
theorem op_lt:OpR X (compareOp .Lt) (rI0 fun i j=>.bl (decide (i<j))):=opB0 fun _ _ _ _ _ _ _ q=>lt_int q
theorem op_le:OpR X (compareOp .LtE) (rI0 fun i j=>.bl (decide (i≤j))):=opB0 fun _ _ _ _ _ _ _ q=>le_int q
theorem op_gt:OpR X (compareOp .Gt) (rI0 fun i j=>.bl (decide (j<i))):=opB0 fun _ _ _ _ _ _ _ q=>gt_int q
theorem op_in_str:OpR X (compareOp .In) (fun x y H Q=>∃i j,x=.str i∧y=.str j∧Q (.bl (!(Builtin.Str.occurrences j i 0 j.length 1).isEmpty)) H):=by
 intro pins s σ H x y v u Q I rx ry h
 obtain⟨i,j,rfl,rfl,q⟩:=h
 obtain⟨t,rfl⟩:=rx
 obtain⟨t',rfl⟩:=ry
 exact in_str (fin_bl I q rfl)
theorem op_isN:OpR X (compareOp .Is) (fun x y H Q=>y=.non∧Q (.bl (decide (x=.non))) H):=by
 intro pins s σ H x y v u Q I rx ry h
 obtain⟨rfl,q⟩:=h
 cases ry
 refine is_none_gen (fin_bl I q ?_)
 cases x<;>first
  | (cases rx;rfl)
  | (obtain ⟨t,rfl⟩:=rx;rfl)
theorem OpR.or{f:Value→Value→Sem Value}{r r':R2}(h:OpR X f r)(h':OpR X f r'):OpR X f (fun x y H Q=>r x y H Q∨r' x y H Q):=by
 intro pins s σ H x y v u Q I rx ry q
 rcases q with q | q
 ·exact h pins s σ H x y v u Q I rx ry q
 ·exact h' pins s σ H x y v u Q I rx ry q
theorem nomark(b:Expr){op:CmpOp}(h:op≠.In:=by decide)(h2:op≠.NotIn:=by decide):behindInMarks op b=false:=by
 have e1:(op==CmpOp.In)=false:=by cases op<;>first | rfl | exact absurd rfl h
 have e2:(op==CmpOp.NotIn)=false:=by cases op<;>first | rfl | exact absurd rfl h2
 cases b<;>simp[behindInMarks,e1,e2]
theorem pe_cmpR{op:CmpOp}{r:R2}(ho:OpR X (compareOp op) r)(ha:PE X a ta)(hb:PE X b tb)(hm:behindInMarks op b=false):PE X (.Compare a [op] [b] pos) (tOp r ta tb):=by
 intro pins s σ H Q I h
 exact wpAny_Compare1 (binT ha hb I h fun v u s2 x y H2 I2 rx ry q=>ho pins s2 σ H2 x y v u Q I2 rx ry q) hm
def tTest(t:TE):TT:=fun σ H Q=>t σ H fun x H'=>∃k,x=.bl k∧Q k H'
theorem pt_cmpR{op:CmpOp}{r:R2}(ho:OpR X (compareOp op) r)(ha:PE X a ta)(hb:PE X b tb)(hm:behindInMarks op b=false):PT X (.Compare a [op] [b] pos) (tTest (tOp r ta tb)):=by
 intro pins s σ H Q I h
 refine wpAny_isTrue_Compare1 (thn (ha pins s σ H _ I h) fun v s1 ⟨x,H1,I1,r1,q1⟩=>thn (hb pins s1 σ H1 _ I1 q1) fun u s2 ⟨y,H2,I2,r2,q2⟩=>
  thn (ho pins s2 σ H2 x y v u _ I2 r1 r2 q2) fun c s3 ⟨z,H3,I3,r3,k,e,q3⟩=>?_) hm
 subst e
 cases r3
 exact wpAny_truthy_bool ⟨H3,I3,q3⟩
def tChain(r r':R2)(ta tb tc:TE):TE:=fun σ H Q=>ta σ H fun x H1=>tb σ H1 fun y H2=>r x y H2 fun z H3=>∃k,z=.bl k∧
 (if k=true then tc σ H3 fun w' H4=>r' y w' H4 Q else Q (.bl false) H3)
theorem pe_chain{op op':CmpOp}{r r':R2}(ho:OpR X (compareOp op) r)(ho':OpR X (compareOp op') r')(ha:PE X a ta)(hb:PE X b tb)(hc:PE X c tc)
 (hm:lastMarks [op,op'] [b,c]=false:=by with_unfolding_all rfl):PE X (.Compare a [op,op'] [b,c] pos) (tChain r r' ta tb tc):=by
 intro pins s σ H Q I h
 refine Compare_chain (thn (ha pins s σ H _ I h) fun v s1 ⟨x,H1,I1,r1,q1⟩=>chain_link (thn (hb pins s1 σ H1 _ I1 q1) fun u s2 ⟨y,H2,I2,r2,q2⟩=>
  thn (ho pins s2 σ H2 x y v u _ I2 r1 r2 q2) fun d s3 ⟨z,H3,I3,r3,k,e,q3⟩=>?_)) hm
 subst e
 cases r3
 refine wpAny_truthy_bool ?_
 cases k with
 | false=>exact ite_ff ⟨.bl false,H3,I3,rfl,q3⟩
 | true=>exact ite_tt (chain_last (thn (hc pins s3 σ H3 _ I3 q3) fun w' s4 ⟨z',H4,I4,r4,q4⟩=>ho' pins s4 σ H4 y z' u w' Q I4 r2 r4 q4))
theorem line63:(sizeLine:Nat)<2^63:=by rw[sizeLine_eq];decide
theorem op_add_str:OpR X (binaryOp .Add) (fun x y H Q=>∃i j,x=.str i∧y=.str j∧i.length+j.length≤sizeLine∧Q (.str (i++j)) H):=by
 intro pins s σ H x y v u Q I rx ry h
 obtain⟨i,j,rfl,rfl,hz,q⟩:=h
 obtain⟨t,rfl⟩:=rx
 obtain⟨t',rfl⟩:=ry
 exact add_str (fun t' tk=>⟨.str (i++j),H,I.tok _,⟨_,rfl⟩,q⟩) hz
theorem vals1{x:V}{us:List Value}(r:Vals [x] us):∃u,us=[u]∧RelV x u:=by
 cases r with
 | cons r1 r2=>cases r2;exact⟨_,rfl,r1⟩
theorem vals2{x y:V}{us:List Value}(r:Vals [x,y] us):∃u w',us=[u,w']∧RelV x u∧RelV y w':=by
 cases r with
 | cons r1 r2=>
  cases r2 with
  | cons r3 r4=>cases r4;exact⟨_,_,rfl,r1,r3⟩
theorem call_str_int:CallR X (.type "str") (fun xs H Q=>∃i,xs=[.int i]∧i.natAbs.log2<1920∧Q (.str (toString i)) H):=by
 intro pins s σ H xs us Q I r h
 obtain⟨i,rfl,hz,q⟩:=h
 obtain⟨u,rfl,t,rfl⟩:=vals1 r
 exact PySem.P.str_of_int hz ⟨.str _,H,I.tok _,⟨_,rfl⟩,q⟩
end
end L2
namespace L2
open PySem PySem.Spec PyProof.Rows
structure ObjM(h:Heap)(x dx C:Addr)(mA:Str→Option Value):Prop where
 obj:h.get? x=some (PySem.W.instObj C dx)
 ns:h.Ns1 dx mA
 ne:dx≠x
theorem lookIn_ns{h:Heap}{dx:Addr}{mA:Str→Option Value}(n:h.Ns1 dx mA):∃od,h.get? dx=some od∧∀name,PySem.W.lookIn name od=some (mA name):=by
 obtain⟨o,es,ep,ho,hd,hk,_,hm⟩:=n
 refine⟨o,ho,fun name=>?_⟩
 have e:=hm name
 unfold nsFind findBy at e
 rw[←Array.find?_toList] at e
 unfold PySem.W.lookIn
 rw[hd]
 dsimp only
 split
 ·rename_i y q
  rw[q] at e
  exact congrArg some e
 ·rename_i q
  rw[q] at e
  have a:es.toList.any (·.refKey)=false:=by
   rw[List.any_eq_false]
   intro y hy
   obtain⟨z,t,hkey⟩:=hk y (Array.mem_toList_iff.mp hy)
   simp[DictEntry.refKey,hkey]
  have a':¬es.toList.any (·.refKey)=true:=by rw[a];exact Bool.false_ne_true
  rw[if_neg a']
  exact congrArg some e
theorem ObjM.look{h:Heap}{x dx C:Addr}{mA:Str→Option Value}(I:ObjM h x dx C mA):∃od,PySem.W.InstAt h x (PySem.W.instObj C dx) C (some od)∧∀name,PySem.W.lookIn name od=some (mA name):=
 let ⟨od,ho,hl⟩:=lookIn_ns I.ns
 ⟨od,⟨I.obj,rfl,rfl,ho⟩,hl⟩
section
variable{prog:Program}{w:World}{A:Around}{E:Value→Shared→Prop}{s:Shared}{K:PySem.W.Frag}{x dx C f:Addr}{mA:Str→Option Value}{name:Str}{v:Value}
theorem get_map{expr:Bool}{Q:Value→Shared→Prop}(X:K.In s.heap)(I:ObjM s.heap x dx C mA)(hg:PySem.W.plainGet K C name=true)(hh:PySem.W.hasDictIn K C=true)
 (ha:PySem.W.findIn K (.ref C) name=some none)(hv:mA name=some v)(hv':PySem.W.handedIn v=true)(h:Q v { s with toks:=s.toks+1 }):
 wpAny (model prog w) A (getAttr (.ref x) name expr) Q E s:=by
 obtain⟨od,J,hl⟩:=I.look
 exact PySem.W.get_value X J (PySem.W.plainGet_of hg).1 (PySem.W.findObj_own hh ha rfl (by rw[hl,hv])) hv' h
theorem get_meth{pl:Sem Bool}{Q:Value×List Value→Shared→Prop}(X:K.In s.heap)(I:ObjM s.heap x dx C mA)(hg:PySem.W.plainGet K C name=true)
 (hf:PySem.W.findIn K (.ref C) name=some (some (.ref f)))(ht:PySem.W.isFn K (.ref f)=true)(hv:mA name=none)(h:Q (.ref f,[.ref x]) s):
 wpAny (model prog w) A (getMethod (.ref x) name pl) Q E s:=by
 obtain⟨od,J,hl⟩:=I.look
 exact PySem.W.method_fn X J (PySem.W.plainGet_of hg).1 (PySem.W.plainGet_of hg).2 hf (beq_iff_eq.mp ht) (by show(PySem.W.lookIn name od).map (·.isSome)=some false;rw[hl,hv];rfl) h
theorem set_map{ns:List Str}{Q:Unit→Shared→Prop}(X:K.In s.heap)(I:ObjM s.heap x dx C mA)
 (hs:PySem.W.findIn K (.ref C) "__setattr__"=some (some (.builtin "object.__setattr__")))(hp:PySem.W.plainOver K C=true)(ht:PySem.W.takerIn K C name=some none)(hh:PySem.W.hasDictIn K C=true)
 (hw:PySem.Within mA ns)(hsz:ns.length≤sizeLine)
 (h:∀h',ObjM h' x dx C (fun y=>if y=name then some v else mA y)→Heap.SameBut dx s.heap h'→Q () { s with heap:=h',toks:=s.toks+2 }):
 wpAny (model prog w) A (setAttr (.ref x) name v) Q E s:=by
 obtain⟨od,J,hl⟩:=I.look
 refine PySem.W.set_plain X J hs (PySem.W.osa_open (s:={ s with toks:=s.toks+1 }) (r:=none) X J hp ht fun b=>?_)
 obtain⟨cd,hc,hd'⟩:=PySem.W.any_some hh
 have hx:s.heap.get? x=some ⟨.ref C,some dx,.plain,#[]⟩:=I.obj
 refine wpAny_bind (wpAny_pure (wpAny_bind (wpAny_bind (wpAny_loadPart hx (wpAny_bind (PySem.W.Looks.here (s:={ s with toks:=s.toks+1 }) (PySem.W.looks_clsIn X hc) ?_))))))
 rw[hd']
 refine wpAny_pure (a:=some dx) (wpAny_bind (wpAny_pure (wpAny_bind ?_)))
 refine wpAny_nsSet1 (s:={ s with toks:=s.toks+1 }) I.ns fun h' hn2 hs2=>?_
 obtain⟨oD,esD,epD,hoD,hdD,hcD⟩:=hn2.count (PySem.Within.cons name v hw)
 refine wpAny_bind (wpAny_lookBehind hoD (by rw[hdD];exact pastItsLine_dict (Nat.le_trans hcD (by rw[List.length_cons];omega))) ?_)
 exact wpAny_pure (h _ ⟨(hs2.2 _ (Ne.symm I.ne)).trans I.obj,hn2,I.ne⟩ hs2)
theorem make_map{R:Result→Shared→Prop}{vs:List Value}{kw:List (Str×Value)}(X:K.In s.heap)(hm:PySem.W.makesIn K C=true)
 (hi:PySem.W.findIn K (.ref C) "__init__"=some (some (.ref f)))(hf:PySem.W.typeIn K (.ref f)=some (.type "function"))
 (h:codeAny (model prog w) (A.under (.builtin "type.__call__" ⟨.ref C::vs,kw⟩)) (.call (.ref f) ⟨.ref (s.heap.objs.size+1)::vs,kw⟩) (PySem.W.InitBack (s.heap.objs.size+1) R)
  { s with heap:=(s.heap.push PySem.W.emptyDict).push (PySem.W.instObj C s.heap.objs.size) }):
 codeAny (model prog w) A (.call (.ref C) ⟨vs,kw⟩) R s:=by
 obtain⟨hh,g,d,t,os⟩:=s
 exact PySem.W.make_core (PySem.W.makes_of X hm) (PySem.W.looks_findIn X hi) (fun self=>PySem.W.bind_fn X self hf) (.inl rfl) h
end
def putF(f:Str)(v:V):List (Str×V)→List (Str×V)
 | []=>[(f,v)]
 | (g,x)::r=>if g=f then (g,v)::r else (g,x)::putF f v r
theorem lookup_putF(f g:Str)(v:V):∀fs:List (Str×V),(putF f v fs).lookup g=if g=f then some v else fs.lookup g
 | []=>by
  show List.lookup g [(f,v)]=_
  by_cases h:g=f
  ·have hb:(g==f)=true:=beq_iff_eq.mpr h
   simp only[List.lookup,hb,if_pos h]
  ·have hb:(g==f)=false:=beq_eq_false_iff_ne.mpr h
   simp only[List.lookup,hb,if_neg h]
 | (k,x)::r=>by
  have ih:=lookup_putF f g v r
  rw[show putF f v ((k,x)::r)=(if k=f then (k,v)::r else (k,x)::putF f v r) from rfl]
  by_cases hk:k=f
  ·rw[if_pos hk]
   by_cases h:g=k
   ·have hb:(g==k)=true:=beq_iff_eq.mpr h
    simp only[List.lookup,hb,if_pos (h.trans hk)]
   ·have hb:(g==k)=false:=beq_eq_false_iff_ne.mpr h
    simp only[List.lookup,hb,if_neg (fun e:g=f=>h (e.trans hk.symm))]
  ·rw[if_neg hk]
   by_cases h:g=k
   ·have hb:(g==k)=true:=beq_iff_eq.mpr h
    simp only[List.lookup,hb,if_neg (fun e:g=f=>hk (h.symm.trans e))]
   ·have hb:(g==k)=false:=beq_eq_false_iff_ne.mpr h
    simp only[List.lookup,hb]
    exact ih
theorem keys_putF(f:Str)(v:V):∀fs:List (Str×V),f∈(putF f v fs).map (·.1)∧∀g,g∈fs.map (·.1)→g∈(putF f v fs).map (·.1)
 | []=>⟨by simp[putF],fun g h=>by simp at h⟩
 | (k,x)::r=>by
  obtain⟨i1,i2⟩:=keys_putF f v r
  rw[show putF f v ((k,x)::r)=(if k=f then (k,v)::r else (k,x)::putF f v r) from rfl]
  by_cases hk:k=f
  ·rw[if_pos hk]
   subst hk
   exact⟨by simp,fun g h=>by simpa using h⟩
  ·rw[if_neg hk]
   refine⟨?_,fun g h=>?_⟩
   ·rw[List.map_cons]
    exact List.mem_cons_of_mem _ i1
   ·rw[List.map_cons] at h ⊢
    rcases List.mem_cons.mp h with e | e
    ·exact List.mem_cons.mpr (.inl e)
    ·exact List.mem_cons_of_mem _ (i2 g e)
theorem length_putF(f:Str)(v:V):∀fs:List (Str×V),(putF f v fs).length≤fs.length+1
 | []=>by simp[putF]
 | (k,x)::r=>by
  have ih:=length_putF f v r
  rw[show putF f v ((k,x)::r)=(if k=f then (k,v)::r else (k,x)::putF f v r) from rfl]
  by_cases hk:k=f
  ·rw[if_pos hk,List.length_cons,List.length_cons];omega
  ·rw[if_neg hk,List.length_cons,List.length_cons];omega
theorem RelO.some_of{v:V}{o:Option Value}(r:RelO (some v) o):∃u,o=some u∧RelV v u:=by
 cases o with
 | none=>exact(show False from r).elim
 | some u=>exact⟨u,rfl,r⟩
theorem RelO.none_of{o:Option Value}(r:RelO none o):o=none:=by
 cases o with
 | none=>rfl
 | some u=>exact(show False from r).elim
theorem handed_of{v:V}{u:Value}(r:RelV v u):PySem.W.handedIn u=true:=by
 cases v with
 | non=>cases (show u=Value.none from r);rfl
 | bl b=>cases (show u=Value.bool b from r);rfl
 | int i=>obtain⟨t,e⟩:=(show ∃t,u=Value.int i t from r);cases e;rfl
 | str x=>obtain⟨t,e⟩:=(show ∃t,u=Value.str x t from r);cases e;rfl
 | byt b=>obtain⟨t,e⟩:=(show ∃t,u=Value.bytes b t from r);cases e;rfl
 | flt b=>obtain⟨t,e⟩:=(show ∃t,u=Value.float b t from r);cases e;rfl
 | ref a=>cases (show u=Value.ref a from r);rfl
 | ty n=>cases (show u=Value.type n from r);rfl
section
variable{P:Program}{w:World}{H H':Hp}{h h':Heap}{a C dx:Addr}{fs fs':List (Str×V)}
theorem ins_get(hok:HOk P w H h)(e:H a=some (.ins C dx fs)):∃mA,ObjM h a dx C mA∧(∀f,RelO (fs.lookup f) (mA f))∧PySem.Within mA (fs.map (·.1))∧fs.length≤1000∧H dx=some (.own a):=by
 obtain⟨d,z,ne,ob,mA,n,r,q⟩:=(show ObjOk P w H h a (.ins C dx fs) from hok a _ e)
 exact⟨mA,⟨ob,n,ne⟩,r,q,z,d⟩
end
structure Cls(K:PySem.W.Frag)(C:Addr):Prop where
 pg:PySem.W.plainGet K C Str.empty=true
 hd:PySem.W.hasDictIn K C=true
 po:PySem.W.plainOver K C=true
 sa:PySem.W.findIn K (.ref C) "__setattr__"=some (some (.builtin "object.__setattr__"))
theorem Cls.get{K:PySem.W.Frag}{C:Addr}(c:Cls K C)(f:Str):PySem.W.plainGet K C f=true:=c.pg
def NoAttr(K:PySem.W.Frag)(C:Addr)(f:Str):Prop:=PySem.W.findIn K (.ref C) f=some none
theorem NoAttr.taker{K:PySem.W.Frag}{C:Addr}{f:Str}(n:NoAttr K C f):PySem.W.takerIn K C f=some none:=by
 unfold PySem.W.takerIn
 rw[show PySem.W.findIn K (.ref C) f=some none from n]
 rfl
structure Meth(K:PySem.W.Frag)(C:Addr)(m:Str)(f:Addr):Prop where
 at_:PySem.W.findIn K (.ref C) m=some (some (.ref f))
 fn:PySem.W.isFn K (.ref f)=true
 kp:PySem.W.keepIn K (.ref f)=true
section
variable{X:Cx}{pins:List (Addr×Obj)}{σ:St}{H:Hp}{s:Shared}{a C dx:Addr}{fs:List (Str×V)}{f:Str}{v:V}{A:Around}{E:Value→Shared→Prop}
theorem getattr_ok{b:Bool}{Q:Value→Shared→Prop}(I:Inv X pins σ H s)(e:H a=some (.ins C dx fs))(c:Cls X.K C)(n:NoAttr X.K C f)(l:fs.lookup f=some v)
 (h:∀u s',Inv X pins σ H s'→RelV v u→Q u s'):wpAny (model X.prog X.w) A (getAttr (.ref a) f b) Q E s:=by
 obtain⟨mA,O,r,_,_,_⟩:=ins_get I.hok e
 obtain⟨u,hu,ru⟩:=RelO.some_of (v:=v) (o:=mA f) (by rw[←l];exact r f)
 exact get_map I.kIn O (c.get f) c.hd n hu (handed_of ru) (h u _ (I.tok _) ru)
theorem getmeth_ok{m:Str}{g:Addr}{pl:Sem Bool}{Q:Value×List Value→Shared→Prop}(I:Inv X pins σ H s)(e:H a=some (.ins C dx fs))(c:Cls X.K C)(k:Meth X.K C m g)(l:fs.lookup m=none)
 (h:Q (.ref g,[.ref a]) s):wpAny (model X.prog X.w) A (getMethod (.ref a) m pl) Q E s:=by
 obtain⟨mA,O,r,_,_,_⟩:=ins_get I.hok e
 have hn:mA m=none:=RelO.none_of (by rw[←l];exact r m)
 exact get_meth I.kIn O (c.get m) k.at_ k.fn hn h
theorem setattr_ok{y:V}{u:Value}{Q:Unit→Shared→Prop}(I:Inv X pins σ H s)(e:H a=some (.ins C dx fs))(c:Cls X.K C)(n:NoAttr X.K C f)(hl:fs.length<1000)(ry:RelV y u)
 (h:∀s',Inv X pins σ (upd H a (.ins C dx (putF f y fs))) s'→Q () s'):wpAny (model X.prog X.w) A (setAttr (.ref a) f u) Q E s:=by
 obtain⟨mA,O,r,wi,_,ho⟩:=ins_get I.hok e
 have hz:(fs.map (·.1)).length≤sizeLine:=by rw[List.length_map,sizeLine_eq];omega
 refine set_map I.kIn O c.sa c.po n.taker c.hd wi hz fun h' O' sb=>h _ ?_
 have hd:∃o,h'.get? dx=some o:=let ⟨o,_,_,e',_⟩:=O'.ns;⟨o,e'⟩
 refine I.write (x:=a) (e:=dx) (by rw[e];exact True.intro) (.inr ho) (fun b q hb z=>(sb.2 b hb).trans z) hd ?_
 refine⟨by rw[upd_ne O.ne];exact ho,?_,O.ne,O'.obj,_,O'.ns,fun g=>?_,fun g hg=>?_⟩
 ·have:=length_putF f y fs;omega
 ·show RelO ((putF f y fs).lookup g) (if g=f then some u else mA g)
  rw[lookup_putF]
  by_cases q:g=f
  ·rw[if_pos q,if_pos q];exact ry
  ·rw[if_neg q,if_neg q];exact r g
 ·by_cases q:g=f
  ·rw[q];exact(keys_putF f y fs).1
  ·refine(keys_putF f y fs).2 g (wi g fun z=>hg ?_)
   show(if g=f then some u else mA g)=none
   rw[if_neg q];exact z
theorem Inv.made(I:Inv X pins σ H s):Inv X pins σ (upd (upd H s.heap.objs.size (.own (s.heap.objs.size+1))) (s.heap.objs.size+1) (.ins C s.heap.objs.size []))
 { s with heap:=(s.heap.push PySem.W.emptyDict).push (PySem.W.instObj C s.heap.objs.size) }:=by
 have e1:(s.heap.push PySem.W.emptyDict).get? s.heap.objs.size=some PySem.W.emptyDict:=Heap.get?_push_size s.heap rfl
 have e2:((s.heap.push PySem.W.emptyDict).push (PySem.W.instObj C s.heap.objs.size)).get? (s.heap.objs.size+1)=some (PySem.W.instObj C s.heap.objs.size):=by
  have:=Heap.get?_push_size (s.heap.push PySem.W.emptyDict) (o:=PySem.W.instObj C s.heap.objs.size) rfl
  rwa [Heap.size_push] at this
 have e3:(s.heap.push PySem.W.emptyDict).Ns s.heap.objs.size (fun _=>none):=⟨PySem.W.emptyDict,#[],_,e1,rfl,(fun e he=>absurd he (by simp)),fun _=>rfl⟩
 have I1:=I.laid (a:=s.heap.objs.size) (o:=.own (s.heap.objs.size+1)) (h':=s.heap.push PySem.W.emptyDict) (t':=s.toks) (fun b u q=>Heap.get?_push_of_some _ q) (Nat.le_refl _) ⟨_,e1⟩
 refine I1.laid (a:=s.heap.objs.size+1) (o:=.ins C s.heap.objs.size []) (t':=s.toks) (fun b u q=>Heap.get?_push_of_some _ q) (Nat.le_of_eq (Heap.size_push _ _)) ?_
 have ne:s.heap.objs.size≠s.heap.objs.size+1:=Nat.ne_of_lt (Nat.lt_succ_self _)
 refine⟨by rw[upd_ne ne,upd_same],Nat.zero_le _,ne,e2,fun _=>none,(Heap.Ns1.of_empty e3).at fun o q=>Heap.get?_push_of_some _ q,fun _=>True.intro,fun y hy=>absurd rfl hy⟩
theorem attr_of{prog:Program}{w:World}{env:Env}{e:Expr}{f:Str}{pos:Pos}{s:Shared}{Q:Value→Shared→Prop}(hb:attributeBase e f env (eval e env)=eval e env)
 (h:wpAny (model prog w) A (eval e env) (fun o s₁=>wpAny (model prog w) A (getAttr o f true) Q E s₁) E s):wpAny (model prog w) A (eval (.Attribute e f pos) env) Q E s:=
 Attribute_any_ h (by rw[arm_eval_Attribute,hb])
end
def tFld(K:PySem.W.Frag)(ta:TE)(f:Str):TE:=fun σ H Q=>ta σ H fun x H1=>∃a C dx fs v,x=.ref a∧H1 a=some (.ins C dx fs)∧Cls K C∧NoAttr K C f∧fs.lookup f=some v∧Q v H1
def sFld(K:PySem.W.Frag)(ta tv:TE)(f:Str):TS:=fun D σ H=>tv σ H fun y H1=>ta σ H1 fun x H2=>∃a C dx fs,x=.ref a∧H2 a=some (.ins C dx fs)∧Cls K C∧NoAttr K C f∧fs.length<1000∧
 D.nx σ (upd H2 a (.ins C dx (putF f y fs)))
section
variable{X:Cx}{o e value:Expr}{f:Str}{pos pos' tpos:Pos}{ta tv:TE}
theorem pe_fld(he:PE X e ta)(hb:attributeBase e f X.env (eval e X.env)=eval e X.env):PE X (.Attribute e f pos) (tFld X.K ta f):=by
 intro pins s σ H Q I h
 refine attr_of hb (thn (he pins s σ H _ I h) fun u s1 ⟨x,H1,I1,rx,a,C,dx,fs,v,ex,ea,c,n,l,q⟩=>?_)
 subst ex
 obtain rfl:u=Value.ref a:=rx
 exact getattr_ok I1 ea c n l fun u' s2 I2 ru=>⟨v,H1,I2,ru,q⟩
theorem ps_fld(ha:PE X o ta)(hv:PE X value tv)(hs:swapsWith value (some (.Attribute o f pos')) pos.line X.env=pure false):PS X (.Assign [.Attribute o f pos'] value pos) (sFld X.K ta tv f):=by
 intro pins s σ H D I h
 refine plainObj_wpAny_Assign_Attribute (thn (hv pins s σ H _ I h) fun u s1 ⟨y,H1,I1,ry,q⟩=>thn (ha pins s1 σ H1 _ I1 q) fun ov s2 ⟨x,H2,I2,rx,a,C,dx,fs,ex,ea,c,n,l,q2⟩=>?_) hs
 subst ex
 obtain rfl:ov=Value.ref a:=rx
 exact setattr_ok I2 ea c n l ry fun s3 I3=>⟨σ,_,I3,q2⟩
end
section
variable{X:Cx}{pins:List (Addr×Obj)}{σ:St}{H:Hp}{s:Shared}{A:Around}{E:Value→Shared→Prop}{Q:Value→Shared→Prop}{c:Value}{b:Bool}
inductive TyOf(K:PySem.W.Frag)(H:Hp):V→Value→Prop where
 | non:TyOf K H .non (.type "NoneType")
 | bl (x:Bool):TyOf K H (.bl x) (.type "bool")
 | int (i:Int):TyOf K H (.int i) (.type "int")
 | str (x:Str):TyOf K H (.str x) (.type "str")
 | flt (x:UInt64):TyOf K H (.flt x) (.type "float")
 | lst {a:Addr} {xs:List V} (e:H a=some (.lst xs)):TyOf K H (.ref a) (.type "list")
 | frz {a:Addr} {o:Obj} {xs:List V} (e:H a=some (.frz o (.lst xs))):TyOf K H (.ref a) (.type "list")
 | tup {a:Addr} {xs:List V} (e:H a=some (.tup xs)):TyOf K H (.ref a) (.type "tuple")
 | dK {a:Addr} {kvs:List (Key×V)} (e:H a=some (.dK kvs)):TyOf K H (.ref a) (.type "dict")
 | dT {a:Addr} {kvs:List (List Key×V)} (e:H a=some (.dT kvs)):TyOf K H (.ref a) (.type "dict")
 | ins {a C dx:Addr} {fs:List (Str×V)} (e:H a=some (.ins C dx fs)) (cl:Cls K C) (ha:PySem.W.findIn K (.ref C) "__class__"=some (some (.builtin "object.__class__")))
  (hn:PySem.W.specialIn K (.builtin "object.__class__") "__get__"=some (some (.builtin "getset_descriptor.__get__"))) (htk:PySem.W.takesIn K (.builtin "object.__class__")=some true)
  (hm:PySem.W.mroIn K C (.type "object")=some true):TyOf K H (.ref a) (.ref C)
theorem isinst_ok{x:V}{u t:Value}(I:Inv X pins σ H s)(rx:RelV x u)(ty:TyOf X.K H x t)(e:PySem.W.kitOne X.K t c=some b)(h:∀tk,Q (.bool b) { s with toks:=tk }):
 wpAny (model X.prog X.w) A (call (.builtin "isinstance") [u,c]) Q E s:=by
 cases ty with
 | non=>cases (show u=Value.none from rx);exact PySem.W.kia_one PySem.W.kitx_none I.kIn True.intro e (fun z=>nomatch z) h
 | bl y=>cases (show u=Value.bool y from rx);exact PySem.W.kia_one PySem.W.kitx_bool I.kIn True.intro e (fun z=>nomatch z) h
 | int i=>obtain⟨t,q⟩:=(show ∃t,u=Value.int i t from rx);cases q;exact PySem.W.kia_one PySem.W.kitx_int I.kIn True.intro e (fun z=>nomatch z) h
 | str y=>obtain⟨t,q⟩:=(show ∃t,u=Value.str y t from rx);cases q;exact PySem.W.kia_one PySem.W.kitx_str I.kIn True.intro e (fun z=>nomatch z) h
 | flt y=>obtain⟨t,q⟩:=(show ∃t,u=Value.float y t from rx);cases q;exact PySem.W.kia_one PySem.W.kitx_float I.kIn True.intro e (fun z=>nomatch z) h
 | @lst a xs ea=>
  cases (show u=Value.ref a from rx)
  obtain⟨_,_,n,_,h1⟩:=(show ObjOk X.prog X.w H s.heap a (.lst xs) from I.hok a _ ea)
  exact PySem.W.kia_one PySem.W.kitx_list I.kIn ⟨_,h1,rfl⟩ e (fun z=>nomatch z) h
 | @frz a ob xs ea=>
  cases (show u=Value.ref a from rx)
  obtain⟨_,_,_,n,_,h1⟩:=(show ObjOk X.prog X.w H s.heap a (.frz ob (.lst xs)) from I.hok a _ ea)
  exact PySem.W.kia_one PySem.W.kitx_list I.kIn ⟨_,h1,rfl⟩ e (fun z=>nomatch z) h
 | @tup a xs ea=>
  cases (show u=Value.ref a from rx)
  obtain⟨_,_,_,p⟩:=(show ObjOk X.prog X.w H s.heap a (.tup xs) from I.hok a _ ea)
  obtain⟨o,h1,h2,_⟩:=p
  exact PySem.W.kia_one PySem.W.kitx_tuple I.kIn ⟨o,h1,h2⟩ e (fun z=>nomatch z) h
 | @dK a kvs ea=>
  cases (show u=Value.ref a from rx)
  obtain⟨_,_,vs,_,p⟩:=(show ObjOk X.prog X.w H s.heap a (.dK kvs) from I.hok a _ ea)
  obtain⟨o,es,ep,h1,h2,_⟩:=p
  exact PySem.W.kia_one PySem.W.kitx_dict I.kIn ⟨o,h1,h2.1⟩ e (fun z=>nomatch z) h
 | @dT a kvs ea=>
  cases (show u=Value.ref a from rx)
  obtain⟨_,_,xs,_,o,es,ep,h1,h2,_⟩:=(show ObjOk X.prog X.w H s.heap a (.dT kvs) from I.hok a _ ea)
  exact PySem.W.kia_one PySem.W.kitx_dict I.kIn ⟨o,h1,h2.1⟩ e (fun z=>nomatch z) h
 | @ins a C dx fs ea cl ha hn htk hm=>
  cases (show u=Value.ref a from rx)
  obtain⟨mA,O,_⟩:=ins_get I.hok ea
  obtain⟨od,J,_⟩:=O.look
  exact PySem.W.kia_one (PySem.W.kitx_own (cl.get _) cl.hd ha hn htk hm) I.kIn J e (fun z=>nomatch z) h
end
end L2
namespace L2
open PySem PySem.Spec PyProof.Rows
structure Room(k:Nat)(A:Around):Prop where
 hd:A.handled=none
 dp:A.depth+3*k+5<recursionLimit
 un:A.units+16*k+200<cLine
 gd:A.guards=some []
theorem Room.mono{j k:Nat}{A:Around}(r:Room k A)(h:j≤k):Room j A:=⟨r.hd,by have:=r.dp;omega,by have:=r.un;omega,r.gd⟩
theorem Room.deeper{k:Nat}{A:Around}(r:Room (k+1) A)(env:Env):Room k (A.deeper env):=
 ⟨r.hd,by have:=r.dp;show A.depth+1+3*k+5<_;omega,by have:=r.un;show A.units+3+16*k+200<_;omega,r.gd⟩
theorem make_depth{A:Around}{C:Addr}{us:List Value}{kw:List (Str×Value)}:(A.under (.builtin "type.__call__" ⟨.ref C::us,kw⟩)).depth=A.depth+1:=by
 first | rfl | simp[Around.under,Code.weight,Code.isCreation,Code.isGuard,Code.isCaller,Code.frames,Code.isFrame,guardIds]
theorem make_units{A:Around}{C:Addr}{us:List Value}{kw:List (Str×Value)}:(A.under (.builtin "type.__call__" ⟨.ref C::us,kw⟩)).units=A.units+1:=by
 first | rfl | simp[Around.under,Code.cUnits,Code.frames,Code.isFrame]
theorem make_guards{A:Around}{C:Addr}{us:List Value}{kw:List (Str×Value)}(h:A.guards=some []):(A.under (.builtin "type.__call__" ⟨.ref C::us,kw⟩)).guards=some []:=by
 have e:(Code.builtin "type.__call__" ⟨.ref C::us,kw⟩).guards=[]:=by
  unfold Code.guards
  rw[if_neg (by show ¬guardIds.contains "type.__call__"=true;decide)]
 have e2:(A.under (.builtin "type.__call__" ⟨.ref C::us,kw⟩)).guards=pushGuards (Code.builtin "type.__call__" ⟨.ref C::us,kw⟩).guards A.guards:=rfl
 rw[e2,e,h];rfl
theorem Room.make{k:Nat}{A:Around}(r:Room (k+1) A)(C:Addr)(us:List Value)(kw:List (Str×Value)):Room k (A.under (.builtin "type.__call__" ⟨.ref C::us,kw⟩)):=
 ⟨r.hd,by have:=r.dp;rw[make_depth];omega,by have:=r.un;rw[make_units];omega,make_guards r.gd⟩
theorem Room.depth{k:Nat}{A:Around}(r:Room k A):A.depth<recursionLimit:=by have:=r.dp;omega
theorem Room.units{k:Nat}{A:Around}(r:Room k A):A.units+64<cLine:=by have:=r.un;omega
def tNil:TA:=fun _ H Q=>Q [] H
def tCons(ta:TE)(tr:TA):TA:=fun σ H Q=>ta σ H fun x H1=>tr σ H1 fun xs H2=>Q (x::xs) H2
section
variable{X:Cx}{e:Expr}{es:List Expr}{te:TE}{t:TA}{pos:Pos}
theorem pa_nil:PA X [] tNil:=fun _ _ _ _ H Q I h=>Calls.spliced_nil ⟨[],H,I,.nil,h⟩
theorem pa_cons(ha:PE X e te)(hr:PA X es t)(hs:starEach (e::es) X.env=(false,eval e X.env)::starEach es X.env:=by rfl):PA X (e::es) (tCons te t):=by
 intro pos pins s σ H Q I h
 rw[hs]
 show wpAny _ _ (spliced ((false,eval e X.env)::backTo pos (starEach es X.env))) _ _ s
 refine Calls.spliced_cons (thn (ha pins s σ H _ I h) fun u s1 ⟨x,H1,I1,r1,q1⟩=>?_)
 exact thn (hr pos pins s1 σ H1 _ I1 q1) fun us s2 ⟨xs,H2,I2,r2,q2⟩=>⟨x::xs,H2,I2,.cons r1 r2,q2⟩
def tTup(t:TA):TE:=fun σ H Q=>t σ H fun xs H1=>xs.length≤sizeLine∧∀p,H1 p=none→Q (.ref p) (upd H1 p (.tup xs))
def tLst(t:TA):TE:=fun σ H Q=>t σ H fun xs H1=>xs.length≤sizeLine∧∀p,H1 p=none→Q (.ref p) (upd H1 p (.lst xs))
theorem pe_tup{x1}(h:PA X es t):PE X (.Tuple es x1 pos) (tTup t):=by
 intro pins s σ H Q I hq
 refine wpAny_Tuple_spliced (thn (h pos pins s σ H _ I hq) fun us s1 ⟨xs,H1,I1,r,z,q⟩=>⟨by rw[←r.length];exact z,?_⟩)
 have hf:H1 s1.heap.objs.size=none:=I1.hok.fresh (Nat.le_refl _)
 refine⟨.ref s1.heap.objs.size,upd H1 s1.heap.objs.size (.tup xs),I1.laid (t':=s1.toks) (fun b u e=>Heap.get?_push_of_some _ e) (Nat.le_refl _) ?_,rfl,q _ hf⟩
 exact⟨z,us,r,⟨_,Heap.get?_push_size _ rfl,rfl,_,rfl⟩⟩
theorem pe_lst(h:PA X es t):PE X (.List es pos) (tLst t):=by
 intro pins s σ H Q I hq
 refine wpAny_List_spliced (thn (h pos pins s σ H _ I hq) fun us s1 ⟨xs,H1,I1,r,z,q⟩=>⟨by rw[←r.length];exact z,?_⟩)
 have hf:H1 s1.heap.objs.size=none:=I1.hok.fresh (Nat.le_refl _)
 refine⟨.ref s1.heap.objs.size,upd H1 s1.heap.objs.size (.lst xs),I1.laid (t':=s1.toks) (fun b u e=>Heap.get?_push_of_some _ e) (Nat.le_refl _) ?_,rfl,q _ hf⟩
 exact⟨z,us,0,r,Heap.get?_push_size _ rfl⟩
end
abbrev Sp:=List V→Hp→VK→XK→Prop
abbrev CXT:=List Env→Hp→Shared→XK→Value→Shared→Prop
structure Env0(P:Program)(w:World)(K:PySem.W.Frag)(mg:Str→Option Value)(base:Heap)(A:Around)(outer:List Env)(s:Shared)(H:Hp):Prop where
 frames:A.frames=some outer
 mod:Mod K mg base
 bs:∀b o,base.get? b=some o→s.heap.get? b=some o∧H b=none
 bsz:base.objs.size≤s.heap.objs.size
 funs:s.heap.FunFrames base outer
 frf:∀b∈frs outer,H b=none
 hok:HOk P w H s.heap
 bare:AllBare s.gens
def CE(outer:List Env)(P:Program)(w:World)(H:Hp)(s:Shared)(Q:VK)(u:Value)(s':Shared):Prop:=
 ∃v H',s'.os=s.os∧AllBare s'.gens∧Un (frs outer) [] H H' s.heap s'.heap∧HOk P w H' s'.heap∧RelV v u∧Q v H'
def CR(CX:CXT)(outer:List Env)(P:Program)(w:World)(H:Hp)(s:Shared)(Q:VK)(E:XK)(r:Result)(s':Shared):Prop:=
 match r with
 | .ok (.ret u)=>CE outer P w H s Q u s'
 | .ok _=>False
 | .error e=>CX outer H s E e s'
structure FnOk(P:Program)(w:World)(K:PySem.W.Frag)(mg:Str→Option Value)(base:Heap)(CX:CXT)(k:Nat)(f:Addr)(fd:FuncData)(ps:List Str)(sp:Sp):Prop where
 len:∀vs H Q E,sp vs H Q E→vs.length=ps.length
 run:∀(A:Around) (outer:List Env) (s:Shared) (H:Hp) (args:Args) (us:List Value) (vs:List V) (Q:VK) (E:XK),Room k A→Env0 P w K mg base A outer s H→BindsTo s fd args (ps.zip us)→Vals vs us→sp vs H Q E→
  codeAny (model P w) A (.call (.ref f) args) (CR CX outer P w H s Q E) s
theorem FnOk.mono{P:Program}{w:World}{K:PySem.W.Frag}{mg:Str→Option Value}{base:Heap}{CX:CXT}{j k:Nat}{f:Addr}{fd:FuncData}{ps:List Str}{sp:Sp}(F:FnOk P w K mg base CX j f fd ps sp)(h:j≤k):
 FnOk P w K mg base CX k f fd ps sp:=⟨F.len,fun A outer s H args us vs Q E hr=>F.run A outer s H args us vs Q E (hr.mono h)⟩
theorem Env0.make{P:Program}{w:World}{K:PySem.W.Frag}{mg:Str→Option Value}{base:Heap}{A:Around}{outer:List Env}{s:Shared}{H:Hp}(e:Env0 P w K mg base A outer s H)(C:Addr)(us:List Value)(kw:List (Str×Value)):
 Env0 P w K mg base (A.under (.builtin "type.__call__" ⟨.ref C::us,kw⟩)) outer s H:=⟨by first | exact e.frames | (simpa [Around.under,Code.envs,Code.isFrame,pushEnvs] using e.frames),e.mod,e.bs,e.bsz,e.funs,e.frf,e.hok,e.bare⟩
section
variable{X:Cx}{pins:List (Addr×Obj)}{σ:St}{H:Hp}{s s':Shared}
theorem Inv.env0(I:Inv X pins σ H s):Env0 X.prog X.w X.K X.mg X.base X.A X.stack s H:=
 ⟨I.ok.frames,I.ok.mod,I.bs,Nat.le_trans I.ok.bsz I.sz,I.stack,I.stkFree,I.hok,I.bare⟩
theorem Inv.after{Q:VK}{u:Value}(I:Inv X pins σ H s)(h:CE X.stack X.prog X.w H s Q u s'):EP X pins σ Q u s':=by
 obtain⟨v,H',os,bare,un,hok,r,q⟩:=h
 obtain⟨hh,g,d,t,os'⟩:=s'
 obtain rfl:os'=s.os:=os
 exact⟨v,H',I.call (h':=hh) (g':=g) (d':=d) (t':=t) (ch:=[]) un hok bare (fun b z=>absurd z (by simp)),r,q⟩
end
def tCall(sp:Sp)(dvs:List V)(E:XK)(t:TA):TE:=fun σ H Q=>t σ H fun vs H1=>sp (vs++dvs) H1 Q E
def tMeth(C:Addr)(m:Str)(sp:Sp)(dvs:List V)(E:XK)(ta:TE)(t:TA):TE:=fun σ H Q=>ta σ H fun x H1=>∃a dx fs,x=.ref a∧H1 a=some (.ins C dx fs)∧fs.lookup m=none∧
 t σ H1 fun vs H2=>sp (x::(vs++dvs)) H2 Q E
def tMake(C:Addr)(sp:Sp)(dvs:List V)(E:XK)(t:TA):TE:=fun σ H Q=>t σ H fun vs H1=>∀x dx,H1 x=none→H1 dx=none→dx≠x→
 sp (.ref x::(vs++dvs)) (upd (upd H1 dx (.own x)) x (.ins C dx [])) (fun v H2=>v=.non∧Q (.ref x) H2) E
def Binds(K:PySem.W.Frag)(fd:FuncData)(ps:List Str)(ds:List Value):Prop:=
 ∀(s:Shared) (us:List Value),K.In s.heap→(us++ds).length=ps.length→BindsTo s fd ⟨us,[]⟩ (ps.zip (us++ds))
theorem Binds.all{K:PySem.W.Frag}{fd:FuncData}{ps:List Str}(h:∀us:List Value,us.length=ps.length→bindArgs fd ⟨us,[]⟩=pure (ps.zip us)):Binds K fd ps []:=fun s us _ hl=>by
 rw[List.append_nil] at hl ⊢
 exact .of_eq (h us hl)
def Passes(CX:CXT)(X:Cx)(E:XK):Prop:=∀(pins:List (Addr×Obj)) (σ:St) (H:Hp) (s:Shared) (e:Value) (s':Shared),Inv X pins σ H s→CX X.stack H s E e s'→X.xe e s'
section
variable{X:Cx}{CX:CXT}{k:Nat}{f C:Addr}{fd:FuncData}{ps:List Str}{sp:Sp}{dvs:List V}{ds:List Value}{E:XK}{x m:Str}{p pos apos:Pos}{e o:Expr}{es:List Expr}{ta:TE}{t:TA}
theorem run_fn{pins:List (Addr×Obj)}{σ:St}{H:Hp}{s:Shared}{Q:VK}{us:List Value}{vs:List V}(F:FnOk X.prog X.w X.K X.mg X.base CX k f fd ps sp)(hr:Room k X.A)(hb:Binds X.K fd ps ds)(hd:Vals dvs ds)(hx:Passes CX X E)
 (I:Inv X pins σ H s)(r:Vals vs us)(h:sp (vs++dvs) H Q E):wpAny (model X.prog X.w) X.A (call (.ref f) us) (EP X pins σ Q) X.xe s:=by
 have r2:Vals (vs++dvs) (us++ds):=r.append hd
 have hl:(us++ds).length=ps.length:=by rw[←r2.length];exact F.len _ _ _ _ h
 refine wpAny_call (codeAny_mono (F.run X.A X.stack s H ⟨us,[]⟩ (us++ds) (vs++dvs) Q E hr I.env0 (hb s us I.kIn hl) r2 h) fun r s' hq=>?_)
 cases r with
 | error e=>exact hx pins σ H s e s' I hq
 | ok fl=>
  cases fl with
  | ret u=>exact I.after hq
  | next=>exact False.elim hq
  | brk=>exact False.elim hq
  | cont=>exact False.elim hq
theorem pe_call(F:FnOk X.prog X.w X.K X.mg X.base CX k f fd ps sp)(hr:Room k X.A)(hg:Gl X x)(hm:X.mg x=some (.ref f))(hk:PySem.W.keepIn X.K (.ref f)=true)(hb:Binds X.K fd ps ds)(hd:Vals dvs ds)(hx:Passes CX X E)
 (ha:PA X (e::es) t)(hdb:(x==("__debug__":Str))=false:=by decide)(he:starEach (e::es) X.env=(false,eval e X.env)::starEach es X.env:=by rfl)(hpl:(backTo pos (starEach es X.env)).any (·.1)=false:=by rfl):
 PE X (.Call (.Name x p) (e::es) [] pos) (tCall sp dvs E t):=by
 intro pins s σ H Q I h
 refine wpAny_Call_Name_kw (ld_glob I hg hm ?_ hdb)
 refine PySem.W.callWith_K (h₀:=X.base) I.ok.mod.kin hk (thn (ha pos pins s σ H _ I h) fun us s1 ⟨vs,H1,I1,r,q⟩=>⟨I1.kIn,?_⟩) he hpl
 exact run_fn F hr hb hd hx I1 r q
theorem pe_meth{pl:Sem Bool}(he:PE X o ta)(c:Cls X.K C)(hm:Meth X.K C m f)(F:FnOk X.prog X.w X.K X.mg X.base CX k f fd ps sp)(hr:Room k X.A)(hb:Binds X.K fd ps ds)(hd:Vals dvs ds)(hx:Passes CX X E)(ha:PA X (e::es) t)
 (hst:starEach (e::es) X.env=(false,eval e X.env)::starEach es X.env:=by rfl)(hpl:(backTo pos (starEach es X.env)).any (·.1)=false:=by rfl)
 (ht:eval (.Call (.Attribute o m apos) (e::es) [] pos) X.env=(do
  let ov ←eval o X.env
  standAt apos.atName
  let (f,first) ←holding [ov] (getMethod ov m pl)
  callWith pos f first (backTo pos (starEach (e::es) X.env)) (backToKw pos (keywordEach [] X.env))):=by rfl):
 PE X (.Call (.Attribute o m apos) (e::es) [] pos) (tMeth C m sp dvs E ta t):=by
 intro pins s σ H Q I h
 refine PySem.W.methodCall_KW (pl:=pl) (thn (he pins s σ H _ I h) fun u s1 ⟨x,H1,I1,rx,a,dx,fs,ex,ea,l,q⟩=>?_) ht
 subst ex
 obtain rfl:u=Value.ref a:=rx
 refine getmeth_ok I1 ea c hm l ?_
 refine PySem.W.callWith_K (first:=[.ref a]) (h₀:=X.base) I.ok.mod.kin hm.kp (thn (ha pos pins s1 σ H1 _ I1 q) fun us s2 ⟨vs,H2,I2,r,q2⟩=>⟨I2.kIn,?_⟩) hst hpl
 exact run_fn (us:=.ref a::us) (vs:=.ref a::vs) F hr hb hd hx I2 (.cons rfl r) q2
theorem pe_meth0{pl:Sem Bool}(he:PE X o ta)(c:Cls X.K C)(hm:Meth X.K C m f)(F:FnOk X.prog X.w X.K X.mg X.base CX k f fd ps sp)(hr:Room k X.A)(hb:Binds X.K fd ps ds)(hd:Vals dvs ds)(hx:Passes CX X E)
 (ht:eval (.Call (.Attribute o m apos) [] [] pos) X.env=(do
  let ov ←eval o X.env
  standAt apos.atName
  let (f,first) ←holding [ov] (getMethod ov m pl)
  callWith pos f first (backTo pos (starEach [] X.env)) (backToKw pos (keywordEach [] X.env))):=by rfl):
 PE X (.Call (.Attribute o m apos) [] [] pos) (tMeth C m sp dvs E ta tNil):=by
 intro pins s σ H Q I h
 refine PySem.W.methodCall_KW (pl:=pl) (thn (he pins s σ H _ I h) fun u s1 ⟨x,H1,I1,rx,a,dx,fs,ex,ea,l,q⟩=>?_) ht
 subst ex
 obtain rfl:u=Value.ref a:=rx
 refine getmeth_ok I1 ea c hm l ?_
 exact PySem.W.callWith_K0 (first:=[.ref a]) I1.kIn hm.kp (run_fn (us:=[.ref a]) (vs:=[.ref a]) F hr hb hd hx I1 (.cons rfl .nil) q)
structure Mk(K:PySem.W.Frag)(C f:Addr):Prop where
 makes:PySem.W.makesIn K C=true
 init:PySem.W.findIn K (.ref C) "__init__"=some (some (.ref f))
 fn:PySem.W.isFn K (.ref f)=true
 kp:PySem.W.keepIn K (.ref C)=true
theorem run_make{pins:List (Addr×Obj)}{σ:St}{H:Hp}{s:Shared}{Q:VK}{us:List Value}{vs:List V}(M:Mk X.K C f)(F:FnOk X.prog X.w X.K X.mg X.base CX k f fd ps sp)(hr:Room (k+1) X.A)(hb:Binds X.K fd ps ds)(hd:Vals dvs ds)
 (hx:Passes CX X E)(I:Inv X pins σ H s)(r:Vals vs us)
 (h:∀x dx,H x=none→H dx=none→dx≠x→sp (.ref x::(vs++dvs)) (upd (upd H dx (.own x)) x (.ins C dx [])) (fun v H2=>v=.non∧Q (.ref x) H2) E):
 wpAny (model X.prog X.w) X.A (call (.ref C) us) (EP X pins σ Q) X.xe s:=by
 have hq:=h (s.heap.objs.size+1) s.heap.objs.size (I.hok.fresh (Nat.le_succ _)) (I.hok.fresh (Nat.le_refl _)) (Nat.ne_of_lt (Nat.lt_succ_self _))
 have I2:=Inv.made (C:=C) I
 have r2:Vals (V.ref (s.heap.objs.size+1)::(vs++dvs)) (Value.ref (s.heap.objs.size+1)::(us++ds)):=.cons rfl (r.append hd)
 have hl:(Value.ref (s.heap.objs.size+1)::us++ds).length=ps.length:=by
  have e:=r2.length
  rw[F.len _ _ _ _ hq] at e
  exact e.symm
 refine wpAny_call (make_map (f:=f) I.kIn M.makes M.init (beq_iff_eq.mp M.fn) (codeAny_mono (F.run _ X.stack _ _ ⟨Value.ref (s.heap.objs.size+1)::us,[]⟩ (Value.ref (s.heap.objs.size+1)::(us++ds)) _ _ E (hr.make C us [])
  (I2.env0.make C us []) (hb _ (Value.ref (s.heap.objs.size+1)::us) I2.kIn hl) r2 hq) fun r s' hq'=>?_))
 cases r with
 | error e=>exact hx pins σ _ _ e s' I2 hq'
 | ok fl=>
  cases fl with
  | ret u=>
   obtain⟨v,H',I3,rv,ev,q3⟩:=I2.after hq'
   subst ev
   exact⟨rv,⟨V.ref (s.heap.objs.size+1),H',I3,rfl,q3⟩⟩
  | next=>exact False.elim hq'
  | brk=>exact False.elim hq'
  | cont=>exact False.elim hq'
theorem pe_make(M:Mk X.K C f)(F:FnOk X.prog X.w X.K X.mg X.base CX k f fd ps sp)(hr:Room (k+1) X.A)(hg:Gl X x)(hm:X.mg x=some (.ref C))(hb:Binds X.K fd ps ds)(hd:Vals dvs ds)(hx:Passes CX X E)
 (ha:PA X (e::es) t)(hdb:(x==("__debug__":Str))=false:=by decide)(he:starEach (e::es) X.env=(false,eval e X.env)::starEach es X.env:=by rfl)(hpl:(backTo pos (starEach es X.env)).any (·.1)=false:=by rfl):
 PE X (.Call (.Name x p) (e::es) [] pos) (tMake C sp dvs E t):=by
 intro pins s σ H Q I h
 refine wpAny_Call_Name_kw (ld_glob I hg hm ?_ hdb)
 refine PySem.W.callWith_K (h₀:=X.base) I.ok.mod.kin M.kp (thn (ha pos pins s σ H _ I h) fun us s1 ⟨vs,H1,I1,r,q⟩=>⟨I1.kIn,?_⟩) he hpl
 exact run_make M F hr hb hd hx I1 r q
theorem pe_make0(M:Mk X.K C f)(F:FnOk X.prog X.w X.K X.mg X.base CX k f fd ps sp)(hr:Room (k+1) X.A)(hg:Gl X x)(hm:X.mg x=some (.ref C))(hb:Binds X.K fd ps ds)(hd:Vals dvs ds)(hx:Passes CX X E)
 (hdb:(x==("__debug__":Str))=false:=by decide):PE X (.Call (.Name x p) [] [] pos) (tMake C sp dvs E tNil):=by
 intro pins s σ H Q I h
 refine wpAny_Call_Name_kw (ld_glob I hg hm ?_ hdb)
 exact PySem.W.callWith_K0 I.kIn M.kp (run_make (us:=[]) M F hr hb hd hx I .nil h)
end
section
variable{X:Cx}{CX:CXT}{k:Nat}{f C:Addr}{fd:FuncData}{ps ks:List Str}{sp:Sp}{E:XK}{x m:Str}{p pos apos kpos:Pos}{e o:Expr}{es:List Expr}{kws:List Keyword}{te ta:TE}{t tk:TA}{nm:Option Str}
variable{g:List Value→List Value→List Value}{gV:List V→List V→List V}
end
structure FnScope(N P:List Str)(sc:Scope):Prop where
 kind:sc.kind=.function
 co:sc.isCoroutine=false
 gen:sc.isGenerator=false
 nd:N.Nodup
 pre:N.take P.length=P
 par:∀x∈P,sc.names.lookup x=some .local∨sc.names.lookup x=some .cell
 nofree:∀y∈sc.names,y.2≠.free
theorem bindL_out{kindOf:Str→Option NameKind}{x:Str}:∀{binds:List (Str×Value)} {m:Str→Option Value},(∀v,(x,v)∉binds)→bindL kindOf binds m x=m x
 | [],_,_=>rfl
 | (n,v)::r,m,h=>by
  unfold bindL
  rw[bindL_out fun w hw=>h w (List.mem_cons_of_mem _ hw)]
  split
  ·have:x≠n:=by rintro rfl;exact h v List.mem_cons_self
   simp[this]
  ·rfl
theorem bindC_out{kindOf:Str→Option NameKind}{x:Str}:∀{binds:List (Str×Value)} {m:Str→Option Value},(∀v,(x,v)∉binds)→bindC kindOf binds m x=m x
 | [],_,_=>rfl
 | (n,v)::r,m,h=>by
  unfold bindC
  rw[bindC_out fun w hw=>h w (List.mem_cons_of_mem _ hw)]
  split
  ·rfl
  ·have:x≠n:=by rintro rfl;exact h v List.mem_cons_self
   simp[this]
theorem bindL_get{kindOf:Str→Option NameKind}{x:Str}{v:Value}:∀{P:List Str} {vs:List Value} {i:Nat} {m:Str→Option Value},P.Nodup→P[i]?=some x→vs[i]?=some v→kindOf x=some .local→
 bindL kindOf (P.zip vs) m x=some v
 | [],_,_,_,_,h,_,_=>by simp at h
 | _::_,[],_,_,_,_,h,_=>by simp at h
 | p::P,w::vs,0,m,nd,h1,h2,hk=>by
  simp at h1 h2;subst h1;subst h2
  show bindL kindOf ((p,w)::P.zip vs) m p=_
  unfold bindL
  rw[bindL_out fun v hv=>(List.nodup_cons.mp nd).1 (List.of_mem_zip hv).1,if_pos hk]
  simp
 | p::P,w::vs,i+1,m,nd,h1,h2,hk=>by
  show bindL kindOf ((p,w)::P.zip vs) m x=_
  unfold bindL
  exact bindL_get (i:=i) (List.nodup_cons.mp nd).2 (by simpa using h1) (by simpa using h2) hk
theorem bindC_get{kindOf:Str→Option NameKind}{x:Str}{v:Value}:∀{P:List Str} {vs:List Value} {i:Nat} {m:Str→Option Value},P.Nodup→P[i]?=some x→vs[i]?=some v→kindOf x≠some .local→
 bindC kindOf (P.zip vs) m x=some v
 | [],_,_,_,_,h,_,_=>by simp at h
 | _::_,[],_,_,_,_,h,_=>by simp at h
 | p::P,w::vs,0,m,nd,h1,h2,hk=>by
  simp at h1 h2;subst h1;subst h2
  show bindC kindOf ((p,w)::P.zip vs) m p=_
  unfold bindC
  rw[bindC_out fun v hv=>(List.nodup_cons.mp nd).1 (List.of_mem_zip hv).1,if_neg hk]
  simp
 | p::P,w::vs,i+1,m,nd,h1,h2,hk=>by
  show bindC kindOf ((p,w)::P.zip vs) m x=_
  unfold bindC
  exact bindC_get (i:=i) (List.nodup_cons.mp nd).2 (by simpa using h1) (by simpa using h2) hk
def start(N:List Str)(vs:List V):St:=vs.map some++List.replicate (N.length-vs.length) none
def cxOf(CX:CXT)(P:Program)(w:World)(K:PySem.W.Frag)(mg:Str→Option Value)(base:Heap)(N:List Str)(qual:Str)(scope:Scope)(f:Addr)(cd:Value)(A:Around)(outer:List Env)(s:Shared)(H:Hp)(E:XK):Cx where
 prog:=P
 w:=w
 K:=K
 mg:=mg
 base:=base
 A:=A.deeper (envOfC qual scope s.heap.objs.size f cd)
 N:=N
 s₀:=s
 H₀:=H
 env:=envOfC qual scope s.heap.objs.size f cd
 outer:=outer
 stack:=envOfC qual scope s.heap.objs.size f cd::outer
 ex:=[]
 calm:=true
 fn:=fun _=>true
 pn:=[]
 xe:=fun e s'=>wpAny (model P w) (A.deeper (envOfC qual scope s.heap.objs.size f cd)) (leaving (envOfC qual scope s.heap.objs.size f cd) e) (fun _ s''=>CX outer H s E e s'') (fun e' s''=>CX outer H s E e' s'') s'
theorem cell_has{sc:Scope}{n:Nat}{x:Str}(h:sc.names.lookup x=some .cell):∃c,(cellsFrom n sc.names []).lookup x=some c:=by
 have q:=PySem.W.cellsFrom_some sc.names n [] (.inl h)
 exact Option.isSome_iff_exists.mp q
theorem inv_start{CX:CXT}{P:Program}{w:World}{K:PySem.W.Frag}{mg:Str→Option Value}{base:Heap}{N ps:List Str}{qual:Str}{scope:Scope}{f:Addr}{cd:Value}{A:Around}{outer:List Env}{s s1:Shared}{H:Hp}{E:XK}{us:List Value}{vs:List V}
 (S:FnScope N ps scope)(hd:A.handled=none)(e0:Env0 P w K mg base A outer s H)(hl:vs.length=ps.length)(r:Vals vs us)
 (x:InCallC s s.heap.objs.size (bindL (envOfC qual scope s.heap.objs.size f cd).kindOf (ps.zip us) fun _=>none) (cellsFrom (s.heap.objs.size+1) scope.names []) (bindC (envOfC qual scope s.heap.objs.size f cd).kindOf (ps.zip us) fun _=>none) s1):
 Inv (cxOf CX P w K mg base N qual scope f cd A outer s H E) [] (start N vs) H s1:=by
 have hpl:ps.length≤N.length:=by have:=congrArg List.length S.pre;rw[List.length_take] at this;omega
 obtain⟨h1,tk,rfl,hk⟩:=x.done
 have noA:∀b:Addr,b∉(cxOf CX P w K mg base N qual scope f cd A outer s H E).ex:=fun b z=>absurd (show b∈([]:List Addr) from z) (by simp)
 refine⟨⟨e0.mod,S.kind,rfl,rfl,Nat.le_refl _,fun y z c h1 h2=>?_,fun y hy=>?_,fun y c _ h=>?_,fun _=>hd,Around.frames_deeper e0.frames,.inr ⟨rfl,rfl⟩,fun b z=>absurd z (noA b),e0.bs,e0.bsz,fun b _ _=>noA b,fun b z=>absurd z (noA b),e0.funs,e0.frf⟩,
  rfl,e0.bare,Un.kept hk,⟨_,x.toInCall.ns,fun i y v h1 h2 h3=>?_⟩,fun y c h=>⟨_,x.cell y c h⟩,e0.hok.fresh (Nat.le_refl _),fun y c h=>?_,fun p hp=>absurd (show p∈([]:List (Addr×Obj)) from hp) (by simp),e0.hok.kept hk,?_⟩
 ·exact name_of_addr x.apart (PySem.mem_of_lookup h1) (PySem.mem_of_lookup h2)
 ·have hy:scope.names.lookup y=some .cell∨scope.names.lookup y=some .free:=hy
  rcases hy with hy | hy
  ·exact cell_has hy
  ·exact absurd rfl (S.nofree _ (PySem.mem_of_lookup hy))
 ·exact Nat.le_of_lt (x.above y c (PySem.mem_of_lookup h))
 ·have hi:i<vs.length:=by
   unfold start at h2
   by_cases hi:i<vs.length
   ·exact hi
   ·rw[List.getElem?_append_right (by simpa using hi)] at h2
    rw[List.getElem?_replicate] at h2
    split at h2<;>cases h2
  have ha:vs[i]?=some v:=by
   unfold start at h2
   rw[List.getElem?_append_left (by simpa using hi),List.getElem?_map] at h2
   cases e:vs[i]? with
   | none=>rw[e] at h2;cases h2
   | some a=>rw[e] at h2;cases h2;rfl
  obtain⟨u,hu,rv⟩:=r.get ha
  have hp:ps[i]?=some y:=by
   rw[←S.pre,List.getElem?_take_of_lt (by omega)];exact h1
  have ndP:ps.Nodup:=by rw[←S.pre];exact S.nd.sublist (List.take_sublist _ _)
  refine⟨u,rv,?_⟩
  rcases S.par y (List.mem_of_getElem? hp) with k | k
  ·exact .inl ⟨k,bindL_get ndP hp hu k⟩
  ·obtain⟨c,e⟩:=cell_has (n:=s.heap.objs.size+1) k
   refine .inr ⟨.inl k,c,e,?_⟩
   have q:=x.cell y c e
   rw[bindC_get ndP hp hu (by show scope.names.lookup y≠_;rw[k];decide)] at q
   exact q
 ·exact e0.hok.fresh (Nat.le_of_lt (x.above y c (PySem.mem_of_lookup h)))
 ·unfold start
  show _=N.length
  rw[List.length_append,List.length_map,List.length_replicate]
  omega
theorem fn_of{CX:CXT}{P:Program}{w:World}{K:PySem.W.Frag}{mg:Str→Option Value}{base:Heap}{k:Nat}{f:Addr}{name qual:Str}{params:Arguments}{body:List Stmt}{scope:Scope}{dV kV doc pm cdv ct oc:Value}{an od:Option Addr}
 {osl:Array (Option Value)}{N ps:List Str}{sp:Sp}(lk:K.lookup f=some ⟨oc,od,.func (PySem.W.fnOf name qual params body scope dV kV doc pm an cdv ct),osl⟩)(hcd:PySem.W.codeIn K cdv qual=true)(S:FnScope N ps scope)
 (len:∀vs H Q E,sp vs H Q E→vs.length=ps.length)
 (hbody:∀(A:Around) (outer:List Env) (s:Shared) (H:Hp) (vs:List V) (Q:VK) (E:XK),Room k (A.deeper (envOfC qual scope s.heap.objs.size f cdv))→sp vs H Q E→
  ∃t,PSs (cxOf CX P w K mg base N qual scope f cdv A outer s H E) body t∧t { nx:=fun _ H'=>Q .non H',rt:=Q } (start N vs) H):
 FnOk P w K mg base CX (k+1) f (PySem.W.fnOf name qual params body scope dV kV doc pm an cdv ct) ps sp:=by
 refine⟨len,fun A outer s H args us vs Q E hr e0 hb r hsp=>?_⟩
 have hl:=len _ _ _ _ hsp
 have KX:K.In s.heap:=e0.mod.kin.keeps fun b o e=>(e0.bs b o e).1
 have lim:s.heap.NoLimit:=e0.mod.nolimit.keeps fun b o e=>(e0.bs b o e).1
 have hkind:∀y∈ps.zip us,scope.names.lookup y.1=some .local∨(scope.names.lookup y.1=some .cell∧((cellsFrom (s.heap.objs.size+1) scope.names []).lookup y.1).isSome=true):=fun⟨n,v⟩ hy=>by
  rcases S.par n (List.of_mem_zip hy).1 with q | q
  ·exact .inl q
  ·exact .inr ⟨q,PySem.W.cellsFrom_some _ _ _ (.inl q)⟩
 refine codeAny_call_function hr.depth (KX _ _ lk) rfl S.co S.gen rfl (PySem.W.codeRec_of KX hcd) (hb _ _ _ _ ?_)
 refine wpAny_newFunctionEnv_cells S.kind hkind fun env he s1 x=>?_
 subst he
 refine⟨lim.keeps x.toInCall.keep,codeAny_func ?_⟩
 obtain⟨t,ht,hq⟩:=hbody A outer s H vs Q E (hr.deeper _) hsp
 have I:Inv (cxOf CX P w K mg base N qual scope f cdv A outer s H E) [] (start N vs) H s1:=inv_start S hr.hd e0 hl r x
 refine wpAny_mono (ht [] s1 (start N vs) H _ I hq) (fun fl s' hs=>?_) fun e s' hs=>hs
 have fin:∀{σ':St} {H':Hp} {v:V} {u:Value},Inv (cxOf CX P w K mg base N qual scope f cdv A outer s H E) [] σ' H' s'→RelV v u→Q v H'→CE outer P w H s Q u s':=
  fun{σ' H' v u} J rv q=>⟨v,H',J.os,J.bare,J.base,J.hok,rv,q⟩
 cases fl with
 | ret u=>
  obtain⟨v,σ',H',J,rv,q⟩:=hs
  exact fin J rv q
 | next=>
  obtain⟨σ',H',J,q⟩:=hs
  exact fin (v:=V.non) (u:=Value.none) J rfl q
 | brk=>
  obtain⟨_,_,_,q⟩:=hs
  exact False.elim q
 | cont=>
  obtain⟨_,_,_,q⟩:=hs
  exact False.elim q
end L2
namespace L2
open PySem PySem.Spec PyProof.Rows
section
variable{X:Cx}{x:Str}{p pos:Pos}{e:Expr}{es:List Expr}{t:TA}{id T:String}{r:List V→Hp→VK→Prop}
def tCB(r:List V→Hp→VK→Prop)(t:TA):TE:=fun σ H Q=>t σ H fun vs H1=>r vs H1 Q
theorem pe_callB(hc:CallR X (.builtin id) r)(hg:Gl X x)(hm:X.mg x=none)(hv:bootBuiltins x=some (.builtin id))(ha:PA X (e::es) t)(hn:x≠"__name__":=by decide)(hdb:(x==("__debug__":Str))=false:=by decide)
 (he:starEach (e::es) X.env=(false,eval e X.env)::starEach es X.env:=by rfl)(hpl:(backTo pos (starEach es X.env)).any (·.1)=false:=by rfl):PE X (.Call (.Name x p) (e::es) [] pos) (tCB r t):=by
 intro pins s σ H Q I h
 refine wpAny_Call_Name_kw (ld_blt I hg hm hv ?_ hn hdb)
 exact PyProof.Rows.callWith_builtin1 (thn (ha pos pins s σ H _ I h) fun us s1 ⟨vs,H1,I1,r1,q1⟩=>hc pins s1 σ H1 vs us Q I1 r1 q1) he hpl
theorem pe_callTy(hc:CallR X (.type T) r)(hg:Gl X x)(hm:X.mg x=none)(hv:bootBuiltins x=some (.type T))(ha:PA X (e::es) t)(hn:x≠"__name__":=by decide)(hdb:(x==("__debug__":Str))=false:=by decide)
 (he:starEach (e::es) X.env=(false,eval e X.env)::starEach es X.env:=by rfl)(hpl:(backTo pos (starEach es X.env)).any (·.1)=false:=by rfl):PE X (.Call (.Name x p) (e::es) [] pos) (tCB r t):=by
 intro pins s σ H Q I h
 refine wpAny_Call_Name_kw (ld_blt I hg hm hv ?_ hn hdb)
 exact PyProof.Rows.callWith_type1 (thn (ha pos pins s σ H _ I h) fun us s1 ⟨vs,H1,I1,r1,q1⟩=>hc pins s1 σ H1 vs us Q I1 r1 q1) he hpl
end
end L2
namespace HT
open PySem PyProof.Rows
section
open PySem.SeqAt
open PySem.AutoSeq1 (wpAny_loadPart')
open PySem.MeetsSeq PySem.MeetsSeq2 PySem.MeetsSeq3
end
section
variable{prog:Program}{w:World}{A:Around}{E:Value→Shared→Prop}{s:Shared}
end
end HT
namespace L2
open PySem PySem.Spec PyProof.Rows
abbrev TO:=St→Hp→(Option Int→Hp→Prop)→Prop
def PO(X:Cx)(e:Option Expr)(t:TO):Prop:=
 ∀(pins:List (Addr×Obj)) (s:Shared) (σ:St) (H:Hp) (Q:Option Int→Hp→Prop),Inv X pins σ H s→t σ H Q→
  wpAny (model X.prog X.w) X.A (evalPart e X.env) (fun u s'=>∃o H',Inv X pins σ H' s'∧IsPart u o∧Q o H') X.xe s
def tNoPart:TO:=fun _ H Q=>Q none H
def tPart(t:TE):TO:=fun σ H Q=>t σ H fun x H1=>∃i,x=.int i∧Q (some i) H1
theorem intsAre_of{ns:List Int}:∀{us:List Value},Vals (ns.map V.int) us→IntsAre us ns:=by
 induction ns with
 | nil=>intro us r;rw[List.map_nil] at r;cases r;exact .nil
 | cons n ns ih=>
  intro us r
  rw[List.map_cons] at r
  cases r with
  | cons r1 r2=>
   obtain⟨t,e⟩:=r1
   subst e
   exact .cons n t (ih r2)
section
variable{X:Cx}{e:Expr}{te:TE}{lo hi:Option Expr}{tl th:TO}{pos p2:Pos}
theorem po_none:PO X none tNoPart:=by
 intro pins s σ H Q I h
 rw[evalPart_none]
 exact wpAny_pure ⟨none,H,I,.none,h⟩
theorem po_some(h:PE X e te):PO X (some e) (tPart te):=by
 intro pins s σ H Q I hw
 rw[evalPart_some]
 refine thn (h pins s σ H _ I hw) fun u s1 ⟨x,H1,I1,r1,q1⟩=>?_
 obtain⟨i,rfl,q⟩:=q1
 obtain⟨t,rfl⟩:=r1
 exact⟨some i,H1,I1,.int i t,q⟩
def SlR(X:Cx)(r:V→Option Int→Option Int→Hp→VK→Prop):Prop:=
 ∀(pins:List (Addr×Obj)) (s:Shared) (σ:St) (H:Hp) (x:V) (v vl vu:Value) (lo hi:Option Int) (sl:Addr) (Q:VK),Inv X pins σ H s→RelV x v→s.heap.IsSliceOf sl vl vu .none→IsPart vl lo→IsPart vu hi→r x lo hi H Q→
  ∃T id,typeLookup (.type T) "__getitem__"=pure (some (.builtin id))∧s.TypeIs v T∧wpAny (model X.prog X.w) X.A (getItem v (.ref sl)) (EP X pins σ Q) X.xe s
theorem SlR.or{r r':V→Option Int→Option Int→Hp→VK→Prop}(h:SlR X r)(h':SlR X r'):SlR X (fun x lo hi H Q=>r x lo hi H Q∨r' x lo hi H Q):=by
 intro pins s σ H x v vl vu lo hi sl Q I rx hs pl pu q
 rcases q with q | q
 ·exact h pins s σ H x v vl vu lo hi sl Q I rx hs pl pu q
 ·exact h' pins s σ H x v vl vu lo hi sl Q I rx hs pl pu q
def tSl(r:V→Option Int→Option Int→Hp→VK→Prop)(te:TE)(tl th:TO):TE:=fun σ H Q=>te σ H fun x H1=>tl σ H1 fun l H2=>th σ H2 fun u H3=>r x l u H3 Q
theorem pe_slice{r:V→Option Int→Option Int→Hp→VK→Prop}(hr:SlR X r)(he:PE X e te)(hl:PO X lo tl)(hu:PO X hi th):PE X (.Subscript e (.Slice lo hi none p2) pos) (tSl r te tl th):=by
 intro pins s σ H Q I h
 refine Subscript_ (thn (he pins s σ H _ I h) fun v s1 ⟨x,H1,I1,r1,q1⟩=>?_)
 refine wpAny_Slice (thn (hl pins s1 σ H1 _ I1 q1) fun vl s2 ⟨l,H2,I2,pl,q2⟩=>thn (hu pins s2 σ H2 _ I2 q2) fun vu s3 ⟨u,H3,I3,pu,q3⟩=>?_)
 rw[evalPart_none]
 refine wpAny_pure ?_
 have I4:Inv X pins σ H3 { s3 with heap:=s3.heap.push { cls:=.type "slice",data:=.fields #[vl,vu,.none] } }:=I3.kept (t':=s3.toks) fun b ob q=>Heap.get?_push_of_some _ q
 obtain⟨T,id,hT,ht,hg⟩:=hr pins { s3 with heap:=s3.heap.push { cls:=.type "slice",data:=.fields #[vl,vu,.none] } } σ H3 x v vl vu l u s3.heap.objs.size Q I4 r1 (Heap.IsSliceOf.new ..) pl pu q3
 show wpAny (model X.prog X.w) X.A (subscriptTail e (.Slice lo hi none p2) v (.ref s3.heap.objs.size)) (EP X pins σ Q) X.xe { s3 with heap:=s3.heap.push { cls:=.type "slice",data:=.fields #[vl,vu,.none] } }
 exact tail_any (ops:=[.ref s3.heap.objs.size,v]) ht hT hg (by with_unfolding_all rfl)
end
end L2
namespace L2
open PySem PySem.Spec PyProof.Rows
def ixN(n:Nat)(i:Int):Option Nat:=if 0≤i then (if i<n then some i.toNat else none) else if -(n:Int)≤i then some (i+n).toNat else none
def atI{α:Type}(xs:List α)(i:Int):Option α:=(ixN xs.length i).bind fun j=>xs[j]?
theorem ixN_seq{n:Nat}{i:Int}{j:Nat}(h:ixN n i=some j):seqIndex? i n=some j∧j<n∧ -(n:Int)≤i∧i<n:=by
 unfold ixN at h
 by_cases h0:0≤i
 ·rw[if_pos h0] at h
  by_cases h1:i<n
  ·rw[if_pos h1] at h
   have e:i.toNat=j:=Option.some.inj h
   exact⟨by rw[seqIndex_of h0 h1,e],by omega,by omega,h1⟩
  ·rw[if_neg h1] at h;cases h
 ·rw[if_neg h0] at h
  by_cases h1: -(n:Int)≤i
  ·rw[if_pos h1] at h
   have e:(i+n).toNat=j:=Option.some.inj h
   exact⟨by rw[seqIndex_neg (by omega) h1,e],by omega,h1,by omega⟩
  ·rw[if_neg h1] at h;cases h
theorem atI_get{α:Type}{xs:List α}{i:Int}{v:α}(h:atI xs i=some v):∃j,seqIndex? i xs.length=some j∧xs[j]?=some v∧j<xs.length∧ -(xs.length:Int)≤i∧i<xs.length:=by
 unfold atI at h
 cases e:ixN xs.length i with
 | none=>rw[e] at h;cases h
 | some j=>
  rw[e] at h
  obtain⟨h1,h2,h3,h4⟩:=ixN_seq e
  exact⟨j,h1,h,h2,h3,h4⟩
theorem atI_nat{α:Type}{xs:List α}{j:Nat}{v:α}(h:xs[j]?=some v):atI xs (j:Int)=some v:=by
 have hj:j<xs.length:=(List.getElem?_eq_some_iff.mp h).1
 have e:ixN xs.length (j:Int)=some j:=by
  unfold ixN
  rw[if_pos (by omega),if_pos (by omega)];simp
 unfold atI;rw[e];exact h
def PlainIx(b:Expr):Prop:=∀o i,subscripted b false o i=operate [o,i] (getItem o i)
def IxR(X:Cx)(r:R2):Prop:=
 ∀(value slice:Expr) (pins:List (Addr×Obj)) (s:Shared) (σ:St) (H:Hp) (x y:V) (v u:Value) (Q:VK),Inv X pins σ H s→RelV x v→RelV y u→r x y H Q→
  subscripted slice false v u=operate [v,u] (getItem v u)→wpAny (model X.prog X.w) X.A (subscriptTail value slice v u) (EP X pins σ Q) X.xe s
def MtR(X:Cx)(id:String)(r:V→List V→Hp→VK→Prop):Prop:=
 ∀(pins:List (Addr×Obj)) (s:Shared) (σ:St) (H:Hp) (x:V) (xs:List V) (v:Value) (us:List Value) (Q:VK),Inv X pins σ H s→RelV x v→Vals xs us→r x xs H Q→
  wpAny (model X.prog X.w) X.A (call (.builtin id) (v::us)) (EP X pins σ Q) X.xe s
section
variable{X:Cx}{a b:Expr}{ta tb:TE}{pos:Pos}
theorem IxR.or{r r':R2}(h:IxR X r)(h':IxR X r'):IxR X (fun x y H Q=>r x y H Q∨r' x y H Q):=by
 intro value slice pins s σ H x y v u Q I rx ry q hs
 rcases q with q | q
 ·exact h value slice pins s σ H x y v u Q I rx ry q hs
 ·exact h' value slice pins s σ H x y v u Q I rx ry q hs
theorem MtR.or{id:String}{r r':V→List V→Hp→VK→Prop}(h:MtR X id r)(h':MtR X id r'):MtR X id (fun x xs H Q=>r x xs H Q∨r' x xs H Q):=by
 intro pins s σ H x xs v us Q I rx rs q
 rcases q with q | q
 ·exact h pins s σ H x xs v us Q I rx rs q
 ·exact h' pins s σ H x xs v us Q I rx rs q
theorem pe_ix{r:R2}(hr:IxR X r)(ha:PE X a ta)(hb:PE X b tb)(hs:PlainIx b):PE X (.Subscript a b pos) (tOp r ta tb):=by
 intro pins s σ H Q I h
 exact Subscript_ (binT ha hb I h fun v u s2 x y H2 I2 rx ry q=>hr a b pins s2 σ H2 x y v u Q I2 rx ry q (hs _ _))
def rIxL(K:PySem.W.Frag):R2:=fun x y H Q=>∃p xs i v,x=.ref p∧y=.int i∧SqL K H p xs∧atI xs i=some v∧Q v H
def rIxT(K:PySem.W.Frag):R2:=fun x y H Q=>∃p xs i v,x=.ref p∧y=.int i∧SqT K H p xs∧atI xs i=some v∧Q v H
def rIxS:R2:=fun x y H Q=>∃z i c,x=.str z∧y=.int i∧z.length≤sizeLine∧atI z.cps.toList i=some c∧Q (.str ⟨#[c]⟩) H
theorem ix_list:IxR X (rIxL X.K):=by
 intro value slice pins s σ H x y v u Q I rx ry h hs
 obtain⟨p,xs,i,z,rfl,rfl,hq,he,q⟩:=h
 cases rx
 obtain⟨t,rfl⟩:=ry
 obtain⟨its,r,pl,hz⟩:=I.list hq
 obtain⟨j,h1,h2,h3,h4,h5⟩:=atI_get he
 obtain⟨w,ew,rw'⟩:=r.get h2
 have hl:=r.length
 have hn:=line63
 have fin:EP X pins σ Q w s:=⟨z,H,I,rw',q⟩
 by_cases h0:0≤i
 ·have hj:i.toNat=j:=by
   rw[seqIndex_of h0 h5] at h1
   exact Option.some.inj h1
  exact item_listR pl.isList h0 (by omega) (by rw[hj];simpa using ew) fin hs
 ·have hj:(i+(its.toArray.size:Int)).toNat=j:=by
   rw[seqIndex_neg (by omega) h4] at h1
   rw[List.size_toArray,←hl]
   exact Option.some.inj h1
  exact subscriptTail_builtinR (x:=w) pl.isList.typeIs slot_list_getitem.lookup
   (wpAny_getItem_list_neg (Q:=fun r s'=>r=w∧EP X pins σ Q r s') pl.isList (by omega) (by rw[List.size_toArray]<;>omega) (by omega) (by rw[hj];simpa using ew) ⟨rfl,fin⟩) hs
theorem ix_tup:IxR X (rIxT X.K):=by
 intro value slice pins s σ H x y v u Q I rx ry h hs
 obtain⟨p,xs,i,z,rfl,rfl,hq,he,q⟩:=h
 cases rx
 obtain⟨t,rfl⟩:=ry
 obtain⟨its,r,pl,hz⟩:=I.tuple hq
 obtain⟨j,h1,h2,h3,h4,h5⟩:=atI_get he
 obtain⟨w,ew,rw'⟩:=r.get h2
 have hl:=r.length
 have hn:=line63
 have fin:EP X pins σ Q w s:=⟨z,H,I,rw',q⟩
 exact subscriptTail_builtinR (x:=w) pl.typeIs slot_tuple_getitem.lookup
  (getItem_tuple (j:=j) (Q:=fun r s'=>r=w∧EP X pins σ Q r s') pl (by omega) (by omega) (by rw[List.size_toArray,←hl];exact h1) (by simpa using ew) ⟨rfl,fin⟩) hs
theorem ix_str:IxR X rIxS:=by
 intro value slice pins s σ H x y v u Q I rx ry h hs
 obtain⟨z,i,c,rfl,rfl,hz,he,q⟩:=h
 obtain⟨t,rfl⟩:=rx
 obtain⟨t',rfl⟩:=ry
 obtain⟨j,h1,h2,h3,h4,h5⟩:=atI_get he
 have hl:z.cps.toList.length=z.length:=by simp[Str.length]
 rw[hl] at h1 h4 h5
 have hn:=line63
 exact tail_any (typeIs_str s z t) slot_str_getitem.lookup (getItem_str (c:=c) (by
  have e1:decide (i< -(2^63:Int))=false:=decide_eq_false (by omega)
  have e2:decide (i≥2^63)=false:=decide_eq_false (by omega)
  rw[e1,e2,Bool.or_false]) (by rw[h1];simpa using h2) ⟨.str ⟨#[c]⟩,H,I.tok _,⟨_,rfl⟩,q⟩) hs
theorem mapSeq_set(its:List Value)(n j:Nat)(u:Value):Obj.mapSeq (·.setIfInBounds j u) { cls:=.type "list",data:=.seq its.toArray n }={ cls:=.type "list",data:=.seq (its.set j u).toArray n }:=by
 simp[Obj.mapSeq]
theorem Inv.lst{pins:List (Addr×Obj)}{σ:St}{H:Hp}{s:Shared}{p:Addr}{xs:List V}(I:Inv X pins σ H s)(h:H p=some (.lst xs)):
 ∃(its:List Value) (n:Nat),Vals xs its∧s.heap.get? p=some { cls:=.type "list",data:=.seq its.toArray n }∧xs.length≤sizeLine:=by
 obtain⟨z,its,n,r,e⟩:=I.hok p _ h
 exact⟨its,n,r,e,z⟩
theorem Inv.lstUpd{pins:List (Addr×Obj)}{σ:St}{H:Hp}{s:Shared}{p:Addr}{xs ys:List V}{its its':List Value}{n n':Nat}{f:Obj→Obj}(I:Inv X pins σ H s)(h:H p=some (.lst xs))
 (ho:s.heap.get? p=some { cls:=.type "list",data:=.seq its.toArray n })(hf:f { cls:=.type "list",data:=.seq its.toArray n }={ cls:=.type "list",data:=.seq its'.toArray n' })(r:Vals ys its')(hz:ys.length≤sizeLine)(t:Nat):
 Inv X pins σ (upd H p (.lst ys)) { s with heap:=s.heap.update p f,toks:=t }:=by
 have e:(s.heap.update p f).get? p=some { cls:=.type "list",data:=.seq its'.toArray n' }:=by
  rw[Heap.get?_update_self f ho (by rw[hf]<;>rfl),hf]
 refine I.write (x:=p) (e:=p) (by rw[h];trivial) (.inl rfl) (fun b u hb q=>(Heap.get?_update_other _ _ (Ne.symm hb)).trans q) ⟨_,e⟩ ?_
 exact⟨hz,its',n',r,e⟩
def rSetL:V→V→V→Hp→(Hp→Prop)→Prop:=fun o i v H Q=>∃p xs k j,o=.ref p∧i=.int k∧H p=some (.lst xs)∧ixN xs.length k=some j∧Q (upd H p (.lst (xs.set j v)))
theorem set_list:PSet X rSetL:=by
 intro pins s σ H o i v ov iv u Q I ro ri rv h
 obtain⟨p,xs,k,j,rfl,rfl,hp,hj,q⟩:=h
 cases ro
 obtain⟨t,rfl⟩:=ri
 obtain⟨its,n,r,ho,hz⟩:=I.lst hp
 obtain⟨h1,h2,h3,h4⟩:=ixN_seq hj
 have hl:=r.length
 have hn:=line63
 have I':Inv X pins σ (upd H p (.lst (xs.set j v))) { s with heap:=s.heap.update p (Obj.mapSeq (·.setIfInBounds j u)) }:=
  I.lstUpd hp ho (mapSeq_set its n j u) (r.set rv j) (by rw[List.length_set];exact hz) s.toks
 by_cases h0:0≤k
 ·have hk:k.toNat=j:=by
   rw[seqIndex_of h0 h4] at h1
   exact Option.some.inj h1
  exact PySem.W.ki_setAt ho h0 (by omega) (by rw[List.size_toArray,←hl];exact h4) (by rw[hk];exact⟨_,I',q⟩)
 ·have hk:(k+(its.toArray.size:Int)).toNat=j:=by
   rw[seqIndex_neg (by omega) h3] at h1
   rw[List.size_toArray,←hl]
   exact Option.some.inj h1
  exact PySem.W.ki_setBack ho (by omega) (by rw[List.size_toArray,←hl];exact h3) (by omega) (by rw[hk];exact⟨_,I',q⟩)
def flatV:V→Bool
 | .non=>true
 | .bl _=>true
 | .int _=>true
 | .str _=>true
 | _=>false
def eqV:V→V→Bool
 | .non,.non=>true
 | .bl a,.bl b=>a==b
 | .bl a,.int b=>(if a then 1 else 0)==b
 | .int a,.bl b=>a==(if b then 1 else 0)
 | .int a,.int b=>a==b
 | .str a,.str b=>a==b
 | _,_=>false
theorem eqAt_V{A:Around}{s:Shared}{y x:V}{u v:Value}(ry:RelV y u)(rx:RelV x v)(fy:flatV y=true)(fx:flatV x=true):SeqAt.EqAt A s u v (eqV y x):=by
 cases y with
 | non=>
  cases ry
  cases x with
  | non=>cases rx;exact SeqAt.EqAt.same _
  | bl b=>cases rx;exact SeqAt.EqAt.none_bool b
  | int b=>obtain⟨t,rfl⟩:=rx;exact SeqAt.EqAt.none_int b t
  | str b=>obtain⟨t,rfl⟩:=rx;exact SeqAt.EqAt.none_str b t
  | _=>exact absurd (show false=true from fx) Bool.false_ne_true
 | bl a=>
  cases ry
  cases x with
  | non=>cases rx;exact SeqAt.EqAt.bool_none a
  | bl b=>cases rx;exact SeqAt.EqAt.bool_bool a b
  | int b=>obtain⟨t,rfl⟩:=rx;exact SeqAt.EqAt.bool_int a b t
  | str b=>obtain⟨t,rfl⟩:=rx;exact SeqAt.EqAt.bool_str a b t
  | _=>exact absurd (show false=true from fx) Bool.false_ne_true
 | int a=>
  obtain⟨t',rfl⟩:=ry
  cases x with
  | non=>cases rx;exact SeqAt.EqAt.int_none a t'
  | bl b=>cases rx;exact SeqAt.EqAt.int_bool a t' b
  | int b=>obtain⟨t,rfl⟩:=rx;exact SeqAt.EqAt.int_int a t' b t
  | str b=>obtain⟨t,rfl⟩:=rx;exact SeqAt.EqAt.int_str a t' b t
  | _=>exact absurd (show false=true from fx) Bool.false_ne_true
 | str a=>
  obtain⟨t',rfl⟩:=ry
  cases x with
  | non=>cases rx;exact SeqAt.EqAt.str_none a t'
  | bl b=>cases rx;exact SeqAt.EqAt.str_bool a t' b
  | int b=>obtain⟨t,rfl⟩:=rx;exact SeqAt.EqAt.str_int a t' b t
  | str b=>obtain⟨t,rfl⟩:=rx;exact SeqAt.EqAt.str_str a t' b t
  | _=>exact absurd (show false=true from fx) Bool.false_ne_true
 | _=>exact absurd (show false=true from fy) Bool.false_ne_true
def eqU(x:V)(u:Value):Bool:=match u with
 | .none=>eqV .non x
 | .bool b=>eqV (.bl b) x
 | .int i _=>eqV (.int i) x
 | .str z _=>eqV (.str z) x
 | _=>false
theorem eqU_of{x y:V}{u:Value}(r:RelV y u)(f:flatV y=true):eqU x u=eqV y x:=by
 cases y with
 | non=>cases r;rfl
 | bl b=>cases r;rfl
 | int i=>obtain⟨t,rfl⟩:=r;rfl
 | str z=>obtain⟨t,rfl⟩:=r;rfl
 | _=>exact absurd (show false=true from f) Bool.false_ne_true
theorem any_eqU{x:V}:∀{xs:List V} {us:List Value},Vals xs us→xs.all flatV=true→us.any (eqU x)=xs.any fun y=>eqV y x
 | _,_,.nil,_=>rfl
 | y::xs,u::us,.cons r t,f=>by
  rw[List.all_cons,Bool.and_eq_true] at f
  rw[List.any_cons,List.any_cons,eqU_of r f.1,any_eqU t f.2]
theorem mem_eqAt{A:Around}{s:Shared}{x:V}{v:Value}(rx:RelV x v)(fx:flatV x=true):∀{xs:List V} {us:List Value},Vals xs us→xs.all flatV=true→∀u∈us,SeqAt.EqAt A s u v (eqU x u)
 | _,_,.nil,_=>fun u hu=>by cases hu
 | y::xs,u::us,.cons r t,f=>fun u' hu=>by
  rw[List.all_cons,Bool.and_eq_true] at f
  rcases List.mem_cons.mp hu with rfl | hu
  ·rw[eqU_of r f.1];exact eqAt_V r rx f.1 fx
  ·exact mem_eqAt rx fx t f.2 u' hu
def inV(x:V)(xs:List V):Bool:=xs.any fun y=>eqV y x
def rIn(K:PySem.W.Frag)(neg:Bool):R2:=fun x y H Q=>∃p xs,y=.ref p∧(SqL K H p xs∨SqT K H p xs)∧flatV x=true∧xs.all flatV=true∧Q (.bl (if neg then !inV x xs else inV x xs)) H
theorem op_notIn_seq:OpR X (compareOp .NotIn) (rIn X.K true):=by
 intro pins s σ H x y v u Q I rx ry h
 obtain⟨p,xs,rfl,hq,fx,fs,q⟩:=h
 cases ry
 rcases hq with hq | hq
 ·obtain⟨its,r,pl,hz⟩:=I.list hq
  refine SeqAt.notIn_listAt (eqU x) pl.isList (fun w hw=>mem_eqAt rx fx r fs w (by simpa using hw)) ⟨.bl _,H,I,rfl,?_⟩
  rw[show its.toArray.any (eqU x)=its.any (eqU x) by simp,any_eqU r fs]
  exact q
 ·obtain⟨its,r,pl,hz⟩:=I.tuple hq
  refine SeqAt.notIn_tupleAt (eqU x) pl (fun w hw=>mem_eqAt rx fx r fs w (by simpa using hw)) ⟨.bl _,H,I,rfl,?_⟩
  rw[show its.toArray.any (eqU x)=its.any (eqU x) by simp,any_eqU r fs]
  exact q
theorem call_len_seq:CallR X (.builtin "len") (fun xs H Q=>∃p ys,xs=[.ref p]∧(SqL X.K H p ys∨SqT X.K H p ys)∧Q (.int ys.length) H):=by
 intro pins s σ H xs us Q I r h
 obtain⟨p,ys,rfl,hq,q⟩:=h
 obtain⟨u,rfl,rx⟩:=vals1 r
 cases rx
 have hn:=line63
 rcases hq with hq | hq
 ·obtain⟨its,r',pl,hz⟩:=I.list hq
  have hlen:=r'.length
  exact Calls.call_len_list pl.isList (by simp only[List.size_toArray]<;>omega) ⟨.int ys.length,H,I.tok _,⟨s.toks+1,by rw[List.size_toArray,hlen]⟩,q⟩
 ·obtain⟨its,r',pl,hz⟩:=I.tuple hq
  have hlen:=r'.length
  exact len_tuple pl (by simp only[List.size_toArray]<;>omega) ⟨.int ys.length,H,I.tok _,⟨s.toks+1,by rw[List.size_toArray,hlen]⟩,q⟩
theorem call_len_str:CallR X (.builtin "len") (fun xs H Q=>∃z,xs=[.str z]∧z.length≤sizeLine∧Q (.int z.length) H):=by
 intro pins s σ H xs us Q I r h
 obtain⟨z,rfl,hz,q⟩:=h
 obtain⟨u,rfl,t,rfl⟩:=vals1 r
 have hn:=line63
 exact len_str (by omega) ⟨.int z.length,H,I.tok _,⟨_,rfl⟩,q⟩
theorem CallR.or{f:Value}{r r':List V→Hp→VK→Prop}(h:CallR X f r)(h':CallR X f r'):CallR X f (fun xs H Q=>r xs H Q∨r' xs H Q):=by
 intro pins s σ H xs us Q I rs q
 rcases q with q | q
 ·exact h pins s σ H xs us Q I rs q
 ·exact h' pins s σ H xs us Q I rs q
theorem call_tuple_of:CallR X (.type "tuple") (fun xs H Q=>∃p ys,xs=[.ref p]∧((SqL X.K H p ys∧∀l,H l=none→Q (.ref l) (upd H l (.tup ys)))∨(SqT X.K H p ys∧Q (.ref p) H))):=by
 intro pins s σ H xs us Q I r h
 obtain⟨p,ys,rfl,h⟩:=h
 obtain⟨u,rfl,rx⟩:=vals1 r
 cases rx
 rcases h with ⟨hq,q⟩ | ⟨hq,q⟩
 ·obtain⟨its,r',pl,hz⟩:=I.list hq
  have hlen:=r'.length
  refine call_tuple_list pl.isList (fun h' kp=>?_) (by simp only[List.size_toArray]<;>omega)
  have I1:Inv X pins σ H { s with heap:=h' }:=I.kept (t':=s.toks) kp
  have I2:Inv X pins σ (upd H h'.objs.size (.tup ys)) { s with heap:=h'.push { cls:=.type "tuple",data:=.seq its.toArray } }:=
   I1.laid (t':=s.toks) (fun b o e=>Heap.get?_push_of_some _ e) (Nat.le_refl _) (show ObjOk X.prog X.w _ _ _ (.tup ys) from ⟨hz,its,r',IsTup.new _ _⟩)
  exact⟨.ref h'.objs.size,_,I2,rfl,q _ (I1.hok.fresh (Nat.le_refl _))⟩
 ·obtain⟨its,r',pl,hz⟩:=I.tuple hq
  exact call_tuple_same pl ⟨.ref p,H,I,rfl,q⟩
def tyV(K:PySem.W.Frag)(T:String)(x:V)(H:Hp):Prop:=match x with
 | .str _=>T="str"
 | .int _=>T="int"
 | .ref p=>(T="list"∧∃xs,SqL K H p xs)∨(T="tuple"∧∃o,K.lookup p=some o∧o.cls=.type "tuple"∧o.dict=none)∨
  (T="dict"∧((∃kvs,H p=some (.dK kvs))∨∃kvs,H p=some (.dT kvs)))∨(T="set"∧∃S n,H p=some (.set S n))
 | _=>False
theorem tyV_is{pins:List (Addr×Obj)}{σ:St}{H:Hp}{s:Shared}{T:String}{x:V}{v:Value}(I:Inv X pins σ H s)(r:RelV x v)(ty:tyV X.K T x H):
 s.TypeIs v T∧∀a,v=.ref a→∃ob,s.heap.get? a=some ob∧ob.dict=none:=by
 cases x with
 | str z=>
  obtain⟨t,rfl⟩:=r
  cases (show T="str" from ty)
  exact⟨typeIs_str s z t,fun _ e=>nomatch e⟩
 | int i=>
  obtain⟨t,rfl⟩:=r
  cases (show T="int" from ty)
  exact⟨typeIs_int s i t,fun _ e=>nomatch e⟩
 | ref p=>
  cases r
  rcases ty with ⟨rfl,xs,hq⟩ | ⟨rfl,o,hk,hc,hd⟩ | ⟨rfl,hk⟩ | ⟨rfl,S,n,hk⟩
  ·obtain⟨its,_,pl,_⟩:=I.list hq
   refine⟨pl.isList.typeIs,fun a e=>?_⟩
   cases e
   obtain⟨o,n,e,c,hd,_⟩:=pl
   exact⟨o,e,hd⟩
  ·refine⟨⟨o,I.kIn p o hk,hc⟩,fun a e=>?_⟩
   cases e
   exact⟨o,I.kIn _ o hk,hd⟩
  ·have z:∃o,s.heap.get? p=some o∧o.ExactDict:=by
    rcases hk with ⟨kvs,hk⟩ | ⟨kvs,hk⟩
    ·obtain⟨_,_,_,_,o,_,_,e,ex,_⟩:=I.hok p _ hk
     exact⟨o,e,ex⟩
    ·obtain⟨_,_,_,_,o,_,_,e,ex,_⟩:=I.hok p _ hk
     exact⟨o,e,ex⟩
   obtain⟨o,e,ex⟩:=z
   refine⟨⟨o,e,ex.1⟩,fun a e2=>?_⟩
   cases e2
   exact⟨o,e,ex.2.1⟩
  ·obtain⟨o,_,_,_,e,ex,_⟩:=I.hok p _ hk
   refine⟨⟨o,e,ex.1⟩,fun a e2=>?_⟩
   cases e2
   exact⟨o,e,ex.2.1⟩
 | _=>exact False.elim ty
def tBM(K:PySem.W.Frag)(T:String)(r:V→List V→Hp→VK→Prop)(to:TE)(t:TA):TE:=fun σ H Q=>to σ H fun x H1=>tyV K T x H1∧t σ H1 fun xs H2=>r x xs H2 Q
variable{o e:Expr}{es:List Expr}{to:TE}{t:TA}{name:Str}{apos cpos:Pos}{T id:String}{r:V→List V→Hp→VK→Prop}
theorem pe_bm(pa:PlainAttrs T)(slot:Slot T name id)(hty:typeOf (.builtin id)=pure (.type "method_descriptor"))(hm:MtR X id r)(ho:PE X o to)(ha:PA X (e::es) t)
 (hbase:attributeBase o name X.env (eval o X.env)=eval o X.env:=by rfl)
 (hfew:((backTo cpos (starEach (e::es) X.env)).all (fun x=>!x.1)&&(backToKw cpos (keywordEach [] X.env)).all (fun x=>x.1.isSome)
  &&decide ((e::es).length+([]:List Keyword).length+(if ([]:List Keyword).isEmpty then 0 else 1)<30))=true:=by rfl)
 (hline:(apos.endLine==cpos.line)=true:=by rfl)(hs:starEach (e::es) X.env=(false,eval e X.env)::starEach es X.env:=by rfl)(hplain:(backTo cpos (starEach es X.env)).any (·.1)=false:=by rfl):
 PE X (.Call (.Attribute o name apos) (e::es) [] cpos) (tBM X.K T r to t):=by
 intro pins s σ H Q I h
 refine wpAny_Call_method_late hbase hfew hline rfl (thn (ho pins s σ H _ I h) fun v s1 ⟨x,H1,I1,r1,ty,q1⟩=>?_)
 obtain⟨h1,h2⟩:=tyV_is I1 r1 ty
 refine⟨T,id,pa,slot,hty,h1,h2,?_⟩
 have hA:=ha cpos pins s1 σ H1 _ I1 q1
 rw[hs] at hA ⊢
 refine Calls.callWith_builtin (by show(false||(backTo cpos (starEach es X.env)).any (·.1))=false;rw[hplain]<;>rfl) (Calls.evalArgs_plain ?_)
 exact thn hA fun us s2 ⟨vs,H2,I2,r2,q2⟩=>hm pins s2 σ H2 x vs v us Q I2 r1 r2 q2
end
end L2
namespace L2
open PySem PySem.Spec PyProof.Rows
def MtM(X:Cx)(id:String)(r:V→List V→Hp→VK→Prop):Prop:=
 ∀(pins:List (Addr×Obj)) (s:Shared) (σ:St) (H:Hp) (x:V) (xs:List V) (v:Value) (us:List Value) (Q:VK),Inv X pins σ H s→RelV x v→Vals xs us→r x xs H Q→
  wpAny (model X.prog X.w) X.A (call (.builtin id) (v::us)) (EP X pins σ Q) X.xe s
theorem Vals.one:∀{x:V} {us:List Value},Vals [x] us→∃u,us=[u]∧RelV x u
 | _,_,.cons r .nil=>⟨_,rfl,r⟩
theorem Vals.rep{xs:List V}{us:List Value}(h:Vals xs us):∀k:Nat,Vals (List.replicate k xs).flatten (List.replicate k us).flatten
 | 0=>.nil
 | k+1=>by
  rw[List.replicate_succ,List.replicate_succ,List.flatten_cons,List.flatten_cons]
  exact Vals.append h (Vals.rep h k)
theorem foldl_rep(its:List Value):∀(k:Nat) (acc:List Value),
 List.foldl (fun x1 x2=>x1++x2) acc.toArray (List.replicate k its.toArray)=(acc++(List.replicate k its).flatten).toArray
 | 0,acc=>by simp
 | k+1,acc=>by
  have e:acc.toArray++its.toArray=(acc++its).toArray:=by simp
  have e2:(acc++its)++(List.replicate k its).flatten=acc++(List.replicate (k+1) its).flatten:=by
   rw[List.replicate_succ,List.flatten_cons,List.append_assoc]
  rw[←e2,←foldl_rep its k (acc++its),←e,List.replicate_succ,List.foldl_cons]
section
variable{X:Cx}{pins:List (Addr×Obj)}{σ:St}{H:Hp}{s:Shared}{l b:Addr}{xs ys zs:List V}
theorem Inv.lset{its its':List Value}{n:Nat}{f:Array Value→Array Value}{t':Nat}(I:Inv X pins σ H s)(hH:H l=some (.lst xs))
 (e:s.heap.get? l=some { cls:=.type "list",data:=.seq its.toArray n })(hf:f its.toArray=its'.toArray)(hv:Vals ys its')(hz:ys.length≤sizeLine):
 Inv X pins σ (upd H l (.lst ys)) { s with heap:=s.heap.update l (Obj.mapSeq f),toks:=t' }:=by
 have q:=PySem.IsL.update e f
 rw[hf] at q
 refine I.write (x:=l) (e:=l) (by rw[hH];exact trivial) (.inl rfl) (fun b' u hb hu=>(Heap.get?_update_other s.heap (Obj.mapSeq f) (Ne.symm hb)).trans hu) ⟨_,q⟩ ?_
 exact⟨hz,its',_,hv,q⟩
theorem Inv.lnew{its:List Value}{t':Nat}(I:Inv X pins σ H s)(hv:Vals ys its)(hz:ys.length≤sizeLine):
 Inv X pins σ (upd H s.heap.objs.size (.lst ys)) { s with heap:=s.heap.push { cls:=.type "list",data:=.seq its.toArray },toks:=t' }:=
 I.laid (fun _ _ q=>Heap.get?_push_of_some _ q) (Nat.le_refl _) ⟨hz,its,0,hv,Heap.get?_push_size _ rfl⟩
theorem Inv.fresh(I:Inv X pins σ H s):H s.heap.objs.size=none:=I.hok.fresh (Nat.le_refl _)
theorem Inv.lstM(I:Inv X pins σ H s)(hH:H l=some (.lst xs)):xs.length≤sizeLine∧∃(its:List Value) (n:Nat),Vals xs its∧xs.length=its.length∧s.heap.get? l=some { cls:=.type "list",data:=.seq its.toArray n }:=by
 obtain⟨z,its,n,r,e⟩:=I.hok l _ hH
 exact⟨z,its,n,r,r.length,e⟩
theorem notLongL{n:Nat}(h:n≤sizeLine):Builtin.List.listTooLong n=false:=by
 unfold Builtin.List.listTooLong
 exact decide_eq_false (by omega)
end
section
variable{X:Cx}
def rAppend:V→List V→Hp→VK→Prop:=fun x vs H Q=>∃l xs y,x=.ref l∧vs=[y]∧H l=some (.lst xs)∧xs.length<sizeLine∧Q .non (upd H l (.lst (xs++[y])))
theorem mt_append:MtM X "list.append" rAppend:=by
 intro pins s σ H x vs v us Q I rx rv h
 obtain⟨l,xs,y,rfl,rfl,hH,hz,q⟩:=h
 cases rx
 obtain⟨u,rfl,ru⟩:=rv.one
 obtain⟨z,its,n,r,hl,e⟩:=I.lstM hH
 refine call_meets F.slot_list_append ⟨_,e,rfl⟩ F.entry_list_append (F.args_list_append_2 _ _) (PySem.list_append l its.toArray n u (by rw[List.size_toArray];omega)) ⟨e,?_⟩
 refine⟨.non,_,I.lset (its':=its++[u]) hH e (by simp) (r.append (.cons ru .nil)) ?_,rfl,q⟩
 rw[List.length_append,List.length_singleton]
 omega
def rExtend:V→List V→Hp→VK→Prop:=fun x vs H Q=>∃l b xs zs,x=.ref l∧vs=[.ref b]∧H l=some (.lst xs)∧H b=some (.lst zs)∧xs.length+zs.length≤sizeLine∧Q .non (upd H l (.lst (xs++zs)))
theorem mt_extend:MtM X "list.extend" rExtend:=by
 intro pins s σ H x vs v us Q I rx rv h
 obtain⟨l,b,xs,zs,rfl,rfl,hH,hB,hz,q⟩:=h
 cases rx
 obtain⟨u,rfl,ru⟩:=rv.one
 cases ru
 obtain⟨z,its,n,r,hl,e⟩:=I.lstM hH
 obtain⟨z2,its2,n2,r2,hl2,e2⟩:=I.lstM hB
 have hsz:its.toArray.size+its2.toArray.size≤sizeLine:=by rw[List.size_toArray,List.size_toArray];omega
 have hlong:¬(!its.toArray.isEmpty&&Builtin.List.listTooLong (its.toArray.size+its2.toArray.size))=true:=by
  rw[notLongL hsz,Bool.and_false]
  exact Bool.false_ne_true
 refine call_meets F.slot_list_extend ⟨_,e,rfl⟩ F.entry_list_extend (F.args_list_extend_2 _ _)
  (AutoSeq1.list_extend_list_list_0 l its.toArray n b its2.toArray n2 hlong (by rw[List.size_toArray];omega) (by omega)) ⟨e,e2,?_⟩
 refine⟨.non,_,I.lset (its':=its++its2) hH e (by simp) (r.append r2) ?_,rfl,q⟩
 rw[List.length_append]
 omega
def rCat:R2:=fun x y H Q=>∃l b xs zs,x=.ref l∧y=.ref b∧H l=some (.lst xs)∧H b=some (.lst zs)∧xs.length+zs.length≤sizeLine∧∀p,H p=none→Q (.ref p) (upd H p (.lst (xs++zs)))
theorem op_cat:OpR X (binaryOp .Add) rCat:=by
 intro pins s σ H x y v u Q I rx ry h
 obtain⟨l,b,xs,zs,rfl,rfl,hH,hB,hz,q⟩:=h
 cases rx
 cases ry
 obtain⟨z,its,n,r,hl,e⟩:=I.lstM hH
 obtain⟨z2,its2,n2,r2,hl2,e2⟩:=I.lstM hB
 refine PySem.P.add_list e e2 ?_ (by rw[List.size_toArray,List.size_toArray];omega)
 have ea:its.toArray++its2.toArray=(its++its2).toArray:=by simp
 rw[ea]
 exact⟨.ref _,_,I.lnew (t':=s.toks) (r.append r2) (by rw[List.length_append];omega),rfl,q _ I.fresh⟩
def rRep:R2:=fun x y H Q=>∃l k xs,x=.ref l∧y=.int k∧H l=some (.lst xs)∧ -(2^63)≤k∧k<2^63∧xs.length*k.toNat≤sizeLine∧
 ∀p,H p=none→Q (.ref p) (upd H p (.lst (List.replicate k.toNat xs).flatten))
theorem len_rep{α:Type}(xs:List α)(k:Nat):(List.replicate k xs).flatten.length=k*xs.length:=by
 induction k with
 | zero=>simp
 | succ k ih=>rw[List.replicate_succ,List.flatten_cons,List.length_append,ih,Nat.succ_mul,Nat.add_comm]
theorem op_rep:OpR X (binaryOp .Mult) rRep:=by
 intro pins s σ H x y v u Q I rx ry h
 obtain⟨l,k,xs,rfl,rfl,hH,h1,h2,hz,q⟩:=h
 cases rx
 obtain⟨t,rfl⟩:=ry
 obtain⟨z,its,n,r,hl,e⟩:=I.lstM hH
 have hlen:its.toArray.size*k.toNat≤sizeLine:=by rw[List.size_toArray,←hl];exact hz
 have hcap:¬its.toArray.size*k.toNat>(2^63-1)/8:=by
  have:(sizeLine:Nat)≤(2^63-1)/8:=by decide
  omega
 have hfit:¬(!Builtin.List.listFitsIndex k)=true:=by
  rw[fitsIndex_both h1 h2]
  exact Bool.false_ne_true
 have hlong:¬Builtin.List.listTooLong (its.toArray.size*k.toNat)=true:=by
  rw[notLongL hlen]
  exact Bool.false_ne_true
 have hnew:List.foldl (fun x1 x2=>x1++x2) #[] (List.replicate (if its.toArray.isEmpty=true then 0 else k.toNat) its.toArray)=(List.replicate k.toNat its).flatten.toArray:=by
  have f0:∀m:Nat,List.foldl (fun x1 x2=>x1++x2) #[] (List.replicate m its.toArray)=(List.replicate m its).flatten.toArray:=fun m=>by
   have:=foldl_rep its m []
   rw[List.nil_append] at this
   exact this
  rw[f0]
  cases its with
  | nil=>simp
  | cons a r'=>rw[if_neg (by simp)]
 refine wpAny_binaryOp_repeat_ref (T:="list") (U:="int") (by decide) ⟨_,e,rfl⟩ (fun s'=>typeIs_int s' k t) noFill_list_mul F.fills_int_mul F.slot_int_rmul repeat_list F.slot_int_index.lookup
  (call_meets F.slot_int_rmul (typeIs_int s k t) F.entry_int_rmul (F.args_int_rmul_2 _ _) (int___rmul___int_list k t l its.toArray n)
   ⟨e,rfl,⟨_,e,rfl⟩,call_meets F.slot_list_mul ⟨_,e,rfl⟩ F.entry_list_mul (F.args_list_mul_2 _ _) (AutoListH.list___mul___list_int_3 l its.toArray n k t hfit hcap hlong) ⟨e,?_⟩⟩)
 rw[hnew]
 exact⟨.ref _,_,I.lnew (t':=s.toks) (r.rep k.toNat) (by rw[len_rep,Nat.mul_comm];exact hz),rfl,q _ I.fresh⟩
end
section
variable{prog:Program}{w:World}{A:Around}{E:Value→Shared→Prop}{s:Shared}
end
section
variable{X:Cx}
end
end L2
namespace Att
open PySem PySem.W PySem.Calls PyProof.Rows
theorem ints_of_wellAll{P:Params}{h:Heap}:∀(ns:List Int) (vs:List Value),WellAll P h vs (ns.map WData.int)→IntsAre vs ns:=by
 intro ns
 induction ns with
 | nil=>
  intro vs w
  rw[List.map_nil] at w
  cases w
  exact .nil
 | cons n ns ih=>
  intro vs w
  rw[List.map_cons] at w
  cases w with
  | cons a b=>
   cases a
   exact .cons _ _ (ih _ b)
theorem script_of{l:OpenLaw}{n:Nat}(hn:l.most=some n){P:Params}{h:Heap}{args:List WData}{vals:List Value}
 (hpre:l.row.toRowW.claim.pre args=true)(hwl:WellAll P h vals args):
 ∃a vs ns,vals=[Value.ref a]∧args=[WData.list (ns.map WData.int)]∧h.get? a=some { cls:=.type "list",data:=.seq vs.toArray }∧IntsAre vs ns∧ns.length≤n:=by
 have hsh:WShape.hasAll [] args [.list .int]=true:=(pre_splitW hpre).1
 have hc:l.pre.holds [] { args:=args }=true:=(pre_splitW hpre).2
 obtain⟨d,r,rfl,h1,h2⟩:=hasAllW_cons hsh
 obtain rfl:=hasAllW_nil h2
 obtain⟨xs,rfl,h3⟩:=hasW_list h1
 obtain⟨ns,rfl⟩:=items_int h3
 have hlen:ns.length≤n:=by
  unfold OpenLaw.pre at hc
  have h4:(WTm.not (.lt (.lit (.int (n:Int))) (.len (.arg 0)))).holds [] { args:=[.list (ns.map .int)] }=true:=by
   have h4:=(holds_andW hc).1
   rw[hn] at h4
   exact h4
  have h5:=condW_of h4 (w_not (w_lt w_lit (w_len_list (w_arg rfl))))
  rw[List.length_map] at h5
  refine Nat.le_of_not_lt fun q=>?_
  have q':(n:Int)<((ns.length:Nat):Int):=by omega
  first
   | (rw [decide_eq_true q'] at h5;exact absurd h5 (by decide))
   | (simp at h5;omega)
 cases hwl with
 | cons w1 w2=>
  cases w2
  cases w1 with
  | list ho hall=>exact⟨_,_,ns,rfl,rfl,ho,ints_of_wellAll ns _ hall,hlen⟩
theorem post_true(l:OpenLaw)(args:List WData):l.row.toRowW.claim.post args (.bool true) args=true:=
 postW_of (r:=l.row.toRowW) (X:=(true==true))
  (show WShape.has [] (.bool true) .bool=true by first | rfl | decide | simp[WShape.has,WShape.arms,WShape.armsAll])
  (show (WTm.eq .res (.lit (.bool true))).value [] { args:=args,res:=some (.bool true),after:=args }=some (.bool (true==true)) from w_eq_bool (w_res rfl) w_lit) rfl
section
variable{prog:Program}{w:World}{A:Around}{E:Value→Shared→Prop}{s:Shared}{K:Frag}
end
end Att
namespace L2
open PySem PySem.Spec PyProof.Rows
theorem vals_ints:∀{vs:List Value} {ns:List Int},IntsAre vs ns→Vals (ns.map V.int) vs
 | _,_,.nil=>.nil
 | _,_,.cons n t h=>.cons ⟨t,rfl⟩ (vals_ints h)
def Only(H:Hp):Prop:=∀b,H b=none∨∃o xs,H b=some (.frz o (.lst xs))
theorem law_call{P:Program}{w:World}{K:PySem.W.Frag}{mg mb:Str→Option Value}{CX:CXT}{k:Nat}{fa a:Addr}{fd:FuncData}{x:Str}{sp:Sp}{s₁:Shared}{vs:List Value}{ns:List Int}
 (KX:K.In s₁.heap)(hns:s₁.heap.Ns mainGlobals mg)(hb:s₁.heap.Ns builtinsNs mb)(hbb:∀x:Str,x≠"__name__"→mb x=bootBuiltins x)(hlim:s₁.heap.NoLimit)(hg:s₁.gens= #[])
 (ha:s₁.heap.get? a=some { cls:=.type "list",data:=.seq vs.toArray })(hi:IntsAre vs ns)(hl:ns.length≤sizeLine)(hr:Room k callerA)
 (F:∀base:Heap,K.In base→base.Ns mainGlobals mg→FnOk P w K mg base CX k fa fd [x] sp)(hbind:∀(s:Shared) (u:Value),BindsTo s fd ⟨[u],[]⟩ [(x,u)])
 (hsp:∀H:Hp,Only H→SqL K H a (ns.map V.int)→sp [.ref a] H (fun v _=>v=.bl true) fun _ _ _=>False)
 (hCX:∀H e s',CX [] H s₁ (fun _ _ _=>False) e s'→False):
 codeAny (model P w) callerA (.call (.ref fa) ⟨[.ref a],[]⟩) (fun r s'=>r=.ok (.ret (.bool true))∧OldK s₁.heap s'.heap∧s'.os=s₁.os∧AllBare s'.gens) s₁:=by
 have rv:=vals_ints hi
 have lenV:=hi.length
 have core:∀H:Hp,Only H→SqL K H a (ns.map V.int)→HOk P w H s₁.heap→(∀b,H b≠none→b=a)→(H a≠none→K.lookup a=none)→
  codeAny (model P w) callerA (.call (.ref fa) ⟨[.ref a],[]⟩) (fun r s'=>r=.ok (.ret (.bool true))∧OldK s₁.heap s'.heap∧s'.os=s₁.os∧AllBare s'.gens) s₁:=by
  intro H hO hS hok hA hK
  have base_of:∀{b:Addr} {o:Obj},s₁.heap.get? b=some o→H b=none→(hidT s₁.heap H).get? b=some o:=fun e n=>hidT_get e n
  have noA:∀{b:Addr} {o:Obj} {es:Array DictEntry} {ep:Nat},s₁.heap.get? b=some o→o.data=.dict es ep→H b=none:=fun{b o es ep} e d=>by
   cases q:H b with
   | none=>rfl
   | some u=>
    have e':b=a:=hA b (by rw[q];simp)
    subst e'
    rw[ha] at e;cases e
    have d':Data.seq vs.toArray _=Data.dict es ep:=d
    cases d'
  have nsK:∀{b:Addr} {m:Str→Option Value},s₁.heap.Ns b m→(hidT s₁.heap H).Ns b m:=fun{b m} ⟨o,es,ep,e,d,r⟩=>⟨o,es,ep,base_of e (noA e d),d,r⟩
  have hKb:K.In (hidT s₁.heap H):=fun b o e=>base_of (KX b o e) (by
   cases q:H b with
   | none=>rfl
   | some u=>
    have e':b=a:=hA b (by rw[q];simp)
    subst e'
    rw[hK (by rw[q];simp)] at e;cases e)
  have hM:Mod K mg (hidT s₁.heap H):=⟨hKb,nsK hns,⟨mb,nsK hb,hbb⟩,let ⟨mc,h1,h2⟩:=hlim;⟨mc,nsK h1,h2⟩⟩
  have e0:Env0 P w K mg (hidT s₁.heap H) callerA [] s₁ H:=⟨rfl,hM,fun b o e=>of_hidT e,Nat.le_of_eq (hidT_size _ _),trivial,fun b hb=>absurd (show b∈([]:List Addr) from hb) (by simp),hok,.of_eq hg⟩
  refine codeAny_mono ((F _ hKb (nsK hns)).run callerA [] s₁ H ⟨[.ref a],[]⟩ [.ref a] [.ref a] _ _ hr e0 (hbind s₁ (.ref a)) (.cons rfl .nil) (hsp H hO hS)) fun r s' h=>?_
  cases r with
  | error e=>exact(hCX H e s' h).elim
  | ok fl=>
   cases fl with
   | next=>exact False.elim h
   | brk=>exact False.elim h
   | cont=>exact False.elim h
   | ret u=>
    obtain⟨v,H',os,bare,un,hok',r',q⟩:=h
    have q':v=.bl true:=q
    subst q'
    obtain rfl:u=Value.bool true:=r'
    refine⟨rfl,OldK.of_keep fun b o e=>?_,os,bare⟩
    cases q:H b with
    | none=>exact un.keep b o e q (by intro z;exact absurd (show b∈([]:List Addr) from z) (by simp)) (by simp)
    | some u=>
     rcases hO b with z | ⟨ob,xs,z⟩
     ·rw[q] at z;cases z
     ·have z2:=un.frzs b ob _ z
      obtain⟨e1,_⟩:=hok b _ z
      obtain⟨e2,_⟩:=hok' b _ z2
      rw[e] at e1;cases e1
      exact e2
 cases hk:K.lookup a with
 | some o=>
  have e:=KX a o hk
  rw[ha] at e
  cases e
  refine core (fun _=>none) (fun _=>.inl rfl) (.inr ⟨_,vs.toArray,_,hk,rfl,rfl,rfl,by rw[List.size_toArray,lenV];exact hl,by simpa using rv⟩) (fun b u z=>by have z':(none:Option HO)=some u:=z;cases z') (fun b z=>absurd rfl z) fun z=>absurd rfl z
 | none=>
  refine core (fun b=>if b=a then some (.frz { cls:=.type "list",data:=.seq vs.toArray } (.lst (ns.map V.int))) else none) (fun b=>?_) (.inl (.inr ⟨{ cls:=.type "list",data:=.seq vs.toArray },if_pos rfl⟩)) (fun b u z=>?_) (fun b z=>?_) fun _=>hk
  ·by_cases hb:b=a
   ·exact .inr ⟨_,_,if_pos hb⟩
   ·exact .inl (if_neg hb)
  ·by_cases hb:b=a
   ·have z':=(if_pos hb).symm.trans z
    cases z'
    subst hb
    exact⟨ha,by rw[List.length_map];exact hl,vs,_,rv,ha⟩
   ·have z':=(if_neg hb).symm.trans z
    cases z'
  ·by_cases hb:b=a
   ·exact hb
   ·exact absurd (if_neg hb) z
end L2
namespace L2
open PySem PySem.Spec PyProof.Rows
abbrev KOf{K:PySem.W.Frag}{h:Heap}(_:K.In h):PySem.W.Frag:=K
end L2
namespace L2
open PySem PySem.Spec PyProof.Rows
def inClass(s:Stmt)(j:Nat):Stmt:=match s with
 | .ClassDef _ _ _ body _ _ _ _ _ _ _=>body.getD j (.Pass ⟨0,0,0,0⟩)
 | _=>.Pass ⟨0,0,0,0⟩
def defArgs(s:Stmt):Arguments:=match s with
 | .FunctionDef _ a _ _ _ _ _ _ _ _=>a
 | _=>{ posonlyargs:=[],args:=[],vararg:=none,kwonlyargs:=[],kw_defaults:=[],kwarg:=none,defaults:=[] }
def defBody(s:Stmt):List Stmt:=match s with
 | .FunctionDef _ _ b _ _ _ _ _ _ _=>b
 | _=>[]
def defScope(s:Stmt):Scope:=match s with
 | .FunctionDef _ _ _ _ _ _ sc _ _ _=>sc
 | _=>{ kind:=.function,names:=[],isGenerator:=false,isCoroutine:=false }
abbrev CX0:CXT:=fun _ _ _ _ _ _=>False
abbrev E0:XK:=fun _ _ _=>False
theorem pass0{X:Cx}:Passes CX0 X E0:=fun _ _ _ _ _ _ _ h=>h.elim
structure Fun(K:PySem.W.Frag)(x qual:Str)(st:Stmt)(f:Addr)(fd:FuncData):Prop where
 ex:∃(oc:Value) (od:Option Addr) (kV doc pm:Value) (an:Option Addr) (cdv ct:Value) (osl:Array (Option Value)),
  fd=PySem.W.fnOf x qual (defArgs st) (defBody st) (defScope st) .none kV doc pm an cdv ct∧K.lookup f=some ⟨oc,od,.func fd,osl⟩∧PySem.W.codeIn K cdv qual=true
 kp:PySem.W.keepIn K (.ref f)=true
section
variable{P:Program}{w:World}{K:PySem.W.Frag}{mg:Str→Option Value}{base:Heap}
theorem Fun.ok{x qual:Str}{st:Stmt}{f:Addr}{fd:FuncData}{N ps:List Str}{k:Nat}{sp:Sp}(F:Fun K x qual st f fd)(S:FnScope N ps (defScope st))(len:∀vs H Q E,sp vs H Q E→vs.length=ps.length)
 (hbody:∀(cdv:Value) (A:Around) (outer:List Env) (s:Shared) (H:Hp) (vs:List V) (Q:VK) (E:XK),Room k (A.deeper (envOfC qual (defScope st) s.heap.objs.size f cdv))→sp vs H Q E→
  ∃t,PSs (cxOf CX0 P w K mg base N qual (defScope st) f cdv A outer s H E).nox (defBody st) t∧t { nx:=fun _ H'=>Q .non H',rt:=Q } (start N vs) H):FnOk P w K mg base CX0 (k+1) f fd ps sp:=by
 obtain⟨oc,od,kV,doc,pm,an,cdv,ct,osl,rfl,lk,hcd⟩:=F.ex
 refine fn_of lk hcd S len fun A outer s H vs Q E hr hsp=>?_
 obtain⟨t,h,q⟩:=hbody cdv A outer s H vs Q E hr hsp
 exact⟨t,h.nox,q⟩
theorem Fun.binds{x qual:Str}{st:Stmt}{f:Addr}{fd:FuncData}{ps:List Str}(F:Fun K x qual st f fd)
 (h:∀(kV doc pm:Value) (an:Option Addr) (cdv ct:Value) (us:List Value),us.length=ps.length→bindArgs (PySem.W.fnOf x qual (defArgs st) (defBody st) (defScope st) .none kV doc pm an cdv ct) ⟨us,[]⟩=pure (ps.zip us)):Binds K fd ps []:=by
 obtain⟨oc,od,kV,doc,pm,an,cdv,ct,osl,rfl,lk,hcd⟩:=F.ex
 exact .all (h kV doc pm an cdv ct)
theorem fun_mk{x qual:Str}{st:Stmt}{f:Addr}{oc:Value}{od an:Option Addr}{osl:Array (Option Value)}{kV doc pm cdv ct:Value}(l:K.lookup f=some ⟨oc,od,.func (PySem.W.fnOf x qual (defArgs st) (defBody st) (defScope st) .none kV doc pm an cdv ct),osl⟩)
 (c:PySem.W.codeIn K cdv qual=true)(k:PySem.W.keepIn K (.ref f)=true):Fun K x qual st f (PySem.W.fnOf x qual (defArgs st) (defBody st) (defScope st) .none kV doc pm an cdv ct):=⟨⟨oc,od,kV,doc,pm,an,cdv,ct,osl,rfl,l,c⟩,k⟩
end
theorem small1000{n:Nat}(h:n≤1000):n<sizeLine:=Nat.lt_of_le_of_lt h (by decide)
section
variable{X:Cx}
theorem pv(i:Nat){x:Str}{pos:Pos}(hN:X.N[i]?=some x:=by rfl)(hv:Vis X.env.scope x:=by first | exact Or.inl rfl | exact Or.inr (Or.inl rfl) | exact Or.inr (Or.inr rfl))(hd:(x==("__debug__":Str))=false:=by decide)
 (hcd:(x==("__classdict__":Str))=false:=by decide):PE X (.Name x pos) (tVar i):=pe_var hN hv hd hcd
end
theorem iteF{A B:Prop}(h:B):if false=true then A else B:=by
 rw[if_neg Bool.false_ne_true]
 exact h
theorem iteT{A B:Prop}(h:A):if true=true then A else B:=by
 rw[if_pos rfl]
 exact h
theorem iteNS{c A B:Prop}[Decidable c](hc:c)(h:B):if (!decide c)=true then A else B:=by
 rw[decide_eq_true hc]
 exact iteF h
def Same(H H':Hp):Prop:=∀b o,H b=some o→H' b=some o
theorem Same.refl(H:Hp):Same H H:=fun _ _ h=>h
theorem Same.trans{H H1 H2:Hp}(a:Same H H1)(b:Same H1 H2):Same H H2:=fun c o h=>b c o (a c o h)
theorem Same.free{H H':Hp}(e:Same H H'){l:Addr}(h:H' l=Option.none):H l=Option.none:=by
 cases q:H l with
 | none=>rfl
 | some o=>
  rw[e l o q] at h
  cases h
theorem Same.seq{K:PySem.W.Frag}{H H':Hp}{a:Addr}{xs:List V}(e:Same H H')(h:SqL K H a xs):SqL K H' a xs:=by
 rcases h with (h | ⟨o,h⟩) | h
 ·exact .inl (.inl (e _ _ h))
 ·exact .inl (.inr ⟨o,e _ _ h⟩)
 ·exact .inr h
end L2
set_option Elab.async false
set_option linter.all false
set_option maxRecDepth 100000
set_option maxHeartbeats 4000000
namespace L2
open PySem PySem.Spec PyProof.Rows
def Bt(k:Nat)(x:Int):Prop:=x.natAbs<2^k
theorem Bt.bits{k:Nat}{x:Int}(h:Bt k x):Builtin.Int.intBits x≤k:=PySem.intBits_le_iff.mpr h
theorem Bt.mono{k m:Nat}{x:Int}(h:Bt k x)(l:k≤m):Bt m x:=Nat.lt_of_lt_of_le h (Nat.pow_le_pow_right (by decide) l)
theorem Bt.le{k:Nat}{x y:Int}(h:Bt k y)(l:x.natAbs≤y.natAbs):Bt k x:=Nat.lt_of_le_of_lt l h
def CMulB(i j:Int):Prop:=∃n m:Nat,Bt n i∧Bt m j∧n+m≤134217728
theorem CMulB.ok{i j:Int}(h:CMulB i j):IntMulOk i j:=by
 obtain⟨n,m,h1,h2,h3⟩:=h
 have a:=h1.bits
 have b:=h2.bits
 have hs:((Builtin.Int.intBits i+Builtin.Int.intBits j:Nat):Int)≤2^27:=by
  have e:(2:Int)^27=134217728:=by decide
  rw[e];omega
 have hb:Builtin.Int.intTooBig ((Builtin.Int.intBits i+Builtin.Int.intBits j:Nat):Int)=false:=decide_eq_false (Int.not_lt.mpr hs)
 unfold IntMulOk
 first
  | (rw [show (((Builtin.Int.intBits i:Nat):Int)+((Builtin.Int.intBits j:Nat):Int))=((Builtin.Int.intBits i+Builtin.Int.intBits j:Nat):Int) by omega,hb];simp)
  | (rw [hb];simp)
  | (intro z;simp only[Bool.and_eq_true] at z;simp_all)
section
variable{X:Cx}{a b c:Expr}{ta tb tc:TE}{pos:Pos}
theorem op_mulB:OpR X (binaryOp .Mult) (rI CMulB fun i j=>.int (i*j)):=opI fun _ _ _ _ _ _ _ hc q=>mul_int q hc.ok
theorem log2_lt9000{j:Int}(h:Bt 9000 j):j.natAbs.log2<9000:=by
 by_cases h0:j.natAbs=0
 ·rw[h0];decide +kernel
 ·exact(Nat.log2_lt h0).mpr h
def CDivB(_ j:Int):Prop:=0<j∧Bt 9000 j
def CDivF(_ j:Int):Prop:=j≠0∧Bt 9000 j
theorem op_fdivB:OpR X (binaryOp .FloorDiv) (rI CDivB fun i j=>.int (i/j)):=opI fun i j _ _ _ _ _ hc q=>by
 have h1:(0:Int)<j:=hc.1
 exact floordiv_int (by omega) (by rw[Int.fdiv_eq_ediv_of_nonneg i (by omega)];exact q) (.inl (PyProof.noPylong_of_log2 (log2_lt9000 hc.2)))
theorem op_fdivF:OpR X (binaryOp .FloorDiv) (rI CDivF fun i j=>.int (i.fdiv j)):=opI fun i j _ _ _ _ _ hc q=>
 floordiv_int hc.1 q (.inl (PyProof.noPylong_of_log2 (log2_lt9000 hc.2)))
def CShl(i j:Int):Prop:=0≤j∧∃n:Nat,Bt n i∧(n:Int)+j≤134217728
theorem op_shlB:OpR X (binaryOp .LShift) (rI CShl fun i j=>.int (i*2^j.toNat)):=opI fun i j _ _ _ _ _ hc q=>by
 obtain⟨h0,n,hn,h1⟩:=hc
 have:=hn.bits
 refine lshift_int h0 ?_ q
 have e:(2:Int)^27=134217728:=by decide
 rw[e];omega
def rIsi(K:PySem.W.Frag):List V→Hp→VK→Prop:=fun xs H Q=>∃x c t b,xs=[x,.ty c]∧TyOf K H x t∧PySem.W.kitOne K t (.type c)=some b∧Q (.bl b) H
theorem call_isi:CallR X (.builtin "isinstance") (rIsi X.K):=by
 intro pins s σ H xs us Q I r h
 obtain⟨x,c,t,b,rfl,ty,e,q⟩:=h
 obtain⟨u,w',rfl,r1,r2⟩:=vals2 r
 cases (show w'=Value.type c from r2)
 exact isinst_ok I r1 ty e fun tk=>⟨.bl b,H,I.tok tk,rfl,q⟩
structure Cal(P:Program)(w:World)(K:PySem.W.Frag)(mg:Str→Option Value)(base:Heap)(k:Nat)(x:Str)(ps:List Str)(sp:Sp):Prop where
 ex:∃(f:Addr) (fd:FuncData),FnOk P w K mg base CX0 k f fd ps sp∧Binds K fd ps []∧PySem.W.keepIn K (.ref f)=true∧mg x=some (.ref f)
theorem pe_cal{k:Nat}{x:Str}{ps:List Str}{sp:Sp}{e:Expr}{es:List Expr}{t:TA}{p:Pos}(C:Cal X.prog X.w X.K X.mg X.base k x ps sp)(hr:Room k X.A)(hg:Gl X x)(ha:PA X (e::es) t)
 (hdb:(x==("__debug__":Str))=false:=by decide)(he:starEach (e::es) X.env=(false,eval e X.env)::starEach es X.env:=by rfl)(hpl:(backTo pos (starEach es X.env)).any (·.1)=false:=by rfl):
 PE X (.Call (.Name x p) (e::es) [] pos) (tCall sp [] E0 t):=by
 obtain⟨f,fd,F,b,kp,m⟩:=C.ex
 exact pe_call F hr hg m kp b .nil pass0 ha hdb he hpl
def tCut(t:TS):TS:=fun D σ H=>∃J:St→Hp→Prop,t { D with nx:=J } σ H∧∀σ' H',J σ' H'→D.nx σ' H'
theorem ps_cut{st:Stmt}{t:TS}(h:PS X st t):PS X st (tCut t):=by
 intro pins s σ H D I hw
 obtain⟨J,h1,h2⟩:=hw
 refine thn (h pins s σ H { D with nx:=J } I h1) fun f s1 q=>?_
 cases f with
 | next=>
  obtain⟨σ',H',I',q⟩:=q
  exact⟨σ',H',I',h2 _ _ q⟩
 | ret v=>exact q
 | brk=>exact q
 | cont=>exact q
theorem rd_cut{t:TS}{D:Ends}{σ:St}{H:Hp}(J:St→Hp→Prop)(h1:t { D with nx:=J } σ H)(h2:∀σ' H',J σ' H'→D.nx σ' H'):tCut t D σ H:=⟨J,h1,h2⟩
theorem rd_var{i:Nat}{σ:St}{H:Hp}{Q:VK}{v:V}(e:σ[i]?=some (some v))(h:Q v H):tVar i σ H Q:=⟨v,e,h⟩
theorem rd_c{v:V}{σ:St}{H:Hp}{Q:VK}(h:Q v H):tC v σ H Q:=h
theorem rd_op{r:R2}{σ:St}{H:Hp}{Q:VK}(h:ta σ H fun x H1=>tb σ H1 fun y H2=>r x y H2 Q):tOp r ta tb σ H Q:=h
theorem rd_un{r:V→Hp→VK→Prop}{σ:St}{H:Hp}{Q:VK}(h:ta σ H fun x H1=>r x H1 Q):tUn r ta σ H Q:=h
theorem rd_i0{g:Int→Int→V}{i j:Int}{H:Hp}{Q:VK}(h:Q (g i j) H):rI0 g (.int i) (.int j) H Q:=⟨i,j,rfl,rfl,h⟩
theorem rd_i{C:Int→Int→Prop}{g:Int→Int→V}{i j:Int}{H:Hp}{Q:VK}(c:C i j)(h:Q (g i j) H):rI C g (.int i) (.int j) H Q:=⟨i,j,rfl,rfl,c,h⟩
theorem rd_u{g:Int→V}{i:Int}{H:Hp}{Q:VK}(h:Q (g i) H):rU g (.int i) H Q:=⟨i,rfl,h⟩
theorem rd_eq{x y:V}{H:Hp}{Q:VK}(s:scal x y=true)(h:Q (.bl (decide (x=y))) H):rEq x y H Q:=⟨s,h⟩
theorem rd_ne{x y:V}{H:Hp}{Q:VK}(s:scal x y=true)(h:Q (.bl (!decide (x=y))) H):rNe x y H Q:=⟨s,h⟩
theorem rd_test{t:TE}{σ:St}{H:Hp}{Q:Bool→Hp→Prop}(h:t σ H fun x H'=>∃k,x=.bl k∧Q k H'):tTest t σ H Q:=h
theorem rd_b{t:TE}{σ:St}{H:Hp}{Q:Bool→Hp→Prop}(h:t σ H fun x H'=>∃k,x=.bl k∧Q k H'):L2.tB t σ H Q:=h
theorem rd_bl{k:Bool}{Q:Bool→Prop}(h:Q k):∃k',V.bl k=.bl k'∧Q k':=⟨k,rfl,h⟩
theorem rel_ty(n:String):RelV (.ty n) (.type n):=rfl
theorem rel_int(i:Int)(t:Tok):RelV (.int i) (.int i t):=⟨t,rfl⟩
theorem rd_not{t:TT}{σ:St}{H:Hp}{Q:Bool→Hp→Prop}(h:t σ H fun c H1=>Q (!c) H1):tNot t σ H Q:=h
theorem rd_or{t u:TT}{σ:St}{H:Hp}{Q:Bool→Hp→Prop}(h:t σ H fun c H1=>if c=true then Q true H1 else u σ H1 Q):tOr t u σ H Q:=h
theorem rd_andV{σ:St}{H:Hp}{Q:VK}(h:ta σ H fun x H1=>∃c,x=.bl c∧if c=true then tb σ H1 Q else Q (.bl false) H1):tAndV ta tb σ H Q:=h
theorem rd_notV{σ:St}{H:Hp}{Q:VK}(h:ta σ H fun x H1=>∃c,x=.bl c∧Q (.bl (!c)) H1):tNotV ta σ H Q:=h
theorem rd_chain{r r':R2}{σ:St}{H:Hp}{Q:VK}(h:ta σ H fun x H1=>tb σ H1 fun y H2=>r x y H2 fun z H3=>∃k,z=.bl k∧(if k=true then tc σ H3 fun w' H4=>r' y w' H4 Q else Q (.bl false) H3)):tChain r r' ta tb tc σ H Q:=h
theorem rd_call{sp:Sp}{dvs:List V}{E:XK}{t:TA}{σ:St}{H:Hp}{Q:VK}(h:t σ H fun vs H1=>sp (vs++dvs) H1 Q E):tCall sp dvs E t σ H Q:=h
theorem rd_cb{r:List V→Hp→VK→Prop}{t:TA}{σ:St}{H:Hp}{Q:VK}(h:t σ H fun vs H1=>r vs H1 Q):tCB r t σ H Q:=h
theorem rd_nil{σ:St}{H:Hp}{Q:List V→Hp→Prop}(h:Q [] H):tNil σ H Q:=h
theorem rd_cons{tr:TA}{σ:St}{H:Hp}{Q:List V→Hp→Prop}(h:ta σ H fun x H1=>tr σ H1 fun xs H2=>Q (x::xs) H2):tCons ta tr σ H Q:=h
theorem rd_tup{t:TA}{σ:St}{H:Hp}{Q:VK}(h:t σ H fun xs H1=>xs.length≤sizeLine∧∀p,H1 p=none→Q (.ref p) (upd H1 p (.tup xs))):tTup t σ H Q:=h
theorem rd_lst{t:TA}{σ:St}{H:Hp}{Q:VK}(h:t σ H fun xs H1=>xs.length≤sizeLine∧∀p,H1 p=none→Q (.ref p) (upd H1 p (.lst xs))):tLst t σ H Q:=h
theorem rd_seq{t u:TS}{D:Ends}{σ:St}{H:Hp}(h:t { D with nx:=u D } σ H):tSeq t u D σ H:=h
theorem rd_next{D:Ends}{σ:St}{H:Hp}(h:D.nx σ H):tNext D σ H:=h
theorem rd_ret{te:TE}{D:Ends}{σ:St}{H:Hp}(h:te σ H D.rt):tRet te D σ H:=h
theorem rd_ifS{c:TT}{t u:TS}{D:Ends}{σ:St}{H:Hp}(h:c σ H fun b H1=>if b=true then t D σ H1 else u D σ H1):tIfS c t u D σ H:=h
theorem rd_asg{te:TE}{g:TG}{D:Ends}{σ:St}{H:Hp}(h:te σ H fun x H1=>g x σ H1 D.nx):tAsg te g D σ H:=h
theorem rd_drop{te:TE}{D:Ends}{σ:St}{H:Hp}(h:te σ H fun _ H1=>D.nx σ H1):tDrop te D σ H:=h
theorem rd_gname{i:Nat}{v:V}{σ:St}{H:Hp}{Q:St→Hp→Prop}(h:Q (σ.set i (some v)) H):gName i v σ H Q:=h
theorem rd_ixT{K:PySem.W.Frag}{p:Addr}{xs:List V}{i:Int}{v:V}{H:Hp}{Q:VK}(hs:SqT K H p xs)(e:atI xs i=some v)(h:Q v H):rIxT K (.ref p) (.int i) H Q:=⟨p,xs,i,v,rfl,rfl,hs,e,h⟩
theorem rd_ixL{K:PySem.W.Frag}{p:Addr}{xs:List V}{i:Int}{v:V}{H:Hp}{Q:VK}(hs:SqL K H p xs)(e:atI xs i=some v)(h:Q v H):rIxL K (.ref p) (.int i) H Q:=⟨p,xs,i,v,rfl,rfl,hs,e,h⟩
theorem rd_isi{K:PySem.W.Frag}{x:V}{c:String}{t:Value}{b:Bool}{H:Hp}{Q:VK}(ty:TyOf K H x t)(e:PySem.W.kitOne K t (.type c)=some b)(h:Q (.bl b) H):rIsi K [x,.ty c] H Q:=⟨x,c,t,b,rfl,ty,e,h⟩
theorem iteD{c A B:Prop}[Decidable c](hc:c)(h:A):if decide c=true then A else B:=by
 rw[decide_eq_true hc];exact iteT h
theorem iteN{c A B:Prop}[Decidable c](hc:¬c)(h:B):if decide c=true then A else B:=by
 rw[decide_eq_false hc];exact iteF h
theorem iteNN{c A B:Prop}[Decidable c](hc:¬c)(h:A):if (!decide c)=true then A else B:=by
 rw[decide_eq_false hc];exact iteT h
theorem ite2d{c A B:Prop}[Decidable c](h1:c→A)(h2:¬c→B):if decide c=true then A else B:=by
 by_cases h:c
 ·exact iteD h (h1 h)
 ·exact iteN h (h2 h)
theorem Same.tup{K:PySem.W.Frag}{H H':Hp}{a:Addr}{xs:List V}(e:Same H H')(h:SqT K H a xs):SqT K H' a xs:=by
 rcases h with (h | ⟨o,h⟩) | h
 ·exact .inl (.inl (e _ _ h))
 ·exact .inl (.inr ⟨o,e _ _ h⟩)
 ·exact .inr h
theorem same_new{H:Hp}{p:Addr}(h:H p=none)(o:HO):Same H (upd H p o):=fun b u q=>by rw[upd_ne (ne_of_none q h)];exact q
theorem cdiv_small{i j:Int}(h0:0<j)(h1:j<18446744073709551616):CDivB i j:=⟨h0,Bt.mono (k:=64) (by unfold Bt;omega) (by decide)⟩
theorem bitAnd_nat(x y:Nat):Builtin.bitAnd (x:Int) (y:Int)=((x &&& y:Nat):Int):=PyProof.Rows.bitAnd_pp (Int.natCast_nonneg x) (Int.natCast_nonneg y)
theorem bitNot_neg(x:Nat):decide ((0:Int)≤Builtin.bitNot (x:Int))=false:=decide_eq_false (by unfold Builtin.bitNot;omega)
theorem bitOr_nat(x y:Nat):Builtin.bitOr (x:Int) (y:Int)=((x ||| y:Nat):Int):=by
 have e:∀z:Int,Builtin.bitNot (Builtin.bitNot z)=z:=fun z=>by unfold Builtin.bitNot;omega
 unfold Builtin.bitOr Builtin.bitAnd
 rw[bitNot_neg,bitNot_neg]
 dsimp only
 rw[e,e,e,Int.toNat_natCast,Int.toNat_natCast]
theorem bitXor_nat(x y:Nat):Builtin.bitXor (x:Int) (y:Int)=((x ^^^ y:Nat):Int):=by
 show Builtin.bitOr (x:Int) (y:Int)-Builtin.bitAnd (x:Int) (y:Int)=_
 rw[bitOr_nat,bitAnd_nat]
 have h:x ||| y=(x ^^^ y)+(x &&& y):=by
  have a:(x ^^^ y) &&& (x &&& y)=0:=by
   refine Nat.eq_of_testBit_eq fun i=>?_
   rw[Nat.testBit_and,Nat.testBit_xor,Nat.testBit_and,Nat.zero_testBit]
   cases x.testBit i<;>cases y.testBit i<;>rfl
  have b:x ||| y=(x ^^^ y) ||| (x &&& y):=by
   refine Nat.eq_of_testBit_eq fun i=>?_
   rw[Nat.testBit_or,Nat.testBit_or,Nat.testBit_xor,Nat.testBit_and]
   cases x.testBit i<;>cases y.testBit i<;>rfl
  have c:=PyProof.Rows.bitOr_and ((x ^^^ y:Nat):Int) ((x &&& y:Nat):Int)
  rw[bitOr_nat,bitAnd_nat,a,←b] at c
  omega
 omega
end
end L2
namespace Att
open PySem PySem.W PySem.Calls PyProof.Rows
theorem weight_item:∀{ns:List Int} {n:Int},n∈ns→Builtin.Int.intBits n≤WData.weightAll (ns.map WData.int)
 | m::ns,n,h=>by
  rw[List.map_cons]
  show _≤WData.weight (.int m)+1+WData.weightAll (ns.map WData.int)
  rcases List.mem_cons.mp h with rfl | h
  ·have e:WData.weight (.int n)=Builtin.Int.intBits n:=by first | rfl | (unfold Builtin.Int.intBits;rfl) | simp[WData.weight,Builtin.Int.intBits]
   omega
  ·have:=weight_item h
   omega
theorem bits_of_lay{ns:List Int}(h:WData.layableAll [WData.list (ns.map WData.int)]=true):∀n∈ns,L2.Bt 1048576 n:=fun n hn=>by
 have h1:WData.layable (WData.list (ns.map WData.int))=true:=(Bool.and_eq_true_iff.mp h).1
 have h2:WData.weight (WData.list (ns.map WData.int))≤2^20:=of_decide_eq_true (Bool.and_eq_true_iff.mp h1).2
 have h3:=weight_item hn
 have e:WData.weight (WData.list (ns.map WData.int))=WData.weightAll (ns.map WData.int):=by first | rfl | simp[WData.weight]
 refine PySem.intBits_le_iff.mp ?_
 omega
theorem attach_callB{l:OpenLaw}{n:Nat}{q:Program}{loose:List Str}{XP:(Str→Option Value)→Heap→Prop}{YP:World→Heap→Prop}{d:DefRec}
 (hn:l.most=some n)(hdf:d.params.defaults=[])
 (call:∀(w:World) (s₀ s₁:Shared) (mg mb:Str→Option Value) (fa:Addr) (o:Obj) (pm cd doc:Value) (a:Addr) (vs:List Value) (ns:List Int),
  Ground q loose [] XP w s₀ mg mb s₁.heap→YP w s₁.heap→
  s₁.heap.get? fa=some o→o.data=.func (docDef d.name d.params d.body d.scope pm cd doc)→s₁.heap.CodeRec cd d.name→mg d.name=some (.ref fa)→
  s₁.heap.get? a=some { cls:=.type "list",data:=.seq vs.toArray }→IntsAre vs ns→ns.length≤n→(∀n∈ns,L2.Bt 1048576 n)→s₁.gens= #[]→
  codeAny (model l.prog w) callerA (.call (.ref fa) ⟨[.ref a],[]⟩) (fun r s'=>r=.ok (.ret (.bool true))∧OldK s₁.heap s'.heap∧s'.os=s₁.os∧AllBare s'.gens) s₁):
 WalkO q loose XP YP l.row.toRowW d [] (fun f vs=>PySem.call f vs):=by
 intro w s₀ s₁ mg mb G Y fa o pm cd doc dV kV ho hd hcd hD hmg hg args vals as hpre hlay hrd hwl hlo
 obtain rfl:dV=.none:=Dflts.none hD hdf
 obtain rfl:kV=.none:=Dflts.noKw hD
 obtain⟨a,vs,ns,rfl,rfl,hobj,hints,hlen⟩:=script_of hn hpre hwl
 refine enter_call (codeAny_mono (call w s₀ s₁ mg mb fa o pm cd doc a vs ns G Y ho (fd_plain hd) hcd hmg hobj hints hlen (bits_of_lay hlay) hg) fun r s' hq=>?_)
 obtain⟨rfl,h2,h3,h4⟩:=hq
 exact⟨.inl ⟨.bool true,.bool true,[],rfl,fun _=>rfl,.bool true,post_true l _,fun _=>⟨List.Pairwise.nil,fun _ hm=>(nomatch hm)⟩⟩,h2,h3,h4⟩
end Att
namespace L2
open PySem PySem.Spec PyProof.Rows
def spLaw(K:PySem.W.Frag):Sp:=fun vs H Q _=>∃(a:Addr) (ns:List Int),vs=[.ref a]∧SqL K H a (ns.map V.int)∧ns.length≤63∧(∀n∈ns,Bt 1048576 n)∧∀H',Q (.bl true) H'
theorem walk_ofB{l:PySem.W.OpenLaw}{k:Nat}{q:Program}{loose:List Str}{XP:(Str→Option Value)→Heap→Prop}{YP:World→Heap→Prop}{d:DefRec}{K:Params→PySem.W.Frag}
 (hn:l.most=some 63)(hdf:d.params.defaults=[])(hr:Room k callerA)
 (hY:∀(w:World) (h:Heap),YP w h→(K w.params).In h)
 (F:∀(w:World) (mg:Str→Option Value) (fa:Addr) (h:Heap),(K w.params).In h→h.Ns mainGlobals mg→mg d.name=some (.ref fa)→
  ∃fd:FuncData,(∀(s:Shared) (u:Value),BindsTo s fd ⟨[u],[]⟩ [("_law_script",u)])∧
   ∀base:Heap,(K w.params).In base→base.Ns mainGlobals mg→FnOk l.prog w (K w.params) mg base CX0 k fa fd ["_law_script"] (spLaw (K w.params))):
 PySem.W.WalkO q loose XP YP l.row.toRowW d [] (fun f vs=>PySem.call f vs):=by
 refine Att.attach_callB hn hdf fun w s₀ s₁ mg mb fa o pm cd doc a vs ns G Y ho hd hcd hmg hobj hints hlen hbits hg=>?_
 have KX:=hY w _ Y
 obtain⟨fd,hb,hF⟩:=F w mg fa _ KX G.T.g hmg
 exact law_call KX G.T.g G.T.b G.T.builtins G.T.nolimit hg hobj hints (Nat.le_trans hlen (by decide)) hr hF hb (fun H hO hS=>⟨a,ns,rfl,hS,hlen,hbits,fun _=>rfl⟩) fun H e s'=>fun z=>z
end L2
set_option Elab.async false
set_option linter.all false
set_option maxRecDepth 100000
set_option maxHeartbeats 4000000
namespace L2
open PySem PySem.Spec PyProof.Rows
def compCx(X:Cx)(M:List Str)(x:Str)(scope:Scope)(cl:List (Str×Addr))(C:Addr)(s₀:Shared)(H₀:Hp)(fp:List Addr):Cx:=
 { X with N:=x::M,s₀:=s₀,H₀:=H₀,env:=compEnvC scope cl C X.env,outer:=X.stack,ex:=fp,fn:=fun _=>false,pn:=[],xe:=fun _ _=>False }
structure CompOk(X:Cx)(M:List Str)(x:Str)(scope:Scope)(cl:List (Str×Addr)):Prop where
 clos:closureFor scope X.env=pure cl
 cell:∀y∈scope.names,y.2≠.cell
 kind:scope.kind=.function
 names:∀y∈scope.names,y.2=.local→scope.names.lookup y.1=some .local
 xl:scope.names.lookup x=some .local
 nd:(x::M).Nodup
 len:M.length=X.N.length
 sub:∀y c,cl.lookup y=some c→X.env.cells.lookup y=some c
 has:∀y,((relabel scope X.env).names.lookup y=some .cell∨(relabel scope X.env).names.lookup y=some .free)→∃c,cl.lookup y=some c
 vis:∀(i:Nat) (y:Str),M[i]?=some y→Vis (relabel scope X.env) y→X.N[i]?=some y∧((relabel scope X.env).names.lookup y=some .cell∨(relabel scope X.env).names.lookup y=some .free)∧(X.env.scope.names.lookup y=some .cell∨X.env.scope.names.lookup y=some .free)
def PIfs(X:Cx)(ifs:List Expr)(t:TT):Prop:=
 ∀(pins:List (Addr×Obj)) (s:Shared) (σ:St) (H:Hp) (Q:Bool→Hp→Prop),Inv X pins σ H s→t σ H Q→
  wpAny (model X.prog X.w) X.A (forIn ifs true fun c r=>if r=true then do let ok ←isTrue c X.env (eval c X.env);pure (ForInStep.yield ok) else pure (ForInStep.yield r)) (TP X pins σ Q) X.xe s
def tTrue:TT:=fun _ H Q=>Q true H
section
variable{X:Cx}
theorem pifs_nil:PIfs X [] tTrue:=fun pins s σ H Q I h=>by
 rw[List.forIn_nil]
 exact wpAny_pure ⟨H,I,h⟩
theorem pifs_one{c:Expr}{t:TT}(hc:PT X c t):PIfs X [c] t:=fun pins s σ H Q I h=>by
 rw[List.forIn_cons]
 refine wpAny_bind ?_
 rw[if_pos rfl]
 refine wpAny_bind (thn (hc pins s σ H Q I h) fun b s1 q=>wpAny_pure ?_)
 dsimp only
 rw[List.forIn_nil]
 exact wpAny_pure q
def tComp(wi:TI)(tt:TT)(te:TE):TE:=fun σ H Q=>wi σ H fun J H1=>∀D,H1 D=none→∃W:Nat→Nat→List V→Hp→Prop,(∃m,W 0 m [] (upd H1 D (.lst [])))∧
 ∀i m ys H2,W i m ys H2→H2 D=some (.lst ys)∧((J.stop i H2∧Q (.ref D) H2)∨(J.go i H2∧ys.length<sizeLine∧∃m',m'<m∧∀x H3,J.yld i H2 x H3→
  tt (some x::σ) H3 fun b H4=>if b=true then te (some x::σ) H4 fun y H5=>H5 D=some (.lst ys)∧W (i+1) m' (ys++[y]) (upd H5 D (.lst (ys++[y]))) else W (i+1) m' ys H4))
theorem comp_ok{M:List Str}{pins:List (Addr×Obj)}{σ:St}{H:Hp}{s:Shared}{x:Str}{scope:Scope}{cl:List (Str×Addr)}{C:Addr}{fp:List Addr}(I:Inv X pins σ H s)(ok:CompOk X M x scope cl)(hC:s.heap.objs.size≤C)
 (hf:∀b∈fp,FpOk X pins H b)(hb:∀b∈fp,b<s.heap.objs.size):(compCx X M x scope cl C s H fp).Ok where
 mod:=I.ok.mod
 kind:=ok.kind
 glob:=I.ok.glob
 blt:=I.ok.blt
 above:=hC
 inj:=fun y z c h1 h2=>I.ok.inj y z c (ok.sub y c h1) (ok.sub z c h2)
 has:=ok.has
 cab:=fun y c h=>by cases h
 hd:=I.ok.hd
 frames:=I.ok.frames
 stk:=.inl rfl
 exf:=fun b h=>⟨Nat.ne_of_lt (Nat.lt_of_lt_of_le (hb b h) hC),fun y c e=>(hf b h).2.2.2.2.1 y c (ok.sub y c e)⟩
 bs:=I.bs
 bsz:=Nat.le_trans I.ok.bsz I.sz
 noex:=fun b o e h=>by
  rcases(hf b h).2.2.2.1 with z | z
  ·exact I.ok.noex b o e z
  ·exact absurd (Nat.lt_of_lt_of_le (Heap.lt_size (I.ok.bs b o e).1) z) (Nat.lt_irrefl _)
 exfs:=fun b h z=>by
  rcases List.mem_cons.mp (I.stkSub b z) with e | e
  ·exact(hf b h).2.1 e
  ·exact(hf b h).2.2.1 e
 funs:=I.stack
 frf:=I.stkFree
def CompR(tt:TT)(te:TE)(σ:St)(Q:VK):It→Hp→Prop:=fun J H1=>∀D,H1 D=none→∃W:Nat→Nat→List V→Hp→Prop,(∃m,W 0 m [] (upd H1 D (.lst [])))∧
 ∀i m ys H2,W i m ys H2→H2 D=some (.lst ys)∧((J.stop i H2∧Q (.ref D) H2)∨(J.go i H2∧ys.length<sizeLine∧∃m',m'<m∧∀x H3,J.yld i H2 x H3→
  tt (some x::σ) H3 fun b H4=>if b=true then te (some x::σ) H4 fun y H5=>H5 D=some (.lst ys)∧W (i+1) m' (ys++[y]) (upd H5 D (.lst (ys++[y]))) else W (i+1) m' ys H4))
theorem comp_core{M:List Str}{elt iter:Expr}{x:Str}{px pos:Pos}{ifs:List Expr}{scope:Scope}{cl:List (Str×Addr)}{tt:TT}{te:TE}(hc:X.calm=true)(ok:CompOk X M x scope cl)
 (ht:∀C s₀ H₀ fp,PIfs (compCx X M x scope cl C s₀ H₀ fp) ifs tt)(he:∀C s₀ H₀ fp,PE (compCx X M x scope cl C s₀ H₀ fp) elt te)
 {pins:List (Addr×Obj)}{σ:St}{H2:Hp}{s2:Shared}{it:Addr}{fp:List Addr}{tn:Nat→Heap→Prop}{J:It}{Q:VK}(I2:Inv X pins σ H2 s2)(T:Turn X.prog X.w X.K (.Name x px) J fp it tn)(st2:tn 0 s2.heap)(f2:∀b∈fp,FpOk X pins H2 b)
 (hW:CompR tt te σ Q J H2)(post:Value→Addr→Result→Shared→Prop)
 (fin:∀D C H3 s4,Inv X pins σ H3 s4→(∃m,s4.heap.Ns C m)→FpOk X pins H3 C→Q (.ref D) H3→post (.ref D) C (.ok .next) s4):
 wpAny (model X.prog X.w) X.A (newList []) (fun acc s₃=>wpAny (model X.prog X.w) X.A (newFunctionEnv scope X.env.globals cl [] X.env.qual none .none (some X.env)) (fun cenv s₄=>
  codeAny (model X.prog X.w) X.A (.compStart (.ListComp elt [⟨.Name x px,iter,ifs,0⟩] scope pos) 0 (.ref it) acc { cenv with scope:=relabel scope X.env }) (post acc cenv.locals) s₄) X.xe s₃) X.xe s2:=by
 refine wpAny_newObj_type (wpAny_newFunctionEnv ok.cell (by intro y hy;simp at hy) (fun h₁ hns₁ hsb₁=>?_) ok.kind)
 dsimp only at hns₁ hsb₁ ⊢
 generalize hH2:s2.heap.push { cls:=.type "list",dict:=none,data:=.seq ([]:List Value).toArray }=G2 at hns₁ hsb₁ ⊢
 have hC:G2.objs.size=s2.heap.objs.size+1:=by rw[←hH2,Heap.size_push]
 have hDC:s2.heap.objs.size≠G2.objs.size:=by rw[hC];exact Nat.ne_of_lt (Nat.lt_succ_self _)
 have hCle:s2.heap.objs.size≤G2.objs.size:=by rw[hC];exact Nat.le_succ _
 have below:∀b,b<s2.heap.objs.size→b≠G2.objs.size∧b≠s2.heap.objs.size:=fun b hb=>⟨by rw[hC];exact Nat.ne_of_lt (Nat.lt_succ_of_lt hb),Nat.ne_of_lt hb⟩
 have old:∀b o,s2.heap.get? b=some o→h₁.get? b=some o:=fun b o e=>hsb₁.extBut b o (below b (Heap.lt_size e)).1 (Heap.get?_push_of_some _ (hH2 ▸ Heap.get?_push_of_some _ e))
 have hacc:h₁.get? s2.heap.objs.size=some { cls:=.type "list",data:=.seq ([]:List Value).toArray }:=hsb₁.extBut _ _ hDC (Heap.get?_push_of_some _ (hH2 ▸ Heap.get?_push_size _ rfl))
 have fpb:∀b∈fp,b<s2.heap.objs.size:=fun b hb=>by
  obtain⟨o,e,_⟩:=T.obj _ _ st2 b hb
  exact Heap.lt_size e
 have hD0:H2 s2.heap.objs.size=none:=I2.hok.fresh (Nat.le_refl _)
 have hC0:H2 G2.objs.size=none:=I2.hok.fresh hCle
 generalize hDD:s2.heap.objs.size=D at*
 generalize hCC:G2.objs.size=C at*
 obtain⟨W,⟨m0,w0⟩,turn⟩:=hW D hD0
 have okX:(compCx X M x scope cl C s2 H2 fp).Ok:=comp_ok I2 ok (by rw[hDD];exact hCle) f2 (by rw[hDD];exact fpb)
 have lenN:(none::σ:St).length=(compCx X M x scope cl C s2 H2 fp).N.length:=by
  show(none::σ).length=(x::M).length
  rw[List.length_cons,List.length_cons,I2.len,ok.len]
 have locs:∀(h':Heap) (m:Str→Option Value) (w':Option V),(∀y c,X.env.cells.lookup y=some c→∀v,s2.heap.IsCell c v→h'.IsCell c v)→w'=none→
  ∀(i:Nat) (y:Str) (v:V),(x::M)[i]?=some y→(w'::σ:St)[i]?=some (some v)→Vis (relabel scope X.env) y→∃u,RelV v u∧Look (compEnvC scope cl C X.env) h' m y u:=by
  intro h' m w' hcell hw i y v e1 e2 e3
  subst hw
  cases i with
  | zero=>simp at e2
  | succ i=>
   have e0:M[i]?=some y:=by simpa using e1
   have e2':σ[i]?=some (some v):=by simpa using e2
   obtain⟨e1',k1,k2⟩:=ok.vis i y e0 e3
   obtain⟨m2,_,hl⟩:=I2.loc
   obtain⟨u,r,l⟩:=hl i y v e1' e2' (k2.elim (fun z=>.inr (.inl z)) fun z=>.inr (.inr z))
   obtain⟨c',hc'⟩:=ok.has y k1
   rcases l with ⟨z,_⟩ | ⟨_,c,hcc,z⟩
   ·have z':X.env.scope.names.lookup y=some .local:=z
    rcases k2 with q | q<;>(rw [q] at z';cases z')
   ·have q:=ok.sub y c' hc'
    rw[hcc] at q
    cases q
    exact⟨u,r,.inr ⟨k1,c',hc',hcell y c' hcc _ z⟩⟩
 have I0:Inv (compCx X M x scope cl C s2 H2 fp) [] (none::σ) (upd H2 D (.lst [])) { s2 with heap:=h₁,toks:=s2.toks+([]:List (Str×Value)).length }:=by
  refine⟨okX,rfl,I2.bare,?_,⟨_,hns₁,locs h₁ _ none (fun y c e v z=>?_) rfl⟩,fun y c e=>?_,?_,fun y c e=>?_,fun p hp=>?_,?_,lenN⟩
  ·exact Un.laid old (Nat.le_of_eq hDD) hD0
  ·obtain⟨o,ho,hd⟩:=z
   exact⟨o,old c o ho,hd⟩
  ·obtain⟨v,o,ho,hd⟩:=I2.cell y c (ok.sub y c e)
   exact⟨v,o,old c o ho,hd⟩
  ·show upd H2 D (.lst []) C=none
   rw[upd_ne (Ne.symm hDC)]
   exact hC0
  ·have hn:=I2.freeC y c (ok.sub y c e)
   obtain⟨v,o,ho,hd⟩:=I2.cell y c (ok.sub y c e)
   rw[upd_ne (fun z=>by have:=Heap.lt_size ho;rw[hDD,z] at this;exact Nat.lt_irrefl _ this)]
   exact hn
  ·exact absurd hp (by show p∉([]++[]:List (Addr×Obj));simp)
  ·refine I2.hok.laid old (Nat.le_of_eq hDD) ⟨Nat.zero_le _,[],_,.nil,hacc⟩
 have fpk:∀{H':Hp},(∀b∈fp,H' b=none)→∀b∈fp,FpOk (compCx X M x scope cl C s2 H2 fp) [] H' b:=fun hn b hb=>by
  refine⟨hn b hb,(below b (fpb b hb)).1,okX.exfs b hb,.inl hb,fun y c e=>(f2 b hb).2.2.2.2.1 y c (ok.sub y c e),fun p hp=>?_⟩
  exact absurd hp (by show p∉([]++[]:List (Addr×Obj));simp)
 have loop:∀s₃:Shared,s₃={ s2 with heap:=h₁,toks:=s2.toks+([]:List (Str×Value)).length }→
  codeAny (model X.prog X.w) X.A (.compLoop (.ListComp elt [⟨.Name x px,iter,ifs,0⟩] scope pos) 0 (.ref it) (.ref D) (compEnvC scope cl C X.env))
   (post (.ref D) C) s₃:=by
  rintro s₃ rfl
  refine codeAny_compLoop_tests (fun n s'=>∃i ys w' H',Inv (compCx X M x scope cl C s2 H2 fp) [] (w'::σ) H' s'∧tn i s'.heap∧(∀b∈fp,H' b=none)∧W i n ys H') ?_ m0
   ⟨0,[],none,_,I0,T.keep _ _ _ st2 (fun b _ o e=>old b o e),fun b hb=>by rw[upd_ne (below b (fpb b hb)).2];exact(f2 b hb).1,w0⟩
  rintro n s3 ⟨i,ys,w3,H3,I3,st3,fr3,wt⟩
  obtain⟨hD3,hh⟩:=turn i n ys H3 wt
  rcases hh with ⟨stop,q⟩ | ⟨go,hlen,m',hm,step⟩
  ·refine thn (T.done (compCx X M x scope cl C s2 H2 fp) rfl rfl rfl hc i [] s3 (w3::σ) H3 _ I3 (fpk fr3) st3 stop) fun r s4 ⟨hr,I4⟩=>?_
   subst hr
   obtain⟨m4,hn4,_⟩:=id I4.loc
   have hC4:H3 C=none:=I4.free
   exact fin D C H3 s4 (I2.call' (ch:=fp) I4.os I4.base I4.hok I4.bare fun b hb=>⟨(f2 b hb).2.2.2.1,(f2 b hb).2.1,(f2 b hb).2.2.2.2.1,(f2 b hb).2.2.2.2.2⟩) ⟨m4,hn4⟩ (I2.fpOk (by rw[hDD];exact hCle) hC4) q
  ·refine wpAny_mono (T.item (compCx X M x scope cl C s2 H2 fp) rfl rfl rfl hc i [] s3 (w3::σ) H3 (fun _ _=>False) I3 (fpk fr3) st3 go) (fun r s4 h4=>?_) (fun _ _ z=>z.elim)
   obtain⟨u,hr,h4⟩:=h4
   subst hr
   refine(show wpAny (model X.prog X.w) X.A (letOwnedTupleGo (.Name x px) (.ref it) u >>= fun _=>assign (.Name x px) (compEnvC scope cl C X.env) u) _ _ _ from wpAny_bind (wpAny_mono h4 (fun _ s4 h4=>?_) (fun _ _ z=>z.elim)))
   obtain⟨x',H5,I5,r5,y5,st5,fr5⟩:=h4
   have I5':=I5.pinned (fpk fr5) (T.obj _ _ st5)
   refine wpAny_assign_Name (store_ok (X:=compCx X M x scope cl C s2 H2 fp) (i:=0) I5' ok.nd rfl (.inl (lookup_relabel_local ok.xl)) r5 (fun s6 I6=>?_) (.inr (lookup_relabel_local ok.xl)))
   have I6':Inv (compCx X M x scope cl C s2 H2 fp) ([]++pinsAt fp s4.heap) (some x'::σ) H5 s6:=I6
   have back:∀{s7:Shared} {H7:Hp} {w7:Option V},Inv (compCx X M x scope cl C s2 H2 fp) ([]++pinsAt fp s4.heap) (w7::σ) H7 s7→tn (i+1) s7.heap∧(∀b∈fp,H7 b=none)∧Inv (compCx X M x scope cl C s2 H2 fp) [] (w7::σ) H7 s7:=fun{s7 H7 w7} I7=>by
    refine⟨T.keep _ _ _ st5 fun b hb o e=>(I7.pin (b,o) (List.mem_append_right _ (List.mem_append_right _ (mem_pinsAt hb e)))).1,fun b hb=>?_,I7.unpinned⟩
    obtain⟨o,e,d⟩:=T.obj _ _ st5 b hb
    exact(I7.pin (b,o) (List.mem_append_right _ (List.mem_append_right _ (mem_pinsAt hb e)))).2.1
   refine wpAny_mono (ht C s2 H2 fp _ s6 _ H5 _ I6' (step x' H5 y5)) (fun ok' s7 h7=>?_) (fun _ _ z=>z.elim)
   obtain⟨H7,I7,q7⟩:=h7
   cases ok' with
   | false=>
    have q7':W (i+1) m' ys H7:=by simpa using q7
    rw[if_neg Bool.false_ne_true]
    obtain⟨b1,b2,b3⟩:=back I7
    exact⟨m',hm,i+1,ys,_,H7,b3,b1,b2,q7'⟩
   | true=>
    rw[if_pos rfl] at q7 ⊢
    refine wpAny_mono (he C s2 H2 fp _ s7 _ H7 _ I7 q7) (fun y s8 h8=>?_) (fun _ _ z=>z.elim)
    obtain⟨v8,H8,I8,r8,hD8,w8⟩:=h8
    refine wpAny_mono (mt_append (X:=compCx X M x scope cl C s2 H2 fp) _ s8 _ H8 (.ref D) [v8] (.ref D) [y] (fun _ H9=>H9=upd H8 D (.lst (ys++[v8]))) I8 rfl (.cons r8 .nil) ⟨D,ys,v8,rfl,rfl,hD8,hlen,rfl⟩) (fun _ s9 h9=>?_) (fun _ _ z=>z.elim)
    obtain⟨v9,H9,I9,_,e9⟩:=h9
    subst e9
    obtain⟨b1,b2,b3⟩:=back I9
    exact⟨m',hm,i+1,_,_,_,b3,b1,b2,w8⟩
 exact codeAny_compStart_list (loop _ rfl) (T.self _ 0 _ _ _ (T.keep _ _ _ st2 (fun b _ o e=>old b o e)) (loop _ rfl))
theorem pe_comp{M:List Str}{elt iter:Expr}{x:Str}{px pos:Pos}{ifs:List Expr}{scope:Scope}{cl:List (Str×Addr)}{wi:TI}{tt:TT}{te:TE}(hc:X.calm=true)(ok:CompOk X M x scope cl)(hi:PI X (.Name x px) iter wi)
 (ht:∀C s₀ H₀ fp,PIfs (compCx X M x scope cl C s₀ H₀ fp) ifs tt)(he:∀C s₀ H₀ fp,PE (compCx X M x scope cl C s₀ H₀ fp) elt te)
 (hs:∀x,foldedSetIterable iter X.env x=pure x:=by intro _;rfl):
 PE X (.ListComp elt [⟨.Name x px,iter,ifs,0⟩] scope pos) (tComp wi tt te):=by
 intro pins s σ H Q I h
 rw[eval_ListComp]
 refine wpAny_comprehension_free (use:=none) rfl hs ok.clos ok.kind ok.names (thn (hi pins s σ H _ I h) fun xv s1 h1=>thn h1 fun itv s2 h2=>?_)
 obtain⟨it,fp,tn,J,H2,e,I2,T,st2,f2,hW⟩:=h2
 subst e
 refine comp_core hc ok ht he I2 T st2 f2 hW (compPost (model X.prog X.w) X.A X.xe none (EP X pins σ Q)) fun D C H3 s4 I4 hm fC q=>?_
 obtain⟨m,hn⟩:=hm
 exact⟨m,hn,fun h' hsb=>⟨.ref D,H3,I4.turned (t':=s4.toks) (fun b o hb e=>hsb.extBut b o hb e) fC.1 fC.2.1 fC.2.2.2.1 fC.2.2.2.2.1 fC.2.2.2.2.2,rfl,q⟩⟩
theorem vals_bls:∀{bs:List Bool} {us:List Value},Vals (bs.map V.bl) us→us=bs.map Value.bool
 | [],_,.nil=>rfl
 | b::bs,u::us,.cons r t=>by
  cases (show u=Value.bool b from r)
  rw[vals_bls t]
  rfl
theorem range_allB(bs:List Bool):((List.range bs.length).all fun i=>(bs[i]?).getD true)=bs.all id:=by
 induction bs with
 | nil=>rfl
 | cons b bs ih=>
  rw[List.length_cons,List.range_succ_eq_map,List.all_cons,List.all_map,List.all_cons,←ih]
  rfl
theorem kept_it{s:Shared}{h':Heap}{o:Obj}(hk:∀b x,b∉[s.heap.objs.size]→(s.heap.push o).get? b=some x→h'.get? b=some x):∀b x,s.heap.get? b=some x→h'.get? b=some x:=
 fun b x e=>hk b x (fun hm=>by rw[List.mem_singleton.mp hm] at e;exact Nat.lt_irrefl _ (Heap.lt_size e)) (Heap.get?_push_of_some _ e)
theorem call_all(hc:X.calm=true):CallR X (.builtin "all") (fun xs H Q=>∃(p:Addr) (bs:List Bool),xs=[.ref p]∧SqL X.K H p (bs.map V.bl)∧Q (.bl (bs.all id)) H):=by
 intro pins s σ H xs us Q I r h
 obtain⟨p,bs,rfl,hq,q⟩:=h
 obtain⟨u,rfl,ru⟩:=vals1 r
 cases (show u=Value.ref p from ru)
 obtain⟨its,rv,pl,_⟩:=I.list hq
 obtain rfl:=vals_bls rv
 have hl:=pl.isList
 have hlt:p<s.heap.objs.size:=by obtain⟨_,e,_⟩:=id hl;exact Heap.lt_size e
 refine call_all_walk (wpAny_pyIter_list hl ?_)
 refine⟨s.heap.objs.size,[s.heap.objs.size,p],[s.heap.objs.size],(bs.map Value.bool).toArray.size,_,_,fun i=>(bs[i]?).getD true,rfl,Walks.list (A:=X.A.in1) (I.ok.hd hc) _ p (Nat.ne_of_lt hlt) (bs.map Value.bool).toArray,
  ⟨⟨_,Heap.get?_push_size _ rfl,rfl,rfl⟩,hl.push _⟩,fun i v s' Q' E' hP hQ=>?_,fun h' tk hk=>?_⟩
 ·have hP':(bs.map Value.bool)[i]?=some v:=by simpa using hP
  rw[List.getElem?_map] at hP'
  cases e:bs[i]? with
  | none=>rw[e] at hP';cases hP'
  | some b=>
   rw[e] at hP'
   cases hP'
   simp only[e,Option.getD_some] at hQ
   exact wpAny_truthy_bool hQ
 ·have e:((List.range (bs.map Value.bool).toArray.size).all fun i=>(bs[i]?).getD true)=bs.all id:=by
   rw[List.size_toArray,List.length_map];exact range_allB bs
  rw[e]
  exact⟨.bl _,H,I.kept (kept_it hk),rfl,q⟩
theorem lookup_mem{κ β:Type}[BEq κ][LawfulBEq κ]{k:κ}{v:β}:∀{l:List (κ×β)},l.lookup k=some v→(k,v)∈l
 | (a,b)::r,h=>by
  rw[List.lookup_cons] at h
  cases e:k==a with
  | true=>
   rw[e] at h
   cases h
   rw[eq_of_beq e]
   exact List.mem_cons_self
  | false=>
   rw[e] at h
   exact List.mem_cons_of_mem _ (lookup_mem h)
theorem relabel_plain{scope:Scope}{env:Env}(h:∀y∈scope.names,y.2≠.free):(relabel scope env).names=scope.names:=
 map_eq_self fun x hx=>by
  obtain⟨n,k⟩:=x
  have:(k==NameKind.free)=false:=by simpa using h _ hx
  simp[this]
theorem compOk_nil{x:Str}{scope:Scope}(N:List Str)(hN:X.N=N)(hf:∀y∈scope.names,y.2≠.free∧y.2≠.cell)(hk:scope.kind=.function)(hn:∀y∈scope.names,y.2=.local→scope.names.lookup y.1=some .local)
 (hx:scope.names.lookup x=some .local)(nd:(x::N).Nodup)(vis:∀y∈N,scope.names.lookup y≠some .local):CompOk X N x scope []:=by
 have e:=relabel_plain (env:=X.env) fun y hy=>(hf y hy).1
 refine⟨closureFor_none fun y hy=>(hf y hy).1,fun y hy=>(hf y hy).2,hk,hn,hx,nd,by rw[hN],fun y c h=>(by cases h),fun y h=>?_,fun i y hy h=>?_⟩
 ·rw[e] at h
  rcases h with h | h
  ·exact absurd rfl (hf _ (lookup_mem h)).2
  ·exact absurd rfl (hf _ (lookup_mem h)).1
 ·rcases h with h | h | h
  ·rw[e] at h;exact absurd h (vis y (List.mem_of_getElem? hy))
  ·rw[e] at h;exact absurd rfl (hf _ (lookup_mem h)).2
  ·rw[e] at h;exact absurd rfl (hf _ (lookup_mem h)).1
structure Walk(J:It)(ok:Hp→Prop)(xs:List V):Prop where
 go:∀i H,ok H→i<xs.length→J.go i H
 yld:∀i H x H',ok H→J.yld i H x H'→i<xs.length→H'=H∧xs[i]?=some x
 stop:∀i H,ok H→xs.length≤i→J.stop i H
theorem walk_t{K:PySem.W.Frag}{a:Addr}{xs:List V}:Walk (Itt K a) (fun H=>SqT K H a xs) xs:=
 ⟨fun i H h hi=>⟨xs,xs[i],h,by simp[hi]⟩,fun i H x H' h y hi=>⟨y.1,y.2 xs h⟩,fun i H h hi=>⟨xs,h,hi⟩⟩
theorem walk_r{lo:Int}{n:Nat}:Walk (Itr lo n) (fun _=>True) ((List.range n).map fun i=>V.int (lo+(i:Nat))):=
 ⟨fun i H _ hi=>(by show i<n;simpa using hi),fun i H x H' _ y hi=>⟨y.1,by
  have hi':i<n:=by simpa using hi
  rw[y.2]
  simp[hi']⟩,fun i H _ hi=>(by show n≤i;simpa using hi)⟩
theorem comp_by{J:It}{ok:Hp→Prop}{xs:List V}{σ:St}{H:Hp}{Q:VK}{tt:TT}{te:TE}(Wk:Walk J ok xs)(hz:xs.length<sizeLine)(hok:∀D ys,H D=none→ok (upd H D (.lst ys)))(p:V→Bool)(f:V→V)
 (ht:∀x∈xs,∀D ys (Q':Bool→Hp→Prop),H D=none→Q' (p x) (upd H D (.lst ys))→tt (some x::σ) (upd H D (.lst ys)) Q')
 (he:∀x∈xs,p x=true→∀D ys (Q':VK),H D=none→Q' (f x) (upd H D (.lst ys))→te (some x::σ) (upd H D (.lst ys)) Q')
 (h:∀D,H D=none→Q (.ref D) (upd H D (.lst ((xs.filter p).map f)))):
 ∀D,H D=none→∃W:Nat→Nat→List V→Hp→Prop,(∃m,W 0 m [] (upd H D (.lst [])))∧
  ∀i m ys H2,W i m ys H2→H2 D=some (.lst ys)∧((J.stop i H2∧Q (.ref D) H2)∨(J.go i H2∧ys.length<sizeLine∧∃m',m'<m∧∀x H3,J.yld i H2 x H3→
   tt (some x::σ) H3 fun b H4=>if b=true then te (some x::σ) H4 fun y H5=>H5 D=some (.lst ys)∧W (i+1) m' (ys++[y]) (upd H5 D (.lst (ys++[y]))) else W (i+1) m' ys H4)):=by
 intro D hD
 refine⟨fun i m ys H2=>i≤xs.length∧m=xs.length-i∧ys=((xs.take i).filter p).map f∧H2=upd H D (.lst ys),⟨_,Nat.zero_le _,rfl,by simp,rfl⟩,?_⟩
 rintro i m ys H2 ⟨hi,rfl,hys,rfl⟩
 refine⟨upd_same,?_⟩
 by_cases hlt:i<xs.length
 ·have hl:ys.length≤i:=by
   rw[hys,List.length_map]
   exact Nat.le_trans (List.length_filter_le _ _) (by rw[List.length_take];omega)
  refine .inr ⟨Wk.go i _ (hok D ys hD) hlt,by omega,xs.length-(i+1),by omega,fun x H3 hy=>?_⟩
  obtain⟨e3,ex⟩:=Wk.yld i _ x H3 (hok D ys hD) hy hlt
  subst e3
  have hm:x∈xs:=List.mem_of_getElem? ex
  have et:xs.take (i+1)=xs.take i++[x]:=by rw[List.take_add_one,ex];rfl
  refine ht x hm D ys _ hD ?_
  cases hp:p x with
  | false=>
   rw[if_neg Bool.false_ne_true]
   refine⟨hlt,rfl,?_,rfl⟩
   rw[et,List.filter_append,hys]
   simp[hp]
  | true=>
   rw[if_pos rfl]
   refine he x hm hp D ys _ hD ⟨upd_same,hlt,rfl,?_,by rw[upd_upd]⟩
   rw[et,List.filter_append,hys]
   simp[hp]
 ·have e:i=xs.length:=by omega
  subst e
  refine .inl ⟨Wk.stop _ _ (hok D ys hD) (Nat.le_refl _),?_⟩
  rw[hys,List.take_length]
  exact h D hD
theorem rd_rng1{ta:TA}{σ:St}{H:Hp}{R:It→Hp→Prop}(h:ta σ H fun vs H1=>∃j:Int,vs=[.int j]∧ -(2^62)≤j∧j<2^62∧R (Itr 0 j.toNat) H1):iRng1 ta σ H R:=h
theorem rd_comp{wi:TI}{tt:TT}{te:TE}{σ:St}{H:Hp}{Q:VK}(h:wi σ H (CompR tt te σ Q)):tComp wi tt te σ H Q:=h
theorem comp_go{J:It}{ok:Hp→Prop}{xs:List V}{σ:St}{H:Hp}{Q:VK}{tt:TT}{te:TE}(Wk:Walk J ok xs)(hz:xs.length<sizeLine)(hok:∀D ys,H D=none→ok (upd H D (.lst ys)))(p:V→Bool)(f:V→V)
 (ht:∀x∈xs,∀D ys (Q':Bool→Hp→Prop),H D=none→Q' (p x) (upd H D (.lst ys))→tt (some x::σ) (upd H D (.lst ys)) Q')
 (he:∀x∈xs,p x=true→∀D ys (Q':VK),H D=none→Q' (f x) (upd H D (.lst ys))→te (some x::σ) (upd H D (.lst ys)) Q')
 (h:∀D,H D=none→Q (.ref D) (upd H D (.lst ((xs.filter p).map f)))):CompR tt te σ Q J H:=comp_by Wk hz hok p f ht he h
theorem comp_t{K:PySem.W.Frag}{i:Nat}{a:Addr}{xs:List V}{σ:St}{H:Hp}{Q:VK}{tt:TT}{te:TE}(ei:σ[i]?=some (some (.ref a)))(hS:SqT K H a xs)(hz:xs.length<sizeLine)(p:V→Bool)(f:V→V)
 (ht:∀x∈xs,∀D ys (Q':Bool→Hp→Prop),H D=none→Q' (p x) (upd H D (.lst ys))→tt (some x::σ) (upd H D (.lst ys)) Q')
 (he:∀x∈xs,p x=true→∀D ys (Q':VK),H D=none→Q' (f x) (upd H D (.lst ys))→te (some x::σ) (upd H D (.lst ys)) Q')
 (h:∀D,H D=none→Q (.ref D) (upd H D (.lst ((xs.filter p).map f)))):tComp (iTup K (tVar i)) tt te σ H Q:=
 ⟨_,ei,a,rfl,⟨_,hS⟩,comp_by walk_t hz (fun D ys hD=>(same_new hD _).tup hS) p f ht he h⟩
theorem compOk_freeM{x:Str}{scope:Scope}{cl:List (Str×Addr)}(M N:List Str)(hl:M.length=N.length)(hN:X.N=N)(clos:closureFor scope X.env=pure cl)(hc:(scope.names.all fun y=>y.2 != .cell)=true)(hk:scope.kind=.function)
 (hn:(scope.names.all fun y=>y.2 != .local||scope.names.lookup y.1==some .local)=true)(hx:scope.names.lookup x=some .local)(nd:(x::M).Nodup)
 (hs:∀p∈cl,X.env.cells.lookup p.1=some p.2)
 (hh:((relabel scope X.env).names.all fun p=>(p.2 != .cell&&p.2 != .free)||(cl.lookup p.1).isSome)=true)
 (hv:((M.zip N).all fun q=>match (relabel scope X.env).names.lookup q.1 with
  | some .local=>false
  | some .cell=>q.1==q.2&&(X.env.scope.names.lookup q.1==some .cell||X.env.scope.names.lookup q.1==some .free)
  | some .free=>q.1==q.2&&(X.env.scope.names.lookup q.1==some .cell||X.env.scope.names.lookup q.1==some .free)
  | _=>true)=true):CompOk X M x scope cl:=by
 refine⟨clos,fun y hy=>?_,hk,fun y hy hl=>?_,hx,nd,by rw[hN];exact hl,fun y c h=>hs _ (lookup_mem h),fun y h=>?_,fun i y hy h=>?_⟩
 ·have:=List.all_eq_true.mp hc y hy
  simpa using this
 ·have:=List.all_eq_true.mp hn y hy
  simpa [hl] using this
 ·rcases h with h | h
  ·have:=List.all_eq_true.mp hh _ (lookup_mem h)
   exact Option.isSome_iff_exists.mp (by simpa using this)
  ·have:=List.all_eq_true.mp hh _ (lookup_mem h)
   exact Option.isSome_iff_exists.mp (by simpa using this)
 ·have hi:i<N.length:=by
   have:=(List.getElem?_eq_some_iff.mp hy).1
   omega
  have hz:(y,N[i])∈M.zip N:=by
   have:(M.zip N)[i]?=some (y,N[i]):=List.getElem?_zip_eq_some.mpr ⟨hy,by simp[hi]⟩
   exact List.mem_of_getElem? this
  have z:=List.all_eq_true.mp hv _ hz
  have fin:y=N[i]→X.N[i]?=some y:=fun e=>by rw[hN,e];simp[hi]
  rcases h with h | h | h
  ·dsimp only at z
   rw[h] at z;cases z
  ·dsimp only at z
   rw[h] at z
   simp only[Bool.and_eq_true,beq_iff_eq,Bool.or_eq_true] at z
   exact⟨fin z.1,.inl h,z.2⟩
  ·dsimp only at z
   rw[h] at z
   simp only[Bool.and_eq_true,beq_iff_eq,Bool.or_eq_true] at z
   exact⟨fin z.1,.inr h,z.2⟩
theorem filt(p:V→Bool)(q:Int→Bool)(hp:∀d,p (.int d)=q d)(g:Nat→Int):∀ks:List Nat,((ks.map fun i=>V.int (g i)).filter p).map (fun v=>v)=((ks.map g).filter q).map V.int
 | []=>rfl
 | k::ks=>by
  have ih:=filt p q hp g ks
  simp only[List.map_cons,List.filter_cons,hp]
  cases q (g k) with
  | true=>simpa using ih
  | false=>simpa using ih
theorem rd_append{K:PySem.W.Frag}{i:Nat}{t:TA}{σ:St}{H:Hp}{Q:VK}{l:Addr}{xs:List V}(e:σ[i]?=some (some (.ref l)))(h:H l=some (.lst xs))
 (g:t σ H fun ys H2=>rAppend (.ref l) ys H2 Q):tBM K "list" rAppend (tVar i) t σ H Q:=⟨_,e,.inl ⟨rfl,_,SqL.of h⟩,g⟩
theorem rd_app{l:Addr}{xs:List V}{y:V}{H:Hp}{Q:VK}(h:H l=some (.lst xs))(hz:xs.length<sizeLine)(q:Q .non (upd H l (.lst (xs++[y])))):rAppend (.ref l) [y] H Q:=⟨l,xs,y,rfl,rfl,h,hz,q⟩
theorem rd_for{wi:TI}{g:TG}{tb:TS}{D:Ends}{σ:St}{H:Hp}(h:wi σ H fun J H1=>∃W:Nat→Nat→St→Hp→Prop,(∃m,W 0 m σ H1)∧∀i m σ H,W i m σ H→
 (J.stop i H∧D.nx σ H)∨(J.go i H∧∃N:St→Hp→Prop,(∀σ' H',N σ' H'→∃m',m'<m∧W (i+1) m' σ' H')∧∀x H',J.yld i H x H'→g x σ H' fun σ2 H2=>tb { D with nx:=N,ct:=N,bk:=D.nx } σ2 H2)):tFor wi g tb D σ H:=h
theorem rd_iL{K:PySem.W.Frag}{tl:TE}{σ:St}{H:Hp}{R:It→Hp→Prop}(h:tl σ H fun x H1=>∃a,x=.ref a∧(∃xs,SqL K H1 a xs)∧R (Itl K a) H1):iList K tl σ H R:=h
theorem rd_iT{K:PySem.W.Frag}{tl:TE}{σ:St}{H:Hp}{R:It→Hp→Prop}(h:tl σ H fun x H1=>∃a,x=.ref a∧(∃xs,SqT K H1 a xs)∧R (Itt K a) H1):iTup K tl σ H R:=h
theorem same_app{H H':Hp}{l:Addr}{o:HO}(h:H l=none)(s:Same H H'):Same H (upd H' l o):=fun b u e=>by
 rw[upd_ne (ne_of_none e h)]
 exact s b u e
end
end L2
set_option Elab.async false
set_option linter.all false
set_option maxRecDepth 100000
set_option maxHeartbeats 4000000
namespace L2
open PySem PySem.Spec PyProof.Rows
def XObj(h:Heap)(e:Addr)(cls:Value)(dd:Option Addr)(head:Value):Prop:=∃vs sl,h.get? e=some ⟨cls,dd,.fields vs,sl⟩∧vs[1]?=some head
def XTr(h base:Heap)(e:Addr)(cls:Value)(dd:Option Addr)(fl:Value):Prop:=∃T,XObj h e cls dd (.ref T)∧base.get? T=none∧T≠e∧∃oT ts,h.get? T=some oT∧oT.data=.fields ts∧ts[3]?=some fl
structure Sea(base:Heap)(l:List Env)(e:Addr)(h:Heap):Prop where
 stays:base.StaysIn h
 new:base.get? e=none
 frames:h.FunFrames base l
section
variable{M:Model}{A:Around}{E:Value→Shared→Prop}{s:Shared}{base:Heap}{env:Env}{outer l:List Env}{L e:Addr}{cls:Value}{dd:Option Addr}
theorem fields_set{o:Obj}{vs:Array Value}(hd:o.data=.fields vs)(i:Nat)(x:Value):Obj.mapFields (·.setIfInBounds i x) o=⟨o.cls,o.dict,.fields (vs.setIfInBounds i x),o.slots⟩:=by
 obtain⟨c,d,dt,sl⟩:=o
 cases hd
 rfl
theorem entry_x{head:Value}{nx:Bool}{Q:Unit→Shared→Prop}(hfr:A.frames=some (env::outer))(hf:env.frame=some L)(S:Sea base (env::outer) e s.heap){hd0:Value}(O:XObj s.heap e cls dd hd0)
 (k:∀h',Sea base (env::outer) e h'→XTr h' base e cls dd (rawInt L)→s.heap.UpToSlots h'→Q () { s with heap:=h' }):
 wpAny M A (do let a ←frameOf env;let pl ←entryPlaceOf L nx;let b ←EntryCells.newEntry head a .none (rawInt L) .none pl;setField (.ref e) 1 b) Q E s:=by
 obtain⟨vs,sl,he,h1⟩:=O
 have nofr:e∉(env::outer).filterMap (·.frame):=fun z=>by
  obtain⟨_,o,ho,hn⟩:=S.frames.mem z
  rw[he] at ho
  cases ho
  exact hn vs rfl
 refine wpAny_bind (wpAny_frameOf_fun hfr S.frames hf fun g1 so=>wpAny_bind (wpAny_entryPlaceOf fun pl hpl=>?_))
 unfold EntryCells.newEntry newFields;refine wpAny_bind (wpAny_newObj_type ?_ (hpl.sizeOk5 _ _ _ _ _))
 generalize hob:({ cls:=.type "traceback",dict:=none,data:=.fields ([head,.ref L,.none,rawInt L,.none]++(if pl.isEmpty then List.replicate 6 Value.none else pl)).toArray }:Obj)=tb
 have e1:g1.get? e=some ⟨cls,dd,.fields vs,sl⟩:=(so.2.1 e nofr).trans he
 have b1:base.StaysIn g1:=fun b o q=>(so.2.1 b fun z=>by rw[(S.frames.mem z).1] at q;cases q).trans (S.stays b o q)
 have e2:(g1.push tb).get? e=some ⟨cls,dd,.fields vs,sl⟩:=Heap.get?_push_of_some _ e1
 have ne:g1.objs.size≠e:=Nat.ne_of_gt (Heap.lt_size e1)
 have sz:1<vs.size:=(Array.getElem?_eq_some_iff.mp h1).1
 have tbf:tb.isFreed=false:=by rw[←hob];rfl
 refine wpAny_setField e2 rfl sz (k _ ⟨fun b o q=>?_,S.new,?_⟩ ?_ ?_)
 ·have hbe:b≠e:=fun z=>by rw[z,S.new] at q;cases q
  rw[Heap.get?_update_other _ _ (Ne.symm hbe)]
  exact Heap.get?_push_of_some _ (b1 b o q)
 ·refine S.frames.of_keeps fun b o q hn=>?_
  have hbe:b≠e:=fun z=>by rw[z,he] at q;cases q;exact hn vs rfl
  obtain⟨sl',q'⟩:=so.2.2 b o q
  refine⟨{ o with slots:=sl' },?_,rfl⟩
  rw[Heap.get?_update_other _ _ (Ne.symm hbe)]
  exact Heap.get?_push_of_some _ q'
 ·refine⟨g1.objs.size,⟨vs.setIfInBounds 1 (.ref g1.objs.size),sl,?_,?_⟩,b1.fresh,ne,tb,([head,.ref L,.none,rawInt L,.none]++(if pl.isEmpty then List.replicate 6 Value.none else pl)).toArray,?_,by rw[←hob],?_⟩
  ·rw[Heap.get?_update_self _ e2 (by rw[fields_set rfl];rfl),fields_set rfl]
  ·rw[Array.getElem?_setIfInBounds_self_of_lt sz]
  ·rw[Heap.get?_update_other _ _ (Ne.symm ne)]
   exact Heap.get?_push_size _ tbf
  ·simp
 ·intro b o q hn
  have hbe:b≠e:=fun z=>by rw[z,he] at q;cases q;exact hn vs rfl
  obtain⟨sl',q'⟩:=so.2.2 b o q
  refine⟨sl',?_⟩
  rw[Heap.get?_update_other _ _ (Ne.symm hbe)]
  exact Heap.get?_push_of_some _ q'
theorem note_new{Q:Unit→Shared→Prop}(hfr:A.frames=some (env::outer))(hf:env.frame=some L)(S:Sea base (env::outer) e s.heap)(O:XObj s.heap e cls dd .none)
 (k:∀h',Sea base (env::outer) e h'→XTr h' base e cls dd (rawInt L)→s.heap.UpToSlots h'→Q () { s with heap:=h' }):wpAny M A (noteFrame (.ref e) env) Q E s:=by
 obtain⟨vs,sl,he,h1⟩:=id O
 unfold noteFrame
 simp only[hf]
 refine wpAny_bind (wpAny_field he rfl h1 ?_)
 rw[if_neg (by decide)]
 exact entry_x hfr hf S O k
theorem note_on{Q:Unit→Shared→Prop}(hfr:A.frames=some (env::outer))(hf:env.frame=some L)(S:Sea base (env::outer) e s.heap)(O:XTr s.heap base e cls dd .none)
 (k:∀h',Sea base (env::outer) e h'→XTr h' base e cls dd (rawInt L)→s.heap.UpToSlots h'→Q () { s with heap:=h' }):wpAny M A (noteFrame (.ref e) env) Q E s:=by
 obtain⟨T,⟨vs,sl,he,h1⟩,tb,ne,oT,ts,hT,dT,h3⟩:=O
 unfold noteFrame
 simp only[hf]
 refine wpAny_bind (wpAny_field he rfl h1 ?_)
 rw[if_pos (show (Value.ref T != Value.none)=true by simp)]
 refine wpAny_bind (wpAny_field hT dT h3 ?_)
 rw[if_neg (show ¬((Value.none==rawInt L)=true) by simp[rawInt])]
 refine wpAny_bind (wpAny_setField hT dT (Array.getElem?_eq_some_iff.mp h3).1 ?_)
 have oth:∀b,b≠T→(s.heap.update T (Obj.mapFields (·.setIfInBounds 3 Value.none))).get? b=s.heap.get? b:=fun b hb=>Heap.get?_update_other _ _ (Ne.symm hb)
 have nT:∀b o,s.heap.get? b=some o→(∀ws,o.data≠.fields ws)→b≠T:=fun b o q hn z=>by
  rw[z,hT] at q
  cases q
  exact hn ts dT
 refine entry_x (hd0:=.ref T) (s:={ s with heap:=s.heap.update T (Obj.mapFields (·.setIfInBounds 3 Value.none)) }) hfr hf ⟨fun b o q=>?_,S.new,?_⟩ ⟨vs,sl,(oth e (Ne.symm ne)).trans he,h1⟩ fun h' a b c=>k h' a b fun x o q hn=>?_
 ·exact(oth b fun z=>by rw[z,tb] at q;cases q).trans (S.stays b o q)
 ·exact S.frames.of_keeps fun b o q hn=>⟨o,(oth b (nT b o q hn)).trans q,rfl⟩
 ·exact c x o ((oth x (nT x o q hn)).trans q) hn
theorem flight_off{fl:Value}{Q:Unit→Shared→Prop}(S:Sea base l e s.heap)(O:XTr s.heap base e cls dd fl)
 (k:∀h',Sea base l e h'→XTr h' base e cls dd .none→s.heap.UpToSlots h'→Q () { s with heap:=h' }):wpAny M A (setFlight (.ref e) none) Q E s:=by
 obtain⟨T,⟨vs,sl,he,h1⟩,tb,ne,oT,ts,hT,dT,h3⟩:=O
 have sz:3<ts.size:=(Array.getElem?_eq_some_iff.mp h3).1
 unfold setFlight
 refine wpAny_bind (wpAny_field he rfl h1 ?_)
 rw[if_pos (show (Value.ref T != Value.none)=true by simp)]
 have oth:∀b,b≠T→(s.heap.update T (Obj.mapFields (·.setIfInBounds 3 ((none:Option Addr).elim Value.none fun f=>rawInt f)))).get? b=s.heap.get? b:=fun b hb=>Heap.get?_update_other _ _ (Ne.symm hb)
 have nT:∀b o,s.heap.get? b=some o→(∀ws,o.data≠.fields ws)→b≠T:=fun b o q hn z=>by
  rw[z,hT] at q
  cases q
  exact hn ts dT
 refine wpAny_setField hT dT sz (k _ ⟨fun b o q=>?_,S.new,?_⟩ ⟨T,⟨vs,sl,(oth e (Ne.symm ne)).trans he,h1⟩,tb,ne,_,ts.setIfInBounds 3 .none,Heap.get?_update_self _ hT ?_,?_,?_⟩ fun b o q hn=>⟨o.slots,(oth b (nT b o q hn)).trans q⟩)
 ·exact(oth b fun z=>by rw[z,tb] at q;cases q).trans (S.stays b o q)
 ·exact S.frames.of_keeps fun b o q hn=>⟨o,(oth b (nT b o q hn)).trans q,rfl⟩
 ·rw[fields_set dT];rfl
 ·rw[fields_set dT];rfl
 ·rw[Array.getElem?_setIfInBounds_self_of_lt sz]
theorem Sea.tail(S:Sea base (env::outer) e s.heap):Sea base outer e s.heap:=⟨S.stays,S.new,S.frames.2.2⟩
theorem leave_new{Q:Unit→Shared→Prop}(hfr:A.frames=some (env::outer))(hf:env.frame=some L)(S:Sea base (env::outer) e s.heap)(O:XObj s.heap e cls dd .none)
 (k:∀h',Sea base outer e h'→XTr h' base e cls dd .none→s.heap.UpToSlots h'→Q () { s with heap:=h' }):wpAny M A (leaving env (.ref e)) Q E s:=by
 unfold leaving
 refine wpAny_bind (note_new hfr hf S O fun h1 S1 O1 u1=>?_)
 exact flight_off (s:={ s with heap:=h1 }) S1 O1 fun h2 S2 O2 u2=>k h2 (Sea.tail (s:={ s with heap:=h2 }) S2) O2 (u1.trans u2)
theorem leave_on{Q:Unit→Shared→Prop}(hfr:A.frames=some (env::outer))(hf:env.frame=some L)(S:Sea base (env::outer) e s.heap)(O:XTr s.heap base e cls dd .none)
 (k:∀h',Sea base outer e h'→XTr h' base e cls dd .none→s.heap.UpToSlots h'→Q () { s with heap:=h' }):wpAny M A (leaving env (.ref e)) Q E s:=by
 unfold leaving
 refine wpAny_bind (note_on hfr hf S O fun h1 S1 O1 u1=>?_)
 exact flight_off (s:={ s with heap:=h1 }) S1 O1 fun h2 S2 O2 u2=>k h2 (Sea.tail (s:={ s with heap:=h2 }) S2) O2 (u1.trans u2)
end
end L2
set_option Elab.async false
set_option linter.all false
set_option maxRecDepth 100000
set_option maxHeartbeats 4000000
namespace L2
open PySem PySem.Spec PyProof.Rows
def Old(fs:List Addr)(H:Hp)(h B:Heap):Prop:=∀b u,h.get? b=some u→b∉fs→∃u',B.get? b=some u'∧(H b=none→u'=u)
def Tra(H:Hp)(h B:Heap):Prop:=∀b o,H b=some o→∃u,h.get? b=some u∧B.get? b=some u
section
variable{P:Program}{w:World}{fs:List Addr}{H H':Hp}{h h1 h2 B:Heap}
theorem un_flown(u:Un fs [] H H' h h1)(o:Old fs H h B)(st:B.StaysIn h2)(up:h1.UpToSlots h2)(fr:∀b∈fs,∃ob,h1.get? b=some ob∧∀vs,ob.data≠.fields vs):Un fs [] H H' h h2 where
 keep:=fun b ob q n hb hx=>by
  obtain⟨u',e,z⟩:=o b ob q hb
  rw[z n] at e
  exact st _ _ e
 slot:=fun b ob q n hb hx=>by
  obtain⟨sl,e⟩:=u.slot b ob q n hb hx
  obtain⟨o2,e2,nf⟩:=fr b hb
  rw[e] at e2
  cases e2
  obtain⟨sl',e3⟩:=up b _ e nf
  exact⟨sl',e3⟩
 free:=u.free
 there:=fun b ob q hx=>by
  by_cases hb:b∈fs
  ·obtain⟨o2,e2,nf⟩:=fr b hb
   obtain⟨sl,e3⟩:=up b _ e2 nf
   exact⟨_,e3⟩
  ·obtain⟨u',e,_⟩:=o b ob q hb
   exact⟨u',st _ _ e⟩
 tups:=u.tups
 frzs:=u.frzs
 tbls:=u.tbls
theorem hok_flown(ok:HOk P w H' h1)(t:Tra H' h1 B)(st:B.StaysIn h2):HOk P w H' h2:=fun a o e=>by
 refine(ok a o e).stay (fun b u hb q=>?_) (fun _ q=>q) fun _ _ q=>q
 have go:∀ob,H' b=some ob→h2.get? b=some u:=fun ob z=>by
  obtain⟨u',e1,e2⟩:=t b ob z
  rw[q] at e1
  cases e1
  exact st _ _ e2
 rcases hb with z | z
 ·exact go o (z ▸ e)
 ·exact go _ z
theorem Tra.later(t:Tra H' h1 B)(st:B.StaysIn h2):Tra H' h2 B:=fun b o e=>by
 obtain⟨u,_,q⟩:=t b o e
 exact⟨u,st _ _ q,q⟩
end
def CX1(P:Program)(w:World):CXT:=fun outer H s E e s'=>∃(ea:Addr) (cls:Value) (dx:Option Addr) (B:Heap) (H':Hp),e=.ref ea∧s'.os=s.os∧AllBare s'.gens∧Un (frs outer) [] H H' s.heap s'.heap∧
 HOk P w H' s'.heap∧Sea B outer ea s'.heap∧XTr s'.heap B ea cls dx .none∧Old (frs outer) H s.heap B∧Tra H' s'.heap B∧E cls dx H'
def CXM(P:Program)(w:World):CXT:=fun outer H s E e s'=>∃(ea:Addr) (cls:Value) (dx:Option Addr) (B:Heap) (H':Hp),e=.ref ea∧s'.os=s.os∧AllBare s'.gens∧Un (frs outer) [] H H' s.heap s'.heap∧
 HOk P w H' s'.heap∧Sea B outer ea s'.heap∧XObj s'.heap ea cls dx .none∧Old (frs outer) H s.heap B∧Tra H' s'.heap B∧E cls dx H'
structure Thr(X:Cx)(EE:Value→Option Addr→St→Hp→Prop):Prop where
 call:∀(pins:List (Addr×Obj)) (σ:St) (H:Hp) (s:Shared) (e:Value) (s':Shared),Inv X pins σ H s→CX1 X.prog X.w X.stack H s (fun c d H'=>EE c d σ H') e s'→X.xe e s'
 made:∀(pins:List (Addr×Obj)) (σ:St) (H:Hp) (s:Shared) (e:Value) (s':Shared),Inv X pins σ H s→CXM X.prog X.w X.stack H s (fun c d H'=>EE c d σ H') e s'→X.xe e s'
section
variable{X:Cx}{pins:List (Addr×Obj)}{σ:St}{H H':Hp}{s:Shared}
theorem frames_are(I:Inv X pins σ H s){s':Shared}(u:Un (frs X.stack) [] H H' s.heap s'.heap):∀b∈frs X.stack,∃ob,s'.heap.get? b=some ob∧∀vs,ob.data≠.fields vs:=fun b hb=>by
 obtain⟨_,o,ho,hn⟩:=I.stack.mem hb
 obtain⟨sl,e⟩:=u.any ho (I.stkFree b hb) (by simp)
 exact⟨_,e,hn⟩
theorem un_out{s2:Heap}(I:Inv X pins σ H s)(hx:X.ex=[])(hst:X.stack=X.env::X.outer)(hfr:X.env.frame=some X.env.locals)(u:Un (frs X.stack) [] H H' s.heap s2):Un X.fs [] X.H₀ H' X.s₀.heap s2:=by
 have nl:∀b o,X.s₀.heap.get? b=some o→b≠X.env.locals:=fun b o e=>Nat.ne_of_lt (Nat.lt_of_lt_of_le (Heap.lt_size e) I.ok.above)
 have sub:∀b,b∈frs X.stack→b=X.env.locals∨b∈X.fs:=fun b hb=>List.mem_cons.mp (I.stkSub b hb)
 have sup:∀b,b∈X.fs→b∈frs X.stack:=fun b hb=>by
  rw[hst]
  show b∈(X.env::X.outer).filterMap (·.frame)
  rw[List.filterMap_cons,hfr]
  exact List.mem_cons_of_mem _ hb
 have ie:∀b,b∉X.ex:=fun b=>by rw[hx];simp
 exact{
  keep:=fun b o e n hb _=>u.keep b o (I.base.keep b o e n hb (ie b)) (I.base.free b o e n (ie b)) (fun z=>(sub b z).elim (nl b o e) hb) (by simp)
  slot:=fun b o e n hb _=>by
   obtain⟨sl,e1⟩:=I.base.slot b o e n hb (ie b)
   obtain⟨sl',e2⟩:=u.slot b _ e1 (I.base.free b o e n (ie b)) (sup b hb) (by simp)
   exact⟨sl',e2⟩
  free:=fun b o e n _=>by
   obtain⟨o',e1⟩:=I.base.there b o e (ie b)
   exact u.free b o' e1 (I.base.free b o e n (ie b)) (by simp)
  there:=fun b o e _=>by
   obtain⟨o',e1⟩:=I.base.there b o e (ie b)
   exact u.there b o' e1 (by simp)
  tups:=fun b xs e=>u.tups b xs (I.base.tups b xs e)
  frzs:=fun b o xs e=>u.frzs b o xs (I.base.frzs b o xs e)
  tbls:=fun b ps e=>by
   obtain⟨m1,e1⟩:=I.base.tbls b ps e
   obtain⟨m2,e2⟩:=u.tbls b _ e1
   exact⟨m1++m2,by rw[e2,Array.append_assoc]⟩ }
theorem old_out{B:Heap}(I:Inv X pins σ H s)(hx:X.ex=[])(o:Old (frs X.stack) H s.heap B):Old X.fs X.H₀ X.s₀.heap B:=fun b u e hb=>by
 have ie:b∉X.ex:=by rw[hx];simp
 have hs:b∉frs X.stack:=fun z=>(List.mem_cons.mp (I.stkSub b z)).elim (fun q=>Nat.lt_irrefl _ (Nat.lt_of_lt_of_le (Heap.lt_size e) (q ▸ I.ok.above))) hb
 obtain⟨o',e1⟩:=I.base.there b u e ie
 obtain⟨u',e2,z⟩:=o b o' e1 hs
 refine⟨u',e2,fun n=>?_⟩
 have e3:=I.base.keep b u e n hb ie
 rw[e1] at e3
 cases e3
 exact z (I.base.free b _ e n ie)
end
theorem ObjOk.obj{P:Program}{w:World}{H:Hp}{h:Heap}{a:Addr}{o:HO}(x:ObjOk P w H h a o):∃u,h.get? a=some u:=by
 cases o with
 | lst xs=>obtain⟨_,_,_,_,e⟩:=x;exact⟨_,e⟩
 | tup xs=>obtain⟨_,_,_,ob,e,_⟩:=x;exact⟨_,e⟩
 | dK kvs=>obtain⟨_,_,_,_,ob,_,_,e,_⟩:=x;exact⟨_,e⟩
 | dT kvs=>obtain⟨_,_,_,_,ob,_,_,e,_⟩:=x;exact⟨_,e⟩
 | set S n=>obtain⟨ob,_,_,_,e,_⟩:=x;exact⟨_,e⟩
 | ins C dx fs=>obtain⟨_,_,_,e,_⟩:=x;exact⟨_,e⟩
 | own y=>exact x
 | xd fs=>obtain⟨_,⟨ob,_,_,e,_⟩,_⟩:=x;exact⟨_,e⟩
 | rng lo hi=>obtain⟨_,_,_,e⟩:=x;exact⟨_,e⟩
 | frz ob u=>exact⟨_,x.1⟩
 | tbl ps=>exact⟨_,x⟩
 | met f y=>exact⟨_,x⟩
 | ext φ=>exact x.2.1
theorem cxm_made{X:Cx}{pins:List (Addr×Obj)}{σ:St}{H H':Hp}{s s':Shared}{e:Addr}{cls:Value}{dx:Option Addr}{E:XK}(I:Inv X pins σ H s)(I':Inv X pins σ H' s')(un:Un (frs X.stack) [] H H' s.heap s'.heap)(os:s'.os=s.os)(O:XObj s'.heap e cls dx .none)(hn:s.heap.get? e=none)(hn':H' e=none)
 (q:E cls dx H'):CXM X.prog X.w X.stack H s E (.ref e) s':=by
 refine⟨e,cls,dx,PySem.W.hideAll s'.heap (e::frs X.stack),H',rfl,os,I'.bare,un,I'.hok,⟨fun b o z=>PySem.W.of_hideAll _ z,PySem.W.hideAll_none _ (by simp),?_⟩,O,fun b u z hb=>?_,fun b o z=>?_,q⟩
 ·refine PySem.W.funFrames_hide I'.stack fun env he a ha=>List.mem_cons_of_mem _ ?_
  exact List.mem_filterMap.mpr ⟨env,he,ha⟩
 ·have ne:b∉e::frs X.stack:=fun hm=>(List.mem_cons.mp hm).elim (fun r=>by rw[r,hn] at z;cases z) hb
  obtain⟨u',e1⟩:=un.there b u z (by simp)
  refine⟨u',PySem.W.hideAll_get _ e1 ne,fun n=>?_⟩
  have e2:=un.keep b u z n hb (by simp)
  rw[e1] at e2
  cases e2
  rfl
 ·obtain⟨u,hu⟩:=(I'.hok b o z).obj
  refine⟨u,hu,PySem.W.hideAll_get _ hu fun hm=>?_⟩
  rcases List.mem_cons.mp hm with r | r
  ·rw[r,hn'] at z;cases z
  ·rw[I'.stkFree b r] at z;cases z
theorem thr_fn{P:Program}{w:World}{K:PySem.W.Frag}{mg:Str→Option Value}{base:Heap}{N:List Str}{qual:Str}{scope:Scope}{f:Addr}{cd:Value}{A:Around}{outer:List Env}{s₀:Shared}{H₀:Hp}{E:XK}:
 Thr (cxOf (CX1 P w) P w K mg base N qual scope f cd A outer s₀ H₀ E) (fun c d _ H'=>E c d H') where
 call:=by
  rintro pins σ H s e s' I ⟨ea,cls,dx,B,H',rfl,os,bare,un,hok,sea,tr,old,tra,q⟩
  refine leave_on (A:=(cxOf (CX1 P w) P w K mg base N qual scope f cd A outer s₀ H₀ E).A) (I.ok.frames) rfl sea tr fun h2 S2 O2 u2=>?_
  refine⟨ea,cls,dx,B,H',rfl,os.trans I.os,bare,?_,hok_flown hok tra S2.stays,S2,O2,old_out I rfl old,tra.later S2.stays,q⟩
  exact un_out I rfl rfl rfl (un_flown un old S2.stays u2 (frames_are I un))
 made:=by
  rintro pins σ H s e s' I ⟨ea,cls,dx,B,H',rfl,os,bare,un,hok,sea,tr,old,tra,q⟩
  refine leave_new (A:=(cxOf (CX1 P w) P w K mg base N qual scope f cd A outer s₀ H₀ E).A) (I.ok.frames) rfl sea tr fun h2 S2 O2 u2=>?_
  refine⟨ea,cls,dx,B,H',rfl,os.trans I.os,bare,?_,hok_flown hok tra S2.stays,S2,O2,old_out I rfl old,tra.later S2.stays,q⟩
  exact un_out I rfl rfl rfl (un_flown un old S2.stays u2 (frames_are I un))
end L2
set_option Elab.async false
set_option linter.all false
set_option maxRecDepth 100000
set_option maxHeartbeats 4000000
namespace L2
open PySem PySem.Spec PyProof.Rows
section
variable{P:Program}{w:World}{K:PySem.W.Frag}{mg:Str→Option Value}{base:Heap}
theorem Fun.okE{x qual:Str}{st:Stmt}{f:Addr}{fd:FuncData}{N ps:List Str}{k:Nat}{sp:Sp}(F:Fun K x qual st f fd)(S:FnScope N ps (defScope st))(len:∀vs H Q E,sp vs H Q E→vs.length=ps.length)
 (hbody:∀(cdv:Value) (A:Around) (outer:List Env) (s:Shared) (H:Hp) (vs:List V) (Q:VK) (E:XK),Room k (A.deeper (envOfC qual (defScope st) s.heap.objs.size f cdv))→sp vs H Q E→
  Thr (cxOf (CX1 P w) P w K mg base N qual (defScope st) f cdv A outer s H E) (fun c d _ H'=>E c d H')→
  ∃t,PSs (cxOf (CX1 P w) P w K mg base N qual (defScope st) f cdv A outer s H E) (defBody st) t∧t { nx:=fun _ H'=>Q .non H',rt:=Q } (start N vs) H):FnOk P w K mg base (CX1 P w) (k+1) f fd ps sp:=by
 obtain⟨oc,od,kV,doc,pm,an,cdv,ct,osl,rfl,lk,hcd⟩:=F.ex
 exact fn_of lk hcd S len fun A outer s H vs Q E hr hsp=>hbody cdv A outer s H vs Q E hr hsp thr_fn
end
structure CalE(P:Program)(w:World)(K:PySem.W.Frag)(mg:Str→Option Value)(base:Heap)(k:Nat)(x:Str)(ps:List Str)(sp:Sp):Prop where
 ex:∃(f:Addr) (fd:FuncData),FnOk P w K mg base (CX1 P w) k f fd ps sp∧Binds K fd ps []∧PySem.W.keepIn K (.ref f)=true∧mg x=some (.ref f)
def tCallE(sp:Sp)(EE:Value→Option Addr→St→Hp→Prop)(t:TA):TE:=fun σ H Q=>t σ H fun vs H1=>sp (vs++[]) H1 Q (fun c d H'=>EE c d σ H')
section
variable{X:Cx}{EE:Value→Option Addr→St→Hp→Prop}
theorem pe_calE{k:Nat}{x:Str}{ps:List Str}{sp:Sp}{e:Expr}{es:List Expr}{t:TA}{p pos:Pos}(T:Thr X EE)(C:CalE X.prog X.w X.K X.mg X.base k x ps sp)(hr:Room k X.A)(hg:Gl X x)(ha:PA X (e::es) t)
 (hdb:(x==("__debug__":Str))=false:=by decide)(he:starEach (e::es) X.env=(false,eval e X.env)::starEach es X.env:=by rfl)(hpl:(backTo pos (starEach es X.env)).any (·.1)=false:=by rfl):
 PE X (.Call (.Name x p) (e::es) [] pos) (tCallE sp EE t):=by
 intro pins s σ H Q I h
 obtain⟨f,fd,F,b,kp,m⟩:=C.ex
 refine wpAny_Call_Name_kw (ld_glob I hg m ?_ hdb)
 refine PySem.W.callWith_K (h₀:=X.base) I.ok.mod.kin kp (thn (ha pos pins s σ H _ I h) fun us s1 ⟨vs,H1,I1,r,q⟩=>⟨I1.kIn,?_⟩) he hpl
 dsimp only at q
 rw[List.append_nil] at q
 have hl:us.length=ps.length:=by rw[←r.length];exact F.len _ _ _ _ q
 have hb:=b s1 us I1.kIn (by rw[List.append_nil];exact hl)
 rw[List.append_nil] at hb
 show wpAny _ _ (call (.ref f) us) _ _ _
 refine wpAny_call (codeAny_mono (F.run X.A X.stack s1 H1 ⟨us,[]⟩ us vs Q _ hr I1.env0 hb r q) fun z s' hq=>?_)
 cases z with
 | error e=>exact T.call pins σ H1 s1 e s' I1 hq
 | ok fl=>
  cases fl with
  | ret u=>exact I1.after hq
  | next=>exact False.elim hq
  | brk=>exact False.elim hq
  | cont=>exact False.elim hq
theorem exc_cls{K:PySem.W.Frag}{h:Heap}{C:Addr}{bmB:List Value}{newId:String}(KX:K.In h)(q:PySem.W.excIn K C bmB newId=true):
 ∃bm N nm qn bs hd sn sub ab col dd k0 k1 k2 k3 k5 mN,h.get? C=some (excClassObj nm qn C N bs bm hd sn sub ab col dd k0 k1 k2 k3 k5 newId)∧h.Ns N mN∧mN "__init__"=none∧OwnTail h bmB bm:=by
 unfold PySem.W.excIn at q
 split at q
 ·rename_i dd cd sl ho
  split at q
  ·rename_i C' bm k0 k1 k2 k3 n k5 hm hs
   simp only[Bool.and_eq_true,beq_iff_eq,Bool.not_eq_true'] at q
   obtain⟨⟨⟨⟨⟨e1,e2⟩,hdel⟩,ht⟩,hok⟩,hni⟩:=q
   subst e1 e2
   obtain⟨nm,bs,mro,ns,qn,hd,sn,sub,ab,col,del⟩:=cd
   dsimp only at hm hdel hok hni
   subst hm hdel
   obtain⟨l⟩:=sl
   dsimp only at hs
   subst hs
   exact⟨bm,ns,nm,qn,bs,hd,sn,sub,ab,col,dd,k0,k1,k2,k3,k5,_,KX _ _ ho,.of_isNs (PySem.W.isNs_of_in KX hok),PySem.W.nsMap_none_of_in KX hok hni,PySem.W.tail_of_in KX ht⟩
  ·cases q
 ·cases q
abbrev bmV:List Value:=[.type "ValueError",.type "Exception",.type "BaseException",.type "object"]
structure XCls(K:PySem.W.Frag)(mg:Str→Option Value)(x:Str)(C:Addr):Prop where
 bound:mg x=some (.ref C)
 exc:PySem.W.excIn K C bmV "ValueError.__new__"=true
def tRaise(C:Addr)(EE:Value→Option Addr→St→Hp→Prop)(ta:TA):TS:=fun _ σ H=>ta σ H fun vs H1=>vs.length≤sizeLine∧EE (.ref C) none σ H1
theorem ps_raise{x:Str}{C:Addr}{e:Expr}{es:List Expr}{t:TA}{np cpos pos:Pos}(T:Thr X EE)(hc:X.calm=true)(O:XCls X.K X.mg x C)(hg:Gl X x)(ha:PA X (e::es) t)
 (hdb:(x==("__debug__":Str))=false:=by decide)(he:starEach (e::es) X.env=(false,eval e X.env)::starEach es X.env:=by rfl)(hpl:(backTo cpos (starEach es X.env)).any (·.1)=false:=by rfl):
 PS X (.Raise (some (.Call (.Name x np) (e::es) [] cpos)) none pos) (tRaise C EE t):=by
 intro pins s σ H D I h
 obtain⟨tl,N,nm,qn,bs,hd,sn,sub,ab,col,dd,k0,k1,k2,k3,k5,mN,hC,hN,hni,TL⟩:=exc_cls I.ok.mod.kin O.exc
 have FV:=PySem.F.excBase_ValueError
 refine wpAny_Raise_call_subU (C:=C) (nm:=nm) (q:=qn) (N:=N) (bs:=bs) (bm:=tl) (hdct:=hd) (sn:=sn) (sub:=sub) (ab:=ab) (col:=col) (dd:=dd) (k0:=k0) (k1:=k1) (k2:=k2) (k3:=k3) (k5:=k5)
  FV (by decide +kernel) FV (mN:=mN) (TL.hasType FV.hasBase) (I.ok.hd hc) ?_ hni (ld_glob I hg O.bound ⟨rfl,?_⟩ hdb)
 ·rw[he]
  show(false||(backTo cpos (starEach es X.env)).any (·.1))=false
  rw[hpl];rfl
 have hh:=thn (ha cpos pins s σ H _ I h) (Q':=fun vs s₂=>vs.length≤sizeLine∧(∀b o,X.base.get? b=some o→s₂.heap.get? b=some o)∧∀h' ea,Heap.MadeExcOf s₂.heap h' ea (.ref C) vs→X.xe (.ref ea) { s₂ with heap:=h' }) fun us s1 ⟨vs,H1,I1,r,hz,q⟩=>by
  refine⟨by rw[←r.length];exact hz,I1.bk,fun h' ea M=>?_⟩
  obtain⟨ta,e1,_,_⟩:=M.there
  have I2:Inv X pins σ H1 { s1 with heap:=h' }:=I1.kept (t':=s1.toks) M.keeps
  have hn:H1 ea=none:=by
   cases z:H1 ea with
   | none=>rfl
   | some o=>
    obtain⟨u,hu⟩:=(I1.hok ea o z).obj
    rw[M.new] at hu;cases hu
  exact T.made pins σ H1 s1 _ _ I1 (cxm_made I1 I2 (Un.kept M.keeps) rfl ⟨_,#[],e1,rfl⟩ M.new hn q)
 rw[he] at hh ⊢
 exact Calls.evalArgs_plain (thn hh fun vs s₂ h₂=>⟨rfl,h₂.1,h₂.2.1 _ _ hC,hN.keeps h₂.2.1,TL.keeps h₂.2.1,h₂.2.2⟩)
end
end L2
set_option Elab.async false
set_option linter.all false
set_option maxRecDepth 100000
set_option maxHeartbeats 4000000
namespace L2
open PySem PySem.Spec PyProof.Rows
theorem Inv.re{X Y:Cx}{pins pins':List (Addr×Obj)}{σ:St}{H:Hp}{s:Shared}(I:Inv X pins σ H s)(ok:Y.Ok)(e1:Y.prog=X.prog)(e2:Y.w=X.w)(e3:Y.s₀=X.s₀)(e4:Y.outer=X.outer)(e5:Y.ex=X.ex)(e6:Y.H₀=X.H₀)(e7:Y.env=X.env)(e8:Y.N=X.N)
 (hp:∀p∈Y.pn++pins',p∈X.pn++pins):Inv Y pins' σ H s:=by
 obtain⟨P,w,K,mg,base,A,N,s₀,H₀,env,outer,stack,ex,fn,calm,pn,xe⟩:=X
 obtain⟨P',w',K',mg',base',A',N',s₀',H₀',env',outer',stack',ex',fn',calm',pn',xe'⟩:=Y
 dsimp only at e1 e2 e3 e4 e5 e6 e7 e8
 subst e1 e2 e3 e4 e5 e6 e7 e8
 exact⟨ok,I.os,I.bare,I.base,I.loc,I.cell,I.free,I.freeC,fun p h=>I.pin p (hp p h),I.hok,I.len⟩
abbrev Cx.tr(X:Cx)(xe:Value→Shared→Prop)(pn:List (Addr×Obj)):Cx:={ X with xe:=xe,pn:=pn }
abbrev Cx.hd(X:Cx)(e:Addr):Cx:={ X with A:=X.A.mark (some (.ref e)),calm:=false,xe:=fun _ _=>False }
theorem Cx.Ok.tr{X:Cx}(ok:X.Ok)(xe:Value→Shared→Prop)(pn:List (Addr×Obj)):(X.tr xe pn).Ok:=
 ⟨ok.mod,ok.kind,ok.glob,ok.blt,ok.above,ok.inj,ok.has,ok.cab,ok.hd,ok.frames,ok.stk,ok.exf,ok.bs,ok.bsz,ok.noex,ok.exfs,ok.funs,ok.frf⟩
theorem Cx.Ok.hdl{X:Cx}(ok:X.Ok)(e:Addr):(X.hd e).Ok:=
 ⟨ok.mod,ok.kind,ok.glob,ok.blt,ok.above,ok.inj,ok.has,ok.cab,(fun h=>nomatch h),ok.frames,ok.stk,ok.exf,ok.bs,ok.bsz,ok.noex,ok.exfs,ok.funs,ok.frf⟩
def ExcO(a:Addr)(cls:Value)(dx:Option Addr):HO:=.ext fun h=>∃vs sl,h.get? a=some ⟨cls,dx,.fields vs,sl⟩
structure Fl(X:Cx)(pins:List (Addr×Obj))(σ:St)(H:Hp)(s':Shared)(ea:Addr)(cls:Value)(dx:Option Addr):Prop where
 ex:∃(s₀:Shared) (H₀:Hp) (B:Heap),Inv X pins σ H₀ s₀∧s'.os=s₀.os∧AllBare s'.gens∧Un (frs X.stack) [] H₀ H s₀.heap s'.heap∧HOk X.prog X.w H s'.heap∧Sea B X.stack ea s'.heap∧XTr s'.heap B ea cls dx .none∧Old (frs X.stack) H₀ s₀.heap B∧Tra H s'.heap B
section
variable{X:Cx}{pins:List (Addr×Obj)}{σ:St}{H:Hp}{s:Shared}{ea:Addr}{cls:Value}{dx:Option Addr}
theorem Fl.inv(F:Fl X pins σ H s ea cls dx):Inv X pins σ H s:=by
 obtain⟨s₀,H₀,B,I,os,bare,un,hok,_⟩:=F.ex
 exact I.call' (ch:=[]) os un hok bare (fun b z=>nomatch z)
theorem Fl.obj(F:Fl X pins σ H s ea cls dx):∃vs sl,s.heap.get? ea=some ⟨cls,dx,.fields vs,sl⟩:=by
 obtain⟨s₀,H₀,B,I,os,bare,un,hok,sea,⟨T,⟨vs,sl,e,_⟩,_⟩,_⟩:=F.ex
 exact⟨vs,sl,e⟩
theorem Fl.free(F:Fl X pins σ H s ea cls dx):H ea=none:=by
 obtain⟨s₀,H₀,B,I,os,bare,un,hok,sea,_,_,tra⟩:=F.ex
 cases z:H ea with
 | none=>rfl
 | some o=>
  obtain⟨u,_,q⟩:=tra ea o z
  rw[sea.new] at q;cases q
theorem Fl.land{Q:Unit→Shared→Prop}{A:Around}{E:Value→Shared→Prop}(F:Fl X pins σ H s ea cls dx)(k:∀s',Inv X pins σ (upd H ea (ExcO ea cls dx)) s'→Q () s'):wpAny (model X.prog X.w) A (setFlight (.ref ea) none) Q E s:=by
 have hn:=F.free
 obtain⟨s₀,H₀,B,I,os,bare,un,hok,sea,tr,old,tra⟩:=F.ex
 refine flight_off sea tr fun h2 S2 O2 u2=>k _ ?_
 have un2:=un_flown un old S2.stays u2 (frames_are I un)
 have hok2:=hok_flown hok tra S2.stays
 obtain⟨T,⟨vs,sl,e,_⟩,_⟩:=O2
 have nf:ea∉frs X.stack:=fun z=>by
  obtain⟨_,o,ho,hn⟩:=S2.frames.mem z
  rw[e] at ho
  cases ho
  exact hn vs rfl
 have new0:s₀.heap.get? ea=none:=by
  cases z:s₀.heap.get? ea with
  | none=>rfl
  | some u=>
   obtain⟨u',q,_⟩:=old ea u z nf
   rw[S2.new] at q;cases q
 have ne:∀b u,s₀.heap.get? b=some u→b≠ea:=fun b u q z=>by rw[z,new0] at q;cases q
 refine I.call' (ch:=[]) (s':={ s with heap:=h2 }) os ?_ ?_ bare (fun b z=>nomatch z)
 ·exact⟨un2.keep,un2.slot,fun b o q n hx=>by rw[upd_ne (ne b o q)];exact un2.free b o q n hx,un2.there,fun b xs q=>by rw[upd_ne (ne_of_none (un2.tups b xs q) hn)];exact un2.tups b xs q,
   fun b o u q=>by rw[upd_ne (ne_of_none (un2.frzs b o u q) hn)];exact un2.frzs b o u q,fun b ps q=>by
    obtain⟨more,z⟩:=un2.tbls b ps q
    exact⟨more,by rw[upd_ne (ne_of_none z hn)];exact z⟩⟩
 ·intro a o q
  by_cases ha:a=ea
  ·subst ha
   rw[upd_same] at q
   cases q
   refine⟨⟨vs,sl,e⟩,⟨_,e⟩,?_⟩
   rintro h1 h3 ⟨vs',sl',q⟩ kk
   exact⟨vs',sl',kk _ q⟩
  ·rw[upd_ne ha] at q
   refine(hok2 a o q).stay (fun b u _ z=>z) (fun b z=>?_) fun b xs z=>?_
   ·rw[upd_ne (ne_of_none z hn)];exact z
   ·rw[upd_ne (ne_of_none z hn)];exact z
structure HCls(K:PySem.W.Frag)(mg:Str→Option Value)(x:Str)(C:Addr):Prop where
 bound:mg x=some (.ref C)
 ty:PySem.W.typeIn K (.ref C)=some (.type "type")
 cls:(PySem.W.clsIn K C).isSome=true
 base:PySem.W.mroIn K C (.type "BaseException")=some true
theorem exc_match{K:PySem.W.Frag}{mg:Str→Option Value}{x:Str}{M:Model}{A:Around}{E:Value→Shared→Prop}{s:Shared}{e C C':Addr}{dx:Option Addr}{vs:Array Value}{sl:Array (Option Value)}{b:Bool}{Q:Bool→Shared→Prop}(KX:K.In s.heap)(O:HCls K mg x C)
 (he:s.heap.get? e=some ⟨.ref C',dx,.fields vs,sl⟩)(hm:PySem.W.mroIn K C' (.ref C)=some b)(q:Q b s):wpAny M A (excMatches (.ref e) (.ref C)) Q E s:=by
 have L1:PySem.W.Looks M s.heap (isInstance (.ref C) (.type "tuple")) false:=(PySem.W.looks_typeIn KX O.ty).andThen (.of_pure tc_notTuple)
 have L2:PySem.W.Looks M s.heap (isType (.ref C)) true:=by
  have hc:=O.cls
  unfold PySem.W.clsIn at hc
  split at hc
  ·rename_i c' d' cd' sl' ho
   intro A' Q' E' s' k q
   unfold isType loadHead
   exact wpAny_bind (wpAny_loadPart (k _ _ (KX _ _ ho)) (wpAny_pure q))
  ·cases hc
 have L3:=PySem.W.looks_mroIn (M:=M) KX O.base
 have L4:PySem.W.Looks M s.heap (typeOf (.ref e)) (.ref C'):=(PySem.W.Looks.ld he).andThen .now
 have L5:=PySem.W.looks_mroIn (M:=M) KX hm
 unfold excMatches
 refine wpAny_bind (L1.here ?_)
 simp only[Bool.false_eq_true,if_false]
 refine wpAny_bind (wpAny_pure ?_)
 refine wpAny_bind ?_
 rw[List.forIn_cons]
 refine wpAny_bind (wpAny_bind ?_)
 unfold isExcClass
 refine wpAny_bind (L2.here ?_)
 rw[if_pos rfl]
 refine L3.here ?_
 simp only[Bool.not_true,Bool.false_eq_true,if_false]
 refine wpAny_pure ?_
 dsimp only
 rw[List.forIn_nil]
 refine wpAny_pure (wpAny_bind (L4.here (wpAny_bind ?_)))
 rw[List.forIn_cons]
 refine wpAny_bind (wpAny_bind (L5.here ?_))
 cases b with
 | true=>
  rw[if_pos rfl]
  exact wpAny_pure (wpAny_pure (wpAny_pure q))
 | false=>
  rw[if_neg Bool.false_ne_true]
  refine wpAny_pure ?_
  dsimp only
  rw[List.forIn_nil]
  exact wpAny_pure (wpAny_pure q)
end
end L2
set_option Elab.async false
set_option linter.all false
set_option maxRecDepth 100000
set_option maxHeartbeats 4000000
namespace L2
open PySem PySem.Spec PyProof.Rows
theorem SP.re{X Y:Cx}{pins pins':List (Addr×Obj)}{D:Ends}{f:Flow}{s:Shared}(h:SP X pins D f s)(k:∀σ H,Inv X pins σ H s→Inv Y pins' σ H s):SP Y pins' D f s:=by
 cases f with
 | next=>obtain⟨σ,H,I,q⟩:=h;exact⟨σ,H,k _ _ I,q⟩
 | brk=>obtain⟨σ,H,I,q⟩:=h;exact⟨σ,H,k _ _ I,q⟩
 | cont=>obtain⟨σ,H,I,q⟩:=h;exact⟨σ,H,k _ _ I,q⟩
 | ret u=>obtain⟨v,σ,H,I,r,q⟩:=h;exact⟨v,σ,H,k _ _ I,r,q⟩
section
variable{X:Cx}{pins:List (Addr×Obj)}{σ:St}{H:Hp}{s:Shared}
theorem Inv.toHd(I:Inv X pins σ H s)(e:Addr):Inv (X.hd e) pins σ H s:=I.re (I.ok.hdl e) rfl rfl rfl rfl rfl rfl rfl rfl fun _ h=>h
theorem Inv.ofHd{e:Addr}(o:X.Ok)(I:Inv (X.hd e) pins σ H s):Inv X pins σ H s:=I.re o rfl rfl rfl rfl rfl rfl rfl rfl fun _ h=>h
theorem Inv.toTr(I:Inv X pins σ H s)(xe:Value→Shared→Prop):Inv (X.tr xe (X.pn++pins)) [] σ H s:=I.re (I.ok.tr _ _) rfl rfl rfl rfl rfl rfl rfl rfl fun p h=>by simpa using h
theorem Inv.ofTr{pins':List (Addr×Obj)}{xe:Value→Shared→Prop}(o:X.Ok)(I:Inv (X.tr xe (X.pn++pins)) pins' σ H s):Inv X pins σ H s:=
 I.re o rfl rfl rfl rfl rfl rfl rfl rfl fun p h=>List.mem_append_left _ h
theorem unbind_ok{M:Model}{A:Around}{E:Value→Shared→Prop}{i:Nat}{n:Str}{pos:Pos}{Q:Unit→Shared→Prop}(I:Inv X pins σ H s)(hN:X.N.Nodup)(hi:X.N[i]?=some n)(hk:X.env.scope.names.lookup n=some .local)
 (h:∀s',Inv X pins (σ.set i none) H s'→Q () s'):wpAny M A (do bindName X.env n .none;unbindBehindTheSuite X.env n pos) Q E s:=by
 obtain⟨m,hn,hl⟩:=id I.loc
 have hcls:(X.env.scope.kind==.class||(X.env.scope.kind==.module&&X.env.locals != X.env.globals))=false:=by rw[I.ok.kind];rfl
 have hiσ:i<σ.length:=by rw[I.len];exact(List.getElem?_eq_some_iff.mp hi).1
 have cne:=I.cne
 refine wpAny_nameGoes_keeps hk hn hcls fun h' v hn' hs=>h _ ?_
 obtain⟨oL,_,_,hoL,_⟩:=id hn
 have nl:∀b o,X.s₀.heap.get? b=some o→h'.get? b=s.heap.get? b:=fun b o e=>hs.2 b (Nat.ne_of_lt (Nat.lt_of_lt_of_le (Heap.lt_size e) I.ok.above))
 refine⟨I.ok,I.os,I.bare,⟨fun b o e z hb hx=>(nl b o e).trans (I.base.keep b o e z hb hx),fun b o e z hb hx=>?_,I.base.free,fun b o e hx=>?_,I.base.tups,I.base.frzs,I.base.tbls⟩,⟨_,hn',fun j y v' e1 e2 e3=>?_⟩,fun y c e=>?_,I.free,I.freeC,fun p hp=>?_,fun b ob e=>?_,by simpa using I.len⟩
 ·obtain⟨sl,e1⟩:=I.base.slot b o e z hb hx
  exact⟨sl,(nl b o e).trans e1⟩
 ·obtain⟨o',e1⟩:=I.base.there b o e hx
  exact⟨o',(nl b o e).trans e1⟩
 ·by_cases hj:j=i
  ·subst hj
   rw[List.getElem?_set_self hiσ] at e2
   cases e2
  ·rw[List.getElem?_set_ne (Ne.symm hj)] at e2
   obtain⟨u',r',q⟩:=hl j y v' e1 e2 e3
   refine⟨u',r',?_⟩
   rcases q with ⟨k,e⟩ | ⟨k,c,e,z⟩
   ·refine .inl ⟨k,?_⟩
    have hy:y≠n:=fun z=>hj (nodup_ix hN e1 (z ▸ hi))
    simp[hy,e]
   ·exact .inr ⟨k,c,e,z.sameBut hs (cne y c e)⟩
 ·obtain⟨w',z⟩:=I.cell y c e
  exact⟨w',z.sameBut hs (cne y c e)⟩
 ·obtain⟨e,z,ne,nf,d⟩:=I.pin p hp
  exact⟨(hs.2 p.1 ne).trans e,z,ne,nf,d⟩
 ·refine(I.hok b ob e).stay (fun c w' hc q=>(hs.2 c ?_).trans q) (fun _ q=>q) fun _ _ q=>q
  rintro rfl
  rcases hc with rfl | hc
  ·rw[I.free] at e;cases e
  ·rw[I.free] at hc;cases hc
end
abbrev TH:=Value→Option Addr→Addr→Ends→St→Hp→Prop
def PHs(X:Cx)(hs:List ExceptHandler)(t:TH):Prop:=∀(pins:List (Addr×Obj)) (s:Shared) (σ:St) (H:Hp) (D:Ends) (ea:Addr) (cls:Value) (dx:Option Addr),Fl X pins σ H s ea cls dx→t cls dx ea D σ H→
 wpAny (model X.prog X.w) X.A (handleBy (.ref ea) X.env hs) (SP X pins D) X.xe s
def tNoHand:TH:=fun _ _ _ _ _ _=>False
def gone(i:Nat)(D:Ends):Ends:={ nx:=fun σ H=>D.nx (σ.set i none) H,rt:=D.rt,bk:=fun σ H=>D.bk (σ.set i none) H,ct:=fun σ H=>D.ct (σ.set i none) H }
def tHandAs(K:PySem.W.Frag)(C:Addr)(i:Nat)(ts:Addr→TS)(tr:TH):TH:=fun cls dx ea D σ H=>∃C' b,cls=.ref C'∧PySem.W.mroIn K C' (.ref C)=some b∧if b=true then ts ea (gone i D) (σ.set i (some (.ref ea))) (upd H ea (ExcO ea cls dx)) else tr cls dx ea D σ H
section
variable{X:Cx}
theorem phs_nil:PHs X [] tNoHand:=fun _ _ _ _ _ _ _ _ _ h=>h.elim
theorem phs_consA{x n:Str}{C:Addr}{i:Nat}{b₀:Stmt}{suite:List Stmt}{np pos:Pos}{rest:List ExceptHandler}{ts:Addr→TS}{tr:TH}(O:HCls X.K X.mg x C)(hg:Gl X x)(hN:X.N.Nodup)(hi:X.N[i]?=some n)(hk:X.env.scope.names.lookup n=some .local)
 (hs:∀ea,PSs (X.hd ea) (b₀::suite) (ts ea))(hr:PHs X rest tr)(hdb:(x==("__debug__":Str))=false:=by decide):PHs X (.ExceptHandler (some (.Name x np)) (some n) (b₀::suite) pos::rest) (tHandAs X.K C i ts tr):=by
 intro pins s σ H D ea cls dx F h
 obtain⟨C',b,rfl,hm,q⟩:=h
 obtain⟨vs,sl,he⟩:=F.obj
 have I:=F.inv
 refine wpAny_handleBy_cons (codeAny_handlers_test ?_) (by intro z;cases z)
 refine ld_glob (X:=X.hd ea) (I.toHd ea) hg O.bound ?_ hdb
 refine exc_match I.kIn O he hm ?_
 cases b with
 | true=>
  rw[if_pos rfl] at q
  refine codeAny_handlers_suite_as (F.land fun s' I'=>?_)
  refine store_ok (v:=.ref ea) I' hN hi (.inl hk) rfl (fun s3 I3=>?_) (.inr hk)
  refine wpAny_mono (hs ea pins s3 _ _ (gone i D) (I3.toHd ea) q) (fun f s4 z=>?_) (fun _ _ z=>z.elim)
  cases f with
  | next=>obtain⟨σ4,H4,I4,z⟩:=z;exact unbind_ok (I4.ofHd I.ok) hN hi hk fun s5 I5=>⟨_,_,I5,z⟩
  | brk=>obtain⟨σ4,H4,I4,z⟩:=z;exact unbind_ok (I4.ofHd I.ok) hN hi hk fun s5 I5=>⟨_,_,I5,z⟩
  | cont=>obtain⟨σ4,H4,I4,z⟩:=z;exact unbind_ok (I4.ofHd I.ok) hN hi hk fun s5 I5=>⟨_,_,I5,z⟩
  | ret u=>obtain⟨v,σ4,H4,I4,r,z⟩:=z;exact unbind_ok (I4.ofHd I.ok) hN hi hk fun s5 I5=>⟨v,_,_,I5,r,z⟩
 | false=>
  rw[if_neg Bool.false_ne_true] at q
  exact hr pins s σ H D ea _ dx F q
abbrev XE:=Value→Option Addr→St→Hp→Prop
def tTry(tb:XE→TS)(th:TH):TS:=fun D σ H=>tb (fun c d σ' H'=>∀ea,H' ea=none→th c d ea D σ' H') D σ H
theorem ps_try{body:List Stmt}{h₀:ExceptHandler}{hs:List ExceptHandler}{pos:Pos}{tb:XE→TS}{th:TH}(hst:X.stack=X.env::X.outer)(hf:X.env.frame=some X.env.locals)
 (hb:∀xe pn EE,Thr (X.tr xe pn) EE→PSs (X.tr xe pn) body (tb EE))(hh:PHs X (h₀::hs) th):PS X (.Try body (h₀::hs) [] [] pos) (tTry tb th):=by
 intro pins s σ H D I h
 refine wpAny_Try_except ?_
 have fr:X.A.frames=some (X.env::X.outer):=by rw[←hst];exact I.ok.frames
 generalize hxe:(fun (e:Value) (s1:Shared)=>wpAny (model X.prog X.w) X.A (noteFrame e X.env) (fun _ s2=>wpAny (model X.prog X.w) X.A (setFlight e none) (fun _ s3=>wpAny (model X.prog X.w) X.A (handleBy e X.env (h₀::hs)) (SP X pins D) X.xe s3) X.xe s2) X.xe s1)=xe
 have fin:∀(pins':List (Addr×Obj)) (σ':St) (H2 H':Hp) (s2 s':Shared) (ea:Addr) (cls:Value) (dx:Option Addr) (B h4:Heap),Inv (X.tr xe (X.pn++pins)) pins' σ' H2 s2→s'.os=s2.os→AllBare s'.gens→Un (frs X.stack) [] H2 H' s2.heap s'.heap→HOk X.prog X.w H' s'.heap→
  Old (frs X.stack) H2 s2.heap B→Tra H' s'.heap B→Sea B X.stack ea h4→XTr h4 B ea cls dx .none→s'.heap.UpToSlots h4→(∀ea,H' ea=none→th cls dx ea D σ' H')→
  wpAny (model X.prog X.w) X.A (handleBy (.ref ea) X.env (h₀::hs)) (SP X pins D) X.xe { s' with heap:=h4 }:=by
  intro pins' σ' H2 H' s2 s' ea cls dx B h4 I2 os bare un hok old tra S4 O4 u4 q
  have I3:=I2.ofTr I.ok
  refine hh pins _ σ' H' D ea cls dx ⟨s2,H2,B,I3,os,bare,un_flown un old S4.stays u4 (frames_are I3 un),hok_flown hok tra S4.stays,S4,O4,old,tra.later S4.stays⟩ (q ea ?_)
  cases z:H' ea with
  | none=>rfl
  | some o=>
   obtain⟨u,_,e⟩:=tra ea o z
   rw[S4.new] at e;cases e
 have T:Thr (X.tr xe (X.pn++pins)) (fun c d σ' H'=>∀ea,H' ea=none→th c d ea D σ' H'):=by
  constructor
  ·rintro pins' σ' H2 s2 e s' I2 ⟨ea,cls,dx,B,H',rfl,os,bare,un,hok,sea,tr,old,tra,q⟩
   show xe (.ref ea) s'
   rw[←hxe]
   have sea':Sea B (X.env::X.outer) ea s'.heap:=by rw[←hst];exact sea
   refine note_on fr hf sea' tr fun h3 S3 O3 u3=>flight_off (s:={ s' with heap:=h3 }) S3 O3 fun h4 S4 O4 u4=>?_
   exact fin pins' σ' H2 H' s2 s' ea cls dx B h4 I2 os bare un hok old tra (by rw[hst];exact S4) O4 (u3.trans u4) q
  ·rintro pins' σ' H2 s2 e s' I2 ⟨ea,cls,dx,B,H',rfl,os,bare,un,hok,sea,tr,old,tra,q⟩
   show xe (.ref ea) s'
   rw[←hxe]
   have sea':Sea B (X.env::X.outer) ea s'.heap:=by rw[←hst];exact sea
   refine note_new fr hf sea' tr fun h3 S3 O3 u3=>flight_off (s:={ s' with heap:=h3 }) S3 O3 fun h4 S4 O4 u4=>?_
   exact fin pins' σ' H2 H' s2 s' ea cls dx B h4 I2 os bare un hok old tra (by rw[hst];exact S4) O4 (u3.trans u4) q
 refine wpAny_mono (hb xe _ _ T [] s σ H D (I.toTr xe) h) (fun f s1 z=>?_) (fun e s1 z=>?_)
 ·have z':SP X pins D f s1:=z.re fun _ _ J=>J.ofTr I.ok
  cases f with
  | next=>exact wpAny_execs_nil z'
  | brk=>exact z'
  | cont=>exact z'
  | ret u=>exact z'
 ·exact z
end
end L2
set_option Elab.async false
set_option linter.all false
set_option maxRecDepth 100000
set_option maxHeartbeats 4000000
namespace L2
open PySem PySem.Spec PyProof.Rows
section
variable{prog:Program}{w:World}{A:Around}{E:Value→Shared→Prop}{s:Shared}{K:PySem.W.Frag}{x D:Addr}{ox:Obj}{odo:Option Obj}{name:Str}
structure XGet(K:PySem.W.Frag)(D:Addr):Prop where
 ga:PySem.W.findIn K (.ref D) "__getattribute__"=some (some (.builtin "BaseException.__getattribute__"))
 gk:PySem.W.findIn K (.ref D) "__getattr__"=some none
 be:PySem.W.mroIn K D (.type "BaseException")=some true
 ob:PySem.W.mroIn K D (.type "object")=some true
 ca:PySem.W.findIn K (.ref D) "__class__"=some (some (.builtin "object.__class__"))
 cl:(PySem.W.clsIn K D).isSome=true
 sp:PySem.W.specialIn K (.builtin "object.__class__") "__get__"=some (some (.builtin "getset_descriptor.__get__"))
 tk:PySem.W.takesIn K (.builtin "object.__class__")=some true
theorem xget_check{M:Model}{nv:Value}{Q:Unit→Shared→Prop}(KX:K.In s.heap)(I:PySem.W.InstAt s.heap x ox D odo)(G:XGet K D)(q:Q () s):wpAny M A (checkBuiltinCall "BaseException.__getattribute__" ⟨[.ref x,nv],[]⟩) Q E s:=by
 have hk:builtinKind "BaseException.__getattribute__"=some .slot:=by decide +kernel
 have hs:splitId "BaseException.__getattribute__"=some ("BaseException","__getattribute__"):=by decide +kernel
 have ha:=F.args_bexc_ga (.ref x) nv
 obtain⟨hh,g,d,t,os⟩:=s
 have L0:=I.type (M:=M)
 have L1:=PySem.W.looks_mroIn (M:=M) KX G.be
 simp only[checkBuiltinCall,hk,hs]
 repeat lk
 exact q
theorem xget_entryB{nv:Tok}{gv a:Value}{Q:Fin→Shared→Prop}(KX:K.In s.heap)(I:PySem.W.InstAt s.heap x ox D odo)(hf:PySem.W.findObj K D odo name=some (.bind gv a))
 (q:wpAny (model prog w) A (Builtin.ObjectAttr.bindTo gv a (.ref x) (.ref D)) Q E s):
 wpAny (model prog w) A (Builtin.«object.__getattribute__» ⟨[.ref x,.str name nv],[]⟩) Q E s:=by
 obtain⟨hh,g,d,t,os⟩:=s
 have L0:=I.type (M:=model prog w)
 have L1:=PySem.W.looks_find (M:=model prog w) KX I hf
 refine wpAny_bind (wpAny_pure (wpAny_bind (wpAny_pure (wpAny_bind (L0.at (wpAny_bind (L1.at ?_)))))))
 exact q
theorem xget_by{nv:Tok}{fill expr:Bool}{Q:Value→Shared→Prop}(KX:K.In s.heap)(I:PySem.W.InstAt s.heap x ox D odo)(G:XGet K D)
 (h:wpAny (model prog w) A.in1 (Builtin.«object.__getattribute__» ⟨[.ref x,.str name nv],[]⟩) (fun fin s'=>match fin with | .done (.ret v)=>wpAny (model prog w) A (handedOut v) Q E s' | _=>False) (fun _ _=>False) s):
 wpAny (model prog w) A (getAttrBy (.ref x) (.str name nv) fill expr) Q E s:=by
 obtain⟨hh,g,d,t,os⟩:=s
 have L0:=I.type (M:=model prog w)
 have L1:=PySem.W.looks_findIn (M:=model prog w) KX G.ga
 have L2:=PySem.W.looks_findIn (M:=model prog w) KX G.gk
 have FX:=F.excAttr_ValueError
 unfold getAttrBy
 refine wpAny_holding (wpAny_bind (L0.at (wpAny_bind (L1.at ?_))))
 have e0:(Value.builtin "BaseException.__getattribute__"==Value.builtin "object.__getattribute__")=false:=by decide +kernel
 have e1:(onTheHeap (Value.ref D)&&Value.builtin "BaseException.__getattribute__"==Value.builtin "object.__getattribute__")=false:=by rw[e0];rfl
 dsimp only
 rw[e1,if_neg Bool.false_ne_true]
 unfold getAttrByItsOwn hookBefore
 refine wpAny_bind ?_
 rw[if_pos (show onTheHeap (Value.ref D)=true from rfl)]
 refine L2.at ?_
 refine wpAny_bind (wpAny_attempt (wpAny_holding ?_))
 unfold callGetattribute
 rw[if_neg (by cases expr<;>decide)]
 unfold boundAndCalled
 rw[FX.ga.bind (.ref x)]
 refine wpAny_bind (wpAny_pure ?_)
 refine wpAny_call (codeAny_call_builtin FX.ga.plain F.entry_bexc_ga (xget_check KX I G ?_))
 refine wpAny_mono h (fun fin s' z=>?_) (fun _ _ z=>z.elim)
 rcases fin with (_ | _ | _ | _) | _<;>first | exact z | exact z.elim
theorem xget_class{Q:Option Value→Shared→Prop}(KX:K.In s.heap)(I:PySem.W.InstAt s.heap x ox D odo)(G:XGet K D)(hf:PySem.W.findObj K D odo "__class__"=some (.bind (.builtin "getset_descriptor.__get__") (.builtin "object.__class__")))
 (q:Q (some (.ref D)) { s with toks:=s.toks+1 }):wpAny (model prog w) A (getAttr? (.ref x) "__class__") Q E s:=by
 unfold getAttr? getAttrBy?
 refine wpAny_bind (wpAny_mkText (wpAny_bind (wpAny_attempt (xget_by (s:={ s with toks:=s.toks+1 }) KX I G (xget_entryB (s:={ s with toks:=s.toks+1 }) KX I hf ?_)))))
 show wpAny _ _ (holding [_] (call (.builtin "getset_descriptor.__get__") [.builtin "object.__class__",.ref x,.ref D]) >>= ret) _ _ _
 refine wpAny_bind (wpAny_holding (wpAny_call (PySem.W.class_get (s:={ s with toks:=s.toks+1 }) KX I G.ob ?_)))
 refine wpAny_pure ?_
 show wpAny _ _ (handedOut _) _ _ _
 rw[PySem.W.handedOut_of rfl]
 exact wpAny_pure (wpAny_pure q)
theorem find_dataX{a g:Value}(hc:(PySem.W.clsIn K D).isSome=true)(ha:PySem.W.findIn K (.ref D) name=some (some a))(hg:PySem.W.specialIn K a "__get__"=some (some g))(ht:PySem.W.takesIn K a=some true):PySem.W.findObj K D odo name=some (.bind g a):=by
 obtain⟨cd,hcd⟩:=Option.isSome_iff_exists.mp hc
 unfold PySem.W.findObj
 rw[hcd,Option.bind_some,ha,Option.bind_some];simp[hg,ht]
theorem kitx_exc(G:XGet K D):PySem.W.KitX K (.ref x) (.ref D) (fun h=>∃ox odo,PySem.W.InstAt h x ox D odo) where
 ty:=fun _ _ _ ⟨ox,odo,I⟩=>I.type
 it:=fun M h KX _=>by
  have hc:=G.cl
  unfold PySem.W.clsIn at hc
  split at hc
  ·rename_i c' d' cd' sl' ho
   intro A' Q' E' s' k q
   unfold isType loadHead
   exact wpAny_bind (wpAny_loadPart (k _ _ (KX _ _ ho)) (wpAny_pure q))
  ·cases hc
 ne:=fun h tp dd its n sl KX htp=>by
  have hc:=G.cl
  refine Bool.eq_false_iff.mpr fun q=>?_
  have e:D=tp:=Value.ref.inj (beq_iff_eq.mp q)
  subst e
  unfold PySem.W.clsIn at hc
  split at hc
  ·rename_i c' d' cd' sl' ho
   have z:=(KX _ _ ho).symm.trans htp
   cases z
  ·cases hc
 ca:=fun{prog w A E Q s} KX ⟨ox,odo,I⟩ k=>xget_class KX I G (find_dataX G.cl G.ca G.sp G.tk) k
end
def clsV:V→Option Value
 | .ref c=>some (.ref c)
 | .ty n=>some (.type n)
 | _=>none
def XDict(H:Hp):Option Addr→Prop
 | none=>True
 | some d=>∃fs,H d=some (.xd fs)
def rIsiX(K:PySem.W.Frag):List V→Hp→VK→Prop:=fun xs H Q=>∃a cv C c b dx,xs=[.ref a,cv]∧H a=some (ExcO a (.ref C) dx)∧XDict H dx∧XGet K C∧clsV cv=some c∧PySem.W.kitOne K (.ref C) c=some b∧Q (.bl b) H
section
variable{X:Cx}
theorem call_isiX:CallR X (.builtin "isinstance") (rIsiX X.K):=by
 intro pins s σ H xs us Q I r h
 obtain⟨a,cv,C,c,b,dx,rfl,hH,hd,G,hc,e,q⟩:=h
 obtain⟨u,w',rfl,r1,r2⟩:=vals2 r
 cases (show u=Value.ref a from r1)
 have hw:w'=c:=by
  cases cv with
  | ref c'=>cases hc;exact r2
  | ty n=>cases hc;exact r2
  | _=>cases hc
 subst hw
 obtain⟨⟨vs,sl,ho⟩,_⟩:=(show ObjOk X.prog X.w H s.heap a (ExcO a (.ref C) dx) from I.hok a _ hH)
 have J:∃ox odo,PySem.W.InstAt s.heap a ox C odo:=by
  cases dx with
  | none=>exact⟨_,none,ho,rfl,rfl,trivial⟩
  | some d=>
   obtain⟨fs,hd⟩:=hd
   obtain⟨od,hod⟩:=(I.hok d _ hd).obj
   exact⟨_,some od,ho,rfl,rfl,hod⟩
 exact PySem.W.kia_one (kitx_exc G) I.kIn J e (fun z=>nomatch z) fun tk=>⟨.bl b,H,I.tok tk,rfl,q⟩
theorem rd_isiX{K:PySem.W.Frag}{a C:Addr}{cv:V}{c:Value}{b:Bool}{dx:Option Addr}{H:Hp}{Q:VK}(hH:H a=some (ExcO a (.ref C) dx))(hd:XDict H dx)(G:XGet K C)(hc:clsV cv=some c)(e:PySem.W.kitOne K (.ref C) c=some b)(q:Q (.bl b) H):rIsiX K [.ref a,cv] H Q:=
 ⟨a,cv,C,c,b,dx,rfl,hH,hd,G,hc,e,q⟩
end
end L2
set_option Elab.async false
set_option linter.all false
set_option maxRecDepth 100000
set_option maxHeartbeats 4000000
namespace L2
open PySem PySem.Spec PyProof.Rows
structure RoomN(k:Nat)(A:Around):Prop where
 dp:A.depth+3*k+5<recursionLimit
 un:A.units+16*k+200<cLine
 gd:A.guards=some []
theorem RoomN.mono{j k:Nat}{A:Around}(r:RoomN k A)(h:j≤k):RoomN j A:=⟨by have:=r.dp;omega,by have:=r.un;omega,r.gd⟩
theorem Room.toN{k:Nat}{A:Around}(r:Room k A):RoomN k A:=⟨r.dp,r.un,r.gd⟩
section
variable{P:Program}{w:World}{K:PySem.W.Frag}{mg:Str→Option Value}{base:Heap}
end
section
variable{X:Cx}
end
theorem has_cls{K:PySem.W.Frag}{C:Addr}(h:PySem.W.hasDictIn K C=true):(PySem.W.clsIn K C).isSome=true:=by
 obtain⟨cd,e,_⟩:=PySem.W.any_some h
 rw[e];rfl
theorem rel_ref(a:Addr):RelV (.ref a) (.ref a):=rfl
theorem rd_callE{sp:Sp}{EE:XE}{t:TA}{σ:St}{H:Hp}{Q:VK}(h:t σ H fun vs H1=>sp (vs++[]) H1 Q (fun c d H'=>EE c d σ H')):tCallE sp EE t σ H Q:=h
theorem rd_raise{C:Addr}{EE:XE}{ta:TA}{D:Ends}{σ:St}{H:Hp}(h:ta σ H fun vs H1=>vs.length≤sizeLine∧EE (.ref C) none σ H1):tRaise C EE ta D σ H:=h
theorem rd_try{tb:XE→TS}{th:TH}{D:Ends}{σ:St}{H:Hp}(h:tb (fun c d σ' H'=>∀ea,H' ea=none→th c d ea D σ' H') D σ H):tTry tb th D σ H:=h
theorem rd_handA{K:PySem.W.Frag}{C C':Addr}{i:Nat}{ts:Addr→TS}{tr:TH}{dx:Option Addr}{ea:Addr}{D:Ends}{σ:St}{H:Hp}(hm:PySem.W.mroIn K C' (.ref C)=some true)(h:ts ea (gone i D) (σ.set i (some (.ref ea))) (upd H ea (ExcO ea (.ref C') dx))):tHandAs K C i ts tr (.ref C') dx ea D σ H:=
 ⟨C',true,rfl,hm,by rw[if_pos rfl];exact h⟩
section
variable{X:Cx}
end
end L2
set_option Elab.async false
set_option linter.all false
set_option maxRecDepth 100000
set_option maxHeartbeats 4000000
namespace L2
open PySem PySem.Spec PyProof.Rows
section
variable{prog:Program}{w:World}{A:Around}{E:Value→Shared→Prop}{h:Heap}{g:Array GenState}{d:Drawn}{t:Nat}{os:OsState}{K:PySem.W.Frag}{f:Addr}
variable{nm q:Str}{C N:Addr}{bs bm:List Value}{hdct:Bool}{sn:List Str}{sub:List Value}{ab:Bool}{col:Option Bool}{dd:Option Addr}{k0 k1 k2 k3 k5:Option Value}
end
end L2
set_option Elab.async false
set_option linter.all false
set_option maxRecDepth 100000
set_option maxHeartbeats 4000000
namespace L2
open PySem PySem.Spec PyProof.Rows
section
variable{prog:Program}{w:World}{A:Around}{E:Value→Shared→Prop}{h:Heap}{g:Array GenState}{d:Drawn}{t:Nat}{os:OsState}{K:PySem.W.Frag}{e:Addr}
variable{nm q:Str}{C N:Addr}{bs bm:List Value}{hdct:Bool}{sn:List Str}{sub:List Value}{ab:Bool}{col:Option Bool}{dd:Option Addr}{k0 k1 k2 k3 k5:Option Value}{newId:String}
variable{x CF:Addr}{cd:ClassData}{name:Str}{v:Value}{vs:Array Value}{sl:Array (Option Value)}
end
end L2
set_option Elab.async false
set_option linter.all false
set_option maxRecDepth 100000
set_option maxHeartbeats 4000000
namespace L2
open PySem PySem.Spec PyProof.Rows
structure XOwn(K:PySem.W.Frag)(C CF:Addr):Prop where
 obj:∃dd cd k0 k1 k2 k3 k5,K.lookup C=some ⟨.type "type",dd,.cls cd,#[k0,k1,k2,k3,some (.builtin "ValueError.__new__"),k5]⟩∧cd.mro=.ref C::.ref CF::bmV∧cd.hasDel=false∧cd.hasDict=true
 base:PySem.W.excIn K CF bmV "ValueError.__new__"=true
 sa:PySem.W.findIn K (.ref C) "__setattr__"=some (some (.builtin "object.__setattr__"))
section
variable{K:PySem.W.Frag}{C CF:Addr}{h:Heap}
theorem XOwn.at(O:XOwn K C CF)(KX:K.In h):∃N nm qn bs hd sn sub ab col dd k0 k1 k2 k3 k5,h.get? C=some (excClassObj nm qn C N bs (.ref CF::bmV) hd sn sub ab col dd k0 k1 k2 k3 k5 "ValueError.__new__"):=by
 obtain⟨dd,cd,k0,k1,k2,k3,k5,e,m,hdel,hd⟩:=O.obj
 obtain⟨nm,bs,mro,ns,qn,hd,sn,sub,ab,col,del⟩:=cd
 dsimp only at m hdel
 subst m hdel
 exact⟨_,_,_,_,_,_,_,_,_,_,_,_,_,_,_,KX _ _ e⟩
end
section
variable{X:Cx}{pins:List (Addr×Obj)}{σ:St}{H:Hp}{s:Shared}{h':Heap}
variable{o value:Expr}{f:Str}{pos pos':Pos}{ta tv:TE}
end
section
variable{M:Model}{A:Around}{E:Value→Shared→Prop}
end
end L2
set_option Elab.async false
set_option linter.all false
set_option maxRecDepth 100000
set_option maxHeartbeats 4000000
namespace L2
open PySem PySem.Spec PyProof.Rows
section
variable{X:Cx}{EE:Value→Option Addr→St→Hp→Prop}
end
end L2
set_option Elab.async false
set_option linter.all false
set_option maxRecDepth 100000
set_option maxHeartbeats 4000000
namespace L2
open PySem PySem.Spec PyProof.Rows
def intT(i:Int):Str:=Str.ofString (toString i)
def shI(is:List Int):Str:=tupleText (is.map intT)
inductive FmtV(K:PySem.W.Frag)(H:Hp):V→Str→Prop
 | int {i:Int}:i.natAbs.log2<1920→FmtV K H (.int i) (intT i)
 | str {z:Str}:z.length≤sizeLine→FmtV K H (.str z) z
 | tup {a:Addr} {is:List Int}:SqT K H a (is.map V.int)→(∀i∈is,i.natAbs.log2<1920)→(shI is).length≤sizeLine→FmtV K H (.ref a) (shI is)
theorem shownAll_ints:∀is:List Int,PyData.shownAll (is.map PyData.int)=is.map intT
 | []=>by simp[PyData.shownAll]
 | i::is=>by simp only[List.map_cons,PyData.shownAll,PyData.shown,shownAll_ints is];rfl
theorem showableAll_ints:∀is:List Int,(∀i∈is,i.natAbs.log2<1920)→PyData.showableAll (is.map PyData.int)=true
 | [],_=>by simp[PyData.showableAll]
 | i::is,h=>by
  simp only[List.map_cons,PyData.showableAll,PyData.showable,showableAll_ints is fun j hj=>h j (List.mem_cons_of_mem _ hj),Bool.and_true,decide_eq_true_eq]
  exact h i (List.mem_cons_self ..)
theorem hasDictAll_ints:∀is:List Int,PyData.hasDictAll (is.map PyData.int)=false
 | []=>by simp[PyData.hasDictAll]
 | i::is=>by simp only[List.map_cons,PyData.hasDictAll,PyData.hasDict,hasDictAll_ints is,Bool.or_self]
theorem depthAll_ints:∀is:List Int,PyData.depthAll (is.map PyData.int)≤1
 | []=>by simp[PyData.depthAll]
 | i::is=>by
  have:=depthAll_ints is
  simp only[List.map_cons,PyData.depthAll,PyData.depth]
  omega
theorem readsAll_ints{h:Heap}:∀{is:List Int} {us:List Value},Vals (is.map V.int) us→ReadsAll h us (is.map PyData.int) []
 | [],_,.nil=>.nil
 | i::is,_,.cons r t=>by
  obtain⟨tk,rfl⟩:=(show ∃tk,_=Value.int i tk from r)
  exact .cons (as:=[]) (bs:=[]) (.int i tk) (readsAll_ints t)
section
variable{X:Cx}{pins:List (Addr×Obj)}{σ:St}{H:Hp}{s:Shared}
theorem fmt_ok{k:Nat}{x:V}{u:Value}{y:Str}{Q:VK}(hr:RoomN k X.A)(I:Inv X pins σ H s)(r:RelV x u)(f:FmtV X.K H x y)(q:Q (.str y) H):wpAny (model X.prog X.w) X.A (formatField u Str.empty) (EP X pins σ Q) X.xe s:=by
 cases f with
 | int h=>
  obtain⟨t,rfl⟩:=(show ∃t,u=Value.int _ t from r)
  exact wpAny_formatField_int h ⟨.str (intT _),H,I.tok _,⟨_,rfl⟩,q⟩
 | str h=>
  obtain⟨t,rfl⟩:=(show ∃t,u=Value.str y t from r)
  exact wpAny_formatField_str ⟨.str y,H,I,⟨_,rfl⟩,q⟩ ⟨.str y,H,I.tok _,⟨_,rfl⟩,q⟩ h
 | @tup a is hs hi hz=>
  cases (show u=Value.ref a from r)
  obtain⟨its,vr,⟨o,ho,hc,n,hd⟩,hl⟩:=I.tuple hs
  have rd:Reads s.heap (.ref a) (.tuple (is.map PyData.int)) []:=.tuple ho hc hd (readsAll_ints vr)
  have e:(PyData.tuple (is.map PyData.int)).shown=shI is:=by simp only[PyData.shown,shownAll_ints];rfl
  have hdp:(PyData.tuple (is.map PyData.int)).depth≤3:=by
   have:=depthAll_ints is
   simp only[PyData.depth]
   omega
  refine formatField_of_reads rd (by simp only[PyData.showable];exact showableAll_ints is hi) (PyData.noDict_hsm (by simp only[PyData.hasDict];exact hasDictAll_ints is)) hr.gd (by have:=hr.un;omega) (fun _ _ z=>z) (fun h' u tk hk=>?_) (by rw[e];exact hz)
  rw[e]
  exact⟨.str (shI is),H,I.kept hk,⟨_,rfl⟩,q⟩
end
def tFmt(K:PySem.W.Frag)(tv:TE):TE:=fun σ H Q=>tv σ H fun x H1=>∃y,FmtV K H1 x y∧Q (.str y) H1
abbrev TJ:=Str→St→Hp→VK→Prop
def PJ(X:Cx)(es:List Expr)(t:TJ):Prop:=∀(pins:List (Addr×Obj)) (s:Shared) (σ:St) (H:Hp) (out:Str) (Q:VK),Inv X pins σ H s→t out σ H Q→wpAny (model X.prog X.w) X.A (joinParts out (evalEach es X.env)) (EP X pins σ Q) X.xe s
def jNil:TJ:=fun out _ H Q=>out.length≤sizeLine∧Q (.str out) H
def jCons(te:TE)(t:TJ):TJ:=fun out σ H Q=>te σ H fun x H1=>∃y,x=.str y∧(out++y).length≤sizeLine∧t (out++y) σ H1 Q
def tJoin(t:TJ):TE:=fun σ H Q=>t Str.empty σ H Q
section
variable{X:Cx}{k:Nat}{e e₂:Expr}{es:List Expr}{te:TE}{t:TJ}{pos:Pos}
theorem pe_fmt(hr:RoomN k X.A)(h:PE X e te):PE X (.FormattedValue e (-1) none pos) (tFmt X.K te):=by
 intro pins s σ H Q I hw
 refine FormattedValue_plain (thn (h pins s σ H _ I hw) fun u s1 ⟨x,H1,I1,r,y,f,q⟩=>?_)
 exact fmt_ok hr I1 r f q
theorem pj_nil:PJ X [] jNil:=fun pins s σ H out Q I h=>joinParts_nil ⟨.str out,H,I.tok _,⟨_,rfl⟩,h.2⟩ h.1
theorem pj_cons(h1:PE X e te)(h2:PJ X es t):PJ X (e::es) (jCons te t):=by
 intro pins s σ H out Q I h
 show wpAny _ _ (joinParts out (eval e X.env::evalEach es X.env)) _ _ _
 refine joinParts_cons (thn (h1 pins s σ H _ I h) fun u s1 ⟨x,H1,I1,r,y,ex,hz,q⟩=>?_)
 subst ex
 obtain⟨tk,rfl⟩:=(show ∃tk,u=Value.str y tk from r)
 exact⟨hz,h2 pins s1 σ H1 (out++y) Q I1 q⟩
theorem pe_join(h:PJ X (e::e₂::es) t):PE X (.JoinedStr (e::e₂::es) pos) (tJoin t):=fun pins s σ H Q I hw=>JoinedStr_many (h pins s σ H Str.empty Q I hw)
end
section
variable{X:Cx}{e:Expr}{f:Str}{pos:Pos}{ta:TE}
end
end L2
set_option Elab.async false
set_option linter.all false
set_option maxRecDepth 100000
set_option maxHeartbeats 4000000
namespace L2
open PySem PySem.Spec PyProof.Rows
section
variable{X:Cx}{EE:Value→Option Addr→St→Hp→Prop}
structure CalM(P:Program)(w:World)(K:PySem.W.Frag)(mg:Str→Option Value)(base:Heap)(CX:CXT)(k:Nat)(C:Addr)(m:Str)(ps:List Str)(sp:Sp):Prop where
 ex:∃(f:Addr) (fd:FuncData),FnOk P w K mg base CX k f fd ps sp∧Binds K fd ps []∧Meth K C m f
structure CalI(P:Program)(w:World)(K:PySem.W.Frag)(mg:Str→Option Value)(base:Heap)(CX:CXT)(k:Nat)(x:Str)(C:Addr)(ps:List Str)(sp:Sp):Prop where
 ex:∃(f:Addr) (fd:FuncData),FnOk P w K mg base CX k f fd ps sp∧Binds K fd ps []∧Mk K C f∧mg x=some (.ref C)
variable{C:Addr}{m x:Str}{k:Nat}{ps:List Str}{sp:Sp}{o e:Expr}{es:List Expr}{ta:TE}{t:TA}{apos pos p:Pos}
theorem pe_mcal{pl:Sem Bool}(O:CalM X.prog X.w X.K X.mg X.base CX0 k C m ps sp)(c:Cls X.K C)(hr:Room k X.A)(he:PE X o ta)(ha:PA X (e::es) t)
 (hst:starEach (e::es) X.env=(false,eval e X.env)::starEach es X.env:=by rfl)(hpl:(backTo pos (starEach es X.env)).any (·.1)=false:=by rfl)
 (ht:eval (.Call (.Attribute o m apos) (e::es) [] pos) X.env=(do
  let ov ←eval o X.env
  standAt apos.atName
  let (f,first) ←holding [ov] (getMethod ov m pl)
  callWith pos f first (backTo pos (starEach (e::es) X.env)) (backToKw pos (keywordEach [] X.env))):=by rfl):
 PE X (.Call (.Attribute o m apos) (e::es) [] pos) (tMeth C m sp [] E0 ta t):=by
 obtain⟨f,fd,F,hb,M⟩:=O.ex
 exact pe_meth (pl:=pl) he c M F hr hb .nil pass0 ha hst hpl ht
theorem pe_mcal0{pl:Sem Bool}(O:CalM X.prog X.w X.K X.mg X.base CX0 k C m ps sp)(c:Cls X.K C)(hr:Room k X.A)(he:PE X o ta)
 (ht:eval (.Call (.Attribute o m apos) [] [] pos) X.env=(do
  let ov ←eval o X.env
  standAt apos.atName
  let (f,first) ←holding [ov] (getMethod ov m pl)
  callWith pos f first (backTo pos (starEach [] X.env)) (backToKw pos (keywordEach [] X.env))):=by rfl):
 PE X (.Call (.Attribute o m apos) [] [] pos) (tMeth C m sp [] E0 ta tNil):=by
 obtain⟨f,fd,F,hb,M⟩:=O.ex
 exact pe_meth0 (pl:=pl) he c M F hr hb .nil pass0 ht
theorem pe_mk(O:CalI X.prog X.w X.K X.mg X.base CX0 k x C ps sp)(hr:Room (k+1) X.A)(hg:Gl X x)(ha:PA X (e::es) t)
 (hdb:(x==("__debug__":Str))=false:=by decide)(he:starEach (e::es) X.env=(false,eval e X.env)::starEach es X.env:=by rfl)(hpl:(backTo pos (starEach es X.env)).any (·.1)=false:=by rfl):
 PE X (.Call (.Name x p) (e::es) [] pos) (tMake C sp [] E0 t):=by
 obtain⟨f,fd,F,hb,M,hm⟩:=O.ex
 exact pe_make M F hr hg hm hb .nil pass0 ha hdb he hpl
end
end L2
set_option Elab.async false
set_option linter.all false
set_option maxRecDepth 100000
set_option maxHeartbeats 4000000
namespace L2
open PySem PySem.Spec PyProof.Rows
theorem intT_len{i:Int}(h:i.natAbs.log2<1920):(intT i).length≤1921:=by
 have e:=int_text_length_le (k:=1920) (by decide) h
 unfold intT
 rw[PySem.ofString_length];omega
theorem fits{s:Str}{n:Nat}(h:s.length≤n)(hn:n≤100000):s.length≤sizeLine:=Nat.le_trans h (Nat.le_trans hn (by decide))
theorem rd_join{t:TJ}{σ:St}{H:Hp}{Q:VK}(h:t Str.empty σ H Q):tJoin t σ H Q:=h
theorem rd_jnil{out:Str}{σ:St}{H:Hp}{Q:VK}(h:out.length≤sizeLine)(q:Q (.str out) H):jNil out σ H Q:=⟨h,q⟩
theorem rd_jc{x:Str}{t:TJ}{out:Str}{σ:St}{H:Hp}{Q:VK}(n:Nat)(hn:out.length≤n)(hz:n+x.length≤100000)(h:(out++x).length≤n+x.length→t (out++x) σ H Q):jCons (tC (.str x)) t out σ H Q:=by
 have e:(out++x).length≤n+x.length:=by rw[strLen_append];omega
 exact⟨x,rfl,fits e hz,h e⟩
theorem rd_ji{K:PySem.W.Frag}{j:Nat}{i:Int}{t:TJ}{out:Str}{σ:St}{H:Hp}{Q:VK}(n:Nat)(hn:out.length≤n)(hz:n+1921≤100000)(hv:σ[j]?=some (some (.int i)))(hi:i.natAbs.log2<1920)(h:(out++intT i).length≤n+1921→t (out++intT i) σ H Q):
 jCons (tFmt K (tVar j)) t out σ H Q:=by
 have e:(out++intT i).length≤n+1921:=by have:=intT_len hi;rw[strLen_append];omega
 exact⟨.int i,hv,intT i,.int hi,intT i,rfl,fits e hz,h e⟩
theorem rd_js{K:PySem.W.Frag}{j:Nat}{z:Str}{t:TJ}{out:Str}{σ:St}{H:Hp}{Q:VK}(n m:Nat)(hn:out.length≤n)(hm:z.length≤m)(hz:n+m≤100000)(hv:σ[j]?=some (some (.str z)))(h:(out++z).length≤n+m→t (out++z) σ H Q):
 jCons (tFmt K (tVar j)) t out σ H Q:=by
 have e:(out++z).length≤n+m:=by rw[strLen_append];omega
 exact⟨.str z,hv,z,.str (fits hm (by omega)),z,rfl,fits e hz,h e⟩
end L2
set_option Elab.async false
set_option linter.all false
set_option maxRecDepth 100000
set_option maxHeartbeats 4000000
namespace L2
open PySem PySem.Spec PyProof.Rows
section
variable{X:Cx}
theorem rd_ifE{t:TT}{ta tb:TE}{σ:St}{H:Hp}{Q:VK}(h:t σ H fun c H1=>if c=true then ta σ H1 Q else tb σ H1 Q):tIf t ta tb σ H Q:=h
def rEqL(K:PySem.W.Frag):R2:=fun x y H Q=>∃(a b:Addr) (ns ms:List Int),x=.ref a∧y=.ref b∧SqL K H a (ns.map V.int)∧SqL K H b (ms.map V.int)∧Q (.bl (decide (ns=ms))) H
theorem op_eqL(hu:X.A.units+64<cLine):OpR X (compareOp .Eq) (rEqL X.K):=by
 intro pins s σ H x y v u Q I rx ry h
 obtain⟨a,b,ns,ms,rfl,rfl,ha,hb,q⟩:=h
 cases rx
 cases ry
 obtain⟨its,r,pl,_⟩:=I.list ha
 obtain⟨its',r',pl',_⟩:=I.list hb
 exact PySem.W.ke_eq_ints pl.isList pl'.isList (intsAre_of r) (intsAre_of r') hu ⟨.bl _,H,I,rfl,q⟩
theorem rd_eqL{K:PySem.W.Frag}{a b:Addr}{ns ms:List Int}{H:Hp}{Q:VK}(ha:SqL K H a (ns.map V.int))(hb:SqL K H b (ms.map V.int))(q:Q (.bl (decide (ns=ms))) H):rEqL K (.ref a) (.ref b) H Q:=⟨a,b,ns,ms,rfl,rfl,ha,hb,q⟩
def rSum(K:PySem.W.Frag):List V→Hp→VK→Prop:=fun xs H Q=>∃(p:Addr) (ns:List Int),xs=[.ref p]∧SqL K H p (ns.map V.int)∧Q (.int ns.sum) H
theorem call_sum(hc:X.calm=true):CallR X (.builtin "sum") (rSum X.K):=by
 intro pins s σ H xs us Q I r h
 obtain⟨p,ns,rfl,hq,q⟩:=h
 obtain⟨u,rfl,ru⟩:=vals1 r
 cases (show u=Value.ref p from ru)
 obtain⟨its,rv,pl,_⟩:=I.list hq
 have hi:=intsAre_of rv
 obtain⟨xs,hx⟩:=hi.allInts.items
 have hl':s.heap.IsList p (intItems xs):=hx ▸ pl.isList
 refine sum_intListG (I.ok.hd hc) hl' fun h' tk t' hk=>?_
 have e1:ns=xs.toList.map (·.1):=by
  rw[←nums_intItems,←hx]
  exact(show numsOf its.toArray.toList=ns from hi.numsOf).symm
 have e2:preSum (numAt xs) xs.size=ns.sum:=by
  rw[preSum_eq,List.take_of_length_le (by simp),e1]
 rw[e2]
 exact⟨.int ns.sum,H,I.kept hk,⟨_,rfl⟩,q⟩
def rMinL(K:PySem.W.Frag):List V→Hp→VK→Prop:=fun xs H Q=>∃(p:Addr) (ns:List Int),xs=[.ref p]∧SqL K H p (ns.map V.int)∧ns≠[]∧∀m,m∈ns→(∀a∈ns,m≤a)→Q (.int m) H
def rMaxL(K:PySem.W.Frag):List V→Hp→VK→Prop:=fun xs H Q=>∃(p:Addr) (ns:List Int),xs=[.ref p]∧SqL K H p (ns.map V.int)∧ns≠[]∧∀m,m∈ns→(∀a∈ns,a≤m)→Q (.int m) H
theorem call_minL(hc:X.calm=true):CallR X (.builtin "min") (rMinL X.K):=by
 intro pins s σ H xs us Q I r h
 obtain⟨p,ns,rfl,hq,hne,q⟩:=h
 obtain⟨u,rfl,ru⟩:=vals1 r
 cases (show u=Value.ref p from ru)
 obtain⟨its,rv,pl,_⟩:=I.list hq
 have hi:=intsAre_of rv
 obtain⟨xs,e⟩:=hi.allInts.items
 have hns:ns=xs.toList.map (·.1):=by
  rw[←nums_intItems,←e]
  exact(show numsOf its.toArray.toList=ns from hi.numsOf).symm
 have hsz:0<xs.size:=by
  have h3:=List.length_pos_iff.mpr hne;rw[hns,List.length_map,Array.length_toList] at h3;exact h3
 have hl':s.heap.IsList p (intItems xs):=e ▸ pl.isList
 refine min_intList (I.ok.hd hc) hl' hsz fun v h' tk hv hk=>?_
 obtain⟨t,rfl⟩:=intItems_at hv
 obtain⟨h1,h2⟩:=argBest_lt (numAt xs) (xs.size-1)
 refine⟨.int _,H,I.kept hk,⟨_,rfl⟩,q _ ?_ fun a ha=>?_⟩
 ·rw[hns,numAt_eq];exact getD_mem (by rw[List.length_map,Array.length_toList];omega)
 ·rw[hns] at ha
  obtain⟨j,hj,rfl⟩:=mem_getD ha
  rw[List.length_map,Array.length_toList] at hj
  rw[←numAt_eq];exact h2 j (by omega)
theorem call_maxL(hc:X.calm=true):CallR X (.builtin "max") (rMaxL X.K):=by
 intro pins s σ H xs us Q I r h
 obtain⟨p,ns,rfl,hq,hne,q⟩:=h
 obtain⟨u,rfl,ru⟩:=vals1 r
 cases (show u=Value.ref p from ru)
 obtain⟨its,rv,pl,_⟩:=I.list hq
 have hi:=intsAre_of rv
 obtain⟨xs,e⟩:=hi.allInts.items
 have hns:ns=xs.toList.map (·.1):=by
  rw[←nums_intItems,←e]
  exact(show numsOf its.toArray.toList=ns from hi.numsOf).symm
 have hsz:0<xs.size:=by
  have h3:=List.length_pos_iff.mpr hne;rw[hns,List.length_map,Array.length_toList] at h3;exact h3
 have hl':s.heap.IsList p (intItems xs):=e ▸ pl.isList
 refine max_intList (I.ok.hd hc) hl' hsz fun v h' tk hv hk=>?_
 obtain⟨t,rfl⟩:=intItems_at hv
 obtain⟨h1,h2⟩:=argBest_gt (numAt xs) (xs.size-1)
 refine⟨.int _,H,I.kept hk,⟨_,rfl⟩,q _ ?_ fun a ha=>?_⟩
 ·rw[hns,numAt_eq];exact getD_mem (by rw[List.length_map,Array.length_toList];omega)
 ·rw[hns] at ha
  obtain⟨j,hj,rfl⟩:=mem_getD ha
  rw[List.length_map,Array.length_toList] at hj
  rw[←numAt_eq];exact h2 j (by omega)
end
section
variable{X:Cx}{M:List Str}{x:Str}{scope:Scope}{cl:List (Str×Addr)}{C:Addr}{s₀:Shared}{H₀:Hp}{fp:List Addr}
theorem ix_tup_c:IxR (compCx X M x scope cl C s₀ H₀ fp) (rIxT X.K):=ix_tup
end
section
variable{X:Cx}{tg:Expr}
end
end L2
set_option Elab.async false
set_option linter.all false
set_option maxRecDepth 100000
set_option maxHeartbeats 4000000
namespace L2
open PySem PySem.Spec PyProof.Rows
section
variable{X:Cx}
end
theorem rd_bm{K:PySem.W.Frag}{T:String}{r:V→List V→Hp→VK→Prop}{to:TE}{t:TA}{σ:St}{H:Hp}{Q:VK}(h:to σ H fun x H1=>tyV K T x H1∧t σ H1 fun xs H2=>r x xs H2 Q):tBM K T r to t σ H Q:=h
theorem rd_ext{K:PySem.W.Frag}{i:Nat}{t:TA}{σ:St}{H:Hp}{Q:VK}{l:Addr}{xs:List V}(e:σ[i]?=some (some (.ref l)))(h:H l=some (.lst xs))
 (g:t σ H fun ys H2=>rExtend (.ref l) ys H2 Q):tBM K "list" rExtend (tVar i) t σ H Q:=⟨_,e,.inl ⟨rfl,_,SqL.of h⟩,g⟩
theorem rd_gsub{to ti:TE}{t:TSet}{v:V}{σ:St}{H:Hp}{Q:St→Hp→Prop}(h:to σ H fun o H1=>ti σ H1 fun i H2=>t o i v H2 fun H3=>Q σ H3):gSub to ti t v σ H Q:=h
theorem ixN_nat{m k:Nat}(h:k<m):ixN m (k:Int)=some k:=by
 unfold ixN
 rw[if_pos (by omega),if_pos (by omega),Int.toNat_natCast]
theorem rd_setL{p:Addr}{xs:List V}{k:Nat}{v:V}{H:Hp}{Q:Hp→Prop}(h:H p=some (.lst xs))(hk:k<xs.length)(q:Q (upd H p (.lst (xs.set k v)))):rSetL (.ref p) (.int (k:Int)) v H Q:=
 ⟨p,xs,k,k,rfl,rfl,h,ixN_nat hk,q⟩
theorem rd_rep{l:Addr}{k:Int}{xs:List V}{H:Hp}{Q:VK}(h:H l=some (.lst xs))(h0:0≤k)(h1:k<2^60)(hz:xs.length*k.toNat≤sizeLine)(q:∀p,H p=none→Q (.ref p) (upd H p (.lst (List.replicate k.toNat xs).flatten))):rRep (.ref l) (.int k) H Q:=
 ⟨l,k,xs,rfl,rfl,h,by omega,by omega,hz,q⟩
section
variable{X:Cx}{M:List Str}{x:Str}{scope:Scope}{cl:List (Str×Addr)}{C:Addr}{s₀:Shared}{H₀:Hp}{fp:List Addr}
end
end L2
set_option Elab.async false
set_option linter.all false
set_option maxRecDepth 100000
set_option maxHeartbeats 4000000
namespace L2
open PySem PySem.Spec PyProof.Rows
theorem rd_slice{r:V→Option Int→Option Int→Hp→VK→Prop}{te:TE}{tl th:TO}{σ:St}{H:Hp}{Q:VK}(h:te σ H fun x H1=>tl σ H1 fun l H2=>th σ H2 fun u H3=>r x l u H3 Q):tSl r te tl th σ H Q:=h
theorem rd_part{t:TE}{σ:St}{H:Hp}{Q:Option Int→Hp→Prop}(h:t σ H fun x H1=>∃i,x=.int i∧Q (some i) H1):tPart t σ H Q:=h
theorem rd_exI{i:Int}{P:Int→Prop}(h:P i):∃j,V.int i=.int j∧P j:=⟨i,rfl,h⟩
theorem rd_noPart{σ:St}{H:Hp}{Q:Option Int→Hp→Prop}(h:Q none H):tNoPart σ H Q:=h
end L2
set_option Elab.async false
set_option linter.all false
set_option maxRecDepth 100000
set_option maxHeartbeats 4000000
namespace L2
open PySem PySem.Spec PyProof.Rows
section
variable{X:Cx}
end
end L2
set_option Elab.async false
set_option linter.all false
set_option maxRecDepth 100000
set_option maxHeartbeats 4000000
namespace L2
open PySem PySem.Spec PyProof.Rows
end L2
set_option Elab.async false
set_option linter.all false
set_option maxRecDepth 100000
set_option maxHeartbeats 4000000
namespace L2
open PySem PySem.Spec PyProof.Rows
section
variable{X:Cx}
section
variable{prog:Program}{w:World}{A:Around}{R:Result→Shared→Prop}
end
end
end L2
namespace L2
open PySem PySem.Spec PyProof.Rows
theorem rd_fld{K:PySem.W.Frag}{ta:TE}{f:Str}{σ:St}{H:Hp}{Q:VK}(h:ta σ H fun x H1=>∃a C dx fs v,x=.ref a∧H1 a=some (.ins C dx fs)∧Cls K C∧NoAttr K C f∧fs.lookup f=some v∧Q v H1):tFld K ta f σ H Q:=h
theorem rd_sfld{K:PySem.W.Frag}{ta tv:TE}{f:Str}{D:Ends}{σ:St}{H:Hp}(h:tv σ H fun y H1=>ta σ H1 fun x H2=>∃a C dx fs,x=.ref a∧H2 a=some (.ins C dx fs)∧Cls K C∧NoAttr K C f∧fs.length<1000∧D.nx σ (upd H2 a (.ins C dx (putF f y fs)))):sFld K ta tv f D σ H:=h
theorem rd_meth{C:Addr}{m:Str}{sp:Sp}{ta:TE}{t:TA}{σ:St}{H:Hp}{Q:VK}(h:ta σ H fun x H1=>∃a dx fs,x=.ref a∧H1 a=some (.ins C dx fs)∧fs.lookup m=none∧t σ H1 fun vs H2=>sp (x::(vs++[])) H2 Q E0):tMeth C m sp [] E0 ta t σ H Q:=h
end L2
set_option Elab.async false
set_option linter.all false
set_option maxRecDepth 100000
set_option maxHeartbeats 4000000
namespace L2
open PySem PySem.Spec PyProof.Rows
section
variable{X:Cx}{M xs:List Str}{scope:Scope}{cl:List (Str×Addr)}{C:Addr}{s₀:Shared}{H₀:Hp}{fp:List Addr}
end
end L2
set_option Elab.async false
set_option linter.all false
set_option maxRecDepth 100000
set_option maxHeartbeats 4000000
namespace L2
open PySem PySem.Spec PyProof.Rows
structure FunD(K:PySem.W.Frag)(x qual:Str)(st:Stmt)(f:Addr)(fd:FuncData)(ds:Array Value):Prop where
 ex:∃(oc:Value) (od:Option Addr) (T:Addr) (to:Obj) (tn:Nat) (kV doc pm:Value) (an:Option Addr) (cdv ct:Value) (osl:Array (Option Value)),
  fd=PySem.W.fnOf x qual (defArgs st) (defBody st) (defScope st) (.ref T) kV doc pm an cdv ct∧K.lookup f=some ⟨oc,od,.func fd,osl⟩∧PySem.W.codeIn K cdv qual=true∧K.lookup T=some to∧to.data=.seq ds tn
 kp:PySem.W.keepIn K (.ref f)=true
section
variable{P:Program}{w:World}{K:PySem.W.Frag}{mg:Str→Option Value}{base:Heap}{x qual:Str}{st:Stmt}{f:Addr}{fd:FuncData}{N ps:List Str}{k:Nat}{sp:Sp}{ds:Array Value}
theorem FunD.ok(F:FunD K x qual st f fd ds)(S:FnScope N ps (defScope st))(len:∀vs H Q E,sp vs H Q E→vs.length=ps.length)
 (hbody:∀(cdv:Value) (A:Around) (outer:List Env) (s:Shared) (H:Hp) (vs:List V) (Q:VK) (E:XK),Room k (A.deeper (envOfC qual (defScope st) s.heap.objs.size f cdv))→sp vs H Q E→
  ∃t,PSs (cxOf CX0 P w K mg base N qual (defScope st) f cdv A outer s H E).nox (defBody st) t∧t { nx:=fun _ H'=>Q .non H',rt:=Q } (start N vs) H):FnOk P w K mg base CX0 (k+1) f fd ps sp:=by
 obtain⟨oc,od,T,to,tn,kV,doc,pm,an,cdv,ct,osl,rfl,lk,hcd,_⟩:=F.ex
 refine fn_of lk hcd S len fun A outer s H vs Q E hr hsp=>?_
 obtain⟨t,h,q⟩:=hbody cdv A outer s H vs Q E hr hsp
 exact⟨t,h.nox,q⟩
theorem FunD.binds(F:FunD K x qual st f fd ds)
 (h:∀(T:Addr) (kV doc pm:Value) (an:Option Addr) (cdv ct:Value) (us:List Value),us.length=ps.length→bindArgs (PySem.W.fnOf x qual (defArgs st) (defBody st) (defScope st) (.ref T) kV doc pm an cdv ct) ⟨us,[]⟩=pure (ps.zip us)):Binds K fd ps []:=by
 obtain⟨oc,od,T,to,tn,kV,doc,pm,an,cdv,ct,osl,rfl,lk,hcd,_⟩:=F.ex
 exact .all (h T kV doc pm an cdv ct)
theorem FunD.bindsD{dv:List Value}(n:Nat)(hn:n+dv.length=ps.length)(F:FunD K x qual st f fd ds)
 (h:∀(T:Addr) (kV doc pm:Value) (an:Option Addr) (cdv ct:Value) (us:List Value),us.length=n→
  ∃k:Option (Array Value)→Sem (List (Str×Value)),bindArgs (PySem.W.fnOf x qual (defArgs st) (defBody st) (defScope st) (.ref T) kV doc pm an cdv ct) ⟨us,[]⟩=seqItems? (.ref T) >>= k∧k (some ds)=pure (ps.zip (us++dv))):Binds K fd ps dv:=by
 obtain⟨oc,od,T,to,tn,kV,doc,pm,an,cdv,ct,osl,rfl,lk,hcd,ht,hs⟩:=F.ex
 intro s us KX hl
 obtain⟨k,h1,h2⟩:=h T kV doc pm an cdv ct us (by rw[List.length_append] at hl;omega)
 exact PySem.W.binds_K KX rfl ht hs h1 h2
theorem fun_mkD{oc:Value}{od an:Option Addr}{osl:Array (Option Value)}{kV doc pm cdv ct:Value}{T:Addr}{to:Obj}{tn:Nat}(l:K.lookup f=some ⟨oc,od,.func (PySem.W.fnOf x qual (defArgs st) (defBody st) (defScope st) (.ref T) kV doc pm an cdv ct),osl⟩)
 (c:PySem.W.codeIn K cdv qual=true)(k:PySem.W.keepIn K (.ref f)=true)(t:K.lookup T=some to)(d:to.data=.seq ds tn):FunD K x qual st f (PySem.W.fnOf x qual (defArgs st) (defBody st) (defScope st) (.ref T) kV doc pm an cdv ct) ds:=
 ⟨⟨oc,od,T,to,tn,kV,doc,pm,an,cdv,ct,osl,rfl,l,c,t,d⟩,k⟩
end
structure CalID(P:Program)(w:World)(K:PySem.W.Frag)(mg:Str→Option Value)(base:Heap)(CX:CXT)(k:Nat)(x:Str)(C:Addr)(ps:List Str)(dvs:List V)(sp:Sp):Prop where
 ex:∃(f:Addr) (fd:FuncData) (ds:List Value),FnOk P w K mg base CX k f fd ps sp∧Binds K fd ps ds∧Vals dvs ds∧Mk K C f∧mg x=some (.ref C)
section
variable{X:Cx}{EE:Value→Option Addr→St→Hp→Prop}{C:Addr}{m x:Str}{k:Nat}{ps:List Str}{dvs:List V}{sp:Sp}{o e:Expr}{es:List Expr}{ta:TE}{t:TA}{apos pos p:Pos}
theorem pe_mkD(O:CalID X.prog X.w X.K X.mg X.base CX0 k x C ps dvs sp)(hr:Room (k+1) X.A)(hg:Gl X x)(ha:PA X (e::es) t)
 (hdb:(x==("__debug__":Str))=false:=by decide)(he:starEach (e::es) X.env=(false,eval e X.env)::starEach es X.env:=by rfl)(hpl:(backTo pos (starEach es X.env)).any (·.1)=false:=by rfl):
 PE X (.Call (.Name x p) (e::es) [] pos) (tMake C sp dvs E0 t):=by
 obtain⟨f,fd,ds,F,hb,hv,M,hm⟩:=O.ex
 exact pe_make M F hr hg hm hb hv pass0 ha hdb he hpl
end
section
variable{X:Cx}
end
end L2
namespace L2
open PySem PySem.Spec PyProof.Rows
theorem rd_makeD{C:Addr}{sp:Sp}{dvs:List V}{t:TA}{σ:St}{H:Hp}{Q:VK}(h:t σ H fun vs H1=>∀x dx,H1 x=none→H1 dx=none→dx≠x→sp (.ref x::(vs++dvs)) (upd (upd H1 dx (.own x)) x (.ins C dx [])) (fun v H2=>v=.non∧Q (.ref x) H2) E0):tMake C sp dvs E0 t σ H Q:=h
end L2
set_option Elab.async false
set_option linter.all false
set_option maxRecDepth 100000
set_option maxHeartbeats 4000000
namespace L2
open PySem PySem.Spec PyProof.Rows
def plainV:V→Bool
 | .byt _=>false
 | .flt _=>false
 | _=>true
inductive EqV(K:PySem.W.Frag)(H:Hp):Nat→V→V→Prop
 | same {n:Nat} {v:V}:plainV v=true→EqV K H n v v
 | lst {n:Nat} {a b:Addr} {xs ys:List V}:SqL K H a xs→SqL K H b ys→xs.length=ys.length→(∀(i:Nat) x y,xs[i]?=some x→ys[i]?=some y→EqV K H n x y)→EqV K H (n+1) (.ref a) (.ref b)
 | tup {n:Nat} {a b:Addr} {xs ys:List V}:SqT K H a xs→SqT K H b ys→xs.length=ys.length→(∀(i:Nat) x y,xs[i]?=some x→ys[i]?=some y→EqV K H n x y)→EqV K H (n+1) (.ref a) (.ref b)
theorem vals_at:∀{xs:List V} {us:List Value} {i:Nat} {u:Value},Vals xs us→us[i]?=some u→∃x,xs[i]?=some x∧RelV x u
 | _,_,i,u,.nil,h=>by simp at h
 | _,_,0,u,.cons r _,h=>by
  injection h with h
  subst h
  exact⟨_,rfl,r⟩
 | _,_,i+1,u,.cons _ rs,h=>vals_at (i:=i) rs h
section
variable{X:Cx}{pins:List (Addr×Obj)}{σ:St}{H:Hp}{s:Shared}
theorem EqV.at{n:Nat}{x y:V}(h:EqV X.K H n x y)(I:Inv X pins σ H s):∀{A:Around} {u v:Value},RelV x u→RelV y v→A.units+n<cLine→SeqAt.EqAt A s u v true:=by
 induction h with
 | @same n v hp=>
  intro A u u' r r' _
  cases v with
  | non=>cases r;cases r';exact SeqAt.EqAt.same _
  | bl b=>cases r;cases r';exact SeqAt.EqAt.same _
  | int i=>
   obtain⟨t,rfl⟩:=r
   obtain⟨t',rfl⟩:=r'
   have:=SeqAt.EqAt.int_int (A:=A) (s:=s) i t i t'
   rwa [beq_self_eq_true] at this
  | str x=>
   obtain⟨t,rfl⟩:=r
   obtain⟨t',rfl⟩:=r'
   have:=SeqAt.EqAt.str_str (A:=A) (s:=s) x t x t'
   rwa [beq_self_eq_true] at this
  | byt b=>cases hp
  | flt b=>cases hp
  | ref a=>cases r;cases r';exact SeqAt.EqAt.same _
  | ty n=>cases r;cases r';exact SeqAt.EqAt.same _
 | @lst n a b xs ys ha hb hl _ ih=>
  intro A u v r r' hu
  cases r
  cases r'
  by_cases e:a=b
  ·subst e
   exact SeqAt.EqAt.same _
  obtain⟨its,r,pl,_⟩:=I.list ha
  obtain⟨its',r',pl',_⟩:=I.list hb
  have l1:=r.length
  have l2:=r'.length
  have:=SeqAt.RcAt.lists (A:=A) (e:=fun _=>true) pl.isList pl'.isList (by simp;omega) (by omega) fun j k1 k2=>by
   obtain⟨x,hx,rx⟩:=vals_at r (i:=j) (u:=its.toArray[j]) (by simp)
   obtain⟨y,hy,ry⟩:=vals_at r' (i:=j) (u:=its'.toArray[j]) (by simp)
   exact ih j x y hx hy rx ry (by show A.units+1+n<cLine;omega)
  rw[show ((List.range its.toArray.size).all fun _=>true)=true by simp] at this
  exact SeqAt.EqAt.of_refs e this
 | @tup n a b xs ys ha hb hl _ ih=>
  intro A u v r r' hu
  cases r
  cases r'
  by_cases e:a=b
  ·subst e
   exact SeqAt.EqAt.same _
  obtain⟨its,r,pl,_⟩:=I.tuple ha
  obtain⟨its',r',pl',_⟩:=I.tuple hb
  have l1:=r.length
  have l2:=r'.length
  have:=SeqAt.RcAt.tuples (A:=A) (e:=fun _=>true) pl pl' (by omega) fun j k1 k2=>by
   obtain⟨x,hx,rx⟩:=vals_at r (i:=j) (u:=its.toArray[j]) (by simp)
   obtain⟨y,hy,ry⟩:=vals_at r' (i:=j) (u:=its'.toArray[j]) (by simp)
   exact ih j x y hx hy rx ry (by show A.units+1+n<cLine;omega)
  rw[show ((List.range (min its.toArray.size its'.toArray.size)).all fun _=>true)=true by simp,Bool.true_and,show(its.toArray.size==its'.toArray.size)=true by simp;omega] at this
  exact SeqAt.EqAt.of_refs e this
end
end L2
set_option Elab.async false
set_option linter.all false
set_option maxRecDepth 100000
set_option maxHeartbeats 4000000
namespace L2
open PySem PySem.Spec PyProof.Rows
structure CalL(P:Program)(w:World)(K:PySem.W.Frag)(mg:Str→Option Value)(base:Heap)(CX:CXT)(k:Nat)(m:Str)(ps:List Str)(L:List (Addr×Sp)):Prop where
 ex:∀p∈L,Cls K p.1∧∃(f:Addr) (fd:FuncData),FnOk P w K mg base CX k f fd ps p.2∧Binds K fd ps []∧Meth K p.1 m f
theorem CalL.nil{P:Program}{w:World}{K:PySem.W.Frag}{mg:Str→Option Value}{base:Heap}{CX:CXT}{k:Nat}{m:Str}{ps:List Str}:CalL P w K mg base CX k m ps []:=⟨fun p hp=>(nomatch hp)⟩
theorem FnOk.up{P:Program}{w:World}{K:PySem.W.Frag}{mg:Str→Option Value}{base:Heap}{CX:CXT}{k j:Nat}{f:Addr}{fd:FuncData}{ps:List Str}{sp:Sp}(F:FnOk P w K mg base CX k f fd ps sp)(h:k≤j):FnOk P w K mg base CX j f fd ps sp:=
 ⟨F.len,fun A outer s H args us vs Q E hr e0 hb r hs=>F.run A outer s H args us vs Q E (hr.mono h) e0 hb r hs⟩
theorem CalL.cons{P:Program}{w:World}{K:PySem.W.Frag}{mg:Str→Option Value}{base:Heap}{CX:CXT}{k j:Nat}{m:Str}{ps:List Str}{C:Addr}{sp:Sp}{L:List (Addr×Sp)}(c:Cls K C)(O:CalM P w K mg base CX j C m ps sp)(h:j≤k)(r:CalL P w K mg base CX k m ps L):CalL P w K mg base CX k m ps ((C,sp)::L):=by
 refine⟨fun p hp=>?_⟩
 rcases List.mem_cons.mp hp with e | e
 ·subst e
  obtain⟨f,fd,F,hb,M⟩:=O.ex
  exact⟨c,f,fd,F.up h,hb,M⟩
 ·exact r.ex p e
def tMethL(L:List (Addr×Sp))(m:Str)(ta:TE)(t:TA):TE:=fun σ H Q=>ta σ H fun x H1=>∃a C dx fs sp,(C,sp)∈L∧x=.ref a∧H1 a=some (.ins C dx fs)∧fs.lookup m=none∧
 t σ H1 fun vs H2=>sp (x::(vs++[])) H2 Q E0
section
variable{X:Cx}{EE:Value→Option Addr→St→Hp→Prop}{L:List (Addr×Sp)}{m:Str}{k:Nat}{ps:List Str}{o e:Expr}{es:List Expr}{ta:TE}{t:TA}{apos pos:Pos}
theorem pe_mcalL0{pl:Sem Bool}(O:CalL X.prog X.w X.K X.mg X.base CX0 k m ps L)(hr:Room k X.A)(he:PE X o ta)
 (ht:eval (.Call (.Attribute o m apos) [] [] pos) X.env=(do
  let ov ←eval o X.env
  standAt apos.atName
  let (f,first) ←holding [ov] (getMethod ov m pl)
  callWith pos f first (backTo pos (starEach [] X.env)) (backToKw pos (keywordEach [] X.env))):=by rfl):
 PE X (.Call (.Attribute o m apos) [] [] pos) (tMethL L m ta tNil):=by
 intro pins s σ H Q I h
 refine PySem.W.methodCall_KW (pl:=pl) (thn (he pins s σ H _ I h) fun u s1 ⟨x,H1,I1,rx,a,C,dx,fs,sp,mem,ex,ea,l,q⟩=>?_) ht
 subst ex
 obtain rfl:u=Value.ref a:=rx
 obtain⟨c,f,fd,F,hb,hm⟩:=O.ex _ mem
 refine getmeth_ok I1 ea c hm l ?_
 exact PySem.W.callWith_K0 (first:=[.ref a]) I1.kIn hm.kp (run_fn (us:=[.ref a]) (vs:=[.ref a]) F hr hb .nil pass0 I1 (.cons rfl .nil) q)
end
theorem rd_methL{L:List (Addr×Sp)}{m:Str}{ta:TE}{t:TA}{σ:St}{H:Hp}{Q:VK}(h:ta σ H fun x H1=>∃a C dx fs sp,(C,sp)∈L∧x=.ref a∧H1 a=some (.ins C dx fs)∧fs.lookup m=none∧t σ H1 fun vs H2=>sp (x::(vs++[])) H2 Q E0):tMethL L m ta t σ H Q:=h
end L2
set_option Elab.async false
set_option linter.all false
namespace L2
theorem len1{α:Type}{us:List α}(h:us.length=1):∃a0,us=[a0]:=by
 match us,h with
 | [a0],_=>exact⟨a0,rfl⟩
theorem len2{α:Type}{us:List α}(h:us.length=2):∃a0 a1,us=[a0,a1]:=by
 match us,h with
 | [a0,a1],_=>exact⟨a0,a1,rfl⟩
theorem len3{α:Type}{us:List α}(h:us.length=3):∃a0 a1 a2,us=[a0,a1,a2]:=by
 match us,h with
 | [a0,a1,a2],_=>exact⟨a0,a1,a2,rfl⟩
theorem len4{α:Type}{us:List α}(h:us.length=4):∃a0 a1 a2 a3,us=[a0,a1,a2,a3]:=by
 match us,h with
 | [a0,a1,a2,a3],_=>exact⟨a0,a1,a2,a3,rfl⟩
theorem len5{α:Type}{us:List α}(h:us.length=5):∃a0 a1 a2 a3 a4,us=[a0,a1,a2,a3,a4]:=by
 match us,h with
 | [a0,a1,a2,a3,a4],_=>exact⟨a0,a1,a2,a3,a4,rfl⟩
theorem len6{α:Type}{us:List α}(h:us.length=6):∃a0 a1 a2 a3 a4 a5,us=[a0,a1,a2,a3,a4,a5]:=by
 match us,h with
 | [a0,a1,a2,a3,a4,a5],_=>exact⟨a0,a1,a2,a3,a4,a5,rfl⟩
theorem len7{α:Type}{us:List α}(h:us.length=7):∃a0 a1 a2 a3 a4 a5 a6,us=[a0,a1,a2,a3,a4,a5,a6]:=by
 match us,h with
 | [a0,a1,a2,a3,a4,a5,a6],_=>exact⟨a0,a1,a2,a3,a4,a5,a6,rfl⟩
theorem len8{α:Type}{us:List α}(h:us.length=8):∃a0 a1 a2 a3 a4 a5 a6 a7,us=[a0,a1,a2,a3,a4,a5,a6,a7]:=by
 match us,h with
 | [a0,a1,a2,a3,a4,a5,a6,a7],_=>exact⟨a0,a1,a2,a3,a4,a5,a6,a7,rfl⟩
end L2
set_option Elab.async false
set_option linter.all false
set_option maxRecDepth 100000
set_option maxHeartbeats 4000000
namespace L2
open PySem PySem.Spec PyProof.Rows
section
variable{X:Cx}
end
end L2
set_option Elab.async false
set_option linter.all false
set_option maxRecDepth 100000
set_option maxHeartbeats 4000000
namespace L2
open PySem PySem.Spec PyProof.Rows
section
variable{X:Cx}
end
end L2
set_option Elab.async false
set_option linter.all false
set_option maxRecDepth 100000
set_option maxHeartbeats 4000000
namespace L2
open PySem PySem.Spec PyProof.Rows
section
variable{X:Cx}
end
end L2
set_option Elab.async false
set_option linter.all false
set_option maxRecDepth 100000
set_option maxHeartbeats 4000000
namespace L2
open PySem PySem.Spec PyProof.Rows
section
variable{X:Cx}
end
end L2
set_option Elab.async false
set_option linter.all false
set_option maxRecDepth 100000
set_option maxHeartbeats 4000000
namespace L2
open PySem PySem.Spec PyProof.Rows
def signV(c:Nat):V:=.str ⟨#[c]⟩
def Its(z:Str):It:=⟨fun i _=>i<z.cps.size,fun i H x H'=>H'=H∧∃c,z.cps[i]?=some c∧x=signV c,fun i _=>z.cps.size≤i⟩
theorem turn_str{P:Program}{w:World}{K:PySem.W.Frag}{tg:Expr}(z:Str)(t:Tok)(it:Addr):Turn P w K tg (Its z) [it] it (fun i h=>h.IsStrIter it "str_ascii_iterator" z t i) where
 mem:=by simp
 obj:=fun i h st b hb=>by
  have e:b=it:=by simpa using hb
  subst e
  obtain⟨o,e,c,d⟩:=st
  exact⟨o,e,fun v z=>by rw[d] at z;cases z⟩
 keep:=fun i h h' st k=>by
  obtain⟨o,e,r⟩:=st
  exact⟨o,k it (by simp) o e,r⟩
 item:=by
  intro X hP hw hK hc i pins s σ H E I hf st hg
  subst hP hw hK
  have hg':i<z.cps.size:=hg
  obtain⟨f0,f1,f2,f3,f4,f5⟩:=hf it (by simp)
  refine wpAny_pyNext_ascii_item st (c:=z.cps[i]) (by simp[hg']) fun h' st' sb=>?_
  have I1:Inv X pins σ H { s with heap:=h',toks:=s.toks+1 }:=I.turned (t':=s.toks+1) (fun b o hb e=>(sb.2 b hb).trans e) f0 f1 f3 f4 f5
  obtain⟨o,e,c,d⟩:=id st'
  exact⟨_,rfl,go_of (s:={ s with heap:=h',toks:=s.toks+1 }) e c d (by decide) ⟨signV z.cps[i],H,I1,⟨_,rfl⟩,⟨rfl,_,by simp[hg'],rfl⟩,st',fun b hb=>(hf b hb).1⟩⟩
 done:=by
  intro X hP hw hK hc i pins s σ H E I hf st hg
  subst hP hw hK
  have hg':z.cps.size≤i:=hg
  obtain⟨f0,f1,f2,f3,f4,f5⟩:=hf it (by simp)
  exact wpAny_pyNext_ascii_end (I.ok.hd hc) st (by simp[hg']) fun h' eb=>⟨rfl,I.turned (t':=s.toks) (fun b o hb e=>eb b o hb e) f0 f1 f3 f4 f5⟩
 self:=fun _ _ _ _ _ st h=>wpAny_pyIter_striter_ascii st h
def asc(z:Str):Bool:=z.cps.all (· <128)
def iStr(tl:TE):TI:=fun σ H R=>tl σ H fun x H1=>∃z,x=.str z∧asc z=true∧R (Its z) H1
section
variable{X:Cx}{tg:Expr}
theorem pi_str{l:Expr}{tl:TE}(hl:PE X l tl):PI X tg l (iStr tl):=by
 intro pins s σ H R I h
 refine thn (hl pins s σ H _ I h) fun v s1 ⟨x,H1,I1,r1,q1⟩=>?_
 obtain⟨z,e,ha,q⟩:=q1
 subst e
 obtain⟨t,rfl⟩:=(show ∃t,v=Value.str z t from r1)
 refine wpAny_pyIter_ascii ha ?_
 refine⟨s1.heap.objs.size,[s1.heap.objs.size],_,_,H1,rfl,I1.kept (t':=s1.toks) fun b o e=>Heap.get?_push_of_some _ e,turn_str z t _,⟨_,Heap.get?_push_size _ rfl,rfl,rfl⟩,fun b hb=>?_,q⟩
 have e:b=s1.heap.objs.size:=by simpa using hb
 subst e
 exact I1.fpOk (Nat.le_refl _) (I1.hok.fresh (Nat.le_refl _))
def rSlS:V→Option Int→Option Int→Hp→VK→Prop:=fun x lo hi H Q=>∃z,x=.str z∧z.length≤sizeLine∧Q (.str (Txt.slice z lo hi)) H
theorem part_val{v:Value}{o:Option Int}(h:IsPart v o):∃l:Option (Int×Tok),v=partValue l∧l.map (·.1)=o:=by
 cases h with
 | none=>exact⟨none,rfl,rfl⟩
 | int i t=>exact⟨some (i,t),rfl,rfl⟩
theorem sl_str:SlR X rSlS:=by
 intro pins s σ H x v vl vu lo hi sl Q I rx hs pl pu h
 obtain⟨z,rfl,hz,q⟩:=h
 obtain⟨t,rfl⟩:=(show ∃t,v=Value.str z t from rx)
 obtain⟨l,rfl,rfl⟩:=part_val pl
 obtain⟨u,rfl,rfl⟩:=part_val pu
 refine⟨"str",_,F.slot_str_getitem.lookup,typeIs_str _ _ _,wpAny_getItem_str_slice (l:=l) (u:=u) (st:=none) hs rfl ?_⟩
 refine post_val_or_str ⟨Nat.le_trans (Txt.slice_le z _ _) hz,fun t' k=>?_⟩
 exact⟨.str _,H,I.kept (t':=k) fun b o e=>e,⟨_,rfl⟩,q⟩
theorem mt_startswith:MtR X "str.startswith" (fun x xs H Q=>∃z y,x=.str z∧xs=[.str y]∧Q (.bl (Txt.startswith z y)) H):=by
 intro pins s σ H x xs v us Q I rx rs h
 obtain⟨z,y,rfl,rfl,q⟩:=h
 obtain⟨t,rfl⟩:=(show ∃t,v=Value.str z t from rx)
 obtain⟨u,rfl,ru⟩:=vals1 rs
 obtain⟨t',rfl⟩:=(show ∃t,u=Value.str y t from ru)
 exact call_gives F.slot_str_startswith (typeIs_str _ _ _) F.entry_str_startswith (F.args_str_startswith_2 _ _) (gives_str_startswith z y t t') ⟨.bl _,H,I,rfl,q⟩
theorem call_int_text:CallR X (.type "int") (fun xs H Q=>∃z n,xs=[.str z]∧z.length≤640∧PySem.intText? z=some n∧Q (.int n) H):=by
 intro pins s σ H xs us Q I r h
 obtain⟨z,n,rfl,hl,hn,q⟩:=h
 obtain⟨u,rfl,ru⟩:=vals1 r
 obtain⟨t,rfl⟩:=(show ∃t,u=Value.str z t from ru)
 exact PySem.W.KIN.call_text hn hl ⟨.int n,H,I.tok _,⟨_,rfl⟩,q⟩
end
theorem walk_s{z:Str}:Walk (Its z) (fun _=>True) (z.cps.toList.map signV):=
 ⟨fun i H _ hi=>(by show i<z.cps.size;simpa using hi),fun i H x H' _ y hi=>⟨y.1,by
  obtain⟨c,hc,rfl⟩:=y.2
  rw[List.getElem?_map,Array.getElem?_toList,hc]
  rfl⟩,fun i H _ hi=>(by show z.cps.size≤i;simpa using hi)⟩
theorem rd_iS{tl:TE}{σ:St}{H:Hp}{R:It→Hp→Prop}(h:tl σ H fun x H1=>∃z,x=.str z∧asc z=true∧R (Its z) H1):iStr tl σ H R:=h
theorem rel_str(x:Str)(t:Tok):RelV (.str x) (.str x t):=⟨t,rfl⟩
def constStr?:Expr→Option Str
 | .Constant (.str x) _ _=>some x
 | _=>none
def tStrs(ss:List Str):TA:=fun _ H Q=>Q (ss.map V.str) H
theorem pa_strs{X:Cx}:∀{es:List Expr} {ss:List Str},es.map constStr?=ss.map some→PA X es (tStrs ss)
 | [],[],_=>pa_nil
 | [],_::_,h=>nomatch h
 | _::_,[],h=>nomatch h
 | e::es,x::ss,h=>by
  rw[List.map_cons,List.map_cons] at h
  injection h with h1 h2
  have ih:=pa_strs (X:=X) (es:=es) (ss:=ss) h2
  unfold constStr? at h1
  split at h1
  ·injection h1 with h1
   subst h1
   exact pa_cons pe_str ih rfl
  ·cases h1
theorem pe_strs{X:Cx}{es:List Expr}{ss:List Str}{pos:Pos}(h:es.map constStr?=ss.map some):PE X (.List es pos) (tLst (tStrs ss)):=pe_lst (pa_strs h)
theorem rd_strs{ss:List Str}{σ:St}{H:Hp}{Q:List V→Hp→Prop}(h:Q (ss.map V.str) H):tStrs ss σ H Q:=h
structure BE(X:Cx)(e:Expr)(te:TE):Prop where
 out:PE X e te
structure BS(X:Cx)(st:Stmt)(t:TS):Prop where
 out:PS X st t
structure BSs(X:Cx)(st:List Stmt)(t:TS):Prop where
 out:PSs X st t
section
variable{X:Cx}
theorem be{e:Expr}{te:TE}(h:PE X e te):BE X e te:=⟨h⟩
theorem be_strs{es:List Expr}{ss:List Str}{pos:Pos}(h:es.map constStr?=ss.map some):BE X (.List es pos) (tLst (tStrs ss)):=⟨pe_strs h⟩
theorem be_op{op:Operator}{r:R2}{a b:Expr}{ta tb:TE}{pos:Pos}(ho:OpR X (binaryOp op) r)(ha:BE X a ta)(hb:BE X b tb):BE X (.BinOp a op b pos) (tOp r ta tb):=⟨pe_op ho ha.out hb.out⟩
theorem bs{st:Stmt}{t:TS}(h:PS X st t):BS X st t:=⟨h⟩
theorem bs_set{i:Nat}{x:Str}{e:Expr}{te:TE}{pos' pos:Pos}(hN:X.N.Nodup)(hi:X.N[i]?=some x)(hx:Loc X.env.scope x)(he:BE X e te)(hs:swapsWith e (some (.Name x pos')) pos.line X.env=pure false:=by rfl)(hf:X.fn x=true∨X.env.scope.names.lookup x=some .local:=by first | exact .inl rfl | exact .inr rfl | assumption):
 BS X (.Assign [.Name x pos'] e pos) (tAsg te (gName i)):=⟨ps_set hN hi hx he.out hs hf⟩
theorem bss_cons{st:Stmt}{rest:List Stmt}{t u:TS}(h1:BS X st t)(h2:BSs X rest u):BSs X (st::rest) (tSeq t u):=⟨pss_cons h1.out h2.out⟩
theorem bss_one{st:Stmt}{t:TS}(h1:BS X st t):BSs X [st] t:=⟨pss_one h1.out⟩
theorem bss_ex{ss:List Stmt}{R:TS→Prop}(h:∃t,BSs X ss t∧R t):∃t,PSs X ss t∧R t:=by
 obtain⟨t,h1,h2⟩:=h
 exact⟨t,h1.out,h2⟩
end
end L2
set_option Elab.async false
set_option linter.all false
set_option maxRecDepth 100000
set_option maxHeartbeats 4000000
namespace L2
open PySem PySem.Spec PyProof.Rows
section
variable{X:Cx}{pos:Pos}
end
end L2
set_option Elab.async false
set_option linter.all false
set_option maxRecDepth 100000
set_option maxHeartbeats 4000000
namespace L2
open PySem PySem.Spec PyProof.Rows
section
variable{X:Cx}{pins:List (Addr×Obj)}{σ:St}{H:Hp}{s:Shared}{h':Heap}
end
section
variable{X:Cx}
end
section
variable{X:Cx}
end
end L2
set_option Elab.async false
set_option linter.all false
set_option maxRecDepth 100000
set_option maxHeartbeats 4000000
namespace L2
open PySem PySem.Spec PyProof.Rows
structure BInit(K:PySem.W.Frag)(mg:Str→Option Value)(x:Str)(CB f:Addr):Prop where
 bound:mg x=some (.ref CB)
 sp:PySem.W.specialIn K (.ref CB) "__getattribute__"=some (some (.builtin "type.__getattribute__"))
 rd:PySem.W.readsIn K CB (.type "type")=true
 fc:PySem.W.findCls K (.ref CB) (.type "type") "__init__"=some (.val (.ref f))
 kp:PySem.W.keepIn K (.ref f)=true
structure CalB(P:Program)(w:World)(K:PySem.W.Frag)(mg:Str→Option Value)(base:Heap)(k:Nat)(x:Str)(ps:List Str)(sp:Sp):Prop where
 ex:∃(f CB:Addr) (fd:FuncData),FnOk P w K mg base CX0 k f fd ps sp∧Binds K fd ps []∧BInit K mg x CB f
section
variable{X:Cx}
theorem pe_binit{x:Str}{k:Nat}{ps:List Str}{sp:Sp}{e:Expr}{es:List Expr}{t:TA}{p apos pos:Pos}{pl:Sem Bool}(O:CalB X.prog X.w X.K X.mg X.base k x ps sp)(hr:Room k X.A)(hg:Gl X x)(ha:PA X (e::es) t)
 (hdb:(x==("__debug__":Str))=false:=by decide)(hst:starEach (e::es) X.env=(false,eval e X.env)::starEach es X.env:=by rfl)(hpl:(backTo pos (starEach es X.env)).any (·.1)=false:=by rfl)
 (ht:eval (.Call (.Attribute (.Name x p) "__init__" apos) (e::es) [] pos) X.env=(do
  let ov ←eval (.Name x p) X.env
  standAt apos.atName
  let (f,first) ←holding [ov] (getMethod ov "__init__" pl)
  callWith pos f first (backTo pos (starEach (e::es) X.env)) (backToKw pos (keywordEach [] X.env))):=by rfl):
 PE X (.Call (.Attribute (.Name x p) "__init__" apos) (e::es) [] pos) (tCall sp [] E0 t):=by
 intro pins s σ H Q I h
 obtain⟨f,CB,fd,F,hb,N⟩:=O.ex
 refine PySem.W.methodCall_KW (pl:=pl) (ld_glob I hg N.bound ?_ hdb) ht
 refine PySem.W.method_cls I.kIn N.sp (PySem.W.cls_value I.kIn N.rd N.fc rfl ?_)
 have I1:Inv X pins σ H { s with toks:=s.toks+1 }:=I.tok _
 refine PySem.W.callWith_K (first:=[]) (h₀:=X.base) I.ok.mod.kin N.kp (thn (ha pos pins _ σ H _ I1 h) fun us s2 ⟨vs,H2,I2,r,q2⟩=>⟨I2.kIn,?_⟩) hst hpl
 exact run_fn (us:=us) (vs:=vs) F hr hb .nil pass0 I2 r q2
theorem pe_mk0{k:Nat}{x:Str}{C:Addr}{ps:List Str}{sp:Sp}{p pos:Pos}(O:CalI X.prog X.w X.K X.mg X.base CX0 k x C ps sp)(hr:Room (k+1) X.A)(hg:Gl X x)
 (hdb:(x==("__debug__":Str))=false:=by decide):PE X (.Call (.Name x p) [] [] pos) (tMake C sp [] E0 tNil):=by
 obtain⟨f,fd,F,hb,M,hm⟩:=O.ex
 exact pe_make0 M F hr hg hm hb .nil pass0 hdb
end
end L2
set_option Elab.async false
set_option linter.all false
set_option maxRecDepth 100000
set_option maxHeartbeats 4000000
namespace L2
open PySem PySem.Spec PyProof.Rows
section
variable{X:Cx}
end
section
variable{X:Cx}
end
end L2
set_option Elab.async false
set_option linter.all false
set_option maxRecDepth 100000
set_option maxHeartbeats 4000000
namespace L2
open PySem PySem.Spec PyProof.Rows PySem.Builtin PySem.Builtin.Str
def plc(c:Nat):Nat→List Nat→List Nat
 | _,[]=>[]
 | k,a::l=>if a=c then k::plc c (k+1) l else plc c (k+1) l
def spl(c:Nat):List Nat→List (List Nat)
 | []=>[[]]
 | a::l=>if a=c then []::spl c l else ((a::(spl c l).headD [])::(spl c l).drop 1)
theorem spl_at(c:Nat)(l:List Nat):spl c (c::l)=[]::spl c l:=by
 conv=>lhs;unfold spl
 rw[if_pos rfl]
theorem spl_not{c a:Nat}(l:List Nat)(h:a≠c):spl c (a::l)=(a::(spl c l).headD [])::(spl c l).drop 1:=by
 conv=>lhs;unfold spl
 rw[if_neg h]
theorem str_eq{a b:Str}(h:a.cps=b.cps):a=b:=by
 cases a
 cases b
 exact congrArg Str.mk h
theorem spl_ne(c:Nat):∀l,spl c l≠[]
 | []=>fun h=>nomatch h
 | a::l=>by
  unfold spl
  split
  ·exact fun h=>nomatch h
  ·exact fun h=>nomatch h
theorem spl_eta(c:Nat)(l:List Nat):spl c l=(spl c l).headD []::(spl c l).drop 1:=by
 have:=spl_ne c l
 cases h:spl c l with
 | nil=>exact absurd h this
 | cons p ps=>rfl
theorem plc_len(c:Nat):∀(l:List Nat) (k:Nat),(plc c k l).length+1=(spl c l).length
 | [],_=>rfl
 | a::l,k=>by
  have ih:=plc_len c l (k+1)
  unfold plc spl
  split
  ·rw[List.length_cons,List.length_cons,ih]
  ·rw[ih,spl_eta c l]
   rfl
theorem plc_count(c:Nat):∀(l:List Nat) (k:Nat),(plc c k l).length=l.count c
 | [],_=>rfl
 | a::l,k=>by
  have ih:=plc_count c l (k+1)
  unfold plc
  rw[List.count_cons]
  split
  ·rename_i h
   rw[List.length_cons,ih,if_pos (by simpa using h)]
  ·rename_i h
   rw[ih,if_neg (by simpa using h)]
   rfl
theorem spl_cut(c:Nat):∀(p l:List Nat),c∉p→spl c (p++c::l)=p::spl c l
 | [],l,_=>spl_at c l
 | a::p,l,h=>by
  have ih:=spl_cut c p l fun z=>h (List.mem_cons_of_mem _ z)
  show spl c (a::(p++c::l))=_
  rw[spl_not _ (fun z=>h (by rw[z];exact List.mem_cons_self)),ih]
  rfl
theorem spl_one(c:Nat):∀(p:List Nat),c∉p→spl c p=[p]
 | [],_=>rfl
 | a::p,h=>by
  rw[spl_not _ (fun z=>h (by rw[z];exact List.mem_cons_self)),spl_one c p fun z=>h (List.mem_cons_of_mem _ z)]
  rfl
theorem parts_spl(c:Nat)(L:List Nat):∀(l:List Nat) (k s0:Nat),L.drop k=l→s0≤k→k≤L.length→
 ((s0::(plc c k l).map (· +1)).zip (plc c k l++[L.length])).map (fun (ij:Nat×Nat)=>(L.drop ij.1).take (ij.2-ij.1))=((L.drop s0).take (k-s0)++(spl c l).headD [])::(spl c l).drop 1
 | [],k,s0,h,h1,h2=>by
  have e:k=L.length:=by
   have:=congrArg List.length h
   rw[List.length_drop] at this
   simp at this
   omega
  subst e
  show[(L.drop s0).take (L.length-s0)]=[(L.drop s0).take (L.length-s0)++[]]
  rw[List.append_nil]
 | a::l,k,s0,h,h1,h2=>by
  have kl:k<L.length:=by
   have:=congrArg List.length h
   rw[List.length_drop,List.length_cons] at this
   omega
  have hd:L.drop (k+1)=l:=by
   rw[←List.drop_drop,h]
   rfl
  unfold plc spl
  split
  ·have ih:=parts_spl c L l (k+1) (k+1) hd (Nat.le_refl _) kl
   rw[List.map_cons,List.cons_append,List.zip_cons_cons,List.map_cons,ih,Nat.sub_self,List.take_zero,List.nil_append,←spl_eta]
   show _=((L.drop s0).take (k-s0)++[])::spl c l
   rw[List.append_nil]
  ·have ih:=parts_spl c L l (k+1) s0 hd (by omega) kl
   rw[ih]
   have e:(L.drop s0).take (k+1-s0)=(L.drop s0).take (k-s0)++[a]:=by
    have hk:(L.drop s0)[k-s0]?=some a:=by
     rw[List.getElem?_drop,show s0+(k-s0)=k by omega]
     have:=congrArg (fun z=>z[0]?) h
     simpa [List.getElem?_drop] using this
    rw[show k+1-s0=(k-s0)+1 by omega,List.take_add_one,hk]
    rfl
   rw[e,List.append_assoc]
   rfl
def cps(z:Str):List Nat:=z.cps.toList
theorem cps_len(z:Str):(cps z).length=z.length:=Array.length_toList
theorem occ_run(x:Str)(c:Nat):∀(n k free:Nat) (acc:Array Nat),k+n=x.length+1→free≤k→acc.size≤k→
 (forIn (List.range' k n) (acc,free) (StrLaws.occBody x ⟨#[c]⟩ x.length (x.length+1))).run.fst.toList=acc.toList++plc c k ((cps x).drop k)
 | 0,k,free,acc,h,_,_=>by
  rw[List.drop_of_length_le (by rw[cps_len];omega)]
  show acc.toList=acc.toList++[]
  rw[List.append_nil]
 | n+1,k,free,acc,h,hf,ha=>by
  rw[List.range'_succ,List.forIn_cons]
  have one:(⟨#[c]⟩:Str).length=1:=rfl
  by_cases z:(cps x)[k]?=some c
  ·have kl:k<(cps x).length:=(List.getElem?_eq_some_iff.mp z).1
   have hs:=(StrLaws.subAt_one x c k).mpr z
   have ed:(cps x).drop k=c::(cps x).drop (k+1):=by
    rw[List.drop_eq_getElem_cons kl,(List.getElem?_eq_some_iff.mp z).2]
   have ih:=occ_run x c n (k+1) (k+1) (acc.push k) (by omega) (Nat.le_refl _) (by rw[Array.size_push];omega)
   unfold StrLaws.occBody
   rw[if_pos ⟨⟨⟨by show acc.size<x.length+1;omega,hf⟩,hs.1⟩,hs.2⟩,ed]
   unfold plc
   rw[if_pos rfl]
   have e2:acc.toList++k::plc c (k+1) ((cps x).drop (k+1))=(acc.push k).toList++plc c (k+1) ((cps x).drop (k+1)):=by
    rw[Array.toList_push,List.append_assoc]
    rfl
   rw[e2]
   exact ih
  ·have hs:¬(k+(⟨#[c]⟩:Str).length≤x.length∧subAt x ⟨#[c]⟩ k=true):=fun y=>z ((StrLaws.subAt_one x c k).mp y)
   have ih:=occ_run x c n (k+1) free acc (by omega) (by omega) (by omega)
   have ep:plc c k ((cps x).drop k)=plc c (k+1) ((cps x).drop (k+1)):=by
    by_cases kl:k<(cps x).length
    ·rw[List.drop_eq_getElem_cons kl]
     have:(cps x)[k]≠c:=fun y=>z (by rw[List.getElem?_eq_getElem kl,y])
     show(if (cps x)[k]=c then _ else _)=_
     rw[if_neg this]
    ·rw[List.drop_of_length_le (by omega),List.drop_of_length_le (by omega)]
     rfl
   unfold StrLaws.occBody
   rw[if_neg fun y=>hs ⟨y.1.2,y.2⟩,ep]
   exact ih
theorem occ_plc(x:Str)(c:Nat):occurrences x ⟨#[c]⟩ 0 x.length (x.length+1)=plc c 0 (cps x):=by
 rw[StrLaws.occ_eq]
 have:=occ_run x c (x.length+1) 0 0 #[] (by omega) (Nat.le_refl _) (Nat.le_refl _)
 simpa using this
theorem parts_eq(x:Str)(c:Nat):partsBetween x (plc c 0 (cps x)) 1=(spl c (cps x)).map fun p=>(⟨p.toArray⟩:Str):=by
 have h:=parts_spl c (cps x) (cps x) 0 0 rfl (Nat.le_refl _) (Nat.zero_le _)
 rw[List.take_zero,List.nil_append,←spl_eta] at h
 rw[←h,List.map_map]
 unfold partsBetween
 rw[←cps_len]
 refine List.map_congr_left fun ij _=>?_
 refine str_eq (Array.toList_inj.mp ?_)
 rw[StrLaws.strSub_toList]
 rfl
section
variable{X:Cx}
theorem strs_of:∀(ps:List Str) (tk:Nat),Vals (ps.map V.str) (strsFrom tk ps)
 | [],_=>.nil
 | p::ps,tk=>.cons ⟨tk,rfl⟩ (strs_of ps (tk+1))
def splS(c:Nat)(z:Str):List Str:=(spl c (cps z)).map fun p=>(⟨p.toArray⟩:Str)
theorem splS_len(c:Nat)(z:Str):(splS c z).length≤z.length+1:=by
 unfold splS
 rw[List.length_map,←plc_len c (cps z) 0,plc_count,←cps_len]
 exact Nat.succ_le_succ List.count_le_length
theorem splS_single{c:Nat}{z:Str}(h:plc c 0 (cps z)=[]):splS c z=[z]:=by
 have e:=parts_eq z c
 rw[h] at e
 unfold splS
 rw[←e]
 show[strSub z 0 z.length]=[z]
 refine congrArg (fun y=>[y]) (str_eq (Array.toList_inj.mp ?_))
 rw[StrLaws.strSub_toList,List.drop_zero,Nat.sub_zero]
 exact List.take_of_length_le (by show z.cps.toList.length≤z.cps.size;rw[Array.length_toList];exact Nat.le_refl _)
def rSplit:V→List V→Hp→VK→Prop:=fun x xs H Q=>∃z c,x=.str z∧xs=[.str ⟨#[c]⟩]∧c<256∧z.length≤1000000∧∀l,H l=none→Q (.ref l) (upd H l (.lst ((splS c z).map V.str)))
theorem mt_split:MtR X "str.split" rSplit:=by
 intro pins s σ H x xs v us Q I rx rs h
 obtain⟨z,c,rfl,rfl,hc,hz,q⟩:=h
 obtain⟨t,rfl⟩:=(show ∃t,v=Value.str z t from rx)
 obtain⟨u,rfl,ru⟩:=vals1 rs
 obtain⟨t',rfl⟩:=(show ∃t,u=Value.str ⟨#[c]⟩ t from ru)
 have sl:z.length+1≤sizeLine:=Nat.le_trans (Nat.succ_le_succ hz) (by decide)
 have one:(⟨#[c]⟩:Str).length=1:=rfl
 have itself:splS c z=[z]→EP X pins σ Q (.ref s.heap.objs.size) { s with heap:=s.heap.push { cls:=.type "list",data:=.seq [Value.str z t].toArray } }:=fun e=>by
  refine⟨.ref _,_,I.laid (a:=s.heap.objs.size) (o:=.lst ((splS c z).map V.str)) (fun _ _ e=>Heap.get?_push_of_some _ e) (Nat.le_refl _) ⟨by rw[e];show 1≤sizeLine;decide,[Value.str z t],0,by rw[e];exact .cons ⟨t,rfl⟩ .nil,Heap.get?_push_size _ rfl⟩,rfl,q _ I.fresh⟩
 by_cases h1:(decide (z.length<(⟨#[c]⟩:Str).length)||decide (PySem.Builtin.Str.strKind z<PySem.Builtin.Str.strKind ⟨#[c]⟩))=true
 ·have e:splS c z=[z]:=by
   have k1:PySem.Builtin.Str.strKind (⟨#[c]⟩:Str)=1:=by
    unfold PySem.Builtin.Str.strKind
    simp[hc]
   have k0:1≤PySem.Builtin.Str.strKind z:=by
    unfold PySem.Builtin.Str.strKind
    repeat' split
    all_goals omega
   rw[k1,one,decide_eq_false (show ¬PySem.Builtin.Str.strKind z<1 by omega),Bool.or_false,decide_eq_true_eq] at h1
   refine splS_single ?_
   have:cps z=[]:=List.length_eq_zero_iff.mp (by rw[cps_len];omega)
   rw[this]
   rfl
  exact call_meets F.slot_str_split (typeIs_str _ _ _) F.entry_str_split (F.args_str_split_2 _ _) (meets_str_split_cannot_occur z ⟨#[c]⟩ t t' h1) (itself e)
 ·have h1':=(Bool.not_eq_true _).mp h1
  by_cases h2:(occurrences z ⟨#[c]⟩ 0 z.length (z.length+1)).isEmpty=true
  ·have e:splS c z=[z]:=by
    rw[occ_plc,List.isEmpty_iff] at h2
    exact splS_single h2
   exact call_meets F.slot_str_split (typeIs_str _ _ _) F.entry_str_split (F.args_str_split_2 _ _) (meets_str_split_not_found z ⟨#[c]⟩ t t' h1' rfl h2) (itself e)
  ·have h2':=(Bool.not_eq_true _).mp h2
   have ep:partsBetween z (occurrences z ⟨#[c]⟩ 0 z.length (z.length+1)) (⟨#[c]⟩:Str).length=splS c z:=by rw[occ_plc];exact parts_eq z c
   refine call_meets F.slot_str_split (typeIs_str _ _ _) F.entry_str_split (F.args_str_split_2 _ _) (meets_str_split_sep z ⟨#[c]⟩ t t' h1' rfl h2' (by omega) (by rw[ep];exact Nat.le_trans (splS_len c z) sl)) ?_
   rw[ep]
   exact⟨.ref _,_,I.laid (a:=s.heap.objs.size) (o:=.lst ((splS c z).map V.str)) (fun _ _ e=>Heap.get?_push_of_some _ e) (Nat.le_refl _) ⟨by rw[List.length_map];exact Nat.le_trans (splS_len c z) sl,strsFrom s.toks (splS c z),0,strs_of _ _,Heap.get?_push_size _ rfl⟩,rfl,q _ I.fresh⟩
end
end L2
set_option Elab.async false
set_option linter.all false
set_option maxRecDepth 100000
set_option maxHeartbeats 4000000
namespace L2
open PySem PySem.Spec PyProof.Rows
section
variable{s:Shared}{A:Around}{w:World}{prog:Program}
end
section
variable{X:Cx}
end
end L2
set_option Elab.async false
set_option linter.all false
set_option maxRecDepth 100000
set_option maxHeartbeats 4000000
namespace L2
open PySem PySem.Spec PyProof.Rows
section
variable{X:Cx}
end
end L2
set_option Elab.async false
set_option linter.all false
set_option maxRecDepth 100000
set_option maxHeartbeats 4000000
namespace L2
open PySem PySem.Spec PyProof.Rows
section
variable{M:Model}{A:Around}{E:Value→Shared→Prop}{s:Shared}{base:Heap}{env:Env}{outer l:List Env}{L e:Addr}{cls:Value}{dd:Option Addr}{fl:Value}
end
section
variable{X:Cx}{pins:List (Addr×Obj)}{σ:St}{H H':Hp}{s:Shared}{C ea:Addr}{cls:Value}{dx:Option Addr}{B h1 h2 h3:Heap}{fl:Value}
end
section
variable{X:Cx}{pins:List (Addr×Obj)}{σ:St}{H2:Hp}{s2:Shared}{M:List Str}{x:Str}{scope:Scope}{cl:List (Str×Addr)}{C:Addr}{fp:List Addr}{E:XK}{Qe:Value→Shared→Prop}{acc:Value}
end
section
variable{X:Cx}
end
end L2
set_option Elab.async false
set_option linter.all false
set_option maxRecDepth 100000
set_option maxHeartbeats 4000000
namespace L2
open PySem PySem.Spec PyProof.Rows Builtin.Str
section
variable{X:Cx}
theorem mt_rstrip:MtR X "str.rstrip" (fun x xs H Q=>∃z y,x=.str z∧xs=[.str y]∧z.length≤sizeLine∧Q (.str (if stripSame y.cps.contains false true z then z else stripped y.cps.contains false true z)) H):=by
 intro pins s σ H x xs v us Q I rx rs h
 obtain⟨z,y,rfl,rfl,hz,q⟩:=h
 obtain⟨t,rfl⟩:=(show ∃t,v=Value.str z t from rx)
 obtain⟨u,rfl,ru⟩:=vals1 rs
 obtain⟨t',rfl⟩:=(show ∃t,u=Value.str y t from ru)
 refine call_gives F.slot_str_rstrip (typeIs_str _ _ _) F.entry_str_rstrip (F.args_str_rstrip_2 _ _) (gives_str_rstrip_chars z y t t') ?_
 by_cases c:stripSame y.cps.contains false true z=true
 ·rw[if_pos c] at q ⊢
  exact⟨.str _,H,I,⟨_,rfl⟩,q⟩
 ·rw[if_neg c] at q ⊢
  exact⟨fits_stripped _ _ _ hz,.str _,H,I.tok _,⟨_,rfl⟩,q⟩
end
end L2
set_option Elab.async false
set_option linter.all false
set_option maxRecDepth 100000
set_option maxHeartbeats 4000000
namespace L2
open PySem PySem.Spec PyProof.Rows
section
variable{prog:Program}{w:World}{A:Around}{R:Result→Shared→Prop}{I:Addr}{fp wr:List Addr}{n:Nat}{P:Nat→Value→Prop}{St:Nat→Heap→Prop}
end
section
variable{prog:Program}{w:World}{A:Around}{E:Value→Shared→Prop}{s:Shared}
end
section
variable{X:Cx}
end
end L2
set_option Elab.async false
set_option linter.all false
namespace L2
open PySem
@[elab_as_elim] theorem fresh{P:Hp→Prop}{H:Hp}{l:Addr}{o:HO}(h:H l=none)(q:∀H',Same H H'→H' l=some o→P H'):P (upd H l o):=q _ (same_new h o) upd_same
example {Q:V→Hp→Prop} {H:Hp} (q:∀l H',Same H H'→H' l=some (.lst [.int 1])→Q (.ref l) H'):∀l,H l=none→Q (.ref l) (upd H l (.lst [.int 1])):=fun l hl=>by
 refine fresh hl fun H1 s1 t1=>?_
 exact q l H1 s1 t1
end L2
set_option Elab.async false
set_option linter.all false
set_option maxRecDepth 100000
set_option maxHeartbeats 4000000
namespace L2
open PySem PySem.Spec PyProof.Rows
section
variable{X:Cx}
end
section
variable{X:Cx}{M:List Str}{x:Str}{scope:Scope}{cl:List (Str×Addr)}{C:Addr}{s₀:Shared}{H₀:Hp}{fp:List Addr}
end
end L2
set_option Elab.async false
set_option linter.all false
set_option maxRecDepth 100000
set_option maxHeartbeats 4000000
namespace L2
open PySem PySem.Spec PyProof.Rows
def FnG(K:PySem.W.Frag)(g n q:Str)(st:Stmt):Prop:=∃f fd,PySem.W.nsIn K mainGlobals g=some (some (.ref f))∧Fun K n q st f fd
def FnM(K:PySem.W.Frag)(C:Addr)(x n q:Str)(st:Stmt):Prop:=∃f fd,PySem.W.findIn K (.ref C) x=some (some (.ref f))∧Fun K n q st f fd∧PySem.W.typeIn K (.ref f)=some (.type "function")
def BindsA(n q:Str)(st:Stmt)(ps:List Str):Prop:=∀(kV doc pm:Value) (an:Option Addr) (cdv ct:Value) (us:List Value),us.length=ps.length→bindArgs (PySem.W.fnOf n q (defArgs st) (defBody st) (defScope st) .none kV doc pm an cdv ct) ⟨us,[]⟩=pure (ps.zip us)
theorem fnG_mk{K:PySem.W.Frag}{g n q:Str}{st:Stmt}{f:Addr}{oc:Value}{od an:Option Addr}{osl:Array (Option Value)}{kV doc pm cdv ct:Value}(a:PySem.W.nsIn K mainGlobals g=some (some (.ref f)))(l:K.lookup f=some ⟨oc,od,.func (PySem.W.fnOf n q (defArgs st) (defBody st) (defScope st) .none kV doc pm an cdv ct),osl⟩)
 (c:PySem.W.codeIn K cdv q=true)(k:PySem.W.keepIn K (.ref f)=true):FnG K g n q st:=⟨f,_,a,fun_mk l c k⟩
theorem fnM_mk{K:PySem.W.Frag}{C:Addr}{x n q:Str}{st:Stmt}{f:Addr}{oc:Value}{od an:Option Addr}{osl:Array (Option Value)}{kV doc pm cdv ct:Value}(a:PySem.W.findIn K (.ref C) x=some (some (.ref f)))(l:K.lookup f=some ⟨oc,od,.func (PySem.W.fnOf n q (defArgs st) (defBody st) (defScope st) .none kV doc pm an cdv ct),osl⟩)
 (c:PySem.W.codeIn K cdv q=true)(k:PySem.W.keepIn K (.ref f)=true)(u:PySem.W.typeIn K (.ref f)=some (.type "function")):FnM K C x n q st:=⟨f,_,a,fun_mk l c k,u⟩
section
variable{P:Program}{w:World}{K:PySem.W.Frag}{h:Heap}{mg:Str→Option Value}{base:Heap}{g n q:Str}{st:Stmt}{ps:List Str}{k:Nat}{sp:Sp}
theorem cal_of(X:K.In h)(G:h.Ns mainGlobals mg)(Q:FnG K g n q st)(b:BindsA n q st ps)(ok:∀{f:Addr} {fd:FuncData},Fun K n q st f fd→FnOk P w K mg base CX0 k f fd ps sp):Cal P w K mg base k g ps sp:=by
 obtain⟨f,fd,a,F⟩:=Q
 exact⟨⟨f,fd,ok F,F.binds b,F.kp,PySem.W.mg_of X G a⟩⟩
theorem calE_of(X:K.In h)(G:h.Ns mainGlobals mg)(Q:FnG K g n q st)(b:BindsA n q st ps)(ok:∀{f:Addr} {fd:FuncData},Fun K n q st f fd→FnOk P w K mg base (CX1 P w) k f fd ps sp):CalE P w K mg base k g ps sp:=by
 obtain⟨f,fd,a,F⟩:=Q
 exact⟨⟨f,fd,ok F,F.binds b,F.kp,PySem.W.mg_of X G a⟩⟩
theorem calM_of{CX:CXT}{C:Addr}(Q:FnM K C g n q st)(b:BindsA n q st ps)(ok:∀{f:Addr} {fd:FuncData},Fun K n q st f fd→FnOk P w K mg base CX k f fd ps sp):CalM P w K mg base CX k C g ps sp:=by
 obtain⟨f,fd,a,F,u⟩:=Q
 exact⟨⟨f,fd,ok F,F.binds b,⟨a,beq_iff_eq.mpr u,F.kp⟩⟩⟩
theorem calI_of{CX:CXT}{x:Str}{C:Addr}(X:K.In h)(G:h.Ns mainGlobals mg)(mk:PySem.W.makesIn K C=true)(kp:PySem.W.keepIn K (.ref C)=true)(nC:PySem.W.nsIn K mainGlobals x=some (some (.ref C)))(Q:FnM K C "__init__" n q st)(b:BindsA n q st ps)(ok:∀{f:Addr} {fd:FuncData},Fun K n q st f fd→FnOk P w K mg base CX k f fd ps sp):CalI P w K mg base CX k x C ps sp:=by
 obtain⟨f,fd,a,F,u⟩:=Q
 exact⟨⟨f,fd,ok F,F.binds b,⟨mk,a,beq_iff_eq.mpr u,kp⟩,PySem.W.mg_of X G nC⟩⟩
end
end L2
set_option Elab.async false
set_option linter.all false
set_option maxRecDepth 100000
set_option maxHeartbeats 4000000
namespace L2
open PySem PySem.Spec PyProof.Rows
theorem rec_calL{P:Program}{w:World}{K:PySem.W.Frag}{mg:Str→Option Value}{base:Heap}{CX:CXT}{k0:Nat}{m n q:Str}{st:Stmt}{ps:List Str}{Cs:List Addr}{sp:Nat→Sp}
 (hC:∀C∈Cs,Cls K C∧FnM K C m n q st)(b:BindsA n q st ps)(z:∀vs H Q E,¬sp 0 vs H Q E)
 (step:∀(d:Nat) {f:Addr} {fd:FuncData},CalL P w K mg base CX (k0+d) m ps (Cs.map fun C=>(C,sp d))→Fun K n q st f fd→FnOk P w K mg base CX (k0+d+1) f fd ps (sp (d+1))):
 ∀d,CalL P w K mg base CX (k0+d) m ps (Cs.map fun C=>(C,sp d))
 | 0=>⟨fun p hp=>by
  obtain⟨C,hC',rfl⟩:=List.mem_map.mp hp
  obtain⟨c,f,fd,a,F,u⟩:=hC C hC'
  exact⟨c,f,fd,⟨fun vs H Q E h=>absurd h (z vs H Q E),fun A outer s H args us vs Q E _ _ _ _ h=>absurd h (z vs H Q E)⟩,F.binds b,⟨a,beq_iff_eq.mpr u,F.kp⟩⟩⟩
 | d+1=>⟨fun p hp=>by
  have R:=rec_calL hC b z step d
  obtain⟨C,hC',rfl⟩:=List.mem_map.mp hp
  obtain⟨c,f,fd,a,F,u⟩:=hC C hC'
  exact⟨c,f,fd,step d R F,F.binds b,⟨a,beq_iff_eq.mpr u,F.kp⟩⟩⟩
theorem all_nil{α:Type}{p:α→Prop}:∀x∈([]:List α),p x:=fun _ h=>(nomatch h)
theorem all_cons{α:Type}{p:α→Prop}{a:α}{l:List α}(h:p a)(t:∀x∈l,p x):∀x∈a::l,p x:=fun x hx=>by
 rcases List.mem_cons.mp hx with e | e
 ·exact e ▸ h
 ·exact t x e
end L2
set_option Elab.async false
set_option linter.all false
set_option maxRecDepth 100000
set_option maxHeartbeats 4000000
namespace L2
open PySem PySem.Spec PyProof.Rows
section
variable{X:Cx}{k:Nat}{q:Addr}{fd:FuncData}{p:Str}{sp:Sp}{xs:List V}{kf:Nat→Int}{J:Hp→Prop}{l:Addr}{pins:List (Addr×Obj)}{σ:St}
theorem FpOk.at{H H':Hp}{b:Addr}(f:FpOk X pins H b)(n:H' b=none):FpOk X pins H' b:=⟨n,f.2⟩
end
end L2
set_option Elab.async false
set_option linter.all false
set_option maxRecDepth 100000
set_option maxHeartbeats 4000000
namespace L2
open PySem PySem.Spec PyProof.Rows
section
variable{prog:Program}{w:World}{A:Around}{E:Value→Shared→Prop}{s:Shared}
end
section
variable{prog:Program}{w:World}{A:Around}{E:Value→Shared→Prop}{s:Shared}{z TI TO i1 i2:Addr}{f1 f2:List Addr}{n1 n2 k:Nat}{P1 P2:Nat→Value→Prop}{S1 S2:Nat→Heap→Prop}{a b:Value}
end
section
variable{prog:Program}{w:World}{A:Around}{E:Value→Shared→Prop}{s:Shared}{z TI TO i1 i2 l1 l2:Addr}{k:Nat}{xs ys:Array Value}{a b:Value}
end
section
variable{X:Cx}
end
end L2
set_option Elab.async false
set_option linter.all false
set_option maxRecDepth 100000
set_option maxHeartbeats 4000000
namespace L2
open PySem PySem.Spec PyProof.Rows
section
variable{P:Program}{w:World}{K:PySem.W.Frag}{h:Heap}{mg:Str→Option Value}{base:Heap}{k0 J:Nat}{g n q:Str}{st:Stmt}{ps:List Str}{sp:Nat→Sp}
theorem rec_cal(X:K.In h)(G:h.Ns mainGlobals mg)(F:FnG K g n q st)(b:BindsA n q st ps)(z:∀vs H Q E,¬sp 0 vs H Q E)
 (step:∀(d:Nat) {f:Addr} {fd:FuncData},Cal P w K mg base (k0+J*d) g ps (sp d)→Fun K n q st f fd→FnOk P w K mg base CX0 (k0+J*d+J) f fd ps (sp (d+1))):
 ∀d,Cal P w K mg base (k0+J*d) g ps (sp d)
 | 0=>cal_of X G F b fun _=>⟨fun vs H Q E h=>absurd h (z vs H Q E),fun A outer s H args us vs Q E _ _ _ _ h=>absurd h (z vs H Q E)⟩
 | d+1=>by
  have R:=rec_cal X G F b z step d
  rw[show k0+J*(d+1)=k0+J*d+J by rw[Nat.mul_succ,Nat.add_assoc]]
  exact cal_of X G F b fun F'=>step d R F'
theorem rec_calE(X:K.In h)(G:h.Ns mainGlobals mg)(F:FnG K g n q st)(b:BindsA n q st ps)(z:∀vs H Q E,¬sp 0 vs H Q E)
 (step:∀(d:Nat) {f:Addr} {fd:FuncData},CalE P w K mg base (k0+J*d) g ps (sp d)→Fun K n q st f fd→FnOk P w K mg base (CX1 P w) (k0+J*d+J) f fd ps (sp (d+1))):
 ∀d,CalE P w K mg base (k0+J*d) g ps (sp d)
 | 0=>calE_of X G F b fun _=>⟨fun vs H Q E h=>absurd h (z vs H Q E),fun A outer s H args us vs Q E _ _ _ _ h=>absurd h (z vs H Q E)⟩
 | d+1=>by
  have R:=rec_calE X G F b z step d
  rw[show k0+J*(d+1)=k0+J*d+J by rw[Nat.mul_succ,Nat.add_assoc]]
  exact calE_of X G F b fun F'=>step d R F'
end
end L2
namespace L2
open PySem PySem.Spec PyProof.Rows Builtin.Str
section
variable{X:Cx}
theorem mt_lstrip:MtR X "str.lstrip" (fun x xs H Q=>∃z y,x=.str z∧xs=[.str y]∧z.length≤sizeLine∧Q (.str (if stripSame y.cps.contains true false z then z else stripped y.cps.contains true false z)) H):=by
 intro pins s σ H x xs v us Q I rx rs h
 obtain⟨z,y,rfl,rfl,hz,q⟩:=h
 obtain⟨t,rfl⟩:=(show ∃t,v=Value.str z t from rx)
 obtain⟨u,rfl,ru⟩:=vals1 rs
 obtain⟨t',rfl⟩:=(show ∃t,u=Value.str y t from ru)
 refine call_gives F.slot_str_lstrip (typeIs_str _ _ _) F.entry_str_lstrip (F.args_str_lstrip_2 _ _) (gives_str_lstrip_chars z y t t') ?_
 by_cases c:stripSame y.cps.contains true false z=true
 ·rw[if_pos c] at q ⊢
  exact⟨.str _,H,I,⟨_,rfl⟩,q⟩
 ·rw[if_neg c] at q ⊢
  exact⟨fits_stripped _ _ _ hz,.str _,H,I.tok _,⟨_,rfl⟩,q⟩
end
end L2
set_option Elab.async false
set_option linter.all false
set_option maxRecDepth 100000
set_option maxHeartbeats 4000000
namespace L2
open PySem PySem.W PySem.Spec PyProof.Rows
section
variable{κ:Type}[DecidableEq κ]
def valV(kvs:List (κ×V))(k:κ):Option V:=(kvs.find? fun kv=>decide (kv.1=k)).map (·.2)
def putK(kvs:List (κ×V))(k:κ)(v:V):List (κ×V):=
 if (kvs.any fun kv=>decide (kv.1=k))=true then kvs.map (fun kv=>if kv.1=k then (kv.1,v) else kv) else kvs++[(k,v)]
theorem valV_pos{p:κ×V}{r:List (κ×V)}{k:κ}(e:p.1=k):valV (p::r) k=some p.2:=by simp[valV,List.find?_cons,e]
theorem valV_neg{p:κ×V}{r:List (κ×V)}{k:κ}(e:¬p.1=k):valV (p::r) k=valV r k:=by simp[valV,List.find?_cons,e]
theorem valV_any(k:κ):∀kvs:List (κ×V),(kvs.any fun kv=>decide (kv.1=k))=(valV kvs k).isSome
 | []=>rfl
 | p::r=>by
  rw[List.any_cons]
  by_cases e:p.1=k
  ·simp only[valV_pos e,decide_eq_true e,Bool.true_or,Option.isSome_some]
  ·rw[valV_neg e,decide_eq_false e,Bool.false_or];exact valV_any k r
theorem length_putK(kvs:List (κ×V))(k:κ)(v:V):(putK kvs k v).length≤kvs.length+1:=by
 unfold putK
 split
 ·rw[List.length_map];omega
 ·rw[List.length_append,List.length_cons,List.length_nil];omega
theorem RelO.isSome_eq{o:Option V}{u:Option Value}(r:RelO o u):o.isSome=u.isSome:=by
 cases o with
 | none=>cases u with
  | none=>rfl
  | some _=>exact(show False from r).elim
 | some _=>cases u with
  | none=>exact(show False from r).elim
  | some _=>rfl
theorem RelO.getD{o:Option V}{u:Option Value}{d:V}{d':Value}(r:RelO o u)(rd:RelV d d'):RelV (o.getD d) (u.getD d'):=by
 cases o with
 | none=>cases u with
  | none=>exact rd
  | some _=>exact(show False from r).elim
 | some _=>cases u with
  | none=>exact(show False from r).elim
  | some _=>exact r
theorem KV.val{kvs:List (κ×V)}{vs:List (κ×Value)}(r:KV kvs vs)(k:κ):RelO (valV kvs k) (valueAt vs k):=by
 unfold KV at r
 induction r with
 | nil=>exact True.intro
 | @cons p q ps qs h t ih=>
  obtain⟨h1,h2⟩:=h
  by_cases e:p.1=k
  ·have e':q.1=k:=h1.symm.trans e
   have b:valueAt (q::qs) k=some q.2:=by simp[valueAt,List.find?_cons,e']
   rw[valV_pos e,b];exact h2
  ·have e':¬q.1=k:=fun z=>e (h1.trans z)
   have b:valueAt (q::qs) k=valueAt qs k:=by simp[valueAt,List.find?_cons,e']
   rw[valV_neg e,b];exact ih
theorem KV.any{kvs:List (κ×V)}{vs:List (κ×Value)}(r:KV kvs vs)(k:κ):(kvs.any fun kv=>decide (kv.1=k))=vs.any fun kv=>decide (kv.1=k):=by
 unfold KV at r
 induction r with
 | nil=>rfl
 | cons h t ih=>rw[List.any_cons,List.any_cons,ih,h.1]
theorem KV.repl{kvs:List (κ×V)}{vs:List (κ×Value)}(r:KV kvs vs)(k:κ){y:V}{u:Value}(ry:RelV y u):
 KV (kvs.map fun kv=>if kv.1=k then (kv.1,y) else kv) (vs.map fun kv=>if kv.1=k then (kv.1,u) else kv):=by
 unfold KV at r ⊢
 induction r with
 | nil=>exact .nil
 | @cons p q ps qs h t ih=>
  rw[List.map_cons,List.map_cons]
  refine .cons ?_ ih
  obtain⟨h1,h2⟩:=h
  by_cases e:p.1=k
  ·rw[if_pos e,if_pos (h1.symm.trans e)];exact⟨h1,ry⟩
  ·rw[if_neg e,if_neg (fun z=>e (h1.trans z))];exact⟨h1,h2⟩
theorem KV.put{kvs:List (κ×V)}{vs:List (κ×Value)}(r:KV kvs vs)(k:κ){y:V}{u:Value}(ry:RelV y u):KV (putK kvs k y) (stored vs k u):=by
 unfold putK stored
 rw[r.any k]
 by_cases e:(vs.any fun kv=>decide (kv.1=k))=true
 ·rw[if_pos e,if_pos e];exact r.repl k ry
 ·rw[if_neg e,if_neg e];exact Paired.snoc r ⟨rfl,ry⟩
theorem KV.length{kvs:List (κ×V)}{vs:List (κ×Value)}(r:KV kvs vs):kvs.length=vs.length:=Paired.length r
end
theorem kV_is{P:Program}{w:World}{k:Key}{u:Value}(r:RelV (kV k) u):(mixKind P w).is k u=true:=by
 cases k with
 | inl i=>obtain⟨t,e⟩:=(show ∃t,u=Value.int i t from r);subst e;exact mixKind_int P w i t
 | inr x=>obtain⟨t,e⟩:=(show ∃t,u=Value.str x t from r);subst e;exact mixKind_str P w x t
theorem items_are{P:Program}{w:World}:∀{ks:List Key} {us:List Value},Vals (ks.map kV) us→ItemsAre (mixKind P w) ks us
 | [],_,r=>by rw[List.map_nil] at r;cases r;exact .nil
 | k::ks,_,r=>by
  rw[List.map_cons] at r
  cases r with
  | cons h t=>exact .cons (kV_is h) (items_are t)
abbrev KT(H:Hp):List (List Key×V)→List (List Key×Addr×Value)→Prop:=Paired fun p q=>p.1=q.1∧H q.2.1=some (.tup (p.1.map kV))∧RelV p.2 q.2.2
theorem KT.val{H:Hp}{kvs:List (List Key×V)}{xs:List (List Key×Addr×Value)}(r:KT H kvs xs)(k:List Key):RelO (valV kvs k) ((atKey xs k).map (·.2)):=by
 induction r with
 | nil=>exact True.intro
 | @cons p q ps qs h t ih=>
  obtain⟨h1,_,h2⟩:=h
  by_cases e:p.1=k
  ·have e':q.1=k:=h1.symm.trans e
   have b:atKey (q::qs) k=some q.2:=by simp[atKey,List.find?_cons,e']
   rw[valV_pos e,b];exact h2
  ·have e':¬q.1=k:=fun z=>e (h1.trans z)
   have b:atKey (q::qs) k=atKey qs k:=by simp[atKey,List.find?_cons,e']
   rw[valV_neg e,b];exact ih
theorem KT.repl{H:Hp}{kvs:List (List Key×V)}{xs:List (List Key×Addr×Value)}(r:KT H kvs xs)(k:List Key){y:V}{u:Value}(ry:RelV y u):
 KT H (kvs.map fun kv=>if kv.1=k then (kv.1,y) else kv) (xs.map (putAt k u)):=by
 induction r with
 | nil=>exact .nil
 | @cons p q ps qs h t ih=>
  rw[List.map_cons,List.map_cons]
  refine .cons ?_ ih
  obtain⟨h1,h2,h3⟩:=h
  unfold putAt
  by_cases e:p.1=k
  ·rw[if_pos e,if_pos (h1.symm.trans e)];exact⟨h1,h2,ry⟩
  ·rw[if_neg e,if_neg (fun z=>e (h1.trans z))];exact⟨h1,h2,h3⟩
theorem KT.put{H:Hp}{kvs:List (List Key×V)}{xs:List (List Key×Addr×Value)}(r:KT H kvs xs)(k:List Key){b:Addr}{y:V}{u:Value}(hb:H b=some (.tup (k.map kV)))(ry:RelV y u):
 KT H (putK kvs k y) (storedH xs k b u):=by
 have e:(kvs.any fun kv=>decide (kv.1=k))=(atKey xs k).isSome:=by
  rw[valV_any,(r.val k).isSome_eq,Option.isSome_map]
 unfold putK storedH
 rw[e]
 by_cases q:(atKey xs k).isSome=true
 ·rw[if_pos q,if_pos q];exact r.repl k ry
 ·rw[if_neg q,if_neg q];exact Paired.snoc r ⟨rfl,hb,ry⟩
theorem KT.keeps{H H':Hp}{kvs:List (List Key×V)}{xs:List (List Key×Addr×Value)}(r:KT H kvs xs)(ht:∀b ys,H b=some (.tup ys)→H' b=some (.tup ys)):KT H' kvs xs:=
 Paired.mapP r fun _ _ z=>⟨z.1,ht _ _ z.2.1,z.2.2⟩
section
variable{P:Program}{w:World}{H:Hp}{h:Heap}{a:Addr}
theorem rd_of{u:HO}(ok:HOk P w H h)(e:Rd H a u):ObjOk P w H h a u:=e.ok ok
theorem dk_rd{kvs:List (Key×V)}(ok:HOk P w H h)(e:Rd H a (.dK kvs)):kvs.length≤sizeLine∧(a==sysModules)=false∧∃vs,KV kvs vs∧h.DictOf (mixKind P w) a vs:=
 show ObjOk P w H h a (.dK kvs) from rd_of ok e
theorem dk_of{kvs:List (Key×V)}(ok:HOk P w H h)(e:H a=some (.dK kvs)):kvs.length≤sizeLine∧(a==sysModules)=false∧∃vs,KV kvs vs∧h.DictOf (mixKind P w) a vs:=dk_rd ok (.inl e)
theorem key_of{ks:List Key}(ok:HOk P w H h)(e:H a=some (.tup (ks.map kV))):(tupleKind (mixKind P w)).is h ks a:=by
 obtain⟨_,its,r,o,h1,h2,n,h3⟩:=(show ObjOk P w H h a (.tup (ks.map kV)) from ok a _ e)
 exact⟨o,its.toArray,n,h1,h2,h3,by simpa using items_are r⟩
theorem dt_rd{kvs:List (List Key×V)}(ok:HOk P w H h)(e:Rd H a (.dT kvs)):kvs.length≤sizeLine∧(a==sysModules)=false∧
 ∃xs,KT H kvs xs∧h.DictOfH (tupleKind (mixKind P w)) a xs:=by
 obtain⟨z,y,xs,r,o,es,ep,h1,h2,h3,h4,h5⟩:=(show ObjOk P w H h a (.dT kvs) from rd_of ok e)
 refine⟨z,y,xs,r,o,es,ep,h1,h2,h3,h4,fun x hx=>?_,h5⟩
 have all:∀{l:List (List Key×V)} {m:List (List Key×Addr×Value)},KT H l m→∀x∈m,(tupleKind (mixKind P w)).is h x.1 x.2.1:=by
  intro l m q
  induction q with
  | nil=>intro x hx;exact nomatch hx
  | @cons p q ps qs hq t ih=>
   intro x hx
   rcases List.mem_cons.mp hx with e | hx
   ·subst e
    exact key_of ok (by rw[←hq.1];exact hq.2.1)
   ·exact ih x hx
 exact all r x hx
theorem dt_of{kvs:List (List Key×V)}(ok:HOk P w H h)(e:H a=some (.dT kvs)):kvs.length≤sizeLine∧(a==sysModules)=false∧
 ∃xs,KT H kvs xs∧h.DictOfH (tupleKind (mixKind P w)) a xs:=dt_rd ok (.inl e)
end
def DGet(H:Hp)(a:Addr)(y:V)(r:Option V):Prop:=
 (∃kvs k,Rd H a (.dK kvs)∧y=kV k∧r=valV kvs k)∨∃kvs k b,Rd H a (.dT kvs)∧y=.ref b∧H b=some (.tup (k.map kV))∧r=valV kvs k
def DPut(H:Hp)(a:Addr)(y v:V)(H':Hp):Prop:=
 (∃kvs k,H a=some (.dK kvs)∧y=kV k∧kvs.length<sizeLine∧H'=upd H a (.dK (putK kvs k v)))∨
 ∃kvs k b,H a=some (.dT kvs)∧y=.ref b∧H b=some (.tup (k.map kV))∧kvs.length<sizeLine∧H'=upd H a (.dT (putK kvs k v))
theorem DGet.k{H:Hp}{a:Addr}{kvs:List (Key×V)}{k:Key}(e:H a=some (.dK kvs)):DGet H a (kV k) (valV kvs k):=.inl ⟨kvs,k,.inl e,rfl,rfl⟩
theorem DPut.k{H:Hp}{a:Addr}{kvs:List (Key×V)}{k:Key}{v:V}(e:H a=some (.dK kvs))(hl:kvs.length<sizeLine):DPut H a (kV k) v (upd H a (.dK (putK kvs k v))):=.inl ⟨kvs,k,e,rfl,hl,rfl⟩
section
variable{X:Cx}{pins:List (Addr×Obj)}{σ:St}{H:Hp}{s:Shared}{a:Addr}{y v:V}{u r:Value}{o:Option V}{A:Around}{E:Value→Shared→Prop}
theorem Inv.big(I:Inv X pins σ H s):sysModules<s.heap.objs.size:=by
 have h:mainGlobals<s.heap.objs.size:=(I.mod.glob.keeps I.bk).lt
 exact Nat.lt_trans (by decide) h
theorem d_write{h':Heap}{t':Nat}{ob:HO}(I:Inv X pins σ H s)(mu:Mut (H a))(hs:Heap.SameBut a s.heap h')(he:∃q,h'.get? a=some q)(new:ObjOk X.prog X.w (upd H a ob) h' a ob):
 Inv X pins σ (upd H a ob) { s with heap:=h',toks:=t' }:=
 I.write (x:=a) (e:=a) mu (.inl rfl) (fun b q hb z=>(hs.2 b hb).trans z) he new
theorem dk_new{P:Program}{w:World}{H':Hp}{h':Heap}{kvs:List (Key×V)}{vs:List (Key×Value)}(z:kvs.length≤sizeLine)(hd:(a==sysModules)=false)(rel:KV kvs vs)(dd:h'.DictOf (mixKind P w) a vs):
 ObjOk P w H' h' a (.dK kvs):=⟨z,hd,vs,rel,dd⟩
theorem d_setItem{H':Hp}{Q:Unit→Shared→Prop}(hu:A.units+1<cLine)(I:Inv X pins σ H s)(g:DPut H a y v H')(ry:RelV y u)(rv:RelV v r)(h:∀s',Inv X pins σ H' s'→Q () s'):
 wpAny (model X.prog X.w) A (setItem (.ref a) u r) Q E s:=by
 rcases g with ⟨kvs,k,e,ey,l,eH⟩ | ⟨kvs,k,b,e,ey,eb,l,eH⟩
 ·subst ey eH
  obtain⟨z,hd,vs,rel,dd⟩:=dk_of I.hok e
  have hz:vs.length≤sizeLine:=by rw[←rel.length];exact z
  have hl:(putK kvs k v).length≤sizeLine:=by have:=length_putK kvs k v;omega
  refine wpAny_setItem_pairs (hsz:=hz) (kV_is ry) dd fun h' dd' hs=>h _ ?_
  have he:∃q,h'.get? a=some q:=let ⟨q,_,_,hq,_⟩:=dd';⟨q,hq⟩
  exact d_write I (by rw[e];exact True.intro) hs he (dk_new hl hd (rel.put k rv) dd')
 ·subst ey eH
  cases (show u=Value.ref b from ry)
  obtain⟨z,hd,xs,rel,dd⟩:=dt_of I.hok e
  have hz:xs.length≤sizeLine:=by rw[←Paired.length rel];exact z
  have hl:(putK kvs k v).length≤sizeLine:=by have:=length_putK kvs k v;omega
  refine wpAny_setItem_heap (hsz:=hz) (tupleKind_room_in1 hu) (key_of I.hok eb) dd fun h' dd' hs=>h _ ?_
  obtain⟨q,es,ep,hq,h2,h3,h4,_,h5⟩:=dd'
  refine d_write I (by rw[e];exact True.intro) hs ⟨q,hq⟩ ⟨hl,hd,_,(rel.put k eb rv).keeps fun c ys ec=>?_,q,es,ep,hq,h2,h3,h4,h5⟩
  rw[upd_ne (ne_of ec e (fun z=>nomatch z))]
  exact ec
end
section
variable{X:Cx}{pins:List (Addr×Obj)}{σ:St}{H:Hp}{s:Shared}{a:Addr}{kvs:List (Key×V)}{k:Key}{u:Value}{A:Around}{E:Value→Shared→Prop}
end
def sDPut(td ty tv:TE):TS:=fun D σ H=>tv σ H fun v H1=>td σ H1 fun x H2=>ty σ H2 fun y H3=>∃a H4,x=.ref a∧DPut H3 a y v H4∧D.nx σ H4
section
variable{X:Cx}{o i e value:Expr}{pos pos' tpos:Pos}{td ty tv:TE}
theorem ps_dput(hu:X.A.units+1<cLine)(ho:PE X o td)(hi:PE X i ty)(hv:PE X value tv)(hs:swapsWith value (some (.Subscript o i pos')) pos.line X.env=pure false):
 PS X (.Assign [.Subscript o i pos'] value pos) (sDPut td ty tv):=by
 intro pins s σ H D I h
 refine wpAny_Assign_Subscript (thn (hv pins s σ H _ I h) fun r s1 ⟨v,H1,I1,rv,q1⟩=>thn (ho pins s1 σ H1 _ I1 q1) fun u s2 ⟨x,H2,I2,rx,q2⟩=>thn (hi pins s2 σ H2 _ I2 q2) fun iv s3 ⟨y,H3,I3,ry,a,H4,ex,g,q3⟩=>?_) hs
 subst ex
 obtain rfl:u=Value.ref a:=rx
 exact d_setItem hu I3 g ry rv fun s4 I4=>⟨σ,H4,I4,q3⟩
end
theorem dk_empty{P:Program}{w:World}{H:Hp}(h:Heap)(hb:sysModules<h.objs.size):ObjOk P w H (h.push { cls:=.type "dict",data:=.dict #[] }) h.objs.size (.dK []):=
 ⟨Nat.zero_le _,beq_eq_false_iff_ne.mpr (Ne.symm (Nat.ne_of_lt hb)),[],.nil,Heap.DictOf.new h⟩
def tDNewK:TE:=fun _ H Q=>∀p,H p=none→Q (.ref p) (upd H p (.dK []))
section
variable{X:Cx}{pos:Pos}
theorem pe_dnewK:PE X (.Dict [] [] pos) tDNewK:=fun pins s σ H Q I h=>
 wpAny_Dict_empty ⟨.ref s.heap.objs.size,_,I.laid (a:=s.heap.objs.size) (o:=.dK []) (t':=s.toks) (fun _ _ q=>Heap.get?_push_of_some _ q) (Nat.le_refl _) (dk_empty s.heap I.big),rfl,h _ (I.hok.fresh (Nat.le_refl _))⟩
end
end L2
set_option Elab.async false
set_option linter.all false
set_option maxRecDepth 100000
set_option maxHeartbeats 4000000
local macro_rules | `(tactic| walk_at "rd1")=> `(tactic| first
 | with_reducible refine L2.rd_seq ?_ | with_reducible refine L2.rd_ret ?_ | with_reducible refine L2.rd_asg ?_ | with_reducible refine L2.rd_ifS ?_ | with_reducible refine L2.rd_next ?_ | with_reducible refine L2.rd_drop ?_
 | with_reducible refine L2.rd_op ?_ | ((with_reducible refine' L2.rd_var ?ev ?_);(case ev=>exact rfl)) | with_reducible refine L2.rd_c ?_ | with_reducible refine L2.rd_un ?_ | with_reducible refine L2.rd_test ?_ | with_reducible refine L2.rd_b ?_
 | with_reducible refine L2.rd_i0 ?_ | with_reducible refine L2.rd_u ?_ | ((with_reducible refine' L2.rd_eq ?es ?_);(case es=>exact rfl)) | ((with_reducible refine' L2.rd_ne ?es ?_);(case es=>exact rfl))
 | with_reducible refine L2.rd_bl ?_ | with_reducible refine L2.rd_not ?_ | with_reducible refine L2.rd_and ?_ | with_reducible refine L2.rd_or ?_ | with_reducible refine L2.rd_andV ?_ | with_reducible refine L2.rd_orV ?_ | with_reducible refine L2.rd_notV ?_ | with_reducible refine L2.rd_chain ?_
 | with_reducible refine L2.rd_call ?_ | with_reducible refine L2.rd_cb ?_ | with_reducible refine L2.rd_nil ?_ | with_reducible refine L2.rd_cons ?_ | with_reducible refine L2.rd_tup ?_ | with_reducible refine L2.rd_lst ?_
 | with_reducible refine L2.rd_bm0 ?_ | with_reducible refine L2.rd_makeD ?_ | with_reducible refine L2.rd_fld ?_ | with_reducible refine L2.rd_sfld ?_ | with_reducible refine L2.rd_meth ?_ | with_reducible refine L2.rd_methL ?_ | with_reducible refine L2.rd_lr ?_ | with_reducible refine L2.rd_lra ?_ | with_reducible refine L2.rd_slice ?_ | with_reducible refine L2.rd_part ?_ | with_reducible refine L2.rd_exI ?_ | with_reducible refine L2.rd_noPart ?_ | with_reducible refine L2.rd_tru ?_ | with_reducible refine L2.rd_truI ?_ | with_reducible refine L2.rd_gsub ?_ | with_reducible refine L2.rd_bitsV ?_
 | with_reducible refine L2.rd_par ?_ | with_reducible refine L2.rd_gname ?_ | with_reducible refine L2.rd_gcons ?_ | with_reducible refine L2.rd_gnil ?_
 | ((with_reducible refine' L2.rd_i ?ec ?_);(case ec=>first | ((with_reducible show L2.CPow _ _);exact⟨by decide,by decide,by decide⟩) | ((with_reducible show L2.CDivB _ _);exact L2.cdiv_small (by decide) (by decide)) | (show (0:Int)<_;first | decide | omega | exact L2.pow2_pos _))))
local macro_rules | `(tactic| walk_at "rd")=> `(tactic| repeat walk_at "rd1")
local macro_rules | `(tactic| walk_at "fm")=> `(tactic| (repeat (first | exact List.forall_mem_nil _ | refine List.forall_mem_cons.mpr ⟨by with_unfolding_all rfl,?_⟩)))
local macro_rules | `(tactic| walk_at "rdi")=> `(tactic| ((with_reducible refine' L2.rd_ixT ?hs1 ?he1 ?_);(case hs1=>first | assumption | exact L2.SqT.of (by assumption));(case he1=>exact rfl)))
local macro_rules | `(tactic| walk_at "rdf")=> `(tactic| ((with_reducible refine L2.rd_for ?_);(first | with_reducible refine L2.rd_iL ?_ | with_reducible refine L2.rd_iT ?_ | with_reducible refine L2.rd_rng1 ?_ | with_reducible refine L2.rd_rng2 ?_ | with_reducible refine L2.rd_rng3 ?_ | with_reducible refine L2.rd_rng2A ?_)))
local macro_rules | `(tactic| walk_at "rdx")=> `(tactic| (repeat (first | walk_at "rd1" | with_reducible refine L2.rd_callE ?_ | with_reducible refine L2.rd_makeE ?_ | with_reducible refine L2.rd_methE ?_ | with_reducible refine L2.rd_methLE ?_ | with_reducible refine L2.rd_raise ?_ | with_reducible refine L2.rd_try ?_ | with_reducible refine L2.rd_xinit ?_ | with_reducible refine L2.rd_xf1 ?_ | with_reducible refine L2.rd_xf2 ?_ | with_reducible refine L2.rd_join ?_ | with_reducible refine L2.rd_xget ?_ | with_reducible refine L2.rd_ifE ?_)))
local macro_rules | `(tactic| walk_at "b0")=> `(tactic| (intro _ _ _ _ _ _ us hl;have h:us=[]:=List.length_eq_zero_iff.mp hl;subst h;rfl))
local macro_rules | `(tactic| walk_at "b1")=> `(tactic| (intro _ _ _ _ _ _ us hl;obtain⟨_,h⟩:=L2.len1 hl;subst h;rfl))
local macro_rules | `(tactic| walk_at "b2")=> `(tactic| (intro _ _ _ _ _ _ us hl;obtain⟨_,_,h⟩:=L2.len2 hl;subst h;rfl))
local macro_rules | `(tactic| walk_at "b3")=> `(tactic| (intro _ _ _ _ _ _ us hl;obtain⟨_,_,_,h⟩:=L2.len3 hl;subst h;rfl))
local macro_rules | `(tactic| walk_at "b4")=> `(tactic| (intro _ _ _ _ _ _ us hl;obtain⟨_,_,_,_,h⟩:=L2.len4 hl;subst h;rfl))
local macro_rules | `(tactic| walk_at "b5")=> `(tactic| (intro _ _ _ _ _ _ us hl;obtain⟨_,_,_,_,_,h⟩:=L2.len5 hl;subst h;rfl))
local macro_rules | `(tactic| walk_at "b6")=> `(tactic| (intro _ _ _ _ _ _ us hl;obtain⟨_,_,_,_,_,_,h⟩:=L2.len6 hl;subst h;rfl))
local macro_rules | `(tactic| walk_at "b7")=> `(tactic| (intro _ _ _ _ _ _ us hl;obtain⟨_,_,_,_,_,_,_,h⟩:=L2.len7 hl;subst h;rfl))
local macro_rules | `(tactic| walk_at "b8")=> `(tactic| (intro _ _ _ _ _ _ us hl;obtain⟨_,_,_,_,_,_,_,_,h⟩:=L2.len8 hl;subst h;rfl))
namespace Fw
theorem fmod_small(r d:Int)(hd:d≠0):0≤r.fmod d*d∧(r.fmod d).natAbs<d.natAbs:=by
 rcases(by omega:0<d∨d<0) with h | h
 ·have a:=Int.fmod_nonneg_of_pos r h
  have b:=Int.fmod_lt_of_pos r h
  exact⟨Int.mul_nonneg a (Int.le_of_lt h),by omega⟩
 ·have e:r.fmod d= -((-r).fmod (-d)):=by
   rw[Int.fmod_def,Int.fmod_def,Int.neg_fdiv_neg,Int.neg_mul];omega
  have a:=Int.fmod_nonneg_of_pos (-r) (b:= -d) (by omega)
  have b:=Int.fmod_lt_of_pos (-r) (b:= -d) (by omega)
  rw[e]
  generalize (-r).fmod (-d)=z at*
  refine⟨?_,by omega⟩
  have:=Int.mul_nonneg a (show 0≤ -d by omega)
  rw[Int.neg_mul];rw[Int.mul_neg] at this;omega
structure EqI(a b u v r u' v' r':Int):Prop where
 e1:u*a+v*b=r
 e2:u'*a+v'*b=r'
 g:Int.gcd r r'=Int.gcd a b
 ph:(u=1∧v=0∧r=a∧u'=0∧v'=1∧r'=b)∨
  (b≠0∧r≠0∧0≤r'*r∧r.natAbs≤b.natAbs∧r'.natAbs≤b.natAbs∧u'.natAbs*r.natAbs+u.natAbs*r'.natAbs≤b.natAbs∧u.natAbs≤b.natAbs+1)
theorem EqI.start(a b:Int):EqI a b 1 0 a 0 1 b:=⟨by omega,by omega,rfl,.inl ⟨rfl,rfl,rfl,rfl,rfl,rfl⟩⟩
theorem natAbs_sub_mul(u q x:Int):(u-q*x).natAbs≤u.natAbs+q.natAbs*x.natAbs:=by
 have h:=Int.natAbs_sub_le u (q*x)
 rw[Int.natAbs_mul] at h
 exact h
theorem same_sign_quot{r d:Int}(hd:d≠0)(hs:0≤d*r):(r-r.fdiv d*d).natAbs+(r.fdiv d).natAbs*d.natAbs=r.natAbs:=by
 have e:r.fmod d+r.fdiv d*d=r:=Int.fmod_add_fdiv_mul r d
 have e2:r-r.fdiv d*d=r.fmod d:=by omega
 rw[e2,←Int.natAbs_mul]
 have fs:=fmod_small r d hd
 rcases(by omega:0<d∨d<0) with h | h
 ·have r0:0≤r:=by
   rcases(by omega:0≤r∨r<0) with z | z
   ·exact z
   ·have:=Int.mul_neg_of_pos_of_neg h z;omega
  have q0:0≤r.fdiv d:=Int.fdiv_nonneg r0 (Int.le_of_lt h)
  have a:=Int.fmod_nonneg_of_pos r h
  have p:=Int.mul_nonneg q0 (Int.le_of_lt h)
  omega
 ·have r0:r≤0:=by
   rcases(by omega:r≤0∨0<r) with z | z
   ·exact z
   ·have:=Int.mul_neg_of_neg_of_pos h z;omega
  have q0:0≤r.fdiv d:=Int.fdiv_nonneg_of_nonpos_of_nonpos r0 (Int.le_of_lt h)
  have a:r.fmod d≤0:=by
   rcases(by omega:r.fmod d≤0∨0<r.fmod d) with z | z
   ·exact z
   ·have:=Int.mul_neg_of_pos_of_neg z h;omega
  have p:=Int.mul_nonneg q0 (show 0≤ -d by omega)
  rw[Int.mul_neg] at p
  omega
theorem EqI.step{a b u v r u' v' r':Int}(I:EqI a b u v r u' v' r')(h:r'≠0):
 EqI a b u' v' r' (u-r.fdiv r'*u') (v-r.fdiv r'*v') (r-r.fdiv r'*r')∧(r-r.fdiv r'*r').natAbs<r'.natAbs:=by
 have e:r.fmod r'+r.fdiv r'*r'=r:=Int.fmod_add_fdiv_mul r r'
 have e2:r-r.fdiv r'*r'=r.fmod r':=by omega
 have fs:=fmod_small r r' h
 refine⟨⟨I.e2,?_,?_,?_⟩,by rw[e2];exact fs.2⟩
 ·have:=I.e1
  have:=I.e2
  grind
 ·rw[Int.gcd_sub_mul_right_right,Int.gcd_comm]
  exact I.g
 ·right
  rcases I.ph with ⟨h1,h2,h3,h4,h5,h6⟩ | ⟨hb,hr,hs,l1,l2,l3,l4⟩
  ·subst h1 h2 h3 h4 h5 h6
   refine⟨h,h,by rw[e2];exact fs.1,Nat.le_refl _,by rw[e2];omega,?_,by simp⟩
   simp
  ·have q:=same_sign_quot h hs
   refine⟨hb,h,by rw[e2];exact fs.1,l2,by rw[e2];omega,?_,?_⟩
   ·have m:=natAbs_sub_mul u (r.fdiv r') u'
    generalize (r-r.fdiv r'*r').natAbs=A at*
    generalize (u-r.fdiv r'*u').natAbs=B at*
    generalize (r.fdiv r').natAbs=C at*
    have k1:B*r'.natAbs≤(u.natAbs+C*u'.natAbs)*r'.natAbs:=Nat.mul_le_mul_right _ m
    have k2:(u.natAbs+C*u'.natAbs)*r'.natAbs+u'.natAbs*A=u.natAbs*r'.natAbs+u'.natAbs*(A+C*r'.natAbs):=by grind
    rw[q] at k2
    omega
   ·have:u'.natAbs*1≤u'.natAbs*r.natAbs:=Nat.mul_le_mul_left _ (by omega)
    omega
theorem v_bound{a b u v r:Int}(hb:b≠0)(e:u*a+v*b=r)(l1:r.natAbs≤b.natAbs)(l4:u.natAbs≤b.natAbs+1):v.natAbs≤1+2*a.natAbs:=by
 have e1:v*b=r-u*a:=by omega
 have h:=natAbs_sub_mul r u a
 rw[←e1,Int.natAbs_mul] at h
 have hb':0<b.natAbs:=by omega
 have k:u.natAbs*a.natAbs≤(b.natAbs+1)*a.natAbs:=Nat.mul_le_mul_right _ l4
 have k2:a.natAbs*1≤a.natAbs*b.natAbs:=Nat.mul_le_mul_left _ hb'
 have k3:v.natAbs*b.natAbs≤(1+2*a.natAbs)*b.natAbs:=by grind
 exact Nat.le_of_mul_le_mul_right k3 hb'
theorem EqI.bounds{a b u v r u' v' r':Int}(I:EqI a b u v r u' v' r'):
 u.natAbs≤b.natAbs+1∧v.natAbs≤1+2*a.natAbs∧u'.natAbs≤b.natAbs+1∧v'.natAbs≤1+2*a.natAbs∧r.natAbs≤a.natAbs+b.natAbs∧r'.natAbs≤b.natAbs:=by
 rcases I.ph with ⟨h1,h2,h3,h4,h5,h6⟩ | ⟨hb,hr,hs,l1,l2,l3,l4⟩
 ·subst h1 h2 h3 h4 h5 h6
  refine⟨by simp,by simp,by simp,by simp,by omega,by omega⟩
 ·have:u'.natAbs*1≤u'.natAbs*r.natAbs:=Nat.mul_le_mul_left _ (by omega)
  have lu:u'.natAbs≤b.natAbs+1:=by omega
  exact⟨l4,v_bound hb I.e1 l1 l4,lu,v_bound hb I.e2 l2 lu,by omega,l2⟩
theorem quot_bound{r d:Int}(hd:d≠0):(r.fdiv d).natAbs≤r.natAbs+1:=by
 have e:r.fmod d+r.fdiv d*d=r:=Int.fmod_add_fdiv_mul r d
 have fs:=(fmod_small r d hd).2
 have h:(r.fdiv d*d).natAbs≤r.natAbs+(r.fmod d).natAbs:=by omega
 rw[Int.natAbs_mul] at h
 have d1:1≤d.natAbs:=by omega
 generalize (r.fdiv d).natAbs=x at*
 generalize d.natAbs=y at*
 generalize r.natAbs=z at*
 rcases(by omega:x≤1∨2≤x) with c | c
 ·omega
 ·obtain⟨k,rfl⟩:∃k,x=k+1:=⟨x-1,by omega⟩
  have:(k+1)*y=k*y+y:=Nat.succ_mul k y
  have:k*1≤k*y:=Nat.mul_le_mul_left k d1
  omega
structure Eqn(a b u v g:Int):Prop where
 eq:u*a+v*b=g
 gd:g=(Int.gcd a b:Int)
 bu:u.natAbs≤b.natAbs+1
 bv:v.natAbs≤1+2*a.natAbs
theorem EqI.done{a b u v r u' v':Int}(I:EqI a b u v r u' v' 0):(r<0→Eqn a b (-u) (-v) (-r))∧(¬r<0→Eqn a b u v r):=by
 have g:=I.g
 rw[Int.gcd_zero_right] at g
 have B:=I.bounds
 refine⟨fun h=>⟨?_,by omega,by omega,by omega⟩,fun h=>⟨I.e1,by omega,B.1,B.2.1⟩⟩
 have:=I.e1
 rw[Int.neg_mul,Int.neg_mul];omega
end Fw
namespace Fw
theorem gcd_pos{a b:Int}(ha:0<a):0<(Int.gcd a b:Int):=by
 have:Int.gcd a b≠0:=fun z=>by
  have:=Int.eq_zero_of_gcd_eq_zero_left z
  omega
 omega
theorem gcd_le{a b:Int}(ha:0<a):(Int.gcd a b:Int)≤a:=Int.le_of_dvd ha (Int.gcd_dvd_left ..)
def lcmI(a b:Int):Int:=a/(Int.gcd a b:Int)*b
theorem lcmI_facts{a b:Int}(ha:0<a)(hb:0<b):
 0<lcmI a b∧a∣lcmI a b∧b∣lcmI a b∧lcmI a b*(Int.gcd a b:Int)=a*b∧(∀t,a∣t→b∣t→lcmI a b∣t)∧lcmI a b=(Int.lcm a b:Int):=by
 have gp:=gcd_pos (b:=b) ha
 obtain⟨x,hx⟩:(Int.gcd a b:Int)∣a:=Int.gcd_dvd_left ..
 obtain⟨y,hy⟩:(Int.gcd a b:Int)∣b:=Int.gcd_dvd_right ..
 have e1:a/(Int.gcd a b:Int)=x:=by
  have gne:(Int.gcd a b:Int)≠0:=by omega
  generalize hg:(Int.gcd a b:Int)=g at*
  rw[hx]
  exact Int.mul_ediv_cancel_left x gne
 have e:lcmI a b=x*b:=by unfold lcmI;rw[e1]
 have pr:lcmI a b*(Int.gcd a b:Int)=a*b:=by rw[e];conv=>rhs;rw[hx]
                                            grind
 have pl:(Int.lcm a b:Int)*(Int.gcd a b:Int)=a*b:=by
  have h:=Int.gcd_mul_lcm a b
  have h2:((Int.gcd a b*Int.lcm a b:Nat):Int)=((a.natAbs*b.natAbs:Nat):Int):=by rw[h]
  rw[Int.natCast_mul,Int.natCast_mul,Int.natAbs_of_nonneg (Int.le_of_lt ha),Int.natAbs_of_nonneg (Int.le_of_lt hb)] at h2
  rw[Int.mul_comm];exact h2
 have el:lcmI a b=(Int.lcm a b:Int):=Int.eq_of_mul_eq_mul_right (by omega:(Int.gcd a b:Int)≠0) (pr.trans pl.symm)
 refine⟨?_,?_,?_,pr,?_,el⟩
 ·have:0<lcmI a b*(Int.gcd a b:Int):=by rw[pr];exact Int.mul_pos ha hb
  exact Int.pos_of_mul_pos_left this gp
 ·rw[el];exact Int.dvd_lcm_left ..
 ·rw[el];exact Int.dvd_lcm_right ..
 ·intro t h1 h2;rw[el];exact Int.coe_lcm_dvd h1 h2
end Fw
namespace Fw
def On(n:Int)(b:Nat)(d:Int):Bool:=b.testBit (d%n).toNat
theorem shl_cast(b k:Nat):((b:Nat):Int)*2^k=((b <<< k:Nat):Int):=by
 rw[Nat.shiftLeft_eq,Int.natCast_mul,Int.natCast_pow];rfl
theorem full_cast(k:Nat):(1:Int)*2^k-1=((2^k-1:Nat):Int):=by
 have:0<2^k:=Nat.two_pow_pos k
 rw[Int.natCast_sub (by omega),Int.natCast_pow];simp
theorem pow_cast(k:Nat):(1:Int)*2^k=((2^k:Nat):Int):=by
 rw[Int.natCast_pow];simp
theorem high{n b i:Nat}(hb:b<2^n)(h:n≤i):b.testBit i=false:=by
 have p:2^n≤2^i:=Nat.pow_le_pow_right (by decide) h
 exact Nat.testBit_lt_two_pow (by omega)
theorem and_full_lt(c w:Nat):c &&& (2^w-1)<2^w:=by
 rw[Nat.and_two_pow_sub_one_eq_mod];exact Nat.mod_lt _ (Nat.two_pow_pos w)
theorem and_full_bit(c w i:Nat)(h:i<w):(c &&& (2^w-1)).testBit i=c.testBit i:=by
 rw[Nat.testBit_and,Nat.testBit_two_pow_sub_one];simp[h]
structure Strt(n b w c:Nat):Prop where
 lt:c<2^w
 bit:∀i,i<w→c.testBit i=b.testBit (i%n)
theorem Strt.start{n b:Nat}(h:b<2^n):Strt n b n b:=⟨h,fun i hi=>by rw[Nat.mod_eq_of_lt hi]⟩
theorem Strt.dbl{n b w c:Nat}(S:Strt n b w c)(hd:n∣w):Strt n b (w*2) (c ||| (c <<< w)):=by
 have e:2^(w*2)=2^w*2^w:=by rw[Nat.mul_two,Nat.pow_add]
 refine⟨?_,fun i hi=>?_⟩
 ·refine Nat.or_lt_two_pow (Nat.lt_of_lt_of_le S.lt (Nat.pow_le_pow_right (by decide) (by omega))) ?_
  rw[Nat.shiftLeft_eq,e]
  exact Nat.mul_lt_mul_of_pos_right S.lt (Nat.two_pow_pos w)
 ·rw[Nat.testBit_or,Nat.testBit_shiftLeft]
  by_cases h:i<w
  ·rw[S.bit i h];simp[Nat.not_le.mpr h]
  ·rw[high S.lt (by omega),S.bit (i-w) (by omega)]
   obtain⟨k,rfl⟩:=hd
   have e2:i=(i-n*k)+n*k:=by omega
   have e3:i%n=(i-n*k)%n:=by conv=>lhs;rw[e2,Nat.add_mul_mod_self_left]
   rw[e3];simp;intro z;omega
theorem Strt.cut{n b w c z:Nat}(S:Strt n b w c)(h:z≤w):Strt n b z (c &&& (2^z-1)):=
 ⟨and_full_lt _ _,fun i hi=>by rw[and_full_bit _ _ _ hi,S.bit i (by omega)]⟩
end Fw
namespace Fw
def hit(n:Int)(ds:List Int)(d:Int):Bool:=ds.any fun x=>decide ((d-x)%n=0)
structure RB(n:Int)(ds:List Int)(b:Nat):Prop where
 lt:b<2^n.toNat
 bit:∀d,On n b d=hit n ds d
theorem RB.nil(n:Int):RB n [] 0:=⟨Nat.two_pow_pos _,fun d=>by unfold On hit;simp⟩
theorem sub_mod_zero{n d x:Int}(hn:0<n):(d-x)%n=0↔d%n=x%n:=by
 rw[Int.sub_emod]
 have h1:=Int.emod_nonneg d (show n≠0 by omega)
 have h2:=Int.emod_lt_of_pos d hn
 have h3:=Int.emod_nonneg x (show n≠0 by omega)
 have h4:=Int.emod_lt_of_pos x hn
 constructor
 ·intro h
  have:=Int.dvd_of_emod_eq_zero h
  obtain⟨k,hk⟩:=this
  have:k=0:=by
   rcases Int.lt_trichotomy k 0 with z | z | z
   ·have:n*k≤n*(-1):=Int.mul_le_mul_of_nonneg_left (by omega) (by omega)
    omega
   ·exact z
   ·have:n*1≤n*k:=Int.mul_le_mul_of_nonneg_left (by omega) (by omega)
    omega
  subst this
  omega
 ·intro h
  rw[h]
  simp
theorem RB.snoc{n:Int}{ds:List Int}{b:Nat}{x:Int}(hn:0<n)(h:RB n ds b):RB n (ds++[x]) (b ||| 2^(x%n).toNat):=by
 have h3:=Int.emod_nonneg x (show n≠0 by omega)
 have h4:=Int.emod_lt_of_pos x hn
 refine⟨Nat.or_lt_two_pow h.lt (Nat.pow_lt_pow_right (by decide) (by omega)),fun d=>?_⟩
 have h1:=Int.emod_nonneg d (show n≠0 by omega)
 have hb:=h.bit d
 unfold On hit at*
 rw[Nat.testBit_or,hb,List.any_append,Nat.testBit_two_pow]
 congr 1
 rw[List.any_cons,List.any_nil,Bool.or_false,Bool.eq_iff_iff,decide_eq_true_eq,decide_eq_true_eq,sub_mod_zero hn]
 omega
end Fw
namespace Fw
def cnt(b:Nat):Nat→Nat
 | 0=>0
 | k+1=>cnt b k+(if b.testBit k then 1 else 0)
theorem cnt_step(b:Nat):∀k,cnt b (k+1)=b%2+cnt (b/2) k
 | 0=>by
  simp only[cnt,Nat.testBit_zero]
  have:=Nat.mod_two_eq_zero_or_one b
  rcases this with h | h<;>simp[h]
 | k+1=>by
  have ih:=cnt_step b k
  rw[cnt,ih]
  show b%2+cnt (b/2) k+_=b%2+(cnt (b/2) k+_)
  rw[Nat.testBit_succ]
  omega
def CC(n:Int)(b:Nat)(d:Int):Int:=d/n*(cnt b n.toNat:Int)+(cnt b (d%n).toNat:Int)
end Fw
namespace Fw
end Fw
namespace Fw
def fval(w:Nat):List Nat→Nat
 | []=>0
 | a::l=>a+2^w*fval w l
def fsum:List Nat→Nat
 | []=>0
 | a::l=>a+fsum l
def Dg(w f s:Nat):Prop:=∃l:List Nat,(∀a∈l,a≤w)∧f=fval w l∧s=fsum l
theorem Dg.nil{w:Nat}:Dg w 0 0:=⟨[],(fun _ h=>nomatch h),rfl,rfl⟩
theorem Dg.cons{w a f s:Nat}(h:a≤w)(g:Dg w f s):Dg w (a+2^w*f) (a+s):=by
 obtain⟨l,h1,rfl,rfl⟩:=g
 exact⟨a::l,fun x hx=>(List.mem_cons.mp hx).elim (fun e=>e ▸ h) (h1 x),rfl,rfl⟩
theorem Dg.start:∀(n b:Nat),b<2^n→Dg 1 b (cnt b n)
 | 0,b,h=>by
  have:b=0:=by simp at h;exact h
  subst this
  exact .nil
 | n+1,b,h=>by
  have:=Dg.cons (w:=1) (a:=b%2) (by omega) (Dg.start n (b/2) (by rw[Nat.pow_succ] at h;omega))
  rw[cnt_step]
  rwa [Nat.pow_one,Nat.mod_add_div] at this
end Fw
namespace Fw
def pc(b j:Nat):Nat:=b/2^(256*j)%2^256
theorem pc_bit(b j i:Nat):(pc b j).testBit i=(decide (i<256)&&b.testBit (256*j+i)):=by
 unfold pc
 rw[Nat.testBit_mod_two_pow,←Nat.shiftRight_eq_div_pow,Nat.testBit_shiftRight]
theorem pc_lt(b j:Nat):pc b j<2^256:=Nat.mod_lt _ (Nat.two_pow_pos _)
theorem pc_or_at(b p:Nat):pc (b ||| 2^p) (p/256)=pc b (p/256) ||| 2^(p%256):=by
 refine Nat.eq_of_testBit_eq fun i=>?_
 rw[pc_bit,Nat.testBit_or,Nat.testBit_or,pc_bit,Nat.testBit_two_pow,Nat.testBit_two_pow]
 by_cases c:i<256
 ·have:(p=256*(p/256)+i)=(p%256=i):=propext ⟨fun h=>by omega,fun h=>by omega⟩
  simp[c,this]
 ·have:¬p%256=i:=by omega
  simp[c,this]
theorem pc_or_ne{b p j:Nat}(h:j≠p/256):pc (b ||| 2^p) j=pc b j:=by
 refine Nat.eq_of_testBit_eq fun i=>?_
 rw[pc_bit,Nat.testBit_or,pc_bit,Nat.testBit_two_pow]
 by_cases c:i<256
 ·have:¬p=256*j+i:=by omega
  simp[c,this]
 ·simp[c]
theorem pc_join(b m:Nat):b%2^(256*m) ||| (pc b m <<< (256*m))=b%2^(256*(m+1)):=by
 refine Nat.eq_of_testBit_eq fun i=>?_
 rw[Nat.testBit_or,Nat.testBit_shiftLeft,Nat.testBit_mod_two_pow,Nat.testBit_mod_two_pow,pc_bit]
 by_cases c:i<256*m
 ·simp[c,show ¬256*m≤i by omega,show i<256*(m+1) by omega]
 ·by_cases c2:i<256*(m+1)
  ·simp[c,c2,show 256*m≤i by omega,show i-256*m<256 by omega,show 256*m+(i-256*m)=i by omega]
  ·simp[c,c2,show ¬i-256*m<256 by omega]
end Fw
namespace Fw
end Fw
namespace Fw
end Fw
namespace Fw
end Fw
namespace Fw
def Till(on1 on2:Int→Bool)(d:Int):Prop:=∃r,on1 r=true∧r≤d∧∀s,on2 s=true→r<s→d<s
end Fw
namespace Fw
def Kth(n1:Int)(b1:Nat)(n2:Int)(b2:Nat)(k d:Int):Prop:=On n1 b1 d=true∧∃b e,On n2 b2 b=true∧On n2 b2 e=true∧b≤d∧d<e∧(∀r,b<r→r<e→On n2 b2 r=false)∧(0<k→CC n1 b1 (d+1)-CC n1 b1 b=k)∧(k<0→CC n1 b1 e-CC n1 b1 d= -k)
end Fw
namespace Fw
end Fw
namespace Fw
theorem CC_mul{n:Int}{b:Nat}(hn:0<n)(d j:Int):CC n b (d+n*j)=CC n b d+j*(cnt b n.toNat:Int):=by
 unfold CC
 rw[Int.add_mul_ediv_left _ _ (by omega),Int.add_mul_emod_self_left,Int.add_mul]
 omega
structure Dn(n:Int)(b:Nat)(ds:List Int):Prop where
 len:(ds.length:Int)=(cnt b n.toNat:Int)
 at':∀(j:Nat) (x:Int),ds[j]?=some x→On n b x=true∧CC n b x=(j:Int)∧0≤x∧x<n
def dayOf(n:Int)(ds:List Int)(P:Int):Int:=P/(ds.length:Int)*n+(ds[(P%(ds.length:Int)).toNat]?).getD 0
theorem Dn.day{n:Int}{b:Nat}{ds:List Int}(hn:0<n)(D:Dn n b ds)(h:0<ds.length)(P:Int):On n b (dayOf n ds P)=true∧CC n b (dayOf n ds P)=P:=by
 have m0:=Int.emod_nonneg P (show (ds.length:Int)≠0 by omega)
 have m1:=Int.emod_lt_of_pos P (show (0:Int)<(ds.length:Int) by omega)
 have hl:(P%(ds.length:Int)).toNat<ds.length:=by omega
 obtain⟨x,hx⟩:∃x,ds[(P%(ds.length:Int)).toNat]?=some x:=⟨_,List.getElem?_eq_getElem hl⟩
 obtain⟨a1,a2,a3,a4⟩:=D.at' _ _ hx
 have e:dayOf n ds P=x+n*(P/(ds.length:Int)):=by
  unfold dayOf
  rw[hx,Int.mul_comm]
  show _+x=_
  omega
 have p:=Int.mul_ediv_add_emod P (ds.length:Int)
 rw[e]
 constructor
 ·unfold On at a1 ⊢
  rwa [Int.add_mul_emod_self_left]
 ·rw[CC_mul hn,a2,←D.len,Int.mul_comm]
  omega
end Fw
namespace Fw
end Fw
set_option linter.all false
namespace Fw
abbrev Wd:=List Nat
def numB(cs:Wd):Bool:=
 let f:=if cs.head?=some 45 then cs.drop 1 else cs
 decide (1≤f.length)&&decide (f.length≤60)&&f.all (fun c=>decide (48≤c)&&decide (c≤57))&&(decide (f.head?≠some 48)||decide (cs=[48]))
def nameB(cs:Wd):Bool:=decide (1≤cs.length)&&decide (cs.length≤8)&&cs.all fun c=>decide (97≤c)&&decide (c≤122)
def kAll:Wd:=[97,108,108]
def kNone:Wd:=[110,111,110,101]
def kEach:Wd:=[101,97,99,104]
def kDate:Wd:=[100,97,116,101]
def kFrom:Wd:=[102,114,111,109]
def kNot:Wd:=[110,111,116]
def kEvery:Wd:=[101,118,101,114,121]
def kLater:Wd:=[108,97,116,101,114]
def kOf:Wd:=[111,102]
def kStar:Wd:=[42]
def kL:Wd:=[40]
def kR:Wd:=[41]
def pairWs:List Wd:=[[97,110,100],[111,114],[98,117,116],[117,110,108,105,107,101],[117,112,111,110],[117,110,116,105,108],[110,101,97,114],[116,105,108,108]]
inductive Pl:Type
 | lf (w:Wd)
 | each (n r:Int)
 | date (nm:Wd) (m d:Option Int) (s r:Int)
 | not (p:Pl)
 | later (n:Int) (p:Pl)
 | nth (n:Int) (p q:Pl)
 | every (n:Int) (p:Pl) (r:Int)
 | pair (w:Wd) (p q:Pl)
section
variable(val:Wd→Int)
def tkNum:List Wd→Option (Int×List Wd)
 | []=>none
 | w::r=>if numB w=true then some (val w,r) else none
def tkW(x:Wd):List Wd→Option (List Wd)
 | []=>none
 | w::r=>if w=x then some r else none
def tkEach(ts:List Wd):Option ((Int×Int)×List Wd):=match tkNum val ts with
 | none=>none
 | some (n,r)=>match tkW kFrom r with
  | none=>none
  | some r=>match tkNum val r with
   | none=>none
   | some (m,r)=>some ((n,m),r)
def tkWant:List Wd→Option (Option Int×List Wd)
 | []=>none
 | w::r=>if w=kStar then some (none,r) else match tkNum val (w::r) with
  | none=>none
  | some (n,r)=>some (some n,r)
def tkYears:List Wd→Option ((Int×Int)×List Wd)
 | []=>some ((1,0),[])
 | w::r=>if w=kEach then tkEach val r else some ((1,0),w::r)
def tkDate:List Wd→Option (Pl×List Wd)
 | []=>none
 | nm::r=>if nameB nm=true then match tkWant val r with
  | none=>none
  | some (m,r)=>match tkWant val r with
   | none=>none
   | some (d,r)=>match tkYears val r with
    | none=>none
    | some (y,r)=>some (.date nm m d y.1 y.2,r)
  else none
def tkPair(P:List Wd→Option (Pl×List Wd))(ts:List Wd):Option (Pl×List Wd):=match P ts with
 | some (p,w::r)=>if w∈pairWs then match P r with
  | none=>none
  | some (q,r)=>some (.pair w p q,r)
  else none
 | _=>none
def tkEvery(P:List Wd→Option (Pl×List Wd))(ts:List Wd):Option (Pl×List Wd):=match tkNum val ts with
 | none=>none
 | some (n,r)=>match tkW kOf r with
  | none=>none
  | some r=>match P r with
   | none=>none
   | some (p,r)=>match tkW kFrom r with
    | none=>none
    | some r=>match tkNum val r with
     | none=>none
     | some (m,r)=>some (.every n p m,r)
def tkNumbered(P:List Wd→Option (Pl×List Wd))(ts:List Wd):Option (Pl×List Wd):=match tkNum val ts with
 | some (n,w::r)=>if w=kLater then match P r with
  | none=>none
  | some (p,r)=>some (.later n p,r)
  else if w=kOf then match P r with
   | none=>none
   | some (p,r)=>match tkW kFrom r with
    | none=>none
    | some r=>match P r with
     | none=>none
     | some (q,r)=>some (.nth n p q,r)
  else none
 | _=>none
def tkWithin(P:List Wd→Option (Pl×List Wd)):List Wd→Option (Pl×List Wd)
 | []=>none
 | w::r=>if w=kNot then match P r with
  | none=>none
  | some (p,r)=>some (.not p,r)
  else if w=kEvery then tkEvery val P r
  else if numB w=true then tkNumbered val P (w::r)
  else tkPair P (w::r)
def prs:Nat→List Wd→Option (Pl×List Wd)
 | 0,_=>none
 | _+1,[]=>none
 | d+1,w::r=>if w=kAll∨w=kNone then some (.lf w,r)
  else if w=kEach then match tkEach val r with
   | none=>none
   | some (y,r)=>some (.each y.1 y.2,r)
  else if w=kDate then tkDate val r
  else if w=kL then match tkWithin val (prs d) r with
   | none=>none
   | some (p,r)=>match tkW kR r with
    | none=>none
    | some r=>some (p,r)
  else none
end
def kws:List Wd:=[kAll,kNone,kEach,kDate,kFrom,kNot,kEvery,kLater,kOf,kStar,kL,kR]++pairWs
def Plain(w:Wd):Prop:=w∈kws∨numB w=true
def Sq:Bool→List Wd→Prop
 | _,[]=>True
 | b,w::r=>(Plain w∨(b=true∧nameB w=true))∧Sq (decide (w=kDate)) r
def ht(c:List Wd):Int:=(c.count kL:Int)-(c.count kR:Int)
theorem Sq.tt{b:Bool}:∀{c:List Wd},Sq false c→Sq b c
 | [],_=>trivial
 | w::r,⟨h,g⟩=>⟨.inl (h.elim id fun z=>(nomatch z.1)),g⟩
theorem Sq.app:∀{b:Bool} {c e:List Wd},Sq b c→Sq false e→Sq b (c++e)
 | b,[],e,_,h=>h.tt
 | b,w::r,e,⟨h,g⟩,h2=>⟨h,Sq.app g h2⟩
theorem ht_app(c e:List Wd):ht (c++e)=ht c+ht e:=by unfold ht;rw[List.count_append,List.count_append];omega
def Tk(ts r:List Wd)(k:Int):Prop:=∃c,ts=c++r∧Sq false c∧ht c=k
theorem Tk.one{w:Wd}{r:List Wd}(h:Plain w)(k:Int)(hk:ht [w]=k):Tk (w::r) r k:=⟨[w],rfl,⟨.inl h,trivial⟩,hk⟩
theorem Tk.trans{a b c:List Wd}{k m n:Int}(h:Tk a b k)(g:Tk b c m)(e:k+m=n):Tk a c n:=by
 obtain⟨x,rfl,h1,h2⟩:=h
 obtain⟨y,rfl,g1,g2⟩:=g
 exact⟨x++y,by rw[List.append_assoc],h1.app g1,by rw[ht_app];omega⟩
theorem Tk.refl(a:List Wd):Tk a a 0:=⟨[],rfl,trivial,rfl⟩
theorem num_ht{w:Wd}(h:numB w=true):ht [w]=0:=by
 have h1:w≠kL:=fun e=>by subst e;revert h;decide
 have h2:w≠kR:=fun e=>by subst e;revert h;decide
 unfold ht
 rw[List.count_cons,List.count_cons]
 simp[h1,h2]
theorem name_ht{w:Wd}(h:nameB w=true):ht [w]=0:=by
 have h1:w≠kL:=fun e=>by subst e;revert h;decide
 have h2:w≠kR:=fun e=>by subst e;revert h;decide
 unfold ht
 rw[List.count_cons,List.count_cons]
 simp[h1,h2]
section
variable{val:Wd→Int}
theorem tkNum_tk{ts r:List Wd}{n:Int}(h:tkNum val ts=some (n,r)):Tk ts r 0:=by
 cases ts with
 | nil=>cases h
 | cons w t=>
  simp only[tkNum] at h
  split at h
  ·rename_i hw
   cases h
   exact .one (.inr hw) 0 (num_ht hw)
  ·cases h
theorem tkW_tk{x:Wd}{ts r:List Wd}(h:tkW x ts=some r):ts=x::r:=by
 cases ts with
 | nil=>cases h
 | cons w t=>
  simp only[tkW] at h
  split at h
  ·rename_i hw
   cases h
   rw[hw]
  ·cases h
theorem kw_tk{x:Wd}{r:List Wd}(h:x∈kws)(k:Int)(hk:ht [x]=k):Tk (x::r) r k:=.one (.inl h) k hk
theorem tkEach_tk{ts r:List Wd}{y:Int×Int}(h:tkEach val ts=some (y,r)):Tk ts r 0:=by
 unfold tkEach at h
 split at h
 ·cases h
 ·rename_i n r1 h1
  split at h
  ·cases h
  ·rename_i r2 h2
   split at h
   ·cases h
   ·rename_i m r3 h3
    cases h
    have e:=tkW_tk h2
    subst e
    exact(tkNum_tk h1).trans ((kw_tk (by decide) 0 (by decide)).trans (tkNum_tk h3) rfl) rfl
theorem tkWant_tk{ts r:List Wd}{y:Option Int}(h:tkWant val ts=some (y,r)):Tk ts r 0:=by
 cases ts with
 | nil=>cases h
 | cons w t=>
  simp only[tkWant] at h
  split at h
  ·rename_i hw
   cases h
   subst hw
   exact kw_tk (by decide) 0 (by decide)
  ·split at h
   ·cases h
   ·rename_i n r1 h1
    cases h
    exact tkNum_tk h1
theorem tkYears_tk{ts r:List Wd}{y:Int×Int}(h:tkYears val ts=some (y,r)):Tk ts r 0:=by
 cases ts with
 | nil=>cases h;exact .refl _
 | cons w t=>
  simp only[tkYears] at h
  split at h
  ·rename_i hw
   subst hw
   exact(kw_tk (by decide) 0 (by decide)).trans (tkEach_tk h) rfl
  ·cases h
   exact .refl _
theorem tkDate_tk{ts r:List Wd}{p:Pl}(h:tkDate val ts=some (p,r)):Tk (kDate::ts) r 0:=by
 cases ts with
 | nil=>cases h
 | cons w t=>
  simp only[tkDate] at h
  split at h
  ·rename_i hw
   split at h
   ·cases h
   ·rename_i m r1 h1
    split at h
    ·cases h
    ·rename_i d r2 h2
     split at h
     ·cases h
     ·rename_i y r3 h3
      cases h
      have a:Tk (kDate::w::t) t 0:=⟨[kDate,w],rfl,⟨.inl (.inl (by decide)),.inr ⟨by decide,hw⟩,trivial⟩,by
       have:=name_ht hw
       rw[show [kDate,w]=[kDate]++[w] from rfl,ht_app,this]
       decide⟩
      exact a.trans ((tkWant_tk h1).trans ((tkWant_tk h2).trans (tkYears_tk h3) rfl) rfl) rfl
  ·cases h
theorem tkPair_tk{P:List Wd→Option (Pl×List Wd)}(hP:∀{ts r p},P ts=some (p,r)→Tk ts r 0){ts r:List Wd}{p:Pl}(h:tkPair P ts=some (p,r)):Tk ts r 0:=by
 unfold tkPair at h
 split at h
 ·rename_i p1 w r1 h1
  split at h
  ·rename_i hw
   split at h
   ·cases h
   ·rename_i q r2 h2
    cases h
    exact(hP h1).trans ((kw_tk (List.mem_append_right _ hw) 0 ((show ∀w∈pairWs,ht [w]=0 by decide) w hw)).trans (hP h2) rfl) rfl
  ·cases h
 ·cases h
theorem tkEvery_tk{P:List Wd→Option (Pl×List Wd)}(hP:∀{ts r p},P ts=some (p,r)→Tk ts r 0){ts r:List Wd}{p:Pl}(h:tkEvery val P ts=some (p,r)):Tk ts r 0:=by
 unfold tkEvery at h
 split at h
 ·cases h
 ·rename_i n r1 h1
  split at h
  ·cases h
  ·rename_i r2 h2
   split at h
   ·cases h
   ·rename_i p1 r3 h3
    split at h
    ·cases h
    ·rename_i r4 h4
     split at h
     ·cases h
     ·rename_i m r5 h5
      cases h
      have e:=tkW_tk h2
      subst e
      have e:=tkW_tk h4
      subst e
      exact(tkNum_tk h1).trans ((kw_tk (by decide) 0 (by decide)).trans ((hP h3).trans ((kw_tk (by decide) 0 (by decide)).trans (tkNum_tk h5) rfl) rfl) rfl) rfl
theorem tkNumbered_tk{P:List Wd→Option (Pl×List Wd)}(hP:∀{ts r p},P ts=some (p,r)→Tk ts r 0){ts r:List Wd}{p:Pl}(h:tkNumbered val P ts=some (p,r)):Tk ts r 0:=by
 unfold tkNumbered at h
 split at h
 ·rename_i n w r1 h1
  split at h
  ·rename_i hw
   split at h
   ·cases h
   ·rename_i p1 r2 h2
    cases h
    subst hw
    exact(tkNum_tk h1).trans ((kw_tk (by decide) 0 (by decide)).trans (hP h2) rfl) rfl
  ·split at h
   ·rename_i hw
    split at h
    ·cases h
    ·rename_i p1 r2 h2
     split at h
     ·cases h
     ·rename_i r3 h3
      split at h
      ·cases h
      ·rename_i q r4 h4
       cases h
       subst hw
       have e:=tkW_tk h3
       subst e
       exact(tkNum_tk h1).trans ((kw_tk (by decide) 0 (by decide)).trans ((hP h2).trans ((kw_tk (by decide) 0 (by decide)).trans (hP h4) rfl) rfl) rfl) rfl
   ·cases h
 ·cases h
theorem tkWithin_tk{P:List Wd→Option (Pl×List Wd)}(hP:∀{ts r p},P ts=some (p,r)→Tk ts r 0){ts r:List Wd}{p:Pl}(h:tkWithin val P ts=some (p,r)):Tk ts r 0:=by
 cases ts with
 | nil=>cases h
 | cons w t=>
  simp only[tkWithin] at h
  split at h
  ·rename_i hw
   split at h
   ·cases h
   ·rename_i p1 r1 h1
    cases h
    subst hw
    exact(kw_tk (by decide) 0 (by decide)).trans (hP h1) rfl
  ·split at h
   ·rename_i hw
    subst hw
    exact(kw_tk (by decide) 0 (by decide)).trans (tkEvery_tk hP h) rfl
   ·split at h
    ·exact tkNumbered_tk hP h
    ·exact tkPair_tk hP h
theorem prs_tk:∀{d:Nat} {ts r:List Wd} {p:Pl},prs val d ts=some (p,r)→Tk ts r 0
 | 0,ts,r,p,h=>by cases h
 | d+1,[],r,p,h=>by cases h
 | d+1,w::t,r,p,h=>by
  simp only[prs] at h
  split at h
  ·rename_i hw
   cases h
   rcases hw with hw | hw<;>subst hw
   ·exact kw_tk (by decide) 0 (by decide)
   ·exact kw_tk (by decide) 0 (by decide)
  ·split at h
   ·rename_i hw
    subst hw
    split at h
    ·cases h
    ·rename_i y r1 h1
     cases h
     exact(kw_tk (by decide) 0 (by decide)).trans (tkEach_tk h1) rfl
   ·split at h
    ·rename_i hw
     subst hw
     exact tkDate_tk h
    ·split at h
     ·rename_i hw
      subst hw
      split at h
      ·cases h
      ·rename_i p1 r1 h1
       split at h
       ·cases h
       ·rename_i r2 h2
        cases h
        have e:=tkW_tk h2
        subst e
        exact(kw_tk (by decide) 1 (by decide)).trans ((tkWithin_tk (fun h=>prs_tk h) h1).trans (kw_tk (by decide) (-1) (by decide)) rfl) rfl
     ·cases h
end
end Fw
set_option linter.all false
namespace Fw
def opd(p:Wd):Wd:=p.dropWhile (· ==40)
def core(p:Wd):Wd:=((opd p).reverse.dropWhile (· ==41)).reverse
def ptok(p:Wd):List Wd:=List.replicate (p.length-(opd p).length) kL++[core p]++List.replicate ((opd p).length-(core p).length) kR
def wordsOf:Int→List Wd→Option (List Wd)
 | _,[]=>some []
 | d,p::ps=>if core p=[] then none else if 40<d+((p.length:Int)-((opd p).length:Int)) then none else
  match wordsOf (d+((p.length:Int)-((opd p).length:Int))-(((opd p).length:Int)-((core p).length:Int))) ps with
  | none=>none
  | some r=>some (ptok p++r)
def readS(val:Wd→Int)(T:Wd):Option Pl:=if 4000<T.length then none else match wordsOf 0 (L2.spl 32 T) with
 | none=>none
 | some ts=>match prs val 41 ts with
  | some (p,[])=>some p
  | _=>none
theorem words_good:∀{ps:List Wd} {d:Int} {ts:List Wd},wordsOf d ps=some ts→ts=ps.flatMap ptok∧∀p∈ps,core p≠[]
 | [],d,ts,h=>by
  simp only[wordsOf] at h
  cases h
  exact⟨rfl,fun p hp=>(nomatch hp)⟩
 | p::ps,d,ts,h=>by
  simp only[wordsOf] at h
  split at h
  ·cases h
  ·rename_i hc
   split at h
   ·cases h
   ·split at h
    ·cases h
    ·rename_i r hr
     cases h
     obtain⟨e,g⟩:=words_good hr
     refine⟨by rw[List.flatMap_cons,←e],fun q hq=>?_⟩
     rcases List.mem_cons.mp hq with z | z
     ·rw[z];exact hc
     ·exact g q z
theorem dw_split(c:Nat):∀p:Wd,p=List.replicate (p.length-(p.dropWhile (· ==c)).length) c++p.dropWhile (· ==c)
 | []=>rfl
 | a::p=>by
  by_cases h:a=c
  ·subst h
   have e:(a::p).dropWhile (· ==a)=p.dropWhile (· ==a):=by simp[List.dropWhile_cons]
   have l:(p.dropWhile (· ==a)).length≤p.length:=(List.dropWhile_sublist _).length_le
   rw[e,List.length_cons,Nat.succ_sub l,List.replicate_succ,List.cons_append,←dw_split a p]
  ·have e:(a::p).dropWhile (· ==c)=a::p:=by simp[List.dropWhile_cons,h]
   rw[e]
   simp
theorem opd_le(p:Wd):(opd p).length≤p.length:=(List.dropWhile_sublist _).length_le
theorem core_le(p:Wd):(core p).length≤(opd p).length:=by
 unfold core
 rw[List.length_reverse]
 have:=(List.dropWhile_sublist (· ==41) (l:=(opd p).reverse)).length_le
 rwa [List.length_reverse] at this
theorem pc_eq(p:Wd):p=List.replicate (p.length-(opd p).length) 40++core p++List.replicate ((opd p).length-(core p).length) 41:=by
 have h1:=dw_split 40 p
 have h2:=congrArg List.reverse (dw_split 41 (opd p).reverse)
 rw[List.reverse_reverse,List.reverse_append,List.reverse_replicate,List.length_reverse] at h2
 have e:((opd p).reverse.dropWhile (· ==41)).length=(core p).length:=by unfold core;rw[List.length_reverse]
 rw[e] at h2
 have h3:opd p=core p++List.replicate ((opd p).length-(core p).length) 41:=h2
 rw[List.append_assoc,←h3]
 exact h1
theorem core_head(p:Wd):(core p).head?≠some 40:=by
 intro h
 have e:opd p=core p++List.replicate ((opd p).length-(core p).length) 41:=by
  have h2:=congrArg List.reverse (dw_split 41 (opd p).reverse)
  rw[List.reverse_reverse,List.reverse_append,List.reverse_replicate,List.length_reverse] at h2
  have e:((opd p).reverse.dropWhile (· ==41)).length=(core p).length:=by unfold core;rw[List.length_reverse]
  rw[e] at h2
  exact h2
 have h2:(opd p).head?=some 40:=by
  rw[e,List.head?_append,h]
  rfl
 have:=List.head?_dropWhile_not (· ==40) p
 rw[show p.dropWhile (· ==40)=opd p from rfl,h2] at this
 simp at this
theorem core_last(p:Wd):(core p).getLast?≠some 41:=by
 intro h
 unfold core at h
 rw[List.getLast?_reverse] at h
 have:=List.head?_dropWhile_not (· ==41) (opd p).reverse
 rw[h] at this
 simp at this
def gs(c:Nat):Bool:=(decide (97≤c)&&decide (c≤122))||(decide (48≤c)&&decide (c≤57))||decide (c=42)||decide (c=45)
theorem num_gs{w:Wd}(h:numB w=true):w.all gs=true:=by
 unfold numB at h
 simp only[Bool.and_eq_true] at h
 have hf:=h.1.2
 rw[List.all_eq_true] at hf ⊢
 intro c hc
 cases w with
 | nil=>cases hc
 | cons a r=>
  by_cases e:(a::r).head?=some 45
  ·injection e with e
   subst e
   rcases List.mem_cons.mp hc with z | z
   ·subst z;decide
   ·have:=hf c (by simpa using z)
    unfold gs
    rw[this]
    simp
  ·rw[if_neg e] at hf
   have:=hf c hc
   unfold gs
   rw[this]
   simp
theorem name_gs{w:Wd}(h:nameB w=true):w.all gs=true:=by
 unfold nameB at h
 simp only[Bool.and_eq_true] at h
 have hf:=h.2
 rw[List.all_eq_true] at hf ⊢
 intro c hc
 have:=hf c hc
 unfold gs
 rw[this]
 rfl
theorem plain_gs{w:Wd}(h:Plain w)(h1:w≠kL)(h2:w≠kR):w.all gs=true:=by
 rcases h with h | h
 ·have:∀w∈kws,w≠kL→w≠kR→w.all gs=true:=by decide
  exact this w h h1 h2
 ·exact num_gs h
theorem sq_mem:∀{b:Bool} {c:List Wd},Sq b c→∀w∈c,Plain w∨nameB w=true
 | b,w::r,⟨h,g⟩,x,hx=>by
  rcases List.mem_cons.mp hx with z | z
  ·rw[z];exact h.elim .inl fun y=>.inr y.2
  ·exact sq_mem g x z
structure Red(val:Wd→Int)(T:Wd):Prop where
 len:T.length≤4000
 sq:Sq false ((L2.spl 32 T).flatMap ptok)
 ht0:ht ((L2.spl 32 T).flatMap ptok)=0
 ne:∀p∈L2.spl 32 T,core p≠[]
theorem red{val:Wd→Int}{T:Wd}{p:Pl}(h:readS val T=some p):Red val T:=by
 unfold readS at h
 split at h
 ·cases h
 ·rename_i hl
  split at h
  ·cases h
  ·rename_i ts h1
   split at h
   ·rename_i p' h2
    obtain⟨e,g⟩:=words_good h1
    obtain⟨c,ec,hs,hh⟩:=prs_tk h2
    rw[List.append_nil] at ec
    subst ec
    subst e
    exact⟨by omega,hs,hh,g⟩
   ·cases h
theorem core_mem(p:Wd):core p∈ptok p:=by unfold ptok;simp
theorem Red.core{val:Wd→Int}{T:Wd}(R:Red val T){p:Wd}(hp:p∈L2.spl 32 T):(core p).all gs=true:=by
 have h1:Fw.core p≠kL:=fun e=>core_head p (by rw[e];rfl)
 have h2:Fw.core p≠kR:=fun e=>core_last p (by rw[e];rfl)
 rcases sq_mem R.sq _ (List.mem_flatMap.mpr ⟨p,hp,core_mem p⟩) with z | z
 ·exact plain_gs z h1 h2
 ·exact name_gs z
theorem spl_in(c:Nat):∀(l:List Nat) (a:Nat),a∈l→a=c∨∃p∈L2.spl c l,a∈p
 | b::l,a,h=>by
  by_cases e:b=c
  ·subst e
   rw[L2.spl_at]
   rcases List.mem_cons.mp h with z | z
   ·exact .inl z
   ·rcases spl_in b l a z with y | ⟨p,hp,ha⟩
    ·exact .inl y
    ·exact .inr ⟨p,List.mem_cons_of_mem _ hp,ha⟩
  ·rw[L2.spl_not l e]
   rcases List.mem_cons.mp h with z | z
   ·exact .inr ⟨_,List.mem_cons_self,by rw[z];exact List.mem_cons_self⟩
   ·rcases spl_in c l a z with y | ⟨p,hp,ha⟩
    ·exact .inl y
    ·rw[L2.spl_eta c l] at hp
     rcases List.mem_cons.mp hp with y | y
     ·exact .inr ⟨_,List.mem_cons_self,List.mem_cons_of_mem _ (by rw[←y];exact ha)⟩
     ·exact .inr ⟨p,List.mem_cons_of_mem _ y,ha⟩
theorem Red.sign{val:Wd→Int}{T:Wd}(R:Red val T){c:Nat}(hc:c∈T):c=32∨c=40∨c=41∨gs c=true:=by
 rcases spl_in 32 T c hc with z | ⟨p,hp,hc⟩
 ·exact .inl z
 ·rw[pc_eq p] at hc
  rcases List.mem_append.mp hc with z | z
  ·rcases List.mem_append.mp z with z | z
   ·exact .inr (.inl (List.eq_of_mem_replicate z))
   ·exact .inr (.inr (.inr (List.all_eq_true.mp (R.core hp) c z)))
  ·exact .inr (.inr (.inl (List.eq_of_mem_replicate z)))
theorem spl_count(c a:Nat)(h:a≠c):∀l:List Nat,l.count a=((L2.spl c l).map fun q=>q.count a).sum
 | []=>rfl
 | b::l=>by
  have ih:=spl_count c a h l
  by_cases e:b=c
  ·subst e
   rw[L2.spl_at,List.map_cons,List.sum_cons,List.count_nil,List.count_cons_of_ne (Ne.symm h),ih,Nat.zero_add]
  ·rw[L2.spl_not l e,List.map_cons,List.sum_cons,List.count_cons,List.count_cons,ih]
   conv=>lhs;rw[L2.spl_eta c l,List.map_cons,List.sum_cons]
   omega
theorem ptok_ht{p:Wd}(h:(core p).all gs=true):ht (ptok p)=(p.count 40:Int)-(p.count 41:Int):=by
 have n40:(core p).count 40=0:=List.count_eq_zero.mpr fun z=>absurd (List.all_eq_true.mp h 40 z) (by decide)
 have n41:(core p).count 41=0:=List.count_eq_zero.mpr fun z=>absurd (List.all_eq_true.mp h 41 z) (by decide)
 have kl:core p≠kL:=fun e=>by rw[e] at n40;revert n40;decide
 have kr:core p≠kR:=fun e=>by rw[e] at n41;revert n41;decide
 have c40:p.count 40=p.length-(opd p).length:=by
  conv=>lhs;rw[pc_eq p]
  rw[List.count_append,List.count_append,List.count_replicate,List.count_replicate,n40]
  simp
 have c41:p.count 41=(opd p).length-(core p).length:=by
  conv=>lhs;rw[pc_eq p]
  rw[List.count_append,List.count_append,List.count_replicate,List.count_replicate,n41]
  simp
 rw[c40,c41]
 unfold ptok ht
 rw[List.count_append,List.count_append,List.count_append,List.count_append,List.count_replicate,List.count_replicate,List.count_replicate,List.count_replicate,List.count_cons,List.count_cons]
 simp[kl,kr,show(kL==kR)=false by decide,show(kR==kL)=false by decide,show kL≠kR by decide,show kR≠kL by decide]
theorem flat_ht:∀{ps:List Wd},(∀p∈ps,(core p).all gs=true)→ht (ps.flatMap ptok)=(((ps.map fun q=>q.count 40).sum:Nat):Int)-(((ps.map fun q=>q.count 41).sum:Nat):Int)
 | [],_=>rfl
 | p::ps,h=>by
  rw[List.flatMap_cons,ht_app,ptok_ht (h p List.mem_cons_self),flat_ht fun q hq=>h q (List.mem_cons_of_mem _ hq),List.map_cons,List.map_cons,List.sum_cons,List.sum_cons]
  omega
theorem Red.bal{val:Wd→Int}{T:Wd}(R:Red val T):T.count 40=T.count 41:=by
 have h:=R.ht0
 rw[flat_ht fun p hp=>R.core hp,←spl_count 32 40 (by decide) T,←spl_count 32 41 (by decide) T] at h
 omega
end Fw
set_option linter.all false
namespace Fw
def kSun:Wd:=[115,117,110]
def jn:List Wd→Wd
 | []=>[]
 | [w]=>w
 | w::y::r=>w++32::jn (y::r)
def bA:List Wd→List Wd
 | []=>[]
 | p::r=>(40::p)::r
def bB:List Wd→List Wd
 | []=>[]
 | [p]=>[p++[41]]
 | p::q::r=>p::bB (q::r)
theorem jn_cons{w:Wd}{r:List Wd}(h:r≠[]):jn (w::r)=w++32::jn r:=by
 cases r with
 | nil=>exact absurd rfl h
 | cons y r=>rfl
theorem jn_app:∀{ps qs:List Wd},ps≠[]→qs≠[]→jn (ps++qs)=jn ps++32::jn qs
 | [],_,h,_=>absurd rfl h
 | [w],qs,_,h=>by rw[List.singleton_append,jn_cons h];rfl
 | w::y::r,qs,_,h=>by
  rw[List.cons_append,jn_cons (by simp),jn_app (by simp) h]
  show _=(w++32::jn (y::r))++_
  simp
theorem jn_bA{ps:List Wd}(h:ps≠[]):jn (bA ps)=40::jn ps:=by
 match ps,h with
 | [w],_=>rfl
 | w::y::r,_=>rfl
theorem jn_bB:∀{ps:List Wd},ps≠[]→jn (bB ps)=jn ps++[41]
 | [],h=>absurd rfl h
 | [w],_=>rfl
 | w::y::r,_=>by
  have ih:=jn_bB (ps:=y::r) (by simp)
  have ne:bB (y::r)≠[]:=by cases r<;>simp[bB]
  show jn (w::bB (y::r))=_
  rw[jn_cons ne,ih]
  show _=(w++32::jn (y::r))++[41]
  simp
theorem spl_jn:∀{w:Wd} {ws:List Wd},(∀p∈w::ws,32∉p)→L2.spl 32 (jn (w::ws))=w::ws
 | w,[],h=>L2.spl_one 32 w (h w List.mem_cons_self)
 | w,y::r,h=>by
  show L2.spl 32 (w++32::jn (y::r))=_
  rw[L2.spl_cut 32 w _ (h w List.mem_cons_self),spl_jn fun p hp=>h p (List.mem_cons_of_mem _ hp)]
theorem bA_ne{ps:List Wd}(h:ps≠[]):bA ps≠[]:=by cases ps<;>simp_all [bA]
theorem bB_ne{ps:List Wd}(h:ps≠[]):bB ps≠[]:=by
 match ps,h with
 | [w],_=>simp[bB]
 | w::y::r,_=>simp[bB]
theorem bB_app:∀(ps:List Wd) {qs:List Wd},qs≠[]→bB (ps++qs)=ps++bB qs
 | [],_,_=>rfl
 | [p],q::r,_=>rfl
 | p::y::r,qs,h=>by
  have:=bB_app (y::r) h
  rw[List.cons_append] at this ⊢
  show bB (p::y::(r++qs))=_
  show p::bB (y::(r++qs))=_
  rw[this]
  rfl
theorem opd_cons(p:Wd):opd (40::p)=opd p:=by simp[opd,List.dropWhile_cons]
theorem core_cons(p:Wd):core (40::p)=core p:=by unfold core;rw[opd_cons]
theorem opd_app{p q:Wd}(h:opd p≠[]):opd (p++q)=opd p++q:=by
 unfold opd at*
 induction p with
 | nil=>exact absurd rfl h
 | cons a p ih=>
  by_cases e:a=40
  ·subst e
   simp only[List.cons_append,List.dropWhile_cons,beq_self_eq_true,if_true] at*
   exact ih h
  ·simp[List.dropWhile_cons,e]
theorem core_snoc{p:Wd}(h:opd p≠[]):core (p++[41])=core p:=by
 unfold core
 rw[opd_app h,List.reverse_append]
 simp[List.dropWhile_cons]
theorem core_opd{p:Wd}(h:core p≠[]):opd p≠[]:=fun e=>h (by unfold core;rw[e];rfl)
theorem ptok_cons(p:Wd):ptok (40::p)=kL::ptok p:=by
 have:=opd_le p
 unfold ptok
 rw[opd_cons,core_cons,List.length_cons,Nat.succ_sub this,List.replicate_succ]
 rfl
theorem ptok_snoc{p:Wd}(h:core p≠[]):ptok (p++[41])=ptok p++[kR]:=by
 have h2:=core_opd h
 have:=core_le p
 unfold ptok
 rw[core_snoc h2,opd_app h2,List.length_append,List.length_append,show p.length+[41].length-((opd p).length+[41].length)=p.length-(opd p).length by simp,show(opd p).length+[41].length-(core p).length=(opd p).length-(core p).length+1 by simp;omega,List.replicate_succ']
 simp
theorem core_self{p:Wd}(h1:p.head?≠some 40)(h2:p.getLast?≠some 41):core p=p:=by
 have e1:opd p=p:=by
  cases p with
  | nil=>rfl
  | cons a r=>
   have:a≠40:=fun e=>h1 (by rw[e];rfl)
   simp[opd,List.dropWhile_cons,this]
 unfold core
 rw[e1]
 cases e:p.reverse with
 | nil=>rw[List.dropWhile_nil];rw[List.reverse_eq_nil_iff.mp e];rfl
 | cons a r=>
  have:a≠41:=fun z=>h2 (by rw[List.getLast?_eq_head?_reverse,e,z];rfl)
  have e2:(a::r).dropWhile (· ==41)=a::r:=by simp[List.dropWhile_cons,this]
  rw[e2,←e,List.reverse_reverse]
theorem ptok_self{p:Wd}(h1:p.head?≠some 40)(h2:p.getLast?≠some 41):ptok p=[p]:=by
 have e1:opd p=p:=by
  cases p with
  | nil=>rfl
  | cons a r=>
   have:a≠40:=fun e=>h1 (by rw[e];rfl)
   simp[opd,List.dropWhile_cons,this]
 unfold ptok
 rw[core_self h1 h2,e1]
 simp
theorem core_mid{u v:Wd}{c a b:Nat}(ha:a∈u)(a0:a≠40)(hb:b∈v)(b0:b≠41):c∈core (u++c::v):=by
 have ou:opd u≠[]:=by
  intro e
  have:=dw_split 40 u
  rw[show u.dropWhile (· ==40)=opd u from rfl,e,List.append_nil] at this
  rw[this] at ha
  exact a0 (List.eq_of_mem_replicate ha)
 unfold core
 rw[opd_app ou,List.reverse_append,List.reverse_cons]
 have ov:v.reverse.dropWhile (· ==41)≠[]:=by
  intro e
  have:=dw_split 41 v.reverse
  rw[e,List.append_nil] at this
  have hb2:b∈v.reverse:=List.mem_reverse.mpr hb
  rw[this] at hb2
  exact b0 (List.eq_of_mem_replicate hb2)
 have gen:∀(x y:Wd),x.dropWhile (· ==41)≠[]→(x++y).dropWhile (· ==41)=x.dropWhile (· ==41)++y:=fun x y h=>by
  induction x with
  | nil=>exact absurd rfl h
  | cons z x ih=>
   by_cases e:z=41
   ·subst e
    simp only[List.cons_append,List.dropWhile_cons,beq_self_eq_true,if_true] at*
    exact ih h
   ·simp[List.dropWhile_cons,e]
 rw[List.append_assoc,gen _ _ ov]
 simp
instance (w:Wd):Decidable (Plain w):=by unfold Plain;infer_instance
def Bd(p q:Wd):Prop:=core (p++q)≠[]∧¬Plain (core (p++q))∧(p=kSun→nameB (core (p++q))=false)
def Nq(p q:Wd):Prop:=Bd p q∧(core p=kDate→q=kSun)
theorem bd_mid{p q:Wd}{c:Nat}(h:c∈core (p++q))(hc:gs c=false)(h1:core (p++q)≠kL)(h2:core (p++q)≠kR):Bd p q:=by
 have n:(core (p++q)).all gs≠true:=fun z=>by
  have:=List.all_eq_true.mp z c h
  rw[hc] at this
  cases this
 refine⟨(fun e=>by rw[e] at h;cases h),fun z=>n (plain_gs z h1 h2),fun _=>?_⟩
 cases e:nameB (core (p++q)) with
 | false=>rfl
 | true=>exact absurd (name_gs e) n
theorem core_nb(p:Wd):core p≠kL∧core p≠kR:=⟨fun e=>core_head p (by rw[e];rfl),fun e=>core_last p (by rw[e];rfl)⟩
theorem bd_end{p q:Wd}{a b:Nat}(ha:a∈p)(a0:a≠40)(hb:b∈q)(b0:b≠41):Bd (p++[41]) q:=by
 have:=core_mid (c:=41) ha a0 hb b0
 rw[show p++41::q=p++[41]++q by simp] at this
 exact bd_mid this (by decide) (core_nb _).1 (core_nb _).2
theorem bd_begin{p q:Wd}{a b:Nat}(ha:a∈p)(a0:a≠40)(hb:b∈q)(b0:b≠41):Bd p (40::q):=bd_mid (core_mid (c:=40) ha a0 hb b0) (by decide) (core_nb _).1 (core_nb _).2
theorem bd_cons{p q:Wd}(h:Bd p q):Bd (40::p) q:=by
 unfold Bd at*
 rw[List.cons_append,core_cons]
 exact⟨h.1,h.2.1,fun e=>by cases e⟩
theorem bd_snoc{p q:Wd}(h:Bd p q):Bd p (q++[41]):=by
 unfold Bd at*
 rw[←List.append_assoc,core_snoc (core_opd h.1)]
 exact h
theorem bd_num{p q:Wd}{c:Nat}{r:Wd}(hp:numB p=true)(hq:q=c::r)(hc:(decide (48≤c)&&decide (c≤57))=false)(h40:c≠40)(h41:q.getLast?≠some 41):Bd p q:=by
 have gp:=num_gs hp
 cases p with
 | nil=>exact absurd hp (by decide)
 | cons a p=>
  have ga:=List.all_eq_true.mp gp a List.mem_cons_self
  have a40:a≠40:=fun e=>by subst e;revert ga;decide
  have dig:a=45∨(48≤a∧a≤57):=by
   unfold numB at hp
   simp only[Bool.and_eq_true] at hp
   by_cases e:(a::p).head?=some 45
   ·injection e with e
    exact .inl e
   ·have hf:=hp.1.2
    rw[if_neg e] at hf
    have:=List.all_eq_true.mp hf a List.mem_cons_self
    simp at this
    exact .inr this
  have e:core (a::p++q)=a::p++q:=by
   refine core_self (fun z=>a40 (by injection z)) fun z=>h41 ?_
   rw[hq] at z ⊢
   rw[List.getLast?_append] at z
   simpa using z
  have nk:∀w∈kws,∀b,w.head?=some b→¬(b=45∨(48≤b∧b≤57)):=by decide
  refine⟨by rw[e];simp,fun z=>?_,fun z=>?_⟩
  ·rw[e] at z
   rcases z with z | z
   ·exact nk _ z a rfl dig
   ·unfold numB at z
    simp only[Bool.and_eq_true] at z
    have hf:=z.1.2
    have hm:c∈(if (a::p++q).head?=some 45 then (a::p++q).drop 1 else a::p++q):=by
     split
     ·simp[hq]
     ·simp[hq]
    have:=List.all_eq_true.mp hf c hm
    rw[hc] at this
    cases this
  ·injection z with z1 z2
   subst z1
   omega
theorem bd_let{p q:Wd}(hp:p∈kSun::kws.filter (fun w=>nameB w)){c:Nat}(hc:c∈q)(nl:(decide (97≤c)&&decide (c≤122))=false)(h41:q.getLast?≠some 41):Bd p q:=by
 have h1:∀w∈kSun::kws.filter (fun w=>nameB w),w.head?≠some 40∧w≠[]∧∀b,w.head?=some b→97≤b∧b≤122:=by decide
 obtain⟨a1,a2,a3⟩:=h1 p hp
 cases p with
 | nil=>exact absurd rfl a2
 | cons a p=>
  have la:=a3 a rfl
  have e:core (a::p++q)=a::p++q:=by
   refine core_self (fun z=>a1 z) fun z=>h41 ?_
   cases q with
   | nil=>cases hc
   | cons x r=>
    rw[List.getLast?_append] at z
    simpa using z
  have hm:c∈a::p++q:=List.mem_append_right _ hc
  have nn:nameB (a::p++q)=false:=by
   cases h:nameB (a::p++q) with
   | false=>rfl
   | true=>
    unfold nameB at h
    simp only[Bool.and_eq_true] at h
    have:=List.all_eq_true.mp h.2 c hm
    rw[nl] at this
    cases this
  refine⟨by rw[e];simp,fun z=>?_,fun _=>by rw[e];exact nn⟩
  rw[e] at z
  rcases z with z | z
  ·have:∀w∈kws,(∀b,w.head?=some b→97≤b∧b≤122)→nameB w=true:=by decide
   rw[this _ z (fun b hb=>by injection hb with hb;rw[←hb];exact la)] at nn
   cases nn
  ·unfold numB at z
   simp only[Bool.and_eq_true] at z
   have hf:=z.1.2
   rw[if_neg (fun e=>by injection e with e;omega)] at hf
   have:=List.all_eq_true.mp hf a List.mem_cons_self
   simp at this
   omega
end Fw
set_option linter.all false
namespace Fw
def Ch:List Wd→Prop
 | p::q::r=>Nq p q∧Ch (q::r)
 | _=>True
def Fs(p:Wd):Prop:=p∈[kAll,kNone,kEach,kDate]∨∃r,p=40::r∧∃b∈r,b≠41
def Ls(p:Wd):Prop:=core p≠kDate∧(p∈[kAll,kNone]∨numB p=true∨∃r,p=r++[41]∧∃a∈r,a≠40)
theorem Ch.app:∀{ps:List Wd} {p q:Wd} {r:List Wd},Ch (ps++[p])→Ch (q::r)→Nq p q→Ch (ps++p::q::r)
 | [],p,q,r,_,h,n=>⟨n,h⟩
 | [x],p,q,r,⟨a,_⟩,h,n=>⟨a,n,h⟩
 | x::y::z,p,q,r,⟨a,b⟩,h,n=>⟨a,Ch.app (ps:=y::z) b h n⟩
theorem nx_cons{p q:Wd}(h:Nq p q):Nq (40::p) q:=⟨bd_cons h.1,fun e=>h.2 (by rwa [core_cons] at e)⟩
theorem nx_snoc{p q:Wd}(h:Nq p q)(hd:core p≠kDate):Nq p (q++[41]):=⟨bd_snoc h.1,fun e=>absurd e hd⟩
theorem Ch.bA{ps:List Wd}(h:Ch ps):Ch (bA ps):=by
 match ps,h with
 | [],_=>trivial
 | [p],_=>trivial
 | p::q::r,⟨a,b⟩=>exact⟨nx_cons a,b⟩
structure Pre7(ps:List Wd):Prop where
 ne:ps≠[]
 bl:∀p∈ps,32∉p
 co:∀p∈ps,core p≠[]
 ch:Ch ps
 ba:(jn ps).count 40=(jn ps).count 41
structure Seq7(ps:List Wd):Prop extends Pre7 ps where
 ls:∀p,ps.getLast?=some p→Ls p
 ld:∀l p q,ps=l++[p,q]→core p≠kDate
structure Txt7(ps:List Wd):Prop extends Seq7 ps where
 fs:∀p,ps.head?=some p→Fs p
theorem ne_last{ps:List Wd}(h:ps≠[]):∃l p,ps=l++[p]:=⟨ps.dropLast,ps.getLast h,(List.dropLast_concat_getLast h).symm⟩
theorem Pre7.app{ps qs:List Wd}(A:Pre7 ps)(B:Pre7 qs)(n:∀p q,ps.getLast?=some p→qs.head?=some q→Nq p q):Pre7 (ps++qs):=by
 obtain⟨l,p,e⟩:=ne_last A.ne
 cases hq:qs with
 | nil=>exact absurd hq B.ne
 | cons q r=>
  have N:=n p q (by rw[e];simp) (by rw[hq];rfl)
  refine⟨by rw[e];simp,fun x hx=>?_,fun x hx=>?_,?_,?_⟩
  ·rcases List.mem_append.mp hx with h | h
   ·exact A.bl x h
   ·exact B.bl x (by rw[hq];exact h)
  ·rcases List.mem_append.mp hx with h | h
   ·exact A.co x h
   ·exact B.co x (by rw[hq];exact h)
  ·have:=Ch.app (ps:=l) (p:=p) (q:=q) (r:=r) (by rw[←e];exact A.ch) (by rw[←hq];exact B.ch) N
   rw[e]
   simpa using this
  ·rw[jn_app A.ne (by simp),List.count_append,List.count_append,List.count_cons,List.count_cons,A.ba,←hq,B.ba]
   simp
theorem Seq7.app{ps qs:List Wd}(A:Pre7 ps)(B:Seq7 qs)(n:∀p q,ps.getLast?=some p→qs.head?=some q→Nq p q)(hd:∀p,ps.getLast?=some p→core p≠kDate):Seq7 (ps++qs):=by
 refine⟨A.app B.toPre7 n,fun p hp=>B.ls p ?_,fun l p q e=>?_⟩
 ·obtain⟨m,y,ey⟩:=ne_last B.ne
  rw[ey,←List.append_assoc,List.getLast?_concat] at hp
  rw[ey,List.getLast?_concat]
  exact hp
 ·obtain⟨m,y,ey⟩:=ne_last B.ne
  rw[ey] at e
  rcases m.eq_nil_or_concat with rfl | ⟨m',x,rfl⟩
  ·have e2:ps++[y]=(l++[p])++[q]:=by simpa using e
   have:=List.append_inj_left' e2 rfl
   exact hd p (by rw[this];simp)
  ·have e2:(ps++m'++[x])++[y]=(l++[p])++[q]:=by simpa using e
   have e3:=List.append_inj_left' e2 rfl
   have e4:=List.append_inj_right' e3 rfl
   have e5:x=p:=by simpa using e4
   exact B.ld m' p y (by rw[ey,←e5];simp)
theorem core_in{p:Wd}(h:core p≠[]):(∃a∈p,a≠40)∧(∃b∈p,b≠41):=by
 have sub:∀c∈core p,c∈p:=fun c hc=>by rw[pc_eq p];simp[hc]
 constructor
 ·cases e:core p with
  | nil=>exact absurd e h
  | cons a r=>exact⟨a,sub a (by rw[e];exact List.mem_cons_self),fun z=>core_head p (by rw[e,z];rfl)⟩
 ·obtain⟨l,b,e⟩:=(⟨(core p).dropLast,(core p).getLast h,(List.dropLast_concat_getLast h).symm⟩:∃l b,core p=l++[b])
  exact⟨b,sub b (by rw[e];simp),fun z=>core_last p (by rw[e,z];simp)⟩
theorem Ch.bB:∀{ps:List Wd},Ch ps→(∀l p q,ps=l++[p,q]→core p≠kDate)→Ch (bB ps)
 | [],_,_=>trivial
 | [p],_,_=>trivial
 | [p,q],⟨a,_⟩,h=>⟨nx_snoc a (h [] p q rfl),trivial⟩
 | p::q::x::r,⟨a,b⟩,h=>⟨a,Ch.bB (ps:=q::x::r) b fun l y z e=>h (p::l) y z (by rw[e];rfl)⟩
theorem bB_last{l:List Wd}{p:Wd}:bB (l++[p])=l++[p++[41]]:=bB_app l (by simp)
theorem Seq7.wrap{ps:List Wd}(S:Seq7 ps)(two:2≤ps.length):Txt7 (Fw.bB (Fw.bA ps)):=by
 match ps,S,two with
 | f::y::r,S,_=>
  obtain⟨l,p,e⟩:=ne_last (ps:=y::r) (by simp)
  have E:Fw.bB (Fw.bA (f::y::r))=(40::f)::(l++[p++[41]]):=by
   show(40::f)::Fw.bB (y::r)=_
   rw[e,bB_last]
  have eps:f::y::r=(f::l)++[p]:=by rw[e];rfl
  have pm:p∈f::y::r:=by rw[eps];simp
  have pc:=S.co p pm
  have fc:=S.co f List.mem_cons_self
  have chA:Ch (Fw.bA (f::y::r)):=S.ch.bA
  refine⟨⟨⟨by rw[E];simp,fun x hx=>?_,fun x hx=>?_,Ch.bB chA fun l' x z e'=>?_,?_⟩,fun x hx=>?_,fun l' x z e'=>?_⟩,fun x hx=>?_⟩
  ·rw[E] at hx
   rcases List.mem_cons.mp hx with h | h
   ·rw[h]
    intro z
    rcases List.mem_cons.mp z with z | z
    ·cases z
    ·exact S.bl f List.mem_cons_self z
   ·rcases List.mem_append.mp h with h | h
    ·exact S.bl x (by rw[eps];simp[h])
    ·rw[List.mem_singleton.mp h]
     intro z
     rcases List.mem_append.mp z with z | z
     ·exact S.bl p pm z
     ·cases List.mem_singleton.mp z
  ·rw[E] at hx
   rcases List.mem_cons.mp hx with h | h
   ·rw[h,core_cons];exact fc
   ·rcases List.mem_append.mp h with h | h
    ·exact S.co x (by rw[eps];simp[h])
    ·rw[List.mem_singleton.mp h,core_snoc (core_opd pc)];exact pc
  ·cases l' with
   | nil=>
    injection e' with e1 e2
    rw[←e1,core_cons]
    exact S.ld [] f z (by rw[e2];rfl)
   | cons x' l'=>
    injection e' with e1 e2
    exact S.ld (f::l') x z (by rw[e2];rfl)
  ·rw[jn_bB (bA_ne (by simp)),jn_bA (by simp),List.count_append,List.count_append,List.count_cons,List.count_cons,S.ba]
   simp
  ·rw[E] at hx
   have:x=p++[41]:=by
    rw[show (40::f)::(l++[p++[41]])=((40::f)::l)++[p++[41]] by simp,List.getLast?_concat] at hx
    injection hx with hx
    exact hx.symm
   have lp:=S.ls p (by rw[eps,List.getLast?_concat])
   rw[this]
   refine⟨by rw[core_snoc (core_opd pc)];exact lp.1,.inr (.inr ⟨p,rfl,(core_in pc).1⟩)⟩
  ·rw[E] at e'
   cases l' with
   | nil=>
    injection e' with e1 e2
    rw[←e1,core_cons]
    rcases l.eq_nil_or_concat with rfl | ⟨m,u,rfl⟩
    ·exact S.ld [] f p (by rw[eps];rfl)
    ·exfalso
     have:=congrArg List.length e2
     simp at this
   | cons x' l'=>
    injection e' with e1 e2
    rcases l.eq_nil_or_concat with rfl | ⟨m,u,rfl⟩
    ·exfalso
     have:=congrArg List.length e2
     simp at this
    ·have e3:(m++[u])++[p++[41]]=(l'++[x])++[z]:=by simpa using e2
     have e4:=List.append_inj_right' (List.append_inj_left' e3 rfl) rfl
     have e5:u=x:=by simpa using e4
     exact S.ld (f::m) x p (by rw[eps,←e5];simp)
  ·rw[E] at hx
   injection hx with hx
   exact .inr ⟨f,hx.symm,(core_in fc).2⟩
def pWords:List Wd:=pairWs++[kFrom]
def bWords:List Wd:=pairWs++[kFrom,kOf,kLater,kNot]
theorem kw_fine:∀w∈bWords++[kEvery],32∉w∧core w=w∧w≠[]∧w.head?≠some 40∧w.getLast?≠some 41∧w≠kDate∧(∃a∈w,a≠40)∧(∃a∈w,a≠41)∧w.count 40=0∧w.count 41=0:=by decide
theorem num_core{p:Wd}(h:numB p=true):core p=p∧core p≠kDate∧32∉p∧p≠[]∧p.count 40=0∧p.count 41=0:=by
 have g:=num_gs h
 have n:∀c,gs c=false→c∉p:=fun c hc hm=>by
  have:=List.all_eq_true.mp g c hm
  rw[hc] at this
  cases this
 have e:core p=p:=core_self (fun z=>n 40 (by decide) (List.mem_of_mem_head? z)) (fun z=>n 41 (by decide) (List.mem_of_getLast? z))
 refine⟨e,(fun z=>by rw[e] at z;subst z;revert h;decide),n 32 (by decide),(fun z=>by subst z;revert h;decide),List.count_eq_zero.mpr (n 40 (by decide)),List.count_eq_zero.mpr (n 41 (by decide))⟩
theorem nx_word{p w:Wd}(h:Ls p)(hw:w∈pWords):Nq p w:=by
 refine⟨?_,fun e=>absurd e h.1⟩
 rcases h.2 with h | h | ⟨r,rfl,a,ha,a0⟩
 ·have:∀p∈[kAll,kNone],∀w∈pWords,core (p++w)≠[]∧¬Plain (core (p++w))∧p≠kSun:=by decide
  obtain⟨h1,h2,h3⟩:=this p h w hw
  exact⟨h1,h2,fun e=>absurd e h3⟩
 ·have hwc:∀w∈pWords,∃c r,w=c::r∧(decide (48≤c)&&decide (c≤57))=false∧c≠40∧w.getLast?≠some 41:=by
   intro w hw
   have:∀w∈pWords,(decide (48≤w.headD 0)&&decide (w.headD 0≤57))=false∧w.headD 0≠40∧w.getLast?≠some 41∧w≠[]:=by decide
   obtain⟨a,b,c,d⟩:=this w hw
   cases w with
   | nil=>exact absurd rfl d
   | cons x r=>exact⟨x,r,rfl,a,b,c⟩
  obtain⟨c,r,e,h1,h2,h3⟩:=hwc w hw
  exact bd_num h e h1 h2 h3
 ·have:∀w∈pWords,∃b∈w,b≠41:=by decide
  obtain⟨b,hb,b0⟩:=this w hw
  exact bd_end ha a0 hb b0
theorem nx_first{w p:Wd}(hw:w∈bWords)(h:Fs p):Nq w p:=by
 have k:=kw_fine w (List.mem_append_left _ hw)
 refine⟨?_,fun e=>absurd (k.2.1.symm.trans e) k.2.2.2.2.2.1⟩
 rcases h with h | ⟨r,rfl,b,hb,b0⟩
 ·have:∀w∈bWords,∀p∈[kAll,kNone,kEach,kDate],core (w++p)≠[]∧¬Plain (core (w++p))∧w≠kSun:=by decide
  obtain⟨h1,h2,h3⟩:=this w hw p h
  exact⟨h1,h2,fun e=>absurd e h3⟩
 ·obtain⟨a,ha,a0⟩:=k.2.2.2.2.2.2.1
  exact bd_begin ha a0 hb b0
theorem pre_word{w:Wd}(hw:w∈bWords++[kEvery]):Pre7 [w]:=by
 have k:=kw_fine w hw
 refine⟨by simp,fun p hp=>by rw[List.mem_singleton.mp hp];exact k.1,fun p hp=>by rw[List.mem_singleton.mp hp,k.2.1];exact k.2.2.1,trivial,?_⟩
 show w.count 40=w.count 41
 rw[k.2.2.2.2.2.2.2.2.1,k.2.2.2.2.2.2.2.2.2]
theorem pre_num{w:Wd}(h:numB w=true):Pre7 [w]:=by
 have k:=num_core h
 refine⟨by simp,fun p hp=>by rw[List.mem_singleton.mp hp];exact k.2.2.1,fun p hp=>by rw[List.mem_singleton.mp hp,k.1];exact k.2.2.2.1,trivial,?_⟩
 show w.count 40=w.count 41
 rw[k.2.2.2.2.1,k.2.2.2.2.2]
theorem seq_num{w:Wd}(h:numB w=true):Seq7 [w]:=⟨pre_num h,fun p hp=>by injection hp with hp;subst hp;exact⟨(num_core h).2.1,.inr (.inl h)⟩,fun l p q e=>by have:=congrArg List.length e;simp at this⟩
theorem nx_num{p w:Wd}(h:numB p=true)(hw:w∈[kLater,kOf,kFrom]):Nq p w:=by
 have:∀w∈[kLater,kOf,kFrom],∃c r,w=c::r∧(decide (48≤c)&&decide (c≤57))=false∧c≠40∧w.getLast?≠some 41:=by
  intro w hw
  have:∀w∈[kLater,kOf,kFrom],(decide (48≤w.headD 0)&&decide (w.headD 0≤57))=false∧w.headD 0≠40∧w.getLast?≠some 41∧w≠[]:=by decide
  obtain⟨a,b,c,d⟩:=this w hw
  cases w with
  | nil=>exact absurd rfl d
  | cons x r=>exact⟨x,r,rfl,a,b,c⟩
 obtain⟨c,r,e,h1,h2,h3⟩:=this w hw
 exact⟨bd_num h e h1 h2 h3,fun e=>absurd e (num_core h).2.1⟩
theorem nx_let{p w:Wd}(hp:p∈[kFrom,kEach,kEvery,kSun])(h:numB w=true):Nq p w:=by
 have g:=num_gs h
 have hw:∃c∈w,(decide (97≤c)&&decide (c≤122))=false:=by
  cases w with
  | nil=>revert h;decide
  | cons a r=>
   refine⟨a,List.mem_cons_self,?_⟩
   unfold numB at h
   simp only[Bool.and_eq_true] at h
   by_cases e:(a::r).head?=some 45
   ·injection e with e
    subst e
    decide
   ·have hf:=h.1.2
    rw[if_neg e] at hf
    have:=List.all_eq_true.mp hf a List.mem_cons_self
    simp at this
    simp
    omega
 obtain⟨c,hc,nl⟩:=hw
 have l41:w.getLast?≠some 41:=fun z=>by
  have:=List.all_eq_true.mp g 41 (List.mem_of_getLast? z)
  revert this
  decide
 have pm:∀p∈[kFrom,kEach,kEvery,kSun],p∈kSun::kws.filter (fun w=>nameB w):=by decide
 have pd:∀p∈[kFrom,kEach,kEvery,kSun],core p≠kDate:=by decide
 exact⟨bd_let (pm p hp) hc nl l41,fun e=>absurd e (pd p hp)⟩
theorem t7_word{w:Wd}(h:w∈[kAll,kNone]):Txt7 [w]:=by
 have:∀w∈[kAll,kNone],32∉w∧core w≠[]∧core w≠kDate∧w.count 40=w.count 41∧w∈[kAll,kNone,kEach,kDate]:=by decide
 obtain⟨a,b,c,d,e⟩:=this w h
 exact⟨⟨⟨by simp,fun p hp=>by rw[List.mem_singleton.mp hp];exact a,fun p hp=>by rw[List.mem_singleton.mp hp];exact b,trivial,d⟩,fun p hp=>by injection hp with hp;subst hp;exact⟨c,.inl h⟩,fun l p q e=>by have:=congrArg List.length e;simp at this⟩,fun p hp=>by injection hp with hp;subst hp;exact .inl e⟩
theorem t7_each{n m:Wd}(hn:numB n=true)(hm:numB m=true):Txt7 [kEach,n,kFrom,m]:=by
 have A:Pre7 [kEach]:=⟨by simp,by decide,by decide,trivial,by decide⟩
 have B:=A.app (pre_num hn) (fun p q hp hq=>by injection hp with hp;injection hq with hq;subst hp hq;exact nx_let (by decide) hn)
 have C:=B.app (pre_word (w:=kFrom) (by decide)) (fun p q hp hq=>by injection hq with hq;have hp:some n=some p:=hp;injection hp with hp;subst hp hq;exact nx_num hn (by decide))
 refine⟨Seq7.app C (seq_num hm) (fun p q hp hq=>by have hp:some kFrom=some p:=hp;injection hp with hp;injection hq with hq;subst hp hq;exact nx_let (by decide) hm) (fun p hp=>by have hp:some kFrom=some p:=hp;injection hp with hp;subst hp;decide),fun p hp=>by injection hp with hp;subst hp;exact .inl (by decide)⟩
end Fw
set_option linter.all false
namespace Fw
def k1:Wd:=[49]
def k2:Wd:=[50]
def kM3:Wd:=[45,51]
def date2:List Wd:=[kDate,kSun,kStar,kM3]
theorem pre1{w:Wd}(h1:32∉w)(h2:core w≠[])(h3:w.count 40=w.count 41):Pre7 [w]:=⟨by simp,fun p hp=>by rw[List.mem_singleton.mp hp];exact h1,fun p hp=>by rw[List.mem_singleton.mp hp];exact h2,trivial,h3⟩
theorem last1{ps:List Wd}{w p:Wd}(h:(ps++[w]).getLast?=some p):w=p:=by rw[List.getLast?_concat] at h;injection h
theorem last0{w p:Wd}(h:[w].getLast?=some p):w=p:=by injection h
theorem head1{ps:List Wd}{w p:Wd}(h:(w::ps).head?=some p):w=p:=by injection h
theorem nx_ds:Nq kDate kSun:=⟨⟨by decide,by decide,fun e=>absurd e (by decide)⟩,fun _=>rfl⟩
theorem nx_s(w:Wd)(h:w=k1∨w=kStar):Nq kSun w:=by
 rcases h with rfl | rfl
 ·exact nx_let (by decide) (by decide)
 ·exact⟨bd_let (by decide) (c:=42) (by decide) (by decide) (by decide),fun e=>absurd e (by decide)⟩
theorem pre_ds:Pre7 [kDate,kSun]:=(pre1 (w:=kDate) (by decide) (by decide) (by decide)).app (pre1 (w:=kSun) (by decide) (by decide) (by decide)) fun p q hp hq=>by
 obtain rfl:=last0 hp
 obtain rfl:=head1 hq
 exact nx_ds
theorem t7_date2:Txt7 date2:=by
 have A:=pre_ds.app (pre1 (w:=kStar) (by decide) (by decide) (by decide)) fun p q hp hq=>by
  obtain rfl:=last1 (ps:=[kDate]) hp
  obtain rfl:=head1 hq
  exact nx_s _ (.inr rfl)
 exact⟨Seq7.app A (seq_num (w:=kM3) (by decide)) (fun p q hp hq=>by
  obtain rfl:=last1 (ps:=[kDate,kSun]) hp
  obtain rfl:=head1 hq
  exact⟨⟨by decide,by decide,fun e=>absurd e (by decide)⟩,fun e=>absurd e (by decide)⟩) (fun p hp=>by obtain rfl:=last1 (ps:=[kDate,kSun]) hp;decide),fun p hp=>by obtain rfl:=head1 hp;exact .inl (by decide)⟩
theorem t7_date1{n:Wd}(hn:numB n=true):Txt7 [kDate,kSun,k1,kStar,kEach,k2,kFrom,n]:=by
 have A:=pre_ds.app (pre_num (w:=k1) (by decide)) fun p q hp hq=>by
  obtain rfl:=last1 (ps:=[kDate]) hp
  obtain rfl:=head1 hq
  exact nx_s _ (.inl rfl)
 have B:=A.app (pre1 (w:=kStar) (by decide) (by decide) (by decide)) fun p q hp hq=>by
  obtain rfl:=last1 (ps:=[kDate,kSun]) hp
  obtain rfl:=head1 hq
  exact⟨bd_num (by decide) rfl (by decide) (by decide) (by decide),fun e=>absurd e (by decide)⟩
 exact⟨Seq7.app B (t7_each (n:=k2) (by decide) hn).toSeq7 (fun p q hp hq=>by
  obtain rfl:=last1 (ps:=[kDate,kSun,k1]) hp
  obtain rfl:=head1 hq
  exact⟨⟨by decide,by decide,fun e=>absurd e (by decide)⟩,fun e=>absurd e (by decide)⟩) (fun p hp=>by obtain rfl:=last1 (ps:=[kDate,kSun,k1]) hp;decide),fun p hp=>by obtain rfl:=head1 hp;exact .inl (by decide)⟩
theorem seq_word{w:Wd}{ps:List Wd}(hw:w∈bWords)(T:Txt7 ps):Seq7 (w::ps):=by
 have k:=kw_fine w (List.mem_append_left _ hw)
 exact Seq7.app (ps:=[w]) (pre_word (List.mem_append_left _ hw)) T.toSeq7 (fun p q hp hq=>by obtain rfl:=last0 hp;exact nx_first hw (T.fs q hq)) (fun p hp=>by obtain rfl:=last0 hp;rw[k.2.1];exact k.2.2.2.2.2.1)
theorem seq_mid{w:Wd}{ps qs:List Wd}(hw:w∈pWords)(T:Txt7 ps)(S:Seq7 (w::qs)):Seq7 (ps++w::qs):=
 Seq7.app T.toPre7 S (fun p q hp hq=>by obtain rfl:=head1 hq;exact nx_word (T.ls p hp) hw) (fun p hp=>(T.ls p hp).1)
theorem seq_lead{w:Wd}{n:Wd}{qs:List Wd}(hn:numB n=true)(hw:w∈[kLater,kOf,kFrom])(S:Seq7 (w::qs)):Seq7 (n::w::qs):=
 Seq7.app (ps:=[n]) (pre_num hn) S (fun p q hp hq=>by obtain rfl:=last0 hp;obtain rfl:=head1 hq;exact nx_num hn hw) (fun p hp=>by obtain rfl:=last0 hp;exact(num_core hn).2.1)
theorem pair_b:∀w∈pairWs,w∈bWords∧w∈pWords∧w≠kEach:=by decide
theorem t7_pair{w:Wd}{ps qs:List Wd}(hw:w∈pairWs)(T:Txt7 ps)(L:Txt7 qs):Txt7 (bB (bA (ps++w::qs))):=
 (seq_mid (pair_b w hw).2.1 T (seq_word (pair_b w hw).1 L)).wrap (by
  have h1:=List.length_pos_iff.mpr T.ne
  have h2:=List.length_pos_iff.mpr L.ne
  simp;omega)
theorem t7_not{ps:List Wd}(T:Txt7 ps):Txt7 (bB (bA (kNot::ps))):=(seq_word (by decide) T).wrap (by
 have h1:=List.length_pos_iff.mpr T.ne
 simp;omega)
theorem t7_later{n:Wd}{ps:List Wd}(hn:numB n=true)(T:Txt7 ps):Txt7 (bB (bA (n::kLater::ps))):=(seq_lead hn (by decide) (seq_word (by decide) T)).wrap (by simp)
theorem t7_nth{n:Wd}{ps qs:List Wd}(hn:numB n=true)(T:Txt7 ps)(L:Txt7 qs):Txt7 (bB (bA (n::kOf::(ps++kFrom::qs)))):=by
 have S:=seq_mid (w:=kFrom) (by decide) T (seq_word (by decide) L)
 have S2:Seq7 (kOf::(ps++kFrom::qs)):=Seq7.app (ps:=[kOf]) (pre_word (by decide)) S (fun p q hp hq=>by
  obtain rfl:=last0 hp
  refine nx_first (by decide) (T.fs q ?_)
  cases h:ps with
  | nil=>exact absurd h T.ne
  | cons a r=>rw[h] at hq;exact hq) (fun p hp=>by obtain rfl:=last0 hp;decide)
 exact(seq_lead hn (by decide) S2).wrap (by simp)
theorem t7_every{n:Wd}{ps:List Wd}(hn:numB n=true)(T:Txt7 ps):Txt7 (bB (bA (kEvery::k2::kOf::(ps++[kFrom,n])))):=by
 have S0:Seq7 [kFrom,n]:=Seq7.app (ps:=[kFrom]) (pre_word (by decide)) (seq_num hn) (fun p q hp hq=>by obtain rfl:=last0 hp;obtain rfl:=head1 hq;exact nx_let (by decide) hn) (fun p hp=>by obtain rfl:=last0 hp;decide)
 have S:=seq_mid (w:=kFrom) (by decide) T S0
 have S2:Seq7 (kOf::(ps++[kFrom,n])):=Seq7.app (ps:=[kOf]) (pre_word (by decide)) S (fun p q hp hq=>by
  obtain rfl:=last0 hp
  refine nx_first (by decide) (T.fs q ?_)
  cases h:ps with
  | nil=>exact absurd h T.ne
  | cons a r=>rw[h] at hq;exact hq) (fun p hp=>by obtain rfl:=last0 hp;decide)
 have S3:=seq_lead (n:=k2) (by decide) (by decide) S2
 have S4:Seq7 (kEvery::k2::kOf::(ps++[kFrom,n])):=Seq7.app (ps:=[kEvery]) (pre_word (by decide)) S3 (fun p q hp hq=>by obtain rfl:=last0 hp;obtain rfl:=head1 hq;exact nx_let (by decide) (by decide)) (fun p hp=>by obtain rfl:=last0 hp;decide)
 exact S4.wrap (by simp)
section
variable{val:Wd→Int}
theorem not_red{T:Wd}(h:¬Red val T):readS val T=none:=by
 cases e:readS val T with
 | none=>rfl
 | some p=>exact absurd (red e) h
theorem sp_empty{T:Wd}(h:[]∈L2.spl 32 T):readS val T=none:=not_red fun R=>R.ne [] h rfl
theorem sp_count{T:Wd}(h:T.count 40≠T.count 41):readS val T=none:=not_red fun R=>h R.bal
theorem sp_sign{T:Wd}{c:Nat}(hc:c∈T)(h32:c≠32)(h40:c≠40)(h41:c≠41)(hg:gs c=false):readS val T=none:=not_red fun R=>by
 rcases R.sign hc with z | z | z | z
 ·exact h32 z
 ·exact h40 z
 ·exact h41 z
 ·rw[hg] at z
  cases z
theorem sq_split:∀{b:Bool} {A B:List Wd} {w:Wd},Sq b (A++w::B)→Plain w∨(nameB w=true∧((A=[]∧b=true)∨A.getLast?=some kDate))
 | b,[],B,w,⟨h,_⟩=>h.elim .inl fun z=>.inr ⟨z.2,.inl ⟨rfl,z.1⟩⟩
 | b,[x],B,w,⟨_,h⟩=>by
  rcases sq_split (A:=[]) h with z | ⟨z,y | y⟩
  ·exact .inl z
  ·exact .inr ⟨z,.inr (by rw[of_decide_eq_true y.2];rfl)⟩
  ·cases y
 | b,x::y::A,B,w,⟨_,h⟩=>by
  rcases sq_split (A:=y::A) h with z | ⟨z,v | v⟩
  ·exact .inl z
  ·cases v.1
  ·exact .inr ⟨z,.inr (by rw[List.getLast?_cons_cons];exact v)⟩
theorem ptok_last(p:Wd):(ptok p).getLast?=some (if (opd p).length-(core p).length=0 then core p else kR):=by
 unfold ptok
 split
 ·rename_i h
  rw[h]
  simp
 ·rename_i h
  obtain⟨k,e⟩:∃k,(opd p).length-(core p).length=k+1:=⟨(opd p).length-(core p).length-1,by omega⟩
  rw[e,List.replicate_succ',←List.append_assoc,List.getLast?_concat]
theorem sp_merge{l m:List Wd}{p q:Wd}(hb:∀x∈l++(p++q)::m,32∉x)(hB:Bd p q)(hd:∀x,l.getLast?=some x→core x=kDate→p=kSun):readS val (jn (l++(p++q)::m))=none:=not_red fun R=>by
 have es:L2.spl 32 (jn (l++(p++q)::m))=l++(p++q)::m:=by
  cases h:l++(p++q)::m with
  | nil=>simp at h
  | cons w ws=>exact spl_jn (by rw[←h];exact hb)
 have sq:=R.sq
 rw[es,List.flatMap_append,List.flatMap_cons] at sq
 have e2:l.flatMap ptok++(ptok (p++q)++m.flatMap ptok)=(l.flatMap ptok++List.replicate ((p++q).length-(opd (p++q)).length) kL)++core (p++q)::(List.replicate ((opd (p++q)).length-(core (p++q)).length) kR++m.flatMap ptok):=by
  unfold ptok
  simp
 rw[e2] at sq
 rcases sq_split sq with z | ⟨z,v | v⟩
 ·exact hB.2.1 z
 ·cases v.2
 ·cases hk:(p++q).length-(opd (p++q)).length with
  | zero=>
   rw[hk,List.replicate_zero,List.append_nil] at v
   rcases l.eq_nil_or_concat with rfl | ⟨l',x,rfl⟩
   ·cases v
   ·rw[List.concat_eq_append,List.flatMap_append,List.flatMap_cons,List.flatMap_nil,List.append_nil,List.getLast?_append,ptok_last] at v
    have hx:core x=kDate:=by
     split at v
     ·injection v
     ·exact absurd (show some kR=some kDate from v) (by decide)
    have:=hd x (by simp) hx
    rw[hB.2.2 this] at z
    cases z
  | succ k=>
   rw[hk,List.replicate_succ',←List.append_assoc,List.getLast?_concat] at v
   revert v
   decide
theorem Ch.pred:∀{l:List Wd} {p:Wd} {r:List Wd},Ch (l++p::r)→∀x,l.getLast?=some x→core x=kDate→p=kSun
 | [],p,r,_,x,h,_=>by cases h
 | [y],p,r,⟨a,_⟩,x,h,e=>by
  injection h with h
  subst h
  exact a.2 e
 | y::z::l,p,r,⟨_,b⟩,x,h,e=>Ch.pred (l:=z::l) b x (by rwa [List.getLast?_cons_cons] at h) e
theorem Ch.bd:∀{l:List Wd} {p q:Wd} {r:List Wd},Ch (l++p::q::r)→Nq p q
 | [],p,q,r,⟨a,_⟩=>a
 | [y],p,q,r,⟨_,a,_⟩=>a
 | y::z::l,p,q,r,⟨_,b⟩=>Ch.bd (l:=z::l) b
theorem jn_cut:∀{ps:List Wd},(∀p∈ps,32∉p)→∀{x y:Wd},jn ps=x++32::y→∃l p q m,ps=l++p::q::m∧x=jn (l++[p])∧y=jn (q::m)
 | [],_,x,y,h=>by
  have h:[]=x++32::y:=h
  cases x<;>cases h
 | [w],hb,x,y,h=>by
  have h:w=x++32::y:=h
  exact absurd (show 32∈w by rw[h];simp) (hb w List.mem_cons_self)
 | w::z::r,hb,x,y,h=>by
  have h:w++32::jn (z::r)=x++32::y:=h
  rcases List.append_eq_append_iff.mp h with ⟨u,e1,e2⟩ | ⟨u,e1,e2⟩
  ·cases u with
   | nil=>
    have e2:32::jn (z::r)=32::y:=e2
    injection e2 with _ e2
    exact⟨[],w,z,r,rfl,by rw[e1];simp;rfl,e2.symm⟩
   | cons a u=>
    have e2:32::jn (z::r)=a::(u++32::y):=e2
    injection e2 with e3 e4
    subst e3
    obtain⟨l,p,q,m,f1,f2,f3⟩:=jn_cut (fun p hp=>hb p (List.mem_cons_of_mem _ hp)) e4
    refine⟨w::l,p,q,m,by rw[f1];rfl,?_,f3⟩
    rw[e1,f2,List.cons_append,jn_cons (by simp)]
  ·cases u with
   | nil=>
    have e2:32::y=32::jn (z::r):=e2
    injection e2 with _ e2
    exact⟨[],w,z,r,rfl,by rw[e1];simp;rfl,e2⟩
   | cons a u=>
    have e2:32::y=a::(u++32::jn (z::r)):=e2
    injection e2 with e3 e4
    subst e3
    exact absurd (show 32∈w by rw[e1];simp) (hb w List.mem_cons_self)
theorem jn_join{l m:List Wd}{p q:Wd}:jn (l++[p])++jn (q::m)=jn (l++(p++q)::m):=by
 induction l with
 | nil=>
  cases m with
  | nil=>rfl
  | cons y m=>show p++(q++32::jn (y::m))=(p++q)++32::jn (y::m);simp
 | cons a l ih=>
  have e1:jn (a::(l++[p]))=a++32::jn (l++[p]):=jn_cons (by simp)
  have e2:jn (a::(l++(p++q)::m))=a++32::jn (l++(p++q)::m):=jn_cons (by simp)
  rw[List.cons_append,List.cons_append,e1,e2,←ih]
  simp
theorem sp_blank{ps:List Wd}(T:Txt7 ps){x y:Wd}(h:jn ps=x++32::y):readS val (x++y)=none:=by
 obtain⟨l,p,q,m,e,rfl,rfl⟩:=jn_cut T.bl h
 have ch:=T.ch
 rw[e] at ch
 rw[jn_join]
 refine sp_merge (fun z hz=>?_) ch.bd.1 ch.pred
 have hm:∀z∈l++p::q::m,32∉z:=fun z hz=>T.bl z (by rw[e];exact hz)
 rcases List.mem_append.mp hz with h | h
 ·exact hm z (by simp[h])
 ·rcases List.mem_cons.mp h with h | h
  ·rw[h]
   intro y
   rcases List.mem_append.mp y with y | y
   ·exact hm p (by simp) y
   ·exact hm q (by simp) y
  ·exact hm z (by simp[h])
theorem sp_tail{ps:List Wd}(T:Txt7 ps):readS val (jn ps++kAll)=none:=by
 obtain⟨l,p,e⟩:=ne_last T.ne
 have lp:=T.ls p (by rw[e,List.getLast?_concat])
 have ch:=T.ch
 rw[e] at ch ⊢
 have:=jn_join (l:=l) (m:=[]) (p:=p) (q:=kAll)
 rw[show jn (l++[p])++kAll=jn (l++[p])++jn [kAll] from rfl,this]
 refine sp_merge (fun z hz=>?_) ?_ ch.pred
 ·rcases List.mem_append.mp hz with h | h
  ·exact T.bl z (by rw[e];simp[h])
  ·rw[List.mem_singleton.mp h]
   intro y
   rcases List.mem_append.mp y with y | y
   ·exact T.bl p (by rw[e];simp) y
   ·revert y
    decide
 ·rcases lp.2 with h | h | ⟨r,rfl,a,ha,a0⟩
  ·have:∀p∈[kAll,kNone],core (p++kAll)≠[]∧¬Plain (core (p++kAll))∧p≠kSun:=by decide
   obtain⟨h1,h2,h3⟩:=this p h
   exact⟨h1,h2,fun e=>absurd e h3⟩
  ·exact bd_num h rfl (by decide) (by decide) (by decide)
  ·exact bd_end ha a0 (b:=97) (by decide) (by decide)
end
end Fw
set_option linter.all false
namespace Fw
section
variable{val:Wd→Int}
def tks(ps:List Wd):List Wd:=ps.flatMap ptok
structure Pr7(val:Wd→Int)(k:Nat)(ps:List Wd):Prop where
 hd:∃t r,tks ps=t::r∧t∈[kAll,kNone,kEach,kDate,kL]
 pe:∃p,∀d r,k≤d→r.head?≠some kEach→prs val d (tks ps++r)=some (p,r)
 pa:ps=date2∨∃p,∀d r,k≤d→prs val d (tks ps++r)=some (p,r)
theorem Pr7.of{k:Nat}{ps:List Wd}(hd:∃t r,tks ps=t::r∧t∈[kAll,kNone,kEach,kDate,kL]){p:Pl}(h:∀d r,k≤d→prs val d (tks ps++r)=some (p,r)):Pr7 val k ps:=⟨hd,⟨p,fun d r kd _=>h d r kd⟩,.inr ⟨p,h⟩⟩
theorem Pr7.mono{k m:Nat}{ps:List Wd}(P:Pr7 val k ps)(h:k≤m):Pr7 val m ps:=by
 obtain⟨p,hp⟩:=P.pe
 refine⟨P.hd,⟨p,fun d r kd g=>hp d r (by omega) g⟩,P.pa.elim .inl fun⟨q,hq⟩=>.inr ⟨q,fun d r kd=>hq d r (by omega)⟩⟩
theorem hd_ne{w:Wd}{r:List Wd}(h:w≠kEach):(w::r).head?≠some kEach:=fun z=>h (by injection z)
theorem tks_num{n:Wd}(h:numB n=true):ptok n=[n]:=by
 have g:=num_gs h
 have no:∀c,gs c=false→c∉n:=fun c hc hm=>by
  have:=List.all_eq_true.mp g c hm
  rw[hc] at this
  cases this
 exact ptok_self (fun z=>no 40 (by decide) (List.mem_of_mem_head? z)) (fun z=>no 41 (by decide) (List.mem_of_getLast? z))
theorem tks_cons{w:Wd}{ps:List Wd}(h:ptok w=[w]):tks (w::ps)=w::tks ps:=by
 unfold tks
 rw[List.flatMap_cons,h]
 rfl
theorem tks_app(ps qs:List Wd):tks (ps++qs)=tks ps++tks qs:=List.flatMap_append
theorem tks_wrap{ps:List Wd}(ne:ps≠[])(co:∀p∈ps,core p≠[]):tks (bB (bA ps))=kL::(tks ps++[kR]):=by
 match ps,ne with
 | [f],_=>
  show ptok ((40::f)++[41])++[]=kL::((ptok f++[])++[kR])
  rw[ptok_snoc (by rw[core_cons];exact co f List.mem_cons_self),ptok_cons]
  simp
 | f::y::r,_=>
  obtain⟨l,p,e⟩:=ne_last (ps:=y::r) (by simp)
  have E:bB (bA (f::y::r))=(40::f)::(l++[p++[41]]):=by
   show(40::f)::bB (y::r)=_
   rw[e,bB_last]
  rw[E,e]
  unfold tks
  rw[List.flatMap_cons,List.flatMap_append,List.flatMap_cons,List.flatMap_nil,List.flatMap_cons,List.flatMap_append,List.flatMap_cons,List.flatMap_nil,ptok_cons,ptok_snoc (co p (by rw[e];simp))]
  simp
theorem tkNum_ok{n:Wd}{r:List Wd}(h:numB n=true):tkNum val (n::r)=some (val n,r):=by simp only[tkNum,h,if_true]
theorem tkW_ok(x:Wd)(r:List Wd):tkW x (x::r)=some r:=by simp only[tkW,if_true]
theorem tkEach_ok{n m:Wd}{r:List Wd}(hn:numB n=true)(hm:numB m=true):tkEach val (n::kFrom::m::r)=some ((val n,val m),r):=by
 unfold tkEach
 rw[tkNum_ok hn]
 simp only[]
 rw[tkW_ok]
 simp only[]
 rw[tkNum_ok hm]
theorem p7_word{w:Wd}(h:w∈[kAll,kNone]):Pr7 val 1 [w]:=by
 have e:tks [w]=[w]:=by
  have:∀w∈[kAll,kNone],tks [w]=[w]:=by decide
  exact this w h
 refine .of (p:=.lf w) ⟨w,[],e,?_⟩ fun d r hd=>?_
 ·have:∀w∈[kAll,kNone],w∈[kAll,kNone,kEach,kDate,kL]:=by decide
  exact this w h
 ·obtain⟨d,rfl⟩:∃e,d=e+1:=⟨d-1,by omega⟩
  rw[e]
  show prs val (d+1) (w::r)=_
  simp only[prs]
  rw[if_pos (by simpa using h)]
theorem p7_each{n m:Wd}(hn:numB n=true)(hm:numB m=true):Pr7 val 1 [kEach,n,kFrom,m]:=by
 have e:tks [kEach,n,kFrom,m]=[kEach,n,kFrom,m]:=by
  rw[tks_cons (by decide),tks_cons (tks_num hn),tks_cons (by decide),tks_cons (tks_num hm)]
  rfl
 refine .of (p:=.each (val n) (val m)) ⟨_,_,e,by decide⟩ fun d r hd=>?_
 obtain⟨d,rfl⟩:∃e,d=e+1:=⟨d-1,by omega⟩
 rw[e]
 show(match tkEach val (n::kFrom::m::r) with | none=>none | some (y,r)=>some (Pl.each y.1 y.2,r))=_
 rw[tkEach_ok hn hm]
theorem p7_date1{n:Wd}(hn:numB n=true):Pr7 val 1 [kDate,kSun,k1,kStar,kEach,k2,kFrom,n]:=by
 have e:tks [kDate,kSun,k1,kStar,kEach,k2,kFrom,n]=[kDate,kSun,k1,kStar,kEach,k2,kFrom,n]:=by
  rw[tks_cons (by decide),tks_cons (by decide),tks_cons (by decide),tks_cons (by decide),tks_cons (by decide),tks_cons (by decide),tks_cons (by decide),tks_cons (tks_num hn)]
  rfl
 refine .of (p:=.date kSun (some (val k1)) none (val k2) (val n)) ⟨_,_,e,by decide⟩ fun d r hd=>?_
 obtain⟨d,rfl⟩:∃e,d=e+1:=⟨d-1,by omega⟩
 rw[e]
 have h:=tkEach_ok (val:=val) (n:=k2) (m:=n) (r:=r) (by decide) hn
 show(match tkEach val (k2::kFrom::n::r) with | none=>none | some (y,r)=>some (Pl.date kSun (some (val k1)) none y.1 y.2,r))=_
 rw[h]
theorem p7_date2:Pr7 val 1 date2:=by
 have e:tks date2=date2:=by decide
 refine⟨⟨_,_,e,by decide⟩,⟨.date kSun none (some (val kM3)) 1 0,fun d r hd hr=>?_⟩,.inl rfl⟩
 obtain⟨d,rfl⟩:∃e,d=e+1:=⟨d-1,by omega⟩
 rw[e]
 show(match tkYears val r with | none=>none | some (y,r)=>some (Pl.date kSun none (some (val kM3)) y.1 y.2,r))=_
 cases r with
 | nil=>rfl
 | cons w r=>
  have:tkYears val (w::r)=some ((1,0),w::r):=by
   simp only[tkYears]
   rw[if_neg (fun z=>hr (by rw[z];rfl))]
  rw[this]
theorem within_pair{P:List Wd→Option (Pl×List Wd)}{t:Wd}{r:List Wd}(h:t∈[kAll,kNone,kEach,kDate,kL]):tkWithin val P (t::r)=tkPair P (t::r):=by
 have:∀t∈[kAll,kNone,kEach,kDate,kL],t≠kNot∧t≠kEvery∧numB t≠true:=by decide
 obtain⟨a,b,c⟩:=this t h
 simp only[tkWithin]
 rw[if_neg a,if_neg b,if_neg c]
theorem prs_kL(d:Nat)(r:List Wd):prs val (d+1) (kL::r)=(match tkWithin val (prs val d) r with | none=>none | some (p,r)=>match tkW kR r with | none=>none | some r=>some (p,r)):=rfl
theorem prs_wrap{d:Nat}{xs r:List Wd}{p:Pl}(h:tkWithin val (prs val d) (xs++kR::r)=some (p,kR::r)):prs val (d+1) (kL::(xs++[kR])++r)=some (p,r):=by
 have e:kL::(xs++[kR])++r=kL::(xs++kR::r):=by simp
 rw[e,prs_kL,h]
 simp only[]
 rw[tkW_ok]
theorem p7_wrap{ps:List Wd}(ne:ps≠[])(co:∀p∈ps,core p≠[]){k:Nat}{p:Pl}(h:∀d r,k≤d→tkWithin val (prs val d) (tks ps++kR::r)=some (p,kR::r)):Pr7 val (k+1) (bB (bA ps)):=by
 have e:=tks_wrap ne co
 refine .of (p:=p) ⟨_,_,e,by decide⟩ fun d r hd=>?_
 obtain⟨d,rfl⟩:∃e,d=e+1:=⟨d-1,by omega⟩
 rw[e]
 exact prs_wrap (h d r (by omega))
theorem p7_pair{w:Wd}{ps qs:List Wd}{k:Nat}(hw:w∈pairWs)(A:Pr7 val k ps)(B:Pr7 val k qs)(co:∀p∈ps++w::qs,core p≠[]):Pr7 val (k+1) (bB (bA (ps++w::qs))):=by
 obtain⟨p,hp⟩:=A.pe
 obtain⟨q,hq⟩:=B.pe
 obtain⟨t,u,et,ht⟩:=A.hd
 refine p7_wrap (p:=.pair w p q) (by simp) co fun d r hd=>?_
 have e:tks (ps++w::qs)++kR::r=tks ps++w::(tks qs++kR::r):=by
  rw[tks_app,tks_cons ((show ∀w∈pairWs,ptok w=[w] by decide) w hw)]
  simp
 rw[e]
 have e2:tks ps++w::(tks qs++kR::r)=t::(u++w::(tks qs++kR::r)):=by rw[et];rfl
 rw[e2,within_pair ht,←e2]
 unfold tkPair
 rw[hp d _ hd (fun z=>(pair_b w hw).2.2 (by injection z))]
 simp only[hw,if_true]
 rw[hq d (kR::r) hd (hd_ne (by decide))]
theorem p7_not{ps:List Wd}{k:Nat}(A:Pr7 val k ps)(co:∀p∈kNot::ps,core p≠[]):Pr7 val (k+1) (bB (bA (kNot::ps))):=by
 obtain⟨p,hp⟩:=A.pe
 refine p7_wrap (p:=.not p) (by simp) co fun d r hd=>?_
 rw[tks_cons (by decide),List.cons_append]
 show(match prs val d (tks ps++kR::r) with | none=>none | some (p,r)=>some (Pl.not p,r))=_
 rw[hp d (kR::r) hd (hd_ne (by decide))]
theorem num_head{n:Wd}(hn:numB n=true):n≠kNot∧n≠kEvery:=⟨fun e=>by subst e;revert hn;decide,fun e=>by subst e;revert hn;decide⟩
theorem within_num{P:List Wd→Option (Pl×List Wd)}{n:Wd}{r:List Wd}(hn:numB n=true):tkWithin val P (n::r)=tkNumbered val P (n::r):=by
 simp only[tkWithin]
 rw[if_neg (num_head hn).1,if_neg (num_head hn).2,if_pos hn]
theorem p7_later{n:Wd}{ps:List Wd}{k:Nat}(hn:numB n=true)(A:Pr7 val k ps)(co:∀p∈n::kLater::ps,core p≠[]):Pr7 val (k+1) (bB (bA (n::kLater::ps))):=by
 obtain⟨p,hp⟩:=A.pe
 refine p7_wrap (p:=.later (val n) p) (by simp) co fun d r hd=>?_
 rw[tks_cons (tks_num hn),tks_cons (by decide),List.cons_append,List.cons_append,within_num hn]
 unfold tkNumbered
 rw[tkNum_ok hn]
 show(match prs val d (tks ps++kR::r) with | none=>none | some (p,r)=>some (Pl.later (val n) p,r))=_
 rw[hp d (kR::r) hd (hd_ne (by decide))]
theorem p7_nth{n:Wd}{ps qs:List Wd}{k:Nat}(hn:numB n=true)(A:Pr7 val k ps)(B:Pr7 val k qs)(co:∀p∈n::kOf::(ps++kFrom::qs),core p≠[]):Pr7 val (k+1) (bB (bA (n::kOf::(ps++kFrom::qs)))):=by
 obtain⟨p,hp⟩:=A.pe
 obtain⟨q,hq⟩:=B.pe
 refine p7_wrap (p:=.nth (val n) p q) (by simp) co fun d r hd=>?_
 rw[tks_cons (tks_num hn),tks_cons (by decide),tks_app,tks_cons (by decide),List.cons_append,List.cons_append,within_num hn]
 unfold tkNumbered
 rw[tkNum_ok hn]
 have e:tks ps++kFrom::tks qs++kR::r=tks ps++kFrom::(tks qs++kR::r):=by simp
 rw[e]
 show(match prs val d (tks ps++kFrom::(tks qs++kR::r)) with | none=>none | some (p,r)=>match tkW kFrom r with | none=>none | some r=>match prs val d r with | none=>none | some (q,r)=>some (Pl.nth (val n) p q,r))=_
 rw[hp d _ hd (hd_ne (by decide))]
 simp only[]
 rw[tkW_ok]
 simp only[]
 rw[hq d (kR::r) hd (hd_ne (by decide))]
theorem p7_every{n:Wd}{ps:List Wd}{k:Nat}(hn:numB n=true)(A:Pr7 val k ps)(co:∀p∈kEvery::k2::kOf::(ps++[kFrom,n]),core p≠[]):Pr7 val (k+1) (bB (bA (kEvery::k2::kOf::(ps++[kFrom,n])))):=by
 obtain⟨p,hp⟩:=A.pe
 refine p7_wrap (p:=.every (val k2) p (val n)) (by simp) co fun d r hd=>?_
 rw[tks_cons (by decide),tks_cons (by decide),tks_cons (by decide),tks_app,tks_cons (by decide),tks_cons (tks_num hn),List.cons_append,List.cons_append,List.cons_append]
 have e:tks ps++[kFrom,n]++kR::r=tks ps++kFrom::n::kR::r:=by simp
 show tkEvery val (prs val d) (k2::kOf::(tks ps++kFrom::n::tks []++kR::r))=_
 have e:tks ps++kFrom::n::tks []++kR::r=tks ps++kFrom::n::kR::r:=by
  show tks ps++[kFrom,n]++kR::r=_
  simp
 rw[e]
 show(match prs val d (tks ps++kFrom::n::kR::r) with | none=>none | some (p,r)=>match tkW kFrom r with | none=>none | some r=>match tkNum val r with | none=>none | some (m,r)=>some (Pl.every (val k2) p m,r))=_
 rw[hp d _ hd (hd_ne (by decide))]
 simp only[]
 rw[tkW_ok]
 simp only[]
 rw[tkNum_ok hn]
theorem read_none{T:Wd}(h:∀p,prs val 41 (tks (L2.spl 32 T))≠some (p,[])):readS val T=none:=by
 unfold readS
 split
 ·rfl
 ·split
  ·rfl
  ·rename_i ts h1
   have e:=(words_good h1).1
   split
   ·rename_i p h2
    rw[e] at h2
    exact absurd h2 (h p)
   ·rfl
theorem spl_ps{ps:List Wd}(ne:ps≠[])(bl:∀p∈ps,32∉p):L2.spl 32 (jn ps)=ps:=by
 cases ps with
 | nil=>exact absurd rfl ne
 | cons w ws=>exact spl_jn bl
theorem sp_wrap{ps:List Wd}(T:Txt7 ps)(P:Pr7 val 40 ps):readS val (40::jn ps++[41])=none:=by
 have e:40::jn ps++[41]=jn (bB (bA ps)):=by rw[jn_bB (bA_ne T.ne),jn_bA T.ne]
 refine read_none fun p h=>?_
 have bl:∀p∈bB (bA ps),32∉p:=by
  obtain⟨l,p,e⟩:=ne_last (bA_ne T.ne)
  have bA':∀p∈bA ps,32∉p:=fun p hp=>by
   cases h:ps with
   | nil=>exact absurd h T.ne
   | cons f r=>
    rw[h] at hp
    rcases List.mem_cons.mp hp with z | z
    ·rw[z]
     intro y
     rcases List.mem_cons.mp y with y | y
     ·cases y
     ·exact T.bl f (by rw[h];exact List.mem_cons_self) y
    ·exact T.bl p (by rw[h];exact List.mem_cons_of_mem _ z)
  intro q hq
  rw[e,bB_last] at hq
  rcases List.mem_append.mp hq with z | z
  ·exact bA' q (by rw[e];simp[z])
  ·rw[List.mem_singleton.mp z]
   intro y
   rcases List.mem_append.mp y with y | y
   ·exact bA' p (by rw[e];simp) y
   ·cases List.mem_singleton.mp y
 rw[e,spl_ps (bB_ne (bA_ne T.ne)) bl,tks_wrap T.ne T.co] at h
 obtain⟨q,hq⟩:=P.pe
 obtain⟨t,u,et,ht⟩:=P.hd
 have e2:tks ps++[kR]=t::(u++[kR]):=by rw[et];rfl
 rw[prs_kL,e2,within_pair ht,←e2] at h
 unfold tkPair at h
 rw[hq 40 [kR] (Nat.le_refl _) (by decide)] at h
 revert h
 simp only[]
 rw[if_neg (by decide)]
 exact fun h=>nomatch h
theorem sp_more{ps qs:List Wd}(T:Txt7 ps)(P:Pr7 val 41 ps)(hq:∀p∈qs,32∉p)(hn:qs≠[])(e:tks qs=qs)(h1:qs.head?≠some kEach):readS val (jn ps++32::jn qs)=none:=by
 obtain⟨p,hp⟩:=P.pe
 refine read_none fun p' h=>?_
 rw[←jn_app T.ne hn,spl_ps (by simp[hn]) (fun x hx=>(List.mem_append.mp hx).elim (T.bl x) (hq x)),tks_app,e,hp 41 qs (Nat.le_refl _) h1] at h
 injection h with h
 injection h with _ h
 exact hn h
theorem sp_each{ps:List Wd}(T:Txt7 ps)(P:Pr7 val 41 ps):readS val (jn ps++32::jn [kEach,k2,kFrom,k1,k1])=none:=by
 rcases P.pa with rfl | ⟨p,hp⟩
 ·refine read_none fun p' h=>?_
  rw[←jn_app (by decide) (by decide),spl_ps (by decide) (by decide)] at h
  have:prs val 41 (tks (date2++[kEach,k2,kFrom,k1,k1]))=some (.date kSun none (some (val kM3)) (val k2) (val k1),[k1]):=rfl
  rw[this] at h
  injection h with h
  injection h with _ h
  cases h
 ·refine read_none fun p' h=>?_
  have e:tks [kEach,k2,kFrom,k1,k1]=[kEach,k2,kFrom,k1,k1]:=by decide
  rw[←jn_app T.ne (by decide),spl_ps (by simp) (fun x hx=>(List.mem_append.mp hx).elim (T.bl x) ((by decide:∀x∈[kEach,k2,kFrom,k1,k1],32∉x) x)),tks_app,e,hp 41 _ (Nat.le_refl _)] at h
  injection h with h
  injection h with _ h
  cases h
theorem sp_word{T:Wd}{w:Wd}(h:w∈L2.spl 32 T)(hp:¬Plain (core w))(hn:nameB (core w)=false):readS val T=none:=not_red fun R=>by
 rcases sq_mem R.sq _ (List.mem_flatMap.mpr ⟨w,h,core_mem w⟩) with z | z
 ·exact hp z
 ·rw[hn] at z
  cases z
end
end Fw
namespace Fw
open PySem L2 PyProof.Rows
def top(i:Nat):Stmt:=PySem.Challenge.pw_feastwheel_k75_no_rule_texts.main.body.getD i (.Pass ⟨0,0,0,0⟩)
abbrev s_is_name:Stmt:=top 14
abbrev s_is_readable:Stmt:=top 15
abbrev s_is_number:Stmt:=top 16
abbrev s_refuse_below_one:Stmt:=top 18
abbrev s_divisor:Stmt:=top 19
abbrev s_equation:Stmt:=top 20
abbrev s_common:Stmt:=top 21
abbrev s_refuse_too_long:Stmt:=top 25
abbrev s_round_by:Stmt:=top 26
abbrev s_full_bits:Stmt:=top 30
abbrev s_bits_by:Stmt:=top 31
abbrev s_common_size:Stmt:=top 33
abbrev s_either:Stmt:=top 35
abbrev s_other_days:Stmt:=top 38
abbrev s_Rule___init__:Stmt:=inClass (top 59) 0
abbrev s_Rule_turn:Stmt:=inClass (top 59) 3
abbrev s_All___init__:Stmt:=inClass (top 60) 0
abbrev s_No___init__:Stmt:=inClass (top 61) 0
abbrev s_each_text:Stmt:=top 62
abbrev s_Each___init__:Stmt:=inClass (top 63) 0
abbrev s_Not___init__:Stmt:=inClass (top 67) 0
abbrev s_Both___init__:Stmt:=inClass (top 68) 0
abbrev s_Either___init__:Stmt:=inClass (top 69) 0
abbrev s_But___init__:Stmt:=inClass (top 70) 0
abbrev s_Unlike___init__:Stmt:=inClass (top 71) 0
abbrev s_Later___init__:Stmt:=inClass (top 72) 0
abbrev s_Upon___init__:Stmt:=inClass (top 73) 0
abbrev s_Until___init__:Stmt:=inClass (top 74) 0
abbrev s_Near___init__:Stmt:=inClass (top 75) 0
abbrev s_Till___init__:Stmt:=inClass (top 76) 0
abbrev s_Kth___init__:Stmt:=inClass (top 77) 0
abbrev s_Every___init__:Stmt:=inClass (top 78) 0
abbrev s_Reader___init__:Stmt:=inClass (top 82) 0
abbrev s_Reader_peek:Stmt:=inClass (top 82) 1
abbrev s_Reader_take:Stmt:=inClass (top 82) 2
abbrev s_words_of:Stmt:=top 83
abbrev s_take_word:Stmt:=top 84
abbrev s_take_number:Stmt:=top 85
abbrev s_take_wanted:Stmt:=top 86
abbrev s_take_each:Stmt:=top 87
abbrev s_take_date:Stmt:=top 88
abbrev s_take_numbered:Stmt:=top 89
abbrev s_take_every:Stmt:=top 90
abbrev s_take_pair:Stmt:=top 91
abbrev s_take_within:Stmt:=top 92
abbrev s_take_plan:Stmt:=top 93
abbrev s_made_date:Stmt:=top 94
abbrev s_made_pair:Stmt:=top 95
abbrev s_made:Stmt:=top 96
abbrev s_read_rule:Stmt:=top 97
abbrev s_term_on:Stmt:=top 102
abbrev s_signs_upto:Stmt:=top 103
abbrev s_is_term:Stmt:=top 104
abbrev s_least_length:Stmt:=top 105
abbrev s_refuse_measure:Stmt:=top 106
abbrev s_period_of:Stmt:=top 107
abbrev s_Measure___init__:Stmt:=inClass (top 108) 0
abbrev s_Measure_upto:Stmt:=inClass (top 108) 2
abbrev s_refuse_months:Stmt:=top 113
abbrev s_Sun___init__:Stmt:=inClass (top 114) 0
abbrev s_law_cell_at:Stmt:=top 116
abbrev s_law_leaf:Stmt:=top 117
abbrev s_law_joined:Stmt:=top 118
abbrev s_law_text:Stmt:=top 119
abbrev s_law_places:Stmt:=top 120
abbrev s_law_odd:Stmt:=top 121
abbrev s_law_bracket_out:Stmt:=top 122
abbrev s_law_blank:Stmt:=top 123
abbrev s_law_sign_in:Stmt:=top 124
abbrev s_law_spoiled:Stmt:=top 125
abbrev s_law_deep:Stmt:=top 126
abbrev s_law_long:Stmt:=top 127
abbrev s_law_told:Stmt:=top 128
abbrev s_law:Stmt:=top 129
def spCell(K:PySem.W.Frag):Sp:=fun vs H Q _=>∃(a:Addr) (ns:List Int) (k:Int),vs=[.ref a,.int k]∧SqL K H a (ns.map V.int)∧0≤k∧ns.length≤63∧Q (.int (ns.getD k.toNat 0)) H
theorem rd_cell{K:PySem.W.Frag}{a:Addr}{ns:List Int}{k:Int}{H:Hp}{Q:VK}{E:XK}(hS:SqL K H a (ns.map V.int))(hl:ns.length≤63)(hk:0≤k)(h:Q (.int (ns.getD k.toNat 0)) H):spCell K ([.ref a,.int k]++[]) H Q E:=⟨a,ns,k,rfl,hS,hk,hl,h⟩
theorem at_ints{ns:List Int}{k:Int}(h0:0≤k)(h:k<(ns.length:Int)):atI (ns.map V.int) k=some (.int (ns.getD k.toNat 0)):=by
 have hk:k.toNat<ns.length:=by omega
 have ek:k=((k.toNat:Nat):Int):=by omega
 have q:atI (ns.map V.int) ((k.toNat:Nat):Int)=some (.int ns[k.toNat]):=atI_nat (by rw[List.getElem?_map,List.getElem?_eq_getElem hk]<;>rfl)
 rw[←ek] at q
 rw[q]
 simp[List.getD,hk]
theorem p40:(10:Int)^(40:Int).toNat=10000000000000000000000000000000000000000:=by decide
theorem p39:(10:Int)^(39:Int).toNat=1000000000000000000000000000000000000000:=by decide
theorem bt_of{x:Int}(h1: -1000000000000000000000000000000000000000000000000000000000000≤x)(h2:x≤1000000000000000000000000000000000000000000000000000000000000):Bt 200 x:=by
 unfold Bt
 have:(2:Nat)^200=1606938044258990275541962092341162602522202993782792835301376:=by decide
 omega
theorem two'{a b:V}:([a,b]:List V).length≤sizeLine:=by show 2≤sizeLine;decide
theorem at0{x y:V}:atI [x,y] 0=some x:=rfl
theorem at1{x y:V}:atI [x,y] 1=some y:=rfl
local macro_rules | `(tactic| walk_at "rdc")=> `(tactic| (repeat (first | walk_at "rd1" | ((with_reducible refine' Fw.rd_cell ?hc1 ?hc2 ?hc3 ?_);(case hc1=>assumption);(case hc2=>assumption);(case hc3=>decide)) | with_reducible refine Fw.rd_whole ?_)))
local macro_rules | `(tactic| walk_at "rdy")=> `(tactic| (repeat (first | walk_at "rd1" | ((with_reducible refine' Fw.rd_cell ?hc1 ?hc2 ?hc3 ?_);(case hc1=>assumption);(case hc2=>assumption);(case hc3=>decide)) | with_reducible refine Fw.rd_whole ?_ | with_reducible refine L2.rd_callE ?_ | with_reducible refine L2.rd_raise ?_ | with_reducible refine L2.rd_try ?_ | with_reducible refine L2.rd_xget ?_ | with_reducible refine L2.rd_ifE ?_)))
def spRefuse:Sp:=fun vs H Q _=>∃n:Int,vs=[.int n]∧1≤n∧Q .non H
def spEq:Sp:=fun vs H Q _=>∃a b:Int,vs=[.int a,.int b]∧Bt 500 a∧Bt 500 b∧∀(p:Addr) (u v g:Int) (H':Hp),Same H H'→H' p=some (.tup [.int u,.int v,.int g])→Eqn a b u v g→Q (.ref p) H'
def spDivisor:Sp:=fun vs H Q _=>∃a b:Int,vs=[.int a,.int b]∧Bt 500 a∧Bt 500 b∧∀H',Same H H'→Q (.int (Int.gcd a b:Int)) H'
def spCommon:Sp:=fun vs H Q _=>∃a b:Int,vs=[.int a,.int b]∧0<a∧0<b∧Bt 500 a∧Bt 500 b∧∀H',Same H H'→Q (.int (lcmI a b)) H'
theorem at30{x y z:V}:atI [x,y,z] 0=some x:=rfl
theorem at31{x y z:V}:atI [x,y,z] 1=some y:=rfl
theorem at32{x y z:V}:atI [x,y,z] 2=some z:=rfl
theorem three{a b c:V}:([a,b,c]:List V).length≤sizeLine:=by show 3≤sizeLine;decide
theorem bt_le{k m:Nat}{x y:Int}(h:Bt k y)(l:x.natAbs≤4*y.natAbs+4)(hk:k+4≤m):Bt m x:=by
 unfold Bt at*
 have p:2^(k+4)≤2^m:=Nat.pow_le_pow_right (by decide) hk
 have e:2^(k+4)=2^k*16:=by rw[Nat.pow_add]
 omega
theorem bt_le2{k m:Nat}{x y z:Int}(h:Bt k y)(h':Bt k z)(l:x.natAbs≤y.natAbs+z.natAbs+4)(hk:k+4≤m):Bt m x:=by
 unfold Bt at*
 have p:2^(k+4)≤2^m:=Nat.pow_le_pow_right (by decide) hk
 have e:2^(k+4)=2^k*16:=by rw[Nat.pow_add]
 omega
theorem bt_small{k:Nat}{x:Int}(h0:0≤x)(h1:x<18446744073709551616)(hk:64≤k):Bt k x:=Bt.mono (k:=64) (by unfold Bt;omega) hk
def spFull:Sp:=fun vs H Q _=>∃n:Int,vs=[.int n]∧0≤n∧n≤1000000∧Q (.int ((2^n.toNat-1:Nat):Int)) H
theorem bt_nat{b n:Nat}(h:b<2^n):Bt n (b:Int):=by unfold Bt;rw[Int.natAbs_natCast];exact h
theorem bt1:Bt 1 1:=by unfold Bt;decide
def spTooLong:Sp:=fun vs H Q _=>∃n:Int,vs=[.int n]∧n≤150000∧Q .non H
def spBitsByL(K:PySem.W.Frag):Sp:=fun vs H Q _=>∃(a:Addr) (n z:Int) (b:Nat),vs=[.ref a,.int z]∧SqT K H a [.int n,.int (b:Int)]∧0<n∧n≤300000∧b<2^n.toNat∧0<z∧z≤150000∧
 ∀c:Nat,Strt n.toNat b z.toNat c→Q (.int (c:Int)) H
def pcsV(b k:Nat):List V:=(List.range k).map fun j=>V.int ((pc b j:Nat):Int)
theorem pcsV_len(b k:Nat):(pcsV b k).length=k:=by unfold pcsV;simp
theorem pcsV_at{b k j:Nat}(h:j<k):(pcsV b k)[j]?=some (V.int ((pc b j:Nat):Int)):=by
 unfold pcsV
 rw[List.getElem?_map,List.getElem?_range h]
 rfl
theorem pcsV_zero(k:Nat):(List.replicate k [V.int 0]).flatten=pcsV 0 k:=by
 unfold pcsV
 have:(fun j=>V.int ((pc 0 j:Nat):Int))=fun _=>V.int 0:=by
  funext j
  unfold pc
  simp
 rw[this,List.map_const',List.length_range]
 induction k with
 | zero=>rfl
 | succ k ih=>rw[List.replicate_succ,List.flatten_cons,ih,List.replicate_succ];rfl
theorem pcsV_set{b k p:Nat}(h:p/256<k):(pcsV b k).set (p/256) (V.int ((pc b (p/256) ||| 2^(p%256):Nat):Int))=pcsV (b ||| 2^p) k:=by
 refine List.ext_getElem? fun j=>?_
 rw[List.getElem?_set]
 by_cases hj:j<k
 ·rw[pcsV_at hj]
  by_cases c:p/256=j
  ·rw[if_pos c,if_pos (by rw[pcsV_len];omega)]
   subst c
   rw[pcsV_at hj,pc_or_at]
  ·rw[if_neg c,pcsV_at hj,pc_or_ne (Ne.symm c)]
 ·have e:∀b,(pcsV b k)[j]?=none:=fun b=>List.getElem?_eq_none (by rw[pcsV_len];omega)
  rw[if_neg (by omega),e,e]
def spRoundBy(K:PySem.W.Frag):Sp:=fun vs H Q _=>∃(a:Addr) (ds:List Int) (n:Int),vs=[.int n,.ref a]∧SqL K H a (ds.map V.int)∧0<n∧n≤150000∧
 ∀(p:Addr) (b:Nat) (H':Hp),Same H H'→H' p=some (.tup [.int n,.int (b:Int)])→RB n ds b→Q (.ref p) H'
theorem rb_bits{n:Int}{b:Nat}(hn:0<n)(hb:b<2^n.toNat):b%2^(256*((n/256+1).toNat))=b:=
 Nat.mod_eq_of_lt (Nat.lt_of_lt_of_le hb (Nat.pow_le_pow_right (by decide) (by omega)))
def spOther(K:PySem.W.Frag):Sp:=fun vs H Q _=>∃(a:Addr) (n:Int) (b:Nat),vs=[.ref a]∧SqT K H a [.int n,.int (b:Int)]∧0<n∧n≤150000∧b<2^n.toNat∧
 ∀(p:Addr) (c:Nat),H p=none→c<2^n.toNat→(∀i,i<n.toNat→c.testBit i=!b.testBit i)→Q (.ref p) (upd H p (.tup [.int n,.int (c:Int)]))
def cpl(z:Str):List Nat:=z.cps.toList
theorem str_ext{y z:Str}(h:cpl y=cpl z):y=z:=by
 cases y
 cases z
 simp only[cpl] at h
 exact congrArg Str.mk (Array.toList_inj.mp h)
def figs(cs:List Nat):List Nat:=if cs.head?=some 45 then cs.drop 1 else cs
structure IsNum(cs:List Nat):Prop where
 lo:1≤(figs cs).length
 hi:(figs cs).length≤60
 dg:∀c∈figs cs,48≤c∧c≤57
 z0:(figs cs).head?=some 48→cs=[48]
def numVal(cs:List Nat):Int:=if cs.head?=some 45 then -((PySem.NumText.digitsVal (figs cs):Nat):Int) else ((PySem.NumText.digitsVal (figs cs):Nat):Int)
theorem len_cpl(z:Str):(cpl z).length=z.length:=Array.length_toList
theorem int_reads{z:Str}(h:IsNum (cpl z)):PySem.intText? z=some (numVal (cpl z)):=by
 have hl:z.length≤4300:=by
  have:=h.hi
  rw[←len_cpl]
  unfold figs at this
  split at this
  ·rw[List.length_drop] at this;omega
  ·omega
 unfold numVal
 by_cases e:(cpl z).head?=some 45
 ·rw[if_pos e]
  have ef:figs (cpl z)=(cpl z).drop 1:=by unfold figs;rw[if_pos e]
  have hz:z.cps.toList=45::(cpl z).drop 1:=by
   show cpl z=_
   generalize cpl z=cs at e
   cases cs with
   | nil=>cases e
   | cons a r=>
    injection e with e
    rw[e]
    rfl
  rw[ef]
  refine PySem.intText_neg hz (fun c hc=>h.dg c (by rw[ef];exact hc)) (fun z0=>?_) hl
  have:=h.lo
  rw[ef,z0] at this
  simp at this
 ·rw[if_neg e]
  have ef:figs (cpl z)=cpl z:=by unfold figs;rw[if_neg e]
  rw[ef]
  refine PySem.intText_digits (fun c hc=>h.dg c (by rw[ef];exact hc)) (fun z0=>?_) hl
  have:=h.lo
  rw[ef] at this
  have z1:cpl z=[]:=z0
  rw[z1] at this
  simp at this
theorem slice_from1{z:Str}(h:1≤z.length):cpl (Txt.slice z (some 1) none)=(cpl z).drop 1:=by
 rw[slice_from_eq (b:=(z.length:Int)) (by decide) (by omega) rfl]
 show((List.drop 1 z.cps.toList).take ((z.length:Int)-1).toNat)=_
 rw[List.take_of_length_le]
 ·rfl
 ·rw[List.length_drop]
  have:z.cps.toList.length=z.length:=len_cpl z
  omega
theorem slice_mem{z:Str}{lo hi:Option Int}{c:Nat}(h:c∈cpl (Txt.slice z lo hi)):c∈cpl z:=by
 unfold Txt.slice at h
 split at h
 ·exact h
 ·simp only[cpl] at h
  obtain⟨i,_,hi⟩:=List.mem_filterMap.mp h
  have hi':z.cps.toList[i]?=some c:=by rw[Array.getElem?_toList];exact hi
  exact List.mem_of_getElem? hi'
theorem asc_iff{z:Str}:asc z=true↔∀c∈cpl z,c<128:=by
 unfold asc cpl
 rw[Array.all_eq_true']
 simp[Array.mem_toList_iff]
theorem starts_minus{z:Str}(h:1≤z.length∨True):Txt.startswith z "-"=decide ((cpl z).head?=some 45):=by
 have ey:(Str.ofString "-")=⟨#[45]⟩:=by decide +kernel
 rw[ey]
 unfold Txt.startswith Builtin.Str.subAt
 show(decide (0+1≤z.length)&&(z.cps.extract 0 (0+1)== #[45]))=_
 rw[Bool.eq_iff_iff,Bool.and_eq_true,decide_eq_true_eq,decide_eq_true_eq,beq_iff_eq]
 have el:(cpl z).length=z.length:=len_cpl z
 have ex:(z.cps.extract 0 (0+1)).toList=(cpl z).take 1:=by
  rw[Array.toList_extract]
  simp[cpl,List.extract_eq_drop_take]
 constructor
 ·rintro⟨_,e⟩
  rw[e] at ex
  generalize cpl z=cs at ex
  cases cs with
  | nil=>cases ex
  | cons a r=>
   injection ex with e1 _
   rw[e1]
   rfl
 ·intro e
  cases hc:cpl z with
  | nil=>rw[hc] at e;cases e
  | cons a r=>
   rw[hc] at e ex el
   injection e with e
   rw[List.length_cons] at el
   refine⟨by omega,Array.toList_inj.mp ?_⟩
   rw[ex,e]
   rfl
theorem dig_mem(c:Nat):c∈cpl (Str.ofString "0123456789")↔48≤c∧c≤57:=by
 have e:cpl (Str.ofString "0123456789")=[48,49,50,51,52,53,54,55,56,57]:=by decide +kernel
 rw[e]
 simp only[List.mem_cons,List.not_mem_nil,or_false]
 omega
theorem in_dig(c:Nat):(!(Builtin.Str.occurrences (Str.ofString "0123456789") ⟨#[c]⟩ 0 (Str.ofString "0123456789").length 1).isEmpty)=decide (48≤c∧c≤57):=by
 rw[StrLaws.found_one,Bool.eq_iff_iff,decide_eq_true_eq,decide_eq_true_eq]
 exact dig_mem c
structure TOk(z:Str):Prop where
 asc:asc z=true
 len:z.length≤1000000
theorem TOk.fit{z:Str}(h:TOk z):z.length≤sizeLine:=Nat.le_trans h.len (by decide)
theorem TOk.slice{z:Str}(h:TOk z)(lo hi:Option Int):TOk (Txt.slice z lo hi):=⟨asc_iff.mpr fun c hc=>asc_iff.mp h.asc c (slice_mem hc),Nat.le_trans (Txt.slice_le z lo hi) h.len⟩
inductive Hnd(H:Hp):V→Prop
 | txt (z:Str):TOk z→Hnd H (.str z)
 | non:Hnd H .non
 | int (i:Int):Hnd H (.int i)
 | tup (a:Addr) (xs:List V):H a=some (.tup xs)→Hnd H (.ref a)
 | lst (a:Addr) (xs:List V):H a=some (.lst xs)→Hnd H (.ref a)
def isT(v:V):Bool:=match v with | .str _=>true | _=>false
theorem kit_ss(K:PySem.W.Frag):PySem.W.kitOne K (.type "str") (.type "str")=some true:=by unfold PySem.W.kitOne;rw[if_pos (by simp)]
theorem kit_ns(K:PySem.W.Frag):PySem.W.kitOne K (.type "NoneType") (.type "str")=some false:=by first | rfl | decide +kernel | with_unfolding_all rfl
theorem kit_is'(K:PySem.W.Frag):PySem.W.kitOne K (.type "int") (.type "str")=some false:=by first | rfl | decide +kernel | with_unfolding_all rfl
theorem kit_ts(K:PySem.W.Frag):PySem.W.kitOne K (.type "tuple") (.type "str")=some false:=by first | rfl | decide +kernel | with_unfolding_all rfl
theorem kit_ls(K:PySem.W.Frag):PySem.W.kitOne K (.type "list") (.type "str")=some false:=by first | rfl | decide +kernel | with_unfolding_all rfl
theorem rd_isS{K:PySem.W.Frag}{H:Hp}{v:V}{Q:VK}(h:Hnd H v)(q:Q (.bl (isT v)) H):rIsi K [v,.ty "str"] H Q:=by
 cases h with
 | txt z hz=>exact rd_isi (.str z) (kit_ss K) q
 | non=>exact rd_isi .non (kit_ns K) q
 | int i=>exact rd_isi (.int i) (kit_is' K) q
 | tup a xs e=>exact rd_isi (.tup e) (kit_ts K) q
 | lst a xs e=>exact rd_isi (.lst e) (kit_ls K) q
def spIsNum:Sp:=fun vs H Q _=>∃z:Str,vs=[.str z]∧TOk z∧∀(v:Bool) (H':Hp),Same H H'→(v=true↔IsNum (cpl z))→Q (.bl v) H'
structure TL(k:Nat)(z:Str):Prop where
 asc:asc z=true
 len:z.length≤k
theorem TL.mono{k m:Nat}{a:Str}(h1:TL k a)(h:k≤m):TL m a:=⟨h1.asc,Nat.le_trans h1.len h⟩
theorem TL.ok{k:Nat}{a:Str}(h1:TL k a)(h:k≤1000000):TOk a:=⟨h1.asc,Nat.le_trans h1.len h⟩
theorem digs_asc(m:Nat):∀c∈(Nat.toDigits 10 m).map Char.toNat,c<128:=fun c hc=>by
 obtain⟨ch,hch,e⟩:=List.mem_map.mp hc
 have r:=digit_range (Nat.isDigit_of_mem_toDigits (by decide) (by decide) hch)
 omega
theorem TL.int{i:Int}(h:i.natAbs.log2<1920):TL 1921 (intT i):=by
 refine⟨asc_iff.mpr fun c hc=>?_,intT_len h⟩
 unfold intT cpl at hc
 rw[signs_ofString] at hc
 cases i with
 | ofNat m=>
  have e:(toString (Int.ofNat m)).toList=Nat.toDigits 10 m:=by
   show(Nat.repr m).toList=_
   rw[Nat.toList_repr]
  rw[e] at hc
  exact digs_asc m c hc
 | negSucc m=>
  have e:(toString (Int.negSucc m)).toList='-'::Nat.toDigits 10 (m+1):=by
   show("-"++Nat.repr (m+1)).toList=_
   rw[String.toList_append,Nat.toList_repr]
   rfl
  rw[e,List.map_cons] at hc
  rcases List.mem_cons.mp hc with h | h
  ·have:('-':Char).toNat=45:=by decide
   omega
  ·exact digs_asc (m+1) c h
theorem p60:(10:Int)^(60:Int).toNat=1000000000000000000000000000000000000000000000000000000000000:=by decide
theorem dT(n:Nat):cpl (intT (n:Int))=(Nat.toDigits 10 n).map Char.toNat:=by
 unfold intT cpl
 rw[signs_ofString]
 have e:(toString (Int.ofNat n)).toList=Nat.toDigits 10 n:=by
  show(Nat.repr n).toList=_
  rw[Nat.toList_repr]
 exact congrArg (List.map Char.toNat) e
theorem ofNat_toNat{cs:List Nat}(h:∀c∈cs,48≤c∧c≤57):(cs.map Char.ofNat).map Char.toNat=cs:=by
 rw[List.map_map]
 conv=>rhs;rw[←List.map_id cs]
 refine List.map_congr_left fun c hc=>?_
 have:=h c hc
 rcases(by omega:c=48∨c=49∨c=50∨c=51∨c=52∨c=53∨c=54∨c=55∨c=56∨c=57) with e | e | e | e | e | e | e | e | e | e<;>subst e<;>rfl
theorem canon{cs:List Nat}(h:∀c∈cs,48≤c∧c≤57)(ne:cs≠[])(z:cs.head?=some 48→cs=[48]):cpl (intT ((PySem.NumText.digitsVal cs:Nat):Int))=cs:=by
 rw[dT]
 obtain⟨c,r,rfl⟩:∃c r,cs=c::r:=by
  cases cs with
  | nil=>exact absurd rfl ne
  | cons c r=>exact⟨c,r,rfl⟩
 have hc:=h c List.mem_cons_self
 rw[PySem.NumText.toDigits_digitsVal r.length (c::r) (by simp) h (by
  by_cases e:c=48
  ·have:=z (by rw[e];rfl)
   injection this with _ e2
   exact .inl (by rw[e2];rfl)
  ·exact .inr ⟨c,r,rfl,by omega⟩)]
 exact ofNat_toNat h
theorem canon_iff{cs:List Nat}(h:∀c∈cs,48≤c∧c≤57)(ne:cs≠[]):cpl (intT ((PySem.NumText.digitsVal cs:Nat):Int))=cs↔(cs.head?=some 48→cs=[48]):=by
 refine⟨fun e z=>?_,canon h ne⟩
 refine Classical.byContradiction fun hn=>?_
 obtain⟨r,rfl⟩:∃r,cs=48::r:=by
  cases cs with
  | nil=>exact absurd rfl ne
  | cons c r=>
   injection z with z
   exact⟨r,by rw[z]⟩
 have rn:r≠[]:=fun y=>hn (by rw[y])
 have dr:∀c∈r,48≤c∧c≤57:=fun c hc=>h c (List.mem_cons_of_mem _ hc)
 have ev:PySem.NumText.digitsVal (48::r)=PySem.NumText.digitsVal r:=rfl
 rw[dT,ev,PySem.NumText.toDigits_all r dr] at e
 have l:r.length+1=(match r.dropWhile (· ==48) with | []=>['0'] | c::r=>(c::r).map Char.ofNat).length:=by
  have:=congrArg List.length e
  rw[List.length_map,List.length_cons] at this
  exact this.symm
 have d:(r.dropWhile (· ==48)).length≤r.length:=(List.dropWhile_sublist _).length_le
 have r1:1≤r.length:=by
  cases r with
  | nil=>exact absurd rfl rn
  | cons _ _=>simp
 cases hd:r.dropWhile (· ==48) with
 | nil=>
  rw[hd] at l
  have l':r.length+1=1:=l
  omega
 | cons a b=>
  rw[hd] at l d
  have l':r.length+1=((a::b).map Char.ofNat).length:=l
  rw[List.length_map] at l'
  omega
theorem int_digits(n:Nat):(∀c∈cpl (intT (n:Int)),48≤c∧c≤57)∧cpl (intT (n:Int))≠[]∧PySem.NumText.digitsVal (cpl (intT (n:Int)))=n:=by
 rw[dT]
 refine⟨fun c hc=>?_,fun e=>?_,PySem.W.KIN.val_back n⟩
 ·obtain⟨ch,hch,e⟩:=List.mem_map.mp hc
  have r:=digit_range (Nat.isDigit_of_mem_toDigits (by decide) (by decide) hch)
  omega
 ·have:=congrArg List.length e
  rw[List.length_map] at this
  have p:=Nat.length_toDigits_pos (b:=10) (n:=n)
  rw[List.length_nil] at this
  omega
structure RC(K:PySem.W.Frag)(CR C:Addr):Prop where
 cl:Cls K C
 k:NoAttr K C "kept"
 m:NoAttr K C "made_of"
 w:NoAttr K C "words"
 ca:PySem.W.findIn K (.ref C) "__class__"=some (some (.builtin "object.__class__"))
 ob:PySem.W.mroIn K C (.type "object")=some true
 isr:PySem.W.kitOne K (.ref C) (.ref CR)=some true
def rF(p pm pw:Addr):List (Str×V):=[("kept",.ref p),("made_of",.ref pm),("words",.ref pw)]
structure RuleO(K:PySem.W.Frag)(CR:Addr)(CL:List Addr)(H:Hp)(x:Addr)(n:Int)(b:Nat):Prop where
 ex:∃C dx p pm pw,C∈CL∧RC K CR C∧H x=some (.ins C dx (rF p pm pw))∧H p=some (.tup [.int n,.int (b:Int)])
 n0:0<n
 n1:n≤150000
 lt:b<2^n.toNat
theorem RuleO.same{K:PySem.W.Frag}{CR:Addr}{CL:List Addr}{H H':Hp}{x:Addr}{n:Int}{b:Nat}(R:RuleO K CR CL H x n b)(s:Same H H'):RuleO K CR CL H' x n b:=by
 obtain⟨C,dx,p,pm,pw,h1,h2,h3,h4⟩:=R.ex
 exact⟨⟨C,dx,p,pm,pw,h1,h2,s _ _ h3,s _ _ h4⟩,R.n0,R.n1,R.lt⟩
def KB(x:Addr)(H H':Hp):Prop:=∀y o,y≠x→H y=some o→H' y=some o
theorem KB.pre{x:Addr}{H H1 H':Hp}(s:Same H H1)(k:KB x H1 H'):KB x H H':=fun y o h e=>k y o h (s _ _ e)
theorem made_same{H1 H':Hp}{x dx:Addr}{o o':HO}(hx:H1 x=none)(hd:H1 dx=none)(ne:dx≠x)(k:KB x (upd (upd H1 dx o) x o') H'):Same H1 H':=fun y u e=>by
 have y1:y≠x:=ne_of_none e hx
 have y2:y≠dx:=ne_of_none e hd
 exact k y u y1 (by rw[upd_ne y1,upd_ne y2];exact e)
def spRInit(K:PySem.W.Frag)(CR:Addr):Sp:=fun vs H Q _=>∃(x p pm pw C dx:Addr),vs=[.ref x,.ref p,.ref pm,.ref pw]∧H x=some (.ins C dx [])∧RC K CR C∧
 ∀H',KB x H H'→H' x=some (.ins C dx (rF p pm pw))→Q .non H'
def MadeR(K:PySem.W.Frag)(CR:Addr)(CL:List Addr)(C:Addr)(H:Hp)(x:Addr)(Q:VK)(n:Int)(G:Nat→Prop):Prop:=(∃dx,H x=some (.ins C dx []))∧∀(b:Nat) H',KB x H H'→RuleO K CR CL H' x n b→G b→Q .non H'
def spI0(K:PySem.W.Frag)(CR:Addr)(CL:List Addr)(C:Addr)(b0:Nat):Sp:=fun vs H Q _=>∃x,vs=[.ref x]∧MadeR K CR CL C H x Q 1 (fun b=>b=b0)
def spTurnM(K:PySem.W.Frag)(CR:Addr)(CL:List Addr):Sp:=fun vs H Q _=>∃(x:Addr) (n:Int) (b:Nat),vs=[.ref x]∧RuleO K CR CL H x n b∧∀p,H p=some (.tup [.int n,.int (b:Int)])→Q (.ref p) H
theorem made_rule{K:PySem.W.Frag}{CR:Addr}{CL:List Addr}{C x dx p pm pw:Addr}{H2 H':Hp}{n:Int}{b:Nat}(hC:C∈CL)(R:RC K CR C)(hx:H2 x=some (.ins C dx []))(hp:H2 p=some (.tup [.int n,.int (b:Int)]))(k:KB x H2 H')(e:H' x=some (.ins C dx (rF p pm pw)))(n0:0<n)(n1:n≤150000)(lt:b<2^n.toNat):RuleO K CR CL H' x n b:=
 ⟨⟨C,dx,p,pm,pw,hC,R,e,k _ _ (ne_of hp hx (fun z=>nomatch z)) hp⟩,n0,n1,lt⟩
structure Two81(K:PySem.W.Frag)(H:Hp)(a1 a2:Addr)(n1 n2:Int)(b1 b2:Nat):Prop where
 s1:SqT K H a1 [.int n1,.int (b1:Int)]
 s2:SqT K H a2 [.int n2,.int (b2:Int)]
 p1:0<n1
 p2:0<n2
 l1:n1≤150000
 l2:n2≤150000
 k1:b1<2^n1.toNat
 k2:b2<2^n2.toNat
def spCS(K:PySem.W.Frag):Sp:=fun vs H Q _=>∃(a1 a2:Addr) (n1 n2:Int) (b1 b2:Nat),vs=[.ref a1,.ref a2]∧SqT K H a1 [.int n1,.int (b1:Int)]∧SqT K H a2 [.int n2,.int (b2:Int)]∧0<n1∧0<n2∧n1≤150000∧n2≤150000∧lcmI n1 n2≤150000∧
 ∀H',Same H H'→Q (.int (lcmI n1 n2)) H'
def spJoin(K:PySem.W.Frag):Sp:=fun vs H Q _=>∃(a1 a2:Addr) (n1 n2:Int) (b1 b2:Nat),vs=[.ref a1,.ref a2]∧Two81 K H a1 a2 n1 n2 b1 b2∧lcmI n1 n2≤150000∧
 ∀(p:Addr) (c:Nat) (H':Hp),Same H H'→H' p=some (.tup [.int (lcmI n1 n2),.int (c:Int)])→c<2^(lcmI n1 n2).toNat→Q (.ref p) H'
theorem RuleO.one{K:PySem.W.Frag}{CR CE:Addr}{H:Hp}{x:Addr}{n:Int}{b:Nat}(R:RuleO K CR [CE] H x n b):∃dx fs,H x=some (.ins CE dx fs)∧fs.lookup (Str.ofString "turn")=none:=by
 obtain⟨C,dx,p,pm,pw,h1,h2,h3,h4⟩:=R.ex
 rw[List.mem_singleton.mp h1] at h3
 exact⟨dx,_,h3,rfl⟩
def spNo:Sp:=fun _ _ _ _=>False
def spSigns7(K:PySem.W.Frag):Sp:=fun vs H Q _=>∃(p:Addr) (k:Int),vs=[.ref p,.int k]∧SqT K H p []∧∀H',Same H H'→Q (.int 0) H'
def spLeast7(K:PySem.W.Frag):Sp:=fun vs H Q _=>∃(p:Addr) (b:Int),vs=[.int b,.ref p]∧SqT K H p []∧∀H',Same H H'→Q (.int b) H'
def spRefM7(K:PySem.W.Frag):Sp:=fun vs H Q _=>∃(p:Addr) (b:Int),vs=[.int b,.ref p]∧SqT K H p []∧0≤b∧b≤20000∧∀H',Same H H'→Q .non H'
def spPer7(K:PySem.W.Frag):Sp:=fun vs H Q _=>∃(p:Addr),vs=[.ref p]∧SqT K H p []∧∀H',Same H H'→Q (.int 1) H'
def spUpto7(CM:Addr):Sp:=fun vs H Q _=>∃(x dx p:Addr) (k b:Int) (fs:List (Str×V)),vs=[.ref x,.int k]∧H x=some (.ins CM dx fs)∧fs.lookup (Str.ofString "base")=some (.int b)∧fs.lookup (Str.ofString "terms")=some (.ref p)∧H p=some (.tup [])∧0≤b∧b≤1000∧0≤k∧k≤1000∧∀H',Same H H'→Q (.int (b*k)) H'
def mF7(b:Int)(p:Addr):List (Str×V):=[("base",.int b),("terms",.ref p),("full_count",.int 1),("full_sum",.int b)]
def Me7(CM:Addr)(H:Hp)(y:Addr)(b:Int):Prop:=∃dx p,H y=some (.ins CM dx (mF7 b p))∧H p=some (.tup [])
theorem Me7.same{CM:Addr}{H H':Hp}{y:Addr}{b:Int}(M:Me7 CM H y b)(s:Same H H'):Me7 CM H' y b:=by
 obtain⟨dx,p,h1,h2⟩:=M
 exact⟨dx,p,s _ _ h1,s _ _ h2⟩
theorem Me7.kb{CM x C d:Addr}{H H':Hp}{y:Addr}{b:Int}{fs:List (Str×V)}(M:Me7 CM H y b)(hx:H x=some (.ins C d fs))(ne:y≠x)(k:KB x H H'):Me7 CM H' y b:=by
 obtain⟨dx,p,h1,h2⟩:=M
 exact⟨dx,p,k _ _ ne h1,k _ _ (ne_of h2 hx (fun z=>nomatch z)) h2⟩
def spInitM7(CM:Addr):Sp:=fun vs H Q _=>∃(x dx:Addr) (b:Int),vs=[.ref x,.int b,.non]∧H x=some (.ins CM dx [])∧1≤b∧b≤1000∧∀H',KB x H H'→Me7 CM H' x b→Q .non H'
def spRefMo7(K:PySem.W.Frag):Sp:=fun vs H Q _=>∃(l:Addr) (k:Int),vs=[.ref l,.int 1]∧SqL K H l ([k].map V.int)∧1≤k∧k≤1000∧Q .non H
def sF7(s:Int)(p y:Addr):List (Str×V):=[("start",.int s),("months",.ref p),("leap",.int 1),("years",.ref y)]
def Sun7(CS CM:Addr)(H:Hp)(x:Addr)(s k:Int):Prop:=∃dx p y,H x=some (.ins CS dx (sF7 s p y))∧H p=some (.tup [.int k])∧Me7 CM H y k
theorem Sun7.but{CS CM:Addr}{H:Hp}{x l:Addr}{s k:Int}{xs ys:List V}(S:Sun7 CS CM H x s k)(hl:H l=some (.lst xs)):Sun7 CS CM (upd H l (.lst ys)) x s k:=by
 obtain⟨dx,p,y,h1,h2,dm,q,h3,h4⟩:=S
 have f:∀{a:Addr} {o:HO},(∀zs,o≠.lst zs)→H a=some o→upd H l (.lst ys) a=some o:=fun{a o} ho h=>by
  rw[upd_ne (fun e=>by rw[e,hl] at h;exact ho xs (Option.some.inj h).symm)]
  exact h
 exact⟨dx,p,y,f (fun _ z=>nomatch z) h1,f (fun _ z=>nomatch z) h2,dm,q,f (fun _ z=>nomatch z) h3,f (fun _ z=>nomatch z) h4⟩
def spInitS7(CS CM:Addr):Sp:=fun vs H Q _=>∃(x dx ll:Addr) (s k:Int),vs=[.ref x,.int s,.ref ll,.int 1,.non]∧H x=some (.ins CS dx [])∧H ll=some (.lst [.int k])∧1≤k∧k≤1000∧∀H',KB x H H'→Sun7 CS CM H' x s k→Q .non H'
def oI(o:Option Int):V:=match o with | none=>.non | some i=>.int i
theorem put7{H:Hp}{x:Addr}{o:HO}{m:Hp→Prop}(h:∀H',KB x H H'→H' x=some o→m H'):m (upd H x o):=h _ (fun y _ ne e=>by rw[upd_ne ne];exact e) upd_same
def spR(sp:Sp)(d:Nat):Sp:=fun vs H Q E=>0<d∧sp vs H Q E
theorem spR_zero{sp:Sp}{vs:List V}{H:Hp}{Q:VK}{E:XK}(h:spR sp 0 vs H Q E):False:=absurd h.1 (by decide)
theorem RuleO.mt{K:PySem.W.Frag}{CR:Addr}{CL:List Addr}{H:Hp}{x:Addr}{n:Int}{b:Nat}(R:RuleO K CR CL H x n b):∃C dx fs,(∀sp:Sp,(C,sp)∈CL.map fun c=>(c,sp))∧H x=some (.ins C dx fs)∧fs.lookup (Str.ofString "turn")=none∧fs.lookup (Str.ofString "size")=none∧fs.lookup (Str.ofString "on")=none:=by
 obtain⟨C,dx,p,pm,pw,h1,h2,h3,h4⟩:=R.ex
 exact⟨C,dx,_,fun sp=>List.mem_map.mpr ⟨C,h1,rfl⟩,h3,rfl,rfl,rfl⟩
def Pl.okB:Pl→Bool
 | .lf w=>decide (w=kAll∨w=kNone)
 | .each n _=>decide (n=1)
 | .not p=>p.okB
 | .pair w p q=>decide (w=[111,114])&&p.okB&&q.okB
 | _=>false
def deepT:Nat→Wd
 | 0=>kAll
 | k+1=>40::kNot++32::deepT k++[41]
theorem deep41:(readS numVal (deepT 41)).isNone=true:=by decide +kernel
def kOr:Wd:=[111,114]
def grT:Nat→Wd
 | 0=>kAll
 | k+1=>40::grT k++32::kOr++32::grT k++[41]
def lgT(n:Wd):Wd:=[3,4,5,7,8].foldl (fun t k=>40::grT k++32::kOr++32::t++[41]) (jn [kEach,k1,kFrom,n])
def n28:Wd:=49::List.replicate 26 48++[55]
theorem len28:(lgT n28).length=4000:=by decide +kernel
theorem len29:(lgT (n28++[49])).length=4001:=by decide +kernel
theorem long29:(readS numVal (lgT (n28++[49]))).isNone=true:=by decide +kernel
structure IsNm(cs:List Nat):Prop where
 lo:1≤cs.length
 hi:cs.length≤8
 ch:∀c∈cs,97≤c∧c≤122
theorem let_mem(c:Nat):c∈cpl (Str.ofString "abcdefghijklmnopqrstuvwxyz")↔97≤c∧c≤122:=by
 have e:cpl (Str.ofString "abcdefghijklmnopqrstuvwxyz")=(List.range 26).map (97+ ·):=by decide +kernel
 rw[e,List.mem_map]
 constructor
 ·rintro⟨k,hk,rfl⟩
  have:=List.mem_range.mp hk
  omega
 ·intro h
  exact⟨c-97,List.mem_range.mpr (by omega),by omega⟩
theorem in_let(c:Nat):(!(Builtin.Str.occurrences (Str.ofString "abcdefghijklmnopqrstuvwxyz") ⟨#[c]⟩ 0 (Str.ofString "abcdefghijklmnopqrstuvwxyz").length 1).isEmpty)=decide (97≤c∧c≤122):=by
 rw[StrLaws.found_one,Bool.eq_iff_iff,decide_eq_true_eq,decide_eq_true_eq]
 exact let_mem c
def spIsNm:Sp:=fun vs H Q _=>∃z:Str,vs=[.str z]∧TOk z∧∀(v:Bool) (H':Hp),Same H H'→(v=true↔IsNm (cpl z))→Q (.bl v) H'
theorem nm_iff(w:Wd):IsNm w↔nameB w=true:=by
 unfold nameB
 simp only[Bool.and_eq_true,decide_eq_true_eq,List.all_eq_true]
 exact⟨fun h=>⟨⟨h.lo,h.hi⟩,h.ch⟩,fun h=>⟨h.1.1,h.1.2,h.2⟩⟩
theorem nu_iff(w:Wd):IsNum w↔numB w=true:=by
 unfold numB
 simp only[Bool.and_eq_true,Bool.or_eq_true,decide_eq_true_eq,List.all_eq_true]
 constructor
 ·intro h
  refine⟨⟨⟨h.lo,h.hi⟩,h.dg⟩,?_⟩
  by_cases e:(figs w).head?=some 48
  ·exact .inr (h.z0 e)
  ·exact .inl e
 ·rintro⟨⟨⟨h1,h2⟩,h3⟩,h4⟩
  exact⟨h1,h2,h3,fun e=>h4.elim (fun z=>absurd e z) id⟩
def spReadable75:Sp:=fun vs H Q _=>∃v:V,vs=[v]∧Hnd H v∧(∀z,v=.str z→∀b:Bool,(b=true↔(cpl z).length≤4000)→Q (.bl b) H)∧(isT v=false→Q (.bl false) H)
def sW(w:Wd):Str:=⟨w.toArray⟩
theorem cpl_sW(w:Wd):cpl (sW w)=w:=by unfold cpl sW;simp
theorem sW_cpl(z:Str):sW (cpl z)=z:=str_ext (cpl_sW _)
theorem sW_len(w:Wd):(sW w).length=w.length:=by rw[←len_cpl,cpl_sW]
def rdF(p:Addr)(k:Nat):List (Str×V):=[("words",.ref p),("place",.int (k:Int))]
structure Rdr(CD:Addr)(H:Hp)(x p:Addr)(ws:List Wd)(k:Nat):Prop where
 ex:∃dx,H x=some (.ins CD dx (rdF p k))
 tp:H p=some (.tup (ws.map fun w=>.str (sW w)))
 ln:ws.length≤100000
 ok:∀w∈ws,TOk (sW w)
 ne:∀w∈ws,w≠[]
def nxt(ws:List Wd)(k:Nat):Wd:=(ws[k]?).getD []
theorem nxt_ok{ws:List Wd}(h:∀w∈ws,TOk (sW w))(k:Nat):TOk (sW (nxt ws k)):=by
 unfold nxt
 cases e:ws[k]? with
 | none=>exact⟨by decide +kernel,by decide +kernel⟩
 | some w=>exact h w (List.mem_of_getElem? e)
theorem drop_c(ws:List Wd)(k:Nat):(k<ws.length∧ws.drop k=nxt ws k::ws.drop (k+1))∨(ws.length≤k∧ws.drop k=[]∧nxt ws k=[]):=by
 rcases Nat.lt_or_ge k ws.length with h | h
 ·refine .inl ⟨h,?_⟩
  unfold nxt
  rw[List.getElem?_eq_getElem h]
  exact List.drop_eq_getElem_cons h
 ·refine .inr ⟨h,List.drop_of_length_le h,?_⟩
  unfold nxt
  rw[List.getElem?_eq_none h]
  rfl
theorem drop_w{ws:List Wd}{k:Nat}{w:Wd}(h:nxt ws k=w)(hw:w≠[]):ws.drop k=w::ws.drop (k+1):=by
 rcases drop_c ws k with ⟨_,e⟩ | ⟨_,_,e⟩
 ·rw[e,h]
 ·exact absurd (h.symm.trans e) hw
theorem sk_star:Str.ofString "*"=sW kStar:=by decide +kernel
theorem sk_each:Str.ofString "each"=sW kEach:=by decide +kernel
theorem sk_from:Str.ofString "from"=sW kFrom:=by decide +kernel
theorem s_inj{a b:Wd}:V.str (sW a)=V.str (sW b)↔a=b:=⟨fun e=>by injection e with e;rw[←cpl_sW a,e,cpl_sW],fun e=>by rw[e]⟩
theorem KB.tr{x:Addr}{H H1 H2:Hp}(a:KB x H H1)(b:KB x H1 H2):KB x H H2:=fun y o h e=>b y o h (a y o h e)
theorem KB.sm{x:Addr}{H H1:Hp}(s:Same H H1):KB x H H1:=fun y o _ e=>s y o e
theorem Rdr.same{CD:Addr}{H H':Hp}{x p:Addr}{ws:List Wd}{k:Nat}(R:Rdr CD H x p ws k)(s:Same H H'):Rdr CD H' x p ws k:=by
 obtain⟨dx,hx⟩:=R.ex
 exact⟨⟨dx,s _ _ hx⟩,s _ _ R.tp,R.ln,R.ok,R.ne⟩
def spPeek(CD:Addr):Sp:=fun vs H Q _=>∃(x p:Addr) (ws:List Wd) (k:Nat),vs=[.ref x]∧Rdr CD H x p ws k∧Q (.str (sW (nxt ws k))) H
def spTake(CD:Addr):Sp:=fun vs H Q _=>∃(x p:Addr) (ws:List Wd) (k:Nat),vs=[.ref x]∧Rdr CD H x p ws k∧∀H',KB x H H'→Rdr CD H' x p ws (k+1)→Q (.str (sW (nxt ws k))) H'
def spInitR(CD:Addr):Sp:=fun vs H Q _=>∃(x dx l:Addr) (ws:List Wd),vs=[.ref x,.ref l]∧H x=some (.ins CD dx [])∧H l=some (.lst (ws.map fun w=>.str (sW w)))∧ws.length≤100000∧(∀w∈ws,TOk (sW w))∧(∀w∈ws,w≠[])∧∀p H',KB x H H'→Rdr CD H' x p ws 0→Q .non H'
def Out{α:Type}(CD cR:Addr)(H:Hp)(x p:Addr)(ws:List Wd)(o:Option (α×List Wd))(val:α→V→Hp→Prop)(Q:VK)(E:XK):Prop:=
 (∀a r v k H',o=some (a,r)→KB x H H'→Rdr CD H' x p ws k→ws.drop k=r→val a v H'→Q v H')∧(o=none→∀H',KB x H H'→E (.ref cR) none H')
theorem Out.later{α:Type}{CD cR:Addr}{H H1:Hp}{x p:Addr}{ws:List Wd}{o:Option (α×List Wd)}{val:α→V→Hp→Prop}{Q:VK}{E:XK}(h:Out CD cR H x p ws o val Q E)(s:KB x H H1):Out CD cR H1 x p ws o val Q E:=⟨fun a r v k H' e g=>h.1 a r v k H' e (s.tr g),fun e H' g=>h.2 e H' (s.tr g)⟩
def isInt(n:Int)(v:V)(_:Hp):Prop:=v=.int n
def isOpt(n:Option Int)(v:V)(_:Hp):Prop:=v=oI n
def is2(y:Int×Int)(v:V)(H:Hp):Prop:=∃q,v=.ref q∧H q=some (.tup [.int y.1,.int y.2])
def isUn(_:Unit)(v:V)(_:Hp):Prop:=v=.non
def tkU(x:Wd)(ts:List Wd):Option (Unit×List Wd):=(tkW x ts).map fun r=>((),r)
def PlH(H:Hp):Pl→V→Prop
 | .lf w,v=>∃q,v=.ref q∧H q=some (.tup [.str (sW w)])
 | .each n r,v=>∃q,v=.ref q∧H q=some (.tup [.str (sW kEach),.int n,.int r])
 | .not p,v=>∃q u,v=.ref q∧H q=some (.tup [.str (sW kNot),u])∧PlH H p u
 | .pair w p r,v=>∃q u y,v=.ref q∧H q=some (.tup [.str (sW w),u,y])∧PlH H p u∧PlH H r y
 | _,_=>True
theorem PlH.kp{H H':Hp}(s:∀y xs,H y=some (.tup xs)→H' y=some (.tup xs)):∀{p:Pl} {v:V},PlH H p v→PlH H' p v
 | .lf w,v,⟨q,e,h⟩=>⟨q,e,s _ _ h⟩
 | .each n r,v,⟨q,e,h⟩=>⟨q,e,s _ _ h⟩
 | .not p,v,⟨q,u,e,h,g⟩=>⟨q,u,e,s _ _ h,PlH.kp s g⟩
 | .pair w p r,v,⟨q,u,y,e,h,g,g'⟩=>⟨q,u,y,e,s _ _ h,PlH.kp s g,PlH.kp s g'⟩
 | .date ..,v,_=>trivial
 | .later ..,v,_=>trivial
 | .nth ..,v,_=>trivial
 | .every ..,v,_=>trivial
def isPl(p:Pl)(v:V)(H:Hp):Prop:=PlH H p v
section
variable(CD cR:Addr)
def spWord:Sp:=fun vs H Q E=>∃(x p:Addr) (ws:List Wd) (k:Nat) (w:Wd),vs=[.ref x,.str (sW w)]∧w.length≤100∧w≠[]∧Rdr CD H x p ws k∧Out CD cR H x p ws (tkU w (ws.drop k)) isUn Q E
def spNumT:Sp:=fun vs H Q E=>∃(x p:Addr) (ws:List Wd) (k:Nat),vs=[.ref x]∧Rdr CD H x p ws k∧Out CD cR H x p ws (tkNum numVal (ws.drop k)) isInt Q E
def spWantT:Sp:=fun vs H Q E=>∃(x p:Addr) (ws:List Wd) (k:Nat),vs=[.ref x]∧Rdr CD H x p ws k∧Out CD cR H x p ws (tkWant numVal (ws.drop k)) isOpt Q E
def spEachR:Sp:=fun vs H Q E=>∃(x p:Addr) (ws:List Wd) (k:Nat),vs=[.ref x]∧Rdr CD H x p ws k∧Out CD cR H x p ws (tkEach numVal (ws.drop k)) is2 Q E
def spDateR:Sp:=fun vs H Q E=>∃(x p:Addr) (ws:List Wd) (k:Nat),vs=[.ref x]∧Rdr CD H x p ws k∧Out CD cR H x p ws (tkDate numVal (ws.drop k)) isPl Q E
end
theorem tw_drop(p:Nat→Bool)(l:List Nat):l.drop (l.takeWhile p).length=l.dropWhile p:=by
 conv=>lhs;rw[←List.takeWhile_append_dropWhile (p:=p) (l:=l)]
 rw[List.takeWhile_append_dropWhile]
 conv=>lhs;rw[←List.takeWhile_append_dropWhile (p:=p) (l:=l)]
 exact List.drop_left' (by rw[List.takeWhile_append_dropWhile])
theorem g40:(fun c=>(Str.ofString "(").cps.contains c)=(· ==40):=by
 funext c
 rw[show (Str.ofString "(").cps= #[40] by decide +kernel]
 by_cases h:c=40
 ·subst h
  simp
 ·rw[show (#[40]:Array Nat).contains c=false by simpa using h]
  exact(beq_false_of_ne h).symm
theorem g41:(fun c=>(Str.ofString ")").cps.contains c)=(· ==41):=by
 funext c
 rw[show (Str.ofString ")").cps= #[41] by decide +kernel]
 by_cases h:c=41
 ·subst h
  simp
 ·rw[show (#[41]:Array Nat).contains c=false by simpa using h]
  exact(beq_false_of_ne h).symm
def lsT(z:Str):Str:=if stripSame (Str.ofString "(").cps.contains true false z then z else stripped (Str.ofString "(").cps.contains true false z
def rsT(z:Str):Str:=if stripSame (Str.ofString ")").cps.contains false true z then z else stripped (Str.ofString ")").cps.contains false true z
theorem lsT_cpl(z:Str):cpl (lsT z)=opd (cpl z):=by
 have lo:stripLo (Str.ofString "(").cps.contains true z=((cpl z).takeWhile (· ==40)).length:=by
  unfold stripLo
  rw[if_pos rfl]
  show((cpl z).takeWhile (fun c=>(Str.ofString "(").cps.contains c)).length=_
  rw[g40]
 unfold lsT opd
 rw[←tw_drop]
 split
 ·rename_i h
  unfold stripSame at h
  simp only[Bool.and_eq_true,beq_iff_eq] at h
  rw[lo] at h
  rw[h.1]
  rfl
 ·unfold stripped
  show(Builtin.Str.strSub z _ _).cps.toList=_
  rw[StrLaws.strSub_toList,lo]
  have:stripHi (Str.ofString "(").cps.contains false z ((cpl z).takeWhile (· ==40)).length=z.length:=rfl
  rw[this]
  exact List.take_of_length_le (by rw[List.length_drop];have:=len_cpl z;unfold cpl at this;omega)
theorem rsT_cpl(z:Str):cpl (rsT z)=((cpl z).reverse.dropWhile (· ==41)).reverse:=by
 have hi:stripHi (Str.ofString ")").cps.contains true z 0=z.length-((cpl z).reverse.takeWhile (· ==41)).length:=by
  unfold stripHi
  rw[if_pos rfl]
  show z.length-((cpl z).reverse.takeWhile (fun c=>(Str.ofString ")").cps.contains c)).length=_
  rw[g41]
 have key:(cpl z).take ((cpl z).length-((cpl z).reverse.takeWhile (· ==41)).length)=((cpl z).reverse.dropWhile (· ==41)).reverse:=by
  have e:=List.takeWhile_append_dropWhile (p:=(· ==41)) (l:=(cpl z).reverse)
  have e2:=congrArg List.reverse e
  rw[List.reverse_append,List.reverse_reverse] at e2
  have l2:=congrArg List.length e
  rw[List.length_append,List.length_reverse] at l2
  conv=>lhs;rw[←e2]
  rw[List.take_left']
  rw[List.length_reverse,e2]
  omega
 unfold rsT
 split
 ·rename_i h
  unfold stripSame at h
  simp only[Bool.and_eq_true,beq_iff_eq] at h
  have h2:stripHi (Str.ofString ")").cps.contains true z 0=z.length:=h.2
  rw[hi] at h2
  rw[←key,len_cpl,h2,←len_cpl,List.take_length]
 ·unfold stripped
  show(Builtin.Str.strSub z 0 (stripHi (Str.ofString ")").cps.contains true z 0)).cps.toList=_
  rw[StrLaws.strSub_toList,hi,←key,len_cpl]
  rfl
theorem ls_sW(w:Wd):lsT (sW w)=sW (opd w):=str_ext (by rw[lsT_cpl,cpl_sW,cpl_sW])
theorem rs_sW(w:Wd):rsT (sW (opd w))=sW (core w):=str_ext (by rw[rsT_cpl,cpl_sW,cpl_sW];rfl)
theorem spl_sW(z:Str):splS 32 z=(spl 32 (cpl z)).map sW:=rfl
def spWords(cR:Addr):Sp:=fun vs H Q E=>∃z:Str,vs=[.str z]∧TOk z∧(cpl z).length≤4000∧(∀ts l H',wordsOf 0 (spl 32 (cpl z))=some ts→Same H H'→H' l=some (.lst (ts.map fun w=>.str (sW w)))→Q (.ref l) H')∧(wordsOf 0 (spl 32 (cpl z))=none→∀H',Same H H'→E (.ref cR) none H')
theorem KB.rf{x:Addr}{H:Hp}:KB x H H:=fun _ _ _ e=>e
theorem sk_nil:Str.ofString ""=sW []:=by decide +kernel
theorem sk_L:Str.ofString "("=sW kL:=by decide +kernel
theorem sk_R:Str.ofString ")"=sW kR:=by decide +kernel
theorem spl_wt(c:Nat):∀l:List Nat,((spl c l).map fun w=>w.length+1).sum=l.length+1
 | []=>rfl
 | a::l=>by
  have ih:=spl_wt c l
  by_cases e:a=c
  ·subst e
   rw[spl_at,List.map_cons,List.sum_cons,ih,List.length_cons]
   show 0+1+_=_
   omega
  ·rw[spl_not l e,List.map_cons,List.sum_cons,List.length_cons,List.length_cons]
   rw[spl_eta c l,List.map_cons,List.sum_cons] at ih
   omega
theorem mem_sum{a:Nat}:∀{l:List Nat},a∈l→a≤l.sum
 | b::l,h=>by
  rw[List.sum_cons]
  rcases List.mem_cons.mp h with z | z
  ·omega
  ·have:=mem_sum z
   omega
theorem ptok_len(p:Wd):(ptok p).length≤p.length+1:=by
 have a:=opd_le p
 have b:=core_le p
 unfold ptok
 simp only[List.length_append,List.length_replicate,List.length_cons,List.length_nil]
 omega
theorem flat_len:∀ps:List Wd,(ps.flatMap ptok).length≤(ps.map fun w=>w.length+1).sum
 | []=>Nat.le_refl _
 | p::ps=>by
  rw[List.flatMap_cons,List.length_append,List.map_cons,List.sum_cons]
  have:=flat_len ps
  have:=ptok_len p
  omega
theorem take_le{ps:List Wd}(i:Nat):((ps.take i).flatMap ptok).length≤(ps.flatMap ptok).length:=by
 conv=>rhs;rw[←List.take_append_drop i ps,List.flatMap_append,List.length_append]
 omega
theorem rep_flat{α:Type}(v:α):∀k:Nat,(List.replicate k [v]).flatten=List.replicate k v
 | 0=>rfl
 | k+1=>by rw[List.replicate_succ,List.flatten_cons,rep_flat v k];rfl
theorem ptok_V(p:Wd):(ptok p).map (fun w=>V.str (sW w))=List.replicate (p.length-(opd p).length) (V.str (sW kL))++[V.str (sW (core p))]++List.replicate ((opd p).length-(core p).length) (V.str (sW kR)):=by
 unfold ptok
 simp
theorem spl_tok{z:Str}(h:TOk z):∀p∈spl 32 (cpl z),∀c∈p,c<128:=fun p hp c hc=>by
 have:∀(l p:List Nat),p∈spl 32 l→∀a∈p,a∈l:=by
  intro l
  induction l with
  | nil=>intro p hp a ha;rw[List.mem_singleton.mp hp] at ha;cases ha
  | cons b l ih=>
   intro p hp a ha
   by_cases e:b=32
   ·subst e
    rw[spl_at] at hp
    rcases List.mem_cons.mp hp with z | z
    ·rw[z] at ha;cases ha
    ·exact List.mem_cons_of_mem _ (ih p z a ha)
   ·rw[spl_not l e] at hp
    rcases List.mem_cons.mp hp with z | z
    ·rw[z] at ha
     rcases List.mem_cons.mp ha with y | y
     ·rw[y];exact List.mem_cons_self
     ·exact List.mem_cons_of_mem _ (ih _ (by rw[spl_eta 32 l];exact List.mem_cons_self) a y)
    ·exact List.mem_cons_of_mem _ (ih p (by rw[spl_eta 32 l];exact List.mem_cons_of_mem _ z) a ha)
 exact asc_iff.mp h.asc c (this _ p hp c hc)
def DD(d:Nat)(ts:List Wd):Prop:=∀l m,ts=l++m→ht l<(d:Int)
theorem DD.tk{d:Nat}{ts r:List Wd}(h:DD d ts)(t:Tk ts r 0):DD d r:=fun l m e=>by
 obtain⟨c,rfl,_,hc⟩:=t
 have:=h (c++l) m (by rw[e,List.append_assoc])
 rw[ht_app] at this
 omega
theorem DD.open{d:Nat}{r:List Wd}(h:DD (d+1) (kL::r)):DD d r:=fun l m e=>by
 have:=h (kL::l) m (by rw[e];rfl)
 rw[show kL::l=[kL]++l from rfl,ht_app] at this
 have e1:ht [kL]=1:=by decide
 omega
theorem DD.word{d:Nat}{w:Wd}{r:List Wd}(h:DD d (w::r))(hw:ht [w]=0):DD d r:=fun l m e=>by
 have:=h (w::l) m (by rw[e];rfl)
 rw[show w::l=[w]++l from rfl,ht_app,hw] at this
 omega
theorem PlH.kb{CD:Addr}{H H':Hp}{x p:Addr}{ws:List Wd}{k:Nat}(R:Rdr CD H x p ws k)(kb:KB x H H'){q:Pl}{v:V}(h:PlH H q v):PlH H' q v:=PlH.kp (fun y xs e=>by
 obtain⟨dx,hx⟩:=R.ex
 exact kb y _ (ne_of e hx (fun z=>nomatch z)) e) h
section
variable(CD cR:Addr)(d:Nat)
def spPlan:Sp:=fun vs H Q E=>∃(x p:Addr) (ws:List Wd) (k:Nat),vs=[.ref x]∧Rdr CD H x p ws k∧DD d (ws.drop k)∧Out CD cR H x p ws (prs numVal d (ws.drop k)) isPl Q E
def spNumbd:Sp:=fun vs H Q E=>∃(x p:Addr) (ws:List Wd) (k:Nat),vs=[.ref x]∧Rdr CD H x p ws k∧DD d (ws.drop k)∧Out CD cR H x p ws (tkNumbered numVal (prs numVal d) (ws.drop k)) isPl Q E
def spEvery7:Sp:=fun vs H Q E=>∃(x p:Addr) (ws:List Wd) (k:Nat),vs=[.ref x]∧Rdr CD H x p ws k∧DD d (ws.drop k)∧Out CD cR H x p ws (tkEvery numVal (prs numVal d) (ws.drop k)) isPl Q E
def spPair7:Sp:=fun vs H Q E=>∃(x p:Addr) (ws:List Wd) (k:Nat),vs=[.ref x]∧Rdr CD H x p ws k∧DD d (ws.drop k)∧Out CD cR H x p ws (tkPair (prs numVal d) (ws.drop k)) isPl Q E
def spWithin:Sp:=fun vs H Q E=>∃(x p:Addr) (ws:List Wd) (k:Nat),vs=[.ref x]∧Rdr CD H x p ws k∧DD d (ws.drop k)∧Out CD cR H x p ws (tkWithin numVal (prs numVal d) (ws.drop k)) isPl Q E
end
theorem spPlan_zero{CD cR:Addr}{vs:List V}{H:Hp}{Q:VK}{E:XK}(h:spPlan CD cR 0 vs H Q E):False:=by
 obtain⟨x,p,ws,k,_,_,D,_⟩:=h
 have:=D [] _ rfl
 exact absurd this (by decide)
theorem in_pairs(w:Wd):inV (V.str (sW w)) [.str "and",.str "or",.str "but",.str "unlike",.str "upon",.str "until",.str "near",.str "till"]=decide (w∈pairWs):=by
 have e:([.str "and",.str "or",.str "but",.str "unlike",.str "upon",.str "until",.str "near",.str "till"]:List V)=pairWs.map fun v=>V.str (sW v):=by
  have:(["and","or","but","unlike","upon","until","near","till"]:List Str)=pairWs.map sW:=by decide +kernel
  have:=congrArg (List.map V.str) this
  rw[List.map_map] at this
  exact this
 rw[e]
 unfold inV
 rw[List.any_map,Bool.eq_iff_iff,List.any_eq_true,decide_eq_true_eq]
 constructor
 ·rintro⟨v,hv,h⟩
  have h:(sW v==sW w)=true:=h
  have:=eq_of_beq h
  have:v=w:=by rw[←cpl_sW v,this,cpl_sW]
  exact this ▸ hv
 ·intro h
  exact⟨w,h,by show(sW w==sW w)=true;exact beq_self_eq_true _⟩
theorem sk_later:Str.ofString "later"=sW kLater:=by decide +kernel
theorem sk_of:Str.ofString "of"=sW kOf:=by decide +kernel
theorem sk_not:Str.ofString "not"=sW kNot:=by decide +kernel
theorem sk_every:Str.ofString "every"=sW kEvery:=by decide +kernel
theorem sk_all:Str.ofString "all"=sW kAll:=by decide +kernel
theorem sk_none:Str.ofString "none"=sW kNone:=by decide +kernel
theorem sk_date:Str.ofString "date"=sW kDate:=by decide +kernel
theorem tkU_some{x:Wd}{ts:List Wd}{a:Unit}{r:List Wd}(h:tkU x ts=some (a,r)):tkW x ts=some r:=by
 unfold tkU at h
 obtain⟨b,h1,h2⟩:=Option.map_eq_some_iff.mp h
 injection h2 with _ h2
 rw[h1,h2]
theorem tkU_none{x:Wd}{ts:List Wd}(h:tkU x ts=none):tkW x ts=none:=Option.map_eq_none_iff.mp h
theorem log75{i:Int}(h1: -1000000≤i)(h2:i≤1000000):i.natAbs.log2<1920:=by
 have b:Bt 200 i:=bt_of (by omega) (by omega)
 unfold Bt at b
 by_cases z:i.natAbs=0
 ·rw[z];decide
 ·exact Nat.lt_of_lt_of_le ((Nat.log2_lt z).mpr b) (by decide)
theorem mk_same75{H:Hp}{y dy:Addr}{o:HO}(hy:H y=none)(hdy:H dy=none)(ne:dy≠y):Same H (upd (upd H dy (.own y)) y o):=(same_new hdy _).trans (same_new (by rw[upd_ne (Ne.symm ne)];exact hy) _)
def spEachT75:Sp:=fun vs H Q _=>∃n r:Int,vs=[.int n,.int r]∧1≤n∧n≤1000∧∀z,Q (.str z) H
def spIE75(K:PySem.W.Frag)(CR:Addr)(CL:List Addr)(C:Addr):Sp:=fun vs H Q _=>∃(x:Addr) (n r:Int),vs=[.ref x,.int n,.int r]∧1≤n∧n≤1000∧MadeR K CR CL C H x Q n (fun _=>True)
def spI175(K:PySem.W.Frag)(CR:Addr)(CL:List Addr)(C:Addr):Sp:=fun vs H Q _=>∃(x r:Addr) (n:Int) (b:Nat),vs=[.ref x,.ref r]∧RuleO K CR CL H r n b∧MadeR K CR CL C H x Q n (fun _=>True)
def spI275(K:PySem.W.Frag)(CR:Addr)(CL:List Addr)(C:Addr):Sp:=fun vs H Q _=>∃(x r t:Addr) (n1 n2:Int) (b1 b2:Nat),vs=[.ref x,.ref r,.ref t]∧RuleO K CR CL H r n1 b1∧RuleO K CR CL H t n2 b2∧lcmI n1 n2≤150000∧MadeR K CR CL C H x Q (lcmI n1 n2) (fun _=>True)
def spMP75(K:PySem.W.Frag)(CR:Addr)(CL:List Addr):Sp:=fun vs H Q _=>∃(a b:Addr) (b1 b2:Nat),vs=[.str (sW kOr),.ref a,.ref b]∧RuleO K CR CL H a 1 b1∧RuleO K CR CL H b 1 b2∧∀x c H',Same H H'→RuleO K CR CL H' x 1 c→Q (.ref x) H'
def Pl.dep:Pl→Nat
 | .not p=>p.dep+1
 | .pair _ p q=>max p.dep q.dep+1
 | _=>0
def spMade75(K:PySem.W.Frag)(CR:Addr)(CL:List Addr)(d:Nat):Sp:=fun vs H Q _=>∃(v vc:V) (p:Pl),vs=[v,vc]∧PlH H p v∧p.okB=true∧p.dep<d∧∀x b H',Same H H'→RuleO K CR CL H' x 1 b→Q (.ref x) H'
theorem spMade75_zero{K:PySem.W.Frag}{CR:Addr}{CL:List Addr}{vs:List V}{H:Hp}{Q:VK}{E:XK}(h:spMade75 K CR CL 0 vs H Q E):False:=by
 obtain⟨_,_,p,_,_,_,h,_⟩:=h
 omega
def okR(T:Wd):Bool:=match readS numVal T with
 | some p=>p.okB&&decide (p.dep<45)
 | none=>false
def spRead75(cR:Addr):Sp:=fun vs H Q E=>∃v vc:V,vs=[v,vc]∧Hnd H v∧(isT v=false∨∃z,v=.str z∧(readS numVal (cpl z)=none∨okR (cpl z)=true))∧(∀z,v=.str z→okR (cpl z)=true→∀x H',Same H H'→Q x H')∧((∀z,v=.str z→okR (cpl z)=false)→∀H',Same H H'→E (.ref cR) none H')
theorem ptok_cL(p:Wd):(ptok p).count kL=p.length-(opd p).length∧(ptok p).count kR=(opd p).length-(core p).length:=by
 have n:=core_nb p
 unfold ptok
 rw[List.count_append,List.count_append,List.count_append,List.count_append,List.count_replicate,List.count_replicate,List.count_replicate,List.count_replicate,List.count_cons,List.count_cons]
 simp[n.1,n.2,show(kL==kR)=false by decide,show(kR==kL)=false by decide,show kL≠kR by decide,show kR≠kL by decide]
theorem words_dd:∀{ps:List Wd} {d:Int} {ts:List Wd},wordsOf d ps=some ts→d≤40→∀l m,ts=l++m→d+ht l≤40
 | [],d,ts,h,hd,l,m,e=>by
  simp only[wordsOf] at h
  cases h
  have:l=[]:=(List.append_eq_nil_iff.mp e.symm).1
  subst this
  show d+0≤40
  omega
 | p::ps,d,ts,h,hd,l,m,e=>by
  simp only[wordsOf] at h
  split at h
  ·cases h
  ·split at h
   ·cases h
   ·rename_i h40
    split at h
    ·cases h
    ·rename_i r hr
     cases h
     have c:=ptok_cL p
     have a:=opd_le p
     have b:=core_le p
     rcases List.append_eq_append_iff.mp e.symm with ⟨u,e1,e2⟩ | ⟨u,e1,e2⟩
     ·have h1:l.count kL≤(ptok p).count kL:=by rw[e1,List.count_append];omega
      unfold ht
      omega
     ·have ih:=words_dd hr (by omega) u m e2
      rw[e1,ht_app]
      have:ht (ptok p)=((p.length:Int)-((opd p).length:Int))-(((opd p).length:Int)-((core p).length:Int)):=by
       unfold ht
       rw[c.1,c.2]
       omega
      omega
theorem tok_mem{p w:Wd}(h:w∈ptok p):w=kL∨w=kR∨w=core p:=by
 unfold ptok at h
 rcases List.mem_append.mp h with h | h
 ·rcases List.mem_append.mp h with h | h
  ·exact .inl (List.eq_of_mem_replicate h)
  ·exact .inr (.inr (List.mem_singleton.mp h))
 ·exact .inr (.inl (List.eq_of_mem_replicate h))
theorem words_ok{z:Str}(hz:TOk z)(zl:(cpl z).length≤4000){ts:List Wd}(h:wordsOf 0 (spl 32 (cpl z))=some ts):ts.length≤100000∧(∀w∈ts,TOk (sW w))∧(∀w∈ts,w≠[])∧DD 41 ts:=by
 obtain⟨e,g⟩:=words_good h
 have fl:=flat_len (spl 32 (cpl z))
 have wt:=spl_wt 32 (cpl z)
 refine⟨?_,fun w hw=>?_,fun w hw=>?_,fun l m e=>?_⟩
 ·rw[e]
  exact Nat.le_trans fl (by rw[wt];omega)
 ·rw[e] at hw
  obtain⟨p,hp,hw⟩:=List.mem_flatMap.mp hw
  rcases tok_mem hw with rfl | rfl | rfl
  ·exact⟨by decide +kernel,by decide +kernel⟩
  ·exact⟨by decide +kernel,by decide +kernel⟩
  ·have hs:=spl_tok hz p hp
   have sub:∀c∈core p,c∈p:=fun c hc=>by rw[pc_eq p];simp[hc]
   have pl:p.length+1≤((spl 32 (cpl z)).map fun w=>w.length+1).sum:=mem_sum (List.mem_map.mpr ⟨p,hp,rfl⟩)
   refine⟨asc_iff.mpr fun c hc=>?_,?_⟩
   ·rw[cpl_sW] at hc
    exact hs c (sub c hc)
   ·rw[sW_len]
    have:=core_le p
    have:=opd_le p
    rw[wt] at pl
    omega
 ·rw[e] at hw
  obtain⟨p,hp,hw⟩:=List.mem_flatMap.mp hw
  rcases tok_mem hw with rfl | rfl | rfl
  ·decide
  ·decide
  ·exact g p hp
 ·have:=words_dd h (by decide) l m e
  omega
theorem at_zero{x:V}{xs:List V}:atI (x::xs) 0=some x:=by
 simp only[atI,ixN]
 rw[if_pos (Int.le_refl 0)]
 simp
theorem okR_not{T:Wd}(h:readS numVal T=none):okR T=false:=by unfold okR;rw[h]
theorem dg_head{cs:List Nat}(h:∀c∈cs,48≤c∧c≤57):cs.head?≠some 45:=by
 cases cs with
 | nil=>exact fun z=>nomatch z
 | cons a r=>
  intro z
  injection z with z
  have:=h a List.mem_cons_self
  omega
theorem dT_len{n:Nat}(h:n<10^60):(cpl (intT (n:Int))).length≤60:=by
 rw[dT,List.length_map]
 exact(Nat.length_toDigits_le_iff (by decide) (by decide)).mpr h
theorem figs_pos{cs:List Nat}(h:cs.head?≠some 45):figs cs=cs:=by unfold figs;rw[if_neg h]
theorem val_pos{cs:List Nat}(h:cs.head?≠some 45):numVal cs=((PySem.NumText.digitsVal cs:Nat):Int):=by unfold numVal;rw[if_neg h,figs_pos h]
theorem figs_int{y:Int}(h:y.natAbs<10^60):IsNum (cpl (intT y))∧numVal (cpl (intT y))=y∧47∉cpl (intT y):=by
 have id:=int_digits y.natAbs
 have dl:=dT_len h
 have z0:(cpl (intT ((y.natAbs:Nat):Int))).head?=some 48→cpl (intT ((y.natAbs:Nat):Int))=[48]:=by
  have c:=(canon_iff id.1 id.2.1).mp (by rw[id.2.2])
  exact c
 have l1:1≤(cpl (intT ((y.natAbs:Nat):Int))).length:=by
  cases hh:cpl (intT ((y.natAbs:Nat):Int)) with
  | nil=>exact absurd hh id.2.1
  | cons a r=>simp
 rcases Int.lt_or_le y 0 with c | c
 ·have e:cpl (intT y)=45::cpl (intT ((y.natAbs:Nat):Int)):=by
   cases y with
   | ofNat k=>exact absurd c (by simp)
   | negSucc k=>
    show cpl (intT (Int.negSucc k))=45::cpl (intT (((k+1:Nat)):Int))
    rw[dT]
    unfold intT cpl
    rw[signs_ofString]
    show(("-"++Nat.repr (k+1)).toList).map Char.toNat=_
    rw[String.toList_append,List.map_append,Nat.toList_repr]
    rfl
  have hh:(cpl (intT y)).head?=some 45:=by rw[e];rfl
  have ef:figs (cpl (intT y))=cpl (intT ((y.natAbs:Nat):Int)):=by unfold figs;rw[if_pos hh,e];rfl
  refine⟨⟨by rw[ef];exact l1,by rw[ef];exact dl,by rw[ef];exact id.1,fun z=>?_⟩,?_,?_⟩
  ·rw[ef] at z
   have:=z0 z
   have v:=id.2.2
   rw[this] at v
   have:PySem.NumText.digitsVal [48]=0:=rfl
   omega
  ·unfold numVal
   rw[if_pos hh,ef,id.2.2]
   omega
  ·rw[e]
   intro z
   rcases List.mem_cons.mp z with z | z
   ·omega
   ·have:=id.1 47 z
    omega
 ·have e:intT y=intT ((y.natAbs:Nat):Int):=by congr 1;omega
  rw[e]
  have h45:=dg_head id.1
  refine⟨⟨by rw[figs_pos h45];exact l1,by rw[figs_pos h45];exact dl,by rw[figs_pos h45];exact id.1,fun z=>z0 (by rw[figs_pos h45] at z;exact z)⟩,?_,fun z=>by have:=id.1 47 z;omega⟩
  rw[val_pos h45,id.2.2]
  omega
theorem num75{y:Int}(h:y.natAbs<10^60):numB (cpl (intT y))=true:=(nu_iff _).mp (figs_int h).1
theorem cpl_ap(a b:Str):cpl (a++b)=cpl a++cpl b:=by
 show(a.cps++b.cps).toList=_
 rw[Array.toList_append]
 rfl
theorem ln_ap(a b:Str):(a++b).length=a.length+b.length:=by rw[←len_cpl,cpl_ap,List.length_append,len_cpl,len_cpl]
structure R7(k:Nat)(z:Str):Prop where
 ex:∃ps,cpl z=jn ps∧Txt7 ps∧Pr7 numVal k ps
 ln:z.length≤200*k
theorem num_asc{n:Wd}(h:numB n=true):∀c∈n,c<128:=fun c hc=>by
 have g:=List.all_eq_true.mp (num_gs h) c hc
 unfold gs at g
 simp only[Bool.or_eq_true,Bool.and_eq_true,decide_eq_true_eq] at g
 omega
def AscL(l:Wd):Prop:=∀c∈l,c<128
theorem AscL.app{a b:Wd}(h:AscL a)(g:AscL b):AscL (a++b):=fun c hc=>(List.mem_append.mp hc).elim (h c) (g c)
structure T7(k:Nat)(z:Str):Prop extends R7 k z where
 as:AscL (cpl z)
theorem T7.ok{k:Nat}{z:Str}(T:T7 k z)(h:k≤20):TOk z:=⟨asc_iff.mpr T.as,by have:=T.ln;omega⟩
def spLeaf75:Sp:=fun vs H Q _=>∃x:Int,vs=[.int x]∧∀z H',Same H H'→T7 1 z→z.length≤100→Q (.str z) H'
def spJoin75:Sp:=fun vs H Q _=>∃(z:Str) (c b:Int) (k:Nat),vs=[.str z,.int c,.int b]∧T7 k z∧1≤k∧k≤10∧∀y H',Same H H'→T7 (k+1) y→Q (.str y) H'
def spText75(K:PySem.W.Frag):Sp:=fun vs H Q _=>∃(a:Addr) (ns:List Int),vs=[.ref a]∧SqL K H a (ns.map V.int)∧ns.length≤63∧∀z k H',Same H H'→T7 k z→k≤8→Q (.str z) H'
def spPlaces75:Sp:=fun vs H Q _=>∃(z g:Str),vs=[.str z,.str g]∧z.length≤4000∧∀l (ds:List Int) H',H l=none→Same H H'→H' l=some (.lst (ds.map V.int))→(∀d∈ds,0≤d∧∃c,(cpl z)[d.toNat]?=some c∧c∈cpl g)→(ds=[]→∀c∈cpl z,c∉cpl g)→ds.length≤4000→Q (.ref l) H'
def NoR(z:Str):Prop:=TOk z∧readS numVal (cpl z)=none
def spOdd75:Sp:=fun vs H Q _=>∃c:Int,vs=[.int c]∧∀z H',Same H H'→NoR z→Q (.str z) H'
def spBrk75:Sp:=fun vs H Q _=>∃(z:Str) (c:Int) (k:Nat),vs=[.str z,.int c]∧T7 k z∧k≤8∧∀y H',Same H H'→NoR y→Q (.str y) H'
def spBlank75:Sp:=fun vs H Q _=>∃(z p:Str) (c:Int) (k:Nat),vs=[.str z,.int c,.str p]∧T7 k z∧k≤8∧(p=Str.ofString "  "∨p=Str.ofString "")∧∀y H',Same H H'→NoR y→Q (.str y) H'
def spSpoil75:Sp:=fun vs H Q _=>∃(z:Str) (w c:Int) (k:Nat),vs=[.str z,.int w,.int c]∧T7 k z∧k≤8∧∀y H',Same H H'→NoR y→Q (.str y) H'
def spDeep75:Sp:=fun vs H Q _=>∃n:Nat,vs=[.int (n:Int)]∧n≤50∧∀H',Same H H'→Q (.str (sW (deepT n))) H'
def lgN:Bool→Wd
 | true=>n28++[49]
 | false=>n28
def lgI:Bool→Int
 | true=>29
 | false=>28
def spLong75:Sp:=fun vs H Q _=>∃b:Bool,vs=[.int (lgI b)]∧∀H',Same H H'→Q (.str (sW (lgT (lgN b)))) H'
def spTold75:Sp:=fun vs H Q _=>∃v vc:V,vs=[v,vc]∧Hnd H v∧(isT v=false∨∃z,v=.str z∧(readS numVal (cpl z)=none∨okR (cpl z)=true))∧(∀z,v=.str z→okR (cpl z)=true→∀H',Same H H'→Q (.bl false) H')∧((∀z,v=.str z→okR (cpl z)=false)→∀H',Same H H'→Q (.bl true) H')
theorem deep40R:okR (deepT 40)=true:=by decide +kernel
theorem long28R:okR (lgT n28)=true:=by decide +kernel
theorem nm_facts{y:Int}(h1: -100000000000000000000000000000000000000000≤y)(h2:y≤100000000000000000000000000000000000000000):∃n:Wd,intT y=sW n∧numB n=true∧n.length≤61∧y.natAbs.log2<1920:=by
 have h:y.natAbs<10^60:=by
  have:(10:Nat)^60=1000000000000000000000000000000000000000000000000000000000000:=by decide
  omega
 have F:=(figs_int h).1
 refine⟨cpl (intT y),(sW_cpl _).symm,num75 h,?_,?_⟩
 ·have:=F.hi
  unfold figs at this
  split at this
  ·rw[List.length_drop] at this;omega
  ·omega
 ·have b:Bt 200 y:=bt_of (by omega) (by omega)
  unfold Bt at b
  by_cases z:y.natAbs=0
  ·rw[z];decide
  ·exact Nat.lt_of_lt_of_le ((Nat.log2_lt z).mpr b) (by decide)
theorem c_e7:cpl (Str.ofString "each 7 from ")=[101,97,99,104,32,55,32,102,114,111,109,32]:=by decide +kernel
theorem c_d1:cpl (Str.ofString "date sun 1 * each 2 from ")=[100,97,116,101,32,115,117,110,32,49,32,42,32,101,97,99,104,32,50,32,102,114,111,109,32]:=by decide +kernel
theorem c_x0:cpl (Str.ofString "(")=[40]:=by decide +kernel
theorem c_x1:cpl (Str.ofString " ")=[32]:=by decide +kernel
theorem c_x2:cpl (Str.ofString ")")=[41]:=by decide +kernel
theorem c_x3:cpl (Str.ofString "(not ")=[40,110,111,116,32]:=by decide +kernel
theorem c_x4:cpl (Str.ofString " later ")=[32,108,97,116,101,114,32]:=by decide +kernel
theorem c_x5:cpl (Str.ofString " of ")=[32,111,102,32]:=by decide +kernel
theorem c_x6:cpl (Str.ofString " from ")=[32,102,114,111,109,32]:=by decide +kernel
theorem c_x7:cpl (Str.ofString "(every 2 of ")=[40,101,118,101,114,121,32,50,32,111,102,32]:=by decide +kernel
theorem c_x8:cpl (Str.ofString " or ")=[32,111,114,32]:=by decide +kernel
theorem T7.f(k:Nat){r:Str}{ps:List Wd}(e:cpl r=jn ps)(T:Txt7 ps)(P:Pr7 numVal k ps)(ln:r.length≤200*k)(a:AscL (cpl r)):T7 k r:=⟨⟨⟨ps,e,T,P⟩,ln⟩,a⟩
theorem asc_d{l:Wd}(h:(l.all fun c=>decide (c<128))=true):AscL l:=fun c hc=>of_decide_eq_true (List.all_eq_true.mp h c hc)
theorem jn_wrap{ps:List Wd}(h:ps≠[]):jn (bB (bA ps))=40::jn ps++[41]:=by rw[jn_bB (bA_ne h),jn_bA h]
section
variable{k:Nat}{z y r:Str}{w n:Wd}
theorem T7.up(T:T7 1 y)(h:1≤k):∃qs,cpl y=jn qs∧Txt7 qs∧Pr7 numVal k qs:=by
 obtain⟨qs,e,A,B⟩:=T.ex
 exact⟨qs,e,A,B.mono h⟩
theorem T7.pair(Tz:T7 k z)(Ty:T7 1 y)(k1:1≤k)(hw:w∈pairWs)(e:cpl r=40::(cpl z++32::(w++32::cpl y))++[41])(ln:r.length≤200*(k+1))(a:AscL (cpl r)):T7 (k+1) r:=by
 obtain⟨ps,e1,A,B⟩:=Tz.ex
 obtain⟨qs,e2,A2,B2⟩:=Ty.up k1
 have T:=t7_pair hw A A2
 refine .f (k+1) (ps:=bB (bA (ps++w::qs))) ?_ T (p7_pair hw B B2 fun p hp=>?_) ln a
 ·rw[e,jn_wrap (by simp),jn_app A.ne (by simp),jn_cons A2.ne,e1,e2]
 ·rcases List.mem_append.mp hp with h | h
  ·exact A.co p h
  ·rcases List.mem_cons.mp h with h | h
   ·rw[h];exact(show ∀w∈pairWs,core w≠[] by decide) w hw
   ·exact A2.co p h
theorem T7.pair'(Tz:T7 k z)(Ty:T7 1 y)(k1:1≤k)(hw:w∈pairWs)(e:cpl r=40::(cpl y++32::(w++32::cpl z))++[41])(ln:r.length≤200*(k+1))(a:AscL (cpl r)):T7 (k+1) r:=by
 obtain⟨ps,e1,A,B⟩:=Tz.ex
 obtain⟨qs,e2,A2,B2⟩:=Ty.up k1
 have T:=t7_pair hw A2 A
 refine .f (k+1) (ps:=bB (bA (qs++w::ps))) ?_ T (p7_pair hw B2 B fun p hp=>?_) ln a
 ·rw[e,jn_wrap (by simp),jn_app A2.ne (by simp),jn_cons A.ne,e1,e2]
 ·rcases List.mem_append.mp hp with h | h
  ·exact A2.co p h
  ·rcases List.mem_cons.mp h with h | h
   ·rw[h];exact(show ∀w∈pairWs,core w≠[] by decide) w hw
   ·exact A.co p h
theorem T7.not(Tz:T7 k z)(e:cpl r=40::(kNot++32::cpl z)++[41])(ln:r.length≤200*(k+1))(a:AscL (cpl r)):T7 (k+1) r:=by
 obtain⟨ps,e1,A,B⟩:=Tz.ex
 refine .f (k+1) (ps:=bB (bA (kNot::ps))) ?_ (t7_not A) (p7_not B fun p hp=>?_) ln a
 ·rw[e,jn_wrap (by simp),jn_cons A.ne,e1]
 ·rcases List.mem_cons.mp hp with h | h
  ·rw[h];decide
  ·exact A.co p h
theorem T7.later(Tz:T7 k z)(hn:numB n=true)(e:cpl r=40::(n++32::(kLater++32::cpl z))++[41])(ln:r.length≤200*(k+1))(a:AscL (cpl r)):T7 (k+1) r:=by
 obtain⟨ps,e1,A,B⟩:=Tz.ex
 refine .f (k+1) (ps:=bB (bA (n::kLater::ps))) ?_ (t7_later hn A) (p7_later hn B fun p hp=>?_) ln a
 ·rw[e,jn_wrap (by simp),jn_cons (by simp),jn_cons A.ne,e1]
 ·rcases List.mem_cons.mp hp with h | h
  ·rw[h,(num_core hn).1];exact(num_core hn).2.2.2.1
  ·rcases List.mem_cons.mp h with h | h
   ·rw[h];decide
   ·exact A.co p h
theorem T7.nth(Tz:T7 k z)(Ty:T7 1 y)(k1:1≤k)(hn:numB n=true)(e:cpl r=40::(n++32::(kOf++32::(cpl z++32::(kFrom++32::cpl y))))++[41])(ln:r.length≤200*(k+1))(a:AscL (cpl r)):T7 (k+1) r:=by
 obtain⟨ps,e1,A,B⟩:=Tz.ex
 obtain⟨qs,e2,A2,B2⟩:=Ty.up k1
 refine .f (k+1) (ps:=bB (bA (n::kOf::(ps++kFrom::qs)))) ?_ (t7_nth hn A A2) (p7_nth hn B B2 fun p hp=>?_) ln a
 ·rw[e,jn_wrap (by simp),jn_cons (by simp),jn_cons (by simp),jn_app A.ne (by simp),jn_cons A2.ne,e1,e2]
 ·rcases List.mem_cons.mp hp with h | h
  ·rw[h,(num_core hn).1];exact(num_core hn).2.2.2.1
  ·rcases List.mem_cons.mp h with h | h
   ·rw[h];decide
   ·rcases List.mem_append.mp h with h | h
    ·exact A.co p h
    ·rcases List.mem_cons.mp h with h | h
     ·rw[h];decide
     ·exact A2.co p h
theorem T7.every(Tz:T7 k z)(hn:numB n=true)(e:cpl r=40::(kEvery++32::(k2++32::(kOf++32::(cpl z++32::(kFrom++32::n)))))++[41])(ln:r.length≤200*(k+1))(a:AscL (cpl r)):T7 (k+1) r:=by
 obtain⟨ps,e1,A,B⟩:=Tz.ex
 refine .f (k+1) (ps:=bB (bA (kEvery::k2::kOf::(ps++[kFrom,n])))) ?_ (t7_every hn A) (p7_every hn B fun p hp=>?_) ln a
 ·rw[e,jn_wrap (by simp),jn_cons (by simp),jn_cons (by simp),jn_cons (by simp),jn_app A.ne (by simp),e1]
  rfl
 ·rcases List.mem_cons.mp hp with h | h
  ·rw[h];decide
  rcases List.mem_cons.mp h with h | h
  ·rw[h];decide
  rcases List.mem_cons.mp h with h | h
  ·rw[h];decide
  rcases List.mem_append.mp h with h | h
  ·exact A.co p h
  rcases List.mem_cons.mp h with h | h
  ·rw[h];decide
  ·rw[List.mem_singleton.mp h,(num_core hn).1];exact(num_core hn).2.2.2.1
end
theorem at_strs75{ss:List Str}{k:Int}(h0:0≤k)(h1:k<(ss.length:Int)):∃z,z∈ss∧atI (ss.map V.str) k=some (.str z):=by
 have hk:k.toNat<ss.length:=by omega
 refine⟨ss[k.toNat],List.getElem_mem hk,?_⟩
 have:=atI_nat (xs:=ss.map V.str) (j:=k.toNat) (v:=.str ss[k.toNat]) (by rw[List.getElem?_map,List.getElem?_eq_getElem hk];rfl)
 rwa [show ((k.toNat:Nat):Int)=k by omega] at this
theorem pair_w{z:Str}(h:z∈(["and","or","but","unlike","upon","until","near","till","and"]:List Str)):∃w:Wd,z=sW w∧w∈pairWs∧w.length≤10:=by
 have:∀z∈(["and","or","but","unlike","upon","until","near","till","and"]:List Str),cpl z∈pairWs∧(cpl z).length≤10:=by decide +kernel
 exact⟨cpl z,(sW_cpl z).symm,(this z h).1,(this z h).2⟩
@[elab_as_elim] theorem putL75{H0 H:Hp}{l:Addr}{o:HO}{m:Hp→Prop}(hl:H0 l=none)(s:Same H0 H)(h:∀H',Same H0 H'→H' l=some o→m H'):m (upd H l o):=h _ (same_app hl s) upd_same
def oddS:List Str:=([""," ","(",")","()","not all","(not all","each 3","each 3 from","each from 1",
 "each 03 from 1","each 3 from 01","each 3 from -0","each +3 from 1","each - from 1",
 "date","date sun","date sun 1","date sun 1 2 each 3","date Sun 1 2",
 "date abcdefghi 1 2","date  1 2","date sun ** 1","date sun 1 00","( all and none)",
 "(all and none )","(all And none)","(all xor none)","(3 later)","(3 of all)",
 "(3 of all from)","(every 3 all from 1)","(every of all from 1)","(every 3 of all)",
 "(1 all from none)","(- later all)","ALL","nones"]:List String).map Str.ofString
theorem odd_len:oddS.length=38:=rfl
theorem odd_no:(oddS.all fun z=>(readS numVal (cpl z)).isNone&&asc z&&decide (z.length≤100))=true:=by decide +kernel
theorem odd_nor{z:Str}(h:z∈oddS):NoR z:=by
 have:=List.all_eq_true.mp odd_no z h
 simp only[Bool.and_eq_true,decide_eq_true_eq] at this
 exact⟨⟨this.1.2,Nat.le_trans this.2 (by decide)⟩,Option.isNone_iff_eq_none.mp this.1.1⟩
def inG(z g:Str)(d:Int):Bool:=match (cpl z)[d.toNat]? with
 | some c=>decide (c∈cpl g)
 | none=>false
theorem slT{z:Str}{i:Int}(h0:0≤i)(h1:i≤z.length):cpl (Txt.slice z none (some i))=(cpl z).take i.toNat:=by
 rw[eq_of_beq (slice_closes_toL (x:=z) h0 h1)]
 show(List.drop 0 z.cps.toList).take (i-0).toNat=_
 rw[Int.sub_zero]
 rfl
theorem slF{z:Str}{i:Int}(h0:0≤i)(h1:i≤z.length):cpl (Txt.slice z (some i) none)=(cpl z).drop i.toNat:=by
 rw[slice_from_eq (b:=(z.length:Int)) h0 h1 rfl]
 show((List.drop i.toNat z.cps.toList).take ((z.length:Int)-i).toNat)=_
 rw[List.take_of_length_le]
 ·rfl
 ·rw[List.length_drop]
  have:z.cps.toList.length=z.length:=len_cpl z
  omega
theorem cut75{z:Str}{d:Int}{c:Nat}(h0:0≤d)(h:(cpl z)[d.toNat]?=some c):d+1≤z.length∧cpl z=cpl (Txt.slice z none (some d))++c::cpl (Txt.slice z (some (d+1)) none):=by
 obtain⟨hl,e⟩:=List.getElem?_eq_some_iff.mp h
 have ll:=len_cpl z
 have h1:d+1≤z.length:=by omega
 refine⟨h1,?_⟩
 rw[slT h0 (by omega),slF (by omega) h1,show(d+1).toNat=d.toNat+1 by omega,←e,←List.drop_eq_getElem_cons hl,List.take_append_drop]
theorem spl_app75(x y:Wd):L2.spl 32 (x++32::y)=L2.spl 32 x++L2.spl 32 y:=by
 induction x with
 | nil=>exact spl_at 32 y
 | cons a x ih=>
  by_cases e:a=32
  ·subst e
   rw[List.cons_append,spl_at,spl_at,ih]
   rfl
  ·rw[List.cons_append,spl_not _ e,spl_not _ e,ih,spl_eta 32 x]
   rfl
theorem sp_bl2(x y:Wd):readS numVal (x++32::32::y)=none:=sp_empty (by rw[spl_app75,spl_at];simp)
theorem sp_front(x:Wd):readS numVal (32::x)=none:=sp_empty (by rw[spl_at];simp)
theorem sp_back(x:Wd):readS numVal (x++[32])=none:=sp_empty (by rw[spl_app75];exact List.mem_append_right _ (by decide))
theorem NoR.f{y:Str}(a:AscL (cpl y))(l:y.length≤100000)(h:readS numVal (cpl y)=none):NoR y:=⟨⟨asc_iff.mpr a,Nat.le_trans l (by decide)⟩,h⟩
theorem asc_ap7{a b:Str}(h:AscL (cpl a))(g:AscL (cpl b)):AscL (cpl (a++b)):=by rw[cpl_ap];exact h.app g
theorem asc_sl{z:Str}(h:AscL (cpl z))(lo hi:Option Int):AscL (cpl (Txt.slice z lo hi)):=fun c hc=>h c (slice_mem hc)
theorem c_br:cpl (Str.ofString "()")=[40,41]:=by decide +kernel
theorem c_b2:cpl (Str.ofString "  ")=[32,32]:=by decide +kernel
theorem c_b0:cpl (Str.ofString "")=[]:=by decide +kernel
def sgs:Str:=Str.ofString "ABCDEFGHIJKLMNOPQRSTUVWXYZ.,:;+/_=\n\t\"'#"
theorem sgs_ok:∀c∈cpl sgs,c≠32∧c≠40∧c≠41∧gs c=false∧c<128:=by decide +kernel
theorem sgs_len:(cpl sgs).length=39:=by decide +kernel
theorem at_int75{ds:List Int}{c:Int}(h:ds≠[]):∃d∈ds,atI (ds.map V.int) (c%(ds.length:Int))=some (.int d):=by
 have l:0<ds.length:=List.length_pos_iff.mpr h
 have m0:=Int.emod_nonneg c (show (ds.length:Int)≠0 by omega)
 have m1:=Int.emod_lt_of_pos c (show (0:Int)<(ds.length:Int) by omega)
 have hk:(c%(ds.length:Int)).toNat<ds.length:=by omega
 refine⟨ds[(c%(ds.length:Int)).toNat],List.getElem_mem hk,?_⟩
 rw[at_ints m0 m1,List.getD_eq_getElem?_getD,List.getElem?_eq_getElem hk]
 rfl
theorem z_cl:(Str.ofString ")").length=1:=by decide +kernel
theorem z_op:(Str.ofString "(").length=1:=by decide +kernel
theorem z_bl:(Str.ofString " ").length=1:=by decide +kernel
theorem z_b2:(Str.ofString "  ").length=2:=by decide +kernel
theorem z_b0:(Str.ofString "").length=0:=by decide +kernel
section
variable{k:Nat}{z:Str}
theorem T7.ba(T:T7 k z):(cpl z).count 40=(cpl z).count 41:=by
 obtain⟨ps,e,A,_⟩:=T.ex
 rw[e]
 exact A.ba
theorem T7.brk(T:T7 k z)(h:k≤8){d:Int}(h0:0≤d){c:Nat}(hc:(cpl z)[d.toNat]?=some c)(hg:c∈cpl (Str.ofString "()")):NoR (Txt.slice z none (some d)++Txt.slice z (some (d+1)) none):=by
 obtain⟨h1,e⟩:=cut75 h0 hc
 have a:=Txt.slice_le z none (some d)
 have a':=Txt.slice_le z (some (d+1)) none
 have ln:=T.ln
 refine .f (asc_ap7 (asc_sl T.as _ _) (asc_sl T.as _ _)) (by rw[ln_ap];omega) (sp_count ?_)
 have b:=T.ba
 rw[e,List.count_append,List.count_append,List.count_cons,List.count_cons] at b
 rw[cpl_ap,List.count_append,List.count_append]
 have:c=40∨c=41:=by rw[c_br] at hg;simpa using hg
 rcases this with rfl | rfl<;>simp at b<;>omega
theorem T7.cl(T:T7 k z)(h:k≤8):NoR (z++Str.ofString ")"):=by
 have ln:=T.ln
 have b:=T.ba
 refine .f (asc_ap7 T.as (by rw[c_x2];exact asc_d (by decide))) (by rw[ln_ap,z_cl];omega) (sp_count ?_)
 rw[cpl_ap,c_x2,List.count_append,List.count_append,b]
 have e1:List.count 40 [41]=0:=by decide
 have e2:List.count 41 [41]=1:=by decide
 omega
theorem T7.op(T:T7 k z)(h:k≤8):NoR (Str.ofString "("++z):=by
 have ln:=T.ln
 have b:=T.ba
 refine .f (asc_ap7 (by rw[c_x0];exact asc_d (by decide)) T.as) (by rw[ln_ap,z_op];omega) (sp_count ?_)
 rw[cpl_ap,c_x0,List.count_append,List.count_append,b]
 have e1:List.count 40 [40]=1:=by decide
 have e2:List.count 41 [40]=0:=by decide
 omega
theorem T7.back(T:T7 k z)(h:k≤8):NoR (z++Str.ofString " "):=by
 have ln:=T.ln
 refine .f (asc_ap7 T.as (by rw[c_x1];exact asc_d (by decide))) (by rw[ln_ap,z_bl];omega) ?_
 rw[cpl_ap,c_x1]
 exact sp_back _
theorem T7.front(T:T7 k z)(h:k≤8):NoR (Str.ofString " "++z):=by
 have ln:=T.ln
 refine .f (asc_ap7 (by rw[c_x1];exact asc_d (by decide)) T.as) (by rw[ln_ap,z_bl];omega) ?_
 rw[cpl_ap,c_x1]
 exact sp_front _
theorem T7.bln(T:T7 k z)(h:k≤8){d:Int}(h0:0≤d){c:Nat}(hc:(cpl z)[d.toNat]?=some c)(hg:c∈cpl (Str.ofString " ")){p:Str}(hp:p=Str.ofString "  "∨p=Str.ofString ""):NoR (Txt.slice z none (some d)++p++Txt.slice z (some (d+1)) none):=by
 obtain⟨h1,e⟩:=cut75 h0 hc
 have a:=Txt.slice_le z none (some d)
 have a':=Txt.slice_le z (some (d+1)) none
 have ln:=T.ln
 have:c=32:=by rw[c_x1] at hg;simpa using hg
 subst this
 rcases hp with rfl | rfl
 ·refine .f (asc_ap7 (asc_ap7 (asc_sl T.as _ _) (by rw[c_b2];exact asc_d (by decide))) (asc_sl T.as _ _)) (by rw[ln_ap,ln_ap,z_b2];omega) ?_
  rw[cpl_ap,cpl_ap,c_b2,List.append_assoc]
  exact sp_bl2 _ _
 ·refine .f (asc_ap7 (asc_ap7 (asc_sl T.as _ _) (by rw[c_b0];exact asc_d (by decide))) (asc_sl T.as _ _)) (by rw[ln_ap,ln_ap,z_b0];omega) ?_
  rw[cpl_ap,cpl_ap,c_b0,List.append_nil]
  obtain⟨ps,e1,A,_⟩:=T.ex
  exact sp_blank A (e1.symm.trans e)
theorem T7.sign(T:T7 k z)(h:k≤8)(d:Int){c:Nat}(hc:c∈cpl sgs):NoR (Txt.slice z none (some d)++(⟨#[c]⟩:Str)++Txt.slice z (some d) none):=by
 have a:=Txt.slice_le z none (some d)
 have a':=Txt.slice_le z (some d) none
 have ln:=T.ln
 obtain⟨n1,n2,n3,n4,n5⟩:=sgs_ok c hc
 have ec:cpl (⟨#[c]⟩:Str)=[c]:=rfl
 have el:(⟨#[c]⟩:Str).length=1:=rfl
 refine .f (asc_ap7 (asc_ap7 (asc_sl T.as _ _) (by rw[ec];exact fun x hx=>by rw[List.mem_singleton.mp hx];exact n5)) (asc_sl T.as _ _)) (by rw[ln_ap,ln_ap,el];omega) (sp_sign (c:=c) ?_ n1 n2 n3 n4)
 rw[cpl_ap,cpl_ap,ec]
 simp
theorem T7.wrap(T:T7 k z)(h:k≤8):NoR (Str.ofString "("++z++Str.ofString ")"):=by
 have ln:=T.ln
 refine .f (asc_ap7 (asc_ap7 (by rw[c_x0];exact asc_d (by decide)) T.as) (by rw[c_x2];exact asc_d (by decide))) (by
  rw[ln_ap,ln_ap]
  have:(Str.ofString "(").length=1:=by decide +kernel
  rw[z_cl];omega) ?_
 obtain⟨ps,e,A,P⟩:=T.ex
 rw[cpl_ap,cpl_ap,c_x0,c_x2,e]
 exact sp_wrap A (P.mono (by omega))
theorem T7.tail(T:T7 k z)(h:k≤8){t:Str}(ht:t∈([Str.ofString " and all",Str.ofString " all",Str.ofString " each 2 from 1 1",Str.ofString "all"]:List Str)):NoR (z++t):=by
 have ln:=T.ln
 have hl:∀t∈([Str.ofString " and all",Str.ofString " all",Str.ofString " each 2 from 1 1",Str.ofString "all"]:List Str),t.length≤100∧((cpl t).all fun c=>decide (c<128))=true:=by decide +kernel
 obtain⟨l1,l2⟩:=hl t ht
 refine .f (asc_ap7 T.as (asc_d l2)) (by rw[ln_ap];omega) ?_
 obtain⟨ps,e,A,P⟩:=T.ex
 have P:=P.mono (show k≤41 by omega)
 rw[cpl_ap,e]
 simp only[List.mem_cons,List.not_mem_nil,or_false] at ht
 rcases ht with rfl | rfl | rfl | rfl
 ·rw[show cpl (Str.ofString " and all")=32::jn [[97,110,100],kAll] by decide +kernel]
  exact sp_more A P (by decide) (by decide) (by decide) (by decide)
 ·rw[show cpl (Str.ofString " all")=32::jn [kAll] by decide +kernel]
  exact sp_more A P (by decide) (by decide) (by decide) (by decide)
 ·rw[show cpl (Str.ofString " each 2 from 1 1")=32::jn [kEach,k2,kFrom,k1,k1] by decide +kernel]
  exact sp_each A P
 ·rw[show cpl (Str.ofString "all")=kAll by decide +kernel]
  exact sp_tail A
theorem big75(c:Int):∃w:Wd,intT (10^(60:Int).toNat+c%10^(60:Int).toNat)=sW w∧w.length=61∧(∀a∈w,48≤a∧a≤57)∧(10^(60:Int).toNat+c%10^(60:Int).toNat:Int).natAbs.log2<1920:=by
 rw[p60]
 have g0:=Int.emod_nonneg c (show (1000000000000000000000000000000000000000000000000000000000000:Int)≠0 by decide)
 have g1:=Int.emod_lt_of_pos c (show (0:Int)<1000000000000000000000000000000000000000000000000000000000000 by decide)
 generalize c%1000000000000000000000000000000000000000000000000000000000000=m at g0 g1
 obtain⟨n,hn⟩:∃n:Nat,1000000000000000000000000000000000000000000000000000000000000+m=(n:Int):=⟨(1000000000000000000000000000000000000000000000000000000000000+m).toNat,by omega⟩
 rw[hn]
 have id:=int_digits n
 have e60:(10:Nat)^60=1000000000000000000000000000000000000000000000000000000000000:=by decide
 have e61:(10:Nat)^61=10000000000000000000000000000000000000000000000000000000000000:=by decide
 refine⟨cpl (intT (n:Int)),(sW_cpl _).symm,?_,id.1,?_⟩
 ·rw[dT,List.length_map]
  have a:=(Nat.length_toDigits_le_iff (b:=10) (n:=n) (k:=61) (by decide) (by decide)).mpr (by omega)
  have b:¬(Nat.toDigits 10 n).length≤60:=fun z=>by
   have:=(Nat.length_toDigits_le_iff (b:=10) (n:=n) (k:=60) (by decide) (by decide)).mp z
   omega
  omega
 ·have z:((n:Int)).natAbs≠0:=by omega
  have b:((n:Int)).natAbs.log2<250:=(Nat.log2_lt z).mpr (Nat.lt_of_lt_of_le (show ((n:Int)).natAbs<10^61 by rw[e61];omega) (by decide))
  omega
theorem T7.big(T:T7 k z)(h:k≤8){w:Wd}(wl:w.length=61)(wd:∀a∈w,48≤a∧a≤57):NoR (Str.ofString "("++z++Str.ofString " and each 1 from "++sW w++Str.ofString ")"):=by
 have ln:=T.ln
 have ca:cpl (Str.ofString " and each 1 from ")=[32,97,110,100,32,101,97,99,104,32,49,32,102,114,111,109]++[32]:=by decide +kernel
 refine .f ?_ (by
  rw[ln_ap,ln_ap,ln_ap,ln_ap,sW_len]
  have:(Str.ofString "(").length=1:=by decide +kernel
  have:(Str.ofString ")").length=1:=by decide +kernel
  have:(Str.ofString " and each 1 from ").length=17:=by decide +kernel
  omega) ?_
 ·exact asc_ap7 (asc_ap7 (asc_ap7 (asc_ap7 (by rw[c_x0];exact asc_d (by decide)) T.as) (by rw[ca];exact asc_d (by decide))) (by rw[cpl_sW];exact fun a ha=>by have:=wd a ha;omega)) (by rw[c_x2];exact asc_d (by decide))
 ·rw[cpl_ap,cpl_ap,cpl_ap,cpl_ap,ca,c_x2,cpl_sW]
  have h40:w.head?≠some 40:=by
   cases w with
   | nil=>cases wl
   | cons a r=>intro z;injection z with z;have:=wd a List.mem_cons_self;omega
  have h45:w.head?≠some 45:=dg_head wd
  have h41:w.getLast?≠some 41:=fun z=>by have:=wd 41 (List.mem_of_getLast? z);omega
  have cw:=core_self h40 h41
  have ne:w≠[]:=fun z=>by rw[z] at wl;cases wl
  have cs:core (w++[41])=w:=by rw[core_snoc (core_opd (by rw[cw];exact ne)),cw]
  refine sp_word (w:=w++[41]) ?_ ?_ ?_
  ·generalize cpl (Str.ofString "(")++cpl z=u
   generalize ([32,97,110,100,32,101,97,99,104,32,49,32,102,114,111,109]:Wd)=v
   rw[show u++(v++[32])++w++[41]=(u++v)++32::(w++[41]) by simp,spl_app75]
   refine List.mem_append_right _ ?_
   rw[spl_one 32 (w++[41])]
   ·exact List.mem_singleton.mpr rfl
   ·intro z
    rcases List.mem_append.mp z with z | z
    ·have:=wd 32 z
     omega
    ·exact absurd (List.mem_singleton.mp z) (by decide)
  ·rw[cs]
   rintro(z | z)
   ·have:=(show ∀w∈kws,w.length<61 by decide) w z
    omega
   ·have:=((nu_iff w).mpr z).hi
    rw[figs_pos h45] at this
    omega
  ·rw[cs]
   unfold nameB
   rw[show decide (w.length≤8)=false from decide_eq_false (by omega)]
   simp
end
theorem n28T:intT (10^(27:Int).toNat+7)=sW n28:=by decide +kernel
theorem gr_len:∀i,(grT i).length+6=9*2^i
 | 0=>rfl
 | i+1=>by
  have ih:=gr_len i
  show(40::grT i++32::kOr++32::grT i++[41]).length+6=_
  simp only[List.length_append,List.length_cons,List.length_nil,show kOr.length=2 from rfl]
  rw[Nat.pow_succ]
  omega
theorem gr_le{i:Nat}(h:i≤8):(grT i).length≤2298:=by
 have:=gr_len i
 have:2^i≤2^8:=Nat.pow_le_pow_right (by decide) h
 omega
def lgF(t:Wd)(k:Nat):Wd:=40::grT k++32::kOr++32::t++[41]
def lgJ(b:Bool):Wd:=jn [kEach,k1,kFrom,lgN b]
theorem lgJ_t:Str.ofString "each 1 from "++sW n28++Str.ofString "1"=sW (lgJ true):=by decide +kernel
theorem lgJ_f:Str.ofString "each 1 from "++sW n28=sW (lgJ false):=by decide +kernel
theorem lgJ_l(b:Bool):(lgJ b).length≤41:=by cases b<;>decide
theorem gr_at{k:Nat}(h:k≤8):atI ((List.range (8+1)).map fun j=>V.str (sW (grT j))) (k:Int)=some (.str (sW (grT k))):=atI_nat (by
 rw[List.getElem?_map,List.getElem?_range (by omega)]
 rfl)
theorem no29:NoR (sW (lgT (lgN true))):=.f (by rw[cpl_sW];exact asc_d (by decide +kernel)) (by rw[sW_len];exact Nat.le_trans (Nat.le_of_eq len29) (by decide)) (by rw[cpl_sW];exact Option.isNone_iff_eq_none.mp long29)
theorem ok28:TOk (sW (lgT (lgN false))):=⟨asc_iff.mpr (by rw[cpl_sW];exact asc_d (by decide +kernel)),by rw[sW_len];exact Nat.le_trans (Nat.le_of_eq len28) (by decide)⟩
theorem no41:NoR (sW (deepT 41)):=.f (by rw[cpl_sW];exact asc_d (by decide +kernel)) (by rw[sW_len];decide +kernel) (by rw[cpl_sW];exact Option.isNone_iff_eq_none.mp deep41)
theorem ok40:TOk (sW (deepT 40)):=⟨asc_iff.mpr (by rw[cpl_sW];exact asc_d (by decide +kernel)),by rw[sW_len];decide +kernel⟩
section
variable{H:Hp}{Q:VK}{E:XK}{vc:V}
theorem told_no{z:Str}(N:NoR z)(q:∀H',Same H H'→Q (.bl true) H'):spTold75 [.str z,vc] H Q E:=by
 refine⟨_,_,rfl,.txt z N.1,.inr ⟨z,rfl,.inl N.2⟩,fun z' e h=>?_,fun _=>q⟩
 injection e with e
 subst e
 rw[okR_not N.2] at h
 cases h
theorem told_ok{z:Str}(t:TOk z)(h:okR (cpl z)=true)(q:∀H',Same H H'→Q (.bl false) H'):spTold75 [.str z,vc] H Q E:=by
 refine⟨_,_,rfl,.txt z t,.inr ⟨z,rfl,.inr h⟩,fun _ _ _=>q,fun g=>?_⟩
 have:=g z rfl
 rw[h] at this
 cases this
theorem told_non{v:V}(hv:Hnd H v)(h:isT v=false)(q:∀H',Same H H'→Q (.bl true) H'):spTold75 [v,vc] H Q E:=by
 refine⟨v,vc,rfl,hv,.inl h,fun z e=>?_,fun _=>q⟩
 subst e
 cases h
end
structure Errs(K:PySem.W.Frag)(mg:Str→Option Value)(c_FeastError c_NoNumber c_TooLong c_NoMeasure c_NoRule c_NoName c_Rule c_All c_No c_Each c_Dated c_Not c_Both c_Either c_But c_Unlike c_Later c_Upon c_Until c_Near c_Till c_Kth c_Every c_Reader c_Measure c_Calendar c_Sun:Addr):Prop where
 m_FeastError:mg "FeastError"=some (.ref c_FeastError)
 h_NoRule:HCls K mg "NoRule" c_NoRule
 m_NoName:mg "NoName"=some (.ref c_NoName)
 x_NoRule:XCls K mg "NoRule" c_NoRule
 g_NoRule:XGet K c_NoRule
 i_NoRule_FeastError:PySem.W.kitOne K (.ref c_NoRule) (.ref c_FeastError)=some true
 r_NoRule_NoRule:PySem.W.mroIn K c_NoRule (.ref c_NoRule)=some true
 i_NoRule_NoName:PySem.W.kitOne K (.ref c_NoRule) (.ref c_NoName)=some false
 cl_Measure:Cls K c_Measure
 na_Measure_base:NoAttr K c_Measure "base"
 na_Measure_terms:NoAttr K c_Measure "terms"
 na_Measure_full_count:NoAttr K c_Measure "full_count"
 na_Measure_full_sum:NoAttr K c_Measure "full_sum"
 cl_Sun:Cls K c_Sun
 na_Sun_start:NoAttr K c_Sun "start"
 na_Sun_months:NoAttr K c_Sun "months"
 na_Sun_leap:NoAttr K c_Sun "leap"
 na_Sun_years:NoAttr K c_Sun "years"
 cl_Reader:Cls K c_Reader
 na_Reader_words:NoAttr K c_Reader "words"
 na_Reader_place:NoAttr K c_Reader "place"
 cl_All:Cls K c_All
 rc_All:RC K c_Rule c_All
 cl_No:Cls K c_No
 rc_No:RC K c_Rule c_No
 cl_Each:Cls K c_Each
 rc_Each:RC K c_Rule c_Each
 cl_Not:Cls K c_Not
 rc_Not:RC K c_Rule c_Not
 cl_Either:Cls K c_Either
 rc_Either:RC K c_Rule c_Either
section
variable{P:Program}{w:World}{K:PySem.W.Frag}{mg:Str→Option Value}{base:Heap}
variable{c_FeastError c_NoNumber c_TooLong c_NoMeasure c_NoRule c_NoName c_Rule c_All c_No c_Each c_Dated c_Not c_Both c_Either c_But c_Unlike c_Later c_Upon c_Until c_Near c_Till c_Kth c_Every c_Reader c_Measure c_Calendar c_Sun:Addr}
theorem sc_Reader___init__:FnScope ["self","words"] ["self","words"] (defScope s_Reader___init__):=⟨rfl,rfl,rfl,by decide +kernel,rfl,by decide +kernel,by decide +kernel⟩
theorem ok_Reader___init__{f:Addr}{fd:FuncData}(F:Fun K "__init__" "Reader.__init__" s_Reader___init__ f fd)(er:Errs K mg c_FeastError c_NoNumber c_TooLong c_NoMeasure c_NoRule c_NoName c_Rule c_All c_No c_Each c_Dated c_Not c_Both c_Either c_But c_Unlike c_Later c_Upon c_Until c_Near c_Till c_Kth c_Every c_Reader c_Measure c_Calendar c_Sun)(z_tuple:mg "tuple"=none):FnOk P w K mg base CX0 1 f fd ["self","words"] (spInitR c_Reader):=by
 refine F.ok (k:=0) sc_Reader___init__ (fun vs H Q E h=>?_) (fun cdv A outer s H vs Q E hr h=>?_)
 ·obtain⟨x,dx,l,ws,rfl,_⟩:=h
  rfl
 obtain⟨x,dx,l,ws,rfl,hx,hl,wl,wo,wn,q⟩:=h
 have lx:l≠x:=ne_of hl hx (by intro z;cases z)
 refine⟨_,(pss_cons (ps_fld (pv 0) (pe_callTy call_tuple_of rfl z_tuple PyProof.Rows.boot_tuple (pa_cons (pv 1) pa_nil)) (by rfl))
  (pss_one (ps_fld (pv 0) pe_int (by rfl)))),?_⟩
 walk_at "rd"
 refine⟨l,_,rfl,.inl ⟨SqL.of hl,fun p hp=>?_⟩⟩
 have px:x≠p:=ne_of_none hx hp
 refine fresh hp fun H1 s1 t1=>?_
 walk_at "rd"
 refine⟨x,c_Reader,dx,[],rfl,s1 _ _ hx,er.cl_Reader,er.na_Reader_words,by decide,?_⟩
 refine put7 fun H2 k2 x2=>?_
 walk_at "rd"
 refine⟨x,c_Reader,dx,_,rfl,x2,er.cl_Reader,er.na_Reader_place,(by show 1<1000;decide),?_⟩
 refine put7 fun H3 k3 x3=>?_
 walk_at "rd"
 exact q p H3 (fun y o hy e=>k3 y o hy (k2 y o hy (s1 _ _ e))) ⟨⟨dx,x3⟩,k3 _ _ (Ne.symm px) (k2 _ _ (Ne.symm px) t1),wl,wo,wn⟩
theorem sc_Reader_peek:FnScope ["self"] ["self"] (defScope s_Reader_peek):=⟨rfl,rfl,rfl,by decide +kernel,rfl,by decide +kernel,by decide +kernel⟩
theorem ok_Reader_peek{f:Addr}{fd:FuncData}(F:Fun K "peek" "Reader.peek" s_Reader_peek f fd)(er:Errs K mg c_FeastError c_NoNumber c_TooLong c_NoMeasure c_NoRule c_NoName c_Rule c_All c_No c_Each c_Dated c_Not c_Both c_Either c_But c_Unlike c_Later c_Upon c_Until c_Near c_Till c_Kth c_Every c_Reader c_Measure c_Calendar c_Sun)(z_len:mg "len"=none):FnOk P w K mg base CX0 1 f fd ["self"] (spPeek c_Reader):=by
 refine F.ok (k:=0) sc_Reader_peek (fun vs H Q E h=>?_) (fun cdv A outer s H vs Q E hr h=>?_)
 ·obtain⟨x,p,ws,k,rfl,_⟩:=h
  rfl
 obtain⟨x,p,ws,k,rfl,R,q⟩:=h
 obtain⟨dx,hx⟩:=R.ex
 refine⟨_,(pss_one (ps_ret (pe_ifExp (pt_cmpR op_lt (pe_fld (pv 0) (by rfl)) (pe_callB call_len_seq rfl z_len PySem.boot_len (pa_cons (pe_fld (pv 0) (by rfl)) pa_nil)) (nomark _)) (pe_ix ix_tup (pe_fld (pv 0) (by rfl)) (pe_fld (pv 0) (by rfl)) (fun _ _=>rfl)) pe_str))),?_⟩
 walk_at "rdx"
 refine⟨x,c_Reader,dx,_,_,rfl,hx,er.cl_Reader,er.na_Reader_place,rfl,?_⟩
 walk_at "rdx"
 refine⟨x,c_Reader,dx,_,_,rfl,hx,er.cl_Reader,er.na_Reader_words,rfl,?_⟩
 walk_at "rdx"
 refine⟨p,_,rfl,.inr (SqT.of R.tp),?_⟩
 rw[List.length_map]
 walk_at "rdx"
 refine ite2d (fun c=>?_) (fun c=>?_)
 ·walk_at "rdx"
  refine⟨x,c_Reader,dx,_,_,rfl,hx,er.cl_Reader,er.na_Reader_words,rfl,?_⟩
  walk_at "rdx"
  refine⟨x,c_Reader,dx,_,_,rfl,hx,er.cl_Reader,er.na_Reader_place,rfl,?_⟩
  walk_at "rdx"
  have kl:k<ws.length:=by omega
  refine rd_ixT (SqT.of R.tp) (v:=.str (sW (nxt ws k))) (atI_nat (by rw[List.getElem?_map,List.getElem?_eq_getElem kl];unfold nxt;rw[List.getElem?_eq_getElem kl];rfl)) ?_
  exact q
 ·have e:nxt ws k=[]:=by unfold nxt;rw[List.getElem?_eq_none (by omega)];rfl
  rw[e] at q
  walk_at "rdx"
  exact q
theorem sc_Reader_take:FnScope ["self","word"] ["self"] (defScope s_Reader_take):=⟨rfl,rfl,rfl,by decide +kernel,rfl,by decide +kernel,by decide +kernel⟩
theorem ok_Reader_take{f:Addr}{fd:FuncData}(F:Fun K "take" "Reader.take" s_Reader_take f fd)(er:Errs K mg c_FeastError c_NoNumber c_TooLong c_NoMeasure c_NoRule c_NoName c_Rule c_All c_No c_Each c_Dated c_Not c_Both c_Either c_But c_Unlike c_Later c_Upon c_Until c_Near c_Till c_Kth c_Every c_Reader c_Measure c_Calendar c_Sun)(c_Reader_peek:CalM P w K mg base CX0 1 c_Reader "peek" ["self"] (spPeek c_Reader)):FnOk P w K mg base CX0 2 f fd ["self"] (spTake c_Reader):=by
 refine F.ok (k:=1) sc_Reader_take (fun vs H Q E h=>?_) (fun cdv A outer s H vs Q E hr h=>?_)
 ·obtain⟨x,p,ws,k,rfl,_⟩:=h
  rfl
 obtain⟨x,p,ws,k,rfl,R,q⟩:=h
 obtain⟨dx,hx⟩:=R.ex
 refine⟨_,(pss_cons (ps_set (i:=1) sc_Reader_take.nd rfl (by first | exact Or.inl rfl | exact Or.inr rfl) (pe_mcal0 c_Reader_peek er.cl_Reader (hr.mono (by decide)) (pv 0)))
  (pss_cons (ps_fld (pv 0) (pe_op op_add (pe_fld (pv 0) (by rfl)) pe_int) (by rfl))
  (pss_one (ps_ret (pv 1))))),?_⟩
 walk_at "rd"
 refine⟨x,dx,_,rfl,hx,rfl,?_⟩
 walk_at "rd"
 refine⟨x,p,ws,k,rfl,R,?_⟩
 walk_at "rd"
 refine⟨x,c_Reader,dx,_,_,rfl,hx,er.cl_Reader,er.na_Reader_place,rfl,?_⟩
 walk_at "rd"
 refine⟨x,c_Reader,dx,_,rfl,hx,er.cl_Reader,er.na_Reader_place,(by show 2<1000;decide),?_⟩
 refine put7 fun H2 k2 x2=>?_
 have px:p≠x:=ne_of R.tp hx (by intro z;cases z)
 walk_at "rd"
 exact q H2 k2 ⟨⟨dx,x2⟩,k2 _ _ px R.tp,R.ln,R.ok,R.ne⟩
theorem sc_is_name:FnScope ["text"] ["text"] (defScope s_is_name):=⟨rfl,rfl,rfl,by decide +kernel,rfl,by decide +kernel,by decide +kernel⟩
theorem ok_is_name{f:Addr}{fd:FuncData}(F:Fun K "is_name" "is_name" s_is_name f fd)(z_len:mg "len"=none)(z_all:mg "all"=none){tk_MOST_LETTERS:Tok}(m_MOST_LETTERS:mg "MOST_LETTERS"=some (.int 8 tk_MOST_LETTERS)){tk_LETTERS:Tok}(m_LETTERS:mg "LETTERS"=some (.str "abcdefghijklmnopqrstuvwxyz" tk_LETTERS)):FnOk P w K mg base CX0 1 f fd ["text"] spIsNm:=by
 refine F.ok (k:=0) sc_is_name (fun vs H Q E h=>?_) (fun cdv A outer s H vs Q E hr h=>?_)
 ·obtain⟨z,rfl,_⟩:=h
  rfl
 obtain⟨z,rfl,hz,q⟩:=h
 refine⟨_,(pss_one (ps_ret (pe_and (pe_chain op_le op_le pe_int (pe_callB call_len_str rfl z_len PySem.boot_len (pa_cons (pv 0) pa_nil)) (pe_glob rfl m_MOST_LETTERS (rel_int _ _))) (pe_one (pe_callB (call_all rfl) rfl z_all PyProof.Rows.boot_all (pa_cons (pe_comp rfl (compOk_nil ["text"] rfl (by decide +kernel) rfl (by decide +kernel) rfl (by decide +kernel) (by decide +kernel)) (pi_str (pv 0)) (fun _ _ _ _=>pifs_nil) (fun _ _ _ _=>(pe_cmpR op_in_str (pv 0) (pe_glob rfl m_LETTERS (rel_str _ _)) (by rfl)))) pa_nil)))))),?_⟩
 have zl:(cpl z).length=z.length:=len_cpl _
 walk_at "rdx"
 refine⟨z,rfl,hz.fit,?_⟩
 walk_at "rdx"
 have no:¬IsNm (cpl z)→∀H',Same H H'→Q (.bl false) H':=fun n H' s'=>q false H' s' ⟨fun z=>(nomatch z),fun z=>absurd z n⟩
 by_cases c1:1≤((z.length:Nat):Int)
 rotate_left
 ·refine iteN c1 ?_
  refine⟨_,rfl,iteF ?_⟩
  exact no (fun N=>by have:=N.lo;omega) _ (Same.refl _)
 refine iteD c1 ?_
 walk_at "rdx"
 by_cases c2:((z.length:Nat):Int)≤8
 rotate_left
 ·rw[decide_eq_false c2]
  refine iteF ?_
  exact no (fun N=>by have:=N.hi;omega) _ (Same.refl _)
 rw[decide_eq_true c2]
 refine iteT ?_
 walk_at "rdx"
 refine rd_comp (rd_iS ?_)
 walk_at "rdx"
 refine⟨_,rfl,hz.asc,?_⟩
 refine comp_go walk_s ?_ (fun _ _ _=>trivial) (fun _=>true) (fun v=>match v with | .str y=>.bl (decide (97≤(cpl y).headD 0∧(cpl y).headD 0≤122)) | _=>.non) (fun x hx D ys Q' hD h=>h) (fun x hx _ D ys Q' hD h=>?_) (fun D hD=>?_)
 ·rw[List.length_map]
  exact small1000 (by have:z.cps.toList.length=z.length:=zl;omega)
 ·obtain⟨c,hc,rfl⟩:=List.mem_map.mp hx
  walk_at "rdx"
  refine⟨_,_,rfl,rfl,?_⟩
  rw[in_let]
  exact h
 have e:((z.cps.toList.map signV).filter fun _=>true).map (fun v=>match v with | .str y=>V.bl (decide (97≤(cpl y).headD 0∧(cpl y).headD 0≤122)) | _=>.non)=((cpl z).map fun c=>decide (97≤c∧c≤122)).map V.bl:=by
  rw[List.filter_eq_self.mpr (fun _ _=>rfl),List.map_map,List.map_map]
  rfl
 rw[e]
 refine fresh hD fun H1 s1 t1=>?_
 walk_at "rdx"
 refine⟨D,_,rfl,SqL.of t1,?_⟩
 refine q _ _ s1 ?_
 rw[List.all_map,List.all_eq_true]
 exact⟨fun h=>⟨by omega,by omega,fun c hc=>by simpa using h c hc⟩,fun N c hc=>by simpa using N.ch c hc⟩
theorem sc_is_readable:FnScope ["text"] ["text"] (defScope s_is_readable):=⟨rfl,rfl,rfl,by decide +kernel,rfl,by decide +kernel,by decide +kernel⟩
theorem ok_is_readable{f:Addr}{fd:FuncData}(F:Fun K "is_readable" "is_readable" s_is_readable f fd)(z_isinstance:mg "isinstance"=none)(z_str:mg "str"=none)(z_len:mg "len"=none){tk_MOST_SIGNS:Tok}(m_MOST_SIGNS:mg "MOST_SIGNS"=some (.int 4000 tk_MOST_SIGNS)):FnOk P w K mg base CX0 1 f fd ["text"] spReadable75:=by
 refine F.ok (k:=0) sc_is_readable (fun vs H Q E h=>?_) (fun cdv A outer s H vs Q E hr h=>?_)
 ·obtain⟨v,rfl,_⟩:=h
  rfl
 obtain⟨v,rfl,hv,q,qn⟩:=h
 refine⟨_,(pss_one (ps_ret (pe_and (pe_callB call_isi rfl z_isinstance PyProof.Rows.boot_isinstance (pa_cons (pv 0) (pa_cons (pe_bltn rfl z_str PyProof.Rows.boot_str (rel_ty _)) pa_nil))) (pe_one (pe_cmpR op_le (pe_callB call_len_str rfl z_len PySem.boot_len (pa_cons (pv 0) pa_nil)) (pe_glob rfl m_MOST_SIGNS (rel_int _ _)) (nomark _)))))),?_⟩
 walk_at "rd"
 refine rd_isS hv ?_
 walk_at "rd"
 cases hv with
 | non=>
  refine iteF ?_
  exact qn rfl
 | int i=>
  refine iteF ?_
  exact qn rfl
 | tup a xs e0=>
  refine iteF ?_
  exact qn rfl
 | lst a xs e0=>
  refine iteF ?_
  exact qn rfl
 | txt z hz=>
  refine iteT ?_
  walk_at "rd"
  refine⟨z,rfl,hz.fit,?_⟩
  walk_at "rd"
  refine q z rfl _ ?_
  rw[decide_eq_true_eq,←len_cpl]
  omega
theorem sc_is_number:FnScope ["text","figures"] ["text"] (defScope s_is_number):=⟨rfl,rfl,rfl,by decide +kernel,rfl,by decide +kernel,by decide +kernel⟩
theorem ok_is_number{f:Addr}{fd:FuncData}(F:Fun K "is_number" "is_number" s_is_number f fd)(z_len:mg "len"=none)(z_all:mg "all"=none){tk_MOST_FIGURES:Tok}(m_MOST_FIGURES:mg "MOST_FIGURES"=some (.int 60 tk_MOST_FIGURES)){tk_FIGURES:Tok}(m_FIGURES:mg "FIGURES"=some (.str "0123456789" tk_FIGURES)):FnOk P w K mg base CX0 1 f fd ["text"] spIsNum:=by
 refine F.ok (k:=0) sc_is_number (fun vs H Q E h=>?_) (fun cdv A outer s H vs Q E hr h=>?_)
 ·obtain⟨z,rfl,_⟩:=h
  rfl
 obtain⟨z,rfl,hz,q⟩:=h
 refine⟨_,(pss_cons (ps_set (i:=1) sc_is_number.nd rfl (by first | exact Or.inl rfl | exact Or.inr rfl) (pe_ifExp (pt_val (pe_bm PySem.F.plainAttrs_str PySem.F.slot_str_startswith PySem.F.type_str_startswith mt_startswith (pv 0) (pa_cons pe_str pa_nil))) (pe_slice sl_str (pv 0) (po_some pe_int) po_none) (pv 0)))
  (pss_cons (ps_if (PW.pt (pw_or (pt_cmpR op_lt (pe_callB call_len_str rfl z_len PySem.boot_len (pa_cons (pv 1) pa_nil)) pe_int (nomark _)) (pw_or1 (pt_cmpR op_gt (pe_callB call_len_str rfl z_len PySem.boot_len (pa_cons (pv 1) pa_nil)) (pe_glob rfl m_MOST_FIGURES (rel_int _ _)) (nomark _)))))
   (pss_one (ps_ret pe_bl))
   pss_nil)
  (pss_cons (ps_if (pt_cmpR op_eq (pe_ix ix_str (pv 1) pe_int (fun _ _=>rfl)) pe_str (nomark _))
   (pss_one (ps_ret (pe_cmpR op_eq (pv 0) pe_str (nomark _))))
   pss_nil)
  (pss_one (ps_ret (pe_callB (call_all rfl) rfl z_all PyProof.Rows.boot_all (pa_cons (pe_comp rfl (compOk_nil ["text","figures"] rfl (by decide +kernel) rfl (by decide +kernel) rfl (by decide +kernel) (by decide +kernel)) (pi_str (pv 1)) (fun _ _ _ _=>pifs_nil) (fun _ _ _ _=>(pe_cmpR op_in_str (pv 0) (pe_glob rfl m_FIGURES (rel_str _ _)) (by rfl)))) pa_nil))))))),?_⟩
 walk_at "rdx"
 refine⟨_,rfl,rfl,?_⟩
 walk_at "rdx"
 refine⟨z,_,rfl,rfl,?_⟩
 rw[starts_minus (.inr trivial)]
 walk_at "rdx"
 refine ite2d (fun hm=>?_) (fun hm=>?_)
 ·walk_at "rdx"
  have l1:1≤z.length:=by
   rw[←len_cpl]
   cases h:cpl z with
   | nil=>rw[h] at hm;cases hm
   | cons a r=>simp
  refine⟨z,rfl,hz.fit,?_⟩
  have hy:TOk (Txt.slice z (some 1) none):=hz.slice _ _
  have ey:cpl (Txt.slice z (some 1) none)=figs (cpl z):=by
   rw[slice_from1 l1]
   unfold figs
   rw[if_pos hm]
  generalize Txt.slice z (some 1) none=y at hy ey ⊢
  walk_at "rdx"
  have fy:=hy.fit
  have yl:(cpl y).length=y.length:=len_cpl _
  refine⟨_,rfl,fy,?_⟩
  walk_at "rdx"
  refine ite2d (fun l1=>iteT ?_) (fun l1=>?_)
  ·walk_at "rdx"
   refine q _ _ (Same.refl _) ⟨(fun e=>nomatch e),fun N=>?_⟩
   have:=N.lo
   rw[←ey] at this
   omega
  walk_at "rdx"
  refine⟨_,rfl,fy,?_⟩
  walk_at "rdx"
  refine ite2d (fun l2=>?_) (fun l2=>?_)
  ·walk_at "rdx"
   refine q _ _ (Same.refl _) ⟨(fun e=>nomatch e),fun N=>?_⟩
   have:=N.hi
   rw[←ey] at this
   omega
  walk_at "rdx"
  obtain⟨c0,r0,ec⟩:∃c r,cpl y=c::r:=by
   cases h:cpl y with
   | nil=>rw[h] at yl;simp at yl;omega
   | cons c r=>exact⟨c,r,rfl⟩
  refine⟨_,0,c0,rfl,rfl,fy,by rw[show y.cps.toList=c0::r0 from ec];exact atI_nat (j:=0) rfl,?_⟩
  walk_at "rdx"
  refine ite2d (fun e0=>?_) (fun e0=>?_)
  ·walk_at "rdx"
   have c48:c0=48:=by
    have e1:(⟨#[c0]⟩:Str)=Str.ofString "0":=V.str.inj e0
    have e2:cpl (⟨#[c0]⟩:Str)=cpl (Str.ofString "0"):=congrArg cpl e1
    have e3:cpl (Str.ofString "0")=[48]:=by decide +kernel
    rw[e3] at e2
    injection e2
   refine q _ _ (Same.refl _) ?_
   rw[decide_eq_true_eq]
   have e3:cpl (Str.ofString "0")=[48]:=by decide +kernel
   constructor
   ·intro e
    have ez:cpl z=[48]:=by rw[V.str.inj e,e3]
    refine⟨?_,?_,?_,?_⟩<;>rw[ez]<;>simp[figs]
   ·intro N
    have:=N.z0 (by rw[←ey,ec,c48];rfl)
    exact congrArg V.str (str_ext (by rw[this,e3]))
  walk_at "rdx"
  refine rd_comp (rd_iS ?_)
  walk_at "rdx"
  refine⟨_,rfl,hy.asc,?_⟩
  refine comp_go walk_s ?_ (fun _ _ _=>trivial) (fun _=>true) (fun v=>match v with | .str y=>.bl (decide (48≤(cpl y).headD 0∧(cpl y).headD 0≤57)) | _=>.non) (fun x hx D ys Q' hD h=>h) (fun x hx _ D ys Q' hD h=>?_) (fun D hD=>?_)
  ·rw[List.length_map]
   exact small1000 (by have:y.cps.toList.length=y.length:=yl;omega)
  ·obtain⟨c,hc,rfl⟩:=List.mem_map.mp hx
   walk_at "rdx"
   refine⟨_,_,rfl,rfl,?_⟩
   rw[in_dig]
   exact h
  have e:((y.cps.toList.map signV).filter fun _=>true).map (fun v=>match v with | .str y=>V.bl (decide (48≤(cpl y).headD 0∧(cpl y).headD 0≤57)) | _=>.non)=((cpl y).map fun c=>decide (48≤c∧c≤57)).map V.bl:=by
   rw[List.filter_eq_self.mpr (fun _ _=>rfl),List.map_map,List.map_map]
   rfl
  rw[e]
  walk_at "rdx"
  refine⟨D,_,rfl,SqL.of upd_same,?_⟩
  refine q _ _ (same_new hD _) ?_
  rw[List.all_map,List.all_eq_true]
  constructor
  ·intro h
   refine⟨by rw[←ey];omega,by rw[←ey];omega,fun c hc=>?_,fun h0=>?_⟩
   ·rw[←ey] at hc
    simpa using h c hc
   ·rw[←ey,ec] at h0
    injection h0 with h0
    subst h0
    exact absurd (by congr) e0
  ·intro N c hc
   have:=N.dg c (by rw[←ey];exact hc)
   simpa using this
 ·walk_at "rdx"
  have hy:=hz
  have ey:cpl z=figs (cpl z):=by
   unfold figs
   rw[if_neg hm]
  have fy:=hy.fit
  have yl:(cpl z).length=z.length:=len_cpl _
  refine⟨_,rfl,fy,?_⟩
  walk_at "rdx"
  refine ite2d (fun l1=>iteT ?_) (fun l1=>?_)
  ·walk_at "rdx"
   refine q _ _ (Same.refl _) ⟨(fun e=>nomatch e),fun N=>?_⟩
   have:=N.lo
   rw[←ey] at this
   omega
  walk_at "rdx"
  refine⟨_,rfl,fy,?_⟩
  walk_at "rdx"
  refine ite2d (fun l2=>?_) (fun l2=>?_)
  ·walk_at "rdx"
   refine q _ _ (Same.refl _) ⟨(fun e=>nomatch e),fun N=>?_⟩
   have:=N.hi
   rw[←ey] at this
   omega
  walk_at "rdx"
  obtain⟨c0,r0,ec⟩:∃c r,cpl z=c::r:=by
   cases h:cpl z with
   | nil=>rw[h] at yl;simp at yl;omega
   | cons c r=>exact⟨c,r,rfl⟩
  refine⟨_,0,c0,rfl,rfl,fy,by rw[show z.cps.toList=c0::r0 from ec];exact atI_nat (j:=0) rfl,?_⟩
  walk_at "rdx"
  refine ite2d (fun e0=>?_) (fun e0=>?_)
  ·walk_at "rdx"
   have c48:c0=48:=by
    have e1:(⟨#[c0]⟩:Str)=Str.ofString "0":=V.str.inj e0
    have e2:cpl (⟨#[c0]⟩:Str)=cpl (Str.ofString "0"):=congrArg cpl e1
    have e3:cpl (Str.ofString "0")=[48]:=by decide +kernel
    rw[e3] at e2
    injection e2
   refine q _ _ (Same.refl _) ?_
   rw[decide_eq_true_eq]
   have e3:cpl (Str.ofString "0")=[48]:=by decide +kernel
   constructor
   ·intro e
    have ez:cpl z=[48]:=by rw[V.str.inj e,e3]
    refine⟨?_,?_,?_,?_⟩<;>rw[ez]<;>simp[figs]
   ·intro N
    have:=N.z0 (by rw[←ey,ec,c48];rfl)
    exact congrArg V.str (str_ext (by rw[this,e3]))
  walk_at "rdx"
  refine rd_comp (rd_iS ?_)
  walk_at "rdx"
  refine⟨_,rfl,hy.asc,?_⟩
  refine comp_go walk_s ?_ (fun _ _ _=>trivial) (fun _=>true) (fun v=>match v with | .str y=>.bl (decide (48≤(cpl y).headD 0∧(cpl y).headD 0≤57)) | _=>.non) (fun x hx D ys Q' hD h=>h) (fun x hx _ D ys Q' hD h=>?_) (fun D hD=>?_)
  ·rw[List.length_map]
   exact small1000 (by have:z.cps.toList.length=z.length:=yl;omega)
  ·obtain⟨c,hc,rfl⟩:=List.mem_map.mp hx
   walk_at "rdx"
   refine⟨_,_,rfl,rfl,?_⟩
   rw[in_dig]
   exact h
  have e:((z.cps.toList.map signV).filter fun _=>true).map (fun v=>match v with | .str y=>V.bl (decide (48≤(cpl y).headD 0∧(cpl y).headD 0≤57)) | _=>.non)=((cpl z).map fun c=>decide (48≤c∧c≤57)).map V.bl:=by
   rw[List.filter_eq_self.mpr (fun _ _=>rfl),List.map_map,List.map_map]
   rfl
  rw[e]
  walk_at "rdx"
  refine⟨D,_,rfl,SqL.of upd_same,?_⟩
  refine q _ _ (same_new hD _) ?_
  rw[List.all_map,List.all_eq_true]
  constructor
  ·intro h
   refine⟨by rw[←ey];omega,by rw[←ey];omega,fun c hc=>?_,fun h0=>?_⟩
   ·rw[←ey] at hc
    simpa using h c hc
   ·rw[←ey,ec] at h0
    injection h0 with h0
    subst h0
    exact absurd (by congr) e0
  ·intro N c hc
   have:=N.dg c (by rw[←ey];exact hc)
   simpa using this
theorem sc_take_word:FnScope ["reader","word"] ["reader","word"] (defScope s_take_word):=⟨rfl,rfl,rfl,by decide +kernel,rfl,by decide +kernel,by decide +kernel⟩
theorem ok_take_word{f:Addr}{fd:FuncData}(F:Fun K "take_word" "take_word" s_take_word f fd)(er:Errs K mg c_FeastError c_NoNumber c_TooLong c_NoMeasure c_NoRule c_NoName c_Rule c_All c_No c_Each c_Dated c_Not c_Both c_Either c_But c_Unlike c_Later c_Upon c_Until c_Near c_Till c_Kth c_Every c_Reader c_Measure c_Calendar c_Sun)(c_Reader_take:CalM P w K mg base CX0 2 c_Reader "take" ["self"] (spTake c_Reader)):FnOk P w K mg base (CX1 P w) 3 f fd ["reader","word"] (spWord c_Reader c_NoRule):=by
 refine F.okE (k:=2) sc_take_word (fun vs H Q E h=>?_) (fun cdv A outer s H vs Q E hr h T=>?_)
 ·obtain⟨x,p,ws,k,w,rfl,_⟩:=h
  rfl
 obtain⟨x,p,ws,k,w,rfl,wl,wn,R,o⟩:=h
 refine⟨_,(pss_one (ps_if (pt_cmpR op_ne (pe_mcal0 c_Reader_take er.cl_Reader (hr.mono (by decide)) (pv 0)) (pv 1) (nomark _))
  (pss_one (ps_raise T rfl er.x_NoRule rfl (pa_cons (pe_join (pj_cons pe_str (pj_cons (pe_fmt hr.toN (pv 1)) (pj_cons pe_str pj_nil)))) pa_nil)))
  pss_nil)),?_⟩
 walk_at "rdx"
 obtain⟨dx1,hx1⟩:=R.ex
 refine⟨x,dx1,_,rfl,hx1,rfl,?_⟩
 walk_at "rdx"
 refine⟨x,p,ws,k,rfl,R,fun H1 k1 R1=>?_⟩
 walk_at "rdx"
 by_cases e:nxt ws k=w
 ·refine iteNS (by rw[e]) ?_
  walk_at "rdx"
  refine o.1 () (ws.drop (k+1)) _ (k+1) H1 ?_ k1 R1 rfl rfl
  rw[drop_w e wn]
  unfold tkU
  rw[tkW_ok]
  rfl
 ·refine iteNN (fun z=>e (s_inj.mp z)) ?_
  walk_at "rdx"
  refine rd_jc 0 (by decide) (by decide) fun l1=>rd_js _ 100 l1 (by rw[sW_len];exact wl) (by decide) rfl fun l2=>rd_jc _ l2 (by decide) fun l3=>rd_jnil (fits l3 (by decide)) ?_
  refine rd_nil ⟨(by show 1≤sizeLine;decide),o.2 ?_ H1 k1⟩
  rcases drop_c ws k with ⟨_,h⟩ | ⟨_,h,_⟩
  ·rw[h]
   unfold tkU tkW
   simp only[]
   rw[if_neg e]
   rfl
  ·rw[h]
   rfl
theorem sc_take_number:FnScope ["reader","word"] ["reader"] (defScope s_take_number):=⟨rfl,rfl,rfl,by decide +kernel,rfl,by decide +kernel,by decide +kernel⟩
theorem ok_take_number{f:Addr}{fd:FuncData}(F:Fun K "take_number" "take_number" s_take_number f fd)(er:Errs K mg c_FeastError c_NoNumber c_TooLong c_NoMeasure c_NoRule c_NoName c_Rule c_All c_No c_Each c_Dated c_Not c_Both c_Either c_But c_Unlike c_Later c_Upon c_Until c_Near c_Till c_Kth c_Every c_Reader c_Measure c_Calendar c_Sun)(c_Reader_take:CalM P w K mg base CX0 2 c_Reader "take" ["self"] (spTake c_Reader))(c_is_number:Cal P w K mg base 1 "is_number" ["text"] spIsNum)(z_int:mg "int"=none):FnOk P w K mg base (CX1 P w) 3 f fd ["reader"] (spNumT c_Reader c_NoRule):=by
 refine F.okE (k:=2) sc_take_number (fun vs H Q E h=>?_) (fun cdv A outer s H vs Q E hr h T=>?_)
 ·obtain⟨x,p,ws,k,rfl,_⟩:=h
  rfl
 obtain⟨x,p,ws,k,rfl,R,o⟩:=h
 refine⟨_,(pss_cons (ps_set (i:=1) sc_take_number.nd rfl (by first | exact Or.inl rfl | exact Or.inr rfl) (pe_mcal0 c_Reader_take er.cl_Reader (hr.mono (by decide)) (pv 0)))
  (pss_cons (ps_if (pt_not (pt_val (pe_cal c_is_number (hr.mono (by decide)) rfl (pa_cons (pv 1) pa_nil))))
   (pss_one (ps_raise T rfl er.x_NoRule rfl (pa_cons pe_str pa_nil)))
   pss_nil)
  (pss_one (ps_ret (pe_callTy call_int_text rfl z_int PyProof.Rows.boot_int (pa_cons (pv 1) pa_nil)))))),?_⟩
 walk_at "rdx"
 obtain⟨dx1,hx1⟩:=R.ex
 refine⟨x,dx1,_,rfl,hx1,rfl,?_⟩
 walk_at "rdx"
 refine⟨x,p,ws,k,rfl,R,fun H1 k1 R1=>?_⟩
 walk_at "rdx"
 refine⟨_,rfl,nxt_ok R.ok k,fun v H2 s2 iv=>?_⟩
 rw[cpl_sW,nu_iff] at iv
 have kb:=k1.tr (KB.sm s2)
 walk_at "rdx"
 cases v with
 | false=>
  refine iteT ?_
  walk_at "rdx"
  refine⟨(by show 1≤sizeLine;decide),o.2 ?_ H2 kb⟩
  rcases drop_c ws k with ⟨_,e⟩ | ⟨_,e,_⟩
  ·rw[e]
   simp only[tkNum]
   rw[if_neg (fun z=>absurd (iv.mpr z) (by decide))]
  ·rw[e]
   rfl
 | true=>
  have nb:=iv.mp rfl
  have wn:nxt ws k≠[]:=fun z=>by rw[z] at nb;revert nb;decide
  have N:=(nu_iff _).mpr nb
  refine iteF ?_
  walk_at "rdx"
  refine⟨_,_,rfl,?_,int_reads (by rw[cpl_sW];exact N),?_⟩
  ·rw[sW_len]
   have:=N.hi
   unfold figs at this
   split at this
   ·rw[List.length_drop] at this;omega
   ·omega
  ·rw[cpl_sW]
   refine o.1 _ (ws.drop (k+1)) _ (k+1) H2 ?_ kb (R1.same s2) rfl rfl
   rw[drop_w rfl wn,tkNum_ok nb]
theorem sc_take_wanted:FnScope ["reader"] ["reader"] (defScope s_take_wanted):=⟨rfl,rfl,rfl,by decide +kernel,rfl,by decide +kernel,by decide +kernel⟩
theorem ok_take_wanted{f:Addr}{fd:FuncData}(F:Fun K "take_wanted" "take_wanted" s_take_wanted f fd)(er:Errs K mg c_FeastError c_NoNumber c_TooLong c_NoMeasure c_NoRule c_NoName c_Rule c_All c_No c_Each c_Dated c_Not c_Both c_Either c_But c_Unlike c_Later c_Upon c_Until c_Near c_Till c_Kth c_Every c_Reader c_Measure c_Calendar c_Sun)(c_Reader_peek:CalM P w K mg base CX0 1 c_Reader "peek" ["self"] (spPeek c_Reader))(c_Reader_take:CalM P w K mg base CX0 2 c_Reader "take" ["self"] (spTake c_Reader))(c_take_number:CalE P w K mg base 3 "take_number" ["reader"] (spNumT c_Reader c_NoRule)):FnOk P w K mg base (CX1 P w) 4 f fd ["reader"] (spWantT c_Reader c_NoRule):=by
 refine F.okE (k:=3) sc_take_wanted (fun vs H Q E h=>?_) (fun cdv A outer s H vs Q E hr h T=>?_)
 ·obtain⟨x,p,ws,k,rfl,_⟩:=h
  rfl
 obtain⟨x,p,ws,k,rfl,R,o⟩:=h
 refine⟨_,(pss_cons (ps_if (pt_cmpR op_eq (pe_mcal0 c_Reader_peek er.cl_Reader (hr.mono (by decide)) (pv 0)) pe_str (nomark _))
  (pss_cons (ps_expr (pe_mcal0 c_Reader_take er.cl_Reader (hr.mono (by decide)) (pv 0)))
  (pss_one (ps_ret pe_non)))
   pss_nil)
  (pss_one (ps_ret (pe_calE T c_take_number (hr.mono (by decide)) rfl (pa_cons (pv 0) pa_nil))))),?_⟩
 walk_at "rdx"
 obtain⟨dx,hx⟩:=R.ex
 refine⟨x,dx,_,rfl,hx,rfl,?_⟩
 walk_at "rdx"
 refine⟨x,p,ws,k,rfl,R,?_⟩
 walk_at "rdx"
 rw[sk_star]
 refine ite2d (fun e=>?_) (fun e=>?_)
 ·have e:=s_inj.mp e
  walk_at "rdx"
  obtain⟨dx1,hx1⟩:=R.ex
  refine⟨x,dx1,_,rfl,hx1,rfl,?_⟩
  walk_at "rdx"
  refine⟨x,p,ws,k,rfl,R,fun H1 k1 R1=>?_⟩
  walk_at "rdx"
  refine o.1 none (ws.drop (k+1)) _ (k+1) H1 ?_ k1 R1 rfl rfl
  rw[drop_w e (by decide)]
  rfl
 ·have e:nxt ws k≠kStar:=fun z=>e (s_inj.mpr z)
  have ew:tkWant numVal (ws.drop k)=(tkNum numVal (ws.drop k)).map fun a=>(some a.1,a.2):=by
   rcases drop_c ws k with ⟨_,h⟩ | ⟨_,h,_⟩
   ·rw[h]
    simp only[tkWant]
    rw[if_neg e]
    cases tkNum numVal (nxt ws k::ws.drop (k+1)) with
    | none=>rfl
    | some a=>rfl
   ·rw[h]
    rfl
  walk_at "rdx"
  refine⟨x,p,ws,k,rfl,R,fun n r v k1 H1 e1 kb R1 er ev=>?_,fun e1 H1 kb=>o.2 (by rw[ew,e1];rfl) H1 kb⟩
  exact o.1 (some n) r v k1 H1 (by rw[ew,e1];rfl) kb R1 er ev
theorem sc_take_each:FnScope ["reader","size"] ["reader"] (defScope s_take_each):=⟨rfl,rfl,rfl,by decide +kernel,rfl,by decide +kernel,by decide +kernel⟩
theorem ok_take_each{f:Addr}{fd:FuncData}(F:Fun K "take_each" "take_each" s_take_each f fd)(c_take_number:CalE P w K mg base 3 "take_number" ["reader"] (spNumT c_Reader c_NoRule))(c_take_word:CalE P w K mg base 3 "take_word" ["reader","word"] (spWord c_Reader c_NoRule)):FnOk P w K mg base (CX1 P w) 4 f fd ["reader"] (spEachR c_Reader c_NoRule):=by
 refine F.okE (k:=3) sc_take_each (fun vs H Q E h=>?_) (fun cdv A outer s H vs Q E hr h T=>?_)
 ·obtain⟨x,p,ws,k,rfl,_⟩:=h
  rfl
 obtain⟨x,p,ws,k,rfl,R,o⟩:=h
 refine⟨_,(pss_cons (ps_set (i:=1) sc_take_each.nd rfl (by first | exact Or.inl rfl | exact Or.inr rfl) (pe_calE T c_take_number (hr.mono (by decide)) rfl (pa_cons (pv 0) pa_nil)))
  (pss_cons (ps_expr (pe_calE T c_take_word (hr.mono (by decide)) rfl (pa_cons (pv 0) (pa_cons pe_str pa_nil))))
  (pss_one (ps_ret (pe_tup (pa_cons (pv 1) (pa_cons (pe_calE T c_take_number (hr.mono (by decide)) rfl (pa_cons (pv 0) pa_nil)) pa_nil))))))),?_⟩
 walk_at "rdx"
 refine⟨x,p,ws,k,rfl,R,fun n r v k1 H1 e1 kb R1 er ev=>?_,fun e1 H1 kb=>o.2 (by unfold tkEach;rw[e1]) H1 kb⟩
 subst er ev
 have o1:=o.later kb
 have u1:tkEach numVal (ws.drop k)=(match tkW kFrom (ws.drop k1) with | none=>none | some r=>match tkNum numVal r with | none=>none | some (m,r)=>some ((n,m),r)):=by unfold tkEach;rw[e1]
 walk_at "rdx"
 rw[sk_from]
 refine⟨x,p,ws,k1,kFrom,rfl,by decide,by decide,R1,fun _ r v k2 H2 e2 kb2 R2 er ev=>?_,fun e2 H2 kb=>o1.2 (by rw[u1];unfold tkU at e2;rw[Option.map_eq_none_iff.mp e2]) H2 kb⟩
 subst er
 have e2:tkW kFrom (ws.drop k1)=some (ws.drop k2):=by
  unfold tkU at e2
  obtain⟨a,h1,h2⟩:=Option.map_eq_some_iff.mp e2
  injection h2 with _ h2
  rw[h1,h2]
 rw[e2] at u1
 simp only[] at u1
 have o2:=o1.later kb2
 walk_at "rdx"
 refine⟨x,p,ws,k2,rfl,R2,fun m r v k3 H3 e3 kb3 R3 er ev=>?_,fun e3 H3 kb=>o2.2 (by rw[u1,e3]) H3 kb⟩
 subst er ev
 have o3:=o2.later kb3
 walk_at "rdx"
 refine⟨two',fun q hq=>?_⟩
 refine fresh hq fun H4 s4 t4=>?_
 exact o3.1 (n,m) _ _ k3 H4 (by rw[u1,e3]) (KB.sm s4) (R3.same s4) rfl ⟨q,rfl,t4⟩
theorem sc_take_date:FnScope ["reader","name","month","day","years"] ["reader"] (defScope s_take_date):=⟨rfl,rfl,rfl,by decide +kernel,rfl,by decide +kernel,by decide +kernel⟩
theorem ok_take_date{f:Addr}{fd:FuncData}(F:Fun K "take_date" "take_date" s_take_date f fd)(er:Errs K mg c_FeastError c_NoNumber c_TooLong c_NoMeasure c_NoRule c_NoName c_Rule c_All c_No c_Each c_Dated c_Not c_Both c_Either c_But c_Unlike c_Later c_Upon c_Until c_Near c_Till c_Kth c_Every c_Reader c_Measure c_Calendar c_Sun)(c_Reader_take:CalM P w K mg base CX0 2 c_Reader "take" ["self"] (spTake c_Reader))(c_is_name:Cal P w K mg base 1 "is_name" ["text"] spIsNm)(c_take_wanted:CalE P w K mg base 4 "take_wanted" ["reader"] (spWantT c_Reader c_NoRule))(c_Reader_peek:CalM P w K mg base CX0 1 c_Reader "peek" ["self"] (spPeek c_Reader))(c_take_each:CalE P w K mg base 4 "take_each" ["reader"] (spEachR c_Reader c_NoRule)):FnOk P w K mg base (CX1 P w) 5 f fd ["reader"] (spDateR c_Reader c_NoRule):=by
 refine F.okE (k:=4) sc_take_date (fun vs H Q E h=>?_) (fun cdv A outer s H vs Q E hr h T=>?_)
 ·obtain⟨x,p,ws,k,rfl,_⟩:=h
  rfl
 obtain⟨x,p,ws,k,rfl,R,o⟩:=h
 refine⟨_,(pss_cons (ps_set (i:=1) sc_take_date.nd rfl (by first | exact Or.inl rfl | exact Or.inr rfl) (pe_mcal0 c_Reader_take er.cl_Reader (hr.mono (by decide)) (pv 0)))
  (pss_cons (ps_if (pt_not (pt_val (pe_cal c_is_name (hr.mono (by decide)) rfl (pa_cons (pv 1) pa_nil))))
   (pss_one (ps_raise T rfl er.x_NoRule rfl (pa_cons pe_str pa_nil)))
   pss_nil)
  (pss_cons (ps_set (i:=2) sc_take_date.nd rfl (by first | exact Or.inl rfl | exact Or.inr rfl) (pe_calE T c_take_wanted (hr.mono (by decide)) rfl (pa_cons (pv 0) pa_nil)))
  (pss_cons (ps_set (i:=3) sc_take_date.nd rfl (by first | exact Or.inl rfl | exact Or.inr rfl) (pe_calE T c_take_wanted (hr.mono (by decide)) rfl (pa_cons (pv 0) pa_nil)))
  (pss_cons (ps_set (i:=4) sc_take_date.nd rfl (by first | exact Or.inl rfl | exact Or.inr rfl) (pe_tup (pa_cons pe_int (pa_cons pe_int pa_nil))))
  (pss_cons (ps_cut (ps_if (pt_cmpR op_eq (pe_mcal0 c_Reader_peek er.cl_Reader (hr.mono (by decide)) (pv 0)) pe_str (nomark _))
   (pss_cons (ps_expr (pe_mcal0 c_Reader_take er.cl_Reader (hr.mono (by decide)) (pv 0)))
  (pss_one (ps_set (i:=4) sc_take_date.nd rfl (by first | exact Or.inl rfl | exact Or.inr rfl) (pe_calE T c_take_each (hr.mono (by decide)) rfl (pa_cons (pv 0) pa_nil)))))
   pss_nil))
  (pss_one (ps_ret (pe_tup (pa_cons pe_str (pa_cons (pv 1) (pa_cons (pv 2) (pa_cons (pv 3) (pa_cons (pe_ix ix_tup (pv 4) pe_int (fun _ _=>rfl)) (pa_cons (pe_ix ix_tup (pv 4) pe_int (fun _ _=>rfl)) pa_nil))))))))))))))),?_⟩
 walk_at "rdx"
 obtain⟨dx1,hx1⟩:=R.ex
 refine⟨x,dx1,_,rfl,hx1,rfl,?_⟩
 walk_at "rdx"
 refine⟨x,p,ws,k,rfl,R,fun H1 k1 R1=>?_⟩
 walk_at "rdx"
 refine⟨_,rfl,nxt_ok R.ok k,fun v H2 s2 iv=>?_⟩
 rw[cpl_sW,nm_iff] at iv
 have kb:=k1.tr (KB.sm s2)
 have R2:=R1.same s2
 walk_at "rdx"
 cases v with
 | false=>
  refine iteT ?_
  walk_at "rdx"
  refine⟨(by show 1≤sizeLine;decide),o.2 ?_ H2 kb⟩
  rcases drop_c ws k with ⟨_,e⟩ | ⟨_,e,_⟩
  ·rw[e]
   simp only[tkDate]
   rw[if_neg (fun z=>absurd (iv.mpr z) (by decide))]
  ·rw[e]
   rfl
 | true=>
  have nb:=iv.mp rfl
  have wn:nxt ws k≠[]:=fun z=>by rw[z] at nb;revert nb;decide
  have u0:tkDate numVal (ws.drop k)=(match tkWant numVal (ws.drop (k+1)) with | none=>none | some (m,r)=>match tkWant numVal r with | none=>none | some (d,r)=>match tkYears numVal r with | none=>none | some (y,r)=>some (.date (nxt ws k) m d y.1 y.2,r)):=by
   rw[drop_w rfl wn]
   simp only[tkDate]
   rw[if_pos nb]
  have o0:=o.later kb
  refine iteF ?_
  walk_at "rdx"
  refine⟨x,p,ws,k+1,rfl,R2,fun m r v k3 H3 e3 kb3 R3 er ev=>?_,fun e3 H3 kb=>o0.2 (by rw[u0,e3]) H3 kb⟩
  subst er ev
  rw[e3] at u0
  simp only[] at u0
  have o3:=o0.later kb3
  walk_at "rdx"
  refine⟨x,p,ws,k3,rfl,R3,fun d r v k4 H4 e4 kb4 R4 er ev=>?_,fun e4 H4 kb=>o3.2 (by rw[u0,e4]) H4 kb⟩
  subst er ev
  rw[e4] at u0
  simp only[] at u0
  have o4:=o3.later kb4
  walk_at "rdx"
  refine⟨two',fun q0 hq0=>?_⟩
  refine fresh hq0 fun H5 s5 t5=>?_
  have o5:=o4.later (KB.sm s5)
  have R5:=R4.same s5
  walk_at "rdx"
  refine rd_cut (fun σ' H'=>∃(y:Int×Int) (q:Addr) (k':Nat),tkYears numVal (ws.drop k4)=some (y,ws.drop k')∧KB x H5 H'∧Rdr c_Reader H' x p ws k'∧H' q=some (.tup [.int y.1,.int y.2])∧σ'=[some (.ref x),some (.str (sW (nxt ws k))),some (oI m),some (oI d),some (.ref q)]) ?_ ?_
  ·walk_at "rdx"
   obtain⟨dx,hx⟩:=R5.ex
   refine⟨x,dx,_,rfl,hx,rfl,?_⟩
   walk_at "rdx"
   refine⟨x,p,ws,k4,rfl,R5,?_⟩
   walk_at "rdx"
   rw[sk_each]
   refine ite2d (fun e=>?_) (fun e=>?_)
   ·have e:=s_inj.mp e
    have ey:tkYears numVal (ws.drop k4)=tkEach numVal (ws.drop (k4+1)):=by
     rw[drop_w e (by decide)]
     rfl
    walk_at "rdx"
    obtain⟨dx6,hx6⟩:=R5.ex
    refine⟨x,dx6,_,rfl,hx6,rfl,?_⟩
    walk_at "rdx"
    refine⟨x,p,ws,k4,rfl,R5,fun H6 k6 R6=>?_⟩
    walk_at "rdx"
    refine⟨x,p,ws,k4+1,rfl,R6,fun y r v k7 H7 e7 kb7 R7 er ev=>?_,fun e7 H7 kb=>o5.2 (by rw[u0,ey,e7]) H7 (k6.tr kb)⟩
    subst er
    obtain⟨q,rfl,tq⟩:=ev
    walk_at "rdx"
    exact⟨y,q,k7,by rw[ey,e7],k6.tr kb7,R7,tq,rfl⟩
   ·have e:nxt ws k4≠kEach:=fun z=>e (s_inj.mpr z)
    walk_at "rdx"
    refine⟨(1,0),q0,k4,?_,KB.rf,R5,t5,rfl⟩
    rcases drop_c ws k4 with ⟨_,h⟩ | ⟨_,h,_⟩
    ·rw[h]
     simp only[tkYears]
     rw[if_neg e]
    ·rw[h]
     rfl
  rintro σ' H' ⟨y,q,k',ey,kb',R',tq,rfl⟩
  rw[ey] at u0
  simp only[] at u0
  walk_at "rdx"
  refine rd_ixT (SqT.of tq) at0 ?_
  walk_at "rdx"
  refine rd_ixT (SqT.of tq) at1 ?_
  walk_at "rdx"
  refine⟨(by show 6≤sizeLine;decide),fun q6 hq6=>?_⟩
  refine fresh hq6 fun H6 s6 t6=>?_
  exact o5.1 _ _ _ k' H6 u0 (kb'.tr (KB.sm s6)) (R'.same s6) rfl trivial
theorem sc_words_of:FnScope ["text","told","depth","whole","opened","word","opening","closing"] ["text"] (defScope s_words_of):=⟨rfl,rfl,rfl,by decide +kernel,rfl,by decide +kernel,by decide +kernel⟩
theorem ok_words_of{f:Addr}{fd:FuncData}(F:Fun K "words_of" "words_of" s_words_of f fd)(er:Errs K mg c_FeastError c_NoNumber c_TooLong c_NoMeasure c_NoRule c_NoName c_Rule c_All c_No c_Each c_Dated c_Not c_Both c_Either c_But c_Unlike c_Later c_Upon c_Until c_Near c_Till c_Kth c_Every c_Reader c_Measure c_Calendar c_Sun)(z_len:mg "len"=none){tk_MOST_BRACKETS:Tok}(m_MOST_BRACKETS:mg "MOST_BRACKETS"=some (.int 40 tk_MOST_BRACKETS)):FnOk P w K mg base (CX1 P w) 1 f fd ["text"] (spWords c_NoRule):=by
 refine F.okE (k:=0) sc_words_of (fun vs H Q E h=>?_) (fun cdv A outer s H vs Q E hr h T=>?_)
 ·obtain⟨z,rfl,_⟩:=h
  rfl
 obtain⟨z,rfl,hz,zl,q,qe⟩:=h
 refine⟨_,(pss_cons (ps_set (i:=1) sc_words_of.nd rfl (by first | exact Or.inl rfl | exact Or.inr rfl) (pe_lst pa_nil))
  (pss_cons (ps_set (i:=2) sc_words_of.nd rfl (by first | exact Or.inl rfl | exact Or.inr rfl) pe_int)
  (pss_cons (ps_for (by first | exact PassesOwn.leaving | exact PassesOwn.looking | with_unfolding_all passes_own) rfl (pi_list (pe_bm PySem.F.plainAttrs_str PySem.F.slot_str_split PySem.F.type_str_split mt_split (pv 0) (pa_cons pe_str pa_nil))) (pg_name (i:=3) sc_words_of.nd rfl (by first | exact Or.inl rfl | exact Or.inr rfl))
   (pss_cons (ps_set (i:=4) sc_words_of.nd rfl (by first | exact Or.inl rfl | exact Or.inr rfl) (pe_bm PySem.F.plainAttrs_str PySem.F.slot_str_lstrip PySem.F.type_str_lstrip mt_lstrip (pv 3) (pa_cons pe_str pa_nil)))
  (pss_cons (ps_set (i:=5) sc_words_of.nd rfl (by first | exact Or.inl rfl | exact Or.inr rfl) (pe_bm PySem.F.plainAttrs_str PySem.F.slot_str_rstrip PySem.F.type_str_rstrip mt_rstrip (pv 4) (pa_cons pe_str pa_nil)))
  (pss_cons (ps_if (pt_cmpR op_eq (pv 5) pe_str (nomark _))
   (pss_one (ps_raise T rfl er.x_NoRule rfl (pa_cons pe_str pa_nil)))
   pss_nil)
  (pss_cons (ps_set (i:=6) sc_words_of.nd rfl (by first | exact Or.inl rfl | exact Or.inr rfl) (pe_op op_sub (pe_callB call_len_str rfl z_len PySem.boot_len (pa_cons (pv 3) pa_nil)) (pe_callB call_len_str rfl z_len PySem.boot_len (pa_cons (pv 4) pa_nil))))
  (pss_cons (ps_set (i:=7) sc_words_of.nd rfl (by first | exact Or.inl rfl | exact Or.inr rfl) (pe_op op_sub (pe_callB call_len_str rfl z_len PySem.boot_len (pa_cons (pv 4) pa_nil)) (pe_callB call_len_str rfl z_len PySem.boot_len (pa_cons (pv 5) pa_nil))))
  (pss_cons (ps_set (i:=2) sc_words_of.nd rfl (by first | exact Or.inl rfl | exact Or.inr rfl) (pe_op op_add (pv 2) (pv 6)))
  (pss_cons (ps_if (pt_cmpR op_gt (pv 2) (pe_glob rfl m_MOST_BRACKETS (rel_int _ _)) (nomark _))
   (pss_one (ps_raise T rfl er.x_NoRule rfl (pa_cons pe_str pa_nil)))
   pss_nil)
  (pss_cons (ps_set (i:=2) sc_words_of.nd rfl (by first | exact Or.inl rfl | exact Or.inr rfl) (pe_op op_sub (pv 2) (pv 7)))
  (pss_one (ps_expr (pe_bm PySem.F.plainAttrs_list PySem.F.slot_list_extend PySem.F.type_list_extend mt_extend (pv 1) (pa_cons (pe_op op_cat (pe_op op_cat (pe_op op_rep (pe_lst (pa_cons pe_str pa_nil)) (pv 6)) (pe_lst (pa_cons (pv 5) pa_nil))) (pe_op op_rep (pe_lst (pa_cons pe_str pa_nil)) (pv 7))) pa_nil)))))))))))))
  (pss_one (ps_ret (pv 1)))))),?_⟩
 walk_at "rdx"
 refine⟨Nat.zero_le _,fun l hl=>?_⟩
 refine fresh hl fun H1 s1 t1=>?_
 walk_at "rdx"
 refine rd_for (rd_iL ?_)
 walk_at "rdx"
 refine rd_bm ?_
 walk_at "rdx"
 refine⟨rfl,?_⟩
 walk_at "rdx"
 refine⟨z,32,rfl,by rw[show Str.ofString " "=⟨#[32]⟩ from by decide +kernel],by decide,hz.len,fun l2 hl2=>?_⟩
 refine fresh hl2 fun H2 s2 t2=>?_
 walk_at "rdx"
 have ll:l2≠l:=fun z=>by rw[z,t1] at hl2;cases hl2
 have wt:=spl_wt 32 (cpl z)
 generalize hps:spl 32 (cpl z)=ps at*
 have t2:H2 l2=some (.lst (ps.map fun w=>V.str (sW w))):=by rw[t2,spl_sW,hps,List.map_map];rfl
 have fl:=flat_len ps
 have plen:∀(i:Nat) (w:Wd),ps[i]?=some w→w.length≤4000∧i<ps.length:=fun i w hw=>by
  have h1:(w.length+1)≤(ps.map fun w=>w.length+1).sum:=mem_sum (List.mem_map.mpr ⟨w,List.mem_of_getElem? hw,rfl⟩)
  exact⟨by omega,(List.getElem?_eq_some_iff.mp hw).1⟩
 refine⟨l2,rfl,⟨_,SqL.of t2⟩,for_list (xs:=ps.map fun w=>V.str (sW w)) (fun i σ' H'=>Same H H'∧H' l2=some (.lst (ps.map fun w=>V.str (sW w)))∧∃(d:Int) (v3 v4 v5 v6 v7:Option V),H' l=some (.lst (((ps.take i).flatMap ptok).map fun w=>V.str (sW w)))∧wordsOf 0 ps=(wordsOf d (ps.drop i)).map (fun r=>(ps.take i).flatMap ptok++r)∧σ'=[some (.str z),some (.ref l),some (.int d),v3,v4,v5,v6,v7]) ⟨s1.trans s2,t2,0,none,none,none,none,none,s2 _ _ t1,by rw[List.drop_zero];cases wordsOf 0 ps<;>rfl,rfl⟩ ?_ ?_ ?_⟩
 ·rintro i σ' H' _ ⟨_,t,_⟩
  exact SqL.of t
 ·rintro i x σ' H' hx ⟨sH,tp,d,v3,v4,v5,v6,v7,tl,ew,rfl⟩
  rw[List.getElem?_map] at hx
  obtain⟨w,hw,rfl⟩:=Option.map_eq_some_iff.mp hx
  obtain⟨wl,il⟩:=plen i w hw
  have ol:=opd_le w
  have cl:=core_le w
  have ed:ps.drop i=w::ps.drop (i+1):=by
   rw[List.drop_eq_getElem_cons il]
   congr 1
   rw[List.getElem?_eq_getElem il] at hw
   injection hw
  rw[ed] at ew
  have fit:w.length≤sizeLine:=Nat.le_trans wl (by decide)
  walk_at "rdx"
  refine rd_bm ?_
  walk_at "rdx"
  refine⟨rfl,?_⟩
  walk_at "rdx"
  refine⟨sW w,_,rfl,rfl,by rw[sW_len];exact fit,?_⟩
  rw[show (if stripSame (Str.ofString "(").cps.contains true false (sW w) then sW w else stripped (Str.ofString "(").cps.contains true false (sW w))=sW (opd w) from ls_sW w]
  walk_at "rdx"
  refine rd_bm ?_
  walk_at "rdx"
  refine⟨rfl,?_⟩
  walk_at "rdx"
  refine⟨sW (opd w),_,rfl,rfl,by rw[sW_len];omega,?_⟩
  rw[show (if stripSame (Str.ofString ")").cps.contains false true (sW (opd w)) then sW (opd w) else stripped (Str.ofString ")").cps.contains false true (sW (opd w)))=sW (core w) from rs_sW w]
  walk_at "rdx"
  rw[sk_nil]
  refine ite2d (fun e=>?_) (fun e=>?_)
  ·have e:=s_inj.mp e
   walk_at "rdx"
   refine⟨(by show 1≤sizeLine;decide),qe ?_ H' sH⟩
   rw[ew]
   simp only[wordsOf]
   rw[if_pos e]
   rfl
  have e:core w≠[]:=fun z=>e (s_inj.mpr z)
  walk_at "rdx"
  refine⟨_,rfl,by rw[sW_len];exact fit,?_⟩
  walk_at "rdx"
  refine⟨_,rfl,by rw[sW_len];omega,?_⟩
  walk_at "rdx"
  refine⟨_,rfl,by rw[sW_len];omega,?_⟩
  walk_at "rdx"
  refine⟨_,rfl,by rw[sW_len];omega,?_⟩
  rw[sW_len,sW_len,sW_len]
  walk_at "rdx"
  refine ite2d (fun e2=>?_) (fun e2=>?_)
  ·walk_at "rdx"
   refine⟨(by show 1≤sizeLine;decide),qe ?_ H' sH⟩
   rw[ew]
   simp only[wordsOf]
   rw[if_neg e,if_pos (by omega)]
   rfl
  walk_at "rdx"
  refine rd_ext rfl tl ?_
  walk_at "rdx"
  have sz:∀n:Nat,n≤100000→n≤sizeLine:=fun n h=>Nat.le_trans h (by decide)
  refine⟨(by show 1≤sizeLine;decide),fun m1 hm1=>?_⟩
  refine fresh hm1 fun H3 s3 t3=>?_
  rw[sk_L] at t3
  walk_at "rdx"
  refine rd_rep t3 (by omega) (by omega) (sz _ (by simp;omega)) fun m2 hm2=>?_
  refine fresh hm2 fun H4 s4 t4=>?_
  rw[rep_flat] at t4
  walk_at "rdx"
  refine⟨(by show 1≤sizeLine;decide),fun m3 hm3=>?_⟩
  refine fresh hm3 fun H5 s5 t5=>?_
  walk_at "rdx"
  refine⟨m2,m3,_,_,rfl,rfl,s5 _ _ t4,t5,sz _ (by simp;omega),fun m4 hm4=>?_⟩
  refine fresh hm4 fun H6 s6 t6=>?_
  walk_at "rdx"
  refine⟨(by show 1≤sizeLine;decide),fun m5 hm5=>?_⟩
  refine fresh hm5 fun H7 s7 t7=>?_
  rw[sk_R] at t7
  walk_at "rdx"
  refine rd_rep t7 (by omega) (by omega) (sz _ (by simp;omega)) fun m6 hm6=>?_
  refine fresh hm6 fun H8 s8 t8=>?_
  rw[rep_flat] at t8
  walk_at "rdx"
  refine⟨m4,m6,_,_,rfl,rfl,(s7.trans s8) _ _ t6,t8,sz _ (by simp;omega),fun m7 hm7=>?_⟩
  refine fresh hm7 fun H9 s9 t9=>?_
  have sA:=s3.trans (s4.trans (s5.trans (s6.trans (s7.trans (s8.trans s9)))))
  rw[show ((w.length:Int)-((opd w).length:Int)).toNat=w.length-(opd w).length by omega,show(((opd w).length:Int)-((core w).length:Int)).toNat=(opd w).length-(core w).length by omega,←ptok_V] at t9
  have tk:(ps.take (i+1)).flatMap ptok=(ps.take i).flatMap ptok++ptok w:=by
   rw[List.take_add_one,hw,Option.toList_some,List.flatMap_append,List.flatMap_cons,List.flatMap_nil,List.append_nil]
  have tle:=take_le (ps:=ps) i
  have ple:=ptok_len w
  refine rd_nil ?_
  refine⟨l,m7,_,_,rfl,rfl,sA _ _ tl,t9,?_,?_⟩
  ·rw[List.length_map,List.length_map]
   have b1:((ps.take i).flatMap ptok).length≤4001:=Nat.le_trans tle (Nat.le_trans fl (by rw[wt];omega))
   exact sz _ (Nat.le_trans (Nat.add_le_add b1 ple) (by omega))
  ·rw[←List.map_append,←tk]
   refine⟨fun r o ho=>?_,?_,_,_,_,_,_,_,upd_same,?_,rfl⟩
   ·rw[upd_ne fun z=>by rw[z,hl] at ho;cases ho]
    exact sA _ _ (sH _ _ ho)
   ·rw[upd_ne ll]
    exact sA _ _ tp
   ·rw[ew,tk]
    simp only[wordsOf]
    rw[if_neg e,if_neg (by omega)]
    cases wordsOf (d+((w.length:Int)-((opd w).length:Int))-(((opd w).length:Int)-((core w).length:Int))) (ps.drop (i+1)) with
    | none=>rfl
    | some r=>simp
 ·rintro σ' H' ⟨sH,_,d,v3,v4,v5,v6,v7,tl,ew,rfl⟩
  rw[List.length_map,List.take_length] at tl
  rw[List.length_map,List.take_length,List.drop_length] at ew
  walk_at "rdx"
  exact q _ l H' (by rw[ew];simp[wordsOf]) sH tl
theorem sc_take_numbered:FnScope ["reader","number","word","plan"] ["reader"] (defScope s_take_numbered):=⟨rfl,rfl,rfl,by decide +kernel,rfl,by decide +kernel,by decide +kernel⟩
theorem ok_take_numbered{k d:Nat}{f:Addr}{fd:FuncData}(F:Fun K "take_numbered" "take_numbered" s_take_numbered f fd)(er:Errs K mg c_FeastError c_NoNumber c_TooLong c_NoMeasure c_NoRule c_NoName c_Rule c_All c_No c_Each c_Dated c_Not c_Both c_Either c_But c_Unlike c_Later c_Upon c_Until c_Near c_Till c_Kth c_Every c_Reader c_Measure c_Calendar c_Sun)(c_take_number:CalE P w K mg base 3 "take_number" ["reader"] (spNumT c_Reader c_NoRule))(c_Reader_take:CalM P w K mg base CX0 2 c_Reader "take" ["self"] (spTake c_Reader))(c_take_plan:CalE P w K mg base k "take_plan" ["reader"] ((spPlan c_Reader c_NoRule) d))(c_take_word:CalE P w K mg base 3 "take_word" ["reader","word"] (spWord c_Reader c_NoRule))(hk:8≤k):FnOk P w K mg base (CX1 P w) (k+1) f fd ["reader"] ((spNumbd c_Reader c_NoRule) d):=by
 refine F.okE (k:=k+0) sc_take_numbered (fun vs H Q E h=>?_) (fun cdv A outer s H vs Q E hr h T=>?_)
 ·obtain⟨x,p,ws,k,rfl,_⟩:=h
  rfl
 obtain⟨x,p,ws,k,rfl,R,D,o⟩:=h
 refine⟨_,(pss_cons (ps_set (i:=1) sc_take_numbered.nd rfl (by first | exact Or.inl rfl | exact Or.inr rfl) (pe_calE T c_take_number (hr.mono (by omega)) rfl (pa_cons (pv 0) pa_nil)))
  (pss_cons (ps_set (i:=2) sc_take_numbered.nd rfl (by first | exact Or.inl rfl | exact Or.inr rfl) (pe_mcal0 c_Reader_take er.cl_Reader (hr.mono (by omega)) (pv 0)))
  (pss_cons (ps_if (pt_cmpR op_eq (pv 2) pe_str (nomark _))
   (pss_one (ps_ret (pe_tup (pa_cons (pv 2) (pa_cons (pv 1) (pa_cons (pe_calE T c_take_plan (hr.mono (by omega)) rfl (pa_cons (pv 0) pa_nil)) pa_nil))))))
   pss_nil)
  (pss_cons (ps_if (pt_cmpR op_ne (pv 2) pe_str (nomark _))
   (pss_one (ps_raise T rfl er.x_NoRule rfl (pa_cons pe_str pa_nil)))
   pss_nil)
  (pss_cons (ps_set (i:=3) sc_take_numbered.nd rfl (by first | exact Or.inl rfl | exact Or.inr rfl) (pe_calE T c_take_plan (hr.mono (by omega)) rfl (pa_cons (pv 0) pa_nil)))
  (pss_cons (ps_expr (pe_calE T c_take_word (hr.mono (by omega)) rfl (pa_cons (pv 0) (pa_cons pe_str pa_nil))))
  (pss_one (ps_ret (pe_tup (pa_cons (pv 2) (pa_cons (pv 1) (pa_cons (pv 3) (pa_cons (pe_calE T c_take_plan (hr.mono (by omega)) rfl (pa_cons (pv 0) pa_nil)) pa_nil))))))))))))),?_⟩
 walk_at "rdx"
 refine⟨x,p,ws,k,rfl,R,fun n1 r v k1 H1 e1 kb1 R1 er ev=>?_,fun e H' kb=>o.2 (by unfold tkNumbered;rw[e]) H' kb⟩
 subst er ev
 have o1:=o.later kb1
 walk_at "rdx"
 have D1:=D.tk (tkNum_tk e1)
 have u:tkNumbered numVal (prs numVal d) (ws.drop k)=(match ws.drop k1 with | []=>none | w::r=>if w=kLater then match prs numVal d r with | none=>none | some (p,r)=>some (.later n1 p,r) else if w=kOf then match prs numVal d r with | none=>none | some (p,r)=>match tkW kFrom r with | none=>none | some r=>match prs numVal d r with | none=>none | some (q,r)=>some (.nth n1 p q,r) else none):=by
  unfold tkNumbered
  rw[e1]
  cases ws.drop k1<;>rfl
 obtain⟨dx2,hx2⟩:=R1.ex
 refine⟨x,dx2,_,rfl,hx2,rfl,?_⟩
 walk_at "rdx"
 refine⟨x,p,ws,k1,rfl,R1,fun H2 k2 R2=>?_⟩
 walk_at "rdx"
 rw[sk_later,sk_of]
 have o2:=o1.later k2
 refine ite2d (fun e=>?_) (fun e=>?_)
 ·have e:=s_inj.mp e
  have dk:=drop_w e (by decide)
  rw[dk] at u D1
  have D2:=D1.word (by decide)
  simp only[if_true] at u
  walk_at "rdx"
  refine⟨x,p,ws,(k1+1),rfl,R2,D2,fun p3 r v3 k3 H3 e3 kb3 R3 er pl3=>?_,fun e H' kb=>o2.2 (by rw[u,e]) H' kb⟩
  subst er
  have o3:=o2.later kb3
  have D3:=DD.tk D2 (prs_tk e3)
  walk_at "rdx"
  refine⟨(by show 3≤sizeLine;decide),fun q hq=>?_⟩
  refine fresh hq fun H4 s4 t4=>?_
  exact o3.1 (.later n1 p3) _ _ k3 H4 (by rw[u,e3]) (KB.sm s4) (R3.same s4) rfl trivial
 ·have e:nxt ws k1≠kLater:=fun z=>e (s_inj.mpr z)
  walk_at "rdx"
  by_cases f:nxt ws k1=kOf
  ·have dk:=drop_w f (by decide)
   rw[dk] at u D1
   have D2:=D1.word (by decide)
   simp only[show kOf≠kLater by decide,if_false,if_true] at u
   refine iteNS (by rw[f]) ?_
   walk_at "rdx"
   refine⟨x,p,ws,(k1+1),rfl,R2,D2,fun p3 r v3 k3 H3 e3 kb3 R3 er pl3=>?_,fun e H' kb=>o2.2 (by rw[u,e]) H' kb⟩
   subst er
   have o3:=o2.later kb3
   have D3:=DD.tk D2 (prs_tk e3)
   walk_at "rdx"
   rw[e3] at u
   simp only[] at u
   rw[sk_from]
   refine⟨x,p,ws,k3,kFrom,rfl,by decide,by decide,R3,fun _ r v k4 H4 e4 kb4 R4 er ev=>?_,fun e H' kb=>o3.2 (by rw[u,tkU_none e]) H' kb⟩
   subst er
   have e4:=tkU_some e4
   have o4:=o3.later kb4
   walk_at "rdx"
   rw[e4] at u
   simp only[] at u
   have D4:DD d (ws.drop k4):=by
    have h:=tkW_tk e4
    rw[h] at D3
    exact D3.word (by decide)
   refine⟨x,p,ws,k4,rfl,R4,D4,fun p5 r v5 k5 H5 e5 kb5 R5 er pl5=>?_,fun e H' kb=>o4.2 (by rw[u,e]) H' kb⟩
   subst er
   have o5:=o4.later kb5
   have D5:=DD.tk D4 (prs_tk e5)
   walk_at "rdx"
   refine⟨(by show 4≤sizeLine;decide),fun q hq=>?_⟩
   refine fresh hq fun H6 s6 t6=>?_
   exact o5.1 (.nth n1 p3 p5) _ _ k5 H6 (by rw[u,e5]) (KB.sm s6) (R5.same s6) rfl trivial
  ·refine iteNN (fun z=>f (s_inj.mp z)) ?_
   walk_at "rdx"
   refine⟨(by show 1≤sizeLine;decide),o2.2 ?_ H2 KB.rf⟩
   rw[u]
   rcases drop_c ws k1 with ⟨_,h⟩ | ⟨_,h,_⟩
   ·rw[h]
    simp only[]
    rw[if_neg e,if_neg f]
   ·rw[h]
theorem sc_take_every:FnScope ["reader","number","plan"] ["reader"] (defScope s_take_every):=⟨rfl,rfl,rfl,by decide +kernel,rfl,by decide +kernel,by decide +kernel⟩
theorem ok_take_every{k d:Nat}{f:Addr}{fd:FuncData}(F:Fun K "take_every" "take_every" s_take_every f fd)(c_take_number:CalE P w K mg base 3 "take_number" ["reader"] (spNumT c_Reader c_NoRule))(c_take_word:CalE P w K mg base 3 "take_word" ["reader","word"] (spWord c_Reader c_NoRule))(c_take_plan:CalE P w K mg base k "take_plan" ["reader"] ((spPlan c_Reader c_NoRule) d))(hk:8≤k):FnOk P w K mg base (CX1 P w) (k+1) f fd ["reader"] ((spEvery7 c_Reader c_NoRule) d):=by
 refine F.okE (k:=k+0) sc_take_every (fun vs H Q E h=>?_) (fun cdv A outer s H vs Q E hr h T=>?_)
 ·obtain⟨x,p,ws,k,rfl,_⟩:=h
  rfl
 obtain⟨x,p,ws,k,rfl,R,D,o⟩:=h
 refine⟨_,(pss_cons (ps_set (i:=1) sc_take_every.nd rfl (by first | exact Or.inl rfl | exact Or.inr rfl) (pe_calE T c_take_number (hr.mono (by omega)) rfl (pa_cons (pv 0) pa_nil)))
  (pss_cons (ps_expr (pe_calE T c_take_word (hr.mono (by omega)) rfl (pa_cons (pv 0) (pa_cons pe_str pa_nil))))
  (pss_cons (ps_set (i:=2) sc_take_every.nd rfl (by first | exact Or.inl rfl | exact Or.inr rfl) (pe_calE T c_take_plan (hr.mono (by omega)) rfl (pa_cons (pv 0) pa_nil)))
  (pss_cons (ps_expr (pe_calE T c_take_word (hr.mono (by omega)) rfl (pa_cons (pv 0) (pa_cons pe_str pa_nil))))
  (pss_one (ps_ret (pe_tup (pa_cons pe_str (pa_cons (pv 1) (pa_cons (pv 2) (pa_cons (pe_calE T c_take_number (hr.mono (by omega)) rfl (pa_cons (pv 0) pa_nil)) pa_nil))))))))))),?_⟩
 walk_at "rdx"
 refine⟨x,p,ws,k,rfl,R,fun n1 r v k1 H1 e1 kb1 R1 er ev=>?_,fun e H' kb=>o.2 (by unfold tkEvery;rw[e]) H' kb⟩
 subst er ev
 have o1:=o.later kb1
 walk_at "rdx"
 have u:tkEvery numVal (prs numVal d) (ws.drop k)=(match tkW kOf (ws.drop k1) with | none=>none | some r=>match prs numVal d r with | none=>none | some (p,r)=>match tkW kFrom r with | none=>none | some r=>match tkNum numVal r with | none=>none | some (m,r)=>some (.every n1 p m,r)):=by
  unfold tkEvery
  rw[e1]
 have D1:=D.tk (tkNum_tk e1)
 rw[sk_of]
 refine⟨x,p,ws,k1,kOf,rfl,by decide,by decide,R1,fun _ r v k2 H2 e2 kb2 R2 er ev=>?_,fun e H' kb=>o1.2 (by rw[u,tkU_none e]) H' kb⟩
 subst er
 have e2:=tkU_some e2
 have o2:=o1.later kb2
 walk_at "rdx"
 rw[e2] at u
 simp only[] at u
 have D2:DD d (ws.drop k2):=by
  have h:=tkW_tk e2
  rw[h] at D1
  exact D1.word (by decide)
 refine⟨x,p,ws,k2,rfl,R2,D2,fun p3 r v3 k3 H3 e3 kb3 R3 er pl3=>?_,fun e H' kb=>o2.2 (by rw[u,e]) H' kb⟩
 subst er
 have o3:=o2.later kb3
 have D3:=DD.tk D2 (prs_tk e3)
 walk_at "rdx"
 rw[e3] at u
 simp only[] at u
 rw[sk_from]
 refine⟨x,p,ws,k3,kFrom,rfl,by decide,by decide,R3,fun _ r v k4 H4 e4 kb4 R4 er ev=>?_,fun e H' kb=>o3.2 (by rw[u,tkU_none e]) H' kb⟩
 subst er
 have e4:=tkU_some e4
 have o4:=o3.later kb4
 walk_at "rdx"
 rw[e4] at u
 simp only[] at u
 refine⟨x,p,ws,k4,rfl,R4,fun n5 r v k5 H5 e5 kb5 R5 er ev=>?_,fun e H' kb=>o4.2 (by rw[u,e]) H' kb⟩
 subst er ev
 have o5:=o4.later kb5
 walk_at "rdx"
 refine⟨(by show 4≤sizeLine;decide),fun q hq=>?_⟩
 refine fresh hq fun H6 s6 t6=>?_
 exact o5.1 (.every n1 p3 n5) _ _ k5 H6 (by rw[u,e5]) (KB.sm s6) (R5.same s6) rfl trivial
theorem sc_take_pair:FnScope ["reader","plan","word"] ["reader"] (defScope s_take_pair):=⟨rfl,rfl,rfl,by decide +kernel,rfl,by decide +kernel,by decide +kernel⟩
theorem ok_take_pair{k d:Nat}{f:Addr}{fd:FuncData}(F:Fun K "take_pair" "take_pair" s_take_pair f fd)(er:Errs K mg c_FeastError c_NoNumber c_TooLong c_NoMeasure c_NoRule c_NoName c_Rule c_All c_No c_Each c_Dated c_Not c_Both c_Either c_But c_Unlike c_Later c_Upon c_Until c_Near c_Till c_Kth c_Every c_Reader c_Measure c_Calendar c_Sun)(c_take_plan:CalE P w K mg base k "take_plan" ["reader"] ((spPlan c_Reader c_NoRule) d))(c_Reader_take:CalM P w K mg base CX0 2 c_Reader "take" ["self"] (spTake c_Reader)){ta_PAIR_WORDS:Addr}(m_PAIR_WORDS:mg "PAIR_WORDS"=some (.ref ta_PAIR_WORDS))(s_PAIR_WORDS:∀H,SqT K H ta_PAIR_WORDS [.str "and",.str "or",.str "but",.str "unlike",.str "upon",.str "until",.str "near",.str "till"])(hk:8≤k):FnOk P w K mg base (CX1 P w) (k+1) f fd ["reader"] ((spPair7 c_Reader c_NoRule) d):=by
 refine F.okE (k:=k+0) sc_take_pair (fun vs H Q E h=>?_) (fun cdv A outer s H vs Q E hr h T=>?_)
 ·obtain⟨x,p,ws,k,rfl,_⟩:=h
  rfl
 obtain⟨x,p,ws,k,rfl,R,D,o⟩:=h
 refine⟨_,(pss_cons (ps_set (i:=1) sc_take_pair.nd rfl (by first | exact Or.inl rfl | exact Or.inr rfl) (pe_calE T c_take_plan (hr.mono (by omega)) rfl (pa_cons (pv 0) pa_nil)))
  (pss_cons (ps_set (i:=2) sc_take_pair.nd rfl (by first | exact Or.inl rfl | exact Or.inr rfl) (pe_mcal0 c_Reader_take er.cl_Reader (hr.mono (by omega)) (pv 0)))
  (pss_cons (ps_if (pt_cmpR op_notIn_seq (pv 2) (pe_glob rfl m_PAIR_WORDS (rel_ref _)) (by rfl))
   (pss_one (ps_raise T rfl er.x_NoRule rfl (pa_cons pe_str pa_nil)))
   pss_nil)
  (pss_one (ps_ret (pe_tup (pa_cons (pv 2) (pa_cons (pv 1) (pa_cons (pe_calE T c_take_plan (hr.mono (by omega)) rfl (pa_cons (pv 0) pa_nil)) pa_nil))))))))),?_⟩
 walk_at "rdx"
 refine⟨x,p,ws,k,rfl,R,D,fun p1 r v1 k1 H1 e1 kb1 R1 er pl1=>?_,fun e H' kb=>o.2 (by unfold tkPair;rw[e]) H' kb⟩
 subst er
 have o1:=o.later kb1
 have D1:=DD.tk D (prs_tk e1)
 walk_at "rdx"
 have u:tkPair (prs numVal d) (ws.drop k)=(match ws.drop k1 with | []=>none | w::r=>if w∈pairWs then match prs numVal d r with | none=>none | some (q,r)=>some (.pair w p1 q,r) else none):=by
  unfold tkPair
  rw[e1]
  cases ws.drop k1<;>rfl
 obtain⟨dx2,hx2⟩:=R1.ex
 refine⟨x,dx2,_,rfl,hx2,rfl,?_⟩
 walk_at "rdx"
 refine⟨x,p,ws,k1,rfl,R1,fun H2 k2 R2=>?_⟩
 walk_at "rdx"
 have o2:=o1.later k2
 have pl2:=PlH.kb R1 k2 pl1
 refine⟨ta_PAIR_WORDS,_,rfl,.inr (s_PAIR_WORDS _),rfl,rfl,?_⟩
 rw[in_pairs]
 walk_at "rdx"
 by_cases m:nxt ws k1∈pairWs
 ·rw[decide_eq_true m]
  refine iteF ?_
  have mw:∀w∈pairWs,w≠[]∧ht [w]=0:=by decide
  have dk:=drop_w rfl (mw _ m).1
  rw[dk] at u D1
  have D2:=D1.word (mw _ m).2
  simp only[] at u
  rw[if_pos m] at u
  walk_at "rdx"
  refine⟨x,p,ws,(k1+1),rfl,R2,D2,fun p3 r v3 k3 H3 e3 kb3 R3 er pl3=>?_,fun e H' kb=>o2.2 (by rw[u,e]) H' kb⟩
  subst er
  have o3:=o2.later kb3
  have D3:=DD.tk D2 (prs_tk e3)
  walk_at "rdx"
  have pl3':=PlH.kb R2 kb3 pl2
  refine⟨(by show 3≤sizeLine;decide),fun q hq=>?_⟩
  refine fresh hq fun H4 s4 t4=>?_
  exact o3.1 (.pair (nxt ws k1) p1 p3) _ _ k3 H4 (by rw[u,e3]) (KB.sm s4) (R3.same s4) rfl ⟨q,_,_,rfl,t4,PlH.kp (fun y xs e=>s4 _ _ e) pl3',PlH.kp (fun y xs e=>s4 _ _ e) pl3⟩
 ·rw[decide_eq_false m]
  refine iteT ?_
  walk_at "rdx"
  refine⟨(by show 1≤sizeLine;decide),o2.2 ?_ H2 KB.rf⟩
  rw[u]
  rcases drop_c ws k1 with ⟨_,h⟩ | ⟨_,h,_⟩
  ·rw[h]
   simp only[]
   rw[if_neg m]
  ·rw[h]
theorem sc_take_within:FnScope ["reader","word"] ["reader"] (defScope s_take_within):=⟨rfl,rfl,rfl,by decide +kernel,rfl,by decide +kernel,by decide +kernel⟩
theorem ok_take_within{k d:Nat}{f:Addr}{fd:FuncData}(F:Fun K "take_within" "take_within" s_take_within f fd)(er:Errs K mg c_FeastError c_NoNumber c_TooLong c_NoMeasure c_NoRule c_NoName c_Rule c_All c_No c_Each c_Dated c_Not c_Both c_Either c_But c_Unlike c_Later c_Upon c_Until c_Near c_Till c_Kth c_Every c_Reader c_Measure c_Calendar c_Sun)(c_Reader_peek:CalM P w K mg base CX0 1 c_Reader "peek" ["self"] (spPeek c_Reader))(c_Reader_take:CalM P w K mg base CX0 2 c_Reader "take" ["self"] (spTake c_Reader))(c_take_plan:CalE P w K mg base k "take_plan" ["reader"] ((spPlan c_Reader c_NoRule) d))(c_take_every:CalE P w K mg base (k+1) "take_every" ["reader"] ((spEvery7 c_Reader c_NoRule) d))(c_is_number:Cal P w K mg base 1 "is_number" ["text"] spIsNum)(c_take_numbered:CalE P w K mg base (k+1) "take_numbered" ["reader"] ((spNumbd c_Reader c_NoRule) d))(c_take_pair:CalE P w K mg base (k+1) "take_pair" ["reader"] ((spPair7 c_Reader c_NoRule) d))(hk:8≤k):FnOk P w K mg base (CX1 P w) (k+2) f fd ["reader"] ((spWithin c_Reader c_NoRule) d):=by
 refine F.okE (k:=k+1) sc_take_within (fun vs H Q E h=>?_) (fun cdv A outer s H vs Q E hr h T=>?_)
 ·obtain⟨x,p,ws,k,rfl,_⟩:=h
  rfl
 obtain⟨x,p,ws,k,rfl,R,D,o⟩:=h
 refine⟨_,(pss_cons (ps_set (i:=1) sc_take_within.nd rfl (by first | exact Or.inl rfl | exact Or.inr rfl) (pe_mcal0 c_Reader_peek er.cl_Reader (hr.mono (by omega)) (pv 0)))
  (pss_cons (ps_if (pt_cmpR op_eq (pv 1) pe_str (nomark _))
   (pss_cons (ps_expr (pe_mcal0 c_Reader_take er.cl_Reader (hr.mono (by omega)) (pv 0)))
  (pss_one (ps_ret (pe_tup (pa_cons (pv 1) (pa_cons (pe_calE T c_take_plan (hr.mono (by omega)) rfl (pa_cons (pv 0) pa_nil)) pa_nil))))))
   pss_nil)
  (pss_cons (ps_if (pt_cmpR op_eq (pv 1) pe_str (nomark _))
   (pss_cons (ps_expr (pe_mcal0 c_Reader_take er.cl_Reader (hr.mono (by omega)) (pv 0)))
  (pss_one (ps_ret (pe_calE T c_take_every (hr.mono (by omega)) rfl (pa_cons (pv 0) pa_nil)))))
   pss_nil)
  (pss_cons (ps_if (pt_val (pe_cal c_is_number (hr.mono (by omega)) rfl (pa_cons (pv 1) pa_nil)))
   (pss_one (ps_ret (pe_calE T c_take_numbered (hr.mono (by omega)) rfl (pa_cons (pv 0) pa_nil))))
   pss_nil)
  (pss_one (ps_ret (pe_calE T c_take_pair (hr.mono (by omega)) rfl (pa_cons (pv 0) pa_nil)))))))),?_⟩
 walk_at "rdx"
 obtain⟨dx,hx⟩:=R.ex
 refine⟨x,dx,_,rfl,hx,rfl,?_⟩
 walk_at "rdx"
 refine⟨x,p,ws,k,rfl,R,?_⟩
 walk_at "rdx"
 rw[sk_not]
 refine ite2d (fun e=>?_) (fun e=>?_)
 ·have e:=s_inj.mp e
  have dk:=drop_w e (by decide)
  have u:tkWithin numVal (prs numVal d) (ws.drop k)=(match prs numVal d (ws.drop (k+1)) with | none=>none | some (p,r)=>some (.not p,r)):=by
   rw[dk]
   rfl
  rw[dk] at D
  have D1:=D.word (by decide)
  walk_at "rdx"
  obtain⟨dx1,hx1⟩:=R.ex
  refine⟨x,dx1,_,rfl,hx1,rfl,?_⟩
  walk_at "rdx"
  refine⟨x,p,ws,k,rfl,R,fun H1 k1 R1=>?_⟩
  walk_at "rdx"
  have o1:=o.later k1
  refine⟨x,p,ws,(k+1),rfl,R1,D1,fun p2 r v2 k2 H2 e2 kb2 R2 er pl2=>?_,fun e H' kb=>o1.2 (by rw[u,e]) H' kb⟩
  subst er
  have o2:=o1.later kb2
  have D2:=DD.tk D1 (prs_tk e2)
  walk_at "rdx"
  rw[e]
  refine⟨two',fun q hq=>?_⟩
  refine fresh hq fun H4 s4 t4=>?_
  exact o2.1 (.not p2) _ _ k2 H4 (by rw[u,e2]) (KB.sm s4) (R2.same s4) rfl ⟨q,_,rfl,t4,PlH.kp (fun y xs e=>s4 _ _ e) pl2⟩
 have e:nxt ws k≠kNot:=fun z=>e (s_inj.mpr z)
 walk_at "rdx"
 rw[sk_every]
 refine ite2d (fun f=>?_) (fun f=>?_)
 ·have f:=s_inj.mp f
  have dk:=drop_w f (by decide)
  have u:tkWithin numVal (prs numVal d) (ws.drop k)=tkEvery numVal (prs numVal d) (ws.drop (k+1)):=by
   rw[dk]
   rfl
  rw[u] at o
  rw[dk] at D
  have D1:=D.word (by decide)
  walk_at "rdx"
  obtain⟨dx1,hx1⟩:=R.ex
  refine⟨x,dx1,_,rfl,hx1,rfl,?_⟩
  walk_at "rdx"
  refine⟨x,p,ws,k,rfl,R,fun H1 k1 R1=>?_⟩
  walk_at "rdx"
  exact⟨x,p,ws,k+1,rfl,R1,D1,o.later k1⟩
 have f:nxt ws k≠kEvery:=fun z=>f (s_inj.mpr z)
 walk_at "rdx"
 refine⟨_,rfl,nxt_ok R.ok k,fun v H2 s2 iv=>?_⟩
 rw[cpl_sW,nu_iff] at iv
 have R2:=R.same s2
 walk_at "rdx"
 cases v with
 | true=>
  have nb:=iv.mp rfl
  have wn:nxt ws k≠[]:=fun z=>by rw[z] at nb;revert nb;decide
  refine iteT ?_
  walk_at "rdx"
  refine⟨x,p,ws,k,rfl,R2,D,?_⟩
  rw[drop_w rfl wn] at o ⊢
  rw[within_num nb] at o
  exact o.later (KB.sm s2)
 | false=>
  have nb:¬numB (nxt ws k)=true:=fun z=>absurd (iv.mpr z) (by decide)
  refine iteF ?_
  walk_at "rdx"
  refine⟨x,p,ws,k,rfl,R2,D,?_⟩
  rcases drop_c ws k with ⟨_,h⟩ | ⟨_,h,_⟩
  ·rw[h] at o ⊢
   simp only[tkWithin] at o
   rw[if_neg e,if_neg f,if_neg nb] at o
   exact o.later (KB.sm s2)
  ·rw[h] at o ⊢
   have:tkPair (prs numVal d) []=none:=by
    unfold tkPair
    cases d<;>rfl
   rw[this]
   exact Out.later (show Out c_Reader c_NoRule H x p ws (none:Option (Pl×List Wd)) isPl Q E from o) (KB.sm s2)
theorem sc_take_plan:FnScope ["reader","word","plan","numbers"] ["reader"] (defScope s_take_plan):=⟨rfl,rfl,rfl,by decide +kernel,rfl,by decide +kernel,by decide +kernel⟩
theorem ok_take_plan{k d:Nat}{f:Addr}{fd:FuncData}(F:Fun K "take_plan" "take_plan" s_take_plan f fd)(er:Errs K mg c_FeastError c_NoNumber c_TooLong c_NoMeasure c_NoRule c_NoName c_Rule c_All c_No c_Each c_Dated c_Not c_Both c_Either c_But c_Unlike c_Later c_Upon c_Until c_Near c_Till c_Kth c_Every c_Reader c_Measure c_Calendar c_Sun)(c_Reader_take:CalM P w K mg base CX0 2 c_Reader "take" ["self"] (spTake c_Reader))(c_take_each:CalE P w K mg base 4 "take_each" ["reader"] (spEachR c_Reader c_NoRule))(c_take_date:CalE P w K mg base 5 "take_date" ["reader"] (spDateR c_Reader c_NoRule))(c_take_within:CalE P w K mg base (k+2) "take_within" ["reader"] ((spWithin c_Reader c_NoRule) d))(c_take_word:CalE P w K mg base 3 "take_word" ["reader","word"] (spWord c_Reader c_NoRule))(hk:8≤k):FnOk P w K mg base (CX1 P w) (k+3) f fd ["reader"] ((spPlan c_Reader c_NoRule) (d+1)):=by
 refine F.okE (k:=k+2) sc_take_plan (fun vs H Q E h=>?_) (fun cdv A outer s H vs Q E hr h T=>?_)
 ·obtain⟨x,p,ws,k,rfl,_⟩:=h
  rfl
 obtain⟨x,p,ws,k,rfl,R,D,o⟩:=h
 refine⟨_,(pss_cons (ps_set (i:=1) sc_take_plan.nd rfl (by first | exact Or.inl rfl | exact Or.inr rfl) (pe_mcal0 c_Reader_take er.cl_Reader (hr.mono (by omega)) (pv 0)))
  (pss_cons (ps_if (PW.pt (pw_or (pt_cmpR op_eq (pv 1) pe_str (nomark _)) (pw_or1 (pt_cmpR op_eq (pv 1) pe_str (nomark _)))))
   (pss_one (ps_ret (pe_tup (pa_cons (pv 1) pa_nil))))
   pss_nil)
  (pss_cons (ps_if (pt_cmpR op_eq (pv 1) pe_str (nomark _))
   (pss_cons (ps_set (i:=3) sc_take_plan.nd rfl (by first | exact Or.inl rfl | exact Or.inr rfl) (pe_calE T c_take_each (hr.mono (by omega)) rfl (pa_cons (pv 0) pa_nil)))
  (pss_one (ps_ret (pe_tup (pa_cons (pv 1) (pa_cons (pe_ix ix_tup (pv 3) pe_int (fun _ _=>rfl)) (pa_cons (pe_ix ix_tup (pv 3) pe_int (fun _ _=>rfl)) pa_nil)))))))
   pss_nil)
  (pss_cons (ps_if (pt_cmpR op_eq (pv 1) pe_str (nomark _))
   (pss_one (ps_ret (pe_calE T c_take_date (hr.mono (by omega)) rfl (pa_cons (pv 0) pa_nil))))
   pss_nil)
  (pss_cons (ps_if (pt_cmpR op_ne (pv 1) pe_str (nomark _))
   (pss_one (ps_raise T rfl er.x_NoRule rfl (pa_cons pe_str pa_nil)))
   pss_nil)
  (pss_cons (ps_set (i:=2) sc_take_plan.nd rfl (by first | exact Or.inl rfl | exact Or.inr rfl) (pe_calE T c_take_within (hr.mono (by omega)) rfl (pa_cons (pv 0) pa_nil)))
  (pss_cons (ps_expr (pe_calE T c_take_word (hr.mono (by omega)) rfl (pa_cons (pv 0) (pa_cons pe_str pa_nil))))
  (pss_one (ps_ret (pv 2)))))))))),?_⟩
 walk_at "rdx"
 obtain⟨dx1,hx1⟩:=R.ex
 refine⟨x,dx1,_,rfl,hx1,rfl,?_⟩
 walk_at "rdx"
 refine⟨x,p,ws,k,rfl,R,fun H1 k1 R1=>?_⟩
 walk_at "rdx"
 have o1:=o.later k1
 rw[sk_all,sk_none]
 refine ite2d (fun e=>?_) (fun e=>?_)
 ·have e:=s_inj.mp e
  refine iteT ?_
  walk_at "rdx"
  refine⟨(by show 1≤sizeLine;decide),fun q hq=>?_⟩
  refine fresh hq fun H4 s4 t4=>?_
  exact o1.1 (.lf (nxt ws k)) _ _ (k+1) H4 (by rw[drop_w e (by decide),e];rfl) (KB.sm s4) (R1.same s4) rfl ⟨q,rfl,t4⟩
 have e:nxt ws k≠kAll:=fun z=>e (s_inj.mpr z)
 walk_at "rdx"
 refine ite2d (fun f=>?_) (fun f=>?_)
 ·have f:=s_inj.mp f
  walk_at "rdx"
  refine⟨(by show 1≤sizeLine;decide),fun q hq=>?_⟩
  refine fresh hq fun H4 s4 t4=>?_
  exact o1.1 (.lf (nxt ws k)) _ _ (k+1) H4 (by rw[drop_w f (by decide),f];rfl) (KB.sm s4) (R1.same s4) rfl ⟨q,rfl,t4⟩
 have f:nxt ws k≠kNone:=fun z=>f (s_inj.mpr z)
 walk_at "rdx"
 rw[sk_each]
 refine ite2d (fun g=>?_) (fun g=>?_)
 ·have g:=s_inj.mp g
  have dk:=drop_w g (by decide)
  have u:prs numVal (d+1) (ws.drop k)=(match tkEach numVal (ws.drop (k+1)) with | none=>none | some (y,r)=>some (.each y.1 y.2,r)):=by
   rw[dk]
   rfl
  walk_at "rdx"
  refine⟨x,p,ws,k+1,rfl,R1,fun y r v k2 H2 e2 kb2 R2 er ev=>?_,fun e H' kb=>o1.2 (by rw[u,e]) H' kb⟩
  subst er
  obtain⟨q,rfl,tq⟩:=ev
  have o2:=o1.later kb2
  walk_at "rdx"
  refine rd_ixT (SqT.of tq) at0 ?_
  walk_at "rdx"
  refine rd_ixT (SqT.of tq) at1 ?_
  walk_at "rdx"
  refine⟨(by show 3≤sizeLine;decide),fun q3 hq3=>?_⟩
  refine fresh hq3 fun H4 s4 t4=>?_
  rw[g] at t4
  exact o2.1 (.each y.1 y.2) _ _ k2 H4 (by rw[u,e2]) (KB.sm s4) (R2.same s4) rfl ⟨q3,rfl,t4⟩
 have g:nxt ws k≠kEach:=fun z=>g (s_inj.mpr z)
 walk_at "rdx"
 rw[sk_date]
 refine ite2d (fun h=>?_) (fun h=>?_)
 ·have h:=s_inj.mp h
  have dk:=drop_w h (by decide)
  have u:prs numVal (d+1) (ws.drop k)=tkDate numVal (ws.drop (k+1)):=by
   rw[dk]
   rfl
  rw[u] at o1
  walk_at "rdx"
  exact⟨x,p,ws,k+1,rfl,R1,o1⟩
 have h:nxt ws k≠kDate:=fun z=>h (s_inj.mpr z)
 walk_at "rdx"
 rw[sk_L]
 by_cases i:nxt ws k=kL
 ·have dk:=drop_w i (by decide)
  refine iteNS (by rw[i]) ?_
  have u:prs numVal (d+1) (ws.drop k)=(match tkWithin numVal (prs numVal d) (ws.drop (k+1)) with | none=>none | some (p,r)=>match tkW kR r with | none=>none | some r=>some (p,r)):=by
   rw[dk]
   rfl
  rw[dk] at D
  have D1:=D.open
  walk_at "rdx"
  refine⟨x,p,ws,k+1,rfl,R1,D1,fun p2 r v2 k2 H2 e2 kb2 R2 er pl2=>?_,fun e H' kb=>o1.2 (by rw[u,e]) H' kb⟩
  subst er
  have o2:=o1.later kb2
  rw[e2] at u
  simp only[] at u
  walk_at "rdx"
  rw[sk_R]
  refine⟨x,p,ws,k2,kR,rfl,by decide,by decide,R2,fun _ r v k3 H3 e3 kb3 R3 er ev=>?_,fun e H' kb=>o2.2 (by rw[u,tkU_none e]) H' kb⟩
  subst er
  have e3:=tkU_some e3
  have o3:=o2.later kb3
  walk_at "rdx"
  exact o3.1 p2 _ _ k3 H3 (by rw[u,e3]) KB.rf R3 rfl (PlH.kb R2 kb3 pl2)
 ·refine iteNN (fun z=>i (s_inj.mp z)) ?_
  walk_at "rdx"
  refine⟨(by show 1≤sizeLine;decide),o1.2 ?_ H1 KB.rf⟩
  rcases drop_c ws k with ⟨_,z⟩ | ⟨_,z,_⟩
  ·rw[z]
   simp only[prs]
   rw[if_neg (fun y=>y.elim e f),if_neg g,if_neg h,if_neg i]
  ·rw[z]
   rfl
theorem sc_refuse_below_one:FnScope ["number"] ["number"] (defScope s_refuse_below_one):=⟨rfl,rfl,rfl,by decide +kernel,rfl,by decide +kernel,by decide +kernel⟩
theorem ok_refuse_below_one{f:Addr}{fd:FuncData}(F:Fun K "refuse_below_one" "refuse_below_one" s_refuse_below_one f fd):FnOk P w K mg base CX0 1 f fd ["number"] spRefuse:=by
 refine F.ok (k:=0) sc_refuse_below_one (fun vs H Q E h=>?_) (fun cdv A outer s H vs Q E hr h=>?_)
 ·obtain⟨n,rfl,_⟩:=h
  rfl
 obtain⟨n,rfl,hn,q⟩:=h
 refine⟨_,(pss_one (ps_if (pt_cmpR op_lt (pv 0) pe_int (nomark _))
  (pss_one ps_never)
  pss_nil)),?_⟩
 walk_at "rd"
 refine iteN (by omega) ?_
 walk_at "rd"
 exact q
theorem sc_refuse_too_long:FnScope ["size"] ["size"] (defScope s_refuse_too_long):=⟨rfl,rfl,rfl,by decide +kernel,rfl,by decide +kernel,by decide +kernel⟩
theorem ok_refuse_too_long{f:Addr}{fd:FuncData}(F:Fun K "refuse_too_long" "refuse_too_long" s_refuse_too_long f fd){tk_LONGEST:Tok}(m_LONGEST:mg "LONGEST"=some (.int 150000 tk_LONGEST)):FnOk P w K mg base CX0 1 f fd ["size"] spTooLong:=by
 refine F.ok (k:=0) sc_refuse_too_long (fun vs H Q E h=>?_) (fun cdv A outer s H vs Q E hr h=>?_)
 ·obtain⟨n,rfl,_⟩:=h
  rfl
 obtain⟨n,rfl,hn,q⟩:=h
 refine⟨_,(pss_one (ps_if (pt_cmpR op_gt (pv 0) (pe_glob rfl m_LONGEST (rel_int _ _)) (nomark _))
  (pss_one ps_never)
  pss_nil)),?_⟩
 walk_at "rd"
 refine iteN (by omega) ?_
 walk_at "rd"
 exact q
theorem sc_equation:FnScope ["one","other","row","below","times","rest"] ["one","other"] (defScope s_equation):=⟨rfl,rfl,rfl,by decide +kernel,rfl,by decide +kernel,by decide +kernel⟩
theorem ok_equation{f:Addr}{fd:FuncData}(F:Fun K "equation" "equation" s_equation f fd):FnOk P w K mg base CX0 1 f fd ["one","other"] spEq:=by
 refine F.ok (k:=0) sc_equation (fun vs H Q E h=>?_) (fun cdv A outer s H vs Q E hr h=>?_)
 ·obtain⟨a,b,rfl,_⟩:=h
  rfl
 obtain⟨a,b,rfl,ha,hb,q⟩:=h
 refine⟨_,(pss_cons (ps_set (i:=2) sc_equation.nd rfl (by first | exact Or.inl rfl | exact Or.inr rfl) (pe_tup (pa_cons pe_int (pa_cons pe_int (pa_cons (pv 0) pa_nil)))))
  (pss_cons (ps_set (i:=3) sc_equation.nd rfl (by first | exact Or.inl rfl | exact Or.inr rfl) (pe_tup (pa_cons pe_int (pa_cons pe_int (pa_cons (pv 1) pa_nil)))))
  (pss_cons (ps_while PassesOwn.never (pt_cmpR op_ne (pe_ix ix_tup (pv 3) pe_int (fun _ _=>rfl)) pe_int (nomark _))
   (pss_cons (ps_set (i:=4) sc_equation.nd rfl (by first | exact Or.inl rfl | exact Or.inr rfl) (pe_op op_fdivF (pe_ix ix_tup (pv 2) pe_int (fun _ _=>rfl)) (pe_ix ix_tup (pv 3) pe_int (fun _ _=>rfl))))
  (pss_cons (ps_set (i:=5) sc_equation.nd rfl (by first | exact Or.inl rfl | exact Or.inr rfl) (pe_tup (pa_cons (pe_op op_sub (pe_ix ix_tup (pv 2) pe_int (fun _ _=>rfl)) (pe_op op_mulB (pv 4) (pe_ix ix_tup (pv 3) pe_int (fun _ _=>rfl)))) (pa_cons (pe_op op_sub (pe_ix ix_tup (pv 2) pe_int (fun _ _=>rfl)) (pe_op op_mulB (pv 4) (pe_ix ix_tup (pv 3) pe_int (fun _ _=>rfl)))) (pa_cons (pe_op op_sub (pe_ix ix_tup (pv 2) pe_int (fun _ _=>rfl)) (pe_op op_mulB (pv 4) (pe_ix ix_tup (pv 3) pe_int (fun _ _=>rfl)))) pa_nil)))))
  (pss_cons (ps_set (i:=2) sc_equation.nd rfl (by first | exact Or.inl rfl | exact Or.inr rfl) (pv 3))
  (pss_one (ps_set (i:=3) sc_equation.nd rfl (by first | exact Or.inl rfl | exact Or.inr rfl) (pv 5)))))))
  (pss_cons (ps_if (pt_cmpR op_lt (pe_ix ix_tup (pv 2) pe_int (fun _ _=>rfl)) pe_int (nomark _))
   (pss_one (ps_ret (pe_tup (pa_cons (pe_un un_neg (pe_ix ix_tup (pv 2) pe_int (fun _ _=>rfl))) (pa_cons (pe_un un_neg (pe_ix ix_tup (pv 2) pe_int (fun _ _=>rfl))) (pa_cons (pe_un un_neg (pe_ix ix_tup (pv 2) pe_int (fun _ _=>rfl))) pa_nil))))))
   pss_nil)
  (pss_one (ps_ret (pv 2))))))),?_⟩
 walk_at "rd"
 refine⟨three,fun p1 hp1=>?_⟩
 walk_at "rd"
 refine⟨three,fun p2 hp2=>?_⟩
 walk_at "rd"
 have n12:p1≠p2:=fun z=>by rw[←z,upd_same] at hp2;cases hp2
 refine⟨fun m σ' H'=>∃(pr pb:Addr) (u v r u' v' r':Int) (t1 t2:Option V),σ'=[some (.int a),some (.int b),some (.ref pr),some (.ref pb),t1,t2]∧Same H H'∧
  H' pr=some (.tup [.int u,.int v,.int r])∧H' pb=some (.tup [.int u',.int v',.int r'])∧EqI a b u v r u' v' r'∧m=r'.natAbs,
  ⟨_,p1,p2,1,0,a,0,1,b,none,none,rfl,(same_new hp1 _).trans (same_new hp2 _),by rw[upd_ne n12];exact upd_same,upd_same,EqI.start a b,rfl⟩,?_⟩
 rintro m σ' H' ⟨pr,pb,u,v,r,u',v',r',t1,t2,rfl,sm,hpr,hpb,I,rfl⟩
 have B:=I.bounds
 have br:=bt_le2 (m:=510) ha hb (show r.natAbs≤a.natAbs+b.natAbs+4 by omega) (by decide)
 have br':=bt_le (m:=510) hb (show r'.natAbs≤4*b.natAbs+4 by omega) (by decide)
 have bu':=bt_le (m:=510) hb (show u'.natAbs≤4*b.natAbs+4 by omega) (by decide)
 have bv':=bt_le (m:=510) ha (show v'.natAbs≤4*a.natAbs+4 by omega) (by decide)
 walk_at "rd"
 refine rd_ixT (SqT.of hpb) at32 ?_
 walk_at "rd"
 by_cases hz:r'=0
 ·subst hz
  refine iteNS rfl ?_
  have D:=I.done
  walk_at "rd"
  refine rd_ixT (SqT.of hpr) at32 ?_
  walk_at "rd"
  refine ite2d (fun c=>?_) (fun c=>?_)
  ·walk_at "rd"
   refine rd_ixT (SqT.of hpr) at30 ?_
   walk_at "rd"
   refine rd_ixT (SqT.of hpr) at31 ?_
   walk_at "rd"
   refine rd_ixT (SqT.of hpr) at32 ?_
   walk_at "rd"
   refine⟨three,fun p hp=>?_⟩
   exact q p _ _ _ _ (sm.trans (same_new hp _)) upd_same (D.1 c)
  ·walk_at "rd"
   exact q pr _ _ _ _ sm hpr (D.2 c)
 ·refine iteNN (fun z=>hz (V.int.inj z)) ?_
  refine⟨_,fun σ' H' hh=>hh,?_⟩
  have St:=I.step hz
  have bq:=bt_le (m:=520) br (show (r.fdiv r').natAbs≤4*r.natAbs+4 by have:=quot_bound (r:=r) hz;omega) (by decide)
  walk_at "rd"
  refine rd_ixT (SqT.of hpr) at32 ?_
  walk_at "rd"
  refine rd_ixT (SqT.of hpb) at32 ?_
  refine rd_i ⟨hz,br'.mono (by decide)⟩ ?_
  walk_at "rd"
  refine rd_ixT (SqT.of hpr) at30 ?_
  walk_at "rd"
  refine rd_ixT (SqT.of hpb) at30 ?_
  refine rd_i ⟨520,510,bq,bu',by decide⟩ ?_
  walk_at "rd"
  refine rd_ixT (SqT.of hpr) at31 ?_
  walk_at "rd"
  refine rd_ixT (SqT.of hpb) at31 ?_
  refine rd_i ⟨520,510,bq,bv',by decide⟩ ?_
  walk_at "rd"
  refine rd_ixT (SqT.of hpr) at32 ?_
  walk_at "rd"
  refine rd_ixT (SqT.of hpb) at32 ?_
  refine rd_i ⟨520,510,bq,br',by decide⟩ ?_
  walk_at "rd"
  refine⟨three,fun p hp=>?_⟩
  walk_at "rd"
  exact⟨_,St.2,pb,p,u',v',r',_,_,_,_,_,rfl,sm.trans (same_new hp _),(same_new hp _) _ _ hpb,upd_same,St.1,rfl⟩
theorem sc_divisor:FnScope ["one","other"] ["one","other"] (defScope s_divisor):=⟨rfl,rfl,rfl,by decide +kernel,rfl,by decide +kernel,by decide +kernel⟩
theorem ok_divisor{f:Addr}{fd:FuncData}(F:Fun K "divisor" "divisor" s_divisor f fd)(c_equation:Cal P w K mg base 1 "equation" ["one","other"] spEq):FnOk P w K mg base CX0 2 f fd ["one","other"] spDivisor:=by
 refine F.ok (k:=1) sc_divisor (fun vs H Q E h=>?_) (fun cdv A outer s H vs Q E hr h=>?_)
 ·obtain⟨a,b,rfl,_⟩:=h
  rfl
 obtain⟨a,b,rfl,ha,hb,q⟩:=h
 refine⟨_,(pss_one (ps_ret (pe_ix ix_tup (pe_cal c_equation (hr.mono (by decide)) rfl (pa_cons (pv 0) (pa_cons (pv 1) pa_nil))) pe_int (fun _ _=>rfl)))),?_⟩
 walk_at "rd"
 refine⟨a,b,rfl,ha,hb,fun p u v g H' sm hp e=>?_⟩
 walk_at "rd"
 refine rd_ixT (SqT.of hp) at32 ?_
 rw[e.gd]
 exact q _ sm
theorem sc_common:FnScope ["one","other"] ["one","other"] (defScope s_common):=⟨rfl,rfl,rfl,by decide +kernel,rfl,by decide +kernel,by decide +kernel⟩
theorem ok_common{f:Addr}{fd:FuncData}(F:Fun K "common" "common" s_common f fd)(c_refuse_below_one:Cal P w K mg base 1 "refuse_below_one" ["number"] spRefuse)(c_divisor:Cal P w K mg base 2 "divisor" ["one","other"] spDivisor):FnOk P w K mg base CX0 3 f fd ["one","other"] spCommon:=by
 refine F.ok (k:=2) sc_common (fun vs H Q E h=>?_) (fun cdv A outer s H vs Q E hr h=>?_)
 ·obtain⟨a,b,rfl,_⟩:=h
  rfl
 obtain⟨a,b,rfl,a0,b0,ha,hb,q⟩:=h
 refine⟨_,(pss_cons (ps_expr (pe_cal c_refuse_below_one (hr.mono (by decide)) rfl (pa_cons (pv 0) pa_nil)))
  (pss_cons (ps_expr (pe_cal c_refuse_below_one (hr.mono (by decide)) rfl (pa_cons (pv 1) pa_nil)))
  (pss_one (ps_ret (pe_op op_mulB (pe_op op_fdivB (pv 0) (pe_cal c_divisor (hr.mono (by decide)) rfl (pa_cons (pv 0) (pa_cons (pv 1) pa_nil)))) (pv 1)))))),?_⟩
 walk_at "rd"
 refine⟨a,rfl,by omega,?_⟩
 walk_at "rd"
 refine⟨b,rfl,by omega,?_⟩
 walk_at "rd"
 refine⟨a,b,rfl,ha,hb,fun H' sm=>?_⟩
 have g0:=gcd_pos (b:=b) a0
 have g1:=gcd_le (b:=b) a0
 refine rd_i ⟨g0,(ha.le (x:=(Int.gcd a b:Int)) (by omega)).mono (by decide)⟩ ?_
 walk_at "rd"
 have d0:0≤a/(Int.gcd a b:Int):=Int.ediv_nonneg (by omega) (by omega)
 have d1:a/(Int.gcd a b:Int)≤a:=Int.ediv_le_self _ (by omega)
 refine rd_i ⟨500,500,ha.le (by omega),hb,by decide⟩ ?_
 exact q _ sm
theorem sc_round_by:FnScope ["size","days","pieces","day","bits","number","place"] ["size","days"] (defScope s_round_by):=⟨rfl,rfl,rfl,by decide +kernel,rfl,by decide +kernel,by decide +kernel⟩
theorem ok_round_by{f:Addr}{fd:FuncData}(F:Fun K "round_by" "round_by" s_round_by f fd)(c_refuse_below_one:Cal P w K mg base 1 "refuse_below_one" ["number"] spRefuse)(c_refuse_too_long:Cal P w K mg base 1 "refuse_too_long" ["size"] spTooLong)(z_range:mg "range"=none)(z_len:mg "len"=none){tk_PIECE:Tok}(m_PIECE:mg "PIECE"=some (.int 256 tk_PIECE)):FnOk P w K mg base CX0 2 f fd ["size","days"] (spRoundBy K):=by
 refine F.ok (k:=1) sc_round_by (fun vs H Q E h=>?_) (fun cdv A outer s H vs Q E hr h=>?_)
 ·obtain⟨a,ds,n,rfl,_⟩:=h
  rfl
 obtain⟨a,ds,n,rfl,hS,n0,n1,fin⟩:=h
 refine⟨_,(pss_cons (ps_expr (pe_cal c_refuse_below_one (hr.mono (by decide)) rfl (pa_cons (pv 0) pa_nil)))
  (pss_cons (ps_expr (pe_cal c_refuse_too_long (hr.mono (by decide)) rfl (pa_cons (pv 0) pa_nil)))
  (pss_cons (ps_set (i:=2) sc_round_by.nd rfl (by first | exact Or.inl rfl | exact Or.inr rfl) (pe_op op_rep (pe_lst (pa_cons pe_int pa_nil)) (pe_op op_add (pe_op op_fdivB (pv 0) (pe_glob rfl m_PIECE (rel_int _ _))) pe_int)))
  (pss_cons (ps_for PassesOwn.never rfl (pi_list (pv 1)) (pg_name (i:=3) sc_round_by.nd rfl (by first | exact Or.inl rfl | exact Or.inr rfl))
   (pss_cons (ps_set (i:=6) sc_round_by.nd rfl (by first | exact Or.inl rfl | exact Or.inr rfl) (pe_op op_mod (pv 3) (pv 0)))
  (pss_one (ps_asg (pe_op op_or (pe_ix ix_list (pv 2) (pe_op op_fdivB (pv 6) (pe_glob rfl m_PIECE (rel_int _ _))) (fun _ _=>rfl)) (pe_op op_shlB pe_int (pe_op op_mod (pv 6) (pe_glob rfl m_PIECE (rel_int _ _))))) (pg_sub (pv 2) (pe_op op_fdivB (pv 6) (pe_glob rfl m_PIECE (rel_int _ _))) set_list)))))
  (pss_cons (ps_set (i:=4) sc_round_by.nd rfl (by first | exact Or.inl rfl | exact Or.inr rfl) pe_int)
  (pss_cons (ps_for PassesOwn.never rfl (pi_range1 rfl z_range (pa_cons (pe_callB call_len_seq rfl z_len PySem.boot_len (pa_cons (pv 2) pa_nil)) pa_nil)) (pg_name (i:=5) sc_round_by.nd rfl (by first | exact Or.inl rfl | exact Or.inr rfl))
   (pss_one (ps_set (i:=4) sc_round_by.nd rfl (by first | exact Or.inl rfl | exact Or.inr rfl) (pe_op op_or (pv 4) (pe_op op_shlB (pe_ix ix_list (pv 2) (pv 5) (fun _ _=>rfl)) (pe_op op_mulB (pv 5) (pe_glob rfl m_PIECE (rel_int _ _))))))))
  (pss_one (ps_ret (pe_tup (pa_cons (pv 0) (pa_cons (pv 4) pa_nil))))))))))),?_⟩
 walk_at "rdx"
 refine⟨n,rfl,by omega,?_⟩
 walk_at "rdx"
 refine⟨n,rfl,n1,?_⟩
 walk_at "rdx"
 refine⟨(by show 1≤sizeLine;decide),fun l0 hl0=>?_⟩
 walk_at "rdx"
 refine rd_rep upd_same (by omega) (by omega) (by show 1*_≤sizeLine;unfold sizeLine;omega) (fun l hl=>?_)
 have s0:=same_new hl0 (.lst [.int 0])
 have s1:=s0.trans (same_new hl (.lst (List.replicate (n/256+1).toNat [V.int 0]).flatten))
 have t1:upd (upd H l0 (.lst [.int 0])) l (.lst (List.replicate (n/256+1).toNat [V.int 0]).flatten) l=some (.lst (pcsV 0 (n/256+1).toNat)):=by rw[upd_same,pcsV_zero]
 have hl':H l=none:=s0.free hl
 generalize upd (upd H l0 (.lst [.int 0])) l (.lst (List.replicate (n/256+1).toNat [V.int 0]).flatten)=H1 at s1 t1 ⊢
 generalize hk:(n/256+1).toNat=k at t1
 walk_at "rdx"
 refine⟨_,rfl,a,rfl,⟨_,s1.seq hS⟩,for_list (xs:=ds.map V.int) (fun i σ' H'=>Same H H'∧∃(b:Nat) (c c':Option V),H' l=some (.lst (pcsV b k))∧σ'=[some (.int n),some (.ref a),some (.ref l),c,none,none,c']∧RB n (ds.take i) b) ⟨s1,0,none,none,t1,rfl,?_⟩ ?_ ?_ ?_⟩
 ·simpa using RB.nil n
 ·rintro i σ' H' _ ⟨s,_⟩
  exact s.seq hS
 ·rintro i x σ' H' hx ⟨s,b,c,c',t,rfl,B⟩
  rw[List.getElem?_map] at hx
  obtain⟨d,hd,rfl⟩:=Option.map_eq_some_iff.mp hx
  have m0:=Int.emod_nonneg d (show n≠0 by omega)
  have m1:=Int.emod_lt_of_pos d (show 0<n by omega)
  walk_at "rdx"
  have B':=B.snoc (x:=d) (by omega)
  obtain⟨p,hp⟩:∃p:Nat,d%n=(p:Int):=⟨(d%n).toNat,by omega⟩
  rw[hp,Int.toNat_natCast] at B'
  rw[hp] at m1 ⊢
  have e1:(p:Int)/256=((p/256:Nat):Int):=by omega
  have e2:(p:Int)%256=((p%256:Nat):Int):=by omega
  rw[e1]
  have pk:p/256<k:=by omega
  refine rd_ixL (SqL.of t) (atI_nat (pcsV_at pk)) ?_
  walk_at "rdx"
  rw[e2]
  refine rd_i ⟨by omega,1,bt1,by omega⟩ ?_
  walk_at "rdx"
  rw[Int.toNat_natCast,pow_cast,bitOr_nat]
  try rw[e1]
  refine rd_setL t (by rw[pcsV_len];exact pk) ?_
  rw[pcsV_set pk]
  refine⟨same_app hl' s,_,_,_,upd_same,rfl,?_⟩
  rw[List.take_add_one,hd]
  exact B'
 ·rintro σ' H2 ⟨s2,b,c,c',t2,rfl,B⟩
  rw[List.length_map,List.take_length] at B
  walk_at "rdx"
  walk_at "rdf"
  walk_at "rdx"
  refine⟨l,_,rfl,.inl (SqL.of t2),?_⟩
  walk_at "rdx"
  rw[pcsV_len]
  refine⟨(k:Int),rfl,by omega,by omega,for_range (n:=((k:Int)).toNat) (fun i σ' H'=>H'=H2∧∃(c1:Option V),σ'=[some (.int n),some (.ref a),some (.ref l),c,some (.int ((b%2^(256*i):Nat):Int)),c1,c']∧i≤k) ⟨rfl,none,?_,by omega⟩ ?_ ?_⟩
  ·rw[Nat.mul_zero,Nat.pow_zero,Nat.mod_one]
   rfl
  ·rintro i σ' H' hi ⟨rfl,c1,rfl,_⟩
   have ik:i<k:=by omega
   walk_at "rdx"
   rw[Int.zero_add]
   refine rd_ixL (SqL.of t2) (atI_nat (pcsV_at ik)) ?_
   walk_at "rdx"
   refine rd_i ⟨20,10,bt_nat (by omega),(by unfold Bt;decide),by decide⟩ ?_
   walk_at "rdx"
   refine rd_i ⟨by omega,256,bt_nat (pc_lt _ _),by omega⟩ ?_
   walk_at "rdx"
   rw[show ((i:Int)*256).toNat=256*i by omega,shl_cast,bitOr_nat,pc_join]
   exact⟨rfl,_,rfl,by omega⟩
  ·rintro σ' H' ⟨rfl,c1,rfl,_⟩
   walk_at "rdx"
   have e:256*((k:Int)).toNat=256*(n/256+1).toNat:=by omega
   rw[e,rb_bits (by omega) B.lt]
   refine⟨two',fun p hp=>?_⟩
   exact fin p b _ (s2.trans (same_new hp _)) upd_same B
theorem sc_full_bits:FnScope ["size"] ["size"] (defScope s_full_bits):=⟨rfl,rfl,rfl,by decide +kernel,rfl,by decide +kernel,by decide +kernel⟩
theorem ok_full_bits{f:Addr}{fd:FuncData}(F:Fun K "full_bits" "full_bits" s_full_bits f fd):FnOk P w K mg base CX0 1 f fd ["size"] spFull:=by
 refine F.ok (k:=0) sc_full_bits (fun vs H Q E h=>?_) (fun cdv A outer s H vs Q E hr h=>?_)
 ·obtain⟨n,rfl,_⟩:=h
  rfl
 obtain⟨n,rfl,h0,h1,q⟩:=h
 refine⟨_,(pss_one (ps_ret (pe_op op_sub (pe_op op_shlB pe_int (pv 0)) pe_int))),?_⟩
 walk_at "rd"
 refine rd_i ⟨h0,1,(by unfold Bt;decide),by omega⟩ ?_
 walk_at "rd"
 rw[full_cast]
 exact q
theorem sc_bits_by:FnScope ["turn","size","bits","width"] ["turn","size"] (defScope s_bits_by):=⟨rfl,rfl,rfl,by decide +kernel,rfl,by decide +kernel,by decide +kernel⟩
theorem ok_bits_by{f:Addr}{fd:FuncData}(F:Fun K "bits_by" "bits_by" s_bits_by f fd)(c_full_bits:Cal P w K mg base 1 "full_bits" ["size"] spFull):FnOk P w K mg base CX0 2 f fd ["turn","size"] (spBitsByL K):=by
 refine F.ok (k:=1) sc_bits_by (fun vs H Q E h=>?_) (fun cdv A outer s H vs Q E hr h=>?_)
 ·obtain⟨a,n,z,b,rfl,_⟩:=h
  rfl
 obtain⟨a,n,z,b,rfl,hS,h0,h1,hb,z0,z1,q⟩:=h
 refine⟨_,(pss_cons (ps_set (i:=2) sc_bits_by.nd rfl (by first | exact Or.inl rfl | exact Or.inr rfl) (pe_ix ix_tup (pv 0) pe_int (fun _ _=>rfl)))
  (pss_cons (ps_set (i:=3) sc_bits_by.nd rfl (by first | exact Or.inl rfl | exact Or.inr rfl) (pe_ix ix_tup (pv 0) pe_int (fun _ _=>rfl)))
  (pss_cons (ps_while PassesOwn.never (pt_cmpR op_lt (pv 3) (pv 1) (nomark _))
   (pss_cons (ps_set (i:=2) sc_bits_by.nd rfl (by first | exact Or.inl rfl | exact Or.inr rfl) (pe_op op_or (pv 2) (pe_op op_shlB (pv 2) (pv 3))))
  (pss_one (ps_set (i:=3) sc_bits_by.nd rfl (by first | exact Or.inl rfl | exact Or.inr rfl) (pe_op op_mulB (pv 3) pe_int)))))
  (pss_one (ps_ret (pe_op op_and (pv 2) (pe_cal c_full_bits (hr.mono (by decide)) rfl (pa_cons (pv 1) pa_nil)))))))),?_⟩
 walk_at "rd"
 refine rd_ixT hS at1 ?_
 walk_at "rd"
 refine rd_ixT hS at0 ?_
 walk_at "rd"
 refine⟨fun m σ' H'=>H'=H∧∃wd c:Nat,σ'=[some (.ref a),some (.int z),some (.int (c:Int)),some (.int (wd:Int))]∧n.toNat∣wd∧0<wd∧wd≤300000∧Strt n.toNat b wd c∧m=z.toNat-wd,
  ⟨_,rfl,n.toNat,b,?_,Nat.dvd_refl _,by omega,by omega,Strt.start hb,rfl⟩,?_⟩
 ·have e:((n.toNat:Nat):Int)=n:=by omega
  rw[e]
  rfl
 rintro m σ' H' ⟨rfl,wd,c,rfl,hd,w0,w1,S,rfl⟩
 walk_at "rd"
 refine ite2d (fun cc=>?_) (fun cc=>?_)
 ·refine⟨_,fun σ' H' hh=>hh,?_⟩
  walk_at "rd"
  refine rd_i ⟨by omega,wd,bt_nat S.lt,by omega⟩ ?_
  walk_at "rd"
  refine rd_i ⟨20,2,bt_nat (by omega),(by unfold Bt;decide),by decide⟩ ?_
  walk_at "rd"
  rw[Int.toNat_natCast,shl_cast,bitOr_nat]
  refine⟨z.toNat-wd*2,by omega,rfl,wd*2,c ||| (c <<< wd),?_,Nat.dvd_trans hd (Nat.dvd_mul_right _ _),by omega,by omega,S.dbl hd,rfl⟩
  rfl
 ·walk_at "rd"
  refine⟨z,rfl,by omega,by omega,?_⟩
  walk_at "rd"
  rw[bitAnd_nat]
  exact q _ (S.cut (by omega))
theorem sc_common_size:FnScope ["one","other","size"] ["one","other"] (defScope s_common_size):=⟨rfl,rfl,rfl,by decide +kernel,rfl,by decide +kernel,by decide +kernel⟩
theorem ok_common_size{f:Addr}{fd:FuncData}(F:Fun K "common_size" "common_size" s_common_size f fd)(c_common:Cal P w K mg base 3 "common" ["one","other"] spCommon)(c_refuse_too_long:Cal P w K mg base 1 "refuse_too_long" ["size"] spTooLong):FnOk P w K mg base CX0 4 f fd ["one","other"] (spCS K):=by
 refine F.ok (k:=3) sc_common_size (fun vs H Q E h=>?_) (fun cdv A outer s H vs Q E hr h=>?_)
 ·obtain⟨a1,a2,n1,n2,b1,b2,rfl,_⟩:=h
  rfl
 obtain⟨a1,a2,n1,n2,b1,b2,rfl,S1,S2,p1,p2,l1,l2,lz,q⟩:=h
 refine⟨_,(pss_cons (ps_set (i:=2) sc_common_size.nd rfl (by first | exact Or.inl rfl | exact Or.inr rfl) (pe_cal c_common (hr.mono (by decide)) rfl (pa_cons (pe_ix ix_tup (pv 0) pe_int (fun _ _=>rfl)) (pa_cons (pe_ix ix_tup (pv 1) pe_int (fun _ _=>rfl)) pa_nil))))
  (pss_cons (ps_expr (pe_cal c_refuse_too_long (hr.mono (by decide)) rfl (pa_cons (pv 2) pa_nil)))
  (pss_one (ps_ret (pv 2))))),?_⟩
 walk_at "rd"
 refine rd_ixT S1 at0 ?_
 walk_at "rd"
 refine rd_ixT S2 at0 ?_
 walk_at "rd"
 refine⟨n1,n2,rfl,p1,p2,bt_small (by omega) (by omega) (by decide),bt_small (by omega) (by omega) (by decide),fun H1 s1=>?_⟩
 walk_at "rd"
 refine⟨_,rfl,lz,?_⟩
 walk_at "rd"
 exact q _ s1
theorem sc_either:FnScope ["one","other","size"] ["one","other"] (defScope s_either):=⟨rfl,rfl,rfl,by decide +kernel,rfl,by decide +kernel,by decide +kernel⟩
theorem ok_either{f:Addr}{fd:FuncData}(F:Fun K "either" "either" s_either f fd)(c_common_size:Cal P w K mg base 4 "common_size" ["one","other"] (spCS K))(c_bits_by:Cal P w K mg base 2 "bits_by" ["turn","size"] (spBitsByL K)):FnOk P w K mg base CX0 5 f fd ["one","other"] (spJoin K):=by
 refine F.ok (k:=4) sc_either (fun vs H Q E h=>?_) (fun cdv A outer s H vs Q E hr h=>?_)
 ·obtain⟨a1,a2,n1,n2,b1,b2,rfl,_⟩:=h
  rfl
 obtain⟨a1,a2,n1,n2,b1,b2,rfl,W,lz,q⟩:=h
 have fl:=lcmI_facts W.p1 W.p2
 have l1:=W.l1
 have l2:=W.l2
 refine⟨_,(pss_cons (ps_set (i:=2) sc_either.nd rfl (by first | exact Or.inl rfl | exact Or.inr rfl) (pe_cal c_common_size (hr.mono (by decide)) rfl (pa_cons (pv 0) (pa_cons (pv 1) pa_nil))))
  (pss_one (ps_ret (pe_tup (pa_cons (pv 2) (pa_cons (pe_op op_or (pe_cal c_bits_by (hr.mono (by decide)) rfl (pa_cons (pv 0) (pa_cons (pv 2) pa_nil))) (pe_cal c_bits_by (hr.mono (by decide)) rfl (pa_cons (pv 1) (pa_cons (pv 2) pa_nil)))) pa_nil)))))),?_⟩
 walk_at "rdx"
 refine⟨a1,a2,n1,n2,b1,b2,rfl,W.s1,W.s2,W.p1,W.p2,W.l1,W.l2,lz,fun H1 s1=>?_⟩
 walk_at "rdx"
 refine⟨a1,n1,_,b1,rfl,s1.tup W.s1,W.p1,(by omega),W.k1,fl.1,lz,fun c1 T1=>?_⟩
 walk_at "rdx"
 refine⟨a2,n2,_,b2,rfl,s1.tup W.s2,W.p2,(by omega),W.k2,fl.1,lz,fun c2 T2=>?_⟩
 walk_at "rdx"
 rw[bitOr_nat]
 refine⟨two',fun p hp=>?_⟩
 exact q p _ _ (s1.trans (same_new hp _)) upd_same (Nat.or_lt_two_pow T1.lt T2.lt)
theorem sc_other_days:FnScope ["turn"] ["turn"] (defScope s_other_days):=⟨rfl,rfl,rfl,by decide +kernel,rfl,by decide +kernel,by decide +kernel⟩
theorem ok_other_days{f:Addr}{fd:FuncData}(F:Fun K "other_days" "other_days" s_other_days f fd)(c_full_bits:Cal P w K mg base 1 "full_bits" ["size"] spFull):FnOk P w K mg base CX0 2 f fd ["turn"] (spOther K):=by
 refine F.ok (k:=1) sc_other_days (fun vs H Q E h=>?_) (fun cdv A outer s H vs Q E hr h=>?_)
 ·obtain⟨a,n,b,rfl,_⟩:=h
  rfl
 obtain⟨a,n,b,rfl,S,n0,n1,hb,q⟩:=h
 refine⟨_,(pss_one (ps_ret (pe_tup (pa_cons (pe_ix ix_tup (pv 0) pe_int (fun _ _=>rfl)) (pa_cons (pe_op op_xor (pe_ix ix_tup (pv 0) pe_int (fun _ _=>rfl)) (pe_cal c_full_bits (hr.mono (by decide)) rfl (pa_cons (pe_ix ix_tup (pv 0) pe_int (fun _ _=>rfl)) pa_nil))) pa_nil))))),?_⟩
 walk_at "rd"
 refine rd_ixT S at0 ?_
 walk_at "rd"
 refine rd_ixT S at1 ?_
 walk_at "rd"
 refine rd_ixT S at0 ?_
 walk_at "rd"
 refine⟨n,rfl,by omega,by omega,?_⟩
 walk_at "rd"
 rw[bitXor_nat]
 refine⟨two',fun p hp=>q p _ hp ?_ fun i hi=>?_⟩
 ·exact Nat.xor_lt_two_pow hb (by have:=Nat.two_pow_pos n.toNat;omega)
 ·rw[Nat.testBit_xor,Nat.testBit_two_pow_sub_one]
  simp[hi]
theorem sc_Rule___init__:FnScope ["self","kept","made_of","words"] ["self","kept","made_of","words"] (defScope s_Rule___init__):=⟨rfl,rfl,rfl,by decide +kernel,rfl,by decide +kernel,by decide +kernel⟩
theorem ok_Rule___init__{f:Addr}{fd:FuncData}{ds:Array Value}(F:FunD K "__init__" "Rule.__init__" s_Rule___init__ f fd ds)(er:Errs K mg c_FeastError c_NoNumber c_TooLong c_NoMeasure c_NoRule c_NoName c_Rule c_All c_No c_Each c_Dated c_Not c_Both c_Either c_But c_Unlike c_Later c_Upon c_Until c_Near c_Till c_Kth c_Every c_Reader c_Measure c_Calendar c_Sun):FnOk P w K mg base CX0 1 f fd ["self","kept","made_of","words"] (spRInit K c_Rule):=by
 refine F.ok (k:=0) sc_Rule___init__ (fun vs H Q E h=>?_) (fun cdv A outer s H vs Q E hr h=>?_)
 ·obtain⟨x,p,pm,pw,C,dx,rfl,_⟩:=h
  rfl
 obtain⟨x,p,pm,pw,C,dx,rfl,hx,R,q⟩:=h
 refine⟨_,(pss_cons (ps_fld (pv 0) (pe_ifExp (pt_cmpR op_isN (pv 1) pe_non (nomark _)) (pe_tup (pa_cons pe_int (pa_cons pe_int pa_nil))) (pv 1)) (by rfl))
  (pss_cons (ps_fld (pv 0) (pe_ifExp (pt_cmpR op_isN (pv 2) pe_non (nomark _)) (pe_tup pa_nil) (pv 2)) (by rfl))
  (pss_one (ps_fld (pv 0) (pe_ifExp (pt_cmpR op_isN (pv 3) pe_non (nomark _)) (pe_tup (pa_cons pe_str pa_nil)) (pv 3)) (by rfl))))),?_⟩
 walk_at "rd"
 refine rd_ifE ?_
 walk_at "rd"
 refine⟨rfl,rd_bl (iteN (fun e=>nomatch e) ?_)⟩
 walk_at "rd"
 refine⟨x,C,dx,[],rfl,hx,R.cl,R.k,by decide,?_⟩
 walk_at "rd"
 refine rd_ifE ?_
 walk_at "rd"
 refine⟨rfl,rd_bl (iteN (fun e=>nomatch e) ?_)⟩
 walk_at "rd"
 refine⟨x,C,dx,_,rfl,upd_same,R.cl,R.m,(show 1<1000 by decide),?_⟩
 walk_at "rd"
 refine rd_ifE ?_
 walk_at "rd"
 refine⟨rfl,rd_bl (iteN (fun e=>nomatch e) ?_)⟩
 walk_at "rd"
 refine⟨x,C,dx,_,rfl,upd_same,R.cl,R.w,(show 2<1000 by decide),?_⟩
 walk_at "rd"
 refine q _ (fun y o ne e=>?_) upd_same
 rw[upd_ne ne,upd_ne ne,upd_ne ne]
 exact e
theorem sc_Rule_turn:FnScope ["self"] ["self"] (defScope s_Rule_turn):=⟨rfl,rfl,rfl,by decide +kernel,rfl,by decide +kernel,by decide +kernel⟩
theorem ok_Rule_turn{k d:Nat}{f:Addr}{fd:FuncData}(F:Fun K "turn" "Rule.turn" s_Rule_turn f fd)(er:Errs K mg c_FeastError c_NoNumber c_TooLong c_NoMeasure c_NoRule c_NoName c_Rule c_All c_No c_Each c_Dated c_Not c_Both c_Either c_But c_Unlike c_Later c_Upon c_Until c_Near c_Till c_Kth c_Every c_Reader c_Measure c_Calendar c_Sun)(cr:CalL P w K mg base CX0 k "turn" ["self"] ([c_All,c_No,c_Each,c_Not,c_Either].map fun C=>(C,(spR (spTurnM K c_Rule [c_All,c_No,c_Each,c_Not,c_Either])) d)))(hk:1≤k):FnOk P w K mg base CX0 (k+1) f fd ["self"] ((spR (spTurnM K c_Rule [c_All,c_No,c_Each,c_Not,c_Either])) (d+1)):=by
 refine F.ok (k:=k) sc_Rule_turn (fun vs H Q E h=>?_) (fun cdv A outer s H vs Q E hr h=>?_)
 ·obtain⟨_,x,n,b,rfl,_⟩:=h
  rfl
 obtain⟨_,x,n,b,rfl,R,q⟩:=h
 obtain⟨C,dx,p,pm,pw,hC,rc,hx,hp⟩:=R.ex
 refine⟨_,(pss_one (ps_ret (pe_fld (pv 0) (by rfl)))),?_⟩
 walk_at "rd"
 exact⟨x,C,dx,_,_,rfl,hx,rc.cl,rc.k,rfl,q p hp⟩
theorem sc_All___init__:FnScope ["self"] ["self"] (defScope s_All___init__):=⟨rfl,rfl,rfl,by decide +kernel,rfl,by decide +kernel,by decide +kernel⟩
theorem ok_All___init__{f:Addr}{fd:FuncData}(F:Fun K "__init__" "All.__init__" s_All___init__ f fd)(er:Errs K mg c_FeastError c_NoNumber c_TooLong c_NoMeasure c_NoRule c_NoName c_Rule c_All c_No c_Each c_Dated c_Not c_Both c_Either c_But c_Unlike c_Later c_Upon c_Until c_Near c_Till c_Kth c_Every c_Reader c_Measure c_Calendar c_Sun)(c_Rule___init__:CalB P w K mg base 1 "Rule" ["self","kept","made_of","words"] (spRInit K c_Rule)):FnOk P w K mg base CX0 3 f fd ["self"] (spI0 K c_Rule [c_All,c_No,c_Each,c_Not,c_Either] c_All 1):=by
 refine F.ok (k:=2) sc_All___init__ (fun vs H Q E h=>?_) (fun cdv A outer s H vs Q E hr h=>?_)
 ·obtain⟨x,rfl,_⟩:=h
  rfl
 obtain⟨x,rfl,⟨dx,hx⟩,q⟩:=h
 refine⟨_,(pss_one (ps_expr (pe_binit c_Rule___init__ (hr.mono (by decide)) rfl (pa_cons (pv 0) (pa_cons (pe_tup (pa_cons pe_int (pa_cons pe_int pa_nil))) (pa_cons (pe_tup pa_nil) (pa_cons (pe_tup (pa_cons pe_str pa_nil)) pa_nil))))))),?_⟩
 walk_at "rd"
 refine⟨two',fun p hp=>?_⟩
 refine fresh hp fun H1 s1 t1=>?_
 have t1:H1 p=some (.tup [.int 1,.int ((1:Nat):Int)]):=t1
 walk_at "rd"
 refine⟨(by show 0≤sizeLine;decide),fun pm hpm=>?_⟩
 refine fresh hpm fun H2 s2 t2=>?_
 walk_at "rd"
 refine⟨(by show 1≤sizeLine;decide),fun pw hpw=>?_⟩
 refine fresh hpw fun H3 s3 t3=>?_
 have s3:=s2.trans s3
 have hx3:=(s1.trans s3) _ _ hx
 walk_at "rd"
 exact⟨x,p,pm,pw,c_All,dx,rfl,hx3,er.rc_All,fun H' k e=>q _ H' (k.pre (s1.trans s3)) (made_rule (List.mem_of_getElem? (i:=0) rfl) er.rc_All hx3 (s3 _ _ t1) k e (by decide) (by decide) (by decide)) rfl⟩
theorem sc_No___init__:FnScope ["self"] ["self"] (defScope s_No___init__):=⟨rfl,rfl,rfl,by decide +kernel,rfl,by decide +kernel,by decide +kernel⟩
theorem ok_No___init__{f:Addr}{fd:FuncData}(F:Fun K "__init__" "No.__init__" s_No___init__ f fd)(er:Errs K mg c_FeastError c_NoNumber c_TooLong c_NoMeasure c_NoRule c_NoName c_Rule c_All c_No c_Each c_Dated c_Not c_Both c_Either c_But c_Unlike c_Later c_Upon c_Until c_Near c_Till c_Kth c_Every c_Reader c_Measure c_Calendar c_Sun)(c_Rule___init__:CalB P w K mg base 1 "Rule" ["self","kept","made_of","words"] (spRInit K c_Rule)):FnOk P w K mg base CX0 3 f fd ["self"] (spI0 K c_Rule [c_All,c_No,c_Each,c_Not,c_Either] c_No 0):=by
 refine F.ok (k:=2) sc_No___init__ (fun vs H Q E h=>?_) (fun cdv A outer s H vs Q E hr h=>?_)
 ·obtain⟨x,rfl,_⟩:=h
  rfl
 obtain⟨x,rfl,⟨dx,hx⟩,q⟩:=h
 refine⟨_,(pss_one (ps_expr (pe_binit c_Rule___init__ (hr.mono (by decide)) rfl (pa_cons (pv 0) (pa_cons (pe_tup (pa_cons pe_int (pa_cons pe_int pa_nil))) (pa_cons (pe_tup pa_nil) (pa_cons (pe_tup (pa_cons pe_str pa_nil)) pa_nil))))))),?_⟩
 walk_at "rd"
 refine⟨two',fun p hp=>?_⟩
 refine fresh hp fun H1 s1 t1=>?_
 have t1:H1 p=some (.tup [.int 1,.int ((0:Nat):Int)]):=t1
 walk_at "rd"
 refine⟨(by show 0≤sizeLine;decide),fun pm hpm=>?_⟩
 refine fresh hpm fun H2 s2 t2=>?_
 walk_at "rd"
 refine⟨(by show 1≤sizeLine;decide),fun pw hpw=>?_⟩
 refine fresh hpw fun H3 s3 t3=>?_
 have s3:=s2.trans s3
 have hx3:=(s1.trans s3) _ _ hx
 walk_at "rd"
 exact⟨x,p,pm,pw,c_No,dx,rfl,hx3,er.rc_No,fun H' k e=>q _ H' (k.pre (s1.trans s3)) (made_rule (List.mem_of_getElem? (i:=1) rfl) er.rc_No hx3 (s3 _ _ t1) k e (by decide) (by decide) (by decide)) rfl⟩
theorem sc_each_text:FnScope ["step","rest","least_rest"] ["step","rest"] (defScope s_each_text):=⟨rfl,rfl,rfl,by decide +kernel,rfl,by decide +kernel,by decide +kernel⟩
theorem ok_each_text{f:Addr}{fd:FuncData}(F:Fun K "each_text" "each_text" s_each_text f fd):FnOk P w K mg base CX0 1 f fd ["step","rest"] spEachT75:=by
 refine F.ok (k:=0) sc_each_text (fun vs H Q E h=>?_) (fun cdv A outer s H vs Q E hr h=>?_)
 ·obtain⟨n,r,rfl,_⟩:=h
  rfl
 obtain⟨n,r,rfl,n0,n1,q⟩:=h
 refine⟨_,(pss_cons (ps_set (i:=2) sc_each_text.nd rfl (by first | exact Or.inl rfl | exact Or.inr rfl) (pe_op op_mod (pv 1) (pv 0)))
  (pss_one (ps_ret (pe_join (pj_cons pe_str (pj_cons (pe_fmt hr.toN (pv 0)) (pj_cons pe_str (pj_cons (pe_fmt hr.toN (pv 2)) pj_nil)))))))),?_⟩
 walk_at "rd"
 refine rd_join ?_
 have m0:=Int.emod_nonneg r (show n≠0 by omega)
 have m1:=Int.emod_lt_of_pos r (show 0<n by omega)
 refine rd_jc 0 (by decide) (by decide) fun l1=>rd_ji _ l1 (by decide) rfl (log75 (by omega) (by omega)) fun l2=>rd_jc _ l2 (by decide) fun l3=>rd_ji _ l3 (by decide) rfl (log75 (by omega) (by omega)) fun l4=>rd_jnil (fits l4 (by decide)) ?_
 exact q _
theorem sc_Each___init__:FnScope ["self","size","rest","kept"] ["self","size","rest"] (defScope s_Each___init__):=⟨rfl,rfl,rfl,by decide +kernel,rfl,by decide +kernel,by decide +kernel⟩
theorem ok_Each___init__{f:Addr}{fd:FuncData}(F:Fun K "__init__" "Each.__init__" s_Each___init__ f fd)(er:Errs K mg c_FeastError c_NoNumber c_TooLong c_NoMeasure c_NoRule c_NoName c_Rule c_All c_No c_Each c_Dated c_Not c_Both c_Either c_But c_Unlike c_Later c_Upon c_Until c_Near c_Till c_Kth c_Every c_Reader c_Measure c_Calendar c_Sun)(c_round_by:Cal P w K mg base 2 "round_by" ["size","days"] (spRoundBy K))(c_Rule___init__:CalB P w K mg base 1 "Rule" ["self","kept","made_of","words"] (spRInit K c_Rule))(c_each_text:Cal P w K mg base 1 "each_text" ["step","rest"] spEachT75):FnOk P w K mg base CX0 3 f fd ["self","size","rest"] (spIE75 K c_Rule [c_All,c_No,c_Each,c_Not,c_Either] c_Each):=by
 refine F.ok (k:=2) sc_Each___init__ (fun vs H Q E h=>?_) (fun cdv A outer s H vs Q E hr h=>?_)
 ·obtain⟨x,n,r,rfl,_⟩:=h
  rfl
 obtain⟨x,n,r,rfl,n0,n1,⟨dx,hx⟩,q⟩:=h
 refine⟨_,(pss_cons (ps_set (i:=3) sc_Each___init__.nd rfl (by first | exact Or.inl rfl | exact Or.inr rfl) (pe_cal c_round_by (hr.mono (by decide)) rfl (pa_cons (pv 1) (pa_cons (pe_lst (pa_cons (pv 2) pa_nil)) pa_nil))))
  (pss_one (ps_expr (pe_binit c_Rule___init__ (hr.mono (by decide)) rfl (pa_cons (pv 0) (pa_cons (pv 3) (pa_cons (pe_tup pa_nil) (pa_cons (pe_tup (pa_cons (pe_cal c_each_text (hr.mono (by decide)) rfl (pa_cons (pv 1) (pa_cons (pv 2) pa_nil))) pa_nil)) pa_nil)))))))),?_⟩
 walk_at "rd"
 refine⟨(by show 1≤sizeLine;decide),fun l hl=>?_⟩
 refine fresh hl fun H0 s0 t0=>?_
 have t0:H0 l=some (.lst ([r].map V.int)):=t0
 walk_at "rd"
 refine⟨l,[r],n,rfl,SqL.of t0,by omega,by omega,fun p b H1 s1 t1 B=>?_⟩
 have s1:=s0.trans s1
 walk_at "rd"
 refine⟨(by show 0≤sizeLine;decide),fun pm hpm=>?_⟩
 refine fresh hpm fun H2 s2 t2=>?_
 walk_at "rd"
 refine⟨n,r,rfl,n0,n1,fun z=>?_⟩
 walk_at "rd"
 refine⟨(by show 1≤sizeLine;decide),fun pw hpw=>?_⟩
 refine fresh hpw fun H3 s3 t3=>?_
 have s3:=s2.trans s3
 have hx3:=(s1.trans s3) _ _ hx
 walk_at "rd"
 exact⟨x,p,pm,pw,c_Each,dx,rfl,hx3,er.rc_Each,fun H' k e=>q _ H' (k.pre (s1.trans s3)) (made_rule (List.mem_of_getElem? (i:=2) rfl) er.rc_Each hx3 (s3 _ _ t1) k e (by omega) (by omega) B.lt) trivial⟩
theorem sc_Not___init__:FnScope ["self","R"] ["self","R"] (defScope s_Not___init__):=⟨rfl,rfl,rfl,by decide +kernel,rfl,by decide +kernel,by decide +kernel⟩
theorem ok_Not___init__{f:Addr}{fd:FuncData}(F:Fun K "__init__" "Not.__init__" s_Not___init__ f fd)(er:Errs K mg c_FeastError c_NoNumber c_TooLong c_NoMeasure c_NoRule c_NoName c_Rule c_All c_No c_Each c_Dated c_Not c_Both c_Either c_But c_Unlike c_Later c_Upon c_Until c_Near c_Till c_Kth c_Every c_Reader c_Measure c_Calendar c_Sun)(c_Rule___init__:CalB P w K mg base 1 "Rule" ["self","kept","made_of","words"] (spRInit K c_Rule))(c_other_days:Cal P w K mg base 2 "other_days" ["turn"] (spOther K))(c_Rec_turn:CalL P w K mg base CX0 2 "turn" ["self"] ([c_All,c_No,c_Each,c_Not,c_Either].map fun C=>(C,(spR (spTurnM K c_Rule [c_All,c_No,c_Each,c_Not,c_Either])) 1))):FnOk P w K mg base CX0 3 f fd ["self","R"] (spI175 K c_Rule [c_All,c_No,c_Each,c_Not,c_Either] c_Not):=by
 refine F.ok (k:=2) sc_Not___init__ (fun vs H Q E h=>?_) (fun cdv A outer s H vs Q E hr h=>?_)
 ·obtain⟨x,r,n,b,rfl,_⟩:=h
  rfl
 obtain⟨x,r,n,b,rfl,R,⟨dx,hx⟩,q⟩:=h
 refine⟨_,(pss_one (ps_expr (pe_binit c_Rule___init__ (hr.mono (by decide)) rfl (pa_cons (pv 0) (pa_cons (pe_cal c_other_days (hr.mono (by decide)) rfl (pa_cons (pe_mcalL0 c_Rec_turn (hr.mono (by decide)) (pv 1)) pa_nil)) (pa_cons (pe_tup (pa_cons (pv 1) pa_nil)) (pa_cons (pe_tup (pa_cons pe_str (pa_cons pe_str pa_nil))) pa_nil))))))),?_⟩
 walk_at "rd"
 obtain⟨C,dr,fs,m,hr,l1,_⟩:=R.mt
 refine⟨r,C,dr,fs,_,m _,rfl,hr,l1,?_⟩
 walk_at "rd"
 refine⟨Nat.one_pos,r,n,b,rfl,R,fun p hp=>?_⟩
 walk_at "rd"
 refine⟨p,n,b,rfl,SqT.of hp,R.n0,R.n1,R.lt,fun p2 c hp2 hc hbit=>?_⟩
 refine fresh hp2 fun H1 s1 t1=>?_
 walk_at "rd"
 refine⟨(by show 1≤sizeLine;decide),fun pm hpm=>?_⟩
 refine fresh hpm fun H2 s2 t2=>?_
 walk_at "rd"
 refine⟨two',fun pw hpw=>?_⟩
 refine fresh hpw fun H3 s3 t3=>?_
 have s3:=s2.trans s3
 have hx3:=(s1.trans s3) _ _ hx
 walk_at "rd"
 exact⟨x,p2,pm,pw,c_Not,dx,rfl,hx3,er.rc_Not,fun H' k e=>q _ H' (k.pre (s1.trans s3)) (made_rule (List.mem_of_getElem? (i:=3) rfl) er.rc_Not hx3 (s3 _ _ t1) k e R.n0 R.n1 hc) trivial⟩
theorem sc_Either___init__:FnScope ["self","R","S"] ["self","R","S"] (defScope s_Either___init__):=⟨rfl,rfl,rfl,by decide +kernel,rfl,by decide +kernel,by decide +kernel⟩
theorem ok_Either___init__{f:Addr}{fd:FuncData}(F:Fun K "__init__" "Either.__init__" s_Either___init__ f fd)(er:Errs K mg c_FeastError c_NoNumber c_TooLong c_NoMeasure c_NoRule c_NoName c_Rule c_All c_No c_Each c_Dated c_Not c_Both c_Either c_But c_Unlike c_Later c_Upon c_Until c_Near c_Till c_Kth c_Every c_Reader c_Measure c_Calendar c_Sun)(c_Rule___init__:CalB P w K mg base 1 "Rule" ["self","kept","made_of","words"] (spRInit K c_Rule))(c_either:Cal P w K mg base 5 "either" ["one","other"] (spJoin K))(c_Rec_turn:CalL P w K mg base CX0 2 "turn" ["self"] ([c_All,c_No,c_Each,c_Not,c_Either].map fun C=>(C,(spR (spTurnM K c_Rule [c_All,c_No,c_Each,c_Not,c_Either])) 1))):FnOk P w K mg base CX0 6 f fd ["self","R","S"] (spI275 K c_Rule [c_All,c_No,c_Each,c_Not,c_Either] c_Either):=by
 refine F.ok (k:=5) sc_Either___init__ (fun vs H Q E h=>?_) (fun cdv A outer s H vs Q E hr h=>?_)
 ·obtain⟨x,r,t,n1,n2,b1,b2,rfl,_⟩:=h
  rfl
 obtain⟨x,r,t,n1,n2,b1,b2,rfl,R1,R2,lz,⟨dx,hx⟩,q⟩:=h
 have fl:=lcmI_facts R1.n0 R2.n0
 refine⟨_,(pss_one (ps_expr (pe_binit c_Rule___init__ (hr.mono (by decide)) rfl (pa_cons (pv 0) (pa_cons (pe_cal c_either (hr.mono (by decide)) rfl (pa_cons (pe_mcalL0 c_Rec_turn (hr.mono (by decide)) (pv 1)) (pa_cons (pe_mcalL0 c_Rec_turn (hr.mono (by decide)) (pv 2)) pa_nil))) (pa_cons (pe_tup (pa_cons (pv 1) (pa_cons (pv 2) pa_nil))) (pa_cons (pe_tup (pa_cons pe_str (pa_cons pe_str (pa_cons pe_str pa_nil)))) pa_nil))))))),?_⟩
 walk_at "rd"
 obtain⟨C,dr,fs,m,hr,l1,_⟩:=R1.mt
 refine⟨r,C,dr,fs,_,m _,rfl,hr,l1,?_⟩
 walk_at "rd"
 refine⟨Nat.one_pos,r,n1,b1,rfl,R1,fun p hp=>?_⟩
 walk_at "rd"
 obtain⟨C',dr',fs',m',hr',l1',_⟩:=R2.mt
 refine⟨t,C',dr',fs',_,m' _,rfl,hr',l1',?_⟩
 walk_at "rd"
 refine⟨Nat.one_pos,t,n2,b2,rfl,R2,fun p' hp'=>?_⟩
 walk_at "rd"
 refine⟨p,p',n1,n2,b1,b2,rfl,⟨SqT.of hp,SqT.of hp',R1.n0,R2.n0,R1.n1,R2.n1,R1.lt,R2.lt⟩,lz,fun p2 c H1 s1 t1 lt=>?_⟩
 walk_at "rd"
 refine⟨two',fun pm hpm=>?_⟩
 refine fresh hpm fun H2 s2 t2=>?_
 walk_at "rd"
 refine⟨(by show 3≤sizeLine;decide),fun pw hpw=>?_⟩
 refine fresh hpw fun H3 s3 t3=>?_
 have s3:=s2.trans s3
 have hx3:=(s1.trans s3) _ _ hx
 walk_at "rd"
 exact⟨x,p2,pm,pw,c_Either,dx,rfl,hx3,er.rc_Either,fun H' k e=>q _ H' (k.pre (s1.trans s3)) (made_rule (List.mem_of_getElem? (i:=4) rfl) er.rc_Either hx3 (s3 _ _ t1) k e fl.1 lz lt) trivial⟩
theorem ok_Both___init__{f:Addr}{fd:FuncData}(_:Fun K "__init__" "Both.__init__" s_Both___init__ f fd):FnOk P w K mg base CX0 1 f fd ["self","R","S"] spNo:=⟨fun _ _ _ _ h=>h.elim,fun _ _ _ _ _ _ _ _ _ _ _ _ _ h=>h.elim⟩
theorem ok_But___init__{f:Addr}{fd:FuncData}(_:Fun K "__init__" "But.__init__" s_But___init__ f fd):FnOk P w K mg base CX0 1 f fd ["self","R","S"] spNo:=⟨fun _ _ _ _ h=>h.elim,fun _ _ _ _ _ _ _ _ _ _ _ _ _ h=>h.elim⟩
theorem ok_Unlike___init__{f:Addr}{fd:FuncData}(_:Fun K "__init__" "Unlike.__init__" s_Unlike___init__ f fd):FnOk P w K mg base CX0 1 f fd ["self","R","S"] spNo:=⟨fun _ _ _ _ h=>h.elim,fun _ _ _ _ _ _ _ _ _ _ _ _ _ h=>h.elim⟩
theorem ok_Upon___init__{f:Addr}{fd:FuncData}(_:Fun K "__init__" "Upon.__init__" s_Upon___init__ f fd):FnOk P w K mg base CX0 1 f fd ["self","R","S"] spNo:=⟨fun _ _ _ _ h=>h.elim,fun _ _ _ _ _ _ _ _ _ _ _ _ _ h=>h.elim⟩
theorem ok_Until___init__{f:Addr}{fd:FuncData}(_:Fun K "__init__" "Until.__init__" s_Until___init__ f fd):FnOk P w K mg base CX0 1 f fd ["self","R","S"] spNo:=⟨fun _ _ _ _ h=>h.elim,fun _ _ _ _ _ _ _ _ _ _ _ _ _ h=>h.elim⟩
theorem ok_Near___init__{f:Addr}{fd:FuncData}(_:Fun K "__init__" "Near.__init__" s_Near___init__ f fd):FnOk P w K mg base CX0 1 f fd ["self","R","S"] spNo:=⟨fun _ _ _ _ h=>h.elim,fun _ _ _ _ _ _ _ _ _ _ _ _ _ h=>h.elim⟩
theorem ok_Till___init__{f:Addr}{fd:FuncData}(_:Fun K "__init__" "Till.__init__" s_Till___init__ f fd):FnOk P w K mg base CX0 1 f fd ["self","R","S"] spNo:=⟨fun _ _ _ _ h=>h.elim,fun _ _ _ _ _ _ _ _ _ _ _ _ _ h=>h.elim⟩
theorem ok_Later___init__{f:Addr}{fd:FuncData}(_:Fun K "__init__" "Later.__init__" s_Later___init__ f fd):FnOk P w K mg base CX0 1 f fd ["self","number","R"] spNo:=⟨fun _ _ _ _ h=>h.elim,fun _ _ _ _ _ _ _ _ _ _ _ _ _ h=>h.elim⟩
theorem ok_Kth___init__{f:Addr}{fd:FuncData}(_:Fun K "__init__" "Kth.__init__" s_Kth___init__ f fd):FnOk P w K mg base CX0 1 f fd ["self","number","R","S"] spNo:=⟨fun _ _ _ _ h=>h.elim,fun _ _ _ _ _ _ _ _ _ _ _ _ _ h=>h.elim⟩
theorem ok_Every___init__{f:Addr}{fd:FuncData}(_:Fun K "__init__" "Every.__init__" s_Every___init__ f fd):FnOk P w K mg base CX0 1 f fd ["self","number","R","day"] spNo:=⟨fun _ _ _ _ h=>h.elim,fun _ _ _ _ _ _ _ _ _ _ _ _ _ h=>h.elim⟩
theorem ok_made_date{f:Addr}{fd:FuncData}(_:Fun K "made_date" "made_date" s_made_date f fd):FnOk P w K mg base CX0 1 f fd ["plan","calendars"] spNo:=⟨fun _ _ _ _ h=>h.elim,fun _ _ _ _ _ _ _ _ _ _ _ _ _ h=>h.elim⟩
theorem sc_made_pair:FnScope ["word","one","other"] ["word","one","other"] (defScope s_made_pair):=⟨rfl,rfl,rfl,by decide +kernel,rfl,by decide +kernel,by decide +kernel⟩
theorem ok_made_pair{f:Addr}{fd:FuncData}(F:Fun K "made_pair" "made_pair" s_made_pair f fd)(er:Errs K mg c_FeastError c_NoNumber c_TooLong c_NoMeasure c_NoRule c_NoName c_Rule c_All c_No c_Each c_Dated c_Not c_Both c_Either c_But c_Unlike c_Later c_Upon c_Until c_Near c_Till c_Kth c_Every c_Reader c_Measure c_Calendar c_Sun)(c_Both___init__:CalI P w K mg base CX0 1 "Both" c_Both ["self","R","S"] spNo)(c_Either___init__:CalI P w K mg base CX0 6 "Either" c_Either ["self","R","S"] (spI275 K c_Rule [c_All,c_No,c_Each,c_Not,c_Either] c_Either))(c_But___init__:CalI P w K mg base CX0 1 "But" c_But ["self","R","S"] spNo)(c_Unlike___init__:CalI P w K mg base CX0 1 "Unlike" c_Unlike ["self","R","S"] spNo)(c_Upon___init__:CalI P w K mg base CX0 1 "Upon" c_Upon ["self","R","S"] spNo)(c_Until___init__:CalI P w K mg base CX0 1 "Until" c_Until ["self","R","S"] spNo)(c_Near___init__:CalI P w K mg base CX0 1 "Near" c_Near ["self","R","S"] spNo)(c_Till___init__:CalI P w K mg base CX0 1 "Till" c_Till ["self","R","S"] spNo):FnOk P w K mg base CX0 8 f fd ["word","one","other"] (spMP75 K c_Rule [c_All,c_No,c_Each,c_Not,c_Either]):=by
 refine F.ok (k:=7) sc_made_pair (fun vs H Q E h=>?_) (fun cdv A outer s H vs Q E hr h=>?_)
 ·obtain⟨a,b,b1,b2,rfl,_⟩:=h
  rfl
 obtain⟨a,b,b1,b2,rfl,R1,R2,q⟩:=h
 refine⟨_,(pss_cons (ps_if (pt_cmpR op_eq (pv 0) pe_str (nomark _))
  (pss_one (ps_ret (pe_mk c_Both___init__ (hr.mono (by decide)) rfl (pa_cons (pv 1) (pa_cons (pv 2) pa_nil)))))
  pss_nil)
  (pss_cons (ps_if (pt_cmpR op_eq (pv 0) pe_str (nomark _))
   (pss_one (ps_ret (pe_mk c_Either___init__ (hr.mono (by decide)) rfl (pa_cons (pv 1) (pa_cons (pv 2) pa_nil)))))
   pss_nil)
  (pss_cons (ps_if (pt_cmpR op_eq (pv 0) pe_str (nomark _))
   (pss_one (ps_ret (pe_mk c_But___init__ (hr.mono (by decide)) rfl (pa_cons (pv 1) (pa_cons (pv 2) pa_nil)))))
   pss_nil)
  (pss_cons (ps_if (pt_cmpR op_eq (pv 0) pe_str (nomark _))
   (pss_one (ps_ret (pe_mk c_Unlike___init__ (hr.mono (by decide)) rfl (pa_cons (pv 1) (pa_cons (pv 2) pa_nil)))))
   pss_nil)
  (pss_cons (ps_if (pt_cmpR op_eq (pv 0) pe_str (nomark _))
   (pss_one (ps_ret (pe_mk c_Upon___init__ (hr.mono (by decide)) rfl (pa_cons (pv 1) (pa_cons (pv 2) pa_nil)))))
   pss_nil)
  (pss_cons (ps_if (pt_cmpR op_eq (pv 0) pe_str (nomark _))
   (pss_one (ps_ret (pe_mk c_Until___init__ (hr.mono (by decide)) rfl (pa_cons (pv 1) (pa_cons (pv 2) pa_nil)))))
   pss_nil)
  (pss_cons (ps_if (pt_cmpR op_eq (pv 0) pe_str (nomark _))
   (pss_one (ps_ret (pe_mk c_Near___init__ (hr.mono (by decide)) rfl (pa_cons (pv 1) (pa_cons (pv 2) pa_nil)))))
   pss_nil)
  (pss_one (ps_ret (pe_mk c_Till___init__ (hr.mono (by decide)) rfl (pa_cons (pv 1) (pa_cons (pv 2) pa_nil)))))))))))),?_⟩
 walk_at "rd"
 refine iteN (by decide +kernel) ?_
 walk_at "rd"
 refine iteD (by decide +kernel) ?_
 walk_at "rd"
 exact fun y dy hy hdy ne=>⟨y,a,b,1,1,b1,b2,rfl,R1.same (mk_same75 hy hdy ne),R2.same (mk_same75 hy hdy ne),by decide,⟨⟨dy,upd_same⟩,fun c H' k R _=>⟨rfl,q y c H' (made_same hy hdy ne k) R⟩⟩⟩
theorem sc_made:FnScope ["plan","calendars","word","one"] ["plan","calendars"] (defScope s_made):=⟨rfl,rfl,rfl,by decide +kernel,rfl,by decide +kernel,by decide +kernel⟩
theorem ok_made{k d:Nat}{f:Addr}{fd:FuncData}(F:Fun K "made" "made" s_made f fd)(er:Errs K mg c_FeastError c_NoNumber c_TooLong c_NoMeasure c_NoRule c_NoName c_Rule c_All c_No c_Each c_Dated c_Not c_Both c_Either c_But c_Unlike c_Later c_Upon c_Until c_Near c_Till c_Kth c_Every c_Reader c_Measure c_Calendar c_Sun)(c_All___init__:CalI P w K mg base CX0 3 "All" c_All ["self"] (spI0 K c_Rule [c_All,c_No,c_Each,c_Not,c_Either] c_All 1))(c_No___init__:CalI P w K mg base CX0 3 "No" c_No ["self"] (spI0 K c_Rule [c_All,c_No,c_Each,c_Not,c_Either] c_No 0))(c_Each___init__:CalI P w K mg base CX0 3 "Each" c_Each ["self","size","rest"] (spIE75 K c_Rule [c_All,c_No,c_Each,c_Not,c_Either] c_Each))(c_made_date:Cal P w K mg base 1 "made_date" ["plan","calendars"] spNo)(c_Not___init__:CalI P w K mg base CX0 3 "Not" c_Not ["self","R"] (spI175 K c_Rule [c_All,c_No,c_Each,c_Not,c_Either] c_Not))(c_made:Cal P w K mg base k "made" ["plan","calendars"] ((spMade75 K c_Rule [c_All,c_No,c_Each,c_Not,c_Either]) d))(c_Later___init__:CalI P w K mg base CX0 1 "Later" c_Later ["self","number","R"] spNo)(c_Every___init__:CalI P w K mg base CX0 1 "Every" c_Every ["self","number","R","day"] spNo)(c_Kth___init__:CalI P w K mg base CX0 1 "Kth" c_Kth ["self","number","R","S"] spNo)(c_made_pair:Cal P w K mg base 8 "made_pair" ["word","one","other"] (spMP75 K c_Rule [c_All,c_No,c_Each,c_Not,c_Either]))(hk:12≤k):FnOk P w K mg base CX0 (k+1) f fd ["plan","calendars"] ((spMade75 K c_Rule [c_All,c_No,c_Each,c_Not,c_Either]) (d+1)):=by
 refine F.ok (k:=k+0) sc_made (fun vs H Q E h=>?_) (fun cdv A outer s H vs Q E hr h=>?_)
 ·obtain⟨v,vc,p,rfl,_⟩:=h
  rfl
 obtain⟨v,vc,p,rfl,P,ok,dp,q⟩:=h
 refine⟨_,(pss_cons (ps_set (i:=2) sc_made.nd rfl (by first | exact Or.inl rfl | exact Or.inr rfl) (pe_ix ix_tup (pv 0) pe_int (fun _ _=>rfl)))
  (pss_cons (ps_if (pt_cmpR op_eq (pv 2) pe_str (nomark _))
   (pss_one (ps_ret (pe_mk0 c_All___init__ (hr.mono (by omega)) rfl)))
   pss_nil)
  (pss_cons (ps_if (pt_cmpR op_eq (pv 2) pe_str (nomark _))
   (pss_one (ps_ret (pe_mk0 c_No___init__ (hr.mono (by omega)) rfl)))
   pss_nil)
  (pss_cons (ps_if (pt_cmpR op_eq (pv 2) pe_str (nomark _))
   (pss_one (ps_ret (pe_mk c_Each___init__ (hr.mono (by omega)) rfl (pa_cons (pe_ix ix_tup (pv 0) pe_int (fun _ _=>rfl)) (pa_cons (pe_ix ix_tup (pv 0) pe_int (fun _ _=>rfl)) pa_nil)))))
   pss_nil)
  (pss_cons (ps_if (pt_cmpR op_eq (pv 2) pe_str (nomark _))
   (pss_one (ps_ret (pe_cal c_made_date (hr.mono (by omega)) rfl (pa_cons (pv 0) (pa_cons (pv 1) pa_nil)))))
   pss_nil)
  (pss_cons (ps_if (pt_cmpR op_eq (pv 2) pe_str (nomark _))
   (pss_one (ps_ret (pe_mk c_Not___init__ (hr.mono (by omega)) rfl (pa_cons (pe_cal c_made (hr.mono (by omega)) rfl (pa_cons (pe_ix ix_tup (pv 0) pe_int (fun _ _=>rfl)) (pa_cons (pv 1) pa_nil))) pa_nil))))
   pss_nil)
  (pss_cons (ps_if (pt_cmpR op_eq (pv 2) pe_str (nomark _))
   (pss_one (ps_ret (pe_mk c_Later___init__ (hr.mono (by omega)) rfl (pa_cons (pe_ix ix_tup (pv 0) pe_int (fun _ _=>rfl)) (pa_cons (pe_cal c_made (hr.mono (by omega)) rfl (pa_cons (pe_ix ix_tup (pv 0) pe_int (fun _ _=>rfl)) (pa_cons (pv 1) pa_nil))) pa_nil)))))
   pss_nil)
  (pss_cons (ps_if (pt_cmpR op_eq (pv 2) pe_str (nomark _))
   (pss_one (ps_ret (pe_mk c_Every___init__ (hr.mono (by omega)) rfl (pa_cons (pe_ix ix_tup (pv 0) pe_int (fun _ _=>rfl)) (pa_cons (pe_cal c_made (hr.mono (by omega)) rfl (pa_cons (pe_ix ix_tup (pv 0) pe_int (fun _ _=>rfl)) (pa_cons (pv 1) pa_nil))) (pa_cons (pe_ix ix_tup (pv 0) pe_int (fun _ _=>rfl)) pa_nil))))))
   pss_nil)
  (pss_cons (ps_if (pt_cmpR op_eq (pv 2) pe_str (nomark _))
   (pss_cons (ps_set (i:=3) sc_made.nd rfl (by first | exact Or.inl rfl | exact Or.inr rfl) (pe_cal c_made (hr.mono (by omega)) rfl (pa_cons (pe_ix ix_tup (pv 0) pe_int (fun _ _=>rfl)) (pa_cons (pv 1) pa_nil))))
  (pss_one (ps_ret (pe_mk c_Kth___init__ (hr.mono (by omega)) rfl (pa_cons (pe_ix ix_tup (pv 0) pe_int (fun _ _=>rfl)) (pa_cons (pv 3) (pa_cons (pe_cal c_made (hr.mono (by omega)) rfl (pa_cons (pe_ix ix_tup (pv 0) pe_int (fun _ _=>rfl)) (pa_cons (pv 1) pa_nil))) pa_nil)))))))
   pss_nil)
  (pss_cons (ps_set (i:=3) sc_made.nd rfl (by first | exact Or.inl rfl | exact Or.inr rfl) (pe_cal c_made (hr.mono (by omega)) rfl (pa_cons (pe_ix ix_tup (pv 0) pe_int (fun _ _=>rfl)) (pa_cons (pv 1) pa_nil))))
  (pss_one (ps_ret (pe_cal c_made_pair (hr.mono (by omega)) rfl (pa_cons (pv 2) (pa_cons (pv 3) (pa_cons (pe_cal c_made (hr.mono (by omega)) rfl (pa_cons (pe_ix ix_tup (pv 0) pe_int (fun _ _=>rfl)) (pa_cons (pv 1) pa_nil))) pa_nil)))))))))))))))),?_⟩
 cases p with
 | date=>cases ok
 | later=>cases ok
 | nth=>cases ok
 | every=>cases ok
 | lf w=>
  obtain⟨q0,rfl,hq⟩:=P
  walk_at "rd"
  refine rd_ixT (SqT.of hq) at_zero ?_
  walk_at "rd"
  rcases(of_decide_eq_true ok:w=kAll∨w=kNone) with rfl | rfl
  ·rw[sk_all]
   refine iteD rfl ?_
   walk_at "rd"
   exact fun y dy hy hdy ne=>⟨y,rfl,⟨dy,upd_same⟩,fun b H' k R _=>⟨rfl,q y b H' (made_same hy hdy ne k) R⟩⟩
  ·rw[sk_all]
   refine iteN (fun z=>absurd (s_inj.mp z) (by decide)) ?_
   walk_at "rd"
   rw[sk_none]
   refine iteD rfl ?_
   walk_at "rd"
   exact fun y dy hy hdy ne=>⟨y,rfl,⟨dy,upd_same⟩,fun b H' k R _=>⟨rfl,q y b H' (made_same hy hdy ne k) R⟩⟩
 | each n r=>
  obtain⟨q0,rfl,hq⟩:=P
  obtain rfl:n=1:=of_decide_eq_true ok
  walk_at "rd"
  refine rd_ixT (SqT.of hq) at_zero ?_
  walk_at "rd"
  rw[sk_all]
  refine iteN (fun z=>absurd (s_inj.mp z) (by decide)) ?_
  walk_at "rd"
  rw[sk_none]
  refine iteN (fun z=>absurd (s_inj.mp z) (by decide)) ?_
  walk_at "rd"
  rw[sk_each]
  refine iteD rfl ?_
  walk_at "rd"
  refine rd_ixT (SqT.of hq) at31 ?_
  walk_at "rd"
  refine rd_ixT (SqT.of hq) at32 ?_
  walk_at "rd"
  exact fun y dy hy hdy ne=>⟨y,1,r,rfl,by omega,by omega,⟨dy,upd_same⟩,fun b H' k R _=>⟨rfl,q y b H' (made_same hy hdy ne k) R⟩⟩
 | not p=>
  obtain⟨q0,u,rfl,hq,P⟩:=P
  have ok:p.okB=true:=ok
  have dp:p.dep+1<d+1:=dp
  walk_at "rd"
  refine rd_ixT (SqT.of hq) at_zero ?_
  walk_at "rd"
  rw[sk_all]
  refine iteN (fun z=>absurd (s_inj.mp z) (by decide)) ?_
  walk_at "rd"
  rw[sk_none]
  refine iteN (fun z=>absurd (s_inj.mp z) (by decide)) ?_
  walk_at "rd"
  rw[sk_each]
  refine iteN (fun z=>absurd (s_inj.mp z) (by decide)) ?_
  walk_at "rd"
  rw[sk_date]
  refine iteN (fun z=>absurd (s_inj.mp z) (by decide)) ?_
  walk_at "rd"
  rw[sk_not]
  refine iteD rfl ?_
  walk_at "rd"
  refine rd_ixT (SqT.of hq) at1 ?_
  walk_at "rd"
  refine⟨u,vc,p,rfl,P,ok,by omega,fun x b H1 s1 R1=>?_⟩
  walk_at "rd"
  exact fun y dy hy hdy ne=>⟨y,x,1,b,rfl,R1.same (mk_same75 hy hdy ne),⟨dy,upd_same⟩,fun c H' k R _=>⟨rfl,q y c H' (s1.trans (made_same hy hdy ne k)) R⟩⟩
 | pair w p r=>
  obtain⟨q0,u,u2,rfl,hq,P1,P2⟩:=P
  have ok:(decide (w=[111,114])&&p.okB&&r.okB)=true:=ok
  have dp:max p.dep r.dep+1<d+1:=dp
  simp only[Bool.and_eq_true,decide_eq_true_eq] at ok
  obtain⟨⟨rfl,ok1⟩,ok2⟩:=ok
  walk_at "rd"
  refine rd_ixT (SqT.of hq) at_zero ?_
  walk_at "rd"
  rw[sk_all]
  refine iteN (fun z=>absurd (s_inj.mp z) (by decide)) ?_
  walk_at "rd"
  rw[sk_none]
  refine iteN (fun z=>absurd (s_inj.mp z) (by decide)) ?_
  walk_at "rd"
  rw[sk_each]
  refine iteN (fun z=>absurd (s_inj.mp z) (by decide)) ?_
  walk_at "rd"
  rw[sk_date]
  refine iteN (fun z=>absurd (s_inj.mp z) (by decide)) ?_
  walk_at "rd"
  rw[sk_not]
  refine iteN (fun z=>absurd (s_inj.mp z) (by decide)) ?_
  walk_at "rd"
  rw[sk_later]
  refine iteN (fun z=>absurd (s_inj.mp z) (by decide)) ?_
  walk_at "rd"
  rw[sk_every]
  refine iteN (fun z=>absurd (s_inj.mp z) (by decide)) ?_
  walk_at "rd"
  rw[sk_of]
  refine iteN (fun z=>absurd (s_inj.mp z) (by decide)) ?_
  walk_at "rd"
  refine rd_ixT (SqT.of hq) at31 ?_
  walk_at "rd"
  refine⟨u,vc,p,rfl,P1,ok1,by omega,fun x b H1 s1 R1=>?_⟩
  walk_at "rd"
  refine rd_ixT (SqT.of (s1 _ _ hq)) at32 ?_
  walk_at "rd"
  refine⟨u2,vc,r,rfl,PlH.kp (fun y xs e=>s1 _ _ e) P2,ok2,by omega,fun x2 b2 H2 s2 R2=>?_⟩
  walk_at "rd"
  exact⟨x,x2,b,b2,rfl,R1.same s2,R2,fun y c H' s R=>q y c H' (s1.trans (s2.trans s)) R⟩
theorem sc_read_rule:FnScope ["text","calendars","reader","plan"] ["text","calendars"] (defScope s_read_rule):=⟨rfl,rfl,rfl,by decide +kernel,rfl,by decide +kernel,by decide +kernel⟩
theorem ok_read_rule{f:Addr}{fd:FuncData}(F:Fun K "read_rule" "read_rule" s_read_rule f fd)(er:Errs K mg c_FeastError c_NoNumber c_TooLong c_NoMeasure c_NoRule c_NoName c_Rule c_All c_No c_Each c_Dated c_Not c_Both c_Either c_But c_Unlike c_Later c_Upon c_Until c_Near c_Till c_Kth c_Every c_Reader c_Measure c_Calendar c_Sun)(c_is_readable:Cal P w K mg base 1 "is_readable" ["text"] spReadable75)(c_Reader___init__:CalI P w K mg base CX0 1 "Reader" c_Reader ["self","words"] (spInitR c_Reader))(c_words_of:CalE P w K mg base 1 "words_of" ["text"] (spWords c_NoRule))(c_take_plan:CalE P w K mg base 131 "take_plan" ["reader"] ((spPlan c_Reader c_NoRule) 41))(c_Reader_peek:CalM P w K mg base CX0 1 c_Reader "peek" ["self"] (spPeek c_Reader))(c_made:Cal P w K mg base 57 "made" ["plan","calendars"] ((spMade75 K c_Rule [c_All,c_No,c_Each,c_Not,c_Either]) 45)):FnOk P w K mg base (CX1 P w) 132 f fd ["text","calendars"] (spRead75 c_NoRule):=by
 refine F.okE (k:=131) sc_read_rule (fun vs H Q E h=>?_) (fun cdv A outer s H vs Q E hr h T=>?_)
 ·obtain⟨v,vc,rfl,_⟩:=h
  rfl
 obtain⟨v,vc,rfl,hv,hc,q,qe⟩:=h
 refine⟨_,(pss_cons (ps_if (pt_not (pt_val (pe_cal c_is_readable (hr.mono (by decide)) rfl (pa_cons (pv 0) pa_nil))))
  (pss_one (ps_raise T rfl er.x_NoRule rfl (pa_cons pe_str pa_nil)))
  pss_nil)
  (pss_cons (ps_set (i:=2) sc_read_rule.nd rfl (by first | exact Or.inl rfl | exact Or.inr rfl) (pe_mk c_Reader___init__ (hr.mono (by decide)) rfl (pa_cons (pe_calE T c_words_of (hr.mono (by decide)) rfl (pa_cons (pv 0) pa_nil)) pa_nil)))
  (pss_cons (ps_set (i:=3) sc_read_rule.nd rfl (by first | exact Or.inl rfl | exact Or.inr rfl) (pe_calE T c_take_plan (hr.mono (by decide)) rfl (pa_cons (pv 2) pa_nil)))
  (pss_cons (ps_if (pt_cmpR op_ne (pe_mcal0 c_Reader_peek er.cl_Reader (hr.mono (by decide)) (pv 2)) pe_str (nomark _))
   (pss_one (ps_raise T rfl er.x_NoRule rfl (pa_cons pe_str pa_nil)))
   pss_nil)
  (pss_one (ps_ret (pe_cal c_made (hr.mono (by decide)) rfl (pa_cons (pv 3) (pa_cons (pv 1) pa_nil))))))))),?_⟩
 walk_at "rdx"
 refine⟨v,rfl,hv,fun z ez b hb=>?_,fun ht=>?_⟩
 ·subst ez
  have hz:TOk z:=by
   cases hv with
   | txt z hz=>exact hz
  have okz:∀{o:Prop},okR (cpl z)=false→(∀z',V.str z=.str z'→okR (cpl z')=false):=fun{o} h z' e=>by injection e with e;rw[←e];exact h
  walk_at "rdx"
  cases b with
  | false=>
   refine iteT ?_
   walk_at "rdx"
   refine⟨(by show 1≤sizeLine;decide),qe (okz (o:=True) (okR_not ?_)) H (Same.refl _)⟩
   unfold readS
   rw[if_pos (by have:¬(cpl z).length≤4000:=fun y=>absurd (hb.mpr y) (by decide);omega)]
  | true=>
   have zl:=hb.mp rfl
   have rd:∀ts,wordsOf 0 (spl 32 (cpl z))=some ts→readS numVal (cpl z)=(match prs numVal 41 ts with | some (p,[])=>some p | _=>none):=fun ts e=>by
    unfold readS
    rw[if_neg (by omega),e]
   refine iteF ?_
   walk_at "rdx"
   refine⟨z,rfl,hz,zl,fun ts l H1 ew s1 t1=>?_,fun ew H1 s1=>qe (okz (o:=True) (okR_not (by unfold readS;rw[if_neg (by omega),ew]))) H1 s1⟩
   obtain⟨w1,w2,w3,w4⟩:=words_ok hz zl ew
   have rd:=rd ts ew
   walk_at "rdx"
   refine fun x dx hx hdx ne=>⟨x,dx,l,ts,rfl,upd_same,mk_same75 hx hdx ne _ _ t1,w1,w2,w3,fun p H2 k2 R2=>⟨rfl,?_⟩⟩
   have s2:=made_same hx hdx ne k2
   have hxH:H x=none:=s1.free hx
   have kbS:∀{H':Hp},KB x H2 H'→Same H H':=fun{H'} kb y o e=>kb y o (ne_of_none e hxH) ((s1.trans s2) _ _ e)
   walk_at "rdx"
   refine⟨x,p,ts,0,rfl,R2,by rw[List.drop_zero];exact w4,fun pl r v k3 H3 e3 kb3 R3 er pv=>?_,fun e H' kb=>qe (okz (o:=True) (okR_not (by rw[List.drop_zero] at e;rw[rd,e]))) H' (kbS kb)⟩
   rw[List.drop_zero] at e3
   subst er
   walk_at "rdx"
   obtain⟨d3,hx3⟩:=R3.ex
   refine⟨x,d3,_,rfl,hx3,rfl,?_⟩
   walk_at "rdx"
   refine⟨x,p,ts,k3,rfl,R3,?_⟩
   walk_at "rdx"
   rw[sk_nil]
   rcases drop_c ts k3 with ⟨kl,dk⟩ | ⟨_,dk,nk⟩
   ·have nn:nxt ts k3≠[]:=w3 _ (by unfold nxt;rw[List.getElem?_eq_getElem kl];exact List.getElem_mem kl)
    refine iteNN (fun z=>nn (s_inj.mp z)) ?_
    walk_at "rdx"
    exact⟨(by show 1≤sizeLine;decide),qe (okz (o:=True) (okR_not (by rw[rd,e3,dk]))) H3 (kbS kb3)⟩
   ·refine iteNS (by rw[nk]) ?_
    rw[e3,dk] at rd
    walk_at "rdx"
    have ok:okR (cpl z)=true:=by
     rcases hc with h | ⟨z',e,h | h⟩
     ·cases h
     ·injection e with e
      rw[←e,rd] at h
      cases h
     ·injection e with e
      rw[e]
      exact h
    have ok2:=ok
    unfold okR at ok2
    rw[rd] at ok2
    simp only[Bool.and_eq_true,decide_eq_true_eq] at ok2
    exact⟨v,vc,pl,rfl,pv,ok2.1,ok2.2,fun x' b H' s R=>q z rfl ok (.ref x') H' ((kbS kb3).trans s)⟩
 ·walk_at "rdx"
  refine iteT ?_
  walk_at "rdx"
  exact⟨(by show 1≤sizeLine;decide),qe (fun z e=>by subst e;cases ht) H (Same.refl _)⟩
theorem sc_term_on:FnScope ["term","k"] ["term","k"] (defScope s_term_on):=⟨rfl,rfl,rfl,by decide +kernel,rfl,by decide +kernel,by decide +kernel⟩
theorem ok_term_on{f:Addr}{fd:FuncData}(F:Fun K "term_on" "term_on" s_term_on f fd):FnOk P w K mg base CX0 1 f fd ["term","k"] spNo:=by
 refine F.ok (k:=0) sc_term_on (fun vs H Q E h=>?_) (fun cdv A outer s H vs Q E hr h=>?_)
 ·exact h.elim
 exact h.elim
theorem sc_signs_upto:FnScope ["terms","k"] ["terms","k"] (defScope s_signs_upto):=⟨rfl,rfl,rfl,by decide +kernel,rfl,by decide +kernel,by decide +kernel⟩
theorem ok_signs_upto{f:Addr}{fd:FuncData}(F:Fun K "signs_upto" "signs_upto" s_signs_upto f fd)(z_sum:mg "sum"=none):FnOk P w K mg base CX0 1 f fd ["terms","k"] (spSigns7 K):=by
 refine F.ok (k:=0) sc_signs_upto (fun vs H Q E h=>?_) (fun cdv A outer s H vs Q E hr h=>?_)
 ·obtain⟨p,k,rfl,_⟩:=h
  rfl
 obtain⟨p,k,rfl,hS,q⟩:=h
 refine⟨_,(pss_one (ps_ret (pe_callB (call_sum rfl) rfl z_sum PyProof.Rows.boot_sum (pa_cons (pe_comp rfl (compOk_freeM ["terms","k"] ["terms","k"] rfl rfl (by with_unfolding_all rfl) (by decide +kernel) rfl (by decide +kernel) rfl (by decide +kernel) (by walk_at "fm") (by with_unfolding_all rfl) (by with_unfolding_all rfl)) (pi_tup (pv 0)) (fun _ _ _ _=>pifs_nil) (fun _ _ _ _=>(pe_op op_mulB (pe_ix ix_tup_c (pv 0) pe_int (fun _ _=>rfl)) (pe_op op_fdivB (pe_op op_add (pe_op op_mulB (pe_ix ix_tup_c (pv 0) pe_int (fun _ _=>rfl)) (pv 2)) (pe_ix ix_tup_c (pv 0) pe_int (fun _ _=>rfl))) (pe_ix ix_tup_c (pv 0) pe_int (fun _ _=>rfl)))))) pa_nil)))),?_⟩
 walk_at "rd"
 refine comp_t rfl hS (by decide) (fun _=>true) (fun v=>v) (fun x hx=>nomatch hx) (fun x hx=>nomatch hx) (fun D hD=>?_)
 walk_at "rd"
 exact⟨D,[],rfl,SqL.of upd_same,q _ (same_new hD _)⟩
theorem sc_is_term:FnScope ["term"] ["term"] (defScope s_is_term):=⟨rfl,rfl,rfl,by decide +kernel,rfl,by decide +kernel,by decide +kernel⟩
theorem ok_is_term{f:Addr}{fd:FuncData}(F:Fun K "is_term" "is_term" s_is_term f fd){tk_GREATEST_N:Tok}(m_GREATEST_N:mg "GREATEST_N"=some (.int 1000 tk_GREATEST_N)):FnOk P w K mg base CX0 1 f fd ["term"] spNo:=by
 refine F.ok (k:=0) sc_is_term (fun vs H Q E h=>?_) (fun cdv A outer s H vs Q E hr h=>?_)
 ·exact h.elim
 exact h.elim
theorem sc_least_length:FnScope ["base","terms"] ["base","terms"] (defScope s_least_length):=⟨rfl,rfl,rfl,by decide +kernel,rfl,by decide +kernel,by decide +kernel⟩
theorem ok_least_length{f:Addr}{fd:FuncData}(F:Fun K "least_length" "least_length" s_least_length f fd)(z_len:mg "len"=none):FnOk P w K mg base CX0 1 f fd ["base","terms"] (spLeast7 K):=by
 refine F.ok (k:=0) sc_least_length (fun vs H Q E h=>?_) (fun cdv A outer s H vs Q E hr h=>?_)
 ·obtain⟨p,b,rfl,_⟩:=h
  rfl
 obtain⟨p,b,rfl,hS,q⟩:=h
 refine⟨_,(pss_one (ps_ret (pe_op op_sub (pv 0) (pe_callB call_len_seq rfl z_len PySem.boot_len (pa_cons (pe_comp rfl (compOk_nil ["base","terms"] rfl (by decide +kernel) rfl (by decide +kernel) rfl (by decide +kernel) (by decide +kernel)) (pi_tup (pv 1)) (fun _ _ _ _=>(pifs_one (pt_cmpR op_eq (pe_ix ix_tup_c (pv 0) pe_int (fun _ _=>rfl)) (pe_un un_neg pe_int) (nomark _)))) (fun _ _ _ _=>(pv 0))) pa_nil))))),?_⟩
 walk_at "rd"
 refine comp_t rfl hS (by decide) (fun _=>true) (fun v=>v) (fun x hx=>nomatch hx) (fun x hx=>nomatch hx) (fun D hD=>?_)
 walk_at "rd"
 refine⟨D,[],rfl,.inl (SqL.of upd_same),?_⟩
 walk_at "rd"
 rw[show b-(([]:List V).length:Int)=b from Int.sub_zero b]
 exact q _ (same_new hD _)
theorem sc_refuse_measure:FnScope ["base","terms"] ["base","terms"] (defScope s_refuse_measure):=⟨rfl,rfl,rfl,by decide +kernel,rfl,by decide +kernel,by decide +kernel⟩
theorem ok_refuse_measure{f:Addr}{fd:FuncData}(F:Fun K "refuse_measure" "refuse_measure" s_refuse_measure f fd)(c_is_term:Cal P w K mg base 1 "is_term" ["term"] spNo)(c_least_length:Cal P w K mg base 1 "least_length" ["base","terms"] (spLeast7 K))(z_len:mg "len"=none)(z_all:mg "all"=none){tk_GREATEST_BASE:Tok}(m_GREATEST_BASE:mg "GREATEST_BASE"=some (.int 20000 tk_GREATEST_BASE)){tk_MOST_TERMS:Tok}(m_MOST_TERMS:mg "MOST_TERMS"=some (.int 6 tk_MOST_TERMS)):FnOk P w K mg base CX0 2 f fd ["base","terms"] (spRefM7 K):=by
 refine F.ok (k:=1) sc_refuse_measure (fun vs H Q E h=>?_) (fun cdv A outer s H vs Q E hr h=>?_)
 ·obtain⟨p,b,rfl,_⟩:=h
  rfl
 obtain⟨p,b,rfl,hS,b0,b1,q⟩:=h
 refine⟨_,(pss_cons (ps_if (PW.pt (pw_or (pt_cmpR op_lt (pv 0) pe_int (nomark _)) (pw_or1 (pt_cmpR op_gt (pv 0) (pe_glob rfl m_GREATEST_BASE (rel_int _ _)) (nomark _)))))
  (pss_one ps_never)
  pss_nil)
  (pss_cons (ps_if (pt_cmpR op_gt (pe_callB call_len_seq rfl z_len PySem.boot_len (pa_cons (pv 1) pa_nil)) (pe_glob rfl m_MOST_TERMS (rel_int _ _)) (nomark _))
   (pss_one ps_never)
   pss_nil)
  (pss_cons (ps_if (pt_not (pt_val (pe_callB (call_all rfl) rfl z_all PyProof.Rows.boot_all (pa_cons (pe_comp rfl (compOk_nil ["base","terms"] rfl (by decide +kernel) rfl (by decide +kernel) rfl (by decide +kernel) (by decide +kernel)) (pi_tup (pv 1)) (fun _ _ _ _=>pifs_nil) (fun _ _ _ _=>(pe_cal c_is_term (hr.mono (by decide)) rfl (pa_cons (pv 0) pa_nil)))) pa_nil))))
   (pss_one ps_never)
   pss_nil)
  (pss_one (ps_if (pt_cmpR op_lt (pe_cal c_least_length (hr.mono (by decide)) rfl (pa_cons (pv 0) (pa_cons (pv 1) pa_nil))) pe_int (nomark _))
   (pss_one ps_never)
   pss_nil))))),?_⟩
 walk_at "rd"
 refine iteN (by omega) ?_
 walk_at "rd"
 refine iteN (by omega) ?_
 walk_at "rd"
 refine⟨p,[],rfl,.inr hS,?_⟩
 walk_at "rd"
 refine iteN (by decide) ?_
 walk_at "rd"
 refine comp_t rfl hS (by decide) (fun _=>true) (fun v=>v) (fun x hx=>nomatch hx) (fun x hx=>nomatch hx) (fun D hD=>?_)
 have s1:=same_new hD (.lst ((([]:List V).filter fun _=>true).map fun v=>v))
 walk_at "rd"
 refine⟨D,[],rfl,SqL.of upd_same,?_⟩
 walk_at "rd"
 refine iteF ?_
 walk_at "rd"
 refine⟨p,b,rfl,s1.tup hS,fun H2 s2=>?_⟩
 walk_at "rd"
 refine iteN (by omega) ?_
 walk_at "rd"
 exact q _ (s1.trans s2)
theorem sc_period_of:FnScope ["terms","told","term"] ["terms"] (defScope s_period_of):=⟨rfl,rfl,rfl,by decide +kernel,rfl,by decide +kernel,by decide +kernel⟩
theorem ok_period_of{f:Addr}{fd:FuncData}(F:Fun K "period_of" "period_of" s_period_of f fd)(c_common:Cal P w K mg base 3 "common" ["one","other"] spCommon):FnOk P w K mg base CX0 4 f fd ["terms"] (spPer7 K):=by
 refine F.ok (k:=3) sc_period_of (fun vs H Q E h=>?_) (fun cdv A outer s H vs Q E hr h=>?_)
 ·obtain⟨p,rfl,_⟩:=h
  rfl
 obtain⟨p,rfl,hS,q⟩:=h
 refine⟨_,(pss_cons (ps_set (i:=1) sc_period_of.nd rfl (by first | exact Or.inl rfl | exact Or.inr rfl) pe_int)
  (pss_cons (ps_for PassesOwn.never rfl (pi_tup (pv 0)) (pg_name (i:=2) sc_period_of.nd rfl (by first | exact Or.inl rfl | exact Or.inr rfl))
   (pss_one (ps_set (i:=1) sc_period_of.nd rfl (by first | exact Or.inl rfl | exact Or.inr rfl) (pe_cal c_common (hr.mono (by decide)) rfl (pa_cons (pv 1) (pa_cons (pe_ix ix_tup (pv 2) pe_int (fun _ _=>rfl)) pa_nil))))))
  (pss_one (ps_ret (pv 1))))),?_⟩
 walk_at "rd"
 walk_at "rdf"
 walk_at "rd"
 refine⟨p,rfl,⟨_,hS⟩,for_tup (xs:=[]) (fun i σ' H'=>Same H H'∧∃c:Option V,σ'=[some (.ref p),some (.int 1),c]) ⟨Same.refl _,none,rfl⟩ ?_ ?_ ?_⟩
 ·rintro i σ' H' _ ⟨s,_⟩
  exact s.tup hS
 ·rintro i x σ' H' hx
  simp at hx
 ·rintro σ' H' ⟨s,c,rfl⟩
  walk_at "rd"
  exact q _ s
theorem sc_Measure_upto:FnScope ["self","k"] ["self","k"] (defScope s_Measure_upto):=⟨rfl,rfl,rfl,by decide +kernel,rfl,by decide +kernel,by decide +kernel⟩
theorem ok_Measure_upto{f:Addr}{fd:FuncData}(F:Fun K "upto" "Measure.upto" s_Measure_upto f fd)(er:Errs K mg c_FeastError c_NoNumber c_TooLong c_NoMeasure c_NoRule c_NoName c_Rule c_All c_No c_Each c_Dated c_Not c_Both c_Either c_But c_Unlike c_Later c_Upon c_Until c_Near c_Till c_Kth c_Every c_Reader c_Measure c_Calendar c_Sun)(c_signs_upto:Cal P w K mg base 1 "signs_upto" ["terms","k"] (spSigns7 K)):FnOk P w K mg base CX0 2 f fd ["self","k"] (spUpto7 c_Measure):=by
 refine F.ok (k:=1) sc_Measure_upto (fun vs H Q E h=>?_) (fun cdv A outer s H vs Q E hr h=>?_)
 ·obtain⟨x,dx,p,k,b,fs,rfl,_⟩:=h
  rfl
 obtain⟨x,dx,p,k,b,fs,rfl,hx,fb,ft,hp,b0,b1,k0,k1,q⟩:=h
 refine⟨_,(pss_one (ps_ret (pe_op op_add (pe_op op_mulB (pe_fld (pv 0) (by rfl)) (pv 1)) (pe_cal c_signs_upto (hr.mono (by decide)) rfl (pa_cons (pe_fld (pv 0) (by rfl)) (pa_cons (pv 1) pa_nil)))))),?_⟩
 walk_at "rd"
 refine⟨x,c_Measure,dx,fs,_,rfl,hx,er.cl_Measure,er.na_Measure_base,fb,?_⟩
 walk_at "rd"
 refine rd_i ⟨64,64,bt_small (by omega) (by omega) (by decide),bt_small (by omega) (by omega) (by decide),by decide⟩ ?_
 walk_at "rd"
 refine⟨x,c_Measure,dx,fs,_,rfl,hx,er.cl_Measure,er.na_Measure_terms,ft,?_⟩
 walk_at "rd"
 refine⟨p,k,rfl,SqT.of hp,fun H' s=>?_⟩
 walk_at "rd"
 rw[Int.add_zero]
 exact q _ s
theorem sc_Measure___init__:FnScope ["self","base","terms"] ["self","base","terms"] (defScope s_Measure___init__):=⟨rfl,rfl,rfl,by decide +kernel,rfl,by decide +kernel,by decide +kernel⟩
theorem ok_Measure___init__{f:Addr}{fd:FuncData}{ds:Array Value}(F:FunD K "__init__" "Measure.__init__" s_Measure___init__ f fd ds)(er:Errs K mg c_FeastError c_NoNumber c_TooLong c_NoMeasure c_NoRule c_NoName c_Rule c_All c_No c_Each c_Dated c_Not c_Both c_Either c_But c_Unlike c_Later c_Upon c_Until c_Near c_Till c_Kth c_Every c_Reader c_Measure c_Calendar c_Sun)(c_refuse_measure:Cal P w K mg base 2 "refuse_measure" ["base","terms"] (spRefM7 K))(c_period_of:Cal P w K mg base 4 "period_of" ["terms"] (spPer7 K))(c_Measure_upto:CalM P w K mg base CX0 2 c_Measure "upto" ["self","k"] (spUpto7 c_Measure))(z_tuple:mg "tuple"=none):FnOk P w K mg base CX0 5 f fd ["self","base","terms"] (spInitM7 c_Measure):=by
 refine F.ok (k:=4) sc_Measure___init__ (fun vs H Q E h=>?_) (fun cdv A outer s H vs Q E hr h=>?_)
 ·obtain⟨x,dx,b,rfl,_⟩:=h
  rfl
 obtain⟨x,dx,b,rfl,hx,b0,b1,q⟩:=h
 refine⟨_,(pss_cons (ps_fld (pv 0) (pv 1) (by rfl))
  (pss_cons (ps_fld (pv 0) (pe_ifExp (pt_cmpR op_isN (pv 2) pe_non (nomark _)) (pe_tup pa_nil) (pe_callTy call_tuple_of rfl z_tuple PyProof.Rows.boot_tuple (pa_cons (pv 2) pa_nil))) (by rfl))
  (pss_cons (ps_expr (pe_cal c_refuse_measure (hr.mono (by decide)) rfl (pa_cons (pe_fld (pv 0) (by rfl)) (pa_cons (pe_fld (pv 0) (by rfl)) pa_nil))))
  (pss_cons (ps_fld (pv 0) (pe_cal c_period_of (hr.mono (by decide)) rfl (pa_cons (pe_fld (pv 0) (by rfl)) pa_nil)) (by rfl))
  (pss_cons (ps_fld (pv 0) (pe_mcal c_Measure_upto er.cl_Measure (hr.mono (by decide)) (pv 0) (pa_cons (pe_fld (pv 0) (by rfl)) pa_nil)) (by rfl))
  (pss_one (ps_if (pt_cmpR op_eq (pe_fld (pv 0) (by rfl)) pe_int (nomark _))
   (pss_one ps_never)
   pss_nil))))))),?_⟩
 walk_at "rdx"
 refine⟨x,c_Measure,dx,[],rfl,hx,er.cl_Measure,er.na_Measure_base,by decide,?_⟩
 refine put7 fun H1 k1 x1=>?_
 walk_at "rdx"
 refine⟨rfl,?_⟩
 walk_at "rdx"
 refine iteD rfl ?_
 walk_at "rdx"
 refine⟨Nat.zero_le _,fun p hp=>?_⟩
 have px:x≠p:=ne_of_none x1 hp
 refine fresh hp fun H1' s1' t1'=>?_
 have x1:=s1' _ _ x1
 walk_at "rdx"
 refine⟨x,c_Measure,dx,_,rfl,x1,er.cl_Measure,er.na_Measure_terms,(by show 1<1000;decide),?_⟩
 refine put7 fun H2 k2 x2=>?_
 have p2:=k2 _ _ (Ne.symm px) t1'
 walk_at "rdx"
 refine⟨x,c_Measure,dx,_,_,rfl,x2,er.cl_Measure,er.na_Measure_base,rfl,?_⟩
 walk_at "rdx"
 refine⟨x,c_Measure,dx,_,_,rfl,x2,er.cl_Measure,er.na_Measure_terms,rfl,?_⟩
 walk_at "rdx"
 refine⟨p,b,rfl,SqT.of p2,by omega,by omega,fun H3 s3=>?_⟩
 have x3:=s3 _ _ x2
 walk_at "rdx"
 refine⟨x,c_Measure,dx,_,_,rfl,x3,er.cl_Measure,er.na_Measure_terms,rfl,?_⟩
 walk_at "rdx"
 refine⟨p,rfl,SqT.of (s3 _ _ p2),fun H4 s4=>?_⟩
 have x4:=s4 _ _ x3
 have p4:=(s3.trans s4) _ _ p2
 walk_at "rdx"
 refine⟨x,c_Measure,dx,_,rfl,x4,er.cl_Measure,er.na_Measure_full_count,(by show 2<1000;decide),?_⟩
 refine put7 fun H5 k5 x5=>?_
 have p5:=k5 _ _ (Ne.symm px) p4
 walk_at "rdx"
 refine⟨x,dx,_,rfl,x5,rfl,?_⟩
 walk_at "rdx"
 refine⟨x,c_Measure,dx,_,_,rfl,x5,er.cl_Measure,er.na_Measure_full_count,rfl,?_⟩
 walk_at "rdx"
 refine⟨x,dx,p,1,b,_,rfl,x5,rfl,rfl,p5,by omega,by omega,by omega,by omega,fun H6 s6=>?_⟩
 rw[Int.mul_one]
 have x6:=s6 _ _ x5
 walk_at "rdx"
 refine⟨x,c_Measure,dx,_,rfl,x6,er.cl_Measure,er.na_Measure_full_sum,(by show 3<1000;decide),?_⟩
 refine put7 fun H7 k7 x7=>?_
 walk_at "rdx"
 refine⟨x,c_Measure,dx,_,_,rfl,x7,er.cl_Measure,er.na_Measure_full_sum,rfl,?_⟩
 walk_at "rdx"
 refine iteN (fun z=>by have:=V.int.inj z;omega) ?_
 walk_at "rdx"
 refine q _ (fun y o hy e=>k7 _ _ hy (s6 _ _ (k5 _ _ hy ((s3.trans s4) _ _ (k2 _ _ hy (s1' _ _ (k1 _ _ hy e))))))) ⟨dx,p,x7,k7 _ _ (Ne.symm px) (s6 _ _ p5)⟩
theorem sc_refuse_months:FnScope ["lengths","leap"] ["lengths","leap"] (defScope s_refuse_months):=⟨rfl,rfl,rfl,by decide +kernel,rfl,by decide +kernel,by decide +kernel⟩
theorem ok_refuse_months{f:Addr}{fd:FuncData}(F:Fun K "refuse_months" "refuse_months" s_refuse_months f fd)(z_len:mg "len"=none)(z_min:mg "min"=none)(z_max:mg "max"=none){tk_MOST_MONTHS:Tok}(m_MOST_MONTHS:mg "MOST_MONTHS"=some (.int 20 tk_MOST_MONTHS)){tk_LONGEST_MONTH:Tok}(m_LONGEST_MONTH:mg "LONGEST_MONTH"=some (.int 1000 tk_LONGEST_MONTH)):FnOk P w K mg base CX0 1 f fd ["lengths","leap"] (spRefMo7 K):=by
 refine F.ok (k:=0) sc_refuse_months (fun vs H Q E h=>?_) (fun cdv A outer s H vs Q E hr h=>?_)
 ·obtain⟨l,k,rfl,_⟩:=h
  rfl
 obtain⟨l,k,rfl,hS,k0,k1,q⟩:=h
 refine⟨_,(pss_cons (ps_if (PW.pt (pw_or (pt_cmpR op_lt (pe_callB call_len_seq rfl z_len PySem.boot_len (pa_cons (pv 0) pa_nil)) pe_int (nomark _)) (pw_or1 (pt_cmpR op_gt (pe_callB call_len_seq rfl z_len PySem.boot_len (pa_cons (pv 0) pa_nil)) (pe_glob rfl m_MOST_MONTHS (rel_int _ _)) (nomark _)))))
  (pss_one ps_never)
  pss_nil)
  (pss_cons (ps_if (PW.pt (pw_or (pt_cmpR op_lt (pe_callB (call_minL rfl) rfl z_min PyProof.Rows.boot_min (pa_cons (pv 0) pa_nil)) pe_int (nomark _)) (pw_or1 (pt_cmpR op_gt (pe_callB (call_maxL rfl) rfl z_max PyProof.Rows.boot_max (pa_cons (pv 0) pa_nil)) (pe_glob rfl m_LONGEST_MONTH (rel_int _ _)) (nomark _)))))
   (pss_one ps_never)
   pss_nil)
  (pss_one (ps_if (PW.pt (pw_or (pt_cmpR op_lt (pv 1) pe_int (nomark _)) (pw_or1 (pt_cmpR op_gt (pv 1) (pe_callB call_len_seq rfl z_len PySem.boot_len (pa_cons (pv 0) pa_nil)) (nomark _)))))
   (pss_one ps_never)
   pss_nil)))),?_⟩
 walk_at "rdx"
 refine⟨l,_,rfl,.inl hS,?_⟩
 walk_at "rdx"
 refine iteN (by simp) ?_
 walk_at "rdx"
 refine⟨l,_,rfl,.inl hS,?_⟩
 walk_at "rdx"
 refine iteN (by simp) ?_
 walk_at "rdx"
 refine⟨l,[k],rfl,hS,(fun z=>nomatch z),fun m hm _=>?_⟩
 have hm:=List.mem_singleton.mp hm
 walk_at "rdx"
 refine iteN (by omega) ?_
 walk_at "rdx"
 refine⟨l,[k],rfl,hS,(fun z=>nomatch z),fun m hm _=>?_⟩
 have hm:=List.mem_singleton.mp hm
 walk_at "rdx"
 refine iteN (by omega) ?_
 walk_at "rdx"
 refine iteN (by omega) ?_
 walk_at "rdx"
 refine⟨l,_,rfl,.inl hS,?_⟩
 walk_at "rdx"
 refine iteN (by simp) ?_
 walk_at "rdx"
 exact q
theorem sc_Sun___init__:FnScope ["self","start","lengths","leap","terms"] ["self","start","lengths","leap","terms"] (defScope s_Sun___init__):=⟨rfl,rfl,rfl,by decide +kernel,rfl,by decide +kernel,by decide +kernel⟩
theorem ok_Sun___init__{f:Addr}{fd:FuncData}{ds:Array Value}(F:FunD K "__init__" "Sun.__init__" s_Sun___init__ f fd ds)(er:Errs K mg c_FeastError c_NoNumber c_TooLong c_NoMeasure c_NoRule c_NoName c_Rule c_All c_No c_Each c_Dated c_Not c_Both c_Either c_But c_Unlike c_Later c_Upon c_Until c_Near c_Till c_Kth c_Every c_Reader c_Measure c_Calendar c_Sun)(c_refuse_months:Cal P w K mg base 1 "refuse_months" ["lengths","leap"] (spRefMo7 K))(c_Measure___init__:CalI P w K mg base CX0 5 "Measure" c_Measure ["self","base","terms"] (spInitM7 c_Measure))(c_least_length:Cal P w K mg base 1 "least_length" ["base","terms"] (spLeast7 K))(z_tuple:mg "tuple"=none)(z_sum:mg "sum"=none):FnOk P w K mg base CX0 7 f fd ["self","start","lengths","leap","terms"] (spInitS7 c_Sun c_Measure):=by
 refine F.ok (k:=6) sc_Sun___init__ (fun vs H Q E h=>?_) (fun cdv A outer s H vs Q E hr h=>?_)
 ·obtain⟨x,dx,ll,s,k,rfl,_⟩:=h
  rfl
 obtain⟨x,dx,ll,s,k,rfl,hx,hl,k0,k1,q⟩:=h
 have lx:ll≠x:=ne_of hl hx (by intro z;cases z)
 refine⟨_,(pss_cons (ps_expr (pe_cal c_refuse_months (hr.mono (by decide)) rfl (pa_cons (pv 2) (pa_cons (pv 3) pa_nil))))
  (pss_cons (ps_fld (pv 0) (pv 1) (by rfl))
  (pss_cons (ps_fld (pv 0) (pe_callTy call_tuple_of rfl z_tuple PyProof.Rows.boot_tuple (pa_cons (pv 2) pa_nil)) (by rfl))
  (pss_cons (ps_fld (pv 0) (pv 3) (by rfl))
  (pss_cons (ps_fld (pv 0) (pe_mk c_Measure___init__ (hr.mono (by decide)) rfl (pa_cons (pe_callB (call_sum rfl) rfl z_sum PyProof.Rows.boot_sum (pa_cons (pv 2) pa_nil)) (pa_cons (pv 4) pa_nil))) (by rfl))
  (pss_cons (ps_if (pt_cmpR op_lt (pe_cal c_least_length (hr.mono (by decide)) rfl (pa_cons (pe_ix ix_list (pv 2) (pe_op op_sub (pv 3) pe_int) (fun _ _=>rfl)) (pa_cons (pe_fld (pe_fld (pv 0) (by rfl)) (by rfl)) pa_nil))) pe_int (nomark _))
   (pss_one ps_never)
   pss_nil)
  (pss_one (ps_if (pt_cmpR op_lt (pe_cal c_least_length (hr.mono (by decide)) rfl (pa_cons (pe_fld (pe_fld (pv 0) (by rfl)) (by rfl)) (pa_cons (pe_fld (pe_fld (pv 0) (by rfl)) (by rfl)) pa_nil))) pe_int (nomark _))
   (pss_one ps_never)
   pss_nil)))))))),?_⟩
 walk_at "rdx"
 refine⟨ll,k,rfl,SqL.of hl,k0,k1,?_⟩
 walk_at "rdx"
 refine⟨x,c_Sun,dx,[],rfl,hx,er.cl_Sun,er.na_Sun_start,by decide,?_⟩
 refine put7 fun H1 k1' x1=>?_
 walk_at "rdx"
 refine⟨ll,_,rfl,.inl ⟨SqL.of (k1' _ _ lx hl),fun p hp=>?_⟩⟩
 have px:x≠p:=ne_of_none x1 hp
 refine fresh hp fun H1' s1' t1'=>?_
 have x1:=s1' _ _ x1
 walk_at "rdx"
 refine⟨x,c_Sun,dx,_,rfl,x1,er.cl_Sun,er.na_Sun_months,(by show 1<1000;decide),?_⟩
 refine put7 fun H2 k2 x2=>?_
 walk_at "rdx"
 refine⟨x,c_Sun,dx,_,rfl,x2,er.cl_Sun,er.na_Sun_leap,(by show 2<1000;decide),?_⟩
 refine put7 fun H3 k3 x3=>?_
 have k03:KB x H H3:=fun y o hy e=>k3 y o hy (k2 y o hy (s1' _ _ (k1' y o hy e)))
 have l3:=k03 _ _ lx hl
 have t3:=k3 _ _ (Ne.symm px) (k2 _ _ (Ne.symm px) t1')
 walk_at "rdx"
 refine⟨ll,[k],rfl,SqL.of l3,?_⟩
 rw[show ([k]:List Int).sum=k from Int.add_zero k]
 walk_at "rdx"
 refine fun y dy hy hdy ne=>⟨y,dy,k,rfl,upd_same,k0,k1,fun H4 k4 M4=>⟨rfl,?_⟩⟩
 have s4:=made_same hy hdy ne k4
 have x4:=s4 _ _ x3
 have yx:y≠x:=fun e=>by subst e;rw[x3] at hy;cases hy
 walk_at "rdx"
 refine⟨x,c_Sun,dx,_,rfl,x4,er.cl_Sun,er.na_Sun_years,(by show 3<1000;decide),?_⟩
 refine put7 fun H5 k5 x5=>?_
 have M5:=M4.kb x4 yx k5
 have t5:=k5 _ _ (Ne.symm px) (s4 _ _ t3)
 have l5:=k5 _ _ lx (s4 _ _ l3)
 have k05:KB x H H5:=fun y o hy e=>k5 y o hy (s4 _ _ (k03 y o hy e))
 obtain⟨d5,tp,e5,T5⟩:=id M5
 walk_at "rdx"
 refine rd_ixL (SqL.of l5) at_zero ?_
 walk_at "rdx"
 refine⟨x,c_Sun,dx,_,_,rfl,x5,er.cl_Sun,er.na_Sun_years,rfl,?_⟩
 walk_at "rdx"
 refine⟨y,c_Measure,d5,_,_,rfl,e5,er.cl_Measure,er.na_Measure_terms,rfl,?_⟩
 walk_at "rdx"
 refine⟨tp,_,rfl,SqT.of T5,fun H6 s6=>?_⟩
 walk_at "rdx"
 refine iteN (by omega) ?_
 walk_at "rdx"
 have x6:=s6 _ _ x5
 have e6:=s6 _ _ e5
 refine⟨x,c_Sun,dx,_,_,rfl,x6,er.cl_Sun,er.na_Sun_years,rfl,?_⟩
 walk_at "rdx"
 refine⟨y,c_Measure,d5,_,_,rfl,e6,er.cl_Measure,er.na_Measure_base,rfl,?_⟩
 walk_at "rdx"
 refine⟨x,c_Sun,dx,_,_,rfl,x6,er.cl_Sun,er.na_Sun_years,rfl,?_⟩
 walk_at "rdx"
 refine⟨y,c_Measure,d5,_,_,rfl,e6,er.cl_Measure,er.na_Measure_terms,rfl,?_⟩
 walk_at "rdx"
 refine⟨tp,_,rfl,SqT.of (s6 _ _ T5),fun H7 s7=>?_⟩
 walk_at "rdx"
 refine iteN (by omega) ?_
 walk_at "rdx"
 refine q _ (fun y o hy e=>s7 _ _ (s6 _ _ (k05 y o hy e))) ⟨dx,p,y,s7 _ _ x6,s7 _ _ (s6 _ _ t5),(M5.same s6).same s7⟩
theorem sc_law_cell_at:FnScope ["_law_script","_law_k"] ["_law_script","_law_k"] (defScope s_law_cell_at):=⟨rfl,rfl,rfl,by decide +kernel,rfl,by decide +kernel,by decide +kernel⟩
theorem ok_law_cell_at{f:Addr}{fd:FuncData}(F:Fun K "_law_cell_at" "_law_cell_at" s_law_cell_at f fd)(z_len:mg "len"=none):FnOk P w K mg base CX0 1 f fd ["_law_script","_law_k"] (spCell K):=by
 refine F.ok (k:=0) sc_law_cell_at (fun vs H Q E h=>?_) (fun cdv A outer s H vs Q E hr h=>?_)
 ·obtain⟨a,ns,k,rfl,_⟩:=h
  rfl
 obtain⟨a,ns,k,rfl,hS,h0,hl,q⟩:=h
 refine⟨_,(pss_cons (ps_if (pt_cmpR op_lt (pv 1) (pe_callB call_len_seq rfl z_len PySem.boot_len (pa_cons (pv 0) pa_nil)) (nomark _))
  (pss_one (ps_ret (pe_ix ix_list (pv 0) (pv 1) (fun _ _=>rfl))))
  pss_nil)
  (pss_one (ps_ret pe_int))),?_⟩
 walk_at "rd"
 refine⟨a,_,rfl,.inl hS,?_⟩
 walk_at "rd"
 rw[List.length_map]
 refine ite2d (fun c=>?_) (fun c=>?_)
 ·walk_at "rd"
  refine rd_ixL hS (at_ints h0 c) ?_
  exact q
 ·walk_at "rd"
  have e:ns.getD k.toNat 0=0:=by
   simp[List.getD,List.getElem?_eq_none (show ns.length≤k.toNat by omega)]
  rw[e] at q
  exact q
theorem sc_law_leaf:FnScope ["_law_cell","_law_number","_law_some"] ["_law_cell"] (defScope s_law_leaf):=⟨rfl,rfl,rfl,by decide +kernel,rfl,by decide +kernel,by decide +kernel⟩
theorem ok_law_leaf{f:Addr}{fd:FuncData}(F:Fun K "_law_leaf" "_law_leaf" s_law_leaf f fd)(z_str:mg "str"=none):FnOk P w K mg base CX0 1 f fd ["_law_cell"] spLeaf75:=by
 refine F.ok (k:=0) sc_law_leaf (fun vs H Q E h=>?_) (fun cdv A outer s H vs Q E hr h=>?_)
 ·obtain⟨x,rfl,_⟩:=h
  rfl
 obtain⟨x,rfl,q⟩:=h
 refine⟨_,(pss_cons (ps_set (i:=1) sc_law_leaf.nd rfl (by first | exact Or.inl rfl | exact Or.inr rfl) (pe_callTy call_str_int rfl z_str PyProof.Rows.boot_str (pa_cons (pe_op op_sub (pe_op op_mod (pe_op op_fdivB (pv 0) pe_int) (pe_op op_pow pe_int pe_int)) (pe_op op_pow pe_int pe_int)) pa_nil)))
  (pss_cons (ps_set (i:=2) sc_law_leaf.nd rfl (by first | exact Or.inl rfl | exact Or.inr rfl) (pe_lst (pa_cons pe_str (pa_cons pe_str (pa_cons (pe_op op_add_str pe_str (pv 1)) (pa_cons (pe_op op_add_str pe_str (pv 1)) (pa_cons pe_str pa_nil)))))))
  (pss_one (ps_ret (pe_ix ix_list (pv 2) (pe_op op_mod (pv 0) pe_int) (fun _ _=>rfl)))))),?_⟩
 walk_at "rdc"
 have g0:=Int.emod_nonneg (x/5) (show (10000000000000000000000000000000000000000:Int)≠0 by decide)
 have g1:=Int.emod_lt_of_pos (x/5) (show (0:Int)<10000000000000000000000000000000000000000 by decide)
 have yb: -100000000000000000000000000000000000000000≤x/5%10^(40:Int).toNat-10^(39:Int).toNat∧x/5%10^(40:Int).toNat-10^(39:Int).toNat≤100000000000000000000000000000000000000000:=by
  rw[p40,p39]
  omega
 generalize x/5%10^(40:Int).toNat-10^(39:Int).toNat=y at yb ⊢
 obtain⟨n,en,hn,nl,lg⟩:=nm_facts yb.1 yb.2
 refine⟨y,rfl,lg,?_⟩
 rw[show Str.ofString (toString y)=sW n from en]
 have sz:∀m:Nat,m≤100000→m≤sizeLine:=fun m h=>Nat.le_trans h (by decide)
 have l1:(Str.ofString "each 7 from ").length=12:=by decide +kernel
 have l2:(Str.ofString "date sun 1 * each 2 from ").length=25:=by decide +kernel
 walk_at "rdc"
 refine⟨_,_,rfl,rfl,sz _ (by rw[l1,sW_len];omega),?_⟩
 walk_at "rdc"
 refine⟨_,_,rfl,rfl,sz _ (by rw[l2,sW_len];omega),?_⟩
 walk_at "rdc"
 refine⟨(by show 5≤sizeLine;decide),fun l hl=>?_⟩
 refine fresh hl fun H1 s1 t1=>?_
 walk_at "rdc"
 have a0:=Int.emod_nonneg x (show (5:Int)≠0 by decide)
 have a1:=Int.emod_lt_of_pos x (show (0:Int)<5 by decide)
 have na:=num_asc hn
 obtain e | e | e | e | e:x%5=0∨x%5=1∨x%5=2∨x%5=3∨x%5=4:=by omega
 ·rw[e]
  refine rd_ixL (SqL.of t1) rfl ?_
  exact q _ H1 s1 (.f 1 (ps:=[kAll]) (by decide +kernel) (t7_word (by decide)) (p7_word (by decide)) (by decide +kernel) (asc_d (by decide +kernel))) (by decide +kernel)
 ·rw[e]
  refine rd_ixL (SqL.of t1) rfl ?_
  exact q _ H1 s1 (.f 1 (ps:=[kNone]) (by decide +kernel) (t7_word (by decide)) (p7_word (by decide)) (by decide +kernel) (asc_d (by decide +kernel))) (by decide +kernel)
 ·rw[e]
  refine rd_ixL (SqL.of t1) rfl ?_
  refine q _ H1 s1 (.f 1 (ps:=[kEach,[55],kFrom,n]) (by rw[cpl_ap,cpl_sW,c_e7];rfl) (t7_each (by decide) hn) (p7_each (by decide) hn) (by rw[ln_ap,l1,sW_len];omega) ?_) (by rw[ln_ap,l1,sW_len];omega)
  rw[cpl_ap,cpl_sW,c_e7]
  exact .app (asc_d (by decide)) na
 ·rw[e]
  refine rd_ixL (SqL.of t1) rfl ?_
  refine q _ H1 s1 (.f 1 (ps:=[kDate,kSun,k1,kStar,kEach,k2,kFrom,n]) (by rw[cpl_ap,cpl_sW,c_d1];rfl) (t7_date1 hn) (p7_date1 hn) (by rw[ln_ap,l2,sW_len];omega) ?_) (by rw[ln_ap,l2,sW_len];omega)
  rw[cpl_ap,cpl_sW,c_d1]
  exact .app (asc_d (by decide)) na
 ·rw[e]
  refine rd_ixL (SqL.of t1) rfl ?_
  exact q _ H1 s1 (.f 1 (ps:=date2) (by decide +kernel) t7_date2 p7_date2 (by decide +kernel) (asc_d (by decide +kernel))) (by decide +kernel)
theorem sc_law_joined:FnScope ["_law_text_here","_law_cell","_law_beside","_law_number","_law_word","_law_some"] ["_law_text_here","_law_cell","_law_beside"] (defScope s_law_joined):=⟨rfl,rfl,rfl,by decide +kernel,rfl,by decide +kernel,by decide +kernel⟩
theorem ok_law_joined{f:Addr}{fd:FuncData}(F:Fun K "_law_joined" "_law_joined" s_law_joined f fd)(c__law_leaf:Cal P w K mg base 1 "_law_leaf" ["_law_cell"] spLeaf75)(z_str:mg "str"=none):FnOk P w K mg base CX0 2 f fd ["_law_text_here","_law_cell","_law_beside"] spJoin75:=by
 refine F.ok (k:=1) sc_law_joined (fun vs H Q E h=>?_) (fun cdv A outer s H vs Q E hr h=>?_)
 ·obtain⟨z,c,b,k,rfl,_⟩:=h
  rfl
 obtain⟨z,c,b,k,rfl,T,k0,k1,q⟩:=h
 refine⟨_,(pss_cons (ps_set (i:=3) sc_law_joined.nd rfl (by first | exact Or.inl rfl | exact Or.inr rfl) (pe_callTy call_str_int rfl z_str PyProof.Rows.boot_str (pa_cons (pe_op op_sub (pe_op op_mod (pe_op op_fdivB (pv 1) pe_int) (pe_op op_pow pe_int pe_int)) (pe_op op_pow pe_int pe_int)) pa_nil)))
  (pss_cons (ps_set (i:=4) sc_law_joined.nd rfl (by first | exact Or.inl rfl | exact Or.inr rfl) (pe_ix ix_list (pe_strs (ss:=["and","or","but","unlike","upon","until","near","till","and"]) rfl) (pe_op op_mod (pe_op op_fdivB (pv 1) pe_int) pe_int) (fun _ _=>rfl)))
  (pss_cons (ps_set (i:=5) sc_law_joined.nd rfl (by first | exact Or.inl rfl | exact Or.inr rfl) (pe_lst (pa_cons (pe_op op_add_str (pe_op op_add_str (pe_op op_add_str (pe_op op_add_str (pe_op op_add_str (pe_op op_add_str pe_str (pv 0)) pe_str) (pv 4)) pe_str) (pe_cal c__law_leaf (hr.mono (by decide)) rfl (pa_cons (pv 2) pa_nil))) pe_str) pa_nil)))
  (pss_cons (ps_expr (pe_bm PySem.F.plainAttrs_list PySem.F.slot_list_append PySem.F.type_list_append mt_append (pv 5) (pa_cons (pe_op op_add_str (pe_op op_add_str pe_str (pv 0)) pe_str) pa_nil)))
  (pss_cons (ps_expr (pe_bm PySem.F.plainAttrs_list PySem.F.slot_list_append PySem.F.type_list_append mt_append (pv 5) (pa_cons (pe_op op_add_str (pe_op op_add_str (pe_op op_add_str (pe_op op_add_str (pe_op op_add_str (pe_op op_add_str pe_str (pe_cal c__law_leaf (hr.mono (by decide)) rfl (pa_cons (pv 2) pa_nil))) pe_str) (pv 4)) pe_str) (pv 0)) pe_str) pa_nil)))
  (pss_cons (ps_expr (pe_bm PySem.F.plainAttrs_list PySem.F.slot_list_append PySem.F.type_list_append mt_append (pv 5) (pa_cons (pe_op op_add_str (pe_op op_add_str (pe_op op_add_str (pe_op op_add_str pe_str (pv 3)) pe_str) (pv 0)) pe_str) pa_nil)))
  (pss_cons (ps_expr (pe_bm PySem.F.plainAttrs_list PySem.F.slot_list_append PySem.F.type_list_append mt_append (pv 5) (pa_cons (pe_op op_add_str (pe_op op_add_str (pe_op op_add_str (pe_op op_add_str (pe_op op_add_str (pe_op op_add_str pe_str (pv 3)) pe_str) (pv 0)) pe_str) (pe_cal c__law_leaf (hr.mono (by decide)) rfl (pa_cons (pv 2) pa_nil))) pe_str) pa_nil)))
  (pss_cons (ps_expr (pe_bm PySem.F.plainAttrs_list PySem.F.slot_list_append PySem.F.type_list_append mt_append (pv 5) (pa_cons (pe_op op_add_str (pe_op op_add_str (pe_op op_add_str (pe_op op_add_str pe_str (pv 0)) pe_str) (pv 3)) pe_str) pa_nil)))
  (pss_one (ps_ret (pe_ix ix_list (pv 5) (pe_op op_mod (pv 1) pe_int) (fun _ _=>rfl)))))))))))),?_⟩
 walk_at "rdc"
 have g0:=Int.emod_nonneg (c/9) (show (10000000000000000000000000000000000000000:Int)≠0 by decide)
 have g1:=Int.emod_lt_of_pos (c/9) (show (0:Int)<10000000000000000000000000000000000000000 by decide)
 have yb: -100000000000000000000000000000000000000000≤c/9%10^(40:Int).toNat-10^(39:Int).toNat∧c/9%10^(40:Int).toNat-10^(39:Int).toNat≤100000000000000000000000000000000000000000:=by
  rw[p40,p39]
  omega
 generalize c/9%10^(40:Int).toNat-10^(39:Int).toNat=y at yb ⊢
 obtain⟨n,en,hn,nl,lg⟩:=nm_facts yb.1 yb.2
 refine⟨y,rfl,lg,?_⟩
 rw[show Str.ofString (toString y)=sW n from en]
 have na:=num_asc hn
 have zl:=T.ln
 have za:=T.as
 have sz:∀m:Nat,m≤100000→m≤sizeLine:=fun m h=>Nat.le_trans h (by decide)
 have l0:(Str.ofString "(").length=1:=by decide +kernel
 have l1:(Str.ofString " ").length=1:=by decide +kernel
 have l2:(Str.ofString ")").length=1:=by decide +kernel
 have l3:(Str.ofString "(not ").length=5:=by decide +kernel
 have l4:(Str.ofString " later ").length=7:=by decide +kernel
 have l5:(Str.ofString " of ").length=4:=by decide +kernel
 have l6:(Str.ofString " from ").length=6:=by decide +kernel
 have l7:(Str.ofString "(every 2 of ").length=12:=by decide +kernel
 have w0:=Int.emod_nonneg (c/9) (show (9:Int)≠0 by decide)
 have w1:=Int.emod_lt_of_pos (c/9) (show (0:Int)<9 by decide)
 walk_at "rdc"
 refine rd_strs ?_
 refine⟨(by show 9≤sizeLine;decide),fun lw hlw=>?_⟩
 refine fresh hlw fun H1 s1 t1=>?_
 obtain⟨wd,hwm,ewd⟩:=at_strs75 (ss:=["and","or","but","unlike","upon","until","near","till","and"]) w0 w1
 obtain⟨w,rfl,hw,wl⟩:∃w:Wd,wd=sW w∧w∈pairWs∧w.length≤10:=pair_w hwm
 have wa:AscL w:=asc_d ((show ∀w∈pairWs,(w.all fun c=>decide (c<128))=true by decide) w hw)
 walk_at "rdc"
 refine rd_ixL (SqL.of t1) ewd ?_
 walk_at "rdc"
 refine⟨_,_,rfl,rfl,sz _ (by simp only[ln_ap,sW_len,l0,l1,l2,l3,l4,l5,l6,l7];omega),?_⟩
 walk_at "rdc"
 refine⟨_,_,rfl,rfl,sz _ (by simp only[ln_ap,sW_len,l0,l1,l2,l3,l4,l5,l6,l7];omega),?_⟩
 walk_at "rdc"
 refine⟨_,_,rfl,rfl,sz _ (by simp only[ln_ap,sW_len,l0,l1,l2,l3,l4,l5,l6,l7];omega),?_⟩
 walk_at "rdc"
 refine⟨_,_,rfl,rfl,sz _ (by simp only[ln_ap,sW_len,l0,l1,l2,l3,l4,l5,l6,l7];omega),?_⟩
 walk_at "rdc"
 refine⟨b,rfl,fun y1 G1 r1 T1 n1=>?_⟩
 have a1:=T1.as
 walk_at "rdc"
 refine⟨_,_,rfl,rfl,sz _ (by simp only[ln_ap,sW_len,l0,l1,l2,l3,l4,l5,l6,l7];omega),?_⟩
 walk_at "rdc"
 refine⟨_,_,rfl,rfl,sz _ (by simp only[ln_ap,sW_len,l0,l1,l2,l3,l4,l5,l6,l7];omega),?_⟩
 walk_at "rdc"
 refine⟨(by show 1≤sizeLine;decide),fun l hl=>?_⟩
 have hlH:H l=none:=(s1.trans r1).free hl
 refine putL75 hlH (s1.trans r1) fun K0 k0' t0=>?_
 walk_at "rdc"
 refine rd_append rfl t0 ?_
 walk_at "rdc"
 refine⟨_,_,rfl,rfl,sz _ (by simp only[ln_ap,sW_len,l0,l1,l2,l3,l4,l5,l6,l7];omega),?_⟩
 walk_at "rdc"
 refine⟨_,_,rfl,rfl,sz _ (by simp only[ln_ap,sW_len,l0,l1,l2,l3,l4,l5,l6,l7];omega),?_⟩
 walk_at "rdc"
 refine rd_app t0 (by show 1<sizeLine;decide) ?_
 refine putL75 hlH k0' fun K1 k1' t1'=>?_
 walk_at "rdc"
 refine rd_append rfl t1' ?_
 walk_at "rdc"
 refine⟨b,rfl,fun y2 G2 r2 T2 n2=>?_⟩
 have a2:=T2.as
 walk_at "rdc"
 refine⟨_,_,rfl,rfl,sz _ (by simp only[ln_ap,sW_len,l0,l1,l2,l3,l4,l5,l6,l7];omega),?_⟩
 walk_at "rdc"
 refine⟨_,_,rfl,rfl,sz _ (by simp only[ln_ap,sW_len,l0,l1,l2,l3,l4,l5,l6,l7];omega),?_⟩
 walk_at "rdc"
 refine⟨_,_,rfl,rfl,sz _ (by simp only[ln_ap,sW_len,l0,l1,l2,l3,l4,l5,l6,l7];omega),?_⟩
 walk_at "rdc"
 refine⟨_,_,rfl,rfl,sz _ (by simp only[ln_ap,sW_len,l0,l1,l2,l3,l4,l5,l6,l7];omega),?_⟩
 walk_at "rdc"
 refine⟨_,_,rfl,rfl,sz _ (by simp only[ln_ap,sW_len,l0,l1,l2,l3,l4,l5,l6,l7];omega),?_⟩
 walk_at "rdc"
 refine⟨_,_,rfl,rfl,sz _ (by simp only[ln_ap,sW_len,l0,l1,l2,l3,l4,l5,l6,l7];omega),?_⟩
 walk_at "rdc"
 refine rd_app (r2 _ _ t1') (by show 2<sizeLine;decide) ?_
 refine putL75 hlH (k1'.trans r2) fun K2 k2' t2'=>?_
 walk_at "rdc"
 refine rd_append rfl t2' ?_
 walk_at "rdc"
 refine⟨_,_,rfl,rfl,sz _ (by simp only[ln_ap,sW_len,l0,l1,l2,l3,l4,l5,l6,l7];omega),?_⟩
 walk_at "rdc"
 refine⟨_,_,rfl,rfl,sz _ (by simp only[ln_ap,sW_len,l0,l1,l2,l3,l4,l5,l6,l7];omega),?_⟩
 walk_at "rdc"
 refine⟨_,_,rfl,rfl,sz _ (by simp only[ln_ap,sW_len,l0,l1,l2,l3,l4,l5,l6,l7];omega),?_⟩
 walk_at "rdc"
 refine⟨_,_,rfl,rfl,sz _ (by simp only[ln_ap,sW_len,l0,l1,l2,l3,l4,l5,l6,l7];omega),?_⟩
 walk_at "rdc"
 refine rd_app t2' (by show 3<sizeLine;decide) ?_
 refine putL75 hlH k2' fun K3 k3' t3'=>?_
 walk_at "rdc"
 refine rd_append rfl t3' ?_
 walk_at "rdc"
 refine⟨_,_,rfl,rfl,sz _ (by simp only[ln_ap,sW_len,l0,l1,l2,l3,l4,l5,l6,l7];omega),?_⟩
 walk_at "rdc"
 refine⟨_,_,rfl,rfl,sz _ (by simp only[ln_ap,sW_len,l0,l1,l2,l3,l4,l5,l6,l7];omega),?_⟩
 walk_at "rdc"
 refine⟨_,_,rfl,rfl,sz _ (by simp only[ln_ap,sW_len,l0,l1,l2,l3,l4,l5,l6,l7];omega),?_⟩
 walk_at "rdc"
 refine⟨_,_,rfl,rfl,sz _ (by simp only[ln_ap,sW_len,l0,l1,l2,l3,l4,l5,l6,l7];omega),?_⟩
 walk_at "rdc"
 refine⟨b,rfl,fun y3 G3 r3 T3 n3=>?_⟩
 have a3:=T3.as
 walk_at "rdc"
 refine⟨_,_,rfl,rfl,sz _ (by simp only[ln_ap,sW_len,l0,l1,l2,l3,l4,l5,l6,l7];omega),?_⟩
 walk_at "rdc"
 refine⟨_,_,rfl,rfl,sz _ (by simp only[ln_ap,sW_len,l0,l1,l2,l3,l4,l5,l6,l7];omega),?_⟩
 walk_at "rdc"
 refine rd_app (r3 _ _ t3') (by show 4<sizeLine;decide) ?_
 refine putL75 hlH (k3'.trans r3) fun K4 k4' t4'=>?_
 walk_at "rdc"
 refine rd_append rfl t4' ?_
 walk_at "rdc"
 refine⟨_,_,rfl,rfl,sz _ (by simp only[ln_ap,sW_len,l0,l1,l2,l3,l4,l5,l6,l7];omega),?_⟩
 walk_at "rdc"
 refine⟨_,_,rfl,rfl,sz _ (by simp only[ln_ap,sW_len,l0,l1,l2,l3,l4,l5,l6,l7];omega),?_⟩
 walk_at "rdc"
 refine⟨_,_,rfl,rfl,sz _ (by simp only[ln_ap,sW_len,l0,l1,l2,l3,l4,l5,l6,l7];omega),?_⟩
 walk_at "rdc"
 refine⟨_,_,rfl,rfl,sz _ (by simp only[ln_ap,sW_len,l0,l1,l2,l3,l4,l5,l6,l7];omega),?_⟩
 walk_at "rdc"
 refine rd_app t4' (by show 5<sizeLine;decide) ?_
 refine putL75 hlH k4' fun K5 k5' t5'=>?_
 walk_at "rdc"
 have m0:=Int.emod_nonneg c (show (6:Int)≠0 by decide)
 have m1:=Int.emod_lt_of_pos c (show (0:Int)<6 by decide)
 obtain e | e | e | e | e | e:c%6=0∨c%6=1∨c%6=2∨c%6=3∨c%6=4∨c%6=5:=by omega
 ·rw[e]
  refine rd_ixL (SqL.of t5') rfl ?_
  exact q _ K5 k5' (T7.pair T T1 k0 hw (by simp[cpl_ap,cpl_sW,c_x0,c_x1,c_x2]) (by simp only[ln_ap,sW_len,l0,l1,l2];omega) (by (simp only[cpl_ap,cpl_sW,c_x0,c_x1,c_x2]);(repeat' apply AscL.app);all_goals (first | assumption | exact asc_d (by decide))))
 ·rw[e]
  refine rd_ixL (SqL.of t5') rfl ?_
  exact q _ K5 k5' (T7.not T (by simp[cpl_ap,cpl_sW,c_x3,c_x2,kNot]) (by simp only[ln_ap,sW_len,l3,l2];omega) (by (simp only[cpl_ap,cpl_sW,c_x3,c_x2]);(repeat' apply AscL.app);all_goals (first | assumption | exact asc_d (by decide))))
 ·rw[e]
  refine rd_ixL (SqL.of t5') rfl ?_
  exact q _ K5 k5' (T7.pair' T T2 k0 hw (by simp[cpl_ap,cpl_sW,c_x0,c_x1,c_x2]) (by simp only[ln_ap,sW_len,l0,l1,l2];omega) (by (simp only[cpl_ap,cpl_sW,c_x0,c_x1,c_x2]);(repeat' apply AscL.app);all_goals (first | assumption | exact asc_d (by decide))))
 ·rw[e]
  refine rd_ixL (SqL.of t5') rfl ?_
  exact q _ K5 k5' (T7.later T hn (by simp[cpl_ap,cpl_sW,c_x0,c_x4,c_x2,kLater]) (by simp only[ln_ap,sW_len,l0,l4,l2];omega) (by (simp only[cpl_ap,cpl_sW,c_x0,c_x4,c_x2]);(repeat' apply AscL.app);all_goals (first | assumption | exact asc_d (by decide))))
 ·rw[e]
  refine rd_ixL (SqL.of t5') rfl ?_
  exact q _ K5 k5' (T7.nth T T3 k0 hn (by simp[cpl_ap,cpl_sW,c_x0,c_x5,c_x6,c_x2,kOf,kFrom]) (by simp only[ln_ap,sW_len,l0,l5,l6,l2];omega) (by (simp only[cpl_ap,cpl_sW,c_x0,c_x5,c_x6,c_x2]);(repeat' apply AscL.app);all_goals (first | assumption | exact asc_d (by decide))))
 ·rw[e]
  refine rd_ixL (SqL.of t5') rfl ?_
  exact q _ K5 k5' (T7.every T hn (by simp[cpl_ap,cpl_sW,c_x7,c_x6,c_x2,kEvery,k2,kOf,kFrom]) (by simp only[ln_ap,sW_len,l7,l6,l2];omega) (by (simp only[cpl_ap,cpl_sW,c_x7,c_x6,c_x2]);(repeat' apply AscL.app);all_goals (first | assumption | exact asc_d (by decide))))
theorem sc_law_text:FnScope ["_law_script","_law_text_here","_law_k"] ["_law_script"] (defScope s_law_text):=⟨rfl,rfl,rfl,by decide +kernel,rfl,by decide +kernel,by decide +kernel⟩
theorem ok_law_text{f:Addr}{fd:FuncData}(F:Fun K "_law_text" "_law_text" s_law_text f fd)(c__law_leaf:Cal P w K mg base 1 "_law_leaf" ["_law_cell"] spLeaf75)(c__law_cell_at:Cal P w K mg base 1 "_law_cell_at" ["_law_script","_law_k"] (spCell K))(c__law_joined:Cal P w K mg base 2 "_law_joined" ["_law_text_here","_law_cell","_law_beside"] spJoin75)(z_range:mg "range"=none):FnOk P w K mg base CX0 3 f fd ["_law_script"] (spText75 K):=by
 refine F.ok (k:=2) sc_law_text (fun vs H Q E h=>?_) (fun cdv A outer s H vs Q E hr h=>?_)
 ·obtain⟨a,ns,rfl,_⟩:=h
  rfl
 obtain⟨a,ns,rfl,hS,nl,q⟩:=h
 refine⟨_,(pss_cons (ps_set (i:=1) sc_law_text.nd rfl (by first | exact Or.inl rfl | exact Or.inr rfl) (pe_cal c__law_leaf (hr.mono (by decide)) rfl (pa_cons (pe_cal c__law_cell_at (hr.mono (by decide)) rfl (pa_cons (pv 0) (pa_cons pe_int pa_nil))) pa_nil)))
  (pss_cons (ps_for PassesOwn.never rfl (pi_range1 rfl z_range (pa_cons (pe_op op_mod (pe_cal c__law_cell_at (hr.mono (by decide)) rfl (pa_cons (pv 0) (pa_cons pe_int pa_nil))) pe_int) pa_nil)) (pg_name (i:=2) sc_law_text.nd rfl (by first | exact Or.inl rfl | exact Or.inr rfl))
   (pss_one (ps_set (i:=1) sc_law_text.nd rfl (by first | exact Or.inl rfl | exact Or.inr rfl) (pe_cal c__law_joined (hr.mono (by decide)) rfl (pa_cons (pv 1) (pa_cons (pe_cal c__law_cell_at (hr.mono (by decide)) rfl (pa_cons (pv 0) (pa_cons (pe_op op_add pe_int (pe_op op_mulB pe_int (pv 2))) pa_nil))) (pa_cons (pe_cal c__law_cell_at (hr.mono (by decide)) rfl (pa_cons (pv 0) (pa_cons (pe_op op_add pe_int (pe_op op_mulB pe_int (pv 2))) pa_nil))) pa_nil)))))))
  (pss_one (ps_ret (pv 1))))),?_⟩
 walk_at "rdc"
 refine⟨_,rfl,fun z H1 s1 T1 _=>?_⟩
 have hS1:=s1.seq hS
 walk_at "rdc"
 walk_at "rdf"
 walk_at "rdc"
 generalize ns.getD (Int.toNat 1) 0=c1
 have a0:=Int.emod_nonneg c1 (show (8:Int)≠0 by decide)
 have a1:=Int.emod_lt_of_pos c1 (show (0:Int)<8 by decide)
 generalize c1%8=n at a0 a1 ⊢
 obtain⟨n,rfl⟩:∃m:Nat,n=(m:Int):=⟨n.toNat,by omega⟩
 refine⟨(n:Int),rfl,by omega,by omega,for_range (fun i σ' H'=>Same H H'∧∃z v,T7 (i+1) z∧σ'=[some (.ref a),some (.str z),v]) ⟨s1,z,none,T1,rfl⟩ ?_ ?_⟩
 ·rintro i σ' H' hi ⟨sH,z,v,T,rfl⟩
  have hi:i<n:=hi
  have hS2:=sH.seq hS
  walk_at "rdc"
  refine rd_i ⟨64,64,bt_small (by omega) (by omega) (by decide),bt_small (by omega) (by omega) (by decide),by decide⟩ ?_
  walk_at "rdc"
  refine rd_cell hS2 nl (by omega) ?_
  walk_at "rdc"
  refine rd_i ⟨64,64,bt_small (by omega) (by omega) (by decide),bt_small (by omega) (by omega) (by decide),by decide⟩ ?_
  walk_at "rdc"
  refine rd_cell hS2 nl (by omega) ?_
  walk_at "rdc"
  refine⟨z,_,_,i+1,rfl,T,by omega,by omega,fun y H2 s2 T2=>?_⟩
  walk_at "rdc"
  exact⟨sH.trans s2,y,_,T2,rfl⟩
 ·rintro σ' H' ⟨sH,z,v,T,rfl⟩
  walk_at "rdc"
  exact q z _ H' sH T (by show n+1≤8;omega)
theorem sc_law_places:FnScope ["_law_text_here","_law_signs"] ["_law_text_here","_law_signs"] (defScope s_law_places):=⟨rfl,rfl,rfl,by decide +kernel,rfl,by decide +kernel,by decide +kernel⟩
theorem ok_law_places{f:Addr}{fd:FuncData}(F:Fun K "_law_places" "_law_places" s_law_places f fd)(z_range:mg "range"=none)(z_len:mg "len"=none):FnOk P w K mg base CX0 1 f fd ["_law_text_here","_law_signs"] spPlaces75:=by
 refine F.ok (k:=0) sc_law_places (fun vs H Q E h=>?_) (fun cdv A outer s H vs Q E hr h=>?_)
 ·obtain⟨z,g,rfl,_⟩:=h
  rfl
 obtain⟨z,g,rfl,zl,q⟩:=h
 have lc:=len_cpl z
 refine⟨_,(pss_one (ps_ret (pe_comp rfl (compOk_freeM ["_law_text_here","_law_signs"] ["_law_text_here","_law_signs"] rfl rfl (by with_unfolding_all rfl) (by decide +kernel) rfl (by decide +kernel) rfl (by decide +kernel) (by walk_at "fm") (by with_unfolding_all rfl) (by with_unfolding_all rfl)) (pi_range1 rfl z_range (pa_cons (pe_callB call_len_str rfl z_len PySem.boot_len (pa_cons (pv 0) pa_nil)) pa_nil)) (fun _ _ _ _=>(pifs_one (pt_cmpR op_in_str (pe_ix ix_str (pv 1) (pv 0) (fun _ _=>rfl)) (pv 2) (by rfl)))) (fun _ _ _ _=>(pv 0))))),?_⟩
 walk_at "rdc"
 refine rd_comp (rd_rng1 ?_)
 walk_at "rdc"
 refine⟨z,rfl,Nat.le_trans zl (by decide),?_⟩
 walk_at "rdc"
 refine⟨_,rfl,by omega,by omega,?_⟩
 refine comp_go walk_r ?_ (fun _ _ _=>trivial) (fun v=>match v with | .int d=>inG z g d | _=>false) (fun v=>v) (fun x hx D ys Q' hD h=>?_) (fun x hx _ D ys Q' hD h=>⟨_,rfl,h⟩) (fun D hD=>?_)
 ·rw[List.length_map,List.length_range,sizeLine_eq]
  omega
 ·obtain⟨i,hi,rfl⟩:=List.mem_map.mp hx
  have hi:=List.mem_range.mp hi
  have hl:i<(cpl z).length:=by omega
  walk_at "rdc"
  refine⟨z,_,(cpl z)[i],rfl,rfl,Nat.le_trans zl (by decide),?_,?_⟩
  ·rw[Int.zero_add]
   exact atI_nat (List.getElem?_eq_getElem hl)
  walk_at "rdc"
  refine⟨_,g,rfl,rfl,?_⟩
  rw[StrLaws.found_one]
  refine⟨_,rfl,?_⟩
  have e:inG z g (0+(i:Int))=decide ((cpl z)[i]∈cpl g):=by
   unfold inG
   rw[Int.zero_add,Int.toNat_natCast,List.getElem?_eq_getElem hl]
  have h:Q' (inG z g (0+(i:Int))) _:=h
  rw[e] at h
  exact h
 have e:=filt (fun v=>match v with | .int d=>inG z g d | _=>false) (inG z g) (fun d=>rfl) (fun i=>0+(i:Int)) (List.range ((z.length:Int)).toNat)
 rw[e]
 refine fresh hD fun H1 s1 t1=>?_
 have mem:∀d,d∈((List.range ((z.length:Int)).toNat).map fun(i:Nat)=>0+(i:Int)).filter (inG z g)↔0≤d∧d<(z.length:Int)∧inG z g d=true:=fun d=>by
  rw[List.mem_filter,List.mem_map]
  constructor
  ·rintro⟨⟨i,hi,rfl⟩,h⟩
   have:=List.mem_range.mp hi
   exact⟨by omega,by omega,h⟩
  ·rintro⟨h1,h2,h3⟩
   exact⟨⟨d.toNat,List.mem_range.mpr (by omega),by omega⟩,h3⟩
 refine q D _ H1 hD s1 t1 (fun d hd=>?_) (fun en c hc hg=>?_) ?_
 ·obtain⟨h1,h2,h3⟩:=(mem d).mp hd
  refine⟨h1,?_⟩
  unfold inG at h3
  split at h3
  ·rename_i c hc
   exact⟨c,hc,of_decide_eq_true h3⟩
  ·cases h3
 ·obtain⟨i,hi,e⟩:=List.mem_iff_getElem.mp hc
  have:(i:Int)∈((List.range ((z.length:Int)).toNat).map fun(i:Nat)=>0+(i:Int)).filter (inG z g):=(mem _).mpr ⟨by omega,by omega,by
   unfold inG
   rw[Int.toNat_natCast,List.getElem?_eq_getElem hi,e]
   exact decide_eq_true hg⟩
  rw[en] at this
  cases this
 ·refine Nat.le_trans (List.length_filter_le _ _) ?_
  rw[List.length_map,List.length_range]
  omega
theorem sc_law_odd:FnScope ["_law_cell","_law_some"] ["_law_cell"] (defScope s_law_odd):=⟨rfl,rfl,rfl,by decide +kernel,rfl,by decide +kernel,by decide +kernel⟩
theorem ok_law_odd{f:Addr}{fd:FuncData}(F:Fun K "_law_odd" "_law_odd" s_law_odd f fd):FnOk P w K mg base CX0 1 f fd ["_law_cell"] spOdd75:=by
 refine F.ok (k:=0) sc_law_odd (fun vs H Q E h=>?_) (fun cdv A outer s H vs Q E hr h=>?_)
 ·obtain⟨c,rfl,_⟩:=h
  rfl
 obtain⟨c,rfl,q⟩:=h
 refine bss_ex ⟨_,(bss_cons (bs_set (i:=1) sc_law_odd.nd rfl (by first | exact Or.inl rfl | exact Or.inr rfl) (be_strs (ss:=[""," ","(",")","()","not all","(not all","each 3","each 3 from","each from 1"]) (by rfl)))
  (bss_cons (bs_set (i:=1) sc_law_odd.nd rfl (by first | exact Or.inl rfl | exact Or.inr rfl) (be_op op_cat (be (pv 1)) (be_strs (ss:=["each 03 from 1","each 3 from 01","each 3 from -0","each +3 from 1","each - from 1"]) (by rfl))))
  (bss_cons (bs_set (i:=1) sc_law_odd.nd rfl (by first | exact Or.inl rfl | exact Or.inr rfl) (be_op op_cat (be (pv 1)) (be_strs (ss:=["date","date sun","date sun 1","date sun 1 2 each 3","date Sun 1 2"]) (by rfl))))
  (bss_cons (bs_set (i:=1) sc_law_odd.nd rfl (by first | exact Or.inl rfl | exact Or.inr rfl) (be_op op_cat (be (pv 1)) (be_strs (ss:=["date abcdefghi 1 2","date  1 2","date sun ** 1","date sun 1 00","( all and none)"]) (by rfl))))
  (bss_cons (bs_set (i:=1) sc_law_odd.nd rfl (by first | exact Or.inl rfl | exact Or.inr rfl) (be_op op_cat (be (pv 1)) (be_strs (ss:=["(all and none )","(all And none)","(all xor none)","(3 later)","(3 of all)"]) (by rfl))))
  (bss_cons (bs (ps_set (i:=1) sc_law_odd.nd rfl (by first | exact Or.inl rfl | exact Or.inr rfl) (pe_op op_cat (pv 1) (pe_lst (pa_cons pe_str (pa_cons pe_str (pa_cons pe_str (pa_cons pe_str pa_nil))))))))
  (bss_cons (bs (ps_set (i:=1) sc_law_odd.nd rfl (by first | exact Or.inl rfl | exact Or.inr rfl) (pe_op op_cat (pv 1) (pe_lst (pa_cons pe_str (pa_cons pe_str (pa_cons pe_str (pa_cons pe_str pa_nil))))))))
  (bss_one (bs (ps_ret (pe_ix ix_list (pv 1) (pe_op op_mod (pv 0) pe_int) (fun _ _=>rfl)))))))))))),?_⟩
 walk_at "rdc"
 refine rd_strs ?_
 refine⟨(by show 10≤sizeLine;decide),fun l0 h0=>?_⟩
 refine fresh h0 fun H0 s0 t0=>?_
 walk_at "rdc"
 refine rd_strs ?_
 refine⟨(by show 5≤sizeLine;decide),fun m1 hm1=>?_⟩
 refine fresh hm1 fun G1 r1 u1=>?_
 walk_at "rdc"
 refine⟨l0,m1,_,_,rfl,rfl,r1 _ _ t0,u1,(by rw[List.length_map,List.length_map];decide),fun l1 h1=>?_⟩
 refine fresh h1 fun H1 s1 t1=>?_
 rw[←List.map_append] at t1
 have s1:=s0.trans (r1.trans s1)
 walk_at "rdc"
 refine rd_strs ?_
 refine⟨(by show 5≤sizeLine;decide),fun m2 hm2=>?_⟩
 refine fresh hm2 fun G2 r2 u2=>?_
 walk_at "rdc"
 refine⟨l1,m2,_,_,rfl,rfl,r2 _ _ t1,u2,(by rw[List.length_map,List.length_map];decide),fun l2 h2=>?_⟩
 refine fresh h2 fun H2 s2 t2=>?_
 rw[←List.map_append] at t2
 have s2:=s1.trans (r2.trans s2)
 walk_at "rdc"
 refine rd_strs ?_
 refine⟨(by show 5≤sizeLine;decide),fun m3 hm3=>?_⟩
 refine fresh hm3 fun G3 r3 u3=>?_
 walk_at "rdc"
 refine⟨l2,m3,_,_,rfl,rfl,r3 _ _ t2,u3,(by rw[List.length_map,List.length_map];decide),fun l3 h3=>?_⟩
 refine fresh h3 fun H3 s3 t3=>?_
 rw[←List.map_append] at t3
 have s3:=s2.trans (r3.trans s3)
 walk_at "rdc"
 refine rd_strs ?_
 refine⟨(by show 5≤sizeLine;decide),fun m4 hm4=>?_⟩
 refine fresh hm4 fun G4 r4 u4=>?_
 walk_at "rdc"
 refine⟨l3,m4,_,_,rfl,rfl,r4 _ _ t3,u4,(by rw[List.length_map,List.length_map];decide),fun l4 h4=>?_⟩
 refine fresh h4 fun H4 s4 t4=>?_
 rw[←List.map_append] at t4
 have s4:=s3.trans (r4.trans s4)
 walk_at "rdc"
 refine⟨(by show 4≤sizeLine;decide),fun m5 hm5=>?_⟩
 refine fresh hm5 fun G5 r5 u5=>?_
 have u5:G5 m5=some (.lst ((["(3 of all from)","(every 3 all from 1)","(every of all from 1)","(every 3 of all)"]:List Str).map V.str)):=u5
 walk_at "rdc"
 refine⟨l4,m5,_,_,rfl,rfl,r5 _ _ t4,u5,(by rw[List.length_map,List.length_map];decide),fun l5 h5=>?_⟩
 refine fresh h5 fun H5 s5 t5=>?_
 rw[←List.map_append] at t5
 have s5:=s4.trans (r5.trans s5)
 walk_at "rdc"
 refine⟨(by show 4≤sizeLine;decide),fun m6 hm6=>?_⟩
 refine fresh hm6 fun G6 r6 u6=>?_
 have u6:G6 m6=some (.lst ((["(1 all from none)","(- later all)","ALL","nones"]:List Str).map V.str)):=u6
 walk_at "rdc"
 refine⟨l5,m6,_,_,rfl,rfl,r6 _ _ t5,u6,(by rw[List.length_map,List.length_map];decide),fun l6 h6=>?_⟩
 refine fresh h6 fun H6 s6 t6=>?_
 rw[←List.map_append] at t6
 have s6:=s5.trans (r6.trans s6)
 have t6:H6 l6=some (.lst (oddS.map V.str)):=t6
 walk_at "rdc"
 obtain⟨z,hz,ez⟩:=at_strs75 (ss:=oddS) (Int.emod_nonneg c (show (38:Int)≠0 by decide)) (by rw[odd_len];exact Int.emod_lt_of_pos c (show (0:Int)<38 by decide))
 refine rd_ixL (SqL.of t6) ez ?_
 exact q z H6 s6 (odd_nor hz)
theorem sc_law_bracket_out:FnScope ["_law_text_here","_law_cell","_law_some","_law_at"] ["_law_text_here","_law_cell"] (defScope s_law_bracket_out):=⟨rfl,rfl,rfl,by decide +kernel,rfl,by decide +kernel,by decide +kernel⟩
theorem ok_law_bracket_out{f:Addr}{fd:FuncData}(F:Fun K "_law_bracket_out" "_law_bracket_out" s_law_bracket_out f fd)(c__law_places:Cal P w K mg base 1 "_law_places" ["_law_text_here","_law_signs"] spPlaces75)(z_len:mg "len"=none):FnOk P w K mg base CX0 2 f fd ["_law_text_here","_law_cell"] spBrk75:=by
 refine F.ok (k:=1) sc_law_bracket_out (fun vs H Q E h=>?_) (fun cdv A outer s H vs Q E hr h=>?_)
 ·obtain⟨z,c,k,rfl,_⟩:=h
  rfl
 obtain⟨z,c,k,rfl,T,k8,q⟩:=h
 have zl:=T.ln
 have zf:z.length≤sizeLine:=Nat.le_trans (show z.length≤1600 by omega) (by decide)
 refine⟨_,(pss_cons (ps_set (i:=2) sc_law_bracket_out.nd rfl (by first | exact Or.inl rfl | exact Or.inr rfl) (pe_cal c__law_places (hr.mono (by decide)) rfl (pa_cons (pv 0) (pa_cons pe_str pa_nil))))
  (pss_cons (ps_if (pt_cmpR (op_eqL hr.units) (pv 2) (pe_lst pa_nil) (nomark _))
   (pss_one (ps_ret (pe_op op_add_str (pv 0) pe_str)))
   pss_nil)
  (pss_cons (ps_set (i:=3) sc_law_bracket_out.nd rfl (by first | exact Or.inl rfl | exact Or.inr rfl) (pe_ix ix_list (pv 2) (pe_op op_mod (pv 1) (pe_callB call_len_seq rfl z_len PySem.boot_len (pa_cons (pv 2) pa_nil))) (fun _ _=>rfl)))
  (pss_one (ps_ret (pe_op op_add_str (pe_slice sl_str (pv 0) po_none (po_some (pv 3))) (pe_slice sl_str (pv 0) (po_some (pe_op op_add (pv 3) pe_int)) po_none))))))),?_⟩
 walk_at "rdc"
 refine⟨z,_,rfl,by omega,fun l ds H1 hl s1 t1 mem nil dl=>?_⟩
 walk_at "rdc"
 refine⟨(by show 0≤sizeLine;decide),fun l2 h2=>?_⟩
 refine fresh h2 fun H2 s2 t2=>?_
 walk_at "rdc"
 refine rd_eqL (SqL.of (s2 _ _ t1)) (ms:=[]) (SqL.of t2) ?_
 walk_at "rdc"
 refine ite2d (fun _=>?_) (fun ne=>?_)
 ·walk_at "rdc"
  refine⟨_,_,rfl,rfl,Nat.le_trans (show _≤2000 by rw[z_cl];omega) (by decide),?_⟩
  exact q _ H2 (s1.trans s2) (T.cl k8)
 obtain⟨d,hd,ed⟩:=at_int75 (c:=c) ne
 obtain⟨d0,s,hs,hg⟩:=mem d hd
 have lp:0<ds.length:=List.length_pos_iff.mpr ne
 walk_at "rdc"
 refine⟨l,_,rfl,.inl (SqL.of (s2 _ _ t1)),?_⟩
 rw[List.length_map]
 refine rd_i (show (0:Int)<(ds.length:Int) by omega) ?_
 walk_at "rdc"
 refine rd_ixL (SqL.of (s2 _ _ t1)) ed ?_
 walk_at "rdc"
 refine⟨z,rfl,zf,?_⟩
 walk_at "rdc"
 have a1:=Txt.slice_le z none (some d)
 have a2:=Txt.slice_le z (some (d+1)) none
 refine⟨z,rfl,zf,?_⟩
 walk_at "rdc"
 refine⟨_,_,rfl,rfl,Nat.le_trans (show _≤5000 by omega) (by decide),?_⟩
 exact q _ H2 (s1.trans s2) (T.brk k8 d0 hs hg)
theorem sc_law_blank:FnScope ["_law_text_here","_law_cell","_law_put","_law_some","_law_at"] ["_law_text_here","_law_cell","_law_put"] (defScope s_law_blank):=⟨rfl,rfl,rfl,by decide +kernel,rfl,by decide +kernel,by decide +kernel⟩
theorem ok_law_blank{f:Addr}{fd:FuncData}(F:Fun K "_law_blank" "_law_blank" s_law_blank f fd)(c__law_places:Cal P w K mg base 1 "_law_places" ["_law_text_here","_law_signs"] spPlaces75)(z_len:mg "len"=none):FnOk P w K mg base CX0 2 f fd ["_law_text_here","_law_cell","_law_put"] spBlank75:=by
 refine F.ok (k:=1) sc_law_blank (fun vs H Q E h=>?_) (fun cdv A outer s H vs Q E hr h=>?_)
 ·obtain⟨z,p,c,k,rfl,_⟩:=h
  rfl
 obtain⟨z,p,c,k,rfl,T,k8,hp,q⟩:=h
 have zl:=T.ln
 have zf:z.length≤sizeLine:=Nat.le_trans (show z.length≤1600 by omega) (by decide)
 refine⟨_,(pss_cons (ps_set (i:=3) sc_law_blank.nd rfl (by first | exact Or.inl rfl | exact Or.inr rfl) (pe_cal c__law_places (hr.mono (by decide)) rfl (pa_cons (pv 0) (pa_cons pe_str pa_nil))))
  (pss_cons (ps_if (pt_cmpR (op_eqL hr.units) (pv 3) (pe_lst pa_nil) (nomark _))
   (pss_one (ps_ret (pe_op op_add_str (pv 0) pe_str)))
   pss_nil)
  (pss_cons (ps_set (i:=4) sc_law_blank.nd rfl (by first | exact Or.inl rfl | exact Or.inr rfl) (pe_ix ix_list (pv 3) (pe_op op_mod (pv 1) (pe_callB call_len_seq rfl z_len PySem.boot_len (pa_cons (pv 3) pa_nil))) (fun _ _=>rfl)))
  (pss_one (ps_ret (pe_op op_add_str (pe_op op_add_str (pe_slice sl_str (pv 0) po_none (po_some (pv 4))) (pv 2)) (pe_slice sl_str (pv 0) (po_some (pe_op op_add (pv 4) pe_int)) po_none))))))),?_⟩
 walk_at "rdc"
 refine⟨z,_,rfl,by omega,fun l ds H1 hl s1 t1 mem nil dl=>?_⟩
 walk_at "rdc"
 refine⟨(by show 0≤sizeLine;decide),fun l2 h2=>?_⟩
 refine fresh h2 fun H2 s2 t2=>?_
 walk_at "rdc"
 refine rd_eqL (SqL.of (s2 _ _ t1)) (ms:=[]) (SqL.of t2) ?_
 walk_at "rdc"
 refine ite2d (fun _=>?_) (fun ne=>?_)
 ·walk_at "rdc"
  refine⟨_,_,rfl,rfl,Nat.le_trans (show _≤2000 by rw[z_bl];omega) (by decide),?_⟩
  exact q _ H2 (s1.trans s2) (T.back k8)
 obtain⟨d,hd,ed⟩:=at_int75 (c:=c) ne
 obtain⟨d0,s,hs,hg⟩:=mem d hd
 have lp:0<ds.length:=List.length_pos_iff.mpr ne
 walk_at "rdc"
 refine⟨l,_,rfl,.inl (SqL.of (s2 _ _ t1)),?_⟩
 rw[List.length_map]
 refine rd_i (show (0:Int)<(ds.length:Int) by omega) ?_
 walk_at "rdc"
 refine rd_ixL (SqL.of (s2 _ _ t1)) ed ?_
 walk_at "rdc"
 refine⟨z,rfl,zf,?_⟩
 walk_at "rdc"
 have a1:=Txt.slice_le z none (some d)
 have a2:=Txt.slice_le z (some (d+1)) none
 refine⟨_,_,rfl,rfl,Nat.le_trans (show _≤5000 by rcases hp with rfl | rfl<;>simp only[z_b2,z_b0]<;>omega) (by decide),?_⟩
 walk_at "rdc"
 refine⟨z,rfl,zf,?_⟩
 walk_at "rdc"
 refine⟨_,_,rfl,rfl,Nat.le_trans (show _≤5000 by rw[ln_ap];rcases hp with rfl | rfl<;>simp only[z_b2,z_b0]<;>omega) (by decide),?_⟩
 exact q _ H2 (s1.trans s2) (T.bln k8 d0 hs hg hp)
theorem sc_law_sign_in:FnScope ["_law_text_here","_law_cell","_law_at","_law_some"] ["_law_text_here","_law_cell"] (defScope s_law_sign_in):=⟨rfl,rfl,rfl,by decide +kernel,rfl,by decide +kernel,by decide +kernel⟩
theorem ok_law_sign_in{f:Addr}{fd:FuncData}(F:Fun K "_law_sign_in" "_law_sign_in" s_law_sign_in f fd)(z_len:mg "len"=none):FnOk P w K mg base CX0 1 f fd ["_law_text_here","_law_cell"] spBrk75:=by
 refine F.ok (k:=0) sc_law_sign_in (fun vs H Q E h=>?_) (fun cdv A outer s H vs Q E hr h=>?_)
 ·obtain⟨z,c,k,rfl,_⟩:=h
  rfl
 obtain⟨z,c,k,rfl,T,k8,q⟩:=h
 have zl:=T.ln
 have zf:z.length≤sizeLine:=Nat.le_trans (show z.length≤1600 by omega) (by decide)
 refine⟨_,(pss_cons (ps_set (i:=2) sc_law_sign_in.nd rfl (by first | exact Or.inl rfl | exact Or.inr rfl) (pe_op op_mod (pe_op op_fdivB (pv 1) pe_int) (pe_op op_add (pe_callB call_len_str rfl z_len PySem.boot_len (pa_cons (pv 0) pa_nil)) pe_int)))
  (pss_cons (ps_set (i:=3) sc_law_sign_in.nd rfl (by first | exact Or.inl rfl | exact Or.inr rfl) pe_str)
  (pss_one (ps_ret (pe_op op_add_str (pe_op op_add_str (pe_slice sl_str (pv 0) po_none (po_some (pv 2))) (pe_ix ix_str (pv 3) (pe_op op_mod (pv 1) pe_int) (fun _ _=>rfl))) (pe_slice sl_str (pv 0) (po_some (pv 2)) po_none)))))),?_⟩
 walk_at "rdc"
 refine⟨z,rfl,zf,?_⟩
 walk_at "rdc"
 generalize c/40%((z.length:Int)+1)=d
 refine⟨z,rfl,zf,?_⟩
 walk_at "rdc"
 have m0:=Int.emod_nonneg c (show (39:Int)≠0 by decide)
 have m1:=Int.emod_lt_of_pos c (show (0:Int)<39 by decide)
 obtain⟨s,hs,es⟩:∃s∈cpl sgs,atI (cpl sgs) (c%39)=some s:=by
  have hk:(c%39).toNat<(cpl sgs).length:=by rw[sgs_len];omega
  refine⟨_,List.getElem_mem hk,?_⟩
  have:=atI_nat (xs:=cpl sgs) (j:=(c%39).toNat) (v:=(cpl sgs)[(c%39).toNat]) (List.getElem?_eq_getElem hk)
  rwa [show (((c%39).toNat:Nat):Int)=c%39 by omega] at this
 refine⟨sgs,_,s,rfl,rfl,(by decide +kernel),es,?_⟩
 have a:=Txt.slice_le z none (some d)
 have a':=Txt.slice_le z (some d) none
 have el:(⟨#[s]⟩:Str).length=1:=rfl
 refine⟨_,_,rfl,rfl,Nat.le_trans (show _≤2000 by rw[el];omega) (by decide),?_⟩
 walk_at "rdc"
 refine⟨z,rfl,zf,?_⟩
 walk_at "rdc"
 refine⟨_,_,rfl,rfl,Nat.le_trans (show _≤5000 by rw[ln_ap,el];omega) (by decide),?_⟩
 exact q _ H (Same.refl _) (T.sign k8 d hs)
theorem sc_law_spoiled:FnScope ["_law_text_here","_law_way","_law_cell"] ["_law_text_here","_law_way","_law_cell"] (defScope s_law_spoiled):=⟨rfl,rfl,rfl,by decide +kernel,rfl,by decide +kernel,by decide +kernel⟩
theorem ok_law_spoiled{f:Addr}{fd:FuncData}(F:Fun K "_law_spoiled" "_law_spoiled" s_law_spoiled f fd)(c__law_blank:Cal P w K mg base 2 "_law_blank" ["_law_text_here","_law_cell","_law_put"] spBlank75)(c__law_bracket_out:Cal P w K mg base 2 "_law_bracket_out" ["_law_text_here","_law_cell"] spBrk75)(c__law_sign_in:Cal P w K mg base 1 "_law_sign_in" ["_law_text_here","_law_cell"] spBrk75)(c__law_odd:Cal P w K mg base 1 "_law_odd" ["_law_cell"] spOdd75)(z_str:mg "str"=none):FnOk P w K mg base CX0 3 f fd ["_law_text_here","_law_way","_law_cell"] spSpoil75:=by
 refine F.ok (k:=2) sc_law_spoiled (fun vs H Q E h=>?_) (fun cdv A outer s H vs Q E hr h=>?_)
 ·obtain⟨z,w,c,k,rfl,_⟩:=h
  rfl
 obtain⟨z,w,c,k,rfl,T,k8,q⟩:=h
 have zl:=T.ln
 have zf:z.length≤sizeLine:=Nat.le_trans (show z.length≤1600 by omega) (by decide)
 have sz:∀m:Nat,m≤100000→m≤sizeLine:=fun m h=>Nat.le_trans h (by decide)
 have l0:(Str.ofString "(").length=1:=by decide +kernel
 have l1:(Str.ofString " ").length=1:=by decide +kernel
 have l2:(Str.ofString ")").length=1:=by decide +kernel
 have l3:(Str.ofString " and each 1 from ").length=17:=by decide +kernel
 have two:=Int.emod_two_eq c
 refine⟨_,(pss_cons (ps_if (pt_cmpR op_eq (pv 1) pe_int (nomark _))
  (pss_one (ps_ret (pe_cal c__law_blank (hr.mono (by decide)) rfl (pa_cons (pv 0) (pa_cons (pv 2) (pa_cons pe_str pa_nil))))))
  pss_nil)
  (pss_cons (ps_if (pt_cmpR op_eq (pv 1) pe_int (nomark _))
   (pss_one (ps_ret (pe_ix ix_list (pe_lst (pa_cons (pe_op op_add_str pe_str (pv 0)) (pa_cons (pe_op op_add_str (pv 0) pe_str) pa_nil))) (pe_op op_mod (pv 2) pe_int) (fun _ _=>rfl))))
   pss_nil)
  (pss_cons (ps_if (pt_cmpR op_eq (pv 1) pe_int (nomark _))
   (pss_one (ps_ret (pe_cal c__law_bracket_out (hr.mono (by decide)) rfl (pa_cons (pv 0) (pa_cons (pv 2) pa_nil)))))
   pss_nil)
  (pss_cons (ps_if (pt_cmpR op_eq (pv 1) pe_int (nomark _))
   (pss_one (ps_ret (pe_ix ix_list (pe_lst (pa_cons (pe_op op_add_str (pv 0) pe_str) (pa_cons (pe_op op_add_str pe_str (pv 0)) pa_nil))) (pe_op op_mod (pv 2) pe_int) (fun _ _=>rfl))))
   pss_nil)
  (pss_cons (ps_if (pt_cmpR op_eq (pv 1) pe_int (nomark _))
   (pss_one (ps_ret (pe_op op_add_str (pe_op op_add_str pe_str (pv 0)) pe_str)))
   pss_nil)
  (pss_cons (ps_if (pt_cmpR op_eq (pv 1) pe_int (nomark _))
   (pss_one (ps_ret (pe_op op_add_str (pv 0) (pe_ix ix_list (pe_lst (pa_cons pe_str (pa_cons pe_str (pa_cons pe_str (pa_cons pe_str pa_nil))))) (pe_op op_mod (pv 2) pe_int) (fun _ _=>rfl)))))
   pss_nil)
  (pss_cons (ps_if (pt_cmpR op_eq (pv 1) pe_int (nomark _))
   (pss_one (ps_ret (pe_cal c__law_sign_in (hr.mono (by decide)) rfl (pa_cons (pv 0) (pa_cons (pv 2) pa_nil)))))
   pss_nil)
  (pss_cons (ps_if (pt_cmpR op_eq (pv 1) pe_int (nomark _))
   (pss_one (ps_ret (pe_cal c__law_blank (hr.mono (by decide)) rfl (pa_cons (pv 0) (pa_cons (pv 2) (pa_cons pe_str pa_nil))))))
   pss_nil)
  (pss_cons (ps_if (pt_cmpR op_eq (pv 1) pe_int (nomark _))
   (pss_one (ps_ret (pe_op op_add_str (pe_op op_add_str (pe_op op_add_str (pe_op op_add_str pe_str (pv 0)) pe_str) (pe_callTy call_str_int rfl z_str PyProof.Rows.boot_str (pa_cons (pe_op op_add (pe_op op_pow pe_int pe_int) (pe_op op_mod (pv 2) (pe_op op_pow pe_int pe_int))) pa_nil))) pe_str)))
   pss_nil)
  (pss_one (ps_ret (pe_cal c__law_odd (hr.mono (by decide)) rfl (pa_cons (pv 2) pa_nil))))))))))))),?_⟩
 walk_at "rdc"
 refine ite2d (fun _=>?_) (fun _=>?_)
 ·walk_at "rdc"
  exact⟨z,_,c,k,rfl,T,k8,.inl rfl,q⟩
 walk_at "rdc"
 refine ite2d (fun _=>?_) (fun _=>?_)
 ·walk_at "rdc"
  refine⟨_,_,rfl,rfl,sz _ (by rw[l1];omega),?_⟩
  walk_at "rdc"
  refine⟨_,_,rfl,rfl,sz _ (by rw[l1];omega),?_⟩
  walk_at "rdc"
  refine⟨(by show 2≤sizeLine;decide),fun l hl=>?_⟩
  refine fresh hl fun H1 s1 t1=>?_
  walk_at "rdc"
  rcases two with e | e
  ·rw[e]
   refine rd_ixL (SqL.of t1) rfl ?_
   exact q _ H1 s1 (T.front k8)
  ·rw[e]
   refine rd_ixL (SqL.of t1) rfl ?_
   exact q _ H1 s1 (T.back k8)
 walk_at "rdc"
 refine ite2d (fun _=>?_) (fun _=>?_)
 ·walk_at "rdc"
  exact⟨z,c,k,rfl,T,k8,q⟩
 walk_at "rdc"
 refine ite2d (fun _=>?_) (fun _=>?_)
 ·walk_at "rdc"
  refine⟨_,_,rfl,rfl,sz _ (by rw[l2];omega),?_⟩
  walk_at "rdc"
  refine⟨_,_,rfl,rfl,sz _ (by rw[l0];omega),?_⟩
  walk_at "rdc"
  refine⟨(by show 2≤sizeLine;decide),fun l hl=>?_⟩
  refine fresh hl fun H1 s1 t1=>?_
  walk_at "rdc"
  rcases two with e | e
  ·rw[e]
   refine rd_ixL (SqL.of t1) rfl ?_
   exact q _ H1 s1 (T.cl k8)
  ·rw[e]
   refine rd_ixL (SqL.of t1) rfl ?_
   exact q _ H1 s1 (T.op k8)
 walk_at "rdc"
 refine ite2d (fun _=>?_) (fun _=>?_)
 ·walk_at "rdc"
  refine⟨_,_,rfl,rfl,sz _ (by rw[l0];omega),?_⟩
  walk_at "rdc"
  refine⟨_,_,rfl,rfl,sz _ (by rw[ln_ap,l0,l2];omega),?_⟩
  exact q _ H (Same.refl _) (T.wrap k8)
 walk_at "rdc"
 refine ite2d (fun _=>?_) (fun _=>?_)
 ·walk_at "rdc"
  refine⟨(by show 4≤sizeLine;decide),fun l hl=>?_⟩
  refine fresh hl fun H1 s1 t1=>?_
  walk_at "rdc"
  have m0:=Int.emod_nonneg c (show (4:Int)≠0 by decide)
  have m1:=Int.emod_lt_of_pos c (show (0:Int)<4 by decide)
  obtain⟨t,ht,et⟩:=at_strs75 (ss:=[Str.ofString " and all",Str.ofString " all",Str.ofString " each 2 from 1 1",Str.ofString "all"]) m0 m1
  have tl:t.length≤100:=(show ∀t∈([Str.ofString " and all",Str.ofString " all",Str.ofString " each 2 from 1 1",Str.ofString "all"]:List Str),t.length≤100 by decide +kernel) t ht
  refine rd_ixL (SqL.of t1) et ?_
  refine⟨_,_,rfl,rfl,sz _ (by omega),?_⟩
  exact q _ H1 s1 (T.tail k8 ht)
 walk_at "rdc"
 refine ite2d (fun _=>?_) (fun _=>?_)
 ·walk_at "rdc"
  exact⟨z,c,k,rfl,T,k8,q⟩
 walk_at "rdc"
 refine ite2d (fun _=>?_) (fun _=>?_)
 ·walk_at "rdc"
  exact⟨z,_,c,k,rfl,T,k8,.inr rfl,q⟩
 walk_at "rdc"
 refine ite2d (fun _=>?_) (fun _=>?_)
 ·obtain⟨m,em,ml,md,lg⟩:=big75 c
  walk_at "rdc"
  refine⟨_,_,rfl,rfl,sz _ (by rw[l0];omega),?_⟩
  walk_at "rdc"
  refine⟨_,_,rfl,rfl,sz _ (by rw[ln_ap,l0,l3];omega),?_⟩
  walk_at "rdc"
  refine⟨_,rfl,lg,?_⟩
  rw[show Str.ofString (toString (10^(60:Int).toNat+c%10^(60:Int).toNat:Int))=sW m from em]
  refine⟨_,_,rfl,rfl,sz _ (by rw[ln_ap,ln_ap,l0,l3,sW_len];omega),?_⟩
  walk_at "rdc"
  refine⟨_,_,rfl,rfl,sz _ (by rw[ln_ap,ln_ap,ln_ap,l0,l3,l2,sW_len];omega),?_⟩
  exact q _ H (Same.refl _) (T.big k8 ml md)
 walk_at "rdc"
 exact⟨c,rfl,q⟩
theorem sc_law_deep:FnScope ["_law_many","_law_text_here","_law_k"] ["_law_many"] (defScope s_law_deep):=⟨rfl,rfl,rfl,by decide +kernel,rfl,by decide +kernel,by decide +kernel⟩
theorem ok_law_deep{f:Addr}{fd:FuncData}(F:Fun K "_law_deep" "_law_deep" s_law_deep f fd)(z_range:mg "range"=none):FnOk P w K mg base CX0 1 f fd ["_law_many"] spDeep75:=by
 refine F.ok (k:=0) sc_law_deep (fun vs H Q E h=>?_) (fun cdv A outer s H vs Q E hr h=>?_)
 ·obtain⟨n,rfl,_⟩:=h
  rfl
 obtain⟨n,rfl,n1,q⟩:=h
 refine⟨_,(pss_cons (ps_set (i:=1) sc_law_deep.nd rfl (by first | exact Or.inl rfl | exact Or.inr rfl) pe_str)
  (pss_cons (ps_for PassesOwn.never rfl (pi_range1 rfl z_range (pa_cons (pv 0) pa_nil)) (pg_name (i:=2) sc_law_deep.nd rfl (by first | exact Or.inl rfl | exact Or.inr rfl))
   (pss_one (ps_set (i:=1) sc_law_deep.nd rfl (by first | exact Or.inl rfl | exact Or.inr rfl) (pe_op op_add_str (pe_op op_add_str pe_str (pv 1)) pe_str))))
  (pss_one (ps_ret (pv 1))))),?_⟩
 walk_at "rdc"
 walk_at "rdf"
 walk_at "rdc"
 refine⟨(n:Int),rfl,by omega,by omega,for_range (fun i σ' H'=>H'=H∧∃v,σ'=[some (.int (n:Int)),some (.str (sW (deepT i))),v]) ⟨rfl,none,by rw[sk_all];rfl⟩ ?_ ?_⟩
 ·rintro i σ' H' hi ⟨rfl,v,rfl⟩
  have hi:i<n:=hi
  have dl:∀j,(deepT j).length=3+6*j:=fun j=>by
   induction j with
   | zero=>rfl
   | succ j ih=>
    show(40::kNot++32::deepT j++[41]).length=_
    simp only[List.length_append,List.length_cons,List.length_nil,ih,show kNot.length=3 from rfl]
    omega
  have l1:(Str.ofString "(not ").length=5:=by decide +kernel
  have l2:(Str.ofString ")").length=1:=by decide +kernel
  have sz:∀m:Nat,m≤100000→m≤sizeLine:=fun m h=>Nat.le_trans h (by decide)
  walk_at "rdc"
  refine⟨_,_,rfl,rfl,sz _ (by rw[l1,sW_len,dl];omega),?_⟩
  walk_at "rdc"
  refine⟨_,_,rfl,rfl,sz _ (by rw[ln_ap,l1,l2,sW_len,dl];omega),?_⟩
  walk_at "rdc"
  have e:Str.ofString "(not "++sW (deepT i)++Str.ofString ")"=sW (deepT (i+1)):=str_ext (by rw[cpl_ap,cpl_ap,cpl_sW,cpl_sW,c_x3,c_x2];rfl)
  rw[e]
  exact⟨rfl,_,rfl⟩
 ·rintro σ' H' ⟨rfl,v,rfl⟩
  walk_at "rdc"
  exact q _ (Same.refl _)
theorem sc_law_long:FnScope ["_law_figures","_law_text_here","_law_grown","_law_rows","_law_k"] ["_law_figures"] (defScope s_law_long):=⟨rfl,rfl,rfl,by decide +kernel,rfl,by decide +kernel,by decide +kernel⟩
theorem ok_law_long{f:Addr}{fd:FuncData}(F:Fun K "_law_long" "_law_long" s_law_long f fd)(z_str:mg "str"=none)(z_range:mg "range"=none):FnOk P w K mg base CX0 1 f fd ["_law_figures"] spLong75:=by
 refine F.ok (k:=0) sc_law_long (fun vs H Q E h=>?_) (fun cdv A outer s H vs Q E hr h=>?_)
 ·obtain⟨b,rfl,_⟩:=h
  rfl
 obtain⟨b,rfl,q⟩:=h
 have sz:∀m:Nat,m≤100000→m≤sizeLine:=fun m h=>Nat.le_trans h (by decide)
 have l0:(Str.ofString "(").length=1:=z_op
 have l2:(Str.ofString ")").length=1:=z_cl
 have l8:(Str.ofString " or ").length=4:=by decide +kernel
 have l9:(Str.ofString "each 1 from ").length=12:=by decide +kernel
 refine⟨_,(pss_cons (ps_set (i:=1) sc_law_long.nd rfl (by first | exact Or.inl rfl | exact Or.inr rfl) (pe_op op_add_str pe_str (pe_callTy call_str_int rfl z_str PyProof.Rows.boot_str (pa_cons (pe_op op_add (pe_op op_pow pe_int pe_int) pe_int) pa_nil))))
  (pss_cons (ps_cut (ps_if (pt_cmpR op_eq (pv 0) pe_int (nomark _))
   (pss_one (ps_set (i:=1) sc_law_long.nd rfl (by first | exact Or.inl rfl | exact Or.inr rfl) (pe_op op_add_str (pv 1) pe_str)))
   pss_nil))
  (pss_cons (ps_set (i:=2) sc_law_long.nd rfl (by first | exact Or.inl rfl | exact Or.inr rfl) pe_str)
  (pss_cons (ps_set (i:=3) sc_law_long.nd rfl (by first | exact Or.inl rfl | exact Or.inr rfl) (pe_lst (pa_cons (pv 2) pa_nil)))
  (pss_cons (ps_for PassesOwn.never rfl (pi_range1 rfl z_range (pa_cons pe_int pa_nil)) (pg_name (i:=4) sc_law_long.nd rfl (by first | exact Or.inl rfl | exact Or.inr rfl))
   (pss_cons (ps_set (i:=2) sc_law_long.nd rfl (by first | exact Or.inl rfl | exact Or.inr rfl) (pe_op op_add_str (pe_op op_add_str (pe_op op_add_str (pe_op op_add_str pe_str (pv 2)) pe_str) (pv 2)) pe_str))
  (pss_one (ps_expr (pe_bm PySem.F.plainAttrs_list PySem.F.slot_list_append PySem.F.type_list_append mt_append (pv 3) (pa_cons (pv 2) pa_nil))))))
  (pss_cons (ps_for PassesOwn.never rfl (pi_list (pe_lst (pa_cons pe_int (pa_cons pe_int (pa_cons pe_int (pa_cons pe_int (pa_cons pe_int pa_nil))))))) (pg_name (i:=4) sc_law_long.nd rfl (by first | exact Or.inl rfl | exact Or.inr rfl))
   (pss_one (ps_set (i:=1) sc_law_long.nd rfl (by first | exact Or.inl rfl | exact Or.inr rfl) (pe_op op_add_str (pe_op op_add_str (pe_op op_add_str (pe_op op_add_str pe_str (pe_ix ix_list (pv 3) (pv 4) (fun _ _=>rfl))) pe_str) (pv 1)) pe_str))))
  (pss_one (ps_ret (pv 1))))))))),?_⟩
 walk_at "rdc"
 refine⟨_,rfl,(by decide),?_⟩
 rw[show Str.ofString (toString (10^(27:Int).toNat+7:Int))=sW n28 from n28T]
 refine⟨_,_,rfl,rfl,sz _ (by rw[l9,sW_len];decide),?_⟩
 walk_at "rdc"
 refine rd_cut (fun σ' H'=>H=H'∧σ'=[some (.int (lgI b)),some (.str (sW (lgJ b))),none,none,none]) ?_ ?_
 ·walk_at "rdc"
  cases b with
  | true=>
   refine iteD rfl ?_
   walk_at "rdc"
   refine⟨_,_,rfl,rfl,sz _ (by decide +kernel),?_⟩
   walk_at "rdc"
   rw[lgJ_t]
   exact⟨rfl,rfl⟩
  | false=>
   refine iteN (by decide) ?_
   walk_at "rdc"
   rw[lgJ_f]
   exact⟨rfl,rfl⟩
 rintro σ' H' ⟨rfl,rfl⟩
 walk_at "rdc"
 refine⟨(by show 1≤sizeLine;decide),fun l hl=>?_⟩
 refine fresh hl fun H1 s1 t1=>?_
 walk_at "rdc"
 walk_at "rdf"
 walk_at "rdc"
 refine⟨8,rfl,by omega,by omega,for_range (fun i σ' H'=>Same H H'∧H' l=some (.lst ((List.range (i+1)).map fun j=>V.str (sW (grT j))))∧∃v,σ'=[some (.int (lgI b)),some (.str (sW (lgJ b))),some (.str (sW (grT i))),some (.ref l),v]) ⟨s1,(by rw[sk_all] at t1;exact t1),none,by rw[sk_all];rfl⟩ ?_ ?_⟩
 ·rintro i σ' H' hi ⟨sH,tH,v,rfl⟩
  have hi:i<8:=hi
  have gl:=gr_le (i:=i) (by omega)
  walk_at "rdc"
  refine⟨_,_,rfl,rfl,sz _ (by rw[l0,sW_len];omega),?_⟩
  walk_at "rdc"
  refine⟨_,_,rfl,rfl,sz _ (by rw[ln_ap,l0,l8,sW_len];omega),?_⟩
  walk_at "rdc"
  refine⟨_,_,rfl,rfl,sz _ (by rw[ln_ap,ln_ap,l0,l8,sW_len];omega),?_⟩
  walk_at "rdc"
  refine⟨_,_,rfl,rfl,sz _ (by rw[ln_ap,ln_ap,ln_ap,l0,l8,l2,sW_len];omega),?_⟩
  walk_at "rdc"
  rw[show Str.ofString "("++sW (grT i)++Str.ofString " or "++sW (grT i)++Str.ofString ")"=sW (grT (i+1)) from str_ext (by simp only[cpl_ap,cpl_sW,c_x0,c_x8,c_x2];simp[grT,kOr])]
  refine rd_append rfl tH ?_
  walk_at "rdc"
  refine rd_app tH (sz _ (by rw[List.length_map,List.length_range];omega)) ?_
  refine putL75 hl sH fun K1 k1 u1=>?_
  walk_at "rdc"
  exact⟨k1,by rw[List.range_succ,List.map_append];exact u1,_,rfl⟩
 ·rintro σ' H2 ⟨s2,t2,v,rfl⟩
  walk_at "rdc"
  walk_at "rdf"
  walk_at "rdc"
  refine⟨(by show 5≤sizeLine;decide),fun m hm=>?_⟩
  refine fresh hm fun H3 s3 t3=>?_
  have t3:H3 m=some (.lst (([3,4,5,7,8]:List Nat).map fun k:Nat=>V.int (k:Int))):=t3
  refine⟨m,rfl,⟨_,SqL.of t3⟩,for_list (xs:=([3,4,5,7,8]:List Nat).map fun k:Nat=>V.int (k:Int)) (fun i σ' H'=>H3=H'∧∃v,((([3,4,5,7,8]:List Nat).take i).foldl lgF (lgJ b)).length≤41+2310*i∧i≤5∧σ'=[some (.int (lgI b)),some (.str (sW ((([3,4,5,7,8]:List Nat).take i).foldl lgF (lgJ b)))),some (.str (sW (grT 8))),some (.ref l),v]) ⟨rfl,v,lgJ_l b,by decide,rfl⟩ (fun i σ' H' _ ⟨e,_⟩=>by rw[←e];exact SqL.of t3) ?_ ?_⟩
  ·rintro i x σ' H' hx ⟨rfl,v,tl,i5,rfl⟩
   rw[List.getElem?_map] at hx
   obtain⟨k,hk,rfl⟩:=Option.map_eq_some_iff.mp hx
   have k8:k≤8:=(show ∀k∈([3,4,5,7,8]:List Nat),k≤8 by decide) k (List.mem_of_getElem? hk)
   have il:i<5:=(List.getElem?_eq_some_iff.mp hk).1
   have gl:=gr_le k8
   have et:((([3,4,5,7,8]:List Nat).take (i+1)).foldl lgF (lgJ b))=lgF ((([3,4,5,7,8]:List Nat).take i).foldl lgF (lgJ b)) k:=by
    rw[List.take_succ,hk,List.foldl_append]
    rfl
   generalize (([3,4,5,7,8]:List Nat).take i).foldl lgF (lgJ b)=t at tl et
   have ll:(lgF t k).length=(grT k).length+t.length+6:=by
    unfold lgF
    simp only[List.length_append,List.length_cons,List.length_nil,show kOr.length=2 from rfl]
    omega
   walk_at "rdc"
   refine rd_ixL (SqL.of (s3 _ _ t2)) (gr_at k8) ?_
   refine⟨_,_,rfl,rfl,sz _ (by rw[l0,sW_len];omega),?_⟩
   walk_at "rdc"
   refine⟨_,_,rfl,rfl,sz _ (by rw[ln_ap,l0,l8,sW_len];omega),?_⟩
   walk_at "rdc"
   refine⟨_,_,rfl,rfl,sz _ (by rw[ln_ap,ln_ap,l0,l8,sW_len,sW_len];omega),?_⟩
   walk_at "rdc"
   refine⟨_,_,rfl,rfl,sz _ (by rw[ln_ap,ln_ap,ln_ap,l0,l8,l2,sW_len,sW_len];omega),?_⟩
   walk_at "rdc"
   rw[show Str.ofString "("++sW (grT k)++Str.ofString " or "++sW t++Str.ofString ")"=sW (lgF t k) from str_ext (by simp only[cpl_ap,cpl_sW,c_x0,c_x8,c_x2];simp[lgF,kOr])]
   refine⟨rfl,some (.int (k:Int)),?_,by omega,?_⟩
   ·rw[et,ll]
    omega
   ·rw[et]
    rfl
  ·rintro σ' H' ⟨rfl,v,_,_,rfl⟩
   walk_at "rdc"
   exact q _ (s2.trans s3)
theorem sc_law_told:FnScope ["_law_text_here","_law_calendars","_law_word","_law_fits","e"] ["_law_text_here","_law_calendars"] (defScope s_law_told):=⟨rfl,rfl,rfl,by decide +kernel,rfl,by decide +kernel,by decide +kernel⟩
theorem ok_law_told{f:Addr}{fd:FuncData}(F:Fun K "_law_told" "_law_told" s_law_told f fd)(er:Errs K mg c_FeastError c_NoNumber c_TooLong c_NoMeasure c_NoRule c_NoName c_Rule c_All c_No c_Each c_Dated c_Not c_Both c_Either c_But c_Unlike c_Later c_Upon c_Until c_Near c_Till c_Kth c_Every c_Reader c_Measure c_Calendar c_Sun)(c_read_rule:CalE P w K mg base 132 "read_rule" ["text","calendars"] (spRead75 c_NoRule))(z_isinstance:mg "isinstance"=none):FnOk P w K mg base CX0 133 f fd ["_law_text_here","_law_calendars"] spTold75:=by
 refine F.ok (k:=132) sc_law_told (fun vs H Q E h=>?_) (fun cdv A outer s H vs Q E hr h=>?_)
 ·obtain⟨v,vc,rfl,_⟩:=h
  rfl
 obtain⟨v,vc,rfl,hv,hc,q,qe⟩:=h
 refine⟨_,(pss_cons (ps_set (i:=2) sc_law_told.nd rfl (by first | exact Or.inl rfl | exact Or.inr rfl) pe_str)
  (pss_cons (ps_set (i:=3) sc_law_told.nd rfl (by first | exact Or.inl rfl | exact Or.inr rfl) pe_bl)
  (pss_cons (ps_cut (ps_try rfl rfl (fun _ _ _ T=>(pss_one (ps_expr (pe_calE T c_read_rule (hr.mono (by decide)) rfl (pa_cons (pv 0) (pa_cons (pv 1) pa_nil))))))
   (phs_consA (i:=4) er.h_NoRule rfl sc_law_told.nd rfl rfl (fun _=>(pss_cons (ps_set (i:=2) sc_law_told.nd rfl (by first | exact Or.inl rfl | exact Or.inr rfl) pe_str)
  (pss_one (ps_set (i:=3) sc_law_told.nd rfl (by first | exact Or.inl rfl | exact Or.inr rfl) (pe_and (pe_callB call_isiX rfl z_isinstance PyProof.Rows.boot_isinstance (pa_cons (pv 4) (pa_cons (pe_glob rfl er.m_FeastError (rel_ref _)) pa_nil))) (pe_one (pe_not (pe_callB call_isiX rfl z_isinstance PyProof.Rows.boot_isinstance (pa_cons (pv 4) (pa_cons (pe_glob rfl er.m_NoName (rel_ref _)) pa_nil))))))))))
   phs_nil)))
  (pss_one (ps_ret (pe_and (pv 3) (pe_one (pe_cmpR op_eq (pv 2) pe_str (nomark _))))))))),?_⟩
 walk_at "rdx"
 refine rd_cut (fun σ' H'=>Same H H'∧∃b:Bool,(b=true→∀z,v=.str z→okR (cpl z)=false)∧(b=false→∃z,v=.str z∧okR (cpl z)=true)∧σ'=[some v,some vc,some (.str (if b then Str.ofString "no rule" else Str.ofString "read")),some (.bl true),none]) ?_ ?_
 ·walk_at "rdx"
  refine⟨v,vc,rfl,hv,hc,fun z ez hz x H1 s1=>?_,fun hn H1 s1=>?_⟩
  ·walk_at "rdx"
   exact⟨s1,false,(fun z=>nomatch z),fun _=>⟨z,ez,hz⟩,rfl⟩
  ·intro ea hea
   refine rd_handA er.r_NoRule_NoRule ?_
   refine fresh hea fun H2 s2 t2=>?_
   walk_at "rdx"
   refine rd_isiX t2 trivial er.g_NoRule rfl er.i_NoRule_FeastError ?_
   walk_at "rdx"
   refine iteT ?_
   walk_at "rdx"
   refine rd_isiX t2 trivial er.g_NoRule rfl er.i_NoRule_NoName ?_
   walk_at "rdx"
   exact⟨s1.trans s2,true,fun _=>hn,(fun z=>nomatch z),rfl⟩
 rintro σ' H1 ⟨s1,b,h1,h2,rfl⟩
 walk_at "rdx"
 refine iteT ?_
 walk_at "rdx"
 cases b with
 | true=>
  rw[decide_eq_true (by rfl)]
  exact qe (h1 rfl) H1 s1
 | false=>
  rw[decide_eq_false (by decide +kernel)]
  obtain⟨z,e,hz⟩:=h2 rfl
  exact q z e hz H1 s1
theorem sc_law:FnScope ["_law_script","_law_way","_law_cell","_law_calendars","_law_text_here"] ["_law_script"] (defScope s_law):=⟨rfl,rfl,rfl,by decide +kernel,rfl,by decide +kernel,by decide +kernel⟩
theorem ok_law{f:Addr}{fd:FuncData}(F:Fun K "law" "law" s_law f fd)(er:Errs K mg c_FeastError c_NoNumber c_TooLong c_NoMeasure c_NoRule c_NoName c_Rule c_All c_No c_Each c_Dated c_Not c_Both c_Either c_But c_Unlike c_Later c_Upon c_Until c_Near c_Till c_Kth c_Every c_Reader c_Measure c_Calendar c_Sun)(c__law_cell_at:Cal P w K mg base 1 "_law_cell_at" ["_law_script","_law_k"] (spCell K))(c_Sun___init___d2:CalID P w K mg base CX0 7 "Sun" c_Sun ["self","start","lengths","leap","terms"] [(.int 1),.non] (spInitS7 c_Sun c_Measure))(c__law_long:Cal P w K mg base 1 "_law_long" ["_law_figures"] spLong75)(c__law_told:Cal P w K mg base 133 "_law_told" ["_law_text_here","_law_calendars"] spTold75)(c__law_deep:Cal P w K mg base 1 "_law_deep" ["_law_many"] spDeep75)(c__law_spoiled:Cal P w K mg base 3 "_law_spoiled" ["_law_text_here","_law_way","_law_cell"] spSpoil75)(c__law_text:Cal P w K mg base 3 "_law_text" ["_law_script"] (spText75 K))(z_len:mg "len"=none):FnOk P w K mg base CX0 134 f fd ["_law_script"] (spLaw K):=by
 refine F.ok (k:=133) sc_law (fun vs H Q E h=>?_) (fun cdv A outer s H vs Q E hr h=>?_)
 ·obtain⟨a,ns,rfl,_⟩:=h
  rfl
 obtain⟨a,ns,rfl,hS,h63,hB,q⟩:=h
 refine⟨_,(pss_cons (ps_set (i:=1) sc_law.nd rfl (by first | exact Or.inl rfl | exact Or.inr rfl) (pe_op op_mod (pe_cal c__law_cell_at (hr.mono (by decide)) rfl (pa_cons (pv 0) (pa_cons pe_int pa_nil))) pe_int))
  (pss_cons (ps_set (i:=2) sc_law.nd rfl (by first | exact Or.inl rfl | exact Or.inr rfl) (pe_cal c__law_cell_at (hr.mono (by decide)) rfl (pa_cons (pv 0) (pa_cons pe_int pa_nil))))
  (pss_cons (ps_set (i:=3) sc_law.nd rfl (by first | exact Or.inl rfl | exact Or.inr rfl) pe_dnewK)
  (pss_cons (ps_cut (ps_if (pt_cmpR op_eq (pe_op op_mod (pe_cal c__law_cell_at (hr.mono (by decide)) rfl (pa_cons (pv 0) (pa_cons pe_int pa_nil))) pe_int) pe_int (nomark _))
   (pss_one (ps_dput (Nat.lt_of_le_of_lt (Nat.add_le_add_left (by decide:1≤64) _) hr.units) (pv 3) pe_str (pe_mkD c_Sun___init___d2 (hr.mono (by decide)) rfl (pa_cons pe_int (pa_cons (pe_lst (pa_cons pe_int pa_nil)) pa_nil))) rfl))
   pss_nil))
  (pss_cons (ps_if (pt_cmpR op_eq (pv 1) pe_int (nomark _))
   (pss_cons (ps_set (i:=4) sc_law.nd rfl (by first | exact Or.inl rfl | exact Or.inr rfl) (pe_cal c__law_long (hr.mono (by decide)) rfl (pa_cons pe_int pa_nil)))
  (pss_one (ps_ret (pe_and (pe_cmpR op_eq (pe_callB call_len_str rfl z_len PySem.boot_len (pa_cons (pv 4) pa_nil)) pe_int (nomark _)) (pe_and (pe_cal c__law_told (hr.mono (by decide)) rfl (pa_cons (pv 4) (pa_cons (pv 3) pa_nil))) (pe_one (pe_not (pe_cal c__law_told (hr.mono (by decide)) rfl (pa_cons (pe_cal c__law_long (hr.mono (by decide)) rfl (pa_cons pe_int pa_nil)) (pa_cons (pv 3) pa_nil))))))))))
   pss_nil)
  (pss_cons (ps_if (pt_cmpR op_eq (pv 1) pe_int (nomark _))
   (pss_one (ps_ret (pe_and (pe_cal c__law_told (hr.mono (by decide)) rfl (pa_cons (pe_cal c__law_deep (hr.mono (by decide)) rfl (pa_cons pe_int pa_nil)) (pa_cons (pv 3) pa_nil))) (pe_one (pe_not (pe_cal c__law_told (hr.mono (by decide)) rfl (pa_cons (pe_cal c__law_deep (hr.mono (by decide)) rfl (pa_cons pe_int pa_nil)) (pa_cons (pv 3) pa_nil))))))))
   pss_nil)
  (pss_cons (ps_if (pt_cmpR op_eq (pv 1) pe_int (nomark _))
   (pss_one (ps_ret (pe_cal c__law_told (hr.mono (by decide)) rfl (pa_cons (pe_ix ix_list (pe_lst (pa_cons pe_non (pa_cons (pv 2) (pa_cons (pe_lst pa_nil) (pa_cons (pe_tup (pa_cons pe_str (pa_cons pe_str pa_nil))) pa_nil))))) (pe_op op_mod (pv 2) pe_int) (fun _ _=>rfl)) (pa_cons (pv 3) pa_nil)))))
   pss_nil)
  (pss_one (ps_ret (pe_cal c__law_told (hr.mono (by decide)) rfl (pa_cons (pe_cal c__law_spoiled (hr.mono (by decide)) rfl (pa_cons (pe_cal c__law_text (hr.mono (by decide)) rfl (pa_cons (pv 0) pa_nil)) (pa_cons (pv 1) (pa_cons (pv 2) pa_nil)))) (pa_cons (pv 3) pa_nil)))))))))))),?_⟩
 walk_at "rdc"
 generalize ns.getD (Int.toNat 0) 0=c0
 generalize ns.getD (Int.toNat 3) 0=c3
 unfold tDNewK
 intro d hd
 refine fresh hd fun H1 s1 t1=>?_
 have hS1:=s1.seq hS
 walk_at "rdc"
 refine rd_cut (fun σ' H'=>Same H H'∧σ'=[some (.ref a),some (.int (c0%16)),some (.int c3),some (.ref d),none]) ?_ ?_
 ·walk_at "rdc"
  refine ite2d (fun _=>?_) (fun _=>?_)
  ·walk_at "rdc"
   unfold sDPut
   walk_at "rdc"
   refine⟨(by show 1≤sizeLine;decide),fun l hl=>?_⟩
   refine fresh hl fun H3 s3 t3=>?_
   walk_at "rdc"
   refine fun y dy hy hdy ne=>⟨y,dy,l,0,5,rfl,upd_same,mk_same75 hy hdy ne _ _ t3,by omega,by omega,fun H5 k5 S5=>⟨rfl,?_⟩⟩
   have s5:=s3.trans (made_same hy hdy ne k5)
   walk_at "rdc"
   refine⟨d,_,rfl,.inl ⟨[],_,s5 _ _ t1,(show V.str (Str.ofString "sun")=kV (.inr (Str.ofString "sun")) from rfl),by decide,rfl⟩,?_⟩
   exact⟨same_app hd (s1.trans s5),rfl⟩
  ·walk_at "rdc"
   exact⟨s1,rfl⟩
 rintro σ' H2 ⟨s2,rfl⟩
 have w0:=Int.emod_nonneg c0 (show (16:Int)≠0 by decide)
 generalize c0%16=w at w0 ⊢
 walk_at "rdc"
 refine ite2d (fun _=>?_) (fun n14=>?_)
 ·walk_at "rdc"
  refine⟨true,rfl,fun H3 s3=>?_⟩
  have ll:(sW (lgT (lgN true))).length=4001:=by rw[sW_len];exact len29
  walk_at "rdc"
  refine⟨_,rfl,(by rw[ll];decide),?_⟩
  rw[ll]
  walk_at "rdc"
  refine iteT ?_
  walk_at "rdc"
  refine told_no no29 fun H4 s4=>?_
  walk_at "rdc"
  refine iteT ?_
  walk_at "rdc"
  refine⟨false,rfl,fun H5 s5=>?_⟩
  walk_at "rdc"
  refine told_ok ok28 (by rw[cpl_sW];exact long28R) fun H6 s6=>?_
  walk_at "rdc"
  exact q _
 walk_at "rdc"
 refine ite2d (fun _=>?_) (fun n15=>?_)
 ·walk_at "rdc"
  refine⟨41,rfl,by decide,fun H3 s3=>?_⟩
  walk_at "rdc"
  refine told_no no41 fun H4 s4=>?_
  walk_at "rdc"
  refine iteT ?_
  walk_at "rdc"
  refine⟨40,rfl,by decide,fun H5 s5=>?_⟩
  walk_at "rdc"
  refine told_ok ok40 (by rw[cpl_sW];exact deep40R) fun H6 s6=>?_
  walk_at "rdc"
  exact q _
 walk_at "rdc"
 refine ite2d (fun _=>?_) (fun n13=>?_)
 ·walk_at "rdc"
  refine⟨(by show 0≤sizeLine;decide),fun l1 h1=>?_⟩
  refine fresh h1 fun H3 s3 t3=>?_
  walk_at "rdc"
  refine⟨(by show 2≤sizeLine;decide),fun l2 h2=>?_⟩
  refine fresh h2 fun H4 s4 t4=>?_
  walk_at "rdc"
  refine⟨(by show 4≤sizeLine;decide),fun l5 h5=>?_⟩
  refine fresh h5 fun H5 s5 t5=>?_
  walk_at "rdc"
  have m0:=Int.emod_nonneg c3 (show (4:Int)≠0 by decide)
  have m1:=Int.emod_lt_of_pos c3 (show (0:Int)<4 by decide)
  have fin:∀H',Same H5 H'→Q (.bl true) H':=fun H' _=>q _
  obtain e | e | e | e:c3%4=0∨c3%4=1∨c3%4=2∨c3%4=3:=by omega
  ·rw[e]
   refine rd_ixL (SqL.of t5) rfl ?_
   walk_at "rdc"
   exact told_non .non rfl fin
  ·rw[e]
   refine rd_ixL (SqL.of t5) rfl ?_
   walk_at "rdc"
   exact told_non (.int _) rfl fin
  ·rw[e]
   refine rd_ixL (SqL.of t5) rfl ?_
   walk_at "rdc"
   exact told_non (.lst _ _ (s5 _ _ (s4 _ _ t3))) rfl fin
  ·rw[e]
   refine rd_ixL (SqL.of t5) rfl ?_
   walk_at "rdc"
   exact told_non (.tup _ _ (s5 _ _ t4)) rfl fin
 walk_at "rdc"
 refine⟨a,ns,rfl,s2.seq hS,h63,fun z k H3 s3 T k8=>?_⟩
 walk_at "rdc"
 refine⟨z,_,_,k,rfl,T,k8,fun y H4 s4 N=>?_⟩
 walk_at "rdc"
 exact told_no N fun H5 _=>q _
end
theorem all_mk{l:PySem.W.OpenLaw}{w:World}{K:PySem.W.Frag}{h:Heap}{mg:Str→Option Value}{fa f26 f28 f57 f59 f73:Addr}{c_FeastError c_NoNumber c_TooLong c_NoMeasure c_NoRule c_NoName c_Rule c_All c_No c_Each c_Dated c_Not c_Both c_Either c_But c_Unlike c_Later c_Upon c_Until c_Near c_Till c_Kth c_Every c_Reader c_Measure c_Calendar c_Sun:Addr}(X:K.In h)(G:h.Ns mainGlobals mg)(hfa:mg "law"=some (.ref fa))
 {od26 an26 od28 an28 od57 an57 od59 an59 od73 an73:Option Addr}{sl26 sl28 sl57 sl59 sl73:Array (Option Value)}{oc26 kV26 dc26 pm26 cd26 ct26 oc28 kV28 dc28 pm28 cd28 ct28 oc57 kV57 dc57 pm57 cd57 ct57 oc59 kV59 dc59 pm59 cd59 ct59 oc73 kV73 dc73 pm73 cd73 ct73:Value}{tk_MOST_LETTERS:Tok}{tk_LETTERS:Tok}{tk_MOST_SIGNS:Tok}{tk_MOST_FIGURES:Tok}{tk_FIGURES:Tok}{tk_MOST_BRACKETS:Tok}{ta_PAIR_WORDS:Addr}{to_PAIR_WORDS:Option Addr}{tn_PAIR_WORDS:Nat}{tl_PAIR_WORDS:Array (Option Value)}{tk_PAIR_WORDS_0 tk_PAIR_WORDS_1 tk_PAIR_WORDS_2 tk_PAIR_WORDS_3 tk_PAIR_WORDS_4 tk_PAIR_WORDS_5 tk_PAIR_WORDS_6 tk_PAIR_WORDS_7:Tok}{tk_LONGEST:Tok}{tk_PIECE:Tok}{tk_GREATEST_N:Tok}{tk_GREATEST_BASE:Tok}{tk_MOST_TERMS:Tok}{tk_MOST_MONTHS:Tok}{tk_LONGEST_MONTH:Tok}
 {T28:Addr}{to28:Value}{td28:Option Addr}{tn28:Nat}{ts28:Array (Option Value)}
 {T57:Addr}{to57:Value}{td57:Option Addr}{tn57:Nat}{ts57:Array (Option Value)}
 {T59:Addr}{to59:Value}{td59:Option Addr}{tn59:Nat}{ts59:Array (Option Value)}{tkd_Sun___init___0:Tok}
 (n_FeastError:PySem.W.nsIn K mainGlobals "FeastError"=some (some (.ref c_FeastError)))
 (n_NoNumber:PySem.W.nsIn K mainGlobals "NoNumber"=some (some (.ref c_NoNumber)))
 (n_TooLong:PySem.W.nsIn K mainGlobals "TooLong"=some (some (.ref c_TooLong)))
 (n_NoMeasure:PySem.W.nsIn K mainGlobals "NoMeasure"=some (some (.ref c_NoMeasure)))
 (n_NoRule:PySem.W.nsIn K mainGlobals "NoRule"=some (some (.ref c_NoRule)))
 (t_NoRule:PySem.W.typeIn K (.ref c_NoRule)=some (.type "type"))
 (k_NoRule:PySem.W.hasDictIn K c_NoRule=true)
 (b_NoRule:PySem.W.mroIn K c_NoRule (.type "BaseException")=some true)
 (n_NoName:PySem.W.nsIn K mainGlobals "NoName"=some (some (.ref c_NoName)))
 (e_NoRule:PySem.W.excIn K c_NoRule bmV "ValueError.__new__"=true)
 (ga_NoRule:PySem.W.findIn K (.ref c_NoRule) "__getattribute__"=some (some (.builtin "BaseException.__getattribute__")))
 (gk_NoRule:PySem.W.findIn K (.ref c_NoRule) "__getattr__"=some none)
 (ob_NoRule:PySem.W.mroIn K c_NoRule (.type "object")=some true)
 (ca_NoRule:PySem.W.findIn K (.ref c_NoRule) "__class__"=some (some (.builtin "object.__class__")))
 (i_NoRule_FeastError:PySem.W.kitOne K (.ref c_NoRule) (.ref c_FeastError)=some true)
 (r_NoRule_NoRule:PySem.W.mroIn K c_NoRule (.ref c_NoRule)=some true)
 (i_NoRule_NoName:PySem.W.kitOne K (.ref c_NoRule) (.ref c_NoName)=some false)
 (n_Measure:PySem.W.nsIn K mainGlobals "Measure"=some (some (.ref c_Measure)))
 (pg_Measure:PySem.W.plainGet K c_Measure Str.empty=true)
 (k_Measure:PySem.W.hasDictIn K c_Measure=true)
 (po_Measure:PySem.W.plainOver K c_Measure=true)
 (sa_Measure:PySem.W.findIn K (.ref c_Measure) "__setattr__"=some (some (.builtin "object.__setattr__")))
 (mk_Measure:PySem.W.makesIn K c_Measure=true)
 (kp_Measure:PySem.W.keepIn K (.ref c_Measure)=true)
 (na_Measure_base:PySem.W.findIn K (.ref c_Measure) "base"=some none)
 (na_Measure_terms:PySem.W.findIn K (.ref c_Measure) "terms"=some none)
 (na_Measure_full_count:PySem.W.findIn K (.ref c_Measure) "full_count"=some none)
 (na_Measure_full_sum:PySem.W.findIn K (.ref c_Measure) "full_sum"=some none)
 (n_Sun:PySem.W.nsIn K mainGlobals "Sun"=some (some (.ref c_Sun)))
 (pg_Sun:PySem.W.plainGet K c_Sun Str.empty=true)
 (k_Sun:PySem.W.hasDictIn K c_Sun=true)
 (po_Sun:PySem.W.plainOver K c_Sun=true)
 (sa_Sun:PySem.W.findIn K (.ref c_Sun) "__setattr__"=some (some (.builtin "object.__setattr__")))
 (mk_Sun:PySem.W.makesIn K c_Sun=true)
 (kp_Sun:PySem.W.keepIn K (.ref c_Sun)=true)
 (na_Sun_start:PySem.W.findIn K (.ref c_Sun) "start"=some none)
 (na_Sun_months:PySem.W.findIn K (.ref c_Sun) "months"=some none)
 (na_Sun_leap:PySem.W.findIn K (.ref c_Sun) "leap"=some none)
 (na_Sun_years:PySem.W.findIn K (.ref c_Sun) "years"=some none)
 (n_Calendar:PySem.W.nsIn K mainGlobals "Calendar"=some (some (.ref c_Calendar)))
 (n_Rule:PySem.W.nsIn K mainGlobals "Rule"=some (some (.ref c_Rule)))
 (n_Reader:PySem.W.nsIn K mainGlobals "Reader"=some (some (.ref c_Reader)))
 (pg_Reader:PySem.W.plainGet K c_Reader Str.empty=true)
 (k_Reader:PySem.W.hasDictIn K c_Reader=true)
 (po_Reader:PySem.W.plainOver K c_Reader=true)
 (sa_Reader:PySem.W.findIn K (.ref c_Reader) "__setattr__"=some (some (.builtin "object.__setattr__")))
 (mk_Reader:PySem.W.makesIn K c_Reader=true)
 (kp_Reader:PySem.W.keepIn K (.ref c_Reader)=true)
 (na_Reader_words:PySem.W.findIn K (.ref c_Reader) "words"=some none)
 (na_Reader_place:PySem.W.findIn K (.ref c_Reader) "place"=some none)
 (n_All:PySem.W.nsIn K mainGlobals "All"=some (some (.ref c_All)))
 (pg_All:PySem.W.plainGet K c_All Str.empty=true)
 (k_All:PySem.W.hasDictIn K c_All=true)
 (po_All:PySem.W.plainOver K c_All=true)
 (sa_All:PySem.W.findIn K (.ref c_All) "__setattr__"=some (some (.builtin "object.__setattr__")))
 (mk_All:PySem.W.makesIn K c_All=true)
 (kp_All:PySem.W.keepIn K (.ref c_All)=true)
 (na_All_kept:PySem.W.findIn K (.ref c_All) "kept"=some none)
 (na_All_made_of:PySem.W.findIn K (.ref c_All) "made_of"=some none)
 (na_All_words:PySem.W.findIn K (.ref c_All) "words"=some none)
 (ca_All:PySem.W.findIn K (.ref c_All) "__class__"=some (some (.builtin "object.__class__")))
 (ob_All:PySem.W.mroIn K c_All (.type "object")=some true)
 (i_All_Rule:PySem.W.kitOne K (.ref c_All) (.ref c_Rule)=some true)
 (n_No:PySem.W.nsIn K mainGlobals "No"=some (some (.ref c_No)))
 (pg_No:PySem.W.plainGet K c_No Str.empty=true)
 (k_No:PySem.W.hasDictIn K c_No=true)
 (po_No:PySem.W.plainOver K c_No=true)
 (sa_No:PySem.W.findIn K (.ref c_No) "__setattr__"=some (some (.builtin "object.__setattr__")))
 (mk_No:PySem.W.makesIn K c_No=true)
 (kp_No:PySem.W.keepIn K (.ref c_No)=true)
 (na_No_kept:PySem.W.findIn K (.ref c_No) "kept"=some none)
 (na_No_made_of:PySem.W.findIn K (.ref c_No) "made_of"=some none)
 (na_No_words:PySem.W.findIn K (.ref c_No) "words"=some none)
 (ca_No:PySem.W.findIn K (.ref c_No) "__class__"=some (some (.builtin "object.__class__")))
 (ob_No:PySem.W.mroIn K c_No (.type "object")=some true)
 (i_No_Rule:PySem.W.kitOne K (.ref c_No) (.ref c_Rule)=some true)
 (n_Each:PySem.W.nsIn K mainGlobals "Each"=some (some (.ref c_Each)))
 (pg_Each:PySem.W.plainGet K c_Each Str.empty=true)
 (k_Each:PySem.W.hasDictIn K c_Each=true)
 (po_Each:PySem.W.plainOver K c_Each=true)
 (sa_Each:PySem.W.findIn K (.ref c_Each) "__setattr__"=some (some (.builtin "object.__setattr__")))
 (mk_Each:PySem.W.makesIn K c_Each=true)
 (kp_Each:PySem.W.keepIn K (.ref c_Each)=true)
 (na_Each_kept:PySem.W.findIn K (.ref c_Each) "kept"=some none)
 (na_Each_made_of:PySem.W.findIn K (.ref c_Each) "made_of"=some none)
 (na_Each_words:PySem.W.findIn K (.ref c_Each) "words"=some none)
 (ca_Each:PySem.W.findIn K (.ref c_Each) "__class__"=some (some (.builtin "object.__class__")))
 (ob_Each:PySem.W.mroIn K c_Each (.type "object")=some true)
 (i_Each_Rule:PySem.W.kitOne K (.ref c_Each) (.ref c_Rule)=some true)
 (n_Not:PySem.W.nsIn K mainGlobals "Not"=some (some (.ref c_Not)))
 (pg_Not:PySem.W.plainGet K c_Not Str.empty=true)
 (k_Not:PySem.W.hasDictIn K c_Not=true)
 (po_Not:PySem.W.plainOver K c_Not=true)
 (sa_Not:PySem.W.findIn K (.ref c_Not) "__setattr__"=some (some (.builtin "object.__setattr__")))
 (mk_Not:PySem.W.makesIn K c_Not=true)
 (kp_Not:PySem.W.keepIn K (.ref c_Not)=true)
 (na_Not_kept:PySem.W.findIn K (.ref c_Not) "kept"=some none)
 (na_Not_made_of:PySem.W.findIn K (.ref c_Not) "made_of"=some none)
 (na_Not_words:PySem.W.findIn K (.ref c_Not) "words"=some none)
 (ca_Not:PySem.W.findIn K (.ref c_Not) "__class__"=some (some (.builtin "object.__class__")))
 (ob_Not:PySem.W.mroIn K c_Not (.type "object")=some true)
 (i_Not_Rule:PySem.W.kitOne K (.ref c_Not) (.ref c_Rule)=some true)
 (n_Either:PySem.W.nsIn K mainGlobals "Either"=some (some (.ref c_Either)))
 (pg_Either:PySem.W.plainGet K c_Either Str.empty=true)
 (k_Either:PySem.W.hasDictIn K c_Either=true)
 (po_Either:PySem.W.plainOver K c_Either=true)
 (sa_Either:PySem.W.findIn K (.ref c_Either) "__setattr__"=some (some (.builtin "object.__setattr__")))
 (mk_Either:PySem.W.makesIn K c_Either=true)
 (kp_Either:PySem.W.keepIn K (.ref c_Either)=true)
 (na_Either_kept:PySem.W.findIn K (.ref c_Either) "kept"=some none)
 (na_Either_made_of:PySem.W.findIn K (.ref c_Either) "made_of"=some none)
 (na_Either_words:PySem.W.findIn K (.ref c_Either) "words"=some none)
 (ca_Either:PySem.W.findIn K (.ref c_Either) "__class__"=some (some (.builtin "object.__class__")))
 (ob_Either:PySem.W.mroIn K c_Either (.type "object")=some true)
 (i_Either_Rule:PySem.W.kitOne K (.ref c_Either) (.ref c_Rule)=some true)
 (bsp_Rule:PySem.W.specialIn K (.ref c_Rule) "__getattribute__"=some (some (.builtin "type.__getattribute__")))
 (brd_Rule:PySem.W.readsIn K c_Rule (.type "type")=true)
 (xsp:PySem.W.specialIn K (.builtin "object.__class__") "__get__"=some (some (.builtin "getset_descriptor.__get__")))
 (xtk:PySem.W.takesIn K (.builtin "object.__class__")=some true)
 (n_Dated:PySem.W.nsIn K mainGlobals "Dated"=some (some (.ref c_Dated)))
 (n_Both:PySem.W.nsIn K mainGlobals "Both"=some (some (.ref c_Both)))
 (mk_Both:PySem.W.makesIn K c_Both=true)
 (kp_Both:PySem.W.keepIn K (.ref c_Both)=true)
 (n_But:PySem.W.nsIn K mainGlobals "But"=some (some (.ref c_But)))
 (mk_But:PySem.W.makesIn K c_But=true)
 (kp_But:PySem.W.keepIn K (.ref c_But)=true)
 (n_Unlike:PySem.W.nsIn K mainGlobals "Unlike"=some (some (.ref c_Unlike)))
 (mk_Unlike:PySem.W.makesIn K c_Unlike=true)
 (kp_Unlike:PySem.W.keepIn K (.ref c_Unlike)=true)
 (n_Later:PySem.W.nsIn K mainGlobals "Later"=some (some (.ref c_Later)))
 (mk_Later:PySem.W.makesIn K c_Later=true)
 (kp_Later:PySem.W.keepIn K (.ref c_Later)=true)
 (n_Upon:PySem.W.nsIn K mainGlobals "Upon"=some (some (.ref c_Upon)))
 (mk_Upon:PySem.W.makesIn K c_Upon=true)
 (kp_Upon:PySem.W.keepIn K (.ref c_Upon)=true)
 (n_Until:PySem.W.nsIn K mainGlobals "Until"=some (some (.ref c_Until)))
 (mk_Until:PySem.W.makesIn K c_Until=true)
 (kp_Until:PySem.W.keepIn K (.ref c_Until)=true)
 (n_Near:PySem.W.nsIn K mainGlobals "Near"=some (some (.ref c_Near)))
 (mk_Near:PySem.W.makesIn K c_Near=true)
 (kp_Near:PySem.W.keepIn K (.ref c_Near)=true)
 (n_Till:PySem.W.nsIn K mainGlobals "Till"=some (some (.ref c_Till)))
 (mk_Till:PySem.W.makesIn K c_Till=true)
 (kp_Till:PySem.W.keepIn K (.ref c_Till)=true)
 (n_Kth:PySem.W.nsIn K mainGlobals "Kth"=some (some (.ref c_Kth)))
 (mk_Kth:PySem.W.makesIn K c_Kth=true)
 (kp_Kth:PySem.W.keepIn K (.ref c_Kth)=true)
 (n_Every:PySem.W.nsIn K mainGlobals "Every"=some (some (.ref c_Every)))
 (mk_Every:PySem.W.makesIn K c_Every=true)
 (kp_Every:PySem.W.keepIn K (.ref c_Every)=true)
 (q0:FnM K c_Reader "__init__" "__init__" "Reader.__init__" s_Reader___init__)
 (q1:FnM K c_Reader "peek" "peek" "Reader.peek" s_Reader_peek)
 (q2:FnM K c_Reader "take" "take" "Reader.take" s_Reader_take)
 (q3:FnG K "is_name" "is_name" "is_name" s_is_name)
 (q4:FnG K "is_readable" "is_readable" "is_readable" s_is_readable)
 (q5:FnG K "is_number" "is_number" "is_number" s_is_number)
 (q6:FnG K "take_word" "take_word" "take_word" s_take_word)
 (q7:FnG K "take_number" "take_number" "take_number" s_take_number)
 (q8:FnG K "take_wanted" "take_wanted" "take_wanted" s_take_wanted)
 (q9:FnG K "take_each" "take_each" "take_each" s_take_each)
 (q10:FnG K "take_date" "take_date" "take_date" s_take_date)
 (q11:FnG K "words_of" "words_of" "words_of" s_words_of)
 (q12:FnG K "take_numbered" "take_numbered" "take_numbered" s_take_numbered)
 (q13:FnG K "take_every" "take_every" "take_every" s_take_every)
 (q14:FnG K "take_pair" "take_pair" "take_pair" s_take_pair)
 (q15:FnG K "take_within" "take_within" "take_within" s_take_within)
 (q16:FnG K "take_plan" "take_plan" "take_plan" s_take_plan)
 (q17:FnG K "refuse_below_one" "refuse_below_one" "refuse_below_one" s_refuse_below_one)
 (q18:FnG K "refuse_too_long" "refuse_too_long" "refuse_too_long" s_refuse_too_long)
 (q19:FnG K "equation" "equation" "equation" s_equation)
 (q20:FnG K "divisor" "divisor" "divisor" s_divisor)
 (q21:FnG K "common" "common" "common" s_common)
 (q22:FnG K "round_by" "round_by" "round_by" s_round_by)
 (q23:FnG K "full_bits" "full_bits" "full_bits" s_full_bits)
 (q24:FnG K "bits_by" "bits_by" "bits_by" s_bits_by)
 (q25:FnG K "common_size" "common_size" "common_size" s_common_size)
 (a26:PySem.W.nsIn K mainGlobals "either"=some (some (.ref f26)))(l26:K.lookup f26=some ⟨oc26,od26,.func (PySem.W.fnOf "either" "either" (defArgs s_either) (defBody s_either) (defScope s_either) .none kV26 dc26 pm26 an26 cd26 ct26),sl26⟩)(c26:PySem.W.codeIn K cd26 "either"=true)(k26:PySem.W.keepIn K (.ref f26)=true)
 (q27:FnG K "other_days" "other_days" "other_days" s_other_days)
 (a28:PySem.W.findIn K (.ref c_Rule) "__init__"=some (some (.ref f28)))(l28:K.lookup f28=some ⟨oc28,od28,.func (PySem.W.fnOf "__init__" "Rule.__init__" (defArgs s_Rule___init__) (defBody s_Rule___init__) (defScope s_Rule___init__) (.ref T28) kV28 dc28 pm28 an28 cd28 ct28),sl28⟩)(c28:PySem.W.codeIn K cd28 "Rule.__init__"=true)(k28:PySem.W.keepIn K (.ref f28)=true)
 (t28:K.lookup T28=some ⟨to28,td28,.seq #[.none,.none,.none] tn28,ts28⟩)
 (bfc28:PySem.W.findCls K (.ref c_Rule) (.type "type") "__init__"=some (.val (.ref f28)))
 (q29_0:FnM K c_All "turn" "turn" "Rule.turn" s_Rule_turn)
 (q29_1:FnM K c_No "turn" "turn" "Rule.turn" s_Rule_turn)
 (q29_2:FnM K c_Each "turn" "turn" "Rule.turn" s_Rule_turn)
 (q29_3:FnM K c_Not "turn" "turn" "Rule.turn" s_Rule_turn)
 (q29_4:FnM K c_Either "turn" "turn" "Rule.turn" s_Rule_turn)
 (q30:FnM K c_All "__init__" "__init__" "All.__init__" s_All___init__)
 (q31:FnM K c_No "__init__" "__init__" "No.__init__" s_No___init__)
 (q32:FnG K "each_text" "each_text" "each_text" s_each_text)
 (q33:FnM K c_Each "__init__" "__init__" "Each.__init__" s_Each___init__)
 (q34:FnM K c_Not "__init__" "__init__" "Not.__init__" s_Not___init__)
 (q35:FnM K c_Either "__init__" "__init__" "Either.__init__" s_Either___init__)
 (q36:FnM K c_Both "__init__" "__init__" "Both.__init__" s_Both___init__)
 (q37:FnM K c_But "__init__" "__init__" "But.__init__" s_But___init__)
 (q38:FnM K c_Unlike "__init__" "__init__" "Unlike.__init__" s_Unlike___init__)
 (q39:FnM K c_Upon "__init__" "__init__" "Upon.__init__" s_Upon___init__)
 (q40:FnM K c_Until "__init__" "__init__" "Until.__init__" s_Until___init__)
 (q41:FnM K c_Near "__init__" "__init__" "Near.__init__" s_Near___init__)
 (q42:FnM K c_Till "__init__" "__init__" "Till.__init__" s_Till___init__)
 (q43:FnM K c_Later "__init__" "__init__" "Later.__init__" s_Later___init__)
 (q44:FnM K c_Kth "__init__" "__init__" "Kth.__init__" s_Kth___init__)
 (q45:FnM K c_Every "__init__" "__init__" "Every.__init__" s_Every___init__)
 (q46:FnG K "made_date" "made_date" "made_date" s_made_date)
 (q47:FnG K "made_pair" "made_pair" "made_pair" s_made_pair)
 (q48:FnG K "made" "made" "made" s_made)
 (q49:FnG K "read_rule" "read_rule" "read_rule" s_read_rule)
 (q50:FnG K "term_on" "term_on" "term_on" s_term_on)
 (q51:FnG K "signs_upto" "signs_upto" "signs_upto" s_signs_upto)
 (q52:FnG K "is_term" "is_term" "is_term" s_is_term)
 (q53:FnG K "least_length" "least_length" "least_length" s_least_length)
 (q54:FnG K "refuse_measure" "refuse_measure" "refuse_measure" s_refuse_measure)
 (q55:FnG K "period_of" "period_of" "period_of" s_period_of)
 (q56:FnM K c_Measure "upto" "upto" "Measure.upto" s_Measure_upto)
 (a57:PySem.W.findIn K (.ref c_Measure) "__init__"=some (some (.ref f57)))(l57:K.lookup f57=some ⟨oc57,od57,.func (PySem.W.fnOf "__init__" "Measure.__init__" (defArgs s_Measure___init__) (defBody s_Measure___init__) (defScope s_Measure___init__) (.ref T57) kV57 dc57 pm57 an57 cd57 ct57),sl57⟩)(c57:PySem.W.codeIn K cd57 "Measure.__init__"=true)(k57:PySem.W.keepIn K (.ref f57)=true)
 (t57:K.lookup T57=some ⟨to57,td57,.seq #[.none] tn57,ts57⟩)
 (u57:PySem.W.typeIn K (.ref f57)=some (.type "function"))
 (q58:FnG K "refuse_months" "refuse_months" "refuse_months" s_refuse_months)
 (a59:PySem.W.findIn K (.ref c_Sun) "__init__"=some (some (.ref f59)))(l59:K.lookup f59=some ⟨oc59,od59,.func (PySem.W.fnOf "__init__" "Sun.__init__" (defArgs s_Sun___init__) (defBody s_Sun___init__) (defScope s_Sun___init__) (.ref T59) kV59 dc59 pm59 an59 cd59 ct59),sl59⟩)(c59:PySem.W.codeIn K cd59 "Sun.__init__"=true)(k59:PySem.W.keepIn K (.ref f59)=true)
 (t59:K.lookup T59=some ⟨to59,td59,.seq #[(.int 1 tkd_Sun___init___0),.none] tn59,ts59⟩)
 (u59:PySem.W.typeIn K (.ref f59)=some (.type "function"))
 (q60:FnG K "_law_cell_at" "_law_cell_at" "_law_cell_at" s_law_cell_at)
 (q61:FnG K "_law_leaf" "_law_leaf" "_law_leaf" s_law_leaf)
 (q62:FnG K "_law_joined" "_law_joined" "_law_joined" s_law_joined)
 (q63:FnG K "_law_text" "_law_text" "_law_text" s_law_text)
 (q64:FnG K "_law_places" "_law_places" "_law_places" s_law_places)
 (q65:FnG K "_law_odd" "_law_odd" "_law_odd" s_law_odd)
 (q66:FnG K "_law_bracket_out" "_law_bracket_out" "_law_bracket_out" s_law_bracket_out)
 (q67:FnG K "_law_blank" "_law_blank" "_law_blank" s_law_blank)
 (q68:FnG K "_law_sign_in" "_law_sign_in" "_law_sign_in" s_law_sign_in)
 (q69:FnG K "_law_spoiled" "_law_spoiled" "_law_spoiled" s_law_spoiled)
 (q70:FnG K "_law_deep" "_law_deep" "_law_deep" s_law_deep)
 (q71:FnG K "_law_long" "_law_long" "_law_long" s_law_long)
 (q72:FnG K "_law_told" "_law_told" "_law_told" s_law_told)
 (a73:PySem.W.nsIn K mainGlobals "law"=some (some (.ref f73)))(l73:K.lookup f73=some ⟨oc73,od73,.func (PySem.W.fnOf "law" "law" (defArgs s_law) (defBody s_law) (defScope s_law) .none kV73 dc73 pm73 an73 cd73 ct73),sl73⟩)(c73:PySem.W.codeIn K cd73 "law"=true)(k73:PySem.W.keepIn K (.ref f73)=true)
 (z_tuple:PySem.W.nsIn K mainGlobals "tuple"=some none)
 (z_len:PySem.W.nsIn K mainGlobals "len"=some none)
 (z_all:PySem.W.nsIn K mainGlobals "all"=some none)
 (z_isinstance:PySem.W.nsIn K mainGlobals "isinstance"=some none)
 (z_str:PySem.W.nsIn K mainGlobals "str"=some none)
 (z_int:PySem.W.nsIn K mainGlobals "int"=some none)
 (z_range:PySem.W.nsIn K mainGlobals "range"=some none)
 (z_sum:PySem.W.nsIn K mainGlobals "sum"=some none)
 (z_min:PySem.W.nsIn K mainGlobals "min"=some none)
 (z_max:PySem.W.nsIn K mainGlobals "max"=some none)
 (m_MOST_LETTERS:PySem.W.nsIn K mainGlobals "MOST_LETTERS"=some (some (.int 8 tk_MOST_LETTERS)))
 (m_LETTERS:PySem.W.nsIn K mainGlobals "LETTERS"=some (some (.str "abcdefghijklmnopqrstuvwxyz" tk_LETTERS)))
 (m_MOST_SIGNS:PySem.W.nsIn K mainGlobals "MOST_SIGNS"=some (some (.int 4000 tk_MOST_SIGNS)))
 (m_MOST_FIGURES:PySem.W.nsIn K mainGlobals "MOST_FIGURES"=some (some (.int 60 tk_MOST_FIGURES)))
 (m_FIGURES:PySem.W.nsIn K mainGlobals "FIGURES"=some (some (.str "0123456789" tk_FIGURES)))
 (m_MOST_BRACKETS:PySem.W.nsIn K mainGlobals "MOST_BRACKETS"=some (some (.int 40 tk_MOST_BRACKETS)))
 (tt_PAIR_WORDS:K.lookup ta_PAIR_WORDS=some ⟨.type "tuple",to_PAIR_WORDS,.seq #[.str "and" tk_PAIR_WORDS_0,.str "or" tk_PAIR_WORDS_1,.str "but" tk_PAIR_WORDS_2,.str "unlike" tk_PAIR_WORDS_3,.str "upon" tk_PAIR_WORDS_4,.str "until" tk_PAIR_WORDS_5,.str "near" tk_PAIR_WORDS_6,.str "till" tk_PAIR_WORDS_7] tn_PAIR_WORDS,tl_PAIR_WORDS⟩)
 (m_PAIR_WORDS:PySem.W.nsIn K mainGlobals "PAIR_WORDS"=some (some (.ref ta_PAIR_WORDS)))
 (m_LONGEST:PySem.W.nsIn K mainGlobals "LONGEST"=some (some (.int 150000 tk_LONGEST)))
 (m_PIECE:PySem.W.nsIn K mainGlobals "PIECE"=some (some (.int 256 tk_PIECE)))
 (m_GREATEST_N:PySem.W.nsIn K mainGlobals "GREATEST_N"=some (some (.int 1000 tk_GREATEST_N)))
 (m_GREATEST_BASE:PySem.W.nsIn K mainGlobals "GREATEST_BASE"=some (some (.int 20000 tk_GREATEST_BASE)))
 (m_MOST_TERMS:PySem.W.nsIn K mainGlobals "MOST_TERMS"=some (some (.int 6 tk_MOST_TERMS)))
 (m_MOST_MONTHS:PySem.W.nsIn K mainGlobals "MOST_MONTHS"=some (some (.int 20 tk_MOST_MONTHS)))
 (m_LONGEST_MONTH:PySem.W.nsIn K mainGlobals "LONGEST_MONTH"=some (some (.int 1000 tk_LONGEST_MONTH)))
 :∃fd:FuncData,(∀(s:Shared) (v:Value),BindsTo s fd ⟨[v],[]⟩ [("_law_script",v)])∧∀base:Heap,K.In base→base.Ns mainGlobals mg→FnOk l.prog w K mg base CX0 134 fa fd ["_law_script"] (spLaw K):=by
 have e:=hfa.symm.trans (PySem.W.mg_of X G a73)
 cases e
 have F26:=fun_mk (st:=s_either) l26 c26 k26
 have b26:=F26.binds (ps:=["one","other"]) fun _ _ _ _ _ _ us hl=>by obtain⟨_,_,rfl⟩:=len2 hl;rfl
 have F28:=fun_mkD (st:=s_Rule___init__) l28 c28 k28 t28 rfl
 have b28:=FunD.bindsD (ps:=["self","kept","made_of","words"]) (dv:=[]) 4 rfl F28 fun _ _ _ _ _ _ _ us hl=>by obtain⟨_,_,_,_,rfl⟩:=len4 hl;exact⟨_,rfl,rfl⟩
 have F57:=fun_mkD (st:=s_Measure___init__) l57 c57 k57 t57 rfl
 have b57:=FunD.bindsD (ps:=["self","base","terms"]) (dv:=[]) 3 rfl F57 fun _ _ _ _ _ _ _ us hl=>by obtain⟨_,_,_,rfl⟩:=len3 hl;exact⟨_,rfl,rfl⟩
 have F59:=fun_mkD (st:=s_Sun___init__) l59 c59 k59 t59 rfl
 have b59:=FunD.bindsD (ps:=["self","start","lengths","leap","terms"]) (dv:=[]) 5 rfl F59 fun _ _ _ _ _ _ _ us hl=>by obtain⟨_,_,_,_,_,rfl⟩:=len5 hl;exact⟨_,rfl,rfl⟩
 have b59_2:=FunD.bindsD (ps:=["self","start","lengths","leap","terms"]) (dv:=[(.int 1 tkd_Sun___init___0),.none]) 3 rfl F59 fun _ _ _ _ _ _ _ us hl=>by obtain⟨_,_,_,rfl⟩:=len3 hl;exact⟨_,rfl,rfl⟩
 have F73:=fun_mk (st:=s_law) l73 c73 k73
 have y_tuple:=PySem.W.mg_none_of X G z_tuple
 have y_len:=PySem.W.mg_none_of X G z_len
 have y_all:=PySem.W.mg_none_of X G z_all
 have y_isinstance:=PySem.W.mg_none_of X G z_isinstance
 have y_str:=PySem.W.mg_none_of X G z_str
 have y_int:=PySem.W.mg_none_of X G z_int
 have y_range:=PySem.W.mg_none_of X G z_range
 have y_sum:=PySem.W.mg_none_of X G z_sum
 have y_min:=PySem.W.mg_none_of X G z_min
 have y_max:=PySem.W.mg_none_of X G z_max
 have y_MOST_LETTERS:=PySem.W.mg_of X G m_MOST_LETTERS
 have y_LETTERS:=PySem.W.mg_of X G m_LETTERS
 have y_MOST_SIGNS:=PySem.W.mg_of X G m_MOST_SIGNS
 have y_MOST_FIGURES:=PySem.W.mg_of X G m_MOST_FIGURES
 have y_FIGURES:=PySem.W.mg_of X G m_FIGURES
 have y_MOST_BRACKETS:=PySem.W.mg_of X G m_MOST_BRACKETS
 have y_PAIR_WORDS:=PySem.W.mg_of X G m_PAIR_WORDS
 have w_PAIR_WORDS:∀H,SqT K H ta_PAIR_WORDS [.str "and",.str "or",.str "but",.str "unlike",.str "upon",.str "until",.str "near",.str "till"]:=fun H=>.inr ⟨_,_,_,tt_PAIR_WORDS,rfl,rfl,(by show 8≤sizeLine;decide),(.cons ⟨_,rfl⟩ (.cons ⟨_,rfl⟩ (.cons ⟨_,rfl⟩ (.cons ⟨_,rfl⟩ (.cons ⟨_,rfl⟩ (.cons ⟨_,rfl⟩ (.cons ⟨_,rfl⟩ (.cons ⟨_,rfl⟩ .nil))))))))⟩
 have y_LONGEST:=PySem.W.mg_of X G m_LONGEST
 have y_PIECE:=PySem.W.mg_of X G m_PIECE
 have y_GREATEST_N:=PySem.W.mg_of X G m_GREATEST_N
 have y_GREATEST_BASE:=PySem.W.mg_of X G m_GREATEST_BASE
 have y_MOST_TERMS:=PySem.W.mg_of X G m_MOST_TERMS
 have y_MOST_MONTHS:=PySem.W.mg_of X G m_MOST_MONTHS
 have y_LONGEST_MONTH:=PySem.W.mg_of X G m_LONGEST_MONTH
 refine⟨PySem.W.fnOf "law" "law" (defArgs s_law) (defBody s_law) (defScope s_law) .none kV73 dc73 pm73 an73 cd73 ct73,fun s v=>.of_eq rfl,fun base _ _=>?_⟩
 have er:Errs K mg c_FeastError c_NoNumber c_TooLong c_NoMeasure c_NoRule c_NoName c_Rule c_All c_No c_Each c_Dated c_Not c_Both c_Either c_But c_Unlike c_Later c_Upon c_Until c_Near c_Till c_Kth c_Every c_Reader c_Measure c_Calendar c_Sun:=⟨PySem.W.mg_of X G n_FeastError,⟨PySem.W.mg_of X G n_NoRule,t_NoRule,has_cls k_NoRule,b_NoRule⟩,PySem.W.mg_of X G n_NoName,⟨PySem.W.mg_of X G n_NoRule,e_NoRule⟩,⟨ga_NoRule,gk_NoRule,b_NoRule,ob_NoRule,ca_NoRule,has_cls k_NoRule,xsp,xtk⟩,i_NoRule_FeastError,r_NoRule_NoRule,i_NoRule_NoName,⟨pg_Measure,k_Measure,po_Measure,sa_Measure⟩,na_Measure_base,na_Measure_terms,na_Measure_full_count,na_Measure_full_sum,⟨pg_Sun,k_Sun,po_Sun,sa_Sun⟩,na_Sun_start,na_Sun_months,na_Sun_leap,na_Sun_years,⟨pg_Reader,k_Reader,po_Reader,sa_Reader⟩,na_Reader_words,na_Reader_place,⟨pg_All,k_All,po_All,sa_All⟩,⟨⟨pg_All,k_All,po_All,sa_All⟩,na_All_kept,na_All_made_of,na_All_words,ca_All,ob_All,i_All_Rule⟩,⟨pg_No,k_No,po_No,sa_No⟩,⟨⟨pg_No,k_No,po_No,sa_No⟩,na_No_kept,na_No_made_of,na_No_words,ca_No,ob_No,i_No_Rule⟩,⟨pg_Each,k_Each,po_Each,sa_Each⟩,⟨⟨pg_Each,k_Each,po_Each,sa_Each⟩,na_Each_kept,na_Each_made_of,na_Each_words,ca_Each,ob_Each,i_Each_Rule⟩,⟨pg_Not,k_Not,po_Not,sa_Not⟩,⟨⟨pg_Not,k_Not,po_Not,sa_Not⟩,na_Not_kept,na_Not_made_of,na_Not_words,ca_Not,ob_Not,i_Not_Rule⟩,⟨pg_Either,k_Either,po_Either,sa_Either⟩,⟨⟨pg_Either,k_Either,po_Either,sa_Either⟩,na_Either_kept,na_Either_made_of,na_Either_words,ca_Either,ob_Either,i_Either_Rule⟩⟩
 have C_Reader___init__:CalI l.prog w K mg base CX0 1 "Reader" c_Reader ["self","words"] (spInitR c_Reader):=calI_of X G mk_Reader kp_Reader n_Reader q0 (by walk_at "b2") fun F=>ok_Reader___init__ F er y_tuple
 have C_Reader_peek:CalM l.prog w K mg base CX0 1 c_Reader "peek" ["self"] (spPeek c_Reader):=calM_of q1 (by walk_at "b1") fun F=>ok_Reader_peek F er y_len
 have C_Reader_take:CalM l.prog w K mg base CX0 2 c_Reader "take" ["self"] (spTake c_Reader):=calM_of q2 (by walk_at "b1") fun F=>ok_Reader_take F er C_Reader_peek
 have C_is_name:Cal l.prog w K mg base 1 "is_name" ["text"] spIsNm:=cal_of X G q3 (by walk_at "b1") fun F=>ok_is_name F y_len y_all y_MOST_LETTERS y_LETTERS
 have C_is_readable:Cal l.prog w K mg base 1 "is_readable" ["text"] spReadable75:=cal_of X G q4 (by walk_at "b1") fun F=>ok_is_readable F y_isinstance y_str y_len y_MOST_SIGNS
 have C_is_number:Cal l.prog w K mg base 1 "is_number" ["text"] spIsNum:=cal_of X G q5 (by walk_at "b1") fun F=>ok_is_number F y_len y_all y_MOST_FIGURES y_FIGURES
 have C_take_word:CalE l.prog w K mg base 3 "take_word" ["reader","word"] (spWord c_Reader c_NoRule):=calE_of X G q6 (by walk_at "b2") fun F=>ok_take_word F er C_Reader_take
 have C_take_number:CalE l.prog w K mg base 3 "take_number" ["reader"] (spNumT c_Reader c_NoRule):=calE_of X G q7 (by walk_at "b1") fun F=>ok_take_number F er C_Reader_take C_is_number y_int
 have C_take_wanted:CalE l.prog w K mg base 4 "take_wanted" ["reader"] (spWantT c_Reader c_NoRule):=calE_of X G q8 (by walk_at "b1") fun F=>ok_take_wanted F er C_Reader_peek C_Reader_take C_take_number
 have C_take_each:CalE l.prog w K mg base 4 "take_each" ["reader"] (spEachR c_Reader c_NoRule):=calE_of X G q9 (by walk_at "b1") fun F=>ok_take_each F C_take_number C_take_word
 have C_take_date:CalE l.prog w K mg base 5 "take_date" ["reader"] (spDateR c_Reader c_NoRule):=calE_of X G q10 (by walk_at "b1") fun F=>ok_take_date F er C_Reader_take C_is_name C_take_wanted C_Reader_peek C_take_each
 have C_words_of:CalE l.prog w K mg base 1 "words_of" ["text"] (spWords c_NoRule):=calE_of X G q11 (by walk_at "b1") fun F=>ok_words_of F er y_len y_MOST_BRACKETS
 have C_take_plan:CalE l.prog w K mg base 131 "take_plan" ["reader"] ((spPlan c_Reader c_NoRule) 41):=rec_calE (k0:=8) (J:=3) (sp:=(spPlan c_Reader c_NoRule)) X G q16 (by walk_at "b1") (fun _ _ _ _ h=>spPlan_zero h) (fun d _ _ R F=>by
  have hk:8≤8+3*d:=Nat.le_add_right _ _
  have C_take_numbered:CalE l.prog w K mg base ((8+3*d)+1) "take_numbered" ["reader"] ((spNumbd c_Reader c_NoRule) d):=calE_of X G q12 (by walk_at "b1") fun F=>ok_take_numbered F er C_take_number C_Reader_take R C_take_word hk
  have C_take_every:CalE l.prog w K mg base ((8+3*d)+1) "take_every" ["reader"] ((spEvery7 c_Reader c_NoRule) d):=calE_of X G q13 (by walk_at "b1") fun F=>ok_take_every F C_take_number C_take_word R hk
  have C_take_pair:CalE l.prog w K mg base ((8+3*d)+1) "take_pair" ["reader"] ((spPair7 c_Reader c_NoRule) d):=calE_of X G q14 (by walk_at "b1") fun F=>ok_take_pair F er R C_Reader_take y_PAIR_WORDS w_PAIR_WORDS hk
  have C_take_within:CalE l.prog w K mg base ((8+3*d)+2) "take_within" ["reader"] ((spWithin c_Reader c_NoRule) d):=calE_of X G q15 (by walk_at "b1") fun F=>ok_take_within F er C_Reader_peek C_Reader_take R C_take_every C_is_number C_take_numbered C_take_pair hk
  exact ok_take_plan F er C_Reader_take C_take_each C_take_date C_take_within C_take_word hk) 41
 have C_refuse_below_one:Cal l.prog w K mg base 1 "refuse_below_one" ["number"] spRefuse:=cal_of X G q17 (by walk_at "b1") fun F=>ok_refuse_below_one F
 have C_refuse_too_long:Cal l.prog w K mg base 1 "refuse_too_long" ["size"] spTooLong:=cal_of X G q18 (by walk_at "b1") fun F=>ok_refuse_too_long F y_LONGEST
 have C_equation:Cal l.prog w K mg base 1 "equation" ["one","other"] spEq:=cal_of X G q19 (by walk_at "b2") fun F=>ok_equation F
 have C_divisor:Cal l.prog w K mg base 2 "divisor" ["one","other"] spDivisor:=cal_of X G q20 (by walk_at "b2") fun F=>ok_divisor F C_equation
 have C_common:Cal l.prog w K mg base 3 "common" ["one","other"] spCommon:=cal_of X G q21 (by walk_at "b2") fun F=>ok_common F C_refuse_below_one C_divisor
 have C_round_by:Cal l.prog w K mg base 2 "round_by" ["size","days"] (spRoundBy K):=cal_of X G q22 (by walk_at "b2") fun F=>ok_round_by F C_refuse_below_one C_refuse_too_long y_range y_len y_PIECE
 have C_full_bits:Cal l.prog w K mg base 1 "full_bits" ["size"] spFull:=cal_of X G q23 (by walk_at "b1") fun F=>ok_full_bits F
 have C_bits_by:Cal l.prog w K mg base 2 "bits_by" ["turn","size"] (spBitsByL K):=cal_of X G q24 (by walk_at "b2") fun F=>ok_bits_by F C_full_bits
 have C_common_size:Cal l.prog w K mg base 4 "common_size" ["one","other"] (spCS K):=cal_of X G q25 (by walk_at "b2") fun F=>ok_common_size F C_common C_refuse_too_long
 have C_either:Cal l.prog w K mg base 5 "either" ["one","other"] (spJoin K):=⟨⟨f26,_,ok_either F26 C_common_size C_bits_by,b26,k26,PySem.W.mg_of X G a26⟩⟩
 have C_other_days:Cal l.prog w K mg base 2 "other_days" ["turn"] (spOther K):=cal_of X G q27 (by walk_at "b1") fun F=>ok_other_days F C_full_bits
 have C_Rule___init__:CalB l.prog w K mg base 1 "Rule" ["self","kept","made_of","words"] (spRInit K c_Rule):=⟨⟨f28,c_Rule,_,ok_Rule___init__ F28 er,b28,⟨PySem.W.mg_of X G n_Rule,bsp_Rule,brd_Rule,bfc28,k28⟩⟩⟩
 have C_Rec_turn:CalL l.prog w K mg base CX0 2 "turn" ["self"] ([c_All,c_No,c_Each,c_Not,c_Either].map fun C=>(C,(spR (spTurnM K c_Rule [c_All,c_No,c_Each,c_Not,c_Either])) 1)):=rec_calL (k0:=1) (Cs:=[c_All,c_No,c_Each,c_Not,c_Either]) (sp:=(spR (spTurnM K c_Rule [c_All,c_No,c_Each,c_Not,c_Either]))) (all_cons ⟨er.cl_All,q29_0⟩ (all_cons ⟨er.cl_No,q29_1⟩ (all_cons ⟨er.cl_Each,q29_2⟩ (all_cons ⟨er.cl_Not,q29_3⟩ (all_cons ⟨er.cl_Either,q29_4⟩ all_nil))))) (by walk_at "b1") (fun _ _ _ _ h=>spR_zero h) (fun d _ _ CL F=>ok_Rule_turn F er CL (Nat.le_add_right _ _)) 1
 have C_All___init__:CalI l.prog w K mg base CX0 3 "All" c_All ["self"] (spI0 K c_Rule [c_All,c_No,c_Each,c_Not,c_Either] c_All 1):=calI_of X G mk_All kp_All n_All q30 (by walk_at "b1") fun F=>ok_All___init__ F er C_Rule___init__
 have C_No___init__:CalI l.prog w K mg base CX0 3 "No" c_No ["self"] (spI0 K c_Rule [c_All,c_No,c_Each,c_Not,c_Either] c_No 0):=calI_of X G mk_No kp_No n_No q31 (by walk_at "b1") fun F=>ok_No___init__ F er C_Rule___init__
 have C_each_text:Cal l.prog w K mg base 1 "each_text" ["step","rest"] spEachT75:=cal_of X G q32 (by walk_at "b2") fun F=>ok_each_text F
 have C_Each___init__:CalI l.prog w K mg base CX0 3 "Each" c_Each ["self","size","rest"] (spIE75 K c_Rule [c_All,c_No,c_Each,c_Not,c_Either] c_Each):=calI_of X G mk_Each kp_Each n_Each q33 (by walk_at "b3") fun F=>ok_Each___init__ F er C_round_by C_Rule___init__ C_each_text
 have C_Not___init__:CalI l.prog w K mg base CX0 3 "Not" c_Not ["self","R"] (spI175 K c_Rule [c_All,c_No,c_Each,c_Not,c_Either] c_Not):=calI_of X G mk_Not kp_Not n_Not q34 (by walk_at "b2") fun F=>ok_Not___init__ F er C_Rule___init__ C_other_days C_Rec_turn
 have C_Either___init__:CalI l.prog w K mg base CX0 6 "Either" c_Either ["self","R","S"] (spI275 K c_Rule [c_All,c_No,c_Each,c_Not,c_Either] c_Either):=calI_of X G mk_Either kp_Either n_Either q35 (by walk_at "b3") fun F=>ok_Either___init__ F er C_Rule___init__ C_either C_Rec_turn
 have C_Both___init__:CalI l.prog w K mg base CX0 1 "Both" c_Both ["self","R","S"] spNo:=calI_of X G mk_Both kp_Both n_Both q36 (by walk_at "b3") fun F=>ok_Both___init__ F
 have C_But___init__:CalI l.prog w K mg base CX0 1 "But" c_But ["self","R","S"] spNo:=calI_of X G mk_But kp_But n_But q37 (by walk_at "b3") fun F=>ok_But___init__ F
 have C_Unlike___init__:CalI l.prog w K mg base CX0 1 "Unlike" c_Unlike ["self","R","S"] spNo:=calI_of X G mk_Unlike kp_Unlike n_Unlike q38 (by walk_at "b3") fun F=>ok_Unlike___init__ F
 have C_Upon___init__:CalI l.prog w K mg base CX0 1 "Upon" c_Upon ["self","R","S"] spNo:=calI_of X G mk_Upon kp_Upon n_Upon q39 (by walk_at "b3") fun F=>ok_Upon___init__ F
 have C_Until___init__:CalI l.prog w K mg base CX0 1 "Until" c_Until ["self","R","S"] spNo:=calI_of X G mk_Until kp_Until n_Until q40 (by walk_at "b3") fun F=>ok_Until___init__ F
 have C_Near___init__:CalI l.prog w K mg base CX0 1 "Near" c_Near ["self","R","S"] spNo:=calI_of X G mk_Near kp_Near n_Near q41 (by walk_at "b3") fun F=>ok_Near___init__ F
 have C_Till___init__:CalI l.prog w K mg base CX0 1 "Till" c_Till ["self","R","S"] spNo:=calI_of X G mk_Till kp_Till n_Till q42 (by walk_at "b3") fun F=>ok_Till___init__ F
 have C_Later___init__:CalI l.prog w K mg base CX0 1 "Later" c_Later ["self","number","R"] spNo:=calI_of X G mk_Later kp_Later n_Later q43 (by walk_at "b3") fun F=>ok_Later___init__ F
 have C_Kth___init__:CalI l.prog w K mg base CX0 1 "Kth" c_Kth ["self","number","R","S"] spNo:=calI_of X G mk_Kth kp_Kth n_Kth q44 (by walk_at "b4") fun F=>ok_Kth___init__ F
 have C_Every___init__:CalI l.prog w K mg base CX0 1 "Every" c_Every ["self","number","R","day"] spNo:=calI_of X G mk_Every kp_Every n_Every q45 (by walk_at "b4") fun F=>ok_Every___init__ F
 have C_made_date:Cal l.prog w K mg base 1 "made_date" ["plan","calendars"] spNo:=cal_of X G q46 (by walk_at "b2") fun F=>ok_made_date F
 have C_made_pair:Cal l.prog w K mg base 8 "made_pair" ["word","one","other"] (spMP75 K c_Rule [c_All,c_No,c_Each,c_Not,c_Either]):=cal_of X G q47 (by walk_at "b3") fun F=>ok_made_pair F er C_Both___init__ C_Either___init__ C_But___init__ C_Unlike___init__ C_Upon___init__ C_Until___init__ C_Near___init__ C_Till___init__
 have C_made:Cal l.prog w K mg base 57 "made" ["plan","calendars"] ((spMade75 K c_Rule [c_All,c_No,c_Each,c_Not,c_Either]) 45):=rec_cal (k0:=12) (J:=1) (sp:=(spMade75 K c_Rule [c_All,c_No,c_Each,c_Not,c_Either])) X G q48 (by walk_at "b2") (fun _ _ _ _ h=>spMade75_zero h) (fun d _ _ R F=>by
  have hk:12≤12+1*d:=Nat.le_add_right _ _
  exact ok_made F er C_All___init__ C_No___init__ C_Each___init__ C_made_date C_Not___init__ R C_Later___init__ C_Every___init__ C_Kth___init__ C_made_pair hk) 45
 have C_read_rule:CalE l.prog w K mg base 132 "read_rule" ["text","calendars"] (spRead75 c_NoRule):=calE_of X G q49 (by walk_at "b2") fun F=>ok_read_rule F er C_is_readable C_Reader___init__ C_words_of C_take_plan C_Reader_peek C_made
 have C_term_on:Cal l.prog w K mg base 1 "term_on" ["term","k"] spNo:=cal_of X G q50 (by walk_at "b2") fun F=>ok_term_on F
 have C_signs_upto:Cal l.prog w K mg base 1 "signs_upto" ["terms","k"] (spSigns7 K):=cal_of X G q51 (by walk_at "b2") fun F=>ok_signs_upto F y_sum
 have C_is_term:Cal l.prog w K mg base 1 "is_term" ["term"] spNo:=cal_of X G q52 (by walk_at "b1") fun F=>ok_is_term F y_GREATEST_N
 have C_least_length:Cal l.prog w K mg base 1 "least_length" ["base","terms"] (spLeast7 K):=cal_of X G q53 (by walk_at "b2") fun F=>ok_least_length F y_len
 have C_refuse_measure:Cal l.prog w K mg base 2 "refuse_measure" ["base","terms"] (spRefM7 K):=cal_of X G q54 (by walk_at "b2") fun F=>ok_refuse_measure F C_is_term C_least_length y_len y_all y_GREATEST_BASE y_MOST_TERMS
 have C_period_of:Cal l.prog w K mg base 4 "period_of" ["terms"] (spPer7 K):=cal_of X G q55 (by walk_at "b1") fun F=>ok_period_of F C_common
 have C_Measure_upto:CalM l.prog w K mg base CX0 2 c_Measure "upto" ["self","k"] (spUpto7 c_Measure):=calM_of q56 (by walk_at "b2") fun F=>ok_Measure_upto F er C_signs_upto
 have C_Measure___init__:CalI l.prog w K mg base CX0 5 "Measure" c_Measure ["self","base","terms"] (spInitM7 c_Measure):=⟨⟨f57,_,ok_Measure___init__ F57 er C_refuse_measure C_period_of C_Measure_upto y_tuple,b57,⟨mk_Measure,a57,beq_iff_eq.mpr u57,kp_Measure⟩,PySem.W.mg_of X G n_Measure⟩⟩
 have C_refuse_months:Cal l.prog w K mg base 1 "refuse_months" ["lengths","leap"] (spRefMo7 K):=cal_of X G q58 (by walk_at "b2") fun F=>ok_refuse_months F y_len y_min y_max y_MOST_MONTHS y_LONGEST_MONTH
 have C_Sun___init__:CalI l.prog w K mg base CX0 7 "Sun" c_Sun ["self","start","lengths","leap","terms"] (spInitS7 c_Sun c_Measure):=⟨⟨f59,_,ok_Sun___init__ F59 er C_refuse_months C_Measure___init__ C_least_length y_tuple y_sum,b59,⟨mk_Sun,a59,beq_iff_eq.mpr u59,kp_Sun⟩,PySem.W.mg_of X G n_Sun⟩⟩
 have C_Sun___init___d2:CalID l.prog w K mg base CX0 7 "Sun" c_Sun ["self","start","lengths","leap","terms"] [(.int 1),.non] (spInitS7 c_Sun c_Measure):=⟨⟨f59,_,_,ok_Sun___init__ F59 er C_refuse_months C_Measure___init__ C_least_length y_tuple y_sum,b59_2,(.cons (by first | exact rfl | exact rel_int _ _ | trivial) (.cons (by first | exact rfl | exact rel_int _ _ | trivial) .nil)),⟨mk_Sun,a59,beq_iff_eq.mpr u59,kp_Sun⟩,PySem.W.mg_of X G n_Sun⟩⟩
 have C_law_cell_at:Cal l.prog w K mg base 1 "_law_cell_at" ["_law_script","_law_k"] (spCell K):=cal_of X G q60 (by walk_at "b2") fun F=>ok_law_cell_at F y_len
 have C_law_leaf:Cal l.prog w K mg base 1 "_law_leaf" ["_law_cell"] spLeaf75:=cal_of X G q61 (by walk_at "b1") fun F=>ok_law_leaf F y_str
 have C_law_joined:Cal l.prog w K mg base 2 "_law_joined" ["_law_text_here","_law_cell","_law_beside"] spJoin75:=cal_of X G q62 (by walk_at "b3") fun F=>ok_law_joined F C_law_leaf y_str
 have C_law_text:Cal l.prog w K mg base 3 "_law_text" ["_law_script"] (spText75 K):=cal_of X G q63 (by walk_at "b1") fun F=>ok_law_text F C_law_leaf C_law_cell_at C_law_joined y_range
 have C_law_places:Cal l.prog w K mg base 1 "_law_places" ["_law_text_here","_law_signs"] spPlaces75:=cal_of X G q64 (by walk_at "b2") fun F=>ok_law_places F y_range y_len
 have C_law_odd:Cal l.prog w K mg base 1 "_law_odd" ["_law_cell"] spOdd75:=cal_of X G q65 (by walk_at "b1") fun F=>ok_law_odd F
 have C_law_bracket_out:Cal l.prog w K mg base 2 "_law_bracket_out" ["_law_text_here","_law_cell"] spBrk75:=cal_of X G q66 (by walk_at "b2") fun F=>ok_law_bracket_out F C_law_places y_len
 have C_law_blank:Cal l.prog w K mg base 2 "_law_blank" ["_law_text_here","_law_cell","_law_put"] spBlank75:=cal_of X G q67 (by walk_at "b3") fun F=>ok_law_blank F C_law_places y_len
 have C_law_sign_in:Cal l.prog w K mg base 1 "_law_sign_in" ["_law_text_here","_law_cell"] spBrk75:=cal_of X G q68 (by walk_at "b2") fun F=>ok_law_sign_in F y_len
 have C_law_spoiled:Cal l.prog w K mg base 3 "_law_spoiled" ["_law_text_here","_law_way","_law_cell"] spSpoil75:=cal_of X G q69 (by walk_at "b3") fun F=>ok_law_spoiled F C_law_blank C_law_bracket_out C_law_sign_in C_law_odd y_str
 have C_law_deep:Cal l.prog w K mg base 1 "_law_deep" ["_law_many"] spDeep75:=cal_of X G q70 (by walk_at "b1") fun F=>ok_law_deep F y_range
 have C_law_long:Cal l.prog w K mg base 1 "_law_long" ["_law_figures"] spLong75:=cal_of X G q71 (by walk_at "b1") fun F=>ok_law_long F y_str y_range
 have C_law_told:Cal l.prog w K mg base 133 "_law_told" ["_law_text_here","_law_calendars"] spTold75:=cal_of X G q72 (by walk_at "b2") fun F=>ok_law_told F er C_read_rule y_isinstance
 exact ok_law F73 er C_law_cell_at C_Sun___init___d2 C_law_long C_law_told C_law_deep C_law_spoiled C_law_text y_len
end Fw
open PySem PySem.W PyProof.Rows
local macro_rules | `(tactic| walk_at "qg")=> `(tactic| (refine' L2.fnG_mk ?_ ?_ ?_ ?_<;>first | k_is | skip))
local macro_rules | `(tactic| walk_at "qm")=> `(tactic| (refine' L2.fnM_mk ?_ ?_ ?_ ?_ ?_<;>first | k_is | skip))
set_option maxRecDepth 100000 in
set_option maxHeartbeats 0 in
theorem PySem.Challenge.cw_feastwheel_k75_no_rule_texts_holds : PySem.Challenge.rw_feastwheel_k75_no_rule_texts.Holds := by
 refine hd76 ?_
 k_fill
 refine L2.walk_ofB (l:=PySem.Challenge.rw_feastwheel_k75_no_rule_texts) (k:=134) rfl rfl ⟨rfl,by decide,by decide,rfl⟩ (fun w h Y=>PySem.W.kIn_of Y) ?F
 case F=>
  intro w mg fa h KX G hmg
  refine' Fw.all_mk KX G hmg ?n_FeastError ?n_NoNumber ?n_TooLong ?n_NoMeasure ?n_NoRule ?t_NoRule ?k_NoRule ?b_NoRule ?n_NoName ?e_NoRule ?ga_NoRule ?gk_NoRule ?ob_NoRule ?ca_NoRule ?i_NoRule_FeastError ?r_NoRule_NoRule ?i_NoRule_NoName ?n_Measure ?pg_Measure ?k_Measure ?po_Measure ?sa_Measure ?mk_Measure ?kp_Measure ?na_Measure_base ?na_Measure_terms ?na_Measure_full_count ?na_Measure_full_sum ?n_Sun ?pg_Sun ?k_Sun ?po_Sun ?sa_Sun ?mk_Sun ?kp_Sun ?na_Sun_start ?na_Sun_months ?na_Sun_leap ?na_Sun_years ?n_Calendar ?n_Rule ?n_Reader ?pg_Reader ?k_Reader ?po_Reader ?sa_Reader ?mk_Reader ?kp_Reader ?na_Reader_words ?na_Reader_place ?n_All ?pg_All ?k_All ?po_All ?sa_All ?mk_All ?kp_All ?na_All_kept ?na_All_made_of ?na_All_words ?ca_All ?ob_All ?i_All_Rule ?n_No ?pg_No ?k_No ?po_No ?sa_No ?mk_No ?kp_No ?na_No_kept ?na_No_made_of ?na_No_words ?ca_No ?ob_No ?i_No_Rule ?n_Each ?pg_Each ?k_Each ?po_Each ?sa_Each ?mk_Each ?kp_Each ?na_Each_kept ?na_Each_made_of ?na_Each_words ?ca_Each ?ob_Each ?i_Each_Rule ?n_Not ?pg_Not ?k_Not ?po_Not ?sa_Not ?mk_Not ?kp_Not ?na_Not_kept ?na_Not_made_of ?na_Not_words ?ca_Not ?ob_Not ?i_Not_Rule ?n_Either ?pg_Either ?k_Either ?po_Either ?sa_Either ?mk_Either ?kp_Either ?na_Either_kept ?na_Either_made_of ?na_Either_words ?ca_Either ?ob_Either ?i_Either_Rule ?bsp_Rule ?brd_Rule ?xsp ?xtk ?n_Dated ?n_Both ?mk_Both ?kp_Both ?n_But ?mk_But ?kp_But ?n_Unlike ?mk_Unlike ?kp_Unlike ?n_Later ?mk_Later ?kp_Later ?n_Upon ?mk_Upon ?kp_Upon ?n_Until ?mk_Until ?kp_Until ?n_Near ?mk_Near ?kp_Near ?n_Till ?mk_Till ?kp_Till ?n_Kth ?mk_Kth ?kp_Kth ?n_Every ?mk_Every ?kp_Every ?q0 ?q1 ?q2 ?q3 ?q4 ?q5 ?q6 ?q7 ?q8 ?q9 ?q10 ?q11 ?q12 ?q13 ?q14 ?q15 ?q16 ?q17 ?q18 ?q19 ?q20 ?q21 ?q22 ?q23 ?q24 ?q25 ?a26 ?l26 ?c26 ?k26 ?q27 ?a28 ?l28 ?c28 ?k28 ?t28 ?bfc28 ?q29_0 ?q29_1 ?q29_2 ?q29_3 ?q29_4 ?q30 ?q31 ?q32 ?q33 ?q34 ?q35 ?q36 ?q37 ?q38 ?q39 ?q40 ?q41 ?q42 ?q43 ?q44 ?q45 ?q46 ?q47 ?q48 ?q49 ?q50 ?q51 ?q52 ?q53 ?q54 ?q55 ?q56 ?a57 ?l57 ?c57 ?k57 ?t57 ?u57 ?q58 ?a59 ?l59 ?c59 ?k59 ?t59 ?u59 ?q60 ?q61 ?q62 ?q63 ?q64 ?q65 ?q66 ?q67 ?q68 ?q69 ?q70 ?q71 ?q72 ?a73 ?l73 ?c73 ?k73 ?z_tuple ?z_len ?z_all ?z_isinstance ?z_str ?z_int ?z_range ?z_sum ?z_min ?z_max ?m_MOST_LETTERS ?m_LETTERS ?m_MOST_SIGNS ?m_MOST_FIGURES ?m_FIGURES ?m_MOST_BRACKETS ?tt_PAIR_WORDS ?m_PAIR_WORDS ?m_LONGEST ?m_PIECE ?m_GREATEST_N ?m_GREATEST_BASE ?m_MOST_TERMS ?m_MOST_MONTHS ?m_LONGEST_MONTH
  (case n_FeastError=>k_is)
  (case n_NoNumber=>k_is)
  (case n_TooLong=>k_is)
  (case n_NoMeasure=>k_is)
  (case n_NoRule=>k_is)
  (case t_NoRule=>k_is)
  (case k_NoRule=>k_is)
  (case b_NoRule=>k_is)
  (case n_NoName=>k_is)
  (case e_NoRule=>k_exc)
  (case ga_NoRule=>k_is)
  (case gk_NoRule=>k_is)
  (case ob_NoRule=>k_is)
  (case ca_NoRule=>k_is)
  (case i_NoRule_FeastError=>kit_is)
  (case r_NoRule_NoRule=>k_is)
  (case i_NoRule_NoName=>kit_is)
  (case n_Measure=>k_is)
  (case pg_Measure=>k_is)
  (case k_Measure=>k_is)
  (case po_Measure=>k_is)
  (case sa_Measure=>k_is)
  (case mk_Measure=>k_is)
  (case kp_Measure=>k_is)
  (case na_Measure_base=>k_is)
  (case na_Measure_terms=>k_is)
  (case na_Measure_full_count=>k_is)
  (case na_Measure_full_sum=>k_is)
  (case n_Sun=>k_is)
  (case pg_Sun=>k_is)
  (case k_Sun=>k_is)
  (case po_Sun=>k_is)
  (case sa_Sun=>k_is)
  (case mk_Sun=>k_is)
  (case kp_Sun=>k_is)
  (case na_Sun_start=>k_is)
  (case na_Sun_months=>k_is)
  (case na_Sun_leap=>k_is)
  (case na_Sun_years=>k_is)
  (case n_Calendar=>k_is)
  (case n_Rule=>k_is)
  (case n_Reader=>k_is)
  (case pg_Reader=>k_is)
  (case k_Reader=>k_is)
  (case po_Reader=>k_is)
  (case sa_Reader=>k_is)
  (case mk_Reader=>k_is)
  (case kp_Reader=>k_is)
  (case na_Reader_words=>k_is)
  (case na_Reader_place=>k_is)
  (case n_All=>k_is)
  (case pg_All=>k_is)
  (case k_All=>k_is)
  (case po_All=>k_is)
  (case sa_All=>k_is)
  (case mk_All=>k_is)
  (case kp_All=>k_is)
  (case na_All_kept=>k_is)
  (case na_All_made_of=>k_is)
  (case na_All_words=>k_is)
  (case ca_All=>k_is)
  (case ob_All=>k_is)
  (case i_All_Rule=>kit_is)
  (case n_No=>k_is)
  (case pg_No=>k_is)
  (case k_No=>k_is)
  (case po_No=>k_is)
  (case sa_No=>k_is)
  (case mk_No=>k_is)
  (case kp_No=>k_is)
  (case na_No_kept=>k_is)
  (case na_No_made_of=>k_is)
  (case na_No_words=>k_is)
  (case ca_No=>k_is)
  (case ob_No=>k_is)
  (case i_No_Rule=>kit_is)
  (case n_Each=>k_is)
  (case pg_Each=>k_is)
  (case k_Each=>k_is)
  (case po_Each=>k_is)
  (case sa_Each=>k_is)
  (case mk_Each=>k_is)
  (case kp_Each=>k_is)
  (case na_Each_kept=>k_is)
  (case na_Each_made_of=>k_is)
  (case na_Each_words=>k_is)
  (case ca_Each=>k_is)
  (case ob_Each=>k_is)
  (case i_Each_Rule=>kit_is)
  (case n_Not=>k_is)
  (case pg_Not=>k_is)
  (case k_Not=>k_is)
  (case po_Not=>k_is)
  (case sa_Not=>k_is)
  (case mk_Not=>k_is)
  (case kp_Not=>k_is)
  (case na_Not_kept=>k_is)
  (case na_Not_made_of=>k_is)
  (case na_Not_words=>k_is)
  (case ca_Not=>k_is)
  (case ob_Not=>k_is)
  (case i_Not_Rule=>kit_is)
  (case n_Either=>k_is)
  (case pg_Either=>k_is)
  (case k_Either=>k_is)
  (case po_Either=>k_is)
  (case sa_Either=>k_is)
  (case mk_Either=>k_is)
  (case kp_Either=>k_is)
  (case na_Either_kept=>k_is)
  (case na_Either_made_of=>k_is)
  (case na_Either_words=>k_is)
  (case ca_Either=>k_is)
  (case ob_Either=>k_is)
  (case i_Either_Rule=>kit_is)
  (case bsp_Rule=>k_is)
  (case brd_Rule=>k_is)
  (case xsp=>k_is)
  (case xtk=>k_is)
  (case n_Dated=>k_is)
  (case n_Both=>k_is)
  (case mk_Both=>k_is)
  (case kp_Both=>k_is)
  (case n_But=>k_is)
  (case mk_But=>k_is)
  (case kp_But=>k_is)
  (case n_Unlike=>k_is)
  (case mk_Unlike=>k_is)
  (case kp_Unlike=>k_is)
  (case n_Later=>k_is)
  (case mk_Later=>k_is)
  (case kp_Later=>k_is)
  (case n_Upon=>k_is)
  (case mk_Upon=>k_is)
  (case kp_Upon=>k_is)
  (case n_Until=>k_is)
  (case mk_Until=>k_is)
  (case kp_Until=>k_is)
  (case n_Near=>k_is)
  (case mk_Near=>k_is)
  (case kp_Near=>k_is)
  (case n_Till=>k_is)
  (case mk_Till=>k_is)
  (case kp_Till=>k_is)
  (case n_Kth=>k_is)
  (case mk_Kth=>k_is)
  (case kp_Kth=>k_is)
  (case n_Every=>k_is)
  (case mk_Every=>k_is)
  (case kp_Every=>k_is)
  (case q0=>walk_at "qm")
  (case q1=>walk_at "qm")
  (case q2=>walk_at "qm")
  (case q3=>walk_at "qg")
  (case q4=>walk_at "qg")
  (case q5=>walk_at "qg")
  (case q6=>walk_at "qg")
  (case q7=>walk_at "qg")
  (case q8=>walk_at "qg")
  (case q9=>walk_at "qg")
  (case q10=>walk_at "qg")
  (case q11=>walk_at "qg")
  (case q12=>walk_at "qg")
  (case q13=>walk_at "qg")
  (case q14=>walk_at "qg")
  (case q15=>walk_at "qg")
  (case q16=>walk_at "qg")
  (case q17=>walk_at "qg")
  (case q18=>walk_at "qg")
  (case q19=>walk_at "qg")
  (case q20=>walk_at "qg")
  (case q21=>walk_at "qg")
  (case q22=>walk_at "qg")
  (case q23=>walk_at "qg")
  (case q24=>walk_at "qg")
  (case q25=>walk_at "qg")
  (case a26=>k_is)
  (case l26=>k_is)
  (case c26=>k_is)
  (case k26=>k_is)
  (case q27=>walk_at "qg")
  (case a28=>k_is)
  (case l28=>k_is)
  (case c28=>k_is)
  (case k28=>k_is)
  (case t28=>k_is)
  (case bfc28=>k_is)
  (case q29_0=>walk_at "qm")
  (case q29_1=>walk_at "qm")
  (case q29_2=>walk_at "qm")
  (case q29_3=>walk_at "qm")
  (case q29_4=>walk_at "qm")
  (case q30=>walk_at "qm")
  (case q31=>walk_at "qm")
  (case q32=>walk_at "qg")
  (case q33=>walk_at "qm")
  (case q34=>walk_at "qm")
  (case q35=>walk_at "qm")
  (case q36=>walk_at "qm")
  (case q37=>walk_at "qm")
  (case q38=>walk_at "qm")
  (case q39=>walk_at "qm")
  (case q40=>walk_at "qm")
  (case q41=>walk_at "qm")
  (case q42=>walk_at "qm")
  (case q43=>walk_at "qm")
  (case q44=>walk_at "qm")
  (case q45=>walk_at "qm")
  (case q46=>walk_at "qg")
  (case q47=>walk_at "qg")
  (case q48=>walk_at "qg")
  (case q49=>walk_at "qg")
  (case q50=>walk_at "qg")
  (case q51=>walk_at "qg")
  (case q52=>walk_at "qg")
  (case q53=>walk_at "qg")
  (case q54=>walk_at "qg")
  (case q55=>walk_at "qg")
  (case q56=>walk_at "qm")
  (case a57=>k_is)
  (case l57=>k_is)
  (case c57=>k_is)
  (case k57=>k_is)
  (case t57=>k_is)
  (case u57=>k_is)
  (case q58=>walk_at "qg")
  (case a59=>k_is)
  (case l59=>k_is)
  (case c59=>k_is)
  (case k59=>k_is)
  (case t59=>k_is)
  (case u59=>k_is)
  (case q60=>walk_at "qg")
  (case q61=>walk_at "qg")
  (case q62=>walk_at "qg")
  (case q63=>walk_at "qg")
  (case q64=>walk_at "qg")
  (case q65=>walk_at "qg")
  (case q66=>walk_at "qg")
  (case q67=>walk_at "qg")
  (case q68=>walk_at "qg")
  (case q69=>walk_at "qg")
  (case q70=>walk_at "qg")
  (case q71=>walk_at "qg")
  (case q72=>walk_at "qg")
  (case a73=>k_is)
  (case l73=>k_is)
  (case c73=>k_is)
  (case k73=>k_is)
  (case z_tuple=>k_is)
  (case z_len=>k_is)
  (case z_all=>k_is)
  (case z_isinstance=>k_is)
  (case z_str=>k_is)
  (case z_int=>k_is)
  (case z_range=>k_is)
  (case z_sum=>k_is)
  (case z_min=>k_is)
  (case z_max=>k_is)
  (case m_MOST_LETTERS=>k_is)
  (case m_LETTERS=>k_is)
  (case m_MOST_SIGNS=>k_is)
  (case m_MOST_FIGURES=>k_is)
  (case m_FIGURES=>k_is)
  (case m_MOST_BRACKETS=>k_is)
  (case m_PAIR_WORDS=>k_is)
  (case tt_PAIR_WORDS=>k_is)
  (case m_LONGEST=>k_is)
  (case m_PIECE=>k_is)
  (case m_GREATEST_N=>k_is)
  (case m_GREATEST_BASE=>k_is)
  (case m_MOST_TERMS=>k_is)
  (case m_MOST_MONTHS=>k_is)
  (case m_LONGEST_MONTH=>k_is)
#print axioms PySem.Challenge.cw_feastwheel_k75_no_rule_texts_holds
