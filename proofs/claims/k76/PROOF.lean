import PyProof.Rows.All
import Wide.All
import KE.KNestM
import KE.RegKIsAll
import OpenK.KOwn
import OpenK.KLine
import Wide.FinOn
import Lean
import PyProof.EqAt
import PyProof.EqKinds
import PyProof.TupleCall
import KE.KItem
import KE.IntBitsLaws
import KE.KEqSeq
import KE.KIntText
import KE.IntTextLaws
import PySem.Challenge.RW_feastwheel_k76_first_refusal_met
set_option Elab.async false
set_option linter.all false
namespace PySem.W.Fast
def tw4387974450674546942:=()
def tw18060756575673789514:=()
def tw7509395876436557471:=()
def tw14484459846381636896:=()
def tw18149164204829396403:=()
def tw16714093193945749370:=()
def tw9106075415788100024:=()
def tw8696637683734026091:=()
def tw14091638472108143716:=()
def tw8242730307449033700:=()
def tw5611968847466887948:=()
def tw435176724128392031:=()
def tw9782615706237763657:=()
def tw14622932670677449997:=()
def tw16391032689461938250:=()
def tw17574057075021368109:=()
def tw14919383012479097819:=()
def tw11066396527024138306:=()
def tw1274308252545529100:=()
def tw15350892976635850545:=()
def tw17343722520009633114:=()
def tw17745791612048112853:=()
def tw8504749857473082036:=()
def tw18242026517322999710:=()
def tw9533779648961877068:=()
def tw2274308585531709456:=()
def tw11095346998483399116:=()
def tw8119847915337979877:=()
def tw9563331934329108439:=()
def tw11671843788272510334:=()
def tw12082686422011449548:=()
def tw3533116451619277641:=()
def tw4815440977875101678:=()
def tw10758869067231529145:=()
def tw11767955588904072342:=()
def tw14900515034945886899:=()
def tw15341870711607724973:=()
def tw18258929424480239555:=()
def tw8421288964713980154:=()
def tw17741992966336708386:=()
def tw2713498986053897905:=()
def tw6917029616156041150:=()
def tw3785679124942168673:=()
def tw12502041902004964888:=()
def tw17043624551914704819:=()
def tw14317077596632157408:=()
def tw4590551968663106938:=()
def tw277661237100140224:=()
def tw8275634513505185561:=()
def tw12515548386378080852:=()
def tw10887806475729119590:=()
def tw13257342983606251151:=()
def tw17955868673074584302:=()
def tw209043899139786137:=()
def tw2305838579171411326:=()
def tw9362476483897166826:=()
def tw480990459196843596:=()
def tw5141846244992892722:=()
def tw3002043554735509080:=()
def tw15003091849297131035:=()
def tw16970825959958561201:=()
def tw7250797958924846387:=()
def tw13476114283389088952:=()
def tw13964662319194583656:=()
def tw5906298908481421951:=()
def tw4775412166018836864:=()
def tw13750919761892804283:=()
def tw1138248080736523750:=()
def tw17134679867120625558:=()
def tw555465940362761142:=()
def tw15782497356867069892:=()
def tw10019268427171470974:=()
def tw7316550354027302883:=()
def tw16005771098081598446:=()
def tw4241527650190102276:=()
def tw2653741573579970849:=()
def tw5737601090667184146:=()
def tw6625778057500508659:=()
def tw13239315214901610749:=()
def tw16686098436176062658:=()
def tw5878530625947208087:=()
def tw13229721684736967562:=()
def tw8034245456182039962:=()
def tw12161564912882768279:=()
def tw1827765736425185744:=()
def tw4203123027225696478:=()
def tw16071658522152342060:=()
def tw1373436402350386335:=()
def tw8770671992265461392:=()
def tw7508495648170515309:=()
def tw16570727863894922092:=()
def tw5854520934895298511:=()
def tw5446746115893063008:=()
def tw5742315263342558:=()
def tw4214754755695551992:=()
def tw1815110316710551276:=()
def tw7707243308208360107:=()
def tw15572181621607940743:=()
def tw10456716976775848864:=()
def tw10293644640148480566:=()
def tw3833096585786236410:=()
def tw8449430049514634533:=()
def tw10690243512715611183:=()
def tw2188726231209772235:=()
def tw8740998743857500617:=()
def tw4523091615314770355:=()
def tw6247513016442372291:=()
def tw4397614600020080258:=()
def tw910767930823252417:=()
def tw4967207058011836997:=()
def tw17281329512079690595:=()
def tw1392554412409322626:=()
def tw2359144949985995285:=()
def tw6318058151886393666:=()
def tw3118417225815219538:=()
def tw3822473291897159911:=()
def tw6785708221513363983:=()
def tw14459429187623674671:=()
def tw13051313101162552462:=()
def tw4838964883855603897:=()
def tw12085148636189657303:=()
def tw11342156383421936410:=()
def tw13228201978342008529:=()
def tw14168282245299083127:=()
def tw10969481751056512732:=()
def tw5690182792964087958:=()
def tw12673066847724426055:=()
def tw5157151892435445630:=()
def tw9226365724570199517:=()
def tw11423106293142502838:=()
def tw15649678155777109597:=()
def tw2649901164688869866:=()
def tw6600840983710001375:=()
def tw16500704796649162364:=()
def tw14182643680139902551:=()
def tw12846222934784191111:=()
def tw15866555255713299603:=()
def tw11400789471743801358:=()
def tw6903223663735449352:=()
def tw18204749083718006902:=()
def tw360217845056352589:=()
def tw13380793878967228253:=()
def tw11750930771523931294:=()
def tw15615462700962395035:=()
def tw16559113838306023515:=()
def tw17496777428271989674:=()
def tw12388993498058955181:=()
def tw11402869836355396960:=()
def tw2378842050370249976:=()
def tw14769597181711249757:=()
def tw9476061353381579925:=()
def tw1222211813849049182:=()
def tw3764369948272227185:=()
def tw18386982808968175685:=()
def tw4383977606681835812:=()
def tw6590215359219200418:=()
def tw7132424947450457694:=()
def tw8046142741688329462:=()
def tw6685580524549974525:=()
def tw908094827620087170:=()
def tw4782798467706048343:=()
def tw2339416843533388557:=()
def tw6255017903700371735:=()
def tw7623440869080225578:=()
def tw17550748534720260112:=()
def tw7908740229041886234:=()
def tw6543900511380339768:=()
def tw11619522022439331478:=()
def tw8216261698236314673:=()
def tw8742477725679377446:=()
def tw1087877650063306215:=()
def tw18167541869622316:=()
def tw9890914321046022523:=()
def tw15864562259030931753:=()
def tw1609035349621011158:=()
def tw6063770928361391033:=()
def tw7151183831851981051:=()
def tw10914351415392732787:=()
def tw9468479960473894191:=()
def tw8088782379682453002:=()
def tw594562732314045369:=()
def tw14075802416140907095:=()
def tw12826657052331308551:=()
def tw17659209407489896484:=()
def tw16120452879455985249:=()
def tw10709967723376209484:=()
def tw14828423555441673298:=()
def tw14218671286270088204:=()
def tw7734006501136633971:=()
def tw7655808442733934812:=()
def tw16795858444291244937:=()
def tw9245702385437915636:=()
def tw17342576241373507961:=()
def tw17885177602867440092:=()
def tw2225363569349865899:=()
def tw17582705024947371835:=()
def tw5554258992968070836:=()
def tw14823728540228148267:=()
def tw3404429099484344499:=()
def tw1972926402929171708:=()
def tw7816238560581371251:=()
def tw15741839737770405845:=()
def tw3481291055664955039:=()
def tw3364034839157620374:=()
def tw7172148964265561894:=()
def tw477775135934058875:=()
def tw770903269854927611:=()
def tw13637440127051268144:=()
def tw15604941107530720644:=()
def tw1249812736593280984:=()
def tw10712076721710907758:=()
def tw8955790161430422344:=()
def tw18036032831232269994:=()
def tw14428776647557709864:=()
def tw4812931314552018755:=()
def tw1826647328780093951:=()
def tw810793492247379109:=()
def tw11765318365348172947:=()
def tw3341751276528050829:=()
def tw14312899782277092255:=()
def tw17513947539685960182:=()
def tw12012016092327371363:=()
def tw4497599345505419905:=()
def tw14069955068395202840:=()
def tw4783261169253080122:=()
def tw4110198579995557920:=()
def tw792973506259653896:=()
def tw10138251318279118891:=()
def tw4609153745635374178:=()
def tw15791943109865758161:=()
def tw582749992959992569:=()
def tw10676158529361901617:=()
def tw7919795333707032714:=()
def tw6336468977427238382:=()
def tw11170614971757652374:=()
def tw13718719106609551012:=()
def tw12671653097459150418:=()
def tw4367770940995988531:=()
def tw16149994266894025816:=()
def tw5789881512834176171:=()
def tw3334765439072235936:=()
def tw10456599287218999936:=()
def tw6236832226788543210:=()
def tw10802173632288216824:=()
def tw17203866651236112717:=()
def tw4480772040178175575:=()
def tw14057162538629471331:=()
def tw5924844632283654910:=()
def tw10887244216456057971:=()
def tw17066918402649906233:=()
def tw13085263822397623989:=()
def tw18180829900617081344:=()
def tw4618281238940665682:=()
def tw6022147503486747881:=()
def tw12852452359195800984:=()
def tw8556052974356872622:=()
def tw4796265563884565739:=()
def tw108145492625687736:=()
def tw17072734309347668422:=()
def tw4234639227802583416:=()
def tw8248311354548047264:=()
def tw11990558798764136463:=()
def tw11553791482519929503:=()
def tw10943903381512257324:=()
def tw55583207069833115:=()
def tw17717238901530440115:=()
def tw11346655959960183284:=()
def tw10872581783158572542:=()
def tw14136429049052925166:=()
def tw3627249157376146559:=()
def tw15014012906921392929:=()
def tw17001695119372833685:=()
def tw9672035976645070693:=()
def tw5223838311071356904:=()
def tw354624255202179337:=()
def tw9799171881963964506:=()
def tw208502077427310830:=()
def tw16186625114036406919:=()
def tw2292669566313316666:=()
def tw17314292681383534214:=()
def tw12762310607545945281:=()
def tw120318183279494014:=()
def tw13841286638398505125:=()
def tw6779940985121474161:=()
def tw8677015021303965045:=()
def tw13787339116292419194:=()
def tw16419639605474371241:=()
def tw11899844066775523444:=()
def tw7936152045109062518:=()
def tw2162137351812212752:=()
def tw9096549247423772729:=()
def tw5140391441444865010:=()
def tw6450603919666147490:=()
def tw4196246750898816253:=()
def tw12568318767907363411:=()
def tw17402203802713949903:=()
def tw11707127693400336686:=()
def tw14595246522892248006:=()
def tw11535771396580244358:=()
def tw5672250480948371003:=()
def tw3247069622374405223:=()
def tw11332974256838956449:=()
def tw8308934315868414555:=()
def tw15697426249856624193:=()
def tw6311399645813089293:=()
def tw1004240667123394894:=()
def tw1169782578832098775:=()
def tw3307750451545802953:=()
def tw15210973541404460247:=()
def tw2714433249235165549:=()
def tw6081201828148051995:=()
def tw12483215266842699203:=()
def tw17927464291939266686:PySem.Program:=PySem.Challenge.pw_feastwheel_k76_first_refusal_met
theorem te17927464291939266686:PySem.Challenge.pw_feastwheel_k76_first_refusal_met=tw17927464291939266686:=rfl
def tw5310879046676273029:=()
def tw5139956974841546587:=()
def tw13644373385820867241:=()
def tw11564514798722765299:=()
def tw10944864312140481793:=()
def tw13785323468369305418:=()
def tw17649645835242195060:=()
def tw341847732572345561:=()
def tw4420955602710039059:=()
def tw6828095161846501196:=()
def tw9889675148371835128:=()
def tw7360636977500924661:=()
def tw8447364430635228569:=()
def tw15352985364742376104:=()
def tw3284067016372191425:=()
def tw10786800668193360841:=()
def tw15878276617965259038:=()
def tw11002947500431974356:=()
def tw829900555013249265:=()
end PySem.W.Fast
open PySem PySem.W PyProof.Rows in
set_option maxRecDepth 100000 in
set_option maxHeartbeats 0 in
open_top hd76 for PySem.Challenge.rw_feastwheel_k76_first_refusal_met
local macro_rules | `(tactic| walk_at "o")=> `(tactic| first | exact Or.inl rfl | exact Or.inr rfl)
local macro_rules | `(tactic| walk_at "s")=> `(tactic| exact ⟨rfl,rfl,rfl,by decide +kernel,rfl,by decide +kernel,by decide +kernel⟩)
set_option Elab.async false
set_option linter.all false
set_option maxRecDepth 100000
namespace L2
open PySem PySem.Spec PyProof.Rows
abbrev Key:=Sum Int Str
def V7:Key→Value→Bool
 | .inl k,v=>Value.isInt k v
 | .inr x,v=>Value.isStrOf x v
def vp(w:World):Key→Int
 | .inl k=>hashInt k
 | .inr x=>hashStr w x
theorem En:∀{k:Key} {v:Value},V7 k v=true→(∃i t,k=Sum.inl i∧v=Value.int i t)∨(∃x t,k=Sum.inr x∧v=Value.str x t)
 | .inl i,v,h=>by
  obtain⟨t,e⟩:=Value.isInt_shape (k:=i) (v:=v) h
  exact .inl ⟨i,t,rfl,e⟩
 | .inr x,v,h=>by
  obtain⟨t,e⟩:=Value.isStrOf_shape (x:=x) (v:=v) h
  exact .inr ⟨x,t,rfl,e⟩
theorem eX(i:Int)(t:Tok):V7 (.inl i) (.int i t)=true:=by simp[V7,Value.isInt]
theorem eV(x:Str)(t:Tok):V7 (.inr x) (.str x t)=true:=by simp[V7,Value.isStrOf]
theorem sJ(a b:Int):decide ((Sum.inl a:Key)=Sum.inl b)=(a==b):=by
 by_cases e:a=b
 ·subst e;simp
 ·have h:¬(Sum.inl a:Key)=Sum.inl b:=fun q=>e (Sum.inl.inj q)
  rw[decide_eq_false h]
  exact(beq_eq_false_iff_ne.mpr e).symm
theorem sE(a b:Str):decide ((Sum.inr a:Key)=Sum.inr b)=decide (a=b):=by
 by_cases e:a=b
 ·subst e;simp
 ·have h:¬(Sum.inr a:Key)=Sum.inr b:=fun q=>e (Sum.inr.inj q)
  rw[decide_eq_false h,decide_eq_false e]
theorem sI(a:Int)(b:Str):decide ((Sum.inl a:Key)=Sum.inr b)=false:=decide_eq_false (fun q=>nomatch q)
theorem sG(a:Str)(b:Int):decide ((Sum.inr a:Key)=Sum.inl b)=false:=decide_eq_false (fun q=>nomatch q)
def FQ(prog:Program)(w:World):PySem.KeyKind prog w Key where
 is:=V7
 hash:=vp w
 inj:=fun v a b ha hb=>by
  rcases En ha with ⟨i,t,rfl,rfl⟩ | ⟨x,t,rfl,rfl⟩
  ·rcases En hb with ⟨j,u,rfl,e⟩ | ⟨y,u,rfl,e⟩
   ·injection e with e1 _;rw[e1]
   ·exact nomatch e
  ·rcases En hb with ⟨j,u,rfl,e⟩ | ⟨y,u,rfl,e⟩
   ·exact nomatch e
   ·injection e with e1 _;rw[e1]
 byValue:=fun k v h=>by
  rcases En h with ⟨i,t,rfl,rfl⟩ | ⟨x,t,rfl,rfl⟩<;>rfl
 pyHash:=fun hv h=>by
  rcases En hv with ⟨i,t,rfl,rfl⟩ | ⟨x,t,rfl,rfl⟩
  ·exact wpAny_pyHash_int h
  ·exact wpAny_pyHash_str h
 eqBool:=fun hu hv h=>by
  rcases En hu with ⟨i,t,rfl,rfl⟩ | ⟨x,t,rfl,rfl⟩
  ·rcases En hv with ⟨j,u,rfl,rfl⟩ | ⟨y,u,rfl,rfl⟩
   ·rw[sJ] at h;exact wpAny_eqBool_int h
   ·rw[sI] at h;exact SeqAt.EqAt.int_str i t y u _ _ _ _ h
  ·rcases En hv with ⟨j,u,rfl,rfl⟩ | ⟨y,u,rfl,rfl⟩
   ·rw[sG] at h;exact SeqAt.EqAt.str_int x t j u _ _ _ _ h
   ·rw[sE] at h;exact wpAny_eqBool_str h
 «strs»:=fun k x t v h=>by
  rcases En h with ⟨i,u,rfl,e⟩ | ⟨y,u,rfl,e⟩
  ·exact nomatch e
  ·injection e with e1 _
   subst e1
   cases v<;>rfl
theorem Yu(prog:Program)(w:World)(i:Int)(t:Tok):(FQ prog w).is (.inl i) (.int i t)=true:=eX i t
theorem Yt(prog:Program)(w:World)(x:Str)(t:Tok):(FQ prog w).is (.inr x) (.str x t)=true:=eV x t
end L2
namespace L2
open PySem PySem.Spec PyProof.Rows
inductive V where
 | non | bl (b:Bool) | int (i:Int) | str (x:Str) | byt (b:Array UInt8) | flt (b:UInt64) | ref (a:Addr) | ty (n:String)
 deriving DecidableEq
def RelV:V→Value→Prop
 | .non,u=>u=Value.none
 | .bl b,u=>u=Value.bool b
 | .int i,u=>∃t,u=Value.int i t
 | .str x,u=>∃t,u=Value.str x t
 | .byt b,u=>∃t,u=Value.bytes b t
 | .flt b,u=>∃t,u=Value.float b t
 | .ref a,u=>u=Value.ref a
 | .ty n,u=>u=Value.type n
abbrev Vals:List V→List Value→Prop:=Paired RelV
theorem Vals.length{xs:List V}{us:List Value}(r:Vals xs us):xs.length=us.length:=Paired.length r
theorem Vals.get:∀{xs:List V} {us:List Value} {i:Nat} {x:V},Vals xs us→xs[i]?=some x→∃u,us[i]?=some u∧RelV x u
 | _,_,_,_,.nil,e=>by simp at e
 | _,_,0,_,.cons r _,e=>by simp at e;subst e;exact⟨_,rfl,r⟩
 | _,_,i+1,x,.cons _ t,e=>by
  obtain⟨u,h1,h2⟩:=Vals.get (i:=i) (x:=x) t (by simpa using e)
  exact⟨u,by simpa using h1,h2⟩
theorem Vals.set{x:V}{u:Value}(r:RelV x u):∀{xs:List V} {us:List Value} (i:Nat),Vals xs us→Vals (xs.set i x) (us.set i u)
 | _,_,_,.nil=>.nil
 | _,_,0,.cons _ t=>.cons r t
 | _,_,i+1,.cons q t=>.cons q (Vals.set r i t)
theorem Vals.append:∀{xs ys:List V} {us ws:List Value},Vals xs us→Vals ys ws→Vals (xs++ys) (us++ws)
 | _,_,_,_,.nil,s=>s
 | _,_,_,_,.cons r t,s=>.cons r (Vals.append t s)
theorem Vals.take:∀{xs:List V} {us:List Value} (n:Nat),Vals xs us→Vals (xs.take n) (us.take n)
 | _,_,0,_=>.nil
 | _,_,_+1,.nil=>.nil
 | _,_,n+1,.cons r t=>.cons r (Vals.take n t)
def Jp:Option V→Option Value→Prop
 | some v,some u=>RelV v u
 | none,none=>True
 | _,_=>False
def KV{κ:Type}:List (κ×V)→List (κ×Value)→Prop:=Paired fun(p:κ×V) (q:κ×Value)=>p.1=q.1∧RelV p.2 q.2
def kV:Key→V
 | .inl i=>.int i
 | .inr x=>.str x
inductive HO where
 | lst (xs:List V)
 | tup (xs:List V)
 | dK (kvs:List (Key×V)) | dT (kvs:List (List Key×V))
 | set (S:Int→Bool) (n:Nat)
 | ins (C dx:Addr) (fs:List (Str×V))
 | own (x:Addr)
 | xd (fs:List (Str×V))
 | met (f x:Addr)
 | rng (lo hi:Int)
 | frz (o:Obj) (u:HO)
 | tbl (ps:Array Value)
 | ext (φ:Heap→Prop)
abbrev Hp:=Addr→Option HO
def upd(H:Hp)(a:Addr)(o:HO):Hp:=fun b=>if b=a then some o else H b
theorem BR{H:Hp}{a:Addr}{o:HO}:upd H a o a=some o:=by unfold upd;rw[if_pos rfl]
theorem Bw{H:Hp}{a b:Addr}{o:HO}(h:b≠a):upd H a o b=H b:=by unfold upd;rw[if_neg h]
theorem lA{H:Hp}{a:Addr}{o u:HO}:upd (upd H a o) a u=upd H a u:=by
 funext b;unfold upd;split<;>rfl
theorem Jj{H:Hp}{a b:Addr}{o u:HO}(h:H a=some o)(h':H b=some u)(d:o≠u):a≠b:=by
 intro e;subst e;rw[h] at h';exact d (Option.some.inj h')
theorem By{H:Hp}{a b:Addr}{o:HO}(h:H a=some o)(h':H b=none):a≠b:=by
 intro e;subst e;rw[h] at h';cases h'
section
variable(P:Program)(w:World)
def Dp(H:Hp)(h:Heap)(a:Addr):HO→Prop
 | .lst xs=>xs.length≤sizeLine∧∃(its:List Value) (n:Nat),Vals xs its∧h.get? a=some { cls:=.type "list",data:=.seq its.toArray n }
 | .tup xs=>xs.length≤sizeLine∧∃its:List Value,Vals xs its∧IsTup h a its.toArray
 | .dK kvs=>kvs.length≤sizeLine∧(a==sysModules)=false∧∃vs,KV kvs vs∧h.DictOf (FQ P w) a vs
 | .dT kvs=>kvs.length≤sizeLine∧(a==sysModules)=false∧∃xs:List (List Key×Addr×Value),
  Paired (fun (p:List Key×V) (q:List Key×Addr×Value)=>p.1=q.1∧H q.2.1=some (.tup (p.1.map kV))∧RelV p.2 q.2.2) kvs xs∧
  ∃o es ep,h.get? a=some o∧o.ExactDict∧o.data=.dict es ep∧es.toList=xs.map (entryOfKey (tupleKind (FQ P w)))∧(xs.map (·.1)).Nodup
 | .set S n=>h.SetOf (intKind P w) a S n
 | .ins C dx fs=>H dx=some (.own a)∧fs.length≤1000∧dx≠a∧h.get? a=some (PySem.W.instObj C dx)∧
  ∃mA,h.Ns1 dx mA∧(∀f,Jp (fs.lookup f) (mA f))∧PySem.Within mA (fs.map (·.1))
 | .own _=>∃o,h.get? a=some o
 | .xd fs=>∃mA,h.Ns1 a mA∧∀f,Jp (fs.lookup f) (mA f)
 | .rng lo hi=>∃t u v,h.get? a=some { cls:=.type "range",data:=.fields #[.int lo t,.int hi u,.int 1 v] }
 | .frz o u=>h.get? a=some o∧Dp H h a u
 | .tbl ps=>h.get? a=some { cls:=.none,data:=.fields ps }
 | .met f x=>h.get? a=some (PySem.W.methodObj (.ref f) (.ref x))
 | .ext φ=>φ h∧(∃o,h.get? a=some o)∧∀h1 h2:Heap,φ h1→(∀o,h1.get? a=some o→h2.get? a=some o)→φ h2
def HOk(H:Hp)(h:Heap):Prop:=∀a o,H a=some o→Dp P w H h a o
end
section
variable{P:Program}{w:World}{H H':Hp}{h h':Heap}{a:Addr}{o:HO}
theorem Dp.lt(x:Dp P w H h a o):a<h.objs.size:=by
 cases o with
 | lst xs=>obtain⟨_,_,_,_,e⟩:=x;exact Heap.lt_size e
 | tup xs=>obtain⟨_,_,_,p⟩:=x;exact p.lt
 | dK kvs=>obtain⟨_,_,_,_,o,_,_,e,_⟩:=x;exact Heap.lt_size e
 | dT kvs=>obtain⟨_,_,_,_,o,_,_,e,_⟩:=x;exact Heap.lt_size e
 | set S n=>obtain⟨o,_,_,_,e,_⟩:=x;exact Heap.lt_size e
 | ins C dx fs=>obtain⟨_,_,_,e,_⟩:=x;exact Heap.lt_size e
 | own y=>obtain⟨_,e⟩:=x;exact Heap.lt_size e
 | xd fs=>obtain⟨_,⟨_,_,_,e,_⟩,_⟩:=x;exact Heap.lt_size e
 | rng lo hi=>obtain⟨_,_,_,e⟩:=x;exact Heap.lt_size e
 | frz ob u=>obtain⟨e,_⟩:=x;exact Heap.lt_size e
 | tbl ps=>exact Heap.lt_size (show h.get? a=some _ from x)
 | met f y=>exact Heap.lt_size (show h.get? a=some _ from x)
 | ext φ=>obtain⟨_,⟨_,e⟩,_⟩:=x;exact Heap.lt_size e
theorem Paired.mapP{α β:Type}{F G:α→β→Prop}:∀{l₁:List α} {l₂:List β},Paired F l₁ l₂→(∀a b,F a b→G a b)→Paired G l₁ l₂
 | _,_,.nil,_=>.nil
 | _,_,.cons r t,f=>.cons (f _ _ r) (Paired.mapP t f)
theorem Dp.stay(x:Dp P w H h a o)(k:∀b u,(b=a∨H b=some (.own a))→h.get? b=some u→h'.get? b=some u)
 (ho:∀b,H b=some (.own a)→H' b=some (.own a))(ht:∀b xs,H b=some (.tup xs)→H' b=some (.tup xs)):Dp P w H' h' a o:=by
 induction o with
 | lst xs=>obtain⟨z,its,n,r,e⟩:=x;exact⟨z,its,n,r,k _ _ (.inl rfl) e⟩
 | tup xs=>obtain⟨z,its,r,ob,e,c⟩:=x;exact⟨z,its,r,ob,k _ _ (.inl rfl) e,c⟩
 | dK kvs=>obtain⟨z,y,vs,r,ob,es,ep,e,c⟩:=x;exact⟨z,y,vs,r,ob,es,ep,k _ _ (.inl rfl) e,c⟩
 | dT kvs=>
  obtain⟨z,y,xs,r,ob,es,ep,e,c⟩:=x
  exact⟨z,y,xs,Paired.mapP r fun p q z=>⟨z.1,ht _ _ z.2.1,z.2.2⟩,ob,es,ep,k _ _ (.inl rfl) e,c⟩
 | set S n=>obtain⟨ob,es,ep,t,e,c⟩:=x;exact⟨ob,es,ep,t,k _ _ (.inl rfl) e,c⟩
 | ins C dx fs=>
  obtain⟨d,z,ne,e,mA,⟨od,es,ep,e2,c⟩,r⟩:=x
  exact⟨ho _ d,z,ne,k _ _ (.inl rfl) e,mA,⟨od,es,ep,k _ _ (.inr d) e2,c⟩,r⟩
 | own y=>obtain⟨ob,e⟩:=x;exact⟨ob,k _ _ (.inl rfl) e⟩
 | xd fs=>obtain⟨mA,⟨od,es,ep,e,c⟩,r⟩:=x;exact⟨mA,⟨od,es,ep,k _ _ (.inl rfl) e,c⟩,r⟩
 | rng lo hi=>obtain⟨t,u,v,e⟩:=x;exact⟨t,u,v,k _ _ (.inl rfl) e⟩
 | frz ob u ih=>obtain⟨e,q⟩:=x;exact⟨k _ _ (.inl rfl) e,ih q⟩
 | tbl ps=>
  have e:h.get? a=some { cls:=.none,data:=.fields ps }:=x
  show h'.get? a=some { cls:=.none,data:=.fields ps }
  exact k a _ (.inl rfl) e
 | met f y=>
  have e:h.get? a=some (PySem.W.methodObj (.ref f) (.ref y)):=x
  show h'.get? a=some (PySem.W.methodObj (.ref f) (.ref y))
  exact k a _ (.inl rfl) e
 | ext φ=>obtain⟨p,⟨o,e⟩,st⟩:=x;exact⟨st _ _ p fun o q=>k _ _ (.inl rfl) q,⟨o,k _ _ (.inl rfl) e⟩,st⟩
theorem HOk.lt(x:HOk P w H h)(e:H a=some o):a<h.objs.size:=(x a o e).lt
theorem HOk.fresh(x:HOk P w H h)(e:h.objs.size≤a):H a=none:=by
 cases q:H a with
 | none=>rfl
 | some u=>exact absurd (Nat.lt_of_lt_of_le (x.lt q) e) (Nat.lt_irrefl _)
theorem HOk.kept(x:HOk P w H h)(k:∀b u,h.get? b=some u→h'.get? b=some u):HOk P w H h':=fun a o e=>
 (x a o e).stay (fun b u _ q=>k b u q) (fun _ q=>q) fun _ _ q=>q
theorem HOk.laid(x:HOk P w H h)(k:∀b u,h.get? b=some u→h'.get? b=some u)(hp:h.objs.size≤a)(new:Dp P w (upd H a o) h' a o):HOk P w (upd H a o) h':=fun b u e=>by
 have hn:=x.fresh hp
 by_cases hb:b=a
 ·subst hb;rw[BR] at e;cases e;exact new
 ·rw[Bw hb] at e
  exact(x b u e).stay (fun c v _ q=>k c v q) (fun c q=>by rw[Bw (By q hn)];exact q) fun c xs q=>by rw[Bw (By q hn)];exact q
end
def Rd(H:Hp)(a:Addr)(u:HO):Prop:=H a=some u∨∃o,H a=some (.frz o u)
theorem Rd.of{H:Hp}{a:Addr}{u:HO}(h:H a=some u):Rd H a u:=.inl h
theorem Rd.ok{P:Program}{w:World}{H:Hp}{h:Heap}{a:Addr}{u:HO}(r:Rd H a u)(x:HOk P w H h):Dp P w H h a u:=by
 rcases r with r | ⟨o,r⟩
 ·exact x a u r
 ·obtain⟨_,q⟩:=x a _ r
  exact q
def Mut:Option HO→Prop
 | some (.lst _)=>True
 | some (.dK _)=>True
 | some (.dT _)=>True
 | some (.set _ _)=>True
 | some (.ins _ _ _)=>True
 | some (.ext _)=>True
 | _=>False
section
variable{P:Program}{w:World}{H:Hp}{h h':Heap}{x e:Addr}{o':HO}
theorem HOk.write(ok:HOk P w H h)(mu:Mut (H x))(he:e=x∨H e=some (.own x))(k:∀b u,b≠e→h.get? b=some u→h'.get? b=some u)(heo:∃u,h'.get? e=some u)
 (new:Dp P w (upd H x o') h' x o'):HOk P w (upd H x o') h':=fun b u q=>by
 have nown:∀c y,H c=some (.own y)→c≠x:=fun c y r z=>by subst z;rw[r] at mu;exact mu
 have ntup:∀c xs,H c=some (.tup xs)→c≠x:=fun c xs r z=>by subst z;rw[r] at mu;exact mu
 by_cases hb:b=x
 ·subst hb;rw[BR] at q;cases q;exact new
 ·rw[Bw hb] at q
  by_cases hbe:b=e
  ·have q':H b=some (.own x):=by
    rcases he with z | z
    ·exact absurd (hbe.trans z) hb
    ·rw[hbe];exact z
   rw[q] at q';cases q'
   obtain⟨v,hv⟩:=heo
   exact⟨v,by rw[hbe];exact hv⟩
  ·refine(ok b u q).stay (fun c v hc r=>k c v ?_ r) (fun c r=>by rw[Bw (nown c b r)];exact r) fun c xs r=>by rw[Bw (ntup c xs r)];exact r
   rcases hc with rfl | hc
   ·exact hbe
   ·rintro rfl
    rcases he with z | z
    ·exact nown c b hc z
    ·rw[hc] at z;cases z;exact hb rfl
end
structure Un(fs ex:List Addr)(H H':Hp)(h h':Heap):Prop where
 keep:∀b o,h.get? b=some o→H b=none→b∉fs→b∉ex→h'.get? b=some o
 slot:∀b o,h.get? b=some o→H b=none→b∈fs→b∉ex→∃sl,h'.get? b=some { o with slots:=sl }
 free:∀b o,h.get? b=some o→H b=none→b∉ex→H' b=none
 there:∀b o,h.get? b=some o→b∉ex→∃o',h'.get? b=some o'
 tups:∀b xs,H b=some (.tup xs)→H' b=some (.tup xs)
 frzs:∀b o u,H b=some (.frz o u)→H' b=some (.frz o u)
 tbls:∀b ps,H b=some (.tbl ps)→∃more,H' b=some (.tbl (ps++more))
section
variable{fs fs' ex ex':List Addr}{H H1 H2:Hp}{h h1 h2 h':Heap}{a x e:Addr}{o:HO}
theorem Un.any(u:Un fs ex H H1 h h1){b:Addr}{ob:Obj}(q:h.get? b=some ob)(n:H b=none)(hx:b∉ex):∃sl,h1.get? b=some { ob with slots:=sl }:=by
 by_cases hb:b∈fs
 ·exact u.slot b ob q n hb hx
 ·exact⟨ob.slots,u.keep b ob q n hb hx⟩
theorem Un.trans(a:Un fs ex H H1 h h1)(b:Un fs ex H1 H2 h1 h2):Un fs ex H H2 h h2 where
 keep:=fun c ob q n hc hx=>b.keep c ob (a.keep c ob q n hc hx) (a.free c ob q n hx) hc hx
 slot:=fun c ob q n hc hx=>by
  obtain⟨sl,e1⟩:=a.slot c ob q n hc hx
  obtain⟨sl',e2⟩:=b.slot c _ e1 (a.free c ob q n hx) hc hx
  exact⟨sl',e2⟩
 free:=fun c ob q n hx=>by
  obtain⟨o',e1⟩:=a.there c ob q hx
  exact b.free c o' e1 (a.free c ob q n hx) hx
 there:=fun c ob q hx=>by
  obtain⟨o',e1⟩:=a.there c ob q hx
  exact b.there c o' e1 hx
 tups:=fun c xs q=>b.tups c xs (a.tups c xs q)
 frzs:=fun c ob xs q=>b.frzs c ob xs (a.frzs c ob xs q)
 tbls:=fun c ps q=>by
  obtain⟨m1,e1⟩:=a.tbls c ps q
  obtain⟨m2,e2⟩:=b.tbls c _ e1
  exact⟨m1++m2,by rw[e2,Array.append_assoc]⟩
theorem Un.kept(k:∀b u,h.get? b=some u→h'.get? b=some u):Un fs ex H H h h':=
 ⟨fun b ob q _ _ _=>k b ob q,fun b ob q _ _ _=>⟨ob.slots,k b ob q⟩,fun _ _ _ n _=>n,fun b ob q _=>⟨ob,k b ob q⟩,fun _ _ q=>q,fun _ _ _ q=>q,fun _ ps q=>⟨#[],by rw[q];simp⟩⟩
theorem Un.refl:Un fs ex H H h h:=Un.kept fun _ _ q=>q
theorem Un.laid(k:∀b u,h.get? b=some u→h'.get? b=some u)(hp:h.objs.size≤a)(hn:H a=none):Un fs ex H (upd H a o) h h' where
 keep:=fun b u q _ _ _=>k b u q
 slot:=fun b u q _ _ _=>⟨u.slots,k b u q⟩
 free:=fun b u q n _=>by rw[Bw (Nat.ne_of_lt (Nat.lt_of_lt_of_le (Heap.lt_size q) hp))];exact n
 there:=fun b u q _=>⟨u,k b u q⟩
 tups:=fun b xs q=>by rw[Bw (By q hn)];exact q
 frzs:=fun b u xs q=>by rw[Bw (By q hn)];exact q
 tbls:=fun b ps q=>⟨#[],by rw[Bw (By q hn),q];simp⟩
theorem Un.write(mu:Mut (H x))(he:e=x∨H e=some (.own x))(k:∀b u,b≠e→h.get? b=some u→h'.get? b=some u)(heo:∃u,h'.get? e=some u):Un fs ex H (upd H x o) h h':=by
 have hx:∀b,H b=none→b≠x:=fun b n z=>by subst z;rw[n] at mu;exact mu
 have hb:∀b,H b=none→b≠e:=fun b n z=>by
  subst z
  rcases he with r | r
  ·exact hx b n r
  ·rw[n] at r;cases r
 have hm:∀b u,H b=some u→¬Mut (some u)→b≠x:=fun b u q nm z=>by subst z;rw[q] at mu;exact nm mu
 refine⟨fun b u q n _ _=>k b u (hb b n) q,fun b u q n _ _=>⟨u.slots,k b u (hb b n) q⟩,fun b u q n _=>by rw[Bw (hx b n)];exact n,fun b u q _=>?_,
  fun b xs q=>by rw[Bw (hm b _ q fun z=>z)];exact q,fun b u xs q=>by rw[Bw (hm b _ q fun z=>z)];exact q,fun b ps q=>⟨#[],by rw[Bw (hm b _ q fun z=>z),q];simp⟩⟩
 by_cases hbe:b=e
 ·subst hbe;exact heo
 ·exact⟨u,k b u hbe q⟩
theorem Un.mono(u:Un fs ex H H1 h h1)(hs:∀b∈fs,b∈fs')(hx:∀b∈ex,b∈ex'):Un fs' ex' H H1 h h1:=
 ⟨fun b ob q n hb he=>u.keep b ob q n (fun z=>hb (hs b z)) fun z=>he (hx b z),fun _ _ q n _ he=>u.any q n fun z=>he (hx _ z),fun b ob q n he=>u.free b ob q n fun z=>he (hx b z),fun b ob q he=>u.there b ob q fun z=>he (hx b z),u.tups,u.frzs,u.tbls⟩
end
def trk(h:Heap)(H:Hp):List Addr:=(List.range h.objs.size).filter fun a=>(H a).isSome
def Xq(h:Heap)(H:Hp):Heap:=PySem.W.hideAll h (trk h H)
theorem fG(h:Heap)(H:Hp):(Xq h H).objs.size=h.objs.size:=PySem.W.hideAll_size _ _
theorem jk{h:Heap}{H:Hp}{b:Addr}{o:Obj}(e:h.get? b=some o)(n:H b=none):(Xq h H).get? b=some o:=
 PySem.W.hideAll_get _ e fun hm=>by
  have q:(H b).isSome=true:=(List.mem_filter.mp hm).2
  rw[n] at q;simp at q
theorem mZ{h:Heap}{H:Hp}{b:Addr}{o:Obj}(e:(Xq h H).get? b=some o):h.get? b=some o∧H b=none:=by
 have e':h.get? b=some o:=PySem.W.of_hideAll (trk h H) e
 refine⟨e',?_⟩
 cases q:H b with
 | none=>rfl
 | some x=>
  have hm:b∈trk h H:=List.mem_filter.mpr ⟨List.mem_range.mpr (Heap.lt_size e'),by simp[q]⟩
  have z:(Xq h H).get? b=none:=PySem.W.hideAll_none (trk h H) hm
  rw[z] at e;cases e
def oH(g h:Heap)(L:Addr):List (Addr×Obj):=(List.range h.objs.size).filterMap fun a=>if a=L∨(g.get? a).isSome=true then none else (h.get? a).map fun o=>(a,o)
def rest(g h:Heap)(L d:Addr):List (Addr×Obj):=(oH g h L).filter fun p=>decide (p.1≠d)
end L2
namespace L2
open PySem PySem.Spec PyProof.Rows
structure Mod(K:PySem.W.Frag)(mg:Str→Option Value)(base:Heap):Prop where
 kin:K.In base
 glob:base.Ns mainGlobals mg
 blt:∃mb,base.Ns builtinsNs mb∧∀x:Str,x≠"__name__"→mb x=bootBuiltins x
 nolimit:base.NoLimit
structure Cx where
 prog:Program
 w:World
 K:PySem.W.Frag
 mg:Str→Option Value
 base:Heap
 A:Around
 N:List Str
 s₀:Shared
 H₀:Hp
 env:Env
 outer:List Env
 stack:List Env
 ex:List Addr
 fn:Str→Bool
 calm:Bool
 pn:List (Addr×Obj)
 xe:Value→Shared→Prop
def frs(l:List Env):List Addr:=l.filterMap (·.frame)
abbrev Cx.fs(X:Cx):List Addr:=frs X.outer
def Vis(sc:Scope)(x:Str):Prop:=sc.names.lookup x=some .local∨sc.names.lookup x=some .cell∨sc.names.lookup x=some .free
def Loc(sc:Scope)(x:Str):Prop:=sc.names.lookup x=some .local∨sc.names.lookup x=some .cell
def Look(env:Env)(h:Heap)(m:Str→Option Value)(x:Str)(u:Value):Prop:=
 (env.kindOf x=some .local∧m x=some u)∨((env.kindOf x=some .cell∨env.kindOf x=some .free)∧∃c,env.cells.lookup x=some c∧h.IsCell c (some u))
structure Cx.Ok(X:Cx):Prop where
 mod:Mod X.K X.mg X.base
 kind:X.env.scope.kind=.function
 glob:X.env.globals=mainGlobals
 blt:X.env.builtins=builtinsNs
 above:X.s₀.heap.objs.size≤X.env.locals
 inj:∀x y c,X.env.cells.lookup x=some c→X.env.cells.lookup y=some c→x=y
 has:∀x,(X.env.kindOf x=some .cell∨X.env.kindOf x=some .free)→∃c,X.env.cells.lookup x=some c
 cab:∀x c,X.fn x=true→X.env.cells.lookup x=some c→X.s₀.heap.objs.size≤c
 hd:X.calm=true→X.A.handled=none
 frames:X.A.frames=some X.stack
 stk:X.stack=X.outer∨(X.stack=X.env::X.outer∧X.env.frame=some X.env.locals)
 exf:∀b∈X.ex,b≠X.env.locals∧∀x c,X.env.cells.lookup x=some c→c≠b
 bs:∀b o,X.base.get? b=some o→X.s₀.heap.get? b=some o∧X.H₀ b=none
 bsz:X.base.objs.size≤X.s₀.heap.objs.size
 noex:∀b o,X.base.get? b=some o→b∉X.ex
 exfs:∀b∈X.ex,b∉X.fs
 funs:X.s₀.heap.FunFrames X.base X.outer
 frf:∀b∈X.fs,X.H₀ b=none
structure Inv(X:Cx)(pins:List (Addr×Obj))(σ:List (Option V))(H:Hp)(s:Shared):Prop where
 ok:X.Ok
 os:s.os=X.s₀.os
 bare:AllBare s.gens
 base:Un X.fs X.ex X.H₀ H X.s₀.heap s.heap
 loc:∃m,s.heap.Ns X.env.locals m∧∀(i:Nat) (x:Str) (v:V),X.N[i]?=some x→σ[i]?=some (some v)→Vis X.env.scope x→∃u,RelV v u∧Look X.env s.heap m x u
 cell:∀x c,X.env.cells.lookup x=some c→∃v,s.heap.IsCell c v
 free:H X.env.locals=none
 freeC:∀x c,X.env.cells.lookup x=some c→H c=none
 pin:∀p∈X.pn++pins,s.heap.get? p.1=some p.2∧H p.1=none∧p.1≠X.env.locals∧p.1∉X.fs∧∀v,p.2.data≠.cell v
 hok:HOk X.prog X.w H s.heap
 len:σ.length=X.N.length
section
variable{X:Cx}{pins:List (Addr×Obj)}{σ:List (Option V)}{H H':Hp}{s:Shared}{h':Heap}
theorem Cx.Ok.nofr(ok:X.Ok){b:Addr}{o:Obj}(e:X.base.get? b=some o):b∉X.fs:=fun hb=>by
 have:=(ok.funs.mem hb).1
 rw[e] at this;cases this
theorem Inv.bs(I:Inv X pins σ H s):∀b o,X.base.get? b=some o→s.heap.get? b=some o∧H b=none:=fun b o e=>
 ⟨I.base.keep b o (I.ok.bs b o e).1 (I.ok.bs b o e).2 (I.ok.nofr e) (I.ok.noex b o e),I.base.free b o (I.ok.bs b o e).1 (I.ok.bs b o e).2 (I.ok.noex b o e)⟩
theorem Inv.bk(I:Inv X pins σ H s):∀b o,X.base.get? b=some o→s.heap.get? b=some o:=fun b o e=>(I.bs b o e).1
theorem Inv.mod(I:Inv X pins σ H s):Mod X.K X.mg X.base:=I.ok.mod
theorem Inv.kIn(I:Inv X pins σ H s):X.K.In s.heap:=I.ok.mod.kin.keeps I.bk
theorem Inv.lt(I:Inv X pins σ H s):X.env.locals<s.heap.objs.size:=let ⟨_,hn,_⟩:=I.loc;hn.lt
theorem Inv.sz(I:Inv X pins σ H s):X.s₀.heap.objs.size≤s.heap.objs.size:=Nat.le_trans I.ok.above (Nat.le_of_lt I.lt)
theorem Inv.nofs(I:Inv X pins σ H s){a:Addr}(h:s.heap.objs.size≤a):a∉X.fs:=fun hb=>by
 obtain⟨_,o,ho,_⟩:=I.ok.funs.mem hb
 exact absurd (Nat.lt_of_lt_of_le (Heap.lt_size ho) (Nat.le_trans I.sz h)) (Nat.lt_irrefl _)
theorem Inv.cne(I:Inv X pins σ H s):∀x c,X.env.cells.lookup x=some c→c≠X.env.locals:=fun x c e z=>by
 obtain⟨v,o,ho,hd⟩:=I.cell x c e
 obtain⟨m,⟨o',es,ep,ho',hd',_⟩,_⟩:=I.loc
 rw[z,ho'] at ho;cases ho;rw[hd'] at hd;cases hd
theorem Inv.funs(I:Inv X pins σ H s):s.heap.FunFrames X.base X.outer:=by
 have all:∀(l:List Env),(∀b∈frs l,b∈X.fs)→X.s₀.heap.FunFrames X.base l→s.heap.FunFrames X.base l:=by
  intro l
  induction l with
  | nil=>intro _ _;trivial
  | cons env r ih=>
   intro hs hl
   obtain⟨hk,⟨L,o,hf,hn,ho,hd⟩,hr⟩:=hl
   have hL:L∈X.fs:=hs L (by unfold frs;rw[List.filterMap_cons,hf];exact List.mem_cons_self)
   obtain⟨sl,e⟩:=I.base.slot L o ho (I.ok.frf L hL) hL fun z=>I.ok.exfs L z hL
   exact⟨hk,⟨L,_,hf,hn,e,hd⟩,ih (fun b hb=>hs b (by unfold frs;rw[List.filterMap_cons,hf];exact List.mem_cons_of_mem _ hb)) hr⟩
 exact all X.outer (fun _ hb=>hb) I.ok.funs
theorem Inv.stack(I:Inv X pins σ H s):s.heap.FunFrames X.base X.stack:=by
 rcases I.ok.stk with e | ⟨e,hf⟩
 ·rw[e];exact I.funs
 ·rw[e]
  obtain⟨m,hn,_⟩:=I.loc
  refine .cons (by rw[I.ok.kind];decide) hf hn ?_ I.funs
  exact Heap.get?_none_of_le (Nat.le_trans I.ok.bsz I.ok.above)
theorem Inv.stkSub(I:Inv X pins σ H s):∀b∈frs X.stack,b∈X.env.locals::X.fs:=fun b hb=>by
 rcases I.ok.stk with e | ⟨e,hf⟩
 ·rw[e] at hb;exact List.mem_cons_of_mem _ hb
 ·rw[e] at hb
  unfold frs at hb
  rw[List.filterMap_cons,hf] at hb
  exact hb
theorem Inv.stkFree(I:Inv X pins σ H s):∀b∈frs X.stack,H b=none:=fun b hb=>by
 rcases List.mem_cons.mp (I.stkSub b hb) with e | hb
 ·rw[e];exact I.free
 ·obtain⟨_,o,ho,_⟩:=I.ok.funs.mem hb
  exact I.base.free b o ho (I.ok.frf b hb) fun z=>I.ok.exfs b z hb
theorem Inv.step{g':Array GenState}{t':Nat}{d':Drawn}{ch:List Addr}(I:Inv X pins σ H s)
 (hch:∀b∈ch,(b∈X.ex∨X.s₀.heap.objs.size≤b)∧b≠X.env.locals∧(∀x c,X.env.cells.lookup x=some c→c≠b)∧∀p∈X.pn++pins,p.1≠b)
 (keep:∀b o,b≠X.env.locals→b∉X.fs→b∉ch→s.heap.get? b=some o→H b=none→h'.get? b=some o)
 (slot:∀b o,b≠X.env.locals→b∈X.fs→b∉ch→s.heap.get? b=some o→H b=none→∃sl,h'.get? b=some { o with slots:=sl })(free:∀b o,b∉ch→s.heap.get? b=some o→H b=none→H' b=none)
 (there:∀b o,b∉ch→s.heap.get? b=some o→∃o',h'.get? b=some o')
 (tups:∀b xs,H b=some (.tup xs)→H' b=some (.tup xs))(frzs:∀b o u,H b=some (.frz o u)→H' b=some (.frz o u))(tbls:∀b ps,H b=some (.tbl ps)→∃more,H' b=some (.tbl (ps++more)))
 (ns:∀m,s.heap.Ns X.env.locals m→h'.Ns X.env.locals m)(hok:HOk X.prog X.w H' h')(hg:AllBare g'):
 Inv X pins σ H' { s with heap:=h',gens:=g',drawn:=d',toks:=t' }:=by
 have neL:∀b o,X.s₀.heap.get? b=some o→b≠X.env.locals:=fun b o e=>Nat.ne_of_lt (Nat.lt_of_lt_of_le (Heap.lt_size e) I.ok.above)
 have neC:∀b o,X.s₀.heap.get? b=some o→b∉X.ex→b∉ch:=fun b o e hx hb=>by
  rcases(hch b hb).1 with z | z
  ·exact hx z
  ·exact absurd (Nat.lt_of_lt_of_le (Heap.lt_size e) z) (Nat.lt_irrefl _)
 have cellK:∀x c,X.env.cells.lookup x=some c→∀v,s.heap.IsCell c v→h'.IsCell c v:=fun x c e v ⟨o,ho,hd⟩=>by
  have nch:c∉ch:=fun z=>(hch c z).2.2.1 x c e rfl
  by_cases hc:c∈X.fs
  ·obtain⟨sl,q⟩:=slot c o (I.cne x c e) hc nch ho (I.freeC x c e)
   exact⟨_,q,hd⟩
  ·exact⟨o,keep c o (I.cne x c e) hc nch ho (I.freeC x c e),hd⟩
 refine⟨I.ok,I.os,hg,⟨fun b o e n hb hx=>?_,fun b o e n hb hx=>?_,fun b o e n hx=>?_,fun b o e hx=>?_,fun b xs e=>tups b xs (I.base.tups b xs e),fun b o xs e=>frzs b o xs (I.base.frzs b o xs e),fun b ps e=>?_⟩,?_,fun x c e=>?_,?_,fun x c e=>?_,fun p hp=>?_,hok,I.len⟩
 ·exact keep b o (neL b o e) hb (neC b o e hx) (I.base.keep b o e n hb hx) (I.base.free b o e n hx)
 ·obtain⟨sl,e1⟩:=I.base.slot b o e n hb hx
  obtain⟨sl',e2⟩:=slot b _ (neL b o e) hb (neC b o e hx) e1 (I.base.free b o e n hx)
  exact⟨sl',e2⟩
 ·obtain⟨o',e1⟩:=I.base.there b o e hx
  exact free b o' (neC b o e hx) e1 (I.base.free b o e n hx)
 ·obtain⟨o',e1⟩:=I.base.there b o e hx
  exact there b o' (neC b o e hx) e1
 ·obtain⟨m1,e1⟩:=I.base.tbls b ps e
  obtain⟨m2,e2⟩:=tbls b _ e1
  exact⟨m1++m2,by rw[e2,Array.append_assoc]⟩
 ·obtain⟨m,hn,hl⟩:=I.loc
  refine⟨m,ns m hn,fun i x v e1 e2 e3=>?_⟩
  obtain⟨u,r,l⟩:=hl i x v e1 e2 e3
  refine⟨u,r,?_⟩
  rcases l with l | ⟨k,c,e,z⟩
  ·exact .inl l
  ·exact .inr ⟨k,c,e,cellK x c e _ z⟩
 ·obtain⟨v,z⟩:=I.cell x c e
  exact⟨v,cellK x c e v z⟩
 ·obtain⟨m,⟨o,_,_,ho,_⟩,_⟩:=I.loc
  exact free _ o (fun z=>(hch _ z).2.1 rfl) ho I.free
 ·obtain⟨v,o,ho,hd⟩:=I.cell x c e
  exact free c o (fun z=>(hch c z).2.2.1 x c e rfl) ho (I.freeC x c e)
 ·obtain⟨e,n,ne,nf,d⟩:=I.pin p hp
  have nch:p.1∉ch:=fun z=>(hch p.1 z).2.2.2 p hp rfl
  exact⟨keep p.1 p.2 ne nf nch e n,free p.1 p.2 nch e n,ne,nf,d⟩
theorem Inv.un{t':Nat}(I:Inv X pins σ H s)(u:Un X.fs [] H H' s.heap h')(hok:HOk X.prog X.w H' h'):Inv X pins σ H' { s with heap:=h',toks:=t' }:=by
 obtain⟨m,⟨o,es,ep,ho,r⟩,_⟩:=id I.loc
 obtain⟨sl,hL⟩:=u.any ho I.free (by simp)
 exact I.step (g':=s.gens) (d':=s.drawn) (ch:=[]) (fun _ z=>nomatch z) (fun b o _ hb _ e n=>u.keep b o e n hb (by simp)) (fun b o _ hb _ e n=>u.slot b o e n hb (by simp)) (fun b o _ e n=>u.free b o e n (by simp)) (fun b o _ e=>u.there b o e (by simp)) u.tups u.frzs u.tbls (fun m' hm=>by
  obtain⟨o',es',ep',ho',r'⟩:=hm
  rw[ho] at ho';cases ho'
  exact⟨_,es',ep',hL,r'⟩) hok I.bare
theorem Inv.call{g':Array GenState}{t':Nat}{d':Drawn}{ch:List Addr}(I:Inv X pins σ H s)(u:Un (frs X.stack) ch H H' s.heap h')(hok:HOk X.prog X.w H' h')(hg:AllBare g')
 (hch:∀b∈ch,(b∈X.ex∨X.s₀.heap.objs.size≤b)∧b≠X.env.locals∧(∀x c,X.env.cells.lookup x=some c→c≠b)∧∀p∈X.pn++pins,p.1≠b):
 Inv X pins σ H' { s with heap:=h',gens:=g',drawn:=d',toks:=t' }:=by
 obtain⟨m,⟨o,es,ep,ho,r⟩,_⟩:=id I.loc
 obtain⟨sl,hL⟩:=u.any ho I.free fun z=>(hch _ z).2.1 rfl
 exact I.step (ch:=ch) hch (fun b o hL hb hc e n=>u.keep b o e n (fun z=>(List.mem_cons.mp (I.stkSub b z)).elim hL hb) hc) (fun b o _ _ hc e n=>u.any e n hc) (fun b o hc e n=>u.free b o e n hc) (fun b o hc e=>u.there b o e hc) u.tups u.frzs u.tbls (fun m' hm=>by
  obtain⟨o',es',ep',ho',r'⟩:=hm
  rw[ho] at ho';cases ho'
  exact⟨_,es',ep',hL,r'⟩) hok hg
theorem Inv.turned{t':Nat}{it:Addr}(I:Inv X pins σ H s)(k:∀b o,b≠it→s.heap.get? b=some o→h'.get? b=some o)(hn:H it=none)(hL:it≠X.env.locals)
 (h1:it∈X.ex∨X.s₀.heap.objs.size≤it)(h2:∀x c,X.env.cells.lookup x=some c→c≠it)(h3:∀p∈X.pn++pins,p.1≠it):Inv X pins σ H { s with heap:=h',toks:=t' }:=by
 have nit:∀b u,H b=some u→b≠it:=fun b u e z=>by rw[z,hn] at e;cases e
 refine I.step (g':=s.gens) (d':=s.drawn) (ch:=[it]) (fun b hb=>?_) (fun b o _ _ hc e _=>k b o (fun z=>hc (by simp[z])) e) (fun b o _ _ hc e _=>⟨o.slots,k b o (fun z=>hc (by simp[z])) e⟩) (fun _ _ _ _ n=>n)
  (fun b o hc e=>⟨o,k b o (fun z=>hc (by simp[z])) e⟩) (fun _ _ e=>e) (fun _ _ _ e=>e) (fun b ps e=>⟨#[],by rw[e];simp⟩) (fun m hm=>?_) (fun b u e=>?_) I.bare
 ·have e:b=it:=by simpa using hb
  subst e
  exact⟨h1,hL,h2,h3⟩
 ·obtain⟨o,es,ep,ho,r⟩:=hm
  exact⟨o,es,ep,k _ o (Ne.symm hL) ho,r⟩
 ·refine(I.hok b u e).stay (fun c v hc q=>k c v ?_ q) (fun _ q=>q) fun _ _ q=>q
  rcases hc with z | z
  ·rw[z];exact nit b u e
  ·exact nit c _ z
theorem Inv.tok(I:Inv X pins σ H s)(t:Nat):Inv X pins σ H { s with toks:=t }:=I.un (h':=s.heap) (t':=t) Un.refl I.hok
theorem Inv.kept{t':Nat}(I:Inv X pins σ H s)(k:∀b u,s.heap.get? b=some u→h'.get? b=some u):Inv X pins σ H { s with heap:=h',toks:=t' }:=I.un (Un.kept k) (I.hok.kept k)
theorem Inv.laid{a:Addr}{o:HO}{t':Nat}(I:Inv X pins σ H s)(k:∀b u,s.heap.get? b=some u→h'.get? b=some u)(hp:s.heap.objs.size≤a)(new:Dp X.prog X.w (upd H a o) h' a o):
 Inv X pins σ (upd H a o) { s with heap:=h',toks:=t' }:=I.un (Un.laid k hp (I.hok.fresh hp)) (I.hok.laid k hp new)
theorem Inv.write{x e:Addr}{o:HO}{t':Nat}(I:Inv X pins σ H s)(mu:Mut (H x))(he:e=x∨H e=some (.own x))(k:∀b u,b≠e→s.heap.get? b=some u→h'.get? b=some u)(heo:∃u,h'.get? e=some u)
 (new:Dp X.prog X.w (upd H x o) h' x o):Inv X pins σ (upd H x o) { s with heap:=h',toks:=t' }:=I.un (Un.write mu he k heo) (I.hok.write mu he k heo new)
theorem Inv.pins_of{pins':List (Addr×Obj)}(I:Inv X pins σ H s)(h:∀p∈pins',s.heap.get? p.1=some p.2∧H p.1=none∧p.1≠X.env.locals∧p.1∉X.fs∧∀v,p.2.data≠.cell v):Inv X pins' σ H s:=
 ⟨I.ok,I.os,I.bare,I.base,I.loc,I.cell,I.free,I.freeC,fun p hp=>(List.mem_append.mp hp).elim (fun z=>I.pin p (List.mem_append_left _ z)) (h p),I.hok,I.len⟩
theorem Uz{N:List Str}(hN:N.Nodup){i j:Nat}{x:Str}(a:N[i]?=some x)(b:N[j]?=some x):i=j:=by
 obtain⟨h1,e1⟩:=List.getElem?_eq_some_iff.mp a
 obtain⟨h2,e2⟩:=List.getElem?_eq_some_iff.mp b
 exact(List.getElem_inj hN).mp (e1.trans e2.symm)
theorem dW{M:Model}{A:Around}{E:Value→Shared→Prop}{i:Nat}{x:Str}{v:V}{u:Value}{Q:Unit→Shared→Prop}(I:Inv X pins σ H s)(hN:X.N.Nodup)(hi:X.N[i]?=some x)(hx:Loc X.env.scope x)(r:RelV v u)
 (h:∀s',Inv X pins (σ.set i (some v)) H s'→(∃a,Heap.SameBut a s.heap s'.heap∧(a=X.env.locals∨X.env.cells.lookup x=some a))→Q () s')(hf:X.fn x=true∨X.env.scope.names.lookup x=some .local:=by first | exact .inl rfl | exact .inr rfl | assumption):wpAny M A (storeName X.env x u) Q E s:=by
 obtain⟨m,hn,hl⟩:=id I.loc
 have hcls:(X.env.scope.kind==.class||(X.env.scope.kind==.module&&X.env.locals != X.env.globals))=false:=by rw[I.ok.kind];rfl
 have hiσ:i<σ.length:=by rw[I.len];exact(List.getElem?_eq_some_iff.mp hi).1
 have cne:=I.cne
 have tracked:∀{a:Addr} {h':Heap},(∃o,s.heap.get? a=some o∧H a=none)→Heap.SameBut a s.heap h'→HOk X.prog X.w H h':=fun{a h'} ha hs b ob e=>by
  obtain⟨_,_,hfree⟩:=ha
  refine(I.hok b ob e).stay (fun c w' hc q=>(hs.2 c ?_).trans q) (fun _ q=>q) fun _ _ q=>q
  rintro rfl
  rcases hc with rfl | hc
  ·rw[hfree] at e;cases e
  ·rw[hfree] at hc;cases hc
 rcases hx with hk | hk
 ·refine wpAny_storeName_local hk hn (fun h' hn' hs=>?_) hcls
  obtain⟨oL,_,_,hoL,_⟩:=id hn
  refine h _ ⟨I.ok,I.os,I.bare,⟨fun b o e n hb hx=>?_,fun b o e n hb hx=>?_,I.base.free,fun b o e hx=>?_,I.base.tups,I.base.frzs,I.base.tbls⟩,⟨_,hn',fun j y v' e1 e2 e3=>?_⟩,fun y c e=>?_,I.free,I.freeC,fun p hp=>?_,tracked ⟨oL,hoL,I.free⟩ hs,by simpa using I.len⟩ ⟨_,hs,.inl rfl⟩
  ·exact(hs.2 b (Nat.ne_of_lt (Nat.lt_of_lt_of_le (Heap.lt_size e) I.ok.above))).trans (I.base.keep b o e n hb hx)
  ·obtain⟨sl,e1⟩:=I.base.slot b o e n hb hx
   exact⟨sl,(hs.2 b (Nat.ne_of_lt (Nat.lt_of_lt_of_le (Heap.lt_size e) I.ok.above))).trans e1⟩
  ·obtain⟨o',e1⟩:=I.base.there b o e hx
   exact⟨o',(hs.2 b (Nat.ne_of_lt (Nat.lt_of_lt_of_le (Heap.lt_size e) I.ok.above))).trans e1⟩
  ·by_cases hj:j=i
   ·subst hj
    rw[hi] at e1;cases e1
    rw[List.getElem?_set_self hiσ] at e2
    cases e2
    exact⟨u,r,.inl ⟨hk,by simp⟩⟩
   ·rw[List.getElem?_set_ne (Ne.symm hj)] at e2
    obtain⟨u',r',q⟩:=hl j y v' e1 e2 e3
    refine⟨u',r',?_⟩
    rcases q with ⟨k,e⟩ | ⟨k,c,e,z⟩
    ·refine .inl ⟨k,?_⟩
     have:y≠x:=fun e=>hj (Uz hN e1 (e ▸ hi))
     simp[this,e]
    ·exact .inr ⟨k,c,e,z.sameBut hs (cne y c e)⟩
  ·obtain⟨w',z⟩:=I.cell y c e
   exact⟨w',z.sameBut hs (cne y c e)⟩
  ·obtain⟨e,n,ne,nf,d⟩:=I.pin p hp
   exact⟨(hs.2 p.1 ne).trans e,n,ne,nf,d⟩
 ·have hfn:X.fn x=true:=by
   rcases hf with z | z
   ·exact z
   ·rw[z] at hk;cases hk
  obtain⟨c,hc⟩:=I.ok.has x (.inl hk)
  obtain⟨w',z⟩:=I.cell x c hc
  refine wpAny_storeName_cell I.ok.kind hk hc z (fun h' hc' hs=>?_)
  obtain⟨oc,hoc,hocd⟩:=id z
  refine h { s with heap:=h' } ⟨I.ok,I.os,I.bare,⟨fun b o e n hb hx=>?_,fun b o e n hb hx=>?_,I.base.free,fun b o e hx=>?_,I.base.tups,I.base.frzs,I.base.tbls⟩,⟨m,hn.sameBut hs (Ne.symm (cne x c hc)),fun j y v' e1 e2 e3=>?_⟩,fun y c' e=>?_,I.free,I.freeC,fun p hp=>?_,tracked ⟨oc,hoc,I.freeC x c hc⟩ hs,by simpa using I.len⟩ ⟨c,hs,.inr hc⟩
  ·exact(hs.2 b (Nat.ne_of_lt (Nat.lt_of_lt_of_le (Heap.lt_size e) (I.ok.cab x c hfn hc)))).trans (I.base.keep b o e n hb hx)
  ·obtain⟨sl,e1⟩:=I.base.slot b o e n hb hx
   exact⟨sl,(hs.2 b (Nat.ne_of_lt (Nat.lt_of_lt_of_le (Heap.lt_size e) (I.ok.cab x c hfn hc)))).trans e1⟩
  ·obtain⟨o',e1⟩:=I.base.there b o e hx
   exact⟨o',(hs.2 b (Nat.ne_of_lt (Nat.lt_of_lt_of_le (Heap.lt_size e) (I.ok.cab x c hfn hc)))).trans e1⟩
  ·by_cases hj:j=i
   ·subst hj
    rw[hi] at e1;cases e1
    rw[List.getElem?_set_self hiσ] at e2
    cases e2
    exact⟨u,r,.inr ⟨.inl hk,c,hc,hc'⟩⟩
   ·rw[List.getElem?_set_ne (Ne.symm hj)] at e2
    obtain⟨u',r',q⟩:=hl j y v' e1 e2 e3
    refine⟨u',r',?_⟩
    rcases q with q | ⟨k,c',e,z'⟩
    ·exact .inl q
    ·refine .inr ⟨k,c',e,z'.sameBut hs ?_⟩
     rintro rfl
     exact hj (Uz hN e1 (I.ok.inj _ _ _ e hc ▸ hi))
  ·by_cases hcc:c'=c
   ·subst hcc;exact⟨_,hc'⟩
   ·obtain⟨w2,z2⟩:=I.cell y c' e
    exact⟨w2,z2.sameBut hs hcc⟩
  ·obtain⟨e,n,ne,nf,d⟩:=I.pin p hp
   refine⟨(hs.2 p.1 ?_).trans e,n,ne,nf,d⟩
   intro q
   rw[q,hoc] at e
   have q':oc=p.2:=Option.some.inj e
   exact d w' (by rw[←q'];exact hocd)
theorem Ja{M:Model}{A:Around}{E:Value→Shared→Prop}{i:Nat}{x:Str}{v:V}{u:Value}{Q:Unit→Shared→Prop}(I:Inv X pins σ H s)(hN:X.N.Nodup)(hi:X.N[i]?=some x)(hx:Loc X.env.scope x)(r:RelV v u)
 (h:∀s',Inv X pins (σ.set i (some v)) H s'→Q () s')(hf:X.fn x=true∨X.env.scope.names.lookup x=some .local:=by first | exact .inl rfl | exact .inr rfl | assumption):wpAny M A (storeName X.env x u) Q E s:=
 dW I hN hi hx r (fun s' I' _=>h s' I') hf
theorem Inv.call'{s':Shared}{ch:List Addr}(I:Inv X pins σ H s)(ho:s'.os=s.os)(u:Un (frs X.stack) ch H H' s.heap s'.heap)(hok:HOk X.prog X.w H' s'.heap)(hg:AllBare s'.gens)
 (hch:∀b∈ch,(b∈X.ex∨X.s₀.heap.objs.size≤b)∧b≠X.env.locals∧(∀x c,X.env.cells.lookup x=some c→c≠b)∧∀p∈X.pn++pins,p.1≠b):Inv X pins σ H' s':=by
 obtain⟨h',g',d',t',o'⟩:=s'
 have e:o'=s.os:=ho
 subst e
 exact I.call (g':=g') (t':=t') (d':=d') u hok hg hch
end
abbrev XK:=Value→Option Addr→Hp→Prop
abbrev St:=List (Option V)
abbrev VK:=V→Hp→Prop
abbrev TE:=St→Hp→VK→Prop
abbrev TT:=St→Hp→(Bool→Hp→Prop)→Prop
abbrev TA:=St→Hp→(List V→Hp→Prop)→Prop
structure Ends where
 nx:St→Hp→Prop
 rt:VK
 bk:St→Hp→Prop:=fun _ _=>False
 ct:St→Hp→Prop:=fun _ _=>False
abbrev TS:=Ends→St→Hp→Prop
def EP(X:Cx)(pins:List (Addr×Obj))(σ:St)(Q:VK)(u:Value)(s':Shared):Prop:=∃v H',Inv X pins σ H' s'∧RelV v u∧Q v H'
def TP(X:Cx)(pins:List (Addr×Obj))(σ:St)(Q:Bool→Hp→Prop)(b:Bool)(s':Shared):Prop:=∃H',Inv X pins σ H' s'∧Q b H'
def AP(X:Cx)(pins:List (Addr×Obj))(σ:St)(Q:List V→Hp→Prop)(us:List Value)(s':Shared):Prop:=∃vs H',Inv X pins σ H' s'∧Vals vs us∧Q vs H'
def SP(X:Cx)(pins:List (Addr×Obj))(D:Ends)(f:Flow)(s':Shared):Prop:=
 match f with
 | .next=>∃σ' H',Inv X pins σ' H' s'∧D.nx σ' H'
 | .brk=>∃σ' H',Inv X pins σ' H' s'∧D.bk σ' H'
 | .cont=>∃σ' H',Inv X pins σ' H' s'∧D.ct σ' H'
 | .ret u=>∃v σ' H',Inv X pins σ' H' s'∧RelV v u∧D.rt v H'
def PE(X:Cx)(e:Expr)(t:TE):Prop:=
 ∀(pins:List (Addr×Obj)) (s:Shared) (σ:St) (H:Hp) (Q:VK),Inv X pins σ H s→t σ H Q→wpAny (model X.prog X.w) X.A (eval e X.env) (EP X pins σ Q) X.xe s
def PT(X:Cx)(e:Expr)(t:TT):Prop:=
 ∀(pins:List (Addr×Obj)) (s:Shared) (σ:St) (H:Hp) (Q:Bool→Hp→Prop),Inv X pins σ H s→t σ H Q→wpAny (model X.prog X.w) X.A (isTrue e X.env (eval e X.env)) (TP X pins σ Q) X.xe s
def PW(X:Cx)(e:Expr)(t:TT):Prop:=
 ∀(whole:Sem Value) (pins:List (Addr×Obj)) (s:Shared) (σ:St) (H:Hp) (Q:Bool→Hp→Prop),Inv X pins σ H s→t σ H Q→wpAny (model X.prog X.w) X.A (isTrue e X.env whole) (TP X pins σ Q) X.xe s
theorem PW.pt{X:Cx}{e:Expr}{t:TT}(h:PW X e t):PT X e t:=h _
def PA(X:Cx)(es:List Expr)(t:TA):Prop:=
 ∀(pos:Pos) (pins:List (Addr×Obj)) (s:Shared) (σ:St) (H:Hp) (Q:List V→Hp→Prop),Inv X pins σ H s→t σ H Q→wpAny (model X.prog X.w) X.A (spliced (backTo pos (starEach es X.env))) (AP X pins σ Q) X.xe s
def PS(X:Cx)(st:Stmt)(t:TS):Prop:=
 ∀(pins:List (Addr×Obj)) (s:Shared) (σ:St) (H:Hp) (D:Ends),Inv X pins σ H s→t D σ H→wpAny (model X.prog X.w) X.A (exec st X.env) (SP X pins D) X.xe s
def PSs(X:Cx)(st:List Stmt)(t:TS):Prop:=
 ∀(pins:List (Addr×Obj)) (s:Shared) (σ:St) (H:Hp) (D:Ends),Inv X pins σ H s→t D σ H→wpAny (model X.prog X.w) X.A (execs st X.env) (SP X pins D) X.xe s
theorem thn{α:Type}{t:Sem α}{Q Q':α→Shared→Prop}{M:Model}{A:Around}{E:Value→Shared→Prop}{s:Shared}(h:wpAny M A t Q E s)(hQ:∀a s,Q a s→Q' a s):wpAny M A t Q' E s:=wpAny_mono h hQ fun _ _ x=>x
end L2
namespace L2
open PySem PySem.Spec PyProof.Rows
section
variable{X:Cx}
def Zf(i:Nat):TE:=fun σ H Q=>∃v,σ[i]?=some (some v)∧Q v H
def tC(v:V):TE:=fun _ H Q=>Q v H
theorem jB{i:Nat}{x:Str}{pos:Pos}(hN:X.N[i]?=some x)(hv:Vis X.env.scope x)(hd:(x==("__debug__":Str))=false:=by decide)(hcd:(x==("__classdict__":Str))=false:=by decide):PE X (.Name x pos) (Zf i):=by
 intro pins s σ H Q I h
 obtain⟨v,e,h⟩:=h
 obtain⟨m,hn,hl⟩:=I.loc
 obtain⟨u,r,l⟩:=hl i x v hN e hv
 have fin:EP X pins σ Q u s:=⟨v,H,I,r,h⟩
 rcases l with ⟨hk,hm⟩ | ⟨hk,c,hc,hcell⟩
 ·exact wpAny_Name (wpAny_loadName_local I.ok.kind hk hn hm fin) hd
 ·rcases hk with hk | hk
  ·exact wpAny_Name (wpAny_loadName_cell I.ok.kind hk hc hcell fin) hd
  ·exact wpAny_Name (wpAny_loadName_free I.ok.kind hk hc hcell fin hcd) hd
theorem Ai{i j pos}:PE X (.Constant (.int i) j pos) (tC (.int i)):=fun _ _ _ H _ I h=>wpAny_Constant_int ⟨.int i,H,I.tok _,⟨_,rfl⟩,h⟩
theorem uo{b j pos}:PE X (.Constant (.bool b) j pos) (tC (.bl b)):=fun _ _ _ H _ I h=>Constant_bool ⟨.bl b,H,I,rfl,h⟩
theorem JX{j pos}:PE X (.Constant .none j pos) (tC .non):=fun _ _ _ H _ I h=>Constant_none ⟨.non,H,I,rfl,h⟩
theorem BJ{x j pos}:PE X (.Constant (.str x) j pos) (tC (.str x)):=fun _ _ _ H _ I h=>Calls.Constant_str ⟨.str x,H,I.tok _,⟨_,rfl⟩,h⟩
def Gl(X:Cx)(x:Str):Prop:=X.env.kindOf x=some .globalImplicit
theorem GF{E:Value→Shared→Prop}{pins:List (Addr×Obj)}{s:Shared}{σ:St}{H:Hp}{x:Str}{u:Value}{pos:Pos}{Q:Value→Shared→Prop}(I:Inv X pins σ H s)(hg:Gl X x)(hm:X.mg x=some u)(h:Q u s)
 (hd:(x==("__debug__":Str))=false:=by decide):wpAny (model X.prog X.w) X.A (eval (.Name x pos) X.env) Q E s:=
 Calls.Name_function_global I.ok.kind hg (Calls.loadGlobal_global (by rw[I.ok.glob];exact I.mod.glob.keeps I.bk) hm h) hd
theorem KQ{E:Value→Shared→Prop}{pins:List (Addr×Obj)}{s:Shared}{σ:St}{H:Hp}{x:Str}{u:Value}{pos:Pos}{Q:Value→Shared→Prop}(I:Inv X pins σ H s)(hg:Gl X x)(hm:X.mg x=none)(hv:bootBuiltins x=some u)(h:Q u s)
 (hn:x≠"__name__":=by decide)(hd:(x==("__debug__":Str))=false:=by decide):wpAny (model X.prog X.w) X.A (eval (.Name x pos) X.env) Q E s:=by
 obtain⟨mb,h1,h2⟩:=I.mod.blt
 exact Calls.Name_function_global I.ok.kind hg (Calls.loadGlobal_builtin (by rw[I.ok.glob];exact I.mod.glob.keeps I.bk) hm (by rw[I.ok.blt];exact h1.keeps I.bk) ((h2 x hn).trans hv) h) hd
theorem DR{x:Str}{v:V}{u:Value}{pos:Pos}(hg:Gl X x)(hm:X.mg x=some u)(r:RelV v u)(hd:(x==("__debug__":Str))=false:=by decide):PE X (.Name x pos) (tC v):=
 fun _ _ _ H _ I h=>GF I hg hm ⟨v,H,I,r,h⟩ hd
theorem mQ{x:Str}{v:V}{u:Value}{pos:Pos}(hg:Gl X x)(hm:X.mg x=none)(hv:bootBuiltins x=some u)(r:RelV v u)(hn:x≠"__name__":=by decide)(hd:(x==("__debug__":Str))=false:=by decide):PE X (.Name x pos) (tC v):=
 fun _ _ _ H _ I h=>KQ I hg hm hv ⟨v,H,I,r,h⟩ hn hd
variable{a b:Expr}{ta tb:TE}{pos:Pos}
def PC(X:Cx)(op:CmpOp)(a b:Expr)(t:TE):Prop:=
 ∀(pins:List (Addr×Obj)) (s:Shared) (σ:St) (H:Hp) (Q:VK),Inv X pins σ H s→t σ H Q→
  wpAny (model X.prog X.w) X.A (eval a X.env) (fun v s₁=>wpAny (model X.prog X.w) X.A (eval b X.env) (fun u s₂=>wpAny (model X.prog X.w) X.A (compareOp op v u) (EP X pins σ Q) X.xe s₂) X.xe s₁) X.xe s
def tB(t:TE):TT:=fun σ H Q=>t σ H fun x H1=>∃c,x=.bl c∧Q c H1
theorem rA{op:CmpOp}{t:TE}(h:PC X op a b t)(h1:behindInMarks op b=false:=by first | exact nobehind _ (by decide) (by decide) | rfl):PT X (.Compare a [op] [b] pos) (tB t):=by
 intro pins s σ H Q I hw
 refine wpAny_isTrue_Compare1 (thn (h pins s σ H _ I hw) fun v s1 h1=>thn h1 fun u s2 h2=>thn h2 fun c s3 ⟨x,H1,I1,r1,q1⟩=>?_) h1
 obtain⟨d,rfl,q⟩:=q1
 cases r1
 exact wpAny_truthy_bool ⟨H1,I1,q⟩
theorem OD{e:Expr}{t:TE}(h:PE X e t)(he:∀whole,isTrue e X.env whole=(do let v ←whole;standAt e.pos;holding [v] (truthy v)):=by intro _;rfl):PT X e (tB t):=by
 intro pins s σ H Q I hw
 refine isTrue_plain (thn (h pins s σ H _ I hw) fun v s1 ⟨x,H1,I1,r1,q1⟩=>?_) (he _)
 obtain⟨d,rfl,q⟩:=q1
 cases r1
 exact wpAny_truthy_bool ⟨H1,I1,q⟩
variable{tA tB':TT}{rest:List Expr}
def uN(t u:TT):TT:=fun σ H Q=>t σ H fun c H1=>if c=true then u σ H1 Q else Q false H1
def tOr(t u:TT):TT:=fun σ H Q=>t σ H fun c H1=>if c=true then Q true H1 else u σ H1 Q
def uG(t:TT):TT:=fun σ H Q=>t σ H fun c H1=>Q (!c) H1
theorem Sx(ha:PT X a tA):PW X (.BoolOp .And [a] pos) tA:=by
 intro wh pins s σ H Q I h
 refine isTrue_and (thn (ha pins s σ H Q I h) fun c s1 e=>?_)
 cases c with
 | true=>exact isTrue_and_nil e
 | false=>exact e
theorem J8(ha:PT X a tA):PW X (.BoolOp .Or [a] pos) tA:=by
 intro wh pins s σ H Q I h
 refine isTrue_or (thn (ha pins s σ H Q I h) fun c s1 e=>?_)
 cases c with
 | false=>exact isTrue_or_nil e
 | true=>exact e
theorem XF(ha:PT X a tA)(hb:PW X (.BoolOp .And (b::rest) pos) tB'):PW X (.BoolOp .And (a::b::rest) pos) (uN tA tB'):=by
 intro wh pins s σ H Q I h
 refine isTrue_and (thn (ha pins s σ H _ I h) fun c s1 ⟨H1,I1,q1⟩=>?_)
 cases c with
 | true=>exact hb wh pins s1 σ H1 Q I1 q1
 | false=>exact⟨H1,I1,q1⟩
theorem Pr(ha:PT X a tA)(hb:PW X (.BoolOp .Or (b::rest) pos) tB'):PW X (.BoolOp .Or (a::b::rest) pos) (tOr tA tB'):=by
 intro wh pins s σ H Q I h
 refine isTrue_or (thn (ha pins s σ H _ I h) fun c s1 ⟨H1,I1,q1⟩=>?_)
 cases c with
 | true=>exact⟨H1,I1,q1⟩
 | false=>exact hb wh pins s1 σ H1 Q I1 q1
theorem XH(ha:PT X a tA):PT X (.UnaryOp .Not a pos) (uG tA):=by
 intro pins s σ H Q I h
 exact isTrue_not (ha pins s σ H (fun c H1=>Q (!c) H1) I h)
def pD(ta tb:TE):TE:=fun σ H Q=>ta σ H fun x H1=>∃c,x=.bl c∧if c=true then tb σ H1 Q else Q (.bl false) H1
theorem jD{op}{t:TE}(h:PE X a t):PE X (.BoolOp op [a] pos) t:=fun pins s σ H Q I hw=>BoolOp_one (h pins s σ H Q I hw)
theorem jK(ha:PE X a ta)(hb:PE X (.BoolOp .And (b::rest) pos) tb):PE X (.BoolOp .And (a::b::rest) pos) (pD ta tb):=by
 intro pins s σ H Q I h
 refine BoolOp_and (thn (ha pins s σ H _ I h) fun v s1 ⟨x,H1,I1,r1,q1⟩=>?_)
 obtain⟨c,rfl,q1⟩:=q1
 cases r1
 refine wpAny_truthy_bool ?_
 cases c with
 | true=>exact hb pins s1 σ H1 Q I1 q1
 | false=>exact⟨.bl false,H1,I1,rfl,q1⟩
def tIf(t:TT)(ta tb:TE):TE:=fun σ H Q=>t σ H fun c H1=>if c=true then ta σ H1 Q else tb σ H1 Q
theorem FW{c:Expr}(hc:PT X c tA)(ha:PE X a ta)(hb:PE X b tb):PE X (.IfExp c a b pos) (tIf tA ta tb):=by
 intro pins s σ H Q I h
 refine wpAny_IfExp (thn (hc pins s σ H _ I h) fun d s1 ⟨H1,I1,q1⟩=>?_)
 cases d with
 | true=>exact ha pins s1 σ H1 Q I1 q1
 | false=>exact hb pins s1 σ H1 Q I1 q1
end
end L2
namespace L2
open PySem PySem.Spec PyProof.Rows
def SqL(K:PySem.W.Frag)(H:Hp)(a:Addr)(xs:List V):Prop:=
 Rd H a (.lst xs)∨
  ∃(o:Obj) (its:Array Value) (n:Nat),K.lookup a=some o∧o.cls=.type "list"∧o.dict=none∧o.data=.seq its n∧its.size≤sizeLine∧Vals xs its.toList
def SqT(K:PySem.W.Frag)(H:Hp)(a:Addr)(xs:List V):Prop:=
 Rd H a (.tup xs)∨
  ∃(o:Obj) (its:Array Value) (n:Nat),K.lookup a=some o∧o.cls=.type "tuple"∧o.data=.seq its n∧its.size≤sizeLine∧Vals xs its.toList
def wC:Value→Option V
 | .none=>some .non
 | .bool b=>some (.bl b)
 | .int i _=>some (.int i)
 | .str x _=>some (.str x)
 | .bytes b _=>some (.byt b)
 | .float b _=>some (.flt b)
 | .ref a=>some (.ref a)
 | .type n=>some (.ty n)
 | _=>none
theorem RelV.abs{x:V}{u:Value}(r:RelV x u):wC u=some x:=by
 cases x with
 | non=>cases r;rfl
 | bl _=>cases r;rfl
 | int _=>obtain⟨t,rfl⟩:=r;rfl
 | str _=>obtain⟨t,rfl⟩:=r;rfl
 | byt _=>obtain⟨t,rfl⟩:=r;rfl
 | flt _=>obtain⟨t,rfl⟩:=r;rfl
 | ref _=>cases r;rfl
 | ty _=>cases r;rfl
theorem RelV.inj{x y:V}{u:Value}(r:RelV x u)(q:RelV y u):x=y:=Option.some.inj (r.abs.symm.trans q.abs)
theorem Vals.inj:∀{xs ys:List V} {us:List Value},Vals xs us→Vals ys us→xs=ys
 | _,_,_,.nil,.nil=>rfl
 | _,_,_,.cons r t,.cons r' t'=>by rw[r.inj r',Vals.inj t t']
section
variable{X:Cx}{pins:List (Addr×Obj)}{σ:St}{H:Hp}{s:Shared}{a:Addr}{xs ys:List V}
theorem SqL.of{K:PySem.W.Frag}(h:H a=some (.lst xs)):SqL K H a xs:=.inl (.inl h)
theorem SqT.of{K:PySem.W.Frag}(h:H a=some (.tup xs)):SqT K H a xs:=.inl (.inl h)
theorem Inv.list(I:Inv X pins σ H s)(h:SqL X.K H a xs):∃its:List Value,Vals xs its∧PlainL s.heap a its.toArray∧xs.length≤sizeLine:=by
 rcases h with h | ⟨o,its,n,hk,hc,hd,hs,hz,r⟩
 ·obtain⟨z,its,n,r,e⟩:=h.ok I.hok
  exact⟨its,r,⟨_,n,e,rfl,rfl,rfl⟩,z⟩
 ·refine⟨its.toList,r,⟨o,n,I.kIn a o hk,hc,hd,by simpa using hs⟩,?_⟩
  have e:=r.length
  simp only[Array.length_toList] at e
  omega
theorem Inv.tuple(I:Inv X pins σ H s)(h:SqT X.K H a xs):∃its:List Value,Vals xs its∧IsTup s.heap a its.toArray∧xs.length≤sizeLine:=by
 rcases h with h | ⟨o,its,n,hk,hc,hs,hz,r⟩
 ·obtain⟨z,its,r,p⟩:=h.ok I.hok
  exact⟨its,r,p,z⟩
 ·refine⟨its.toList,r,⟨o,I.kIn a o hk,hc,n,by simpa using hs⟩,?_⟩
  have e:=r.length
  simp only[Array.length_toList] at e
  omega
theorem Inv.list_inj(I:Inv X pins σ H s)(h:SqL X.K H a xs)(h':SqL X.K H a ys):xs=ys:=by
 obtain⟨its,r,⟨o,n,e,_,_,d⟩,_⟩:=I.list h
 obtain⟨its',r',⟨o',n',e',_,_,d'⟩,_⟩:=I.list h'
 rw[e] at e';cases e'
 rw[d] at d'
 injection d' with d1 _
 have:its=its':=by simpa using congrArg Array.toList d1
 subst this
 exact r.inj r'
theorem Inv.tuple_inj(I:Inv X pins σ H s)(h:SqT X.K H a xs)(h':SqT X.K H a ys):xs=ys:=by
 obtain⟨its,r,⟨o,e,_,n,d⟩,_⟩:=I.tuple h
 obtain⟨its',r',⟨o',e',_,n',d'⟩,_⟩:=I.tuple h'
 rw[e] at e';cases e'
 rw[d] at d'
 injection d' with d1 _
 have:its=its':=by simpa using congrArg Array.toList d1
 subst this
 exact r.inj r'
end
abbrev Cx.wish(X:Cx)(E:Value→Shared→Prop):Cx:={ X with xe:=E }
abbrev Cx.nox(X:Cx):Cx:=X.wish fun _ _=>False
theorem Cx.Ok.wish{X:Cx}(ok:X.Ok)(E:Value→Shared→Prop):(X.wish E).Ok:=
 ⟨ok.mod,ok.kind,ok.glob,ok.blt,ok.above,ok.inj,ok.has,ok.cab,ok.hd,ok.frames,ok.stk,ok.exf,ok.bs,ok.bsz,ok.noex,ok.exfs,ok.funs,ok.frf⟩
theorem Cx.Ok.unwish{X:Cx}{E:Value→Shared→Prop}(ok:(X.wish E).Ok):X.Ok:=
 ⟨ok.mod,ok.kind,ok.glob,ok.blt,ok.above,ok.inj,ok.has,ok.cab,ok.hd,ok.frames,ok.stk,ok.exf,ok.bs,ok.bsz,ok.noex,ok.exfs,ok.funs,ok.frf⟩
section
variable{X:Cx}{pins:List (Addr×Obj)}{σ:St}{H:Hp}{s:Shared}{E:Value→Shared→Prop}
theorem Inv.wish(I:Inv X pins σ H s)(E:Value→Shared→Prop):Inv (X.wish E) pins σ H s:=⟨I.ok.wish E,I.os,I.bare,I.base,I.loc,I.cell,I.free,I.freeC,I.pin,I.hok,I.len⟩
theorem Inv.unwish(I:Inv (X.wish E) pins σ H s):Inv X pins σ H s:=⟨I.ok.unwish,I.os,I.bare,I.base,I.loc,I.cell,I.free,I.freeC,I.pin,I.hok,I.len⟩
theorem SP.unwish{D:Ends}{f:Flow}{s':Shared}(h:SP (X.wish E) pins D f s'):SP X pins D f s':=by
 cases f with
 | next=>obtain⟨σ',H',I,q⟩:=h;exact⟨σ',H',I.unwish,q⟩
 | brk=>obtain⟨σ',H',I,q⟩:=h;exact⟨σ',H',I.unwish,q⟩
 | cont=>obtain⟨σ',H',I,q⟩:=h;exact⟨σ',H',I.unwish,q⟩
 | ret u=>obtain⟨v,σ',H',I,r,q⟩:=h;exact⟨v,σ',H',I.unwish,r,q⟩
theorem PSs.nox{st:List Stmt}{t:TS}(h:PSs X.nox st t):PSs X st t:=fun pins s σ H D I hw=>
 wpAny_mono (h pins s σ H D (I.wish _) hw) (fun _ _ q=>q.unwish) fun _ _ z=>False.elim z
end
section
variable{X:Cx}{st:Stmt}{rest:List Stmt}{t u:TS}{e:Expr}{te:TE}{pos:Pos}
def o7:TS:=fun D σ H=>D.nx σ H
def uD(t u:TS):TS:=fun D σ H=>t { D with nx:=u D } σ H
theorem Bh:PSs X [] o7:=fun _ _ σ H _ I h=>wpAny_execs_nil ⟨σ,H,I,h⟩
theorem Ab(h1:PS X st t)(h2:PSs X rest u):PSs X (st::rest) (uD t u):=by
 intro pins s σ H D I h
 refine wpAny_execs_cons (thn (h1 pins s σ H { D with nx:=u D } I h) fun f s1 q=>?_)
 cases f with
 | next=>
  obtain⟨σ',H',I',q⟩:=q
  exact h2 pins s1 σ' H' D I' q
 | ret v=>exact q
 | brk=>exact q
 | cont=>exact q
theorem Ag(h1:PS X st t):PSs X [st] t:=by
 intro pins s σ H D I h
 refine wpAny_execs_cons (thn (h1 pins s σ H D I h) fun f s1 q=>?_)
 cases f with
 | next=>exact wpAny_execs_nil q
 | ret v=>exact q
 | brk=>exact q
 | cont=>exact q
def gR:TS:=fun D σ H=>D.bk σ H
theorem iZ:PS X (.Break pos) gR:=fun _ _ σ H _ I h=>wpAny_Break ⟨σ,H,I,h⟩
theorem Inv.quiet{pins:List (Addr×Obj)}{σ:St}{H:Hp}{s:Shared}(I:Inv X pins σ H s):interactive X.env=false:=by simp[interactive,I.ok.kind]
def o9(te:TE):TS:=fun D σ H=>te σ H fun _ H1=>D.nx σ H1
theorem CT(he:PE X e te)(hs:swapsWith e none pos.line X.env=pure false:=by rfl):PS X (.Expr e pos) (o9 te):=by
 intro pins s σ H D I h
 exact wpAny_Expr_any (thn (he pins s σ H _ I h) fun v s1 ⟨x,H1,I1,r1,q1⟩=>⟨σ,H1,I1,q1⟩) I.quiet hs
def uE(te:TE):TS:=fun D σ H=>te σ H D.rt
theorem BZ(he:PE X e te):PS X (.Return (some e) pos) (uE te):=by
 intro pins s σ H D I h
 exact wpAny_Return_some (thn (he pins s σ H _ I h) fun v s1 ⟨x,H1,I1,r1,q1⟩=>⟨x,σ,H1,I1,r1,q1⟩)
def uI(c:TT)(t u:TS):TS:=fun D σ H=>c σ H fun b H1=>if b=true then t D σ H1 else u D σ H1
theorem CG{c:Expr}{a b:List Stmt}{tc:TT}(hc:PT X c tc)(ha:PSs X a t)(hb:PSs X b u):PS X (.If c a b pos) (uI tc t u):=by
 intro pins s σ H D I h
 refine wpAny_If (thn (hc pins s σ H _ I h) fun d s1 ⟨H1,I1,q1⟩=>?_)
 cases d with
 | true=>exact ha pins s1 σ H1 D I1 q1
 | false=>exact hb pins s1 σ H1 D I1 q1
def p7:TS:=fun _ _ _=>False
theorem Fg:PS X st p7:=fun _ _ _ _ _ _ h=>h.elim
end
abbrev TG:=V→St→Hp→(St→Hp→Prop)→Prop
def PG(X:Cx)(target:Expr)(t:TG):Prop:=
 ∀(pins:List (Addr×Obj)) (s:Shared) (σ:St) (H:Hp) (v:V) (u:Value) (Q:St→Hp→Prop),Inv X pins σ H s→RelV v u→t v σ H Q→
  wpAny (model X.prog X.w) X.A (assign target X.env u) (fun _ s'=>∃σ' H',Inv X pins σ' H' s'∧Q σ' H') X.xe s
abbrev oK:=V→V→V→Hp→(Hp→Prop)→Prop
def vK(X:Cx)(t:oK):Prop:=
 ∀(pins:List (Addr×Obj)) (s:Shared) (σ:St) (H:Hp) (o i v:V) (ov iv u:Value) (Q:Hp→Prop),Inv X pins σ H s→RelV o ov→RelV i iv→RelV v u→t o i v H Q→
  wpAny (model X.prog X.w) X.A (setItem ov iv u) (fun _ s'=>∃H',Inv X pins σ H' s'∧Q H') X.xe s
section
variable{X:Cx}{pos:Pos}
def jo(i:Nat):TG:=fun v σ H Q=>Q (σ.set i (some v)) H
theorem Hi{i:Nat}{x:Str}(hN:X.N.Nodup)(hi:X.N[i]?=some x)(hx:Loc X.env.scope x)(hf:X.fn x=true∨X.env.scope.names.lookup x=some .local:=by first | exact .inl rfl | exact .inr rfl | assumption):PG X (.Name x pos) (jo i):=by
 intro pins s σ H v u Q I r h
 exact wpAny_assign_Name (Ja I hN hi hx r (fun s' I'=>⟨_,H,I',h⟩) hf)
def vB(to ti:TE)(t:oK):TG:=fun v σ H Q=>to σ H fun o H1=>ti σ H1 fun i H2=>t o i v H2 fun H3=>Q σ H3
theorem jA{o i:Expr}{to ti:TE}{t:oK}(ho:PE X o to)(hi:PE X i ti)(hs:vK X t)
 (ha:∀v,assign (.Subscript o i pos) X.env v=(do
  let ov ←holding [v] (eval o X.env)
  let iv ←holding [v,ov] (eval i X.env)
  standAt pos
  holding [v,ov,iv] (setItem ov iv v)
  release [v,ov,iv] []):=by intro _;rfl):PG X (.Subscript o i pos) (vB to ti t):=by
 intro pins s σ H v u Q I r h
 rw[ha]
 refine wpAny_bind (wpAny_holding (thn (ho pins s σ H _ I h) fun ov s1 ⟨x,H1,I1,r1,q1⟩=>?_))
 refine wpAny_bind (wpAny_holding (thn (hi pins s1 σ H1 _ I1 q1) fun iv s2 ⟨y,H2,I2,r2,q2⟩=>?_))
 refine wpAny_bind (wpAny_standAt (wpAny_bind (wpAny_holding (thn (hs pins s2 σ H2 x y v ov iv u _ I2 r1 r2 r q2) fun _ s3 ⟨H3,I3,q3⟩=>?_))))
 exact wpAny_release ⟨σ,H3,I3,q3⟩
def qC(te:TE)(g:TG):TS:=fun D σ H=>te σ H fun x H1=>g x σ H1 D.nx
theorem ig{tg e:Expr}{te:TE}{g:TG}(he:PE X e te)(hg:PG X tg g)(hs:swapsWithSole [tg] e pos.line X.env=pure false:=by rfl)(hw:swappedStores [tg] e X.env=pure none:=by rfl)
 (h1:(assignEach [tg] X.env).map (·.2)=[assign tg X.env]:=by rfl):PS X (.Assign [tg] e pos) (qC te g):=by
 intro pins s σ H D I h
 refine wpAny_Assign_stores (thn (he pins s σ H _ I h) fun v s1 ⟨x,H1,I1,r1,q1⟩=>?_) hs hw
 rw[h1]
 exact thn (hg pins s1 σ H1 x v _ I1 r1 q1) fun _ s2 q=>q
theorem BK{i:Nat}{x:Str}{e:Expr}{te:TE}{pos':Pos}(hN:X.N.Nodup)(hi:X.N[i]?=some x)(hx:Loc X.env.scope x)(he:PE X e te)(hs:swapsWith e (some (.Name x pos')) pos.line X.env=pure false:=by rfl)(hf:X.fn x=true∨X.env.scope.names.lookup x=some .local:=by first | exact .inl rfl | exact .inr rfl | assumption):
 PS X (.Assign [.Name x pos'] e pos) (qC te (jo i)):=by
 intro pins s σ H D I h
 refine wpAny_Assign_Name (thn (he pins s σ H _ I h) fun v s1 ⟨y,H1,I1,r1,q1⟩=>?_) hs
 exact Ja I1 hN hi hx r1 (fun s2 I2=>⟨_,H1,I2,q1⟩) hf
def uF(i j:Nat)(ta:TA):TS:=fun D σ H=>ta σ H fun vs H1=>∃v w,vs=[v,w]∧D.nx ((σ.set i (some v)).set j (some w)) H1
theorem rC{i j:Nat}{x y:Str}{a b:Expr}{ta:TA}{px py pt:Pos}{kt k2 pt2}(hc:X.calm=true)(hN:X.N.Nodup)(hi:X.N[i]?=some x)(hj:X.N[j]?=some y)(hij:i≠j)
 (hx:X.env.scope.names.lookup x=some .local)(hy:X.env.scope.names.lookup y=some .local)(ha:PA X [a,b] ta)
 (hw:swappedStores [.Tuple [.Name x px,.Name y py] kt pt] (.Tuple [a,b] k2 pt2) X.env=pure (some [x,y]))
 (hs:swapsWithSole [.Tuple [.Name x px,.Name y py] kt pt] (.Tuple [a,b] k2 pt2) pos.line X.env=pure false:=by rfl):
 PS X (.Assign [.Tuple [.Name x px,.Name y py] kt pt] (.Tuple [a,b] k2 pt2) pos) (uF i j ta):=by
 intro pins s σ H D I h
 rw[exec_Assign_arm]
 refine wpAny_bind (wpAny_standAt ?_)
 rw[hs]
 refine wpAny_bind (wpAny_pure ?_)
 rw[if_neg (by decide)]
 refine wpAny_bind (Tuple_ (thn (ha _ pins s σ H _ I h) fun us s1 ⟨vs,H1,I1,r1,q1⟩=>?_))
 obtain⟨v,w,e1,q1⟩:=q1
 subst e1
 obtain⟨u1,u2,rfl,rv,rw'⟩:∃u1 u2,us=[u1,u2]∧RelV v u1∧RelV w u2:=by
  cases r1 with
  | cons p q=>
   cases q with
   | cons p' q'=>
    cases q'
    exact⟨_,_,rfl,p,p'⟩
 refine wpAny_newObj_type ?_ (by show 2≤sizeLine;decide)
 have I2:Inv X pins σ H1 { s1 with heap:=s1.heap.push { cls:=.type "tuple",data:=.seq [u1,u2].toArray } }:=I1.kept (t':=s1.toks) fun b o e=>Heap.get?_push_of_some _ e
 rw[hw]
 refine wpAny_bind (wpAny_pure ?_)
 show wpAny (model X.prog X.w) X.A (do rule "assign.swapped-stores";let items ←unpackItems (.ref s1.heap.objs.size) 2 none;assignInOrder [fun v=>bindName X.env y v,fun v=>bindName X.env x v] items.reverse;pure Flow.next) _ _ _
 refine wpAny_bind (wpAny_rule (wpAny_bind (unpackItems_tuple (items:= #[u1,u2]) (I.ok.hd hc) (IsTup.new s1.heap _) fun h' hx'=>?_)))
 have I3:=I2.kept (h':=h') (t':=s1.toks) fun b o e=>hx' b o (Nat.ne_of_lt (Heap.lt_size e)) e
 show wpAny _ _ (assignInOrder [fun v=>bindName X.env y v,fun v=>bindName X.env x v] [u2,u1] >>= fun _=>pure Flow.next) _ _ _
 refine wpAny_bind (assignInOrder_cons (wpAny_bindName (Ja I3 hN hj (.inl hy) rw' (fun s2 I4=>?_) (.inr hy))))
 refine assignInOrder_cons (wpAny_bindName (Ja I4 hN hi (.inl hx) rv (fun s3 I5=>assignInOrder_nil (wpAny_pure ?_)) (.inr hx)))
 rw[List.set_comm _ _ (Ne.symm hij)] at I5
 exact⟨_,H1,I5,q1⟩
end
section
variable{X:Cx}{pos:Pos}
def p6(c:TT)(tb:TS):TS:=fun D σ H=>∃W:Nat→St→Hp→Prop,(∃m,W m σ H)∧∀m σ H,W m σ H→
 c σ H fun b H1=>if b=true then ∃N:St→Hp→Prop,(∀σ' H',N σ' H'→∃m',m'<m∧W m' σ' H')∧tb { D with nx:=N,ct:=N,bk:=D.nx } σ H1 else D.nx σ H1
theorem Ie{c:Expr}{body:List Stmt}{tc:TT}{tb:TS}(hp:PassesOwn (model X.prog X.w) X.A X.env X.xe)(hc:PT X c tc)(hb:PSs X body tb):PS X (.While c body [] pos) (p6 tc tb):=by
 intro pins s σ H D I h
 obtain⟨W,⟨m0,w0⟩,turn⟩:=h
 refine wpAny_While (codeAny_whileLoop (fun n s'=>∃σ' H',Inv X pins σ' H' s'∧W n σ' H') ?_ m0 ⟨σ,H,I,w0⟩)
 rintro n s1 ⟨σ1,H1,I1,w1⟩
 refine wpAny_passesOwn hp (thn (hc pins s1 σ1 H1 _ I1 (turn n σ1 H1 w1)) fun b s2 ⟨H2,I2,q2⟩=>?_)
 cases b with
 | true=>
  obtain⟨N,hN,q2⟩:=q2
  rw[if_pos rfl]
  refine wpAny_passesOwn hp (thn (hb pins s2 σ1 H2 _ I2 q2) fun f s3 q3=>?_)
  cases f with
  | next=>
   obtain⟨σ3,H3,I3,n3⟩:=q3
   obtain⟨m',hm,w3⟩:=hN σ3 H3 n3
   exact⟨m',hm,σ3,H3,I3,w3⟩
  | cont=>
   obtain⟨σ3,H3,I3,n3⟩:=q3
   obtain⟨m',hm,w3⟩:=hN σ3 H3 n3
   exact⟨m',hm,σ3,H3,I3,w3⟩
  | brk=>exact q3
  | ret v=>exact q3
 | false=>
  rw[if_neg Bool.false_ne_true]
  exact wpAny_execs_nil ⟨σ1,H2,I2,q2⟩
end
structure It where
 go:Nat→Hp→Prop
 yld:Nat→Hp→V→Hp→Prop
 stop:Nat→Hp→Prop
def Rc(X:Cx)(pins:List (Addr×Obj))(H:Hp)(b:Addr):Prop:=
 H b=none∧b≠X.env.locals∧b∉X.fs∧(b∈X.ex∨X.s₀.heap.objs.size≤b)∧(∀x c,X.env.cells.lookup x=some c→c≠b)∧∀p∈X.pn++pins,p.1≠b
theorem Inv.fpOk{X:Cx}{pins:List (Addr×Obj)}{σ:St}{H H':Hp}{s:Shared}{b:Addr}(I:Inv X pins σ H s)(hb:s.heap.objs.size≤b)(hn:H' b=none):Rc X pins H' b:=by
 refine⟨hn,Nat.ne_of_gt (Nat.lt_of_lt_of_le I.lt hb),I.nofs hb,.inr (Nat.le_trans I.sz hb),fun x c e z=>?_,fun p hp z=>?_⟩
 ·obtain⟨v,q⟩:=I.cell x c e
  exact absurd (Nat.lt_of_lt_of_le q.lt (by rw[z];exact hb)) (Nat.lt_irrefl _)
 ·exact absurd (Nat.lt_of_lt_of_le (Heap.lt_size (I.pin p hp).1) (by rw[z];exact hb)) (Nat.lt_irrefl _)
structure Turn(P:Program)(w:World)(K:PySem.W.Frag)(tg:Expr)(J:It)(fp:List Addr)(it:Addr)(tn:Nat→Heap→Prop):Prop where
 mem:it∈fp
 obj:∀i h,tn i h→∀b∈fp,∃o,h.get? b=some o∧∀v,o.data≠.cell v
 keep:∀i h h',tn i h→(∀b∈fp,∀o,h.get? b=some o→h'.get? b=some o)→tn i h'
 item:∀(X:Cx),X.prog=P→X.w=w→X.K=K→X.calm=true→∀(i:Nat) (pins:List (Addr×Obj)) (s:Shared) (σ:St) (H:Hp) (E:Value→Shared→Prop),Inv X pins σ H s→(∀b∈fp,Rc X pins H b)→tn i s.heap→J.go i H→
  wpAny (model P w) X.A (pyNext (.ref it)) (fun r s1=>∃u,r=some u∧
   wpAny (model P w) X.A (letOwnedTupleGo tg (.ref it) u) (fun _ s2=>∃x H',Inv X pins σ H' s2∧RelV x u∧J.yld i H x H'∧tn (i+1) s2.heap∧∀b∈fp,H' b=none) E s1) E s
 done:∀(X:Cx),X.prog=P→X.w=w→X.K=K→X.calm=true→∀(i:Nat) (pins:List (Addr×Obj)) (s:Shared) (σ:St) (H:Hp) (E:Value→Shared→Prop),Inv X pins σ H s→(∀b∈fp,Rc X pins H b)→tn i s.heap→J.stop i H→
  wpAny (model P w) X.A (pyNext (.ref it)) (fun r s1=>r=none∧Inv X pins σ H s1) E s
 self:∀(A:Around) (i:Nat) (s:Shared) (Q:Value→Shared→Prop) (E:Value→Shared→Prop),tn i s.heap→Q (.ref it) s→wpAny (model P w) A (pyIter (.ref it)) Q E s
abbrev TI:=St→Hp→(It→Hp→Prop)→Prop
def PIE(X:Cx)(pins:List (Addr×Obj))(σ:St)(tg:Expr)(R:It→Hp→Prop)(itv:Value)(s2:Shared):Prop:=
 ∃(it:Addr) (fp:List Addr) (tn:Nat→Heap→Prop) (J:It) (H':Hp),itv=.ref it∧Inv X pins σ H' s2∧Turn X.prog X.w X.K tg J fp it tn∧tn 0 s2.heap∧(∀b∈fp,Rc X pins H' b)∧R J H'
def PI(X:Cx)(tg iter:Expr)(wi:TI):Prop:=
 ∀(pins:List (Addr×Obj)) (s:Shared) (σ:St) (H:Hp) (R:It→Hp→Prop),Inv X pins σ H s→wi σ H R→
  wpAny (model X.prog X.w) X.A (eval iter X.env) (fun v s1=>wpAny (model X.prog X.w) X.A (pyIter v) (PIE X pins σ tg R) X.xe s1) X.xe s
theorem Y0{M:Model}{A:Around}{E:Value→Shared→Prop}{s:Shared}{tg:Expr}{it:Addr}{u:Value}{o:Obj}{n:String}{vs:Array Value}{Q:Unit→Shared→Prop}(ho:s.heap.get? it=some o)(hc:o.cls=.type n)(hd:o.data=.fields vs)
 (hn:["enumerate","zip","dict_itemiterator","dict_reverseitemiterator","odict_iterator","itertools.zip_longest","itertools.pairwise"].contains n=false)(hQ:Q () s):wpAny M A (letOwnedTupleGo tg (.ref it) u) Q E s:=by
 unfold letOwnedTupleGo
 cases tg<;>first
  | exact wpAny_pure hQ
  | (cases u<;>first
   | exact wpAny_pure hQ
   | (refine wpAny_bind (wpAny_load ho ?_)
      rw[hc,hd]
      show wpAny M A (if (["enumerate","zip","dict_itemiterator","dict_reverseitemiterator","odict_iterator","itertools.zip_longest","itertools.pairwise"].contains n&&vs[0]?==some (rawInt _))=true then _ else _) Q E s
      rw[if_neg (by intro h;rw[hn,Bool.false_and] at h;cases h)]
      exact wpAny_pure hQ))
def Itl(K:PySem.W.Frag)(a:Addr):It:=
 ⟨fun i H=>∃xs x,SqL K H a xs∧xs[i]?=some x,fun i H x H'=>H'=H∧∀xs,SqL K H a xs→xs[i]?=some x,fun i H=>∃xs,SqL K H a xs∧xs.length≤i⟩
def Itt(K:PySem.W.Frag)(a:Addr):It:=
 ⟨fun i H=>∃xs x,SqT K H a xs∧xs[i]?=some x,fun i H x H'=>H'=H∧∀xs,SqT K H a xs→xs[i]?=some x,fun i H=>∃xs,SqT K H a xs∧xs.length≤i⟩
def Itr(lo:Int)(n:Nat):It:=⟨fun i _=>i<n,fun i H x H'=>H'=H∧x=.int (lo+i),fun i _=>n≤i⟩
theorem dO{P:Program}{w:World}{K:PySem.W.Frag}{tg:Expr}(a it:Addr):Turn P w K tg (Itl K a) [it] it (fun i h=>h.IsListIter it a i) where
 mem:=by simp
 obj:=fun i h st b hb=>by
  have e:b=it:=by simpa using hb
  subst e
  obtain⟨o,e,c,d⟩:=st
  exact⟨o,e,fun v z=>by rw[d] at z;cases z⟩
 keep:=fun i h h' st k=>st.at fun o e=>k it (by simp) o e
 item:=by
  intro X hP hw hK hc i pins s σ H E I hf st hg
  subst hP hw hK
  obtain⟨xs,x,hq,hx⟩:=hg
  obtain⟨its,rv,p,hz⟩:=I.list hq
  obtain⟨u,hu,ru⟩:=rv.get hx
  obtain⟨f0,f1,f2,f3,f4,f5⟩:=hf it (by simp)
  refine wpAny_pyNext_list_item st p.isList (x:=u) (by simpa using hu) fun h' st' sb=>?_
  have I1:Inv X pins σ H { s with heap:=h' }:=I.turned (t':=s.toks) (fun b o hb e=>(sb.2 b hb).trans e) f0 f1 f3 f4 f5
  obtain⟨o,e,c,d⟩:=id st'
  exact⟨u,rfl,Y0 (s:={ s with heap:=h' }) e c d (by decide) ⟨x,H,I1,ru,⟨rfl,fun ys hy=>by rw[I.list_inj hy hq];exact hx⟩,st',fun b hb=>(hf b hb).1⟩⟩
 done:=by
  intro X hP hw hK hc i pins s σ H E I hf st hg
  subst hP hw hK
  obtain⟨xs,hq,hx⟩:=hg
  obtain⟨its,rv,p,hz⟩:=I.list hq
  obtain⟨f0,f1,f2,f3,f4,f5⟩:=hf it (by simp)
  have hl:=rv.length
  exact wpAny_pyNext_list_end (I.ok.hd hc) st p.isList (by simp;omega) fun h' eb=>⟨rfl,I.turned (t':=s.toks) (fun b o hb e=>eb b o hb e) f0 f1 f3 f4 f5⟩
 self:=fun _ _ _ _ _ st h=>wpAny_pyIter_listiter st h
theorem Za{P:Program}{w:World}{K:PySem.W.Frag}{tg:Expr}(a it:Addr):Turn P w K tg (Itt K a) [it] it (fun i h=>h.IsTupleIter it a i) where
 mem:=by simp
 obj:=fun i h st b hb=>by
  have e:b=it:=by simpa using hb
  subst e
  obtain⟨o,e,c,d⟩:=st
  exact⟨o,e,fun v z=>by rw[d] at z;cases z⟩
 keep:=fun i h h' st k=>st.at fun o e=>k it (by simp) o e
 item:=by
  intro X hP hw hK hc i pins s σ H E I hf st hg
  subst hP hw hK
  obtain⟨xs,x,hq,hx⟩:=hg
  obtain⟨its,rv,p,hz⟩:=I.tuple hq
  obtain⟨u,hu,ru⟩:=rv.get hx
  obtain⟨f0,f1,f2,f3,f4,f5⟩:=hf it (by simp)
  refine wpAny_pyNext_tuple_item st (show s.heap.IsTuple a its.toArray from p) (x:=u) (by simpa using hu) fun h' st' sb=>?_
  have I1:Inv X pins σ H { s with heap:=h' }:=I.turned (t':=s.toks) (fun b o hb e=>(sb.2 b hb).trans e) f0 f1 f3 f4 f5
  obtain⟨o,e,c,d⟩:=id st'
  exact⟨u,rfl,Y0 (s:={ s with heap:=h' }) e c d (by decide) ⟨x,H,I1,ru,⟨rfl,fun ys hy=>by rw[I.tuple_inj hy hq];exact hx⟩,st',fun b hb=>(hf b hb).1⟩⟩
 done:=by
  intro X hP hw hK hc i pins s σ H E I hf st hg
  subst hP hw hK
  obtain⟨xs,hq,hx⟩:=hg
  obtain⟨its,rv,p,hz⟩:=I.tuple hq
  obtain⟨f0,f1,f2,f3,f4,f5⟩:=hf it (by simp)
  have hl:=rv.length
  exact wpAny_pyNext_tuple_end (I.ok.hd hc) st (show s.heap.IsTuple a its.toArray from p) (by simp;omega) fun h' eb=>⟨rfl,I.turned (t':=s.toks) (fun b o hb e=>eb b o hb e) f0 f1 f3 f4 f5⟩
 self:=fun _ _ _ _ _ st h=>wpAny_pyIter_tupleiter st h
theorem Zb{P:Program}{w:World}{K:PySem.W.Frag}{tg:Expr}(it:Addr)(lo:Int)(n:Nat):Turn P w K tg (Itr lo n) [it] it (fun i h=>IsRangeIter h it (lo+(i:Nat)*1) ((n:Int)-(i:Nat)) 1) where
 mem:=by simp
 obj:=fun i h st b hb=>by
  have e:b=it:=by simpa using hb
  subst e
  exact⟨_,st,fun v z=>by
   have z':Data.fields _=Data.cell v:=z
   cases z'⟩
 keep:=fun i h h' st k=>k it (by simp) _ st
 item:=by
  intro X hP hw hK hc i pins s σ H E I hf st hg
  subst hP hw hK
  obtain⟨f0,f1,f2,f3,f4,f5⟩:=hf it (by simp)
  have W:=Walks.range (prog:=X.prog) (w:=X.w) (I.ok.hd hc) it lo 1 n
  refine W.item i s _ _ hg st fun v h' tk hv st' kk=>?_
  obtain⟨t,rfl⟩:=hv
  have I1:Inv X pins σ H { s with heap:=h',toks:=tk }:=I.turned (fun b o hb e=>kk b o (by simpa using hb) e) f0 f1 f3 f4 f5
  refine⟨_,rfl,Y0 (s:={ s with heap:=h',toks:=tk }) (n:="range_iterator") st' rfl rfl (by decide) ⟨.int (lo+i),H,I1,⟨t,?_⟩,⟨rfl,rfl⟩,st',fun b hb=>(hf b hb).1⟩⟩
  rw[Int.mul_one]
 done:=by
  intro X hP hw hK hc i pins s σ H E I hf st hg
  subst hP hw hK
  obtain⟨f0,f1,f2,f3,f4,f5⟩:=hf it (by simp)
  exact wpAny_pyNext_range_end (I.ok.hd hc) st (by have:n≤i:=hg;omega) fun h' eb=>⟨rfl,I.turned (t':=s.toks) (fun b o hb e=>eb b o hb e) f0 f1 f3 f4 f5⟩
 self:=fun _ _ _ _ _ st h=>wpAny_pyIter_rangeiter st h
end L2
namespace L2
open PySem PySem.Spec PyProof.Rows
section
variable{X:Cx}{tg:Expr}
def pO(K:PySem.W.Frag)(tl:TE):TI:=fun σ H R=>tl σ H fun x H1=>∃a,x=.ref a∧(∃xs,SqL K H1 a xs)∧R (Itl K a) H1
def sU(K:PySem.W.Frag)(tl:TE):TI:=fun σ H R=>tl σ H fun x H1=>∃a,x=.ref a∧(∃xs,SqT K H1 a xs)∧R (Itt K a) H1
theorem Pu{l:Expr}{tl:TE}(hl:PE X l tl):PI X tg l (pO X.K tl):=by
 intro pins s σ H R I h
 refine thn (hl pins s σ H _ I h) fun v s1 ⟨x,H1,I1,r1,q1⟩=>?_
 obtain⟨a,e,⟨xs,hq⟩,q⟩:=q1
 subst e
 cases r1
 obtain⟨its,rv,p,hz⟩:=I1.list hq
 refine wpAny_pyIter_list p.isList ?_
 refine⟨s1.heap.objs.size,[s1.heap.objs.size],_,_,H1,rfl,I1.kept (t':=s1.toks) fun b o e=>Heap.get?_push_of_some _ e,dO a _,⟨_,Heap.get?_push_size _ rfl,rfl,rfl⟩,fun b hb=>?_,q⟩
 have e:b=s1.heap.objs.size:=by simpa using hb
 subst e
 exact I1.fpOk (Nat.le_refl _) (I1.hok.fresh (Nat.le_refl _))
theorem Ue{l:Expr}{tl:TE}(hl:PE X l tl):PI X tg l (sU X.K tl):=by
 intro pins s σ H R I h
 refine thn (hl pins s σ H _ I h) fun v s1 ⟨x,H1,I1,r1,q1⟩=>?_
 obtain⟨a,e,⟨xs,hq⟩,q⟩:=q1
 subst e
 cases r1
 obtain⟨its,rv,p,hz⟩:=I1.tuple hq
 refine wpAny_pyIter_tuple (show s1.heap.IsTuple a its.toArray from p) ?_
 refine⟨s1.heap.objs.size,[s1.heap.objs.size],_,_,H1,rfl,I1.kept (t':=s1.toks) fun b o e=>Heap.get?_push_of_some _ e,Za a _,⟨_,Heap.get?_push_size _ rfl,rfl,rfl⟩,fun b hb=>?_,q⟩
 have e:b=s1.heap.objs.size:=by simpa using hb
 subst e
 exact I1.fpOk (Nat.le_refl _) (I1.hok.fresh (Nat.le_refl _))
theorem iW{pins:List (Addr×Obj)}{σ:St}{H:Hp}{s:Shared}{R:It→Hp→Prop}{E:Value→Shared→Prop}{lo hi:Int}{t u v:Tok}{tk:Nat}(I:Inv X pins σ H s)(h1: -(2^62)≤lo)(h2:lo<2^62)(h3: -(2^62)≤hi)(h4:hi<2^62)
 (q:R (Itr lo (hi-lo).toNat) H):wpAny (model X.prog X.w) X.A (pyIter (.ref s.heap.objs.size)) (PIE X pins σ tg R) E { s with heap:=s.heap.push { cls:=.type "range",data:=.fields #[.int lo t,.int hi u,.int 1 v] },toks:=tk }:=by
 refine wpAny_pyIter_range (IsRange.new ..) (small_one h1 h2 h3 h4) ?_
 have I1:Inv X pins σ H { s with heap:=s.heap.push { cls:=.type "range",data:=.fields #[.int lo t,.int hi u,.int 1 v] },toks:=tk }:=I.kept fun b o e=>Heap.get?_push_of_some _ e
 refine⟨(s.heap.push { cls:=.type "range",data:=.fields #[.int lo t,.int hi u,.int 1 v] }).objs.size,[(s.heap.push { cls:=.type "range",data:=.fields #[.int lo t,.int hi u,.int 1 v] }).objs.size],_,_,H,rfl,
  I1.kept (t':=tk) fun b o e=>Heap.get?_push_of_some _ e,Zb _ lo (hi-lo).toNat,?_,fun b hb=>?_,q⟩
 ·have e1:lo+((0:Nat):Int)*1=lo:=by simp
  have e2:(((hi-lo).toNat:Nat):Int)-((0:Nat):Int)=Builtin.Range.rangeSize lo hi 1:=by rw[rangeSize_one];split<;>omega
  show IsRangeIter _ _ (lo+((0:Nat):Int)*1) ((((hi-lo).toNat:Nat):Int)-((0:Nat):Int)) 1
  rw[e1,e2]
  exact Heap.get?_push_size _ rfl
 ·have e:b=(s.heap.push { cls:=.type "range",data:=.fields #[.int lo t,.int hi u,.int 1 v] }).objs.size:=by simpa using hb
  subst e
  exact I1.fpOk (Nat.le_refl _) (I1.hok.fresh (Nat.le_refl _))
def pN(ta:TA):TI:=fun σ H R=>ta σ H fun vs H1=>∃j:Int,vs=[.int j]∧ -(2^62)≤j∧j<2^62∧R (Itr 0 j.toNat) H1
theorem Q8{a:Expr}{ta:TA}{p pos:Pos}(hg:Gl X "range")(hm:X.mg "range"=none)(ha:PA X [a] ta)(hs:starEach [a] X.env=[(false,eval a X.env)]:=by rfl):PI X tg (.Call (.Name "range" p) [a] [] pos) (pN ta):=by
 intro pins s σ H R I h
 refine Call_ (KQ I hg hm boot_range (PyProof.Rows.callWith_type1 (thn (ha pos pins s σ H _ I h) fun us s1 ⟨vs,H1,I1,r1,q1⟩=>?_) hs rfl))
 obtain⟨j,e,q1,q2,q⟩:=q1
 subst e
 cases r1 with
 | cons r rr=>
  cases rr
  obtain⟨t,rfl⟩:=r
  exact call_range_1 (iW I1 (by omega) (by omega) q1 q2 (by simpa using q))
def uJ(wi:TI)(g:TG)(tb:TS):TS:=fun D σ H=>wi σ H fun J H1=>∃W:Nat→Nat→St→Hp→Prop,(∃m,W 0 m σ H1)∧∀i m σ H,W i m σ H→
 (J.stop i H∧D.nx σ H)∨(J.go i H∧∃N:St→Hp→Prop,(∀σ' H',N σ' H'→∃m',m'<m∧W (i+1) m' σ' H')∧∀x H',J.yld i H x H'→g x σ H' fun σ2 H2=>tb { D with nx:=N,ct:=N,bk:=D.nx } σ2 H2)
def Q7(fp:List Addr)(h:Heap):List (Addr×Obj):=fp.filterMap fun b=>(h.get? b).map fun o=>(b,o)
theorem KN{fp:List Addr}{h:Heap}{b:Addr}{o:Obj}(hb:b∈fp)(e:h.get? b=some o):(b,o)∈Q7 fp h:=List.mem_filterMap.mpr ⟨b,hb,by rw[e];rfl⟩
theorem eO{fp:List Addr}{h:Heap}{p:Addr×Obj}(hp:p∈Q7 fp h):p.1∈fp∧h.get? p.1=some p.2:=by
 obtain⟨b,hb,e⟩:=List.mem_filterMap.mp hp
 cases q:h.get? b with
 | none=>rw[q] at e;cases e
 | some o=>
  rw[q] at e
  have e':(b,o)=p:=Option.some.inj e
  subst e'
  exact⟨hb,q⟩
theorem Inv.pinned{pins:List (Addr×Obj)}{σ:St}{H:Hp}{s:Shared}{fp:List Addr}(I:Inv X pins σ H s)(hf:∀b∈fp,Rc X pins H b)(ho:∀b∈fp,∃o,s.heap.get? b=some o∧∀v,o.data≠.cell v):Inv X (pins++Q7 fp s.heap) σ H s:=
 I.pins_of fun p hp=>(List.mem_append.mp hp).elim (fun z=>I.pin p (List.mem_append_right _ z)) fun z=>by
  obtain⟨hb,e⟩:=eO z
  obtain⟨f0,f1,f2,_⟩:=hf p.1 hb
  obtain⟨o,e',d⟩:=ho p.1 hb
  rw[e] at e';cases e'
  exact⟨e,f0,f1,f2,d⟩
theorem Inv.unpinned{pins pl:List (Addr×Obj)}{σ:St}{H:Hp}{s:Shared}(I:Inv X (pins++pl) σ H s):Inv X pins σ H s:=I.pins_of fun p hp=>I.pin p (List.mem_append_right _ (List.mem_append_left _ hp))
theorem J9{iter:Expr}{body:List Stmt}{wi:TI}{g:TG}{tb:TS}{pos:Pos}(hp:PassesOwn (model X.prog X.w) X.A X.env X.xe)(hc:X.calm=true)(hi:PI X tg iter wi)(hg:PG X tg g)(hb:PSs X body tb)
 (hs:∀x,foldedSetIterable iter X.env x=pure x:=by intro _;rfl):PS X (.For tg iter body [] pos) (uJ wi g tb):=by
 intro pins s σ H D I h
 refine wpAny_For (thn (hi pins s σ H _ I h) fun v s1 h1=>thn h1 fun itv s2 h2=>?_) hs
 obtain⟨it,fp,tn,J,H2,e,I2,T,st2,f2,W,⟨m0,w0⟩,turn⟩:=h2
 subst e
 have stat:∀{H':Hp},(∀b∈fp,H' b=none)→∀b∈fp,Rc X pins H' b:=fun hn b hb=>⟨hn b hb,(f2 b hb).2⟩
 refine codeAny_forLoop_any (fun n s'=>∃i σ' H',Inv X pins σ' H' s'∧tn i s'.heap∧(∀b∈fp,H' b=none)∧W i n σ' H') ?_ m0 ⟨0,σ,H2,I2,st2,fun b hb=>(f2 b hb).1,w0⟩
 rintro n s3 ⟨i,σ3,H3,I3,st3,fr3,w3⟩
 rcases turn i n σ3 H3 w3 with ⟨stop,qn⟩ | ⟨go,N,hN,step⟩
 ·refine wpAny_passesOwn hp (thn (T.done X rfl rfl rfl hc i pins s3 σ3 H3 X.xe I3 (stat fr3) st3 stop) fun r s4 ⟨hr,I4⟩=>?_)
  subst hr
  exact wpAny_execs_nil ⟨σ3,H3,I4,qn⟩
 ·refine wpAny_passesOwn hp (thn (T.item X rfl rfl rfl hc i pins s3 σ3 H3 X.xe I3 (stat fr3) st3 go) fun r s4 ⟨u,hr,h4⟩=>?_)
  subst hr
  refine wpAny_passesOwn hp (thn h4 fun _ s5 ⟨x,H5,I5,r5,y5,st5,fr5⟩=>?_)
  have I5':=I5.pinned (stat fr5) (T.obj _ _ st5)
  refine wpAny_passesOwn hp (thn (hg _ s5 σ3 H5 x u _ I5' r5 (step x H5 y5)) fun _ s6 ⟨σ6,H6,I6,q6⟩=>?_)
  refine wpAny_passesOwn hp (thn (hb _ s6 σ6 H6 _ I6 q6) fun f s7 q7=>?_)
  have again:∀{σ7:St} {H7:Hp},Inv X (pins++Q7 fp s5.heap) σ7 H7 s7→N σ7 H7→∃m,m<n∧∃i σ' H',Inv X pins σ' H' s7∧tn i s7.heap∧(∀b∈fp,H' b=none)∧W i m σ' H':=fun{σ7 H7} I7 n7=>by
   obtain⟨m',hm,w7⟩:=hN σ7 H7 n7
   refine⟨m',hm,i+1,σ7,H7,I7.unpinned,T.keep _ _ _ st5 fun b hb o e=>(I7.pin (b,o) (List.mem_append_right _ (List.mem_append_right _ (KN hb e)))).1,fun b hb=>?_,w7⟩
   obtain⟨o,e,d⟩:=T.obj _ _ st5 b hb
   exact(I7.pin (b,o) (List.mem_append_right _ (List.mem_append_right _ (KN hb e)))).2.1
  cases f with
  | next=>obtain⟨σ7,H7,I7,n7⟩:=q7;exact again I7 n7
  | cont=>obtain⟨σ7,H7,I7,n7⟩:=q7;exact again I7 n7
  | brk=>obtain⟨σ7,H7,I7,q7⟩:=q7;exact⟨σ7,H7,I7.unpinned,q7⟩
  | ret v=>obtain⟨x7,σ7,H7,I7,r7,q7⟩:=q7;exact⟨x7,σ7,H7,I7.unpinned,r7,q7⟩
end
theorem QT{K:PySem.W.Frag}{a:Addr}{xs:List V}{g:TG}{tb:TS}{D:Ends}{σ:St}{H:Hp}(Pv:Nat→St→Hp→Prop)(h0:Pv 0 σ H)(hl:∀i σ H,i≤xs.length→Pv i σ H→SqL K H a xs)
 (hs:∀i x σ H,xs[i]?=some x→Pv i σ H→g x σ H fun σ2 H2=>tb { D with nx:=Pv (i+1),ct:=Pv (i+1),bk:=D.nx } σ2 H2)(hd:∀σ H,Pv xs.length σ H→D.nx σ H):
 ∃W:Nat→Nat→St→Hp→Prop,(∃m,W 0 m σ H)∧∀i m σ H,W i m σ H→
  ((Itl K a).stop i H∧D.nx σ H)∨((Itl K a).go i H∧∃N:St→Hp→Prop,(∀σ' H',N σ' H'→∃m',m'<m∧W (i+1) m' σ' H')∧∀x H',(Itl K a).yld i H x H'→g x σ H' fun σ2 H2=>tb { D with nx:=N,ct:=N,bk:=D.nx } σ2 H2):=by
 refine⟨fun i m σ H=>m=xs.length-i∧i≤xs.length∧Pv i σ H,⟨xs.length,by simp,Nat.zero_le _,h0⟩,?_⟩
 rintro i m σ H ⟨rfl,hi,p⟩
 have q:=hl i σ H hi p
 by_cases hlt:i<xs.length
 ·refine .inr ⟨⟨xs,xs[i],q,by simp[hlt]⟩,Pv (i+1),fun σ' H' p'=>⟨xs.length-(i+1),by omega,rfl,hlt,p'⟩,fun x H' y=>?_⟩
  obtain⟨e,y⟩:=y
  subst e
  exact hs i x σ _ (y xs q) p
 ·have e:i=xs.length:=by omega
  subst e
  exact .inl ⟨⟨xs,q,Nat.le_refl _⟩,hd σ H p⟩
theorem nU{K:PySem.W.Frag}{a:Addr}{xs:List V}{g:TG}{tb:TS}{D:Ends}{σ:St}{H:Hp}(Pv:Nat→St→Hp→Prop)(h0:Pv 0 σ H)(hl:∀i σ H,i≤xs.length→Pv i σ H→SqT K H a xs)
 (hs:∀i x σ H,xs[i]?=some x→Pv i σ H→g x σ H fun σ2 H2=>tb { D with nx:=Pv (i+1),ct:=Pv (i+1),bk:=D.nx } σ2 H2)(hd:∀σ H,Pv xs.length σ H→D.nx σ H):
 ∃W:Nat→Nat→St→Hp→Prop,(∃m,W 0 m σ H)∧∀i m σ H,W i m σ H→
  ((Itt K a).stop i H∧D.nx σ H)∨((Itt K a).go i H∧∃N:St→Hp→Prop,(∀σ' H',N σ' H'→∃m',m'<m∧W (i+1) m' σ' H')∧∀x H',(Itt K a).yld i H x H'→g x σ H' fun σ2 H2=>tb { D with nx:=N,ct:=N,bk:=D.nx } σ2 H2):=by
 refine⟨fun i m σ H=>m=xs.length-i∧i≤xs.length∧Pv i σ H,⟨xs.length,by simp,Nat.zero_le _,h0⟩,?_⟩
 rintro i m σ H ⟨rfl,hi,p⟩
 have q:=hl i σ H hi p
 by_cases hlt:i<xs.length
 ·refine .inr ⟨⟨xs,xs[i],q,by simp[hlt]⟩,Pv (i+1),fun σ' H' p'=>⟨xs.length-(i+1),by omega,rfl,hlt,p'⟩,fun x H' y=>?_⟩
  obtain⟨e,y⟩:=y
  subst e
  exact hs i x σ _ (y xs q) p
 ·have e:i=xs.length:=by omega
  subst e
  exact .inl ⟨⟨xs,q,Nat.le_refl _⟩,hd σ H p⟩
theorem WF{lo:Int}{n:Nat}{g:TG}{tb:TS}{D:Ends}{σ:St}{H:Hp}(Pv:Nat→St→Hp→Prop)(h0:Pv 0 σ H)
 (hs:∀i σ H,i<n→Pv i σ H→g (.int (lo+i)) σ H fun σ2 H2=>tb { D with nx:=Pv (i+1),ct:=Pv (i+1),bk:=D.nx } σ2 H2)(hd:∀σ H,Pv n σ H→D.nx σ H):
 ∃W:Nat→Nat→St→Hp→Prop,(∃m,W 0 m σ H)∧∀i m σ H,W i m σ H→
  ((Itr lo n).stop i H∧D.nx σ H)∨((Itr lo n).go i H∧∃N:St→Hp→Prop,(∀σ' H',N σ' H'→∃m',m'<m∧W (i+1) m' σ' H')∧∀x H',(Itr lo n).yld i H x H'→g x σ H' fun σ2 H2=>tb { D with nx:=N,ct:=N,bk:=D.nx } σ2 H2):=by
 refine⟨fun i m σ H=>m=n-i∧i≤n∧Pv i σ H,⟨n,by simp,Nat.zero_le _,h0⟩,?_⟩
 rintro i m σ H ⟨rfl,hi,p⟩
 by_cases hlt:i<n
 ·refine .inr ⟨hlt,Pv (i+1),fun σ' H' p'=>⟨n-(i+1),by omega,rfl,hlt,p'⟩,fun x H' y=>?_⟩
  obtain⟨e,y⟩:=y
  subst e y
  exact hs i σ _ hlt p
 ·have e:i=n:=by omega
  subst e
  exact .inl ⟨Nat.le_refl _,hd σ H p⟩
end L2
namespace L2
open PySem PySem.Spec PyProof.Rows
abbrev R2:=V→V→Hp→VK→Prop
def OpR(X:Cx)(f:Value→Value→Sem Value)(r:R2):Prop:=
 ∀(pins:List (Addr×Obj)) (s:Shared) (σ:St) (H:Hp) (x y:V) (v u:Value) (Q:VK),Inv X pins σ H s→RelV x v→RelV y u→r x y H Q→
  wpAny (model X.prog X.w) X.A (f v u) (EP X pins σ Q) X.xe s
def UnR(X:Cx)(f:Value→Sem Value)(r:V→Hp→VK→Prop):Prop:=
 ∀(pins:List (Addr×Obj)) (s:Shared) (σ:St) (H:Hp) (x:V) (v:Value) (Q:VK),Inv X pins σ H s→RelV x v→r x H Q→
  wpAny (model X.prog X.w) X.A (f v) (EP X pins σ Q) X.xe s
def Gq(X:Cx)(f:Value)(r:List V→Hp→VK→Prop):Prop:=
 ∀(pins:List (Addr×Obj)) (s:Shared) (σ:St) (H:Hp) (xs:List V) (us:List Value) (Q:VK),Inv X pins σ H s→Vals xs us→r xs H Q→
  wpAny (model X.prog X.w) X.A (call f us) (EP X pins σ Q) X.xe s
def wF(X:Cx)(r:V→Hp→(Bool→Hp→Prop)→Prop):Prop:=
 ∀(pins:List (Addr×Obj)) (s:Shared) (σ:St) (H:Hp) (x:V) (v:Value) (Q:Bool→Hp→Prop),Inv X pins σ H s→RelV x v→r x H Q→
  wpAny (model X.prog X.w) X.A (truthy v) (TP X pins σ Q) X.xe s
def tOp(r:R2)(ta tb:TE):TE:=fun σ H Q=>ta σ H fun x H1=>tb σ H1 fun y H2=>r x y H2 Q
def tUn(r:V→Hp→VK→Prop)(ta:TE):TE:=fun σ H Q=>ta σ H fun x H1=>r x H1 Q
def rI(C:Int→Int→Prop)(g:Int→Int→V):R2:=fun x y H Q=>∃i j,x=.int i∧y=.int j∧C i j∧Q (g i j) H
def rI0(g:Int→Int→V):R2:=fun x y H Q=>∃i j,x=.int i∧y=.int j∧Q (g i j) H
def rU(g:Int→V):V→Hp→VK→Prop:=fun x H Q=>∃i,x=.int i∧Q (g i) H
section
variable{X:Cx}{a b c:Expr}{ta tb tc:TE}{pos:Pos}
theorem tM(ha:PE X a ta)(hb:PE X b tb){pins:List (Addr×Obj)}{s:Shared}{σ:St}{H:Hp}{R:V→V→Hp→Prop}(I:Inv X pins σ H s)
 (h:ta σ H fun x H1=>tb σ H1 fun y H2=>R x y H2){Q:Value→Shared→Prop}{f:Value→Value→Sem Value}
 (hf:∀v u s2 x y H2,Inv X pins σ H2 s2→RelV x v→RelV y u→R x y H2→wpAny (model X.prog X.w) X.A (f v u) Q X.xe s2):
 wpAny (model X.prog X.w) X.A (eval a X.env) (fun v s₁=>wpAny (model X.prog X.w) X.A (eval b X.env) (fun u s₂=>wpAny (model X.prog X.w) X.A (f v u) Q X.xe s₂) X.xe s₁) X.xe s:=by
 refine thn (ha pins s σ H _ I h) fun v s1 ⟨x,H1,I1,r1,q1⟩=>?_
 refine thn (hb pins s1 σ H1 _ I1 q1) fun u s2 ⟨y,H2,I2,r2,q2⟩=>?_
 exact hf v u s2 x y H2 I2 r1 r2 q2
theorem BP{op:Operator}{r:R2}(ho:OpR X (binaryOp op) r)(ha:PE X a ta)(hb:PE X b tb):PE X (.BinOp a op b pos) (tOp r ta tb):=by
 intro pins s σ H Q I h
 exact wpAny_BinOp (tM ha hb I h fun v u s2 x y H2 I2 rx ry q=>ho pins s2 σ H2 x y v u Q I2 rx ry q)
theorem Ls{op:UnaryOp}{r:V→Hp→VK→Prop}(ho:UnR X (unaryOp op) r)(ha:PE X a ta):PE X (.UnaryOp op a pos) (tUn r ta):=by
 intro pins s σ H Q I h
 exact UnaryOp_ (thn (ha pins s σ H _ I h) fun v s1 ⟨x,H1,I1,r1,q1⟩=>ho pins s1 σ H1 x v Q I1 r1 q1)
theorem opI{f:Value→Value→Sem Value}{C:Int→Int→Prop}{g:Int→Int→Int}
 (rule:∀(i j:Int) (t u:Tok) (s:Shared) (Q:Value→Shared→Prop) (E:Value→Shared→Prop),C i j→Q (.int (g i j) s.toks) { s with toks:=s.toks+1 }→wpAny (model X.prog X.w) X.A (f (.int i t) (.int j u)) Q E s):
 OpR X f (rI C fun i j=>.int (g i j)):=by
 intro pins s σ H x y v u Q I rx ry h
 obtain⟨i,j,rfl,rfl,hc,q⟩:=h
 obtain⟨t,rfl⟩:=rx
 obtain⟨t',rfl⟩:=ry
 exact rule i j t t' s _ _ hc ⟨.int (g i j),H,I.tok _,⟨_,rfl⟩,q⟩
theorem jQ{f:Value→Value→Sem Value}{g:Int→Int→Int}
 (rule:∀(i j:Int) (t u:Tok) (s:Shared) (Q:Value→Shared→Prop) (E:Value→Shared→Prop),Q (.int (g i j) s.toks) { s with toks:=s.toks+1 }→wpAny (model X.prog X.w) X.A (f (.int i t) (.int j u)) Q E s):
 OpR X f (rI0 fun i j=>.int (g i j)):=by
 intro pins s σ H x y v u Q I rx ry h
 obtain⟨i,j,rfl,rfl,q⟩:=h
 obtain⟨t,rfl⟩:=rx
 obtain⟨t',rfl⟩:=ry
 exact rule i j t t' s _ _ ⟨.int (g i j),H,I.tok _,⟨_,rfl⟩,q⟩
theorem mV{f:Value→Value→Sem Value}{g:Int→Int→Bool}
 (rule:∀(i j:Int) (t u:Tok) (s:Shared) (Q:Value→Shared→Prop) (E:Value→Shared→Prop),Q (.bool (g i j)) s→wpAny (model X.prog X.w) X.A (f (.int i t) (.int j u)) Q E s):
 OpR X f (rI0 fun i j=>.bl (g i j)):=by
 intro pins s σ H x y v u Q I rx ry h
 obtain⟨i,j,rfl,rfl,q⟩:=h
 obtain⟨t,rfl⟩:=rx
 obtain⟨t',rfl⟩:=ry
 exact rule i j t t' s _ _ ⟨.bl (g i j),H,I,rfl,q⟩
def vN(i j:Int):Prop:=0≤j∧j≤1000000∧i.natAbs<2^64
def vO(i j:Int):Prop:=(-(2^64)<i∧i<2^64)∨(-(2^64)<j∧j<2^64)
theorem vO.ok{i j:Int}(h:vO i j):IntMulOk i j:=by
 rcases h with ⟨h1,h2⟩ | ⟨h1,h2⟩
 ·exact .of_left (intBits_le_64 h1 h2)
 ·exact .of_right (intBits_le_64 h1 h2)
theorem ZZ(k:Nat):(0:Int)≤2^k:=by
 rw[two_pow_cast]
 exact Int.natCast_nonneg _
theorem Dj:OpR X (binaryOp .Add) (rI0 fun i j=>.int (i+j)):=jQ fun _ _ _ _ _ _ _ q=>add_int q
theorem Ei:OpR X (binaryOp .Sub) (rI0 fun i j=>.int (i-j)):=jQ fun _ _ _ _ _ _ _ q=>sub_int q
theorem Eg:OpR X (binaryOp .Mod) (rI (fun _ j=>0<j) fun i j=>.int (i%j)):=opI fun i j _ _ _ _ _ hc q=>by
 have h1:(0:Int)<j:=hc
 exact mod_int' (by omega) (by rw[Int.fmod_eq_emod_of_nonneg i (by omega)];exact q)
theorem aB:OpR X (binaryOp .Pow) (rI vN fun i j=>.int (i^j.toNat)):=opI fun _ _ _ _ _ _ _ hc q=>pow_int_small hc.1 hc.2.1 hc.2.2 q
theorem Uj:OpR X (binaryOp .RShift) (rI (fun _ j=>0≤j) fun i j=>.int (i/2^j.toNat)):=opI fun i j _ _ _ _ _ hc q=>
 rshift_int hc (by rw[Int.fdiv_eq_ediv_of_nonneg i (ZZ _)];exact q)
theorem Lw:OpR X (binaryOp .BitAnd) (rI0 fun i j=>.int (Builtin.bitAnd i j)):=jQ fun _ _ _ _ _ _ _ q=>and_int q
theorem Ye:OpR X (binaryOp .BitOr) (rI0 fun i j=>.int (Builtin.bitOr i j)):=jQ fun _ _ _ _ _ _ _ q=>or_int q
theorem Z9:OpR X (binaryOp .BitXor) (rI0 fun i j=>.int (Builtin.bitXor i j)):=jQ fun _ _ _ _ _ _ _ q=>xor_int q
theorem unI{f:Value→Sem Value}{g:Int→Int}
 (rule:∀(i:Int) (t:Tok) (s:Shared) (Q:Value→Shared→Prop) (E:Value→Shared→Prop),Q (.int (g i) s.toks) { s with toks:=s.toks+1 }→wpAny (model X.prog X.w) X.A (f (.int i t)) Q E s):
 UnR X f (rU fun i=>.int (g i)):=by
 intro pins s σ H x v Q I rx h
 obtain⟨i,rfl,q⟩:=h
 obtain⟨t,rfl⟩:=rx
 exact rule i t s _ _ ⟨.int (g i),H,I.tok _,⟨_,rfl⟩,q⟩
theorem Ho:UnR X (unaryOp .USub) (rU fun i=>.int (-i)):=unI fun _ _ _ _ _ q=>neg_int q
end
def lK:V→V→Bool
 | .non,.non=>true | .non,.int _=>true | .int _,.non=>true | .non,.bl _=>true | .bl _,.non=>true | .non,.str _=>true | .str _,.non=>true
 | .int _,.int _=>true | .bl _,.bl _=>true | .str _,.str _=>true | .byt _,.byt _=>true
 | .int _,.str _=>true | .str _,.int _=>true | .bl _,.str _=>true | .str _,.bl _=>true
 | _,_=>false
def rEq:R2:=fun x y H Q=>lK x y=true∧Q (.bl (decide (x=y))) H
def rNe:R2:=fun x y H Q=>lK x y=true∧Q (.bl (!decide (x=y))) H
theorem dB{i j:Int}:decide (V.int i=V.int j)=(i==j):=by
 rw[Bool.eq_iff_iff]
 simp
theorem j4{i j:Bool}:decide (V.bl i=V.bl j)=(i==j):=by
 rw[Bool.eq_iff_iff]
 simp
theorem c7{i j:Str}:decide (V.str i=V.str j)=(i==j):=by
 rw[Bool.eq_iff_iff]
 simp
theorem dC{i j:Array UInt8}:decide (V.byt i=V.byt j)=(i.toList==j.toList):=by
 rw[Bool.eq_iff_iff]
 cases i
 cases j
 simp
section
variable{X:Cx}{a b c:Expr}{ta tb tc:TE}{pos:Pos}
theorem Cw{pins:List (Addr×Obj)}{σ:St}{H:Hp}{s:Shared}{Q:VK}{k k':Bool}(I:Inv X pins σ H s)(q:Q (.bl k) H)(e:k=k'):EP X pins σ Q (.bool k') s:=by
 subst e
 exact⟨.bl k,H,I,rfl,q⟩
theorem Cg:OpR X (compareOp .Eq) rEq:=by
 intro pins s σ H x y v u Q I rx ry h
 obtain⟨hs,q⟩:=h
 cases x with
 | non=>
  cases rx
  cases y with
  | non=>cases ry;exact PySem.EqNone.eq_none_none (Cw I q (by simp))
  | bl j=>cases ry;exact PySem.EqNone.eq_none_bool (Cw I q (by simp))
  | int j=>obtain⟨t',rfl⟩:=ry;exact PySem.EqNone.eq_none_int (Cw I q (by simp))
  | str j=>obtain⟨t',rfl⟩:=ry;exact PySem.EqNone.eq_none_str (Cw I q (by simp))
  | _=>exact absurd (show false=true from hs) Bool.false_ne_true
 | bl i=>
  cases rx
  cases y with
  | non=>cases ry;exact PySem.EqNone.eq_bool_none (Cw I q (by simp))
  | bl j=>cases ry;exact eq_bool (Cw I q j4)
  | str j=>obtain⟨t',rfl⟩:=ry;exact PySem.EqMixed.eq_bool_str (Cw I q (by simp))
  | _=>exact absurd (show false=true from hs) Bool.false_ne_true
 | int i=>
  obtain⟨t,rfl⟩:=rx
  cases y with
  | non=>cases ry;exact PySem.EqNone.eq_int_none (Cw I q (by simp))
  | int j=>obtain⟨t',rfl⟩:=ry;exact eq_int (Cw I q dB)
  | str j=>obtain⟨t',rfl⟩:=ry;exact PySem.EqMixed.eq_int_str (Cw I q (by simp))
  | _=>exact absurd (show false=true from hs) Bool.false_ne_true
 | str i=>
  obtain⟨t,rfl⟩:=rx
  cases y with
  | non=>cases ry;exact PySem.EqNone.eq_str_none (Cw I q (by simp))
  | bl j=>cases ry;exact PySem.EqMixed.eq_str_bool (Cw I q (by simp))
  | int j=>obtain⟨t',rfl⟩:=ry;exact PySem.EqMixed.eq_str_int (Cw I q (by simp))
  | str j=>obtain⟨t',rfl⟩:=ry;exact eq_str (Cw I q c7)
  | _=>exact absurd (show false=true from hs) Bool.false_ne_true
 | byt i=>
  obtain⟨t,rfl⟩:=rx
  cases y with
  | byt j=>obtain⟨t',rfl⟩:=ry;exact PySem.W.eq_bytes (Cw I q dC)
  | _=>exact absurd (show false=true from hs) Bool.false_ne_true
 | _=>cases y<;>exact absurd (show false=true from hs) Bool.false_ne_true
theorem QC:OpR X (compareOp .NotEq) rNe:=by
 intro pins s σ H x y v u Q I rx ry h
 obtain⟨hs,q⟩:=h
 cases x with
 | non=>
  cases rx
  cases y with
  | non=>cases ry;exact PySem.EqNone.ne_none_none (Cw I q (by simp))
  | bl j=>cases ry;exact PySem.EqNone.ne_none_bool (Cw I q (by simp))
  | int j=>obtain⟨t',rfl⟩:=ry;exact PySem.EqNone.ne_none_int (Cw I q (by simp))
  | str j=>obtain⟨t',rfl⟩:=ry;exact PySem.EqNone.ne_none_str (Cw I q (by simp))
  | _=>exact absurd (show false=true from hs) Bool.false_ne_true
 | bl i=>
  cases rx
  cases y with
  | non=>cases ry;exact PySem.EqNone.ne_bool_none (Cw I q (by simp))
  | bl j=>cases ry;exact ne_bool (Cw I q (congrArg not j4))
  | str j=>obtain⟨t',rfl⟩:=ry;exact PySem.EqMixed.ne_bool_str (Cw I q (by simp))
  | _=>exact absurd (show false=true from hs) Bool.false_ne_true
 | int i=>
  obtain⟨t,rfl⟩:=rx
  cases y with
  | non=>cases ry;exact PySem.EqNone.ne_int_none (Cw I q (by simp))
  | int j=>obtain⟨t',rfl⟩:=ry;exact ne_int (Cw I q (congrArg not dB))
  | str j=>obtain⟨t',rfl⟩:=ry;exact PySem.EqMixed.ne_int_str (Cw I q (by simp))
  | _=>exact absurd (show false=true from hs) Bool.false_ne_true
 | str i=>
  obtain⟨t,rfl⟩:=rx
  cases y with
  | non=>cases ry;exact PySem.EqNone.ne_str_none (Cw I q (by simp))
  | bl j=>cases ry;exact PySem.EqMixed.ne_str_bool (Cw I q (by simp))
  | int j=>obtain⟨t',rfl⟩:=ry;exact PySem.EqMixed.ne_str_int (Cw I q (by simp))
  | str j=>obtain⟨t',rfl⟩:=ry;exact ne_str (Cw I q (congrArg not c7))
  | _=>exact absurd (show false=true from hs) Bool.false_ne_true
 | byt i=>
  obtain⟨t,rfl⟩:=rx
  cases y with
  | byt j=>obtain⟨t',rfl⟩:=ry;exact PySem.W.ne_bytes (Cw I q (congrArg not dC))
  | _=>exact absurd (show false=true from hs) Bool.false_ne_true
 | _=>cases y<;>exact absurd (show false=true from hs) Bool.false_ne_true
theorem GX:OpR X (compareOp .Lt) (rI0 fun i j=>.bl (decide (i<j))):=mV fun _ _ _ _ _ _ _ q=>lt_int q
theorem cC:OpR X (compareOp .LtE) (rI0 fun i j=>.bl (decide (i≤j))):=mV fun _ _ _ _ _ _ _ q=>le_int q
theorem GZ:OpR X (compareOp .Gt) (rI0 fun i j=>.bl (decide (j<i))):=mV fun _ _ _ _ _ _ _ q=>gt_int q
theorem ur:OpR X (compareOp .GtE) (rI0 fun i j=>.bl (decide (j≤i))):=mV fun _ _ _ _ _ _ _ q=>ge_int q
theorem V4:OpR X (compareOp .In) (fun x y H Q=>∃i j,x=.str i∧y=.str j∧Q (.bl (!(Builtin.Str.occurrences j i 0 j.length 1).isEmpty)) H):=by
 intro pins s σ H x y v u Q I rx ry h
 obtain⟨i,j,rfl,rfl,q⟩:=h
 obtain⟨t,rfl⟩:=rx
 obtain⟨t',rfl⟩:=ry
 exact in_str (Cw I q rfl)
theorem OJ:OpR X (compareOp .Is) (fun x y H Q=>y=.non∧Q (.bl (decide (x=.non))) H):=by
 intro pins s σ H x y v u Q I rx ry h
 obtain⟨rfl,q⟩:=h
 cases ry
 refine is_none_gen (Cw I q ?_)
 cases x<;>first
  | (cases rx;rfl)
  | (obtain ⟨t,rfl⟩:=rx;rfl)
theorem mU:OpR X (compareOp .IsNot) (fun x y H Q=>y=.non∧Q (.bl (!decide (x=.non))) H):=by
 intro pins s σ H x y v u Q I rx ry h
 obtain⟨rfl,q⟩:=h
 cases ry
 refine isnot_none_gen (Cw I q ?_)
 cases x<;>first
  | (cases rx;rfl)
  | (obtain ⟨t,rfl⟩:=rx;rfl)
theorem OpR.or{f:Value→Value→Sem Value}{r r':R2}(h:OpR X f r)(h':OpR X f r'):OpR X f (fun x y H Q=>r x y H Q∨r' x y H Q):=by
 intro pins s σ H x y v u Q I rx ry q
 rcases q with q | q
 ·exact h pins s σ H x y v u Q I rx ry q
 ·exact h' pins s σ H x y v u Q I rx ry q
theorem Bd(b:Expr){op:CmpOp}(h:op≠.In:=by decide)(h2:op≠.NotIn:=by decide):behindInMarks op b=false:=by
 have e1:(op==CmpOp.In)=false:=by cases op<;>first | rfl | exact absurd rfl h
 have e2:(op==CmpOp.NotIn)=false:=by cases op<;>first | rfl | exact absurd rfl h2
 cases b<;>simp[behindInMarks,e1,e2]
theorem Px{op:CmpOp}{r:R2}(ho:OpR X (compareOp op) r)(ha:PE X a ta)(hb:PE X b tb)(hm:behindInMarks op b=false):PE X (.Compare a [op] [b] pos) (tOp r ta tb):=by
 intro pins s σ H Q I h
 exact wpAny_Compare1 (tM ha hb I h fun v u s2 x y H2 I2 rx ry q=>ho pins s2 σ H2 x y v u Q I2 rx ry q) hm
def ou(t:TE):TT:=fun σ H Q=>t σ H fun x H'=>∃k,x=.bl k∧Q k H'
theorem BL{op:CmpOp}{r:R2}(ho:OpR X (compareOp op) r)(ha:PE X a ta)(hb:PE X b tb)(hm:behindInMarks op b=false):PT X (.Compare a [op] [b] pos) (ou (tOp r ta tb)):=by
 intro pins s σ H Q I h
 refine wpAny_isTrue_Compare1 (thn (ha pins s σ H _ I h) fun v s1 ⟨x,H1,I1,r1,q1⟩=>thn (hb pins s1 σ H1 _ I1 q1) fun u s2 ⟨y,H2,I2,r2,q2⟩=>
  thn (ho pins s2 σ H2 x y v u _ I2 r1 r2 q2) fun c s3 ⟨z,H3,I3,r3,k,e,q3⟩=>?_) hm
 subst e
 cases r3
 exact wpAny_truthy_bool ⟨H3,I3,q3⟩
def gO(r r':R2)(ta tb tc:TE):TE:=fun σ H Q=>ta σ H fun x H1=>tb σ H1 fun y H2=>r x y H2 fun z H3=>∃k,z=.bl k∧
 (if k=true then tc σ H3 fun w' H4=>r' y w' H4 Q else Q (.bl false) H3)
theorem jJ{op op':CmpOp}{r r':R2}(ho:OpR X (compareOp op) r)(ho':OpR X (compareOp op') r')(ha:PE X a ta)(hb:PE X b tb)(hc:PE X c tc)
 (hm:lastMarks [op,op'] [b,c]=false:=by with_unfolding_all rfl):PE X (.Compare a [op,op'] [b,c] pos) (gO r r' ta tb tc):=by
 intro pins s σ H Q I h
 refine Compare_chain (thn (ha pins s σ H _ I h) fun v s1 ⟨x,H1,I1,r1,q1⟩=>chain_link (thn (hb pins s1 σ H1 _ I1 q1) fun u s2 ⟨y,H2,I2,r2,q2⟩=>
  thn (ho pins s2 σ H2 x y v u _ I2 r1 r2 q2) fun d s3 ⟨z,H3,I3,r3,k,e,q3⟩=>?_)) hm
 subst e
 cases r3
 refine wpAny_truthy_bool ?_
 cases k with
 | false=>exact ite_ff ⟨.bl false,H3,I3,rfl,q3⟩
 | true=>exact ite_tt (chain_last (thn (hc pins s3 σ H3 _ I3 q3) fun w' s4 ⟨z',H4,I4,r4,q4⟩=>ho' pins s4 σ H4 y z' u w' Q I4 r2 r4 q4))
def wD(K:PySem.W.Frag)(x:V)(H:Hp)(k:Bool):Prop:=
 match x with
 | .non=>k=false
 | .bl b=>k=b
 | .int i=>k=(i != 0)
 | .str y=>y.length≤sizeLine∧k=((y.length:Int) != 0)
 | .byt y=>y.size≤sizeLine∧k=((y.size:Int) != 0)
 | .ref p=>(∃xs,SqL K H p xs∧k=!xs.isEmpty)∨(∃xs,SqT K H p xs∧k=!xs.isEmpty)∨∃kvs,H p=some (.dK kvs)∧k=!kvs.isEmpty
 | _=>False
theorem aW{κ:Type}{kvs:List (κ×V)}{vs:List (κ×Value)}(r:KV kvs vs):(!vs.isEmpty)=!kvs.isEmpty:=by
 cases r<;>rfl
theorem U4{xs:List V}{its:List Value}(r:Vals xs its):(!its.toArray.isEmpty)=!xs.isEmpty:=by
 cases r<;>simp
theorem Oh:(sizeLine:Nat)<2^63:=by rw[sizeLine_eq];decide
theorem pq:wF X (fun x H Q=>∃k,wD X.K x H k∧Q k H):=by
 intro pins s σ H x v Q I rx h
 obtain⟨k,e,q⟩:=h
 have hl:=Oh
 have hs:sizeLine=16777216:=sizeLine_eq
 cases x with
 | non=>
  cases rx
  have e':k=false:=e
  subst e'
  exact truthy_none ⟨H,I,q⟩
 | bl b=>
  cases rx
  have e':k=b:=e
  subst e'
  exact wpAny_truthy_bool ⟨H,I,q⟩
 | int i=>
  obtain⟨t,rfl⟩:=rx
  have e':k=(i != 0):=e
  subst e'
  exact PySem.P.truthy_int ⟨H,I,q⟩
 | str y=>
  obtain⟨t,rfl⟩:=rx
  obtain⟨hy,e'⟩:y.length≤sizeLine∧k=((y.length:Int) != 0):=e
  subst e'
  exact PySem.P.truthy_str (by omega) ⟨H,I.tok _,q⟩
 | byt y=>
  obtain⟨t,rfl⟩:=rx
  obtain⟨hy,e'⟩:y.size≤sizeLine∧k=((y.size:Int) != 0):=e
  subst e'
  exact PySem.W.truthy_bytes (by omega) ⟨H,I.tok _,q⟩
 | ref p=>
  cases rx
  have e':(∃xs,SqL X.K H p xs∧k=!xs.isEmpty)∨(∃xs,SqT X.K H p xs∧k=!xs.isEmpty)∨∃kvs,H p=some (.dK kvs)∧k=!kvs.isEmpty:=e
  rcases e' with ⟨xs,hx,e'⟩ | ⟨xs,hx,e'⟩ | ⟨kvs,hx,e'⟩
  ·subst e'
   obtain⟨its,r,pl,hz⟩:=I.list hx
   have hlen:=r.length
   exact wpAny_truthy_list pl.isList (by simp only[List.size_toArray];omega) ⟨H,I.tok _,by rw[U4 r];exact q⟩
  ·subst e'
   obtain⟨its,r,pl,hz⟩:=I.tuple hx
   have hlen:=r.length
   exact truthy_tuple pl (by simp only[List.size_toArray];omega) ⟨H,I.tok _,by rw[U4 r];exact q⟩
  ·subst e'
   obtain⟨hz,hS,vs,r,m⟩:kvs.length≤sizeLine∧(p==sysModules)=false∧∃vs,KV kvs vs∧s.heap.DictOf (FQ X.prog X.w) p vs:=I.hok p _ hx
   have hlen:kvs.length=vs.length:=Paired.length r
   exact wpAny_truthy_dict hS m (by omega) ⟨H,I.tok _,by rw[aW r];exact q⟩
 | _=>exact(show False from e).elim
theorem Bs:OpR X (binaryOp .Add) (fun x y H Q=>∃i j,x=.str i∧y=.str j∧i.length+j.length≤sizeLine∧Q (.str (i++j)) H):=by
 intro pins s σ H x y v u Q I rx ry h
 obtain⟨i,j,rfl,rfl,hz,q⟩:=h
 obtain⟨t,rfl⟩:=rx
 obtain⟨t',rfl⟩:=ry
 exact add_str (fun t' tk=>⟨.str (i++j),H,I.tok _,⟨_,rfl⟩,q⟩) hz
theorem vals1{x:V}{us:List Value}(r:Vals [x] us):∃u,us=[u]∧RelV x u:=by
 cases r with
 | cons r1 r2=>cases r2;exact⟨_,rfl,r1⟩
theorem vals2{x y:V}{us:List Value}(r:Vals [x,y] us):∃u w',us=[u,w']∧RelV x u∧RelV y w':=by
 cases r with
 | cons r1 r2=>
  cases r2 with
  | cons r3 r4=>cases r4;exact⟨_,_,rfl,r1,r3⟩
theorem ZJ:Gq X (.builtin "abs") (fun xs H Q=>∃i,xs=[.int i]∧Q (.int (if i<0 then -i else i)) H):=by
 intro pins s σ H xs us Q I r h
 obtain⟨i,rfl,q⟩:=h
 obtain⟨u,rfl,t,rfl⟩:=vals1 r
 exact call_abs_int fun u tk=>⟨.int (if i<0 then -i else i),H,I.tok _,⟨_,rfl⟩,q⟩
theorem DX:Gq X (.type "str") (fun xs H Q=>∃i,xs=[.int i]∧i.natAbs.log2<1920∧Q (.str (toString i)) H):=by
 intro pins s σ H xs us Q I r h
 obtain⟨i,rfl,hz,q⟩:=h
 obtain⟨u,rfl,t,rfl⟩:=vals1 r
 exact PySem.P.str_of_int hz ⟨.str _,H,I.tok _,⟨_,rfl⟩,q⟩
end
end L2
namespace L2
open PySem PySem.Spec PyProof.Rows
structure ak(h:Heap)(x dx C:Addr)(mA:Str→Option Value):Prop where
 obj:h.get? x=some (PySem.W.instObj C dx)
 ns:h.Ns1 dx mA
 ne:dx≠x
theorem V6{h:Heap}{dx:Addr}{mA:Str→Option Value}(n:h.Ns1 dx mA):∃od,h.get? dx=some od∧∀name,PySem.W.lookIn name od=some (mA name):=by
 obtain⟨o,es,ep,ho,hd,hk,_,hm⟩:=n
 refine⟨o,ho,fun name=>?_⟩
 have e:=hm name
 unfold nsFind findBy at e
 rw[←Array.find?_toList] at e
 unfold PySem.W.lookIn
 rw[hd]
 dsimp only
 split
 ·rename_i y q
  rw[q] at e
  exact congrArg some e
 ·rename_i q
  rw[q] at e
  have a:es.toList.any (·.refKey)=false:=by
   rw[List.any_eq_false]
   intro y hy
   obtain⟨z,t,hkey⟩:=hk y (Array.mem_toList_iff.mp hy)
   simp[DictEntry.refKey,hkey]
  have a':¬es.toList.any (·.refKey)=true:=by rw[a];exact Bool.false_ne_true
  rw[if_neg a']
  exact congrArg some e
theorem ak.look{h:Heap}{x dx C:Addr}{mA:Str→Option Value}(I:ak h x dx C mA):∃od,PySem.W.InstAt h x (PySem.W.instObj C dx) C (some od)∧∀name,PySem.W.lookIn name od=some (mA name):=
 let ⟨od,ho,hl⟩:=V6 I.ns
 ⟨od,⟨I.obj,rfl,rfl,ho⟩,hl⟩
section
variable{prog:Program}{w:World}{A:Around}{E:Value→Shared→Prop}{s:Shared}{K:PySem.W.Frag}{x dx C f:Addr}{mA:Str→Option Value}{name:Str}{v:Value}
theorem nR{expr:Bool}{Q:Value→Shared→Prop}(X:K.In s.heap)(I:ak s.heap x dx C mA)(hg:PySem.W.plainGet K C name=true)(hh:PySem.W.hasDictIn K C=true)
 (ha:PySem.W.findIn K (.ref C) name=some none)(hv:mA name=some v)(hv':PySem.W.handedIn v=true)(h:Q v { s with toks:=s.toks+1 }):
 wpAny (model prog w) A (getAttr (.ref x) name expr) Q E s:=by
 obtain⟨od,J,hl⟩:=I.look
 exact PySem.W.get_value X J (PySem.W.plainGet_of hg).1 (PySem.W.findObj_own hh ha rfl (by rw[hl,hv])) hv' h
theorem jl{pl:Sem Bool}{Q:Value×List Value→Shared→Prop}(X:K.In s.heap)(I:ak s.heap x dx C mA)(hg:PySem.W.plainGet K C name=true)
 (hf:PySem.W.findIn K (.ref C) name=some (some (.ref f)))(ht:PySem.W.isFn K (.ref f)=true)(hv:mA name=none)(h:Q (.ref f,[.ref x]) s):
 wpAny (model prog w) A (getMethod (.ref x) name pl) Q E s:=by
 obtain⟨od,J,hl⟩:=I.look
 exact PySem.W.method_fn X J (PySem.W.plainGet_of hg).1 (PySem.W.plainGet_of hg).2 hf (beq_iff_eq.mp ht) (by show(PySem.W.lookIn name od).map (·.isSome)=some false;rw[hl,hv];rfl) h
theorem lJ{ns:List Str}{Q:Unit→Shared→Prop}(X:K.In s.heap)(I:ak s.heap x dx C mA)
 (hs:PySem.W.findIn K (.ref C) "__setattr__"=some (some (.builtin "object.__setattr__")))(hp:PySem.W.plainOver K C=true)(ht:PySem.W.takerIn K C name=some none)(hh:PySem.W.hasDictIn K C=true)
 (hw:PySem.Within mA ns)(hsz:ns.length≤sizeLine)
 (h:∀h',ak h' x dx C (fun y=>if y=name then some v else mA y)→Heap.SameBut dx s.heap h'→Q () { s with heap:=h',toks:=s.toks+2 }):
 wpAny (model prog w) A (setAttr (.ref x) name v) Q E s:=by
 obtain⟨od,J,hl⟩:=I.look
 refine PySem.W.set_plain X J hs (PySem.W.osa_open (s:={ s with toks:=s.toks+1 }) (r:=none) X J hp ht fun b=>?_)
 obtain⟨cd,hc,hd'⟩:=PySem.W.any_some hh
 have hx:s.heap.get? x=some ⟨.ref C,some dx,.plain,#[]⟩:=I.obj
 refine wpAny_bind (wpAny_pure (wpAny_bind (wpAny_bind (wpAny_loadPart hx (wpAny_bind (PySem.W.Looks.here (s:={ s with toks:=s.toks+1 }) (PySem.W.looks_clsIn X hc) ?_))))))
 rw[hd']
 refine wpAny_pure (a:=some dx) (wpAny_bind (wpAny_pure (wpAny_bind ?_)))
 refine wpAny_nsSet1 (s:={ s with toks:=s.toks+1 }) I.ns fun h' hn2 hs2=>?_
 obtain⟨oD,esD,epD,hoD,hdD,hcD⟩:=hn2.count (PySem.Within.cons name v hw)
 refine wpAny_bind (wpAny_lookBehind hoD (by rw[hdD];exact pastItsLine_dict (Nat.le_trans hcD (by rw[List.length_cons];omega))) ?_)
 exact wpAny_pure (h _ ⟨(hs2.2 _ (Ne.symm I.ne)).trans I.obj,hn2,I.ne⟩ hs2)
theorem Yv{R:Result→Shared→Prop}{vs:List Value}{kw:List (Str×Value)}(X:K.In s.heap)(hm:PySem.W.makesIn K C=true)
 (hi:PySem.W.findIn K (.ref C) "__init__"=some (some (.ref f)))(hf:PySem.W.typeIn K (.ref f)=some (.type "function"))
 (h:codeAny (model prog w) (A.under (.builtin "type.__call__" ⟨.ref C::vs,kw⟩)) (.call (.ref f) ⟨.ref (s.heap.objs.size+1)::vs,kw⟩) (PySem.W.InitBack (s.heap.objs.size+1) R)
  { s with heap:=(s.heap.push PySem.W.emptyDict).push (PySem.W.instObj C s.heap.objs.size) }):
 codeAny (model prog w) A (.call (.ref C) ⟨vs,kw⟩) R s:=by
 obtain⟨hh,g,d,t,os⟩:=s
 exact PySem.W.make_core (PySem.W.makes_of X hm) (PySem.W.looks_findIn X hi) (fun self=>PySem.W.bind_fn X self hf) (.inl rfl) h
end
def Ff(f:Str)(v:V):List (Str×V)→List (Str×V)
 | []=>[(f,v)]
 | (g,x)::r=>if g=f then (g,v)::r else (g,x)::Ff f v r
theorem Rk(f g:Str)(v:V):∀fs:List (Str×V),(Ff f v fs).lookup g=if g=f then some v else fs.lookup g
 | []=>by
  show List.lookup g [(f,v)]=_
  by_cases h:g=f
  ·have hb:(g==f)=true:=beq_iff_eq.mpr h
   simp only[List.lookup,hb,if_pos h]
  ·have hb:(g==f)=false:=beq_eq_false_iff_ne.mpr h
   simp only[List.lookup,hb,if_neg h]
 | (k,x)::r=>by
  have ih:=Rk f g v r
  rw[show Ff f v ((k,x)::r)=(if k=f then (k,v)::r else (k,x)::Ff f v r) from rfl]
  by_cases hk:k=f
  ·rw[if_pos hk]
   by_cases h:g=k
   ·have hb:(g==k)=true:=beq_iff_eq.mpr h
    simp only[List.lookup,hb,if_pos (h.trans hk)]
   ·have hb:(g==k)=false:=beq_eq_false_iff_ne.mpr h
    simp only[List.lookup,hb,if_neg (fun e:g=f=>h (e.trans hk.symm))]
  ·rw[if_neg hk]
   by_cases h:g=k
   ·have hb:(g==k)=true:=beq_iff_eq.mpr h
    simp only[List.lookup,hb,if_neg (fun e:g=f=>hk (h.symm.trans e))]
   ·have hb:(g==k)=false:=beq_eq_false_iff_ne.mpr h
    simp only[List.lookup,hb]
    exact ih
theorem RZ(f:Str)(v:V):∀fs:List (Str×V),f∈(Ff f v fs).map (·.1)∧∀g,g∈fs.map (·.1)→g∈(Ff f v fs).map (·.1)
 | []=>⟨by simp[Ff],fun g h=>by simp at h⟩
 | (k,x)::r=>by
  obtain⟨i1,i2⟩:=RZ f v r
  rw[show Ff f v ((k,x)::r)=(if k=f then (k,v)::r else (k,x)::Ff f v r) from rfl]
  by_cases hk:k=f
  ·rw[if_pos hk]
   subst hk
   exact⟨by simp,fun g h=>by simpa using h⟩
  ·rw[if_neg hk]
   refine⟨?_,fun g h=>?_⟩
   ·rw[List.map_cons]
    exact List.mem_cons_of_mem _ i1
   ·rw[List.map_cons] at h ⊢
    rcases List.mem_cons.mp h with e | e
    ·exact List.mem_cons.mpr (.inl e)
    ·exact List.mem_cons_of_mem _ (i2 g e)
theorem Rn(f:Str)(v:V):∀fs:List (Str×V),(Ff f v fs).length≤fs.length+1
 | []=>by simp[Ff]
 | (k,x)::r=>by
  have ih:=Rn f v r
  rw[show Ff f v ((k,x)::r)=(if k=f then (k,v)::r else (k,x)::Ff f v r) from rfl]
  by_cases hk:k=f
  ·rw[if_pos hk,List.length_cons,List.length_cons];omega
  ·rw[if_neg hk,List.length_cons,List.length_cons];omega
theorem Jp.some_of{v:V}{o:Option Value}(r:Jp (some v) o):∃u,o=some u∧RelV v u:=by
 cases o with
 | none=>exact(show False from r).elim
 | some u=>exact⟨u,rfl,r⟩
theorem Jp.none_of{o:Option Value}(r:Jp none o):o=none:=by
 cases o with
 | none=>rfl
 | some u=>exact(show False from r).elim
theorem V9{v:V}{u:Value}(r:RelV v u):PySem.W.handedIn u=true:=by
 cases v with
 | non=>cases (show u=Value.none from r);rfl
 | bl b=>cases (show u=Value.bool b from r);rfl
 | int i=>obtain⟨t,e⟩:=(show ∃t,u=Value.int i t from r);cases e;rfl
 | str x=>obtain⟨t,e⟩:=(show ∃t,u=Value.str x t from r);cases e;rfl
 | byt b=>obtain⟨t,e⟩:=(show ∃t,u=Value.bytes b t from r);cases e;rfl
 | flt b=>obtain⟨t,e⟩:=(show ∃t,u=Value.float b t from r);cases e;rfl
 | ref a=>cases (show u=Value.ref a from r);rfl
 | ty n=>cases (show u=Value.type n from r);rfl
section
variable{P:Program}{w:World}{H H':Hp}{h h':Heap}{a C dx:Addr}{fs fs':List (Str×V)}
theorem S5(hok:HOk P w H h)(e:H a=some (.ins C dx fs)):∃mA,ak h a dx C mA∧(∀f,Jp (fs.lookup f) (mA f))∧PySem.Within mA (fs.map (·.1))∧fs.length≤1000∧H dx=some (.own a):=by
 obtain⟨d,z,ne,ob,mA,n,r,q⟩:=(show Dp P w H h a (.ins C dx fs) from hok a _ e)
 exact⟨mA,⟨ob,n,ne⟩,r,q,z,d⟩
end
structure Cls(K:PySem.W.Frag)(C:Addr):Prop where
 pg:PySem.W.plainGet K C Str.empty=true
 hd:PySem.W.hasDictIn K C=true
 po:PySem.W.plainOver K C=true
 sa:PySem.W.findIn K (.ref C) "__setattr__"=some (some (.builtin "object.__setattr__"))
theorem Cls.get{K:PySem.W.Frag}{C:Addr}(c:Cls K C)(f:Str):PySem.W.plainGet K C f=true:=c.pg
def Dq(K:PySem.W.Frag)(C:Addr)(f:Str):Prop:=PySem.W.findIn K (.ref C) f=some none
theorem Dq.taker{K:PySem.W.Frag}{C:Addr}{f:Str}(n:Dq K C f):PySem.W.takerIn K C f=some none:=by
 unfold PySem.W.takerIn
 rw[show PySem.W.findIn K (.ref C) f=some none from n]
 rfl
structure Meth(K:PySem.W.Frag)(C:Addr)(m:Str)(f:Addr):Prop where
 at_:PySem.W.findIn K (.ref C) m=some (some (.ref f))
 fn:PySem.W.isFn K (.ref f)=true
 kp:PySem.W.keepIn K (.ref f)=true
section
variable{X:Cx}{pins:List (Addr×Obj)}{σ:St}{H:Hp}{s:Shared}{a C dx:Addr}{fs:List (Str×V)}{f:Str}{v:V}{A:Around}{E:Value→Shared→Prop}
theorem aZ{b:Bool}{Q:Value→Shared→Prop}(I:Inv X pins σ H s)(e:H a=some (.ins C dx fs))(c:Cls X.K C)(n:Dq X.K C f)(l:fs.lookup f=some v)
 (h:∀u s',Inv X pins σ H s'→RelV v u→Q u s'):wpAny (model X.prog X.w) A (getAttr (.ref a) f b) Q E s:=by
 obtain⟨mA,O,r,_,_,_⟩:=S5 I.hok e
 obtain⟨u,hu,ru⟩:=Jp.some_of (v:=v) (o:=mA f) (by rw[←l];exact r f)
 exact nR I.kIn O (c.get f) c.hd n hu (V9 ru) (h u _ (I.tok _) ru)
theorem KZ{m:Str}{g:Addr}{pl:Sem Bool}{Q:Value×List Value→Shared→Prop}(I:Inv X pins σ H s)(e:H a=some (.ins C dx fs))(c:Cls X.K C)(k:Meth X.K C m g)(l:fs.lookup m=none)
 (h:Q (.ref g,[.ref a]) s):wpAny (model X.prog X.w) A (getMethod (.ref a) m pl) Q E s:=by
 obtain⟨mA,O,r,_,_,_⟩:=S5 I.hok e
 have hn:mA m=none:=Jp.none_of (by rw[←l];exact r m)
 exact jl I.kIn O (c.get m) k.at_ k.fn hn h
theorem Zu{y:V}{u:Value}{Q:Unit→Shared→Prop}(I:Inv X pins σ H s)(e:H a=some (.ins C dx fs))(c:Cls X.K C)(n:Dq X.K C f)(hl:fs.length<1000)(ry:RelV y u)
 (h:∀s',Inv X pins σ (upd H a (.ins C dx (Ff f y fs))) s'→Q () s'):wpAny (model X.prog X.w) A (setAttr (.ref a) f u) Q E s:=by
 obtain⟨mA,O,r,wi,_,ho⟩:=S5 I.hok e
 have hz:(fs.map (·.1)).length≤sizeLine:=by rw[List.length_map,sizeLine_eq];omega
 refine lJ I.kIn O c.sa c.po n.taker c.hd wi hz fun h' O' sb=>h _ ?_
 have hd:∃o,h'.get? dx=some o:=let ⟨o,_,_,e',_⟩:=O'.ns;⟨o,e'⟩
 refine I.write (x:=a) (e:=dx) (by rw[e];exact True.intro) (.inr ho) (fun b q hb z=>(sb.2 b hb).trans z) hd ?_
 refine⟨by rw[Bw O.ne];exact ho,?_,O.ne,O'.obj,_,O'.ns,fun g=>?_,fun g hg=>?_⟩
 ·have:=Rn f y fs;omega
 ·show Jp ((Ff f y fs).lookup g) (if g=f then some u else mA g)
  rw[Rk]
  by_cases q:g=f
  ·rw[if_pos q,if_pos q];exact ry
  ·rw[if_neg q,if_neg q];exact r g
 ·by_cases q:g=f
  ·rw[q];exact(RZ f y fs).1
  ·refine(RZ f y fs).2 g (wi g fun z=>hg ?_)
   show(if g=f then some u else mA g)=none
   rw[if_neg q];exact z
theorem Inv.made(I:Inv X pins σ H s):Inv X pins σ (upd (upd H s.heap.objs.size (.own (s.heap.objs.size+1))) (s.heap.objs.size+1) (.ins C s.heap.objs.size []))
 { s with heap:=(s.heap.push PySem.W.emptyDict).push (PySem.W.instObj C s.heap.objs.size) }:=by
 have e1:(s.heap.push PySem.W.emptyDict).get? s.heap.objs.size=some PySem.W.emptyDict:=Heap.get?_push_size s.heap rfl
 have e2:((s.heap.push PySem.W.emptyDict).push (PySem.W.instObj C s.heap.objs.size)).get? (s.heap.objs.size+1)=some (PySem.W.instObj C s.heap.objs.size):=by
  have:=Heap.get?_push_size (s.heap.push PySem.W.emptyDict) (o:=PySem.W.instObj C s.heap.objs.size) rfl
  rwa [Heap.size_push] at this
 have e3:(s.heap.push PySem.W.emptyDict).Ns s.heap.objs.size (fun _=>none):=⟨PySem.W.emptyDict,#[],_,e1,rfl,(fun e he=>absurd he (by simp)),fun _=>rfl⟩
 have I1:=I.laid (a:=s.heap.objs.size) (o:=.own (s.heap.objs.size+1)) (h':=s.heap.push PySem.W.emptyDict) (t':=s.toks) (fun b u q=>Heap.get?_push_of_some _ q) (Nat.le_refl _) ⟨_,e1⟩
 refine I1.laid (a:=s.heap.objs.size+1) (o:=.ins C s.heap.objs.size []) (t':=s.toks) (fun b u q=>Heap.get?_push_of_some _ q) (Nat.le_of_eq (Heap.size_push _ _)) ?_
 have ne:s.heap.objs.size≠s.heap.objs.size+1:=Nat.ne_of_lt (Nat.lt_succ_self _)
 refine⟨by rw[Bw ne,BR],Nat.zero_le _,ne,e2,fun _=>none,(Heap.Ns1.of_empty e3).at fun o q=>Heap.get?_push_of_some _ q,fun _=>True.intro,fun y hy=>absurd rfl hy⟩
theorem dI{prog:Program}{w:World}{env:Env}{e:Expr}{f:Str}{pos:Pos}{s:Shared}{Q:Value→Shared→Prop}(hb:attributeBase e f env (eval e env)=eval e env)
 (h:wpAny (model prog w) A (eval e env) (fun o s₁=>wpAny (model prog w) A (getAttr o f true) Q E s₁) E s):wpAny (model prog w) A (eval (.Attribute e f pos) env) Q E s:=
 Attribute_any_ h (by rw[arm_eval_Attribute,hb])
end
def uK(K:PySem.W.Frag)(ta:TE)(f:Str):TE:=fun σ H Q=>ta σ H fun x H1=>∃a C dx fs v,x=.ref a∧H1 a=some (.ins C dx fs)∧Cls K C∧Dq K C f∧fs.lookup f=some v∧Q v H1
def uT(K:PySem.W.Frag)(ta tv:TE)(f:Str):TS:=fun D σ H=>tv σ H fun y H1=>ta σ H1 fun x H2=>∃a C dx fs,x=.ref a∧H2 a=some (.ins C dx fs)∧Cls K C∧Dq K C f∧fs.length<1000∧
 D.nx σ (upd H2 a (.ins C dx (Ff f y fs)))
section
variable{X:Cx}{o e value:Expr}{f:Str}{pos pos' tpos:Pos}{ta tv:TE}
theorem Ce(he:PE X e ta)(hb:attributeBase e f X.env (eval e X.env)=eval e X.env):PE X (.Attribute e f pos) (uK X.K ta f):=by
 intro pins s σ H Q I h
 refine dI hb (thn (he pins s σ H _ I h) fun u s1 ⟨x,H1,I1,rx,a,C,dx,fs,v,ex,ea,c,n,l,q⟩=>?_)
 subst ex
 obtain rfl:u=Value.ref a:=rx
 exact aZ I1 ea c n l fun u' s2 I2 ru=>⟨v,H1,I2,ru,q⟩
theorem FP(ha:PE X o ta)(hv:PE X value tv)(hs:swapsWith value (some (.Attribute o f pos')) pos.line X.env=pure false):PS X (.Assign [.Attribute o f pos'] value pos) (uT X.K ta tv f):=by
 intro pins s σ H D I h
 refine plainObj_wpAny_Assign_Attribute (thn (hv pins s σ H _ I h) fun u s1 ⟨y,H1,I1,ry,q⟩=>thn (ha pins s1 σ H1 _ I1 q) fun ov s2 ⟨x,H2,I2,rx,a,C,dx,fs,ex,ea,c,n,l,q2⟩=>?_) hs
 subst ex
 obtain rfl:ov=Value.ref a:=rx
 exact Zu I2 ea c n l ry fun s3 I3=>⟨σ,_,I3,q2⟩
end
section
variable{X:Cx}{pins:List (Addr×Obj)}{σ:St}{H:Hp}{s:Shared}{A:Around}{E:Value→Shared→Prop}{Q:Value→Shared→Prop}{c:Value}{b:Bool}
inductive QZ(K:PySem.W.Frag)(H:Hp):V→Value→Prop where
 | non:QZ K H .non (.type "NoneType")
 | bl (x:Bool):QZ K H (.bl x) (.type "bool")
 | int (i:Int):QZ K H (.int i) (.type "int")
 | str (x:Str):QZ K H (.str x) (.type "str")
 | flt (x:UInt64):QZ K H (.flt x) (.type "float")
 | lst {a:Addr} {xs:List V} (e:H a=some (.lst xs)):QZ K H (.ref a) (.type "list")
 | frz {a:Addr} {o:Obj} {xs:List V} (e:H a=some (.frz o (.lst xs))):QZ K H (.ref a) (.type "list")
 | tup {a:Addr} {xs:List V} (e:H a=some (.tup xs)):QZ K H (.ref a) (.type "tuple")
 | dK {a:Addr} {kvs:List (Key×V)} (e:H a=some (.dK kvs)):QZ K H (.ref a) (.type "dict")
 | dT {a:Addr} {kvs:List (List Key×V)} (e:H a=some (.dT kvs)):QZ K H (.ref a) (.type "dict")
 | ins {a C dx:Addr} {fs:List (Str×V)} (e:H a=some (.ins C dx fs)) (cl:Cls K C) (ha:PySem.W.findIn K (.ref C) "__class__"=some (some (.builtin "object.__class__")))
  (hn:PySem.W.specialIn K (.builtin "object.__class__") "__get__"=some (some (.builtin "getset_descriptor.__get__"))) (htk:PySem.W.takesIn K (.builtin "object.__class__")=some true)
  (hm:PySem.W.mroIn K C (.type "object")=some true):QZ K H (.ref a) (.ref C)
theorem eZ{x:V}{u t:Value}(I:Inv X pins σ H s)(rx:RelV x u)(ty:QZ X.K H x t)(e:PySem.W.kitOne X.K t c=some b)(h:∀tk,Q (.bool b) { s with toks:=tk }):
 wpAny (model X.prog X.w) A (call (.builtin "isinstance") [u,c]) Q E s:=by
 cases ty with
 | non=>cases (show u=Value.none from rx);exact PySem.W.kia_one PySem.W.kitx_none I.kIn True.intro e (fun z=>nomatch z) h
 | bl y=>cases (show u=Value.bool y from rx);exact PySem.W.kia_one PySem.W.kitx_bool I.kIn True.intro e (fun z=>nomatch z) h
 | int i=>obtain⟨t,q⟩:=(show ∃t,u=Value.int i t from rx);cases q;exact PySem.W.kia_one PySem.W.kitx_int I.kIn True.intro e (fun z=>nomatch z) h
 | str y=>obtain⟨t,q⟩:=(show ∃t,u=Value.str y t from rx);cases q;exact PySem.W.kia_one PySem.W.kitx_str I.kIn True.intro e (fun z=>nomatch z) h
 | flt y=>obtain⟨t,q⟩:=(show ∃t,u=Value.float y t from rx);cases q;exact PySem.W.kia_one PySem.W.kitx_float I.kIn True.intro e (fun z=>nomatch z) h
 | @lst a xs ea=>
  cases (show u=Value.ref a from rx)
  obtain⟨_,_,n,_,h1⟩:=(show Dp X.prog X.w H s.heap a (.lst xs) from I.hok a _ ea)
  exact PySem.W.kia_one PySem.W.kitx_list I.kIn ⟨_,h1,rfl⟩ e (fun z=>nomatch z) h
 | @frz a ob xs ea=>
  cases (show u=Value.ref a from rx)
  obtain⟨_,_,_,n,_,h1⟩:=(show Dp X.prog X.w H s.heap a (.frz ob (.lst xs)) from I.hok a _ ea)
  exact PySem.W.kia_one PySem.W.kitx_list I.kIn ⟨_,h1,rfl⟩ e (fun z=>nomatch z) h
 | @tup a xs ea=>
  cases (show u=Value.ref a from rx)
  obtain⟨_,_,_,p⟩:=(show Dp X.prog X.w H s.heap a (.tup xs) from I.hok a _ ea)
  obtain⟨o,h1,h2,_⟩:=p
  exact PySem.W.kia_one PySem.W.kitx_tuple I.kIn ⟨o,h1,h2⟩ e (fun z=>nomatch z) h
 | @dK a kvs ea=>
  cases (show u=Value.ref a from rx)
  obtain⟨_,_,vs,_,p⟩:=(show Dp X.prog X.w H s.heap a (.dK kvs) from I.hok a _ ea)
  obtain⟨o,es,ep,h1,h2,_⟩:=p
  exact PySem.W.kia_one PySem.W.kitx_dict I.kIn ⟨o,h1,h2.1⟩ e (fun z=>nomatch z) h
 | @dT a kvs ea=>
  cases (show u=Value.ref a from rx)
  obtain⟨_,_,xs,_,o,es,ep,h1,h2,_⟩:=(show Dp X.prog X.w H s.heap a (.dT kvs) from I.hok a _ ea)
  exact PySem.W.kia_one PySem.W.kitx_dict I.kIn ⟨o,h1,h2.1⟩ e (fun z=>nomatch z) h
 | @ins a C dx fs ea cl ha hn htk hm=>
  cases (show u=Value.ref a from rx)
  obtain⟨mA,O,_⟩:=S5 I.hok ea
  obtain⟨od,J,_⟩:=O.look
  exact PySem.W.kia_one (PySem.W.kitx_own (cl.get _) cl.hd ha hn htk hm) I.kIn J e (fun z=>nomatch z) h
end
end L2
namespace L2
open PySem PySem.Spec PyProof.Rows
structure Ea(k:Nat)(A:Around):Prop where
 hd:A.handled=none
 dp:A.depth+3*k+5<recursionLimit
 un:A.units+16*k+200<cLine
 gd:A.guards=some []
theorem Ea.mono{j k:Nat}{A:Around}(r:Ea k A)(h:j≤k):Ea j A:=⟨r.hd,by have:=r.dp;omega,by have:=r.un;omega,r.gd⟩
theorem Ea.deeper{k:Nat}{A:Around}(r:Ea (k+1) A)(env:Env):Ea k (A.deeper env):=
 ⟨r.hd,by have:=r.dp;show A.depth+1+3*k+5<_;omega,by have:=r.un;show A.units+3+16*k+200<_;omega,r.gd⟩
theorem aQ{A:Around}{C:Addr}{us:List Value}{kw:List (Str×Value)}:(A.under (.builtin "type.__call__" ⟨.ref C::us,kw⟩)).depth=A.depth+1:=by
 first | rfl | simp[Around.under,Code.weight,Code.isCreation,Code.isGuard,Code.isCaller,Code.frames,Code.isFrame,guardIds]
theorem aP{A:Around}{C:Addr}{us:List Value}{kw:List (Str×Value)}:(A.under (.builtin "type.__call__" ⟨.ref C::us,kw⟩)).units=A.units+1:=by
 first | rfl | simp[Around.under,Code.cUnits,Code.frames,Code.isFrame]
theorem Yw{A:Around}{C:Addr}{us:List Value}{kw:List (Str×Value)}(h:A.guards=some []):(A.under (.builtin "type.__call__" ⟨.ref C::us,kw⟩)).guards=some []:=by
 have e:(Code.builtin "type.__call__" ⟨.ref C::us,kw⟩).guards=[]:=by
  unfold Code.guards
  rw[if_neg (by show ¬guardIds.contains "type.__call__"=true;decide)]
 have e2:(A.under (.builtin "type.__call__" ⟨.ref C::us,kw⟩)).guards=pushGuards (Code.builtin "type.__call__" ⟨.ref C::us,kw⟩).guards A.guards:=rfl
 rw[e2,e,h];rfl
theorem Ea.make{k:Nat}{A:Around}(r:Ea (k+1) A)(C:Addr)(us:List Value)(kw:List (Str×Value)):Ea k (A.under (.builtin "type.__call__" ⟨.ref C::us,kw⟩)):=
 ⟨r.hd,by have:=r.dp;rw[aQ];omega,by have:=r.un;rw[aP];omega,Yw r.gd⟩
theorem Ea.depth{k:Nat}{A:Around}(r:Ea k A):A.depth<recursionLimit:=by have:=r.dp;omega
theorem Ea.units{k:Nat}{A:Around}(r:Ea k A):A.units+64<cLine:=by have:=r.un;omega
theorem Ea.units0{k:Nat}{A:Around}(r:Ea k A):A.units<cLine:=by have:=r.un;omega
def YC:TA:=fun _ H Q=>Q [] H
def pC(ta:TE)(tr:TA):TA:=fun σ H Q=>ta σ H fun x H1=>tr σ H1 fun xs H2=>Q (x::xs) H2
section
variable{X:Cx}{e:Expr}{es:List Expr}{te:TE}{t:TA}{pos:Pos}
theorem Ac:PA X [] YC:=fun _ _ _ _ H Q I h=>Calls.spliced_nil ⟨[],H,I,.nil,h⟩
theorem Aa(ha:PE X e te)(hr:PA X es t)(hs:starEach (e::es) X.env=(false,eval e X.env)::starEach es X.env:=by rfl):PA X (e::es) (pC te t):=by
 intro pos pins s σ H Q I h
 rw[hs]
 show wpAny _ _ (spliced ((false,eval e X.env)::backTo pos (starEach es X.env))) _ _ s
 refine Calls.spliced_cons (thn (ha pins s σ H _ I h) fun u s1 ⟨x,H1,I1,r1,q1⟩=>?_)
 exact thn (hr pos pins s1 σ H1 _ I1 q1) fun us s2 ⟨xs,H2,I2,r2,q2⟩=>⟨x::xs,H2,I2,.cons r1 r2,q2⟩
def uA(t:TA):TE:=fun σ H Q=>t σ H fun xs H1=>xs.length≤sizeLine∧∀p,H1 p=none→Q (.ref p) (upd H1 p (.tup xs))
def uH(t:TA):TE:=fun σ H Q=>t σ H fun xs H1=>xs.length≤sizeLine∧∀p,H1 p=none→Q (.ref p) (upd H1 p (.lst xs))
theorem Bv{x1}(h:PA X es t):PE X (.Tuple es x1 pos) (uA t):=by
 intro pins s σ H Q I hq
 refine wpAny_Tuple_spliced (thn (h pos pins s σ H _ I hq) fun us s1 ⟨xs,H1,I1,r,z,q⟩=>⟨by rw[←r.length];exact z,?_⟩)
 have hf:H1 s1.heap.objs.size=none:=I1.hok.fresh (Nat.le_refl _)
 refine⟨.ref s1.heap.objs.size,upd H1 s1.heap.objs.size (.tup xs),I1.laid (t':=s1.toks) (fun b u e=>Heap.get?_push_of_some _ e) (Nat.le_refl _) ?_,rfl,q _ hf⟩
 exact⟨z,us,r,⟨_,Heap.get?_push_size _ rfl,rfl,_,rfl⟩⟩
theorem GC(h:PA X es t):PE X (.List es pos) (uH t):=by
 intro pins s σ H Q I hq
 refine wpAny_List_spliced (thn (h pos pins s σ H _ I hq) fun us s1 ⟨xs,H1,I1,r,z,q⟩=>⟨by rw[←r.length];exact z,?_⟩)
 have hf:H1 s1.heap.objs.size=none:=I1.hok.fresh (Nat.le_refl _)
 refine⟨.ref s1.heap.objs.size,upd H1 s1.heap.objs.size (.lst xs),I1.laid (t':=s1.toks) (fun b u e=>Heap.get?_push_of_some _ e) (Nat.le_refl _) ?_,rfl,q _ hf⟩
 exact⟨z,us,0,r,Heap.get?_push_size _ rfl⟩
end
abbrev Sp:=List V→Hp→VK→XK→Prop
abbrev CXT:=List Env→Hp→Shared→XK→Value→Shared→Prop
structure ao(P:Program)(w:World)(K:PySem.W.Frag)(mg:Str→Option Value)(base:Heap)(A:Around)(outer:List Env)(s:Shared)(H:Hp):Prop where
 frames:A.frames=some outer
 mod:Mod K mg base
 bs:∀b o,base.get? b=some o→s.heap.get? b=some o∧H b=none
 bsz:base.objs.size≤s.heap.objs.size
 funs:s.heap.FunFrames base outer
 frf:∀b∈frs outer,H b=none
 hok:HOk P w H s.heap
 bare:AllBare s.gens
def CE(outer:List Env)(P:Program)(w:World)(H:Hp)(s:Shared)(Q:VK)(u:Value)(s':Shared):Prop:=
 ∃v H',s'.os=s.os∧AllBare s'.gens∧Un (frs outer) [] H H' s.heap s'.heap∧HOk P w H' s'.heap∧RelV v u∧Q v H'
def CR(CX:CXT)(outer:List Env)(P:Program)(w:World)(H:Hp)(s:Shared)(Q:VK)(E:XK)(r:Result)(s':Shared):Prop:=
 match r with
 | .ok (.ret u)=>CE outer P w H s Q u s'
 | .ok _=>False
 | .error e=>CX outer H s E e s'
structure Bu(P:Program)(w:World)(K:PySem.W.Frag)(mg:Str→Option Value)(base:Heap)(CX:CXT)(k:Nat)(f:Addr)(fd:FuncData)(ps:List Str)(sp:Sp):Prop where
 len:∀vs H Q E,sp vs H Q E→vs.length=ps.length
 run:∀(A:Around) (outer:List Env) (s:Shared) (H:Hp) (args:Args) (us:List Value) (vs:List V) (Q:VK) (E:XK),Ea k A→ao P w K mg base A outer s H→BindsTo s fd args (ps.zip us)→Vals vs us→sp vs H Q E→
  codeAny (model P w) A (.call (.ref f) args) (CR CX outer P w H s Q E) s
theorem Bu.mono{P:Program}{w:World}{K:PySem.W.Frag}{mg:Str→Option Value}{base:Heap}{CX:CXT}{j k:Nat}{f:Addr}{fd:FuncData}{ps:List Str}{sp:Sp}(F:Bu P w K mg base CX j f fd ps sp)(h:j≤k):
 Bu P w K mg base CX k f fd ps sp:=⟨F.len,fun A outer s H args us vs Q E hr=>F.run A outer s H args us vs Q E (hr.mono h)⟩
theorem ao.make{P:Program}{w:World}{K:PySem.W.Frag}{mg:Str→Option Value}{base:Heap}{A:Around}{outer:List Env}{s:Shared}{H:Hp}(e:ao P w K mg base A outer s H)(C:Addr)(us:List Value)(kw:List (Str×Value)):
 ao P w K mg base (A.under (.builtin "type.__call__" ⟨.ref C::us,kw⟩)) outer s H:=⟨by first | exact e.frames | (simpa [Around.under,Code.envs,Code.isFrame,pushEnvs] using e.frames),e.mod,e.bs,e.bsz,e.funs,e.frf,e.hok,e.bare⟩
section
variable{X:Cx}{pins:List (Addr×Obj)}{σ:St}{H:Hp}{s s':Shared}
theorem Inv.env0(I:Inv X pins σ H s):ao X.prog X.w X.K X.mg X.base X.A X.stack s H:=
 ⟨I.ok.frames,I.ok.mod,I.bs,Nat.le_trans I.ok.bsz I.sz,I.stack,I.stkFree,I.hok,I.bare⟩
theorem Inv.after{Q:VK}{u:Value}(I:Inv X pins σ H s)(h:CE X.stack X.prog X.w H s Q u s'):EP X pins σ Q u s':=by
 obtain⟨v,H',os,bare,un,hok,r,q⟩:=h
 obtain⟨hh,g,d,t,os'⟩:=s'
 obtain rfl:os'=s.os:=os
 exact⟨v,H',I.call (h':=hh) (g':=g) (d':=d) (t':=t) (ch:=[]) un hok bare (fun b z=>absurd z (by simp)),r,q⟩
end
def bH(sp:Sp)(dvs:List V)(E:XK)(t:TA):TE:=fun σ H Q=>t σ H fun vs H1=>sp (vs++dvs) H1 Q E
def YD(C:Addr)(m:Str)(sp:Sp)(dvs:List V)(E:XK)(ta:TE)(t:TA):TE:=fun σ H Q=>ta σ H fun x H1=>∃a dx fs,x=.ref a∧H1 a=some (.ins C dx fs)∧fs.lookup m=none∧
 t σ H1 fun vs H2=>sp (x::(vs++dvs)) H2 Q E
def Vt(C:Addr)(sp:Sp)(dvs:List V)(E:XK)(t:TA):TE:=fun σ H Q=>t σ H fun vs H1=>∀x dx,H1 x=none→H1 dx=none→dx≠x→
 sp (.ref x::(vs++dvs)) (upd (upd H1 dx (.own x)) x (.ins C dx [])) (fun v H2=>v=.non∧Q (.ref x) H2) E
def Binds(K:PySem.W.Frag)(fd:FuncData)(ps:List Str)(ds:List Value):Prop:=
 ∀(s:Shared) (us:List Value),K.In s.heap→(us++ds).length=ps.length→BindsTo s fd ⟨us,[]⟩ (ps.zip (us++ds))
theorem Binds.all{K:PySem.W.Frag}{fd:FuncData}{ps:List Str}(h:∀us:List Value,us.length=ps.length→bindArgs fd ⟨us,[]⟩=pure (ps.zip us)):Binds K fd ps []:=fun s us _ hl=>by
 rw[List.append_nil] at hl ⊢
 exact .of_eq (h us hl)
def MP(CX:CXT)(X:Cx)(E:XK):Prop:=∀(pins:List (Addr×Obj)) (σ:St) (H:Hp) (s:Shared) (e:Value) (s':Shared),Inv X pins σ H s→CX X.stack H s E e s'→X.xe e s'
section
variable{X:Cx}{CX:CXT}{k:Nat}{f C:Addr}{fd:FuncData}{ps:List Str}{sp:Sp}{dvs:List V}{ds:List Value}{E:XK}{x m:Str}{p pos apos:Pos}{e o:Expr}{es:List Expr}{ta:TE}{t:TA}
theorem UJ{pins:List (Addr×Obj)}{σ:St}{H:Hp}{s:Shared}{Q:VK}{us:List Value}{vs:List V}(F:Bu X.prog X.w X.K X.mg X.base CX k f fd ps sp)(hr:Ea k X.A)(hb:Binds X.K fd ps ds)(hd:Vals dvs ds)(hx:MP CX X E)
 (I:Inv X pins σ H s)(r:Vals vs us)(h:sp (vs++dvs) H Q E):wpAny (model X.prog X.w) X.A (call (.ref f) us) (EP X pins σ Q) X.xe s:=by
 have r2:Vals (vs++dvs) (us++ds):=r.append hd
 have hl:(us++ds).length=ps.length:=by rw[←r2.length];exact F.len _ _ _ _ h
 refine wpAny_call (codeAny_mono (F.run X.A X.stack s H ⟨us,[]⟩ (us++ds) (vs++dvs) Q E hr I.env0 (hb s us I.kIn hl) r2 h) fun r s' hq=>?_)
 cases r with
 | error e=>exact hx pins σ H s e s' I hq
 | ok fl=>
  cases fl with
  | ret u=>exact I.after hq
  | next=>exact False.elim hq
  | brk=>exact False.elim hq
  | cont=>exact False.elim hq
theorem mL(F:Bu X.prog X.w X.K X.mg X.base CX k f fd ps sp)(hr:Ea k X.A)(hg:Gl X x)(hm:X.mg x=some (.ref f))(hk:PySem.W.keepIn X.K (.ref f)=true)(hb:Binds X.K fd ps ds)(hd:Vals dvs ds)(hx:MP CX X E)
 (ha:PA X (e::es) t)(hdb:(x==("__debug__":Str))=false:=by decide)(he:starEach (e::es) X.env=(false,eval e X.env)::starEach es X.env:=by rfl)(hpl:(backTo pos (starEach es X.env)).any (·.1)=false:=by rfl):
 PE X (.Call (.Name x p) (e::es) [] pos) (bH sp dvs E t):=by
 intro pins s σ H Q I h
 refine wpAny_Call_Name_kw (GF I hg hm ?_ hdb)
 refine PySem.W.callWith_K (h₀:=X.base) I.ok.mod.kin hk (thn (ha pos pins s σ H _ I h) fun us s1 ⟨vs,H1,I1,r,q⟩=>⟨I1.kIn,?_⟩) he hpl
 exact UJ F hr hb hd hx I1 r q
theorem mH{pl:Sem Bool}(he:PE X o ta)(c:Cls X.K C)(hm:Meth X.K C m f)(F:Bu X.prog X.w X.K X.mg X.base CX k f fd ps sp)(hr:Ea k X.A)(hb:Binds X.K fd ps ds)(hd:Vals dvs ds)(hx:MP CX X E)(ha:PA X (e::es) t)
 (hst:starEach (e::es) X.env=(false,eval e X.env)::starEach es X.env:=by rfl)(hpl:(backTo pos (starEach es X.env)).any (·.1)=false:=by rfl)
 (ht:eval (.Call (.Attribute o m apos) (e::es) [] pos) X.env=(do
  let ov ←eval o X.env
  standAt apos.atName
  let (f,first) ←holding [ov] (getMethod ov m pl)
  callWith pos f first (backTo pos (starEach (e::es) X.env)) (backToKw pos (keywordEach [] X.env))):=by rfl):
 PE X (.Call (.Attribute o m apos) (e::es) [] pos) (YD C m sp dvs E ta t):=by
 intro pins s σ H Q I h
 refine PySem.W.methodCall_KW (pl:=pl) (thn (he pins s σ H _ I h) fun u s1 ⟨x,H1,I1,rx,a,dx,fs,ex,ea,l,q⟩=>?_) ht
 subst ex
 obtain rfl:u=Value.ref a:=rx
 refine KZ I1 ea c hm l ?_
 refine PySem.W.callWith_K (first:=[.ref a]) (h₀:=X.base) I.ok.mod.kin hm.kp (thn (ha pos pins s1 σ H1 _ I1 q) fun us s2 ⟨vs,H2,I2,r,q2⟩=>⟨I2.kIn,?_⟩) hst hpl
 exact UJ (us:=.ref a::us) (vs:=.ref a::vs) F hr hb hd hx I2 (.cons rfl r) q2
theorem jG{pl:Sem Bool}(he:PE X o ta)(c:Cls X.K C)(hm:Meth X.K C m f)(F:Bu X.prog X.w X.K X.mg X.base CX k f fd ps sp)(hr:Ea k X.A)(hb:Binds X.K fd ps ds)(hd:Vals dvs ds)(hx:MP CX X E)
 (ht:eval (.Call (.Attribute o m apos) [] [] pos) X.env=(do
  let ov ←eval o X.env
  standAt apos.atName
  let (f,first) ←holding [ov] (getMethod ov m pl)
  callWith pos f first (backTo pos (starEach [] X.env)) (backToKw pos (keywordEach [] X.env))):=by rfl):
 PE X (.Call (.Attribute o m apos) [] [] pos) (YD C m sp dvs E ta YC):=by
 intro pins s σ H Q I h
 refine PySem.W.methodCall_KW (pl:=pl) (thn (he pins s σ H _ I h) fun u s1 ⟨x,H1,I1,rx,a,dx,fs,ex,ea,l,q⟩=>?_) ht
 subst ex
 obtain rfl:u=Value.ref a:=rx
 refine KZ I1 ea c hm l ?_
 exact PySem.W.callWith_K0 (first:=[.ref a]) I1.kIn hm.kp (UJ (us:=[.ref a]) (vs:=[.ref a]) F hr hb hd hx I1 (.cons rfl .nil) q)
structure Mk(K:PySem.W.Frag)(C f:Addr):Prop where
 makes:PySem.W.makesIn K C=true
 init:PySem.W.findIn K (.ref C) "__init__"=some (some (.ref f))
 fn:PySem.W.isFn K (.ref f)=true
 kp:PySem.W.keepIn K (.ref C)=true
theorem YM{pins:List (Addr×Obj)}{σ:St}{H:Hp}{s:Shared}{Q:VK}{us:List Value}{vs:List V}(M:Mk X.K C f)(F:Bu X.prog X.w X.K X.mg X.base CX k f fd ps sp)(hr:Ea (k+1) X.A)(hb:Binds X.K fd ps ds)(hd:Vals dvs ds)
 (hx:MP CX X E)(I:Inv X pins σ H s)(r:Vals vs us)
 (h:∀x dx,H x=none→H dx=none→dx≠x→sp (.ref x::(vs++dvs)) (upd (upd H dx (.own x)) x (.ins C dx [])) (fun v H2=>v=.non∧Q (.ref x) H2) E):
 wpAny (model X.prog X.w) X.A (call (.ref C) us) (EP X pins σ Q) X.xe s:=by
 have hq:=h (s.heap.objs.size+1) s.heap.objs.size (I.hok.fresh (Nat.le_succ _)) (I.hok.fresh (Nat.le_refl _)) (Nat.ne_of_lt (Nat.lt_succ_self _))
 have I2:=Inv.made (C:=C) I
 have r2:Vals (V.ref (s.heap.objs.size+1)::(vs++dvs)) (Value.ref (s.heap.objs.size+1)::(us++ds)):=.cons rfl (r.append hd)
 have hl:(Value.ref (s.heap.objs.size+1)::us++ds).length=ps.length:=by
  have e:=r2.length
  rw[F.len _ _ _ _ hq] at e
  exact e.symm
 refine wpAny_call (Yv (f:=f) I.kIn M.makes M.init (beq_iff_eq.mp M.fn) (codeAny_mono (F.run _ X.stack _ _ ⟨Value.ref (s.heap.objs.size+1)::us,[]⟩ (Value.ref (s.heap.objs.size+1)::(us++ds)) _ _ E (hr.make C us [])
  (I2.env0.make C us []) (hb _ (Value.ref (s.heap.objs.size+1)::us) I2.kIn hl) r2 hq) fun r s' hq'=>?_))
 cases r with
 | error e=>exact hx pins σ _ _ e s' I2 hq'
 | ok fl=>
  cases fl with
  | ret u=>
   obtain⟨v,H',I3,rv,ev,q3⟩:=I2.after hq'
   subst ev
   exact⟨rv,⟨V.ref (s.heap.objs.size+1),H',I3,rfl,q3⟩⟩
  | next=>exact False.elim hq'
  | brk=>exact False.elim hq'
  | cont=>exact False.elim hq'
theorem bx(M:Mk X.K C f)(F:Bu X.prog X.w X.K X.mg X.base CX k f fd ps sp)(hr:Ea (k+1) X.A)(hg:Gl X x)(hm:X.mg x=some (.ref C))(hb:Binds X.K fd ps ds)(hd:Vals dvs ds)(hx:MP CX X E)
 (ha:PA X (e::es) t)(hdb:(x==("__debug__":Str))=false:=by decide)(he:starEach (e::es) X.env=(false,eval e X.env)::starEach es X.env:=by rfl)(hpl:(backTo pos (starEach es X.env)).any (·.1)=false:=by rfl):
 PE X (.Call (.Name x p) (e::es) [] pos) (Vt C sp dvs E t):=by
 intro pins s σ H Q I h
 refine wpAny_Call_Name_kw (GF I hg hm ?_ hdb)
 refine PySem.W.callWith_K (h₀:=X.base) I.ok.mod.kin M.kp (thn (ha pos pins s σ H _ I h) fun us s1 ⟨vs,H1,I1,r,q⟩=>⟨I1.kIn,?_⟩) he hpl
 exact YM M F hr hb hd hx I1 r q
theorem jH(M:Mk X.K C f)(F:Bu X.prog X.w X.K X.mg X.base CX k f fd ps sp)(hr:Ea (k+1) X.A)(hg:Gl X x)(hm:X.mg x=some (.ref C))(hb:Binds X.K fd ps ds)(hd:Vals dvs ds)(hx:MP CX X E)
 (hdb:(x==("__debug__":Str))=false:=by decide):PE X (.Call (.Name x p) [] [] pos) (Vt C sp dvs E YC):=by
 intro pins s σ H Q I h
 refine wpAny_Call_Name_kw (GF I hg hm ?_ hdb)
 exact PySem.W.callWith_K0 I.kIn M.kp (YM (us:=[]) M F hr hb hd hx I .nil h)
end
section
variable{X:Cx}{CX:CXT}{k:Nat}{f C:Addr}{fd:FuncData}{ps ks:List Str}{sp:Sp}{E:XK}{x m:Str}{p pos apos kpos:Pos}{e o:Expr}{es:List Expr}{kws:List Keyword}{te ta:TE}{t tk:TA}{nm:Option Str}
variable{g:List Value→List Value→List Value}{gV:List V→List V→List V}
end
structure BV(N P:List Str)(sc:Scope):Prop where
 kind:sc.kind=.function
 co:sc.isCoroutine=false
 gen:sc.isGenerator=false
 nd:N.Nodup
 pre:N.take P.length=P
 par:∀x∈P,sc.names.lookup x=some .local∨sc.names.lookup x=some .cell
 nofree:∀y∈sc.names,y.2≠.free
theorem WQ{kindOf:Str→Option NameKind}{x:Str}:∀{binds:List (Str×Value)} {m:Str→Option Value},(∀v,(x,v)∉binds)→bindL kindOf binds m x=m x
 | [],_,_=>rfl
 | (n,v)::r,m,h=>by
  unfold bindL
  rw[WQ fun w hw=>h w (List.mem_cons_of_mem _ hw)]
  split
  ·have:x≠n:=by rintro rfl;exact h v List.mem_cons_self
   simp[this]
  ·rfl
theorem WT{kindOf:Str→Option NameKind}{x:Str}:∀{binds:List (Str×Value)} {m:Str→Option Value},(∀v,(x,v)∉binds)→bindC kindOf binds m x=m x
 | [],_,_=>rfl
 | (n,v)::r,m,h=>by
  unfold bindC
  rw[WT fun w hw=>h w (List.mem_cons_of_mem _ hw)]
  split
  ·rfl
  ·have:x≠n:=by rintro rfl;exact h v List.mem_cons_self
   simp[this]
theorem WR{kindOf:Str→Option NameKind}{x:Str}{v:Value}:∀{P:List Str} {vs:List Value} {i:Nat} {m:Str→Option Value},P.Nodup→P[i]?=some x→vs[i]?=some v→kindOf x=some .local→
 bindL kindOf (P.zip vs) m x=some v
 | [],_,_,_,_,h,_,_=>by simp at h
 | _::_,[],_,_,_,_,h,_=>by simp at h
 | p::P,w::vs,0,m,nd,h1,h2,hk=>by
  simp at h1 h2;subst h1;subst h2
  show bindL kindOf ((p,w)::P.zip vs) m p=_
  unfold bindL
  rw[WQ fun v hv=>(List.nodup_cons.mp nd).1 (List.of_mem_zip hv).1,if_pos hk]
  simp
 | p::P,w::vs,i+1,m,nd,h1,h2,hk=>by
  show bindL kindOf ((p,w)::P.zip vs) m x=_
  unfold bindL
  exact WR (i:=i) (List.nodup_cons.mp nd).2 (by simpa using h1) (by simpa using h2) hk
theorem WW{kindOf:Str→Option NameKind}{x:Str}{v:Value}:∀{P:List Str} {vs:List Value} {i:Nat} {m:Str→Option Value},P.Nodup→P[i]?=some x→vs[i]?=some v→kindOf x≠some .local→
 bindC kindOf (P.zip vs) m x=some v
 | [],_,_,_,_,h,_,_=>by simp at h
 | _::_,[],_,_,_,_,h,_=>by simp at h
 | p::P,w::vs,0,m,nd,h1,h2,hk=>by
  simp at h1 h2;subst h1;subst h2
  show bindC kindOf ((p,w)::P.zip vs) m p=_
  unfold bindC
  rw[WT fun v hv=>(List.nodup_cons.mp nd).1 (List.of_mem_zip hv).1,if_neg hk]
  simp
 | p::P,w::vs,i+1,m,nd,h1,h2,hk=>by
  show bindC kindOf ((p,w)::P.zip vs) m x=_
  unfold bindC
  exact WW (i:=i) (List.nodup_cons.mp nd).2 (by simpa using h1) (by simpa using h2) hk
def start(N:List Str)(vs:List V):St:=vs.map some++List.replicate (N.length-vs.length) none
def QW(CX:CXT)(P:Program)(w:World)(K:PySem.W.Frag)(mg:Str→Option Value)(base:Heap)(N:List Str)(qual:Str)(scope:Scope)(f:Addr)(cd:Value)(A:Around)(outer:List Env)(s:Shared)(H:Hp)(E:XK):Cx where
 prog:=P
 w:=w
 K:=K
 mg:=mg
 base:=base
 A:=A.deeper (envOfC qual scope s.heap.objs.size f cd)
 N:=N
 s₀:=s
 H₀:=H
 env:=envOfC qual scope s.heap.objs.size f cd
 outer:=outer
 stack:=envOfC qual scope s.heap.objs.size f cd::outer
 ex:=[]
 calm:=true
 fn:=fun _=>true
 pn:=[]
 xe:=fun e s'=>wpAny (model P w) (A.deeper (envOfC qual scope s.heap.objs.size f cd)) (leaving (envOfC qual scope s.heap.objs.size f cd) e) (fun _ s''=>CX outer H s E e s'') (fun e' s''=>CX outer H s E e' s'') s'
theorem ZG{sc:Scope}{n:Nat}{x:Str}(h:sc.names.lookup x=some .cell):∃c,(cellsFrom n sc.names []).lookup x=some c:=by
 have q:=PySem.W.cellsFrom_some sc.names n [] (.inl h)
 exact Option.isSome_iff_exists.mp q
theorem fB{CX:CXT}{P:Program}{w:World}{K:PySem.W.Frag}{mg:Str→Option Value}{base:Heap}{N ps:List Str}{qual:Str}{scope:Scope}{f:Addr}{cd:Value}{A:Around}{outer:List Env}{s s1:Shared}{H:Hp}{E:XK}{us:List Value}{vs:List V}
 (S:BV N ps scope)(hd:A.handled=none)(e0:ao P w K mg base A outer s H)(hl:vs.length=ps.length)(r:Vals vs us)
 (x:InCallC s s.heap.objs.size (bindL (envOfC qual scope s.heap.objs.size f cd).kindOf (ps.zip us) fun _=>none) (cellsFrom (s.heap.objs.size+1) scope.names []) (bindC (envOfC qual scope s.heap.objs.size f cd).kindOf (ps.zip us) fun _=>none) s1):
 Inv (QW CX P w K mg base N qual scope f cd A outer s H E) [] (start N vs) H s1:=by
 have hpl:ps.length≤N.length:=by have:=congrArg List.length S.pre;rw[List.length_take] at this;omega
 obtain⟨h1,tk,rfl,hk⟩:=x.done
 have noA:∀b:Addr,b∉(QW CX P w K mg base N qual scope f cd A outer s H E).ex:=fun b z=>absurd (show b∈([]:List Addr) from z) (by simp)
 refine⟨⟨e0.mod,S.kind,rfl,rfl,Nat.le_refl _,fun y z c h1 h2=>?_,fun y hy=>?_,fun y c _ h=>?_,fun _=>hd,Around.frames_deeper e0.frames,.inr ⟨rfl,rfl⟩,fun b z=>absurd z (noA b),e0.bs,e0.bsz,fun b _ _=>noA b,fun b z=>absurd z (noA b),e0.funs,e0.frf⟩,
  rfl,e0.bare,Un.kept hk,⟨_,x.toInCall.ns,fun i y v h1 h2 h3=>?_⟩,fun y c h=>⟨_,x.cell y c h⟩,e0.hok.fresh (Nat.le_refl _),fun y c h=>?_,fun p hp=>absurd (show p∈([]:List (Addr×Obj)) from hp) (by simp),e0.hok.kept hk,?_⟩
 ·exact name_of_addr x.apart (PySem.mem_of_lookup h1) (PySem.mem_of_lookup h2)
 ·have hy:scope.names.lookup y=some .cell∨scope.names.lookup y=some .free:=hy
  rcases hy with hy | hy
  ·exact ZG hy
  ·exact absurd rfl (S.nofree _ (PySem.mem_of_lookup hy))
 ·exact Nat.le_of_lt (x.above y c (PySem.mem_of_lookup h))
 ·have hi:i<vs.length:=by
   unfold start at h2
   by_cases hi:i<vs.length
   ·exact hi
   ·rw[List.getElem?_append_right (by simpa using hi)] at h2
    rw[List.getElem?_replicate] at h2
    split at h2<;>cases h2
  have ha:vs[i]?=some v:=by
   unfold start at h2
   rw[List.getElem?_append_left (by simpa using hi),List.getElem?_map] at h2
   cases e:vs[i]? with
   | none=>rw[e] at h2;cases h2
   | some a=>rw[e] at h2;cases h2;rfl
  obtain⟨u,hu,rv⟩:=r.get ha
  have hp:ps[i]?=some y:=by
   rw[←S.pre,List.getElem?_take_of_lt (by omega)];exact h1
  have ndP:ps.Nodup:=by rw[←S.pre];exact S.nd.sublist (List.take_sublist _ _)
  refine⟨u,rv,?_⟩
  rcases S.par y (List.mem_of_getElem? hp) with k | k
  ·exact .inl ⟨k,WR ndP hp hu k⟩
  ·obtain⟨c,e⟩:=ZG (n:=s.heap.objs.size+1) k
   refine .inr ⟨.inl k,c,e,?_⟩
   have q:=x.cell y c e
   rw[WW ndP hp hu (by show scope.names.lookup y≠_;rw[k];decide)] at q
   exact q
 ·exact e0.hok.fresh (Nat.le_of_lt (x.above y c (PySem.mem_of_lookup h)))
 ·unfold start
  show _=N.length
  rw[List.length_append,List.length_map,List.length_replicate]
  omega
theorem cX{CX:CXT}{P:Program}{w:World}{K:PySem.W.Frag}{mg:Str→Option Value}{base:Heap}{k:Nat}{f:Addr}{name qual:Str}{params:Arguments}{body:List Stmt}{scope:Scope}{dV kV doc pm cdv ct oc:Value}{an od:Option Addr}
 {osl:Array (Option Value)}{N ps:List Str}{sp:Sp}(lk:K.lookup f=some ⟨oc,od,.func (PySem.W.fnOf name qual params body scope dV kV doc pm an cdv ct),osl⟩)(hcd:PySem.W.codeIn K cdv qual=true)(S:BV N ps scope)
 (len:∀vs H Q E,sp vs H Q E→vs.length=ps.length)
 (hbody:∀(A:Around) (outer:List Env) (s:Shared) (H:Hp) (vs:List V) (Q:VK) (E:XK),Ea k (A.deeper (envOfC qual scope s.heap.objs.size f cdv))→sp vs H Q E→
  ∃t,PSs (QW CX P w K mg base N qual scope f cdv A outer s H E) body t∧t { nx:=fun _ H'=>Q .non H',rt:=Q } (start N vs) H):
 Bu P w K mg base CX (k+1) f (PySem.W.fnOf name qual params body scope dV kV doc pm an cdv ct) ps sp:=by
 refine⟨len,fun A outer s H args us vs Q E hr e0 hb r hsp=>?_⟩
 have hl:=len _ _ _ _ hsp
 have KX:K.In s.heap:=e0.mod.kin.keeps fun b o e=>(e0.bs b o e).1
 have lim:s.heap.NoLimit:=e0.mod.nolimit.keeps fun b o e=>(e0.bs b o e).1
 have hkind:∀y∈ps.zip us,scope.names.lookup y.1=some .local∨(scope.names.lookup y.1=some .cell∧((cellsFrom (s.heap.objs.size+1) scope.names []).lookup y.1).isSome=true):=fun⟨n,v⟩ hy=>by
  rcases S.par n (List.of_mem_zip hy).1 with q | q
  ·exact .inl q
  ·exact .inr ⟨q,PySem.W.cellsFrom_some _ _ _ (.inl q)⟩
 refine codeAny_call_function hr.depth (KX _ _ lk) rfl S.co S.gen rfl (PySem.W.codeRec_of KX hcd) (hb _ _ _ _ ?_)
 refine wpAny_newFunctionEnv_cells S.kind hkind fun env he s1 x=>?_
 subst he
 refine⟨lim.keeps x.toInCall.keep,codeAny_func ?_⟩
 obtain⟨t,ht,hq⟩:=hbody A outer s H vs Q E (hr.deeper _) hsp
 have I:Inv (QW CX P w K mg base N qual scope f cdv A outer s H E) [] (start N vs) H s1:=fB S hr.hd e0 hl r x
 refine wpAny_mono (ht [] s1 (start N vs) H _ I hq) (fun fl s' hs=>?_) fun e s' hs=>hs
 have fin:∀{σ':St} {H':Hp} {v:V} {u:Value},Inv (QW CX P w K mg base N qual scope f cdv A outer s H E) [] σ' H' s'→RelV v u→Q v H'→CE outer P w H s Q u s':=
  fun{σ' H' v u} J rv q=>⟨v,H',J.os,J.bare,J.base,J.hok,rv,q⟩
 cases fl with
 | ret u=>
  obtain⟨v,σ',H',J,rv,q⟩:=hs
  exact fin J rv q
 | next=>
  obtain⟨σ',H',J,q⟩:=hs
  exact fin (v:=V.non) (u:=Value.none) J rfl q
 | brk=>
  obtain⟨_,_,_,q⟩:=hs
  exact False.elim q
 | cont=>
  obtain⟨_,_,_,q⟩:=hs
  exact False.elim q
end L2
namespace L2
open PySem PySem.Spec PyProof.Rows
section
variable{X:Cx}{x:Str}{p pos:Pos}{e:Expr}{es:List Expr}{t:TA}{id T:String}{r:List V→Hp→VK→Prop}
def tCB(r:List V→Hp→VK→Prop)(t:TA):TE:=fun σ H Q=>t σ H fun vs H1=>r vs H1 Q
theorem CW(hc:Gq X (.builtin id) r)(hg:Gl X x)(hm:X.mg x=none)(hv:bootBuiltins x=some (.builtin id))(ha:PA X (e::es) t)(hn:x≠"__name__":=by decide)(hdb:(x==("__debug__":Str))=false:=by decide)
 (he:starEach (e::es) X.env=(false,eval e X.env)::starEach es X.env:=by rfl)(hpl:(backTo pos (starEach es X.env)).any (·.1)=false:=by rfl):PE X (.Call (.Name x p) (e::es) [] pos) (tCB r t):=by
 intro pins s σ H Q I h
 refine wpAny_Call_Name_kw (KQ I hg hm hv ?_ hn hdb)
 exact PyProof.Rows.callWith_builtin1 (thn (ha pos pins s σ H _ I h) fun us s1 ⟨vs,H1,I1,r1,q1⟩=>hc pins s1 σ H1 vs us Q I1 r1 q1) he hpl
theorem Dc(hc:Gq X (.type T) r)(hg:Gl X x)(hm:X.mg x=none)(hv:bootBuiltins x=some (.type T))(ha:PA X (e::es) t)(hn:x≠"__name__":=by decide)(hdb:(x==("__debug__":Str))=false:=by decide)
 (he:starEach (e::es) X.env=(false,eval e X.env)::starEach es X.env:=by rfl)(hpl:(backTo pos (starEach es X.env)).any (·.1)=false:=by rfl):PE X (.Call (.Name x p) (e::es) [] pos) (tCB r t):=by
 intro pins s σ H Q I h
 refine wpAny_Call_Name_kw (KQ I hg hm hv ?_ hn hdb)
 exact PyProof.Rows.callWith_type1 (thn (ha pos pins s σ H _ I h) fun us s1 ⟨vs,H1,I1,r1,q1⟩=>hc pins s1 σ H1 vs us Q I1 r1 q1) he hpl
end
end L2
namespace HT
open PySem PyProof.Rows
section
open PySem.SeqAt
open PySem.AutoSeq1 (wpAny_loadPart')
open PySem.MeetsSeq PySem.MeetsSeq2 PySem.MeetsSeq3
end
section
variable{prog:Program}{w:World}{A:Around}{E:Value→Shared→Prop}{s:Shared}
end
end HT
namespace L2
open PySem PySem.Spec PyProof.Rows
abbrev TO:=St→Hp→(Option Int→Hp→Prop)→Prop
def PO(X:Cx)(e:Option Expr)(t:TO):Prop:=
 ∀(pins:List (Addr×Obj)) (s:Shared) (σ:St) (H:Hp) (Q:Option Int→Hp→Prop),Inv X pins σ H s→t σ H Q→
  wpAny (model X.prog X.w) X.A (evalPart e X.env) (fun u s'=>∃o H',Inv X pins σ H' s'∧IsPart u o∧Q o H') X.xe s
def bD:TO:=fun _ H Q=>Q none H
def o6(t:TE):TO:=fun σ H Q=>t σ H fun x H1=>∃i,x=.int i∧Q (some i) H1
theorem intsAre_of{ns:List Int}:∀{us:List Value},Vals (ns.map V.int) us→IntsAre us ns:=by
 induction ns with
 | nil=>intro us r;rw[List.map_nil] at r;cases r;exact .nil
 | cons n ns ih=>
  intro us r
  rw[List.map_cons] at r
  cases r with
  | cons r1 r2=>
   obtain⟨t,e⟩:=r1
   subst e
   exact .cons n t (ih r2)
section
variable{X:Cx}{e:Expr}{te:TE}{lo hi:Option Expr}{tl th:TO}{pos p2:Pos}
theorem mF:PO X none bD:=by
 intro pins s σ H Q I h
 rw[evalPart_none]
 exact wpAny_pure ⟨none,H,I,.none,h⟩
theorem mD(h:PE X e te):PO X (some e) (o6 te):=by
 intro pins s σ H Q I hw
 rw[evalPart_some]
 refine thn (h pins s σ H _ I hw) fun u s1 ⟨x,H1,I1,r1,q1⟩=>?_
 obtain⟨i,rfl,q⟩:=q1
 obtain⟨t,rfl⟩:=r1
 exact⟨some i,H1,I1,.int i t,q⟩
def SlR(X:Cx)(r:V→Option Int→Option Int→Hp→VK→Prop):Prop:=
 ∀(pins:List (Addr×Obj)) (s:Shared) (σ:St) (H:Hp) (x:V) (v vl vu:Value) (lo hi:Option Int) (sl:Addr) (Q:VK),Inv X pins σ H s→RelV x v→s.heap.IsSliceOf sl vl vu .none→IsPart vl lo→IsPart vu hi→r x lo hi H Q→
  ∃T id,typeLookup (.type T) "__getitem__"=pure (some (.builtin id))∧s.TypeIs v T∧wpAny (model X.prog X.w) X.A (getItem v (.ref sl)) (EP X pins σ Q) X.xe s
theorem SlR.or{r r':V→Option Int→Option Int→Hp→VK→Prop}(h:SlR X r)(h':SlR X r'):SlR X (fun x lo hi H Q=>r x lo hi H Q∨r' x lo hi H Q):=by
 intro pins s σ H x v vl vu lo hi sl Q I rx hs pl pu q
 rcases q with q | q
 ·exact h pins s σ H x v vl vu lo hi sl Q I rx hs pl pu q
 ·exact h' pins s σ H x v vl vu lo hi sl Q I rx hs pl pu q
def tSl(r:V→Option Int→Option Int→Hp→VK→Prop)(te:TE)(tl th:TO):TE:=fun σ H Q=>te σ H fun x H1=>tl σ H1 fun l H2=>th σ H2 fun u H3=>r x l u H3 Q
theorem jC{r:V→Option Int→Option Int→Hp→VK→Prop}(hr:SlR X r)(he:PE X e te)(hl:PO X lo tl)(hu:PO X hi th):PE X (.Subscript e (.Slice lo hi none p2) pos) (tSl r te tl th):=by
 intro pins s σ H Q I h
 refine Subscript_ (thn (he pins s σ H _ I h) fun v s1 ⟨x,H1,I1,r1,q1⟩=>?_)
 refine wpAny_Slice (thn (hl pins s1 σ H1 _ I1 q1) fun vl s2 ⟨l,H2,I2,pl,q2⟩=>thn (hu pins s2 σ H2 _ I2 q2) fun vu s3 ⟨u,H3,I3,pu,q3⟩=>?_)
 rw[evalPart_none]
 refine wpAny_pure ?_
 have I4:Inv X pins σ H3 { s3 with heap:=s3.heap.push { cls:=.type "slice",data:=.fields #[vl,vu,.none] } }:=I3.kept (t':=s3.toks) fun b ob q=>Heap.get?_push_of_some _ q
 obtain⟨T,id,hT,ht,hg⟩:=hr pins { s3 with heap:=s3.heap.push { cls:=.type "slice",data:=.fields #[vl,vu,.none] } } σ H3 x v vl vu l u s3.heap.objs.size Q I4 r1 (Heap.IsSliceOf.new ..) pl pu q3
 show wpAny (model X.prog X.w) X.A (subscriptTail e (.Slice lo hi none p2) v (.ref s3.heap.objs.size)) (EP X pins σ Q) X.xe { s3 with heap:=s3.heap.push { cls:=.type "slice",data:=.fields #[vl,vu,.none] } }
 exact tail_any (ops:=[.ref s3.heap.objs.size,v]) ht hT hg (by with_unfolding_all rfl)
end
end L2
namespace L2
open PySem PySem.Spec PyProof.Rows
def ixN(n:Nat)(i:Int):Option Nat:=if 0≤i then (if i<n then some i.toNat else none) else if -(n:Int)≤i then some (i+n).toNat else none
def atI{α:Type}(xs:List α)(i:Int):Option α:=(ixN xs.length i).bind fun j=>xs[j]?
theorem cV{n:Nat}{i:Int}{j:Nat}(h:ixN n i=some j):seqIndex? i n=some j∧j<n∧ -(n:Int)≤i∧i<n:=by
 unfold ixN at h
 by_cases h0:0≤i
 ·rw[if_pos h0] at h
  by_cases h1:i<n
  ·rw[if_pos h1] at h
   have e:i.toNat=j:=Option.some.inj h
   exact⟨by rw[seqIndex_of h0 h1,e],by omega,by omega,h1⟩
  ·rw[if_neg h1] at h;cases h
 ·rw[if_neg h0] at h
  by_cases h1: -(n:Int)≤i
  ·rw[if_pos h1] at h
   have e:(i+n).toNat=j:=Option.some.inj h
   exact⟨by rw[seqIndex_neg (by omega) h1,e],by omega,h1,by omega⟩
  ·rw[if_neg h1] at h;cases h
theorem Xx{α:Type}{xs:List α}{i:Int}{v:α}(h:atI xs i=some v):∃j,seqIndex? i xs.length=some j∧xs[j]?=some v∧j<xs.length∧ -(xs.length:Int)≤i∧i<xs.length:=by
 unfold atI at h
 cases e:ixN xs.length i with
 | none=>rw[e] at h;cases h
 | some j=>
  rw[e] at h
  obtain⟨h1,h2,h3,h4⟩:=cV e
  exact⟨j,h1,h,h2,h3,h4⟩
theorem FZ{α:Type}{xs:List α}{j:Nat}{v:α}(h:xs[j]?=some v):atI xs (j:Int)=some v:=by
 have hj:j<xs.length:=(List.getElem?_eq_some_iff.mp h).1
 have e:ixN xs.length (j:Int)=some j:=by
  unfold ixN
  rw[if_pos (by omega),if_pos (by omega)];simp
 unfold atI;rw[e];exact h
def oN(b:Expr):Prop:=∀o i,subscripted b false o i=operate [o,i] (getItem o i)
def IxR(X:Cx)(r:R2):Prop:=
 ∀(value slice:Expr) (pins:List (Addr×Obj)) (s:Shared) (σ:St) (H:Hp) (x y:V) (v u:Value) (Q:VK),Inv X pins σ H s→RelV x v→RelV y u→r x y H Q→
  subscripted slice false v u=operate [v,u] (getItem v u)→wpAny (model X.prog X.w) X.A (subscriptTail value slice v u) (EP X pins σ Q) X.xe s
def MtR(X:Cx)(id:String)(r:V→List V→Hp→VK→Prop):Prop:=
 ∀(pins:List (Addr×Obj)) (s:Shared) (σ:St) (H:Hp) (x:V) (xs:List V) (v:Value) (us:List Value) (Q:VK),Inv X pins σ H s→RelV x v→Vals xs us→r x xs H Q→
  wpAny (model X.prog X.w) X.A (call (.builtin id) (v::us)) (EP X pins σ Q) X.xe s
section
variable{X:Cx}{a b:Expr}{ta tb:TE}{pos:Pos}
theorem IxR.or{r r':R2}(h:IxR X r)(h':IxR X r'):IxR X (fun x y H Q=>r x y H Q∨r' x y H Q):=by
 intro value slice pins s σ H x y v u Q I rx ry q hs
 rcases q with q | q
 ·exact h value slice pins s σ H x y v u Q I rx ry q hs
 ·exact h' value slice pins s σ H x y v u Q I rx ry q hs
theorem MtR.or{id:String}{r r':V→List V→Hp→VK→Prop}(h:MtR X id r)(h':MtR X id r'):MtR X id (fun x xs H Q=>r x xs H Q∨r' x xs H Q):=by
 intro pins s σ H x xs v us Q I rx rs q
 rcases q with q | q
 ·exact h pins s σ H x xs v us Q I rx rs q
 ·exact h' pins s σ H x xs v us Q I rx rs q
theorem Bp{r:R2}(hr:IxR X r)(ha:PE X a ta)(hb:PE X b tb)(hs:oN b):PE X (.Subscript a b pos) (tOp r ta tb):=by
 intro pins s σ H Q I h
 exact Subscript_ (tM ha hb I h fun v u s2 x y H2 I2 rx ry q=>hr a b pins s2 σ H2 x y v u Q I2 rx ry q (hs _ _))
def qw(K:PySem.W.Frag):R2:=fun x y H Q=>∃p xs i v,x=.ref p∧y=.int i∧SqL K H p xs∧atI xs i=some v∧Q v H
def qu(K:PySem.W.Frag):R2:=fun x y H Q=>∃p xs i v,x=.ref p∧y=.int i∧SqT K H p xs∧atI xs i=some v∧Q v H
def vf:R2:=fun x y H Q=>∃z i c,x=.str z∧y=.int i∧z.length≤sizeLine∧atI z.cps.toList i=some c∧Q (.str ⟨#[c]⟩) H
theorem JB:IxR X (qw X.K):=by
 intro value slice pins s σ H x y v u Q I rx ry h hs
 obtain⟨p,xs,i,z,rfl,rfl,hq,he,q⟩:=h
 cases rx
 obtain⟨t,rfl⟩:=ry
 obtain⟨its,r,pl,hz⟩:=I.list hq
 obtain⟨j,h1,h2,h3,h4,h5⟩:=Xx he
 obtain⟨w,ew,rw'⟩:=r.get h2
 have hl:=r.length
 have hn:=Oh
 have fin:EP X pins σ Q w s:=⟨z,H,I,rw',q⟩
 by_cases h0:0≤i
 ·have hj:i.toNat=j:=by
   rw[seqIndex_of h0 h5] at h1
   exact Option.some.inj h1
  exact item_listR pl.isList h0 (by omega) (by rw[hj];simpa using ew) fin hs
 ·have hj:(i+(its.toArray.size:Int)).toNat=j:=by
   rw[seqIndex_neg (by omega) h4] at h1
   rw[List.size_toArray,←hl]
   exact Option.some.inj h1
  exact subscriptTail_builtinR (x:=w) pl.isList.typeIs slot_list_getitem.lookup
   (wpAny_getItem_list_neg (Q:=fun r s'=>r=w∧EP X pins σ Q r s') pl.isList (by omega) (by rw[List.size_toArray]<;>omega) (by omega) (by rw[hj];simpa using ew) ⟨rfl,fin⟩) hs
theorem Bm:IxR X (qu X.K):=by
 intro value slice pins s σ H x y v u Q I rx ry h hs
 obtain⟨p,xs,i,z,rfl,rfl,hq,he,q⟩:=h
 cases rx
 obtain⟨t,rfl⟩:=ry
 obtain⟨its,r,pl,hz⟩:=I.tuple hq
 obtain⟨j,h1,h2,h3,h4,h5⟩:=Xx he
 obtain⟨w,ew,rw'⟩:=r.get h2
 have hl:=r.length
 have hn:=Oh
 have fin:EP X pins σ Q w s:=⟨z,H,I,rw',q⟩
 exact subscriptTail_builtinR (x:=w) pl.typeIs slot_tuple_getitem.lookup
  (getItem_tuple (j:=j) (Q:=fun r s'=>r=w∧EP X pins σ Q r s') pl (by omega) (by omega) (by rw[List.size_toArray,←hl];exact h1) (by simpa using ew) ⟨rfl,fin⟩) hs
theorem jh:IxR X vf:=by
 intro value slice pins s σ H x y v u Q I rx ry h hs
 obtain⟨z,i,c,rfl,rfl,hz,he,q⟩:=h
 obtain⟨t,rfl⟩:=rx
 obtain⟨t',rfl⟩:=ry
 obtain⟨j,h1,h2,h3,h4,h5⟩:=Xx he
 have hl:z.cps.toList.length=z.length:=by simp[Str.length]
 rw[hl] at h1 h4 h5
 have hn:=Oh
 exact tail_any (typeIs_str s z t) slot_str_getitem.lookup (getItem_str (c:=c) (by
  have e1:decide (i< -(2^63:Int))=false:=decide_eq_false (by omega)
  have e2:decide (i≥2^63)=false:=decide_eq_false (by omega)
  rw[e1,e2,Bool.or_false]) (by rw[h1];simpa using h2) ⟨.str ⟨#[c]⟩,H,I.tok _,⟨_,rfl⟩,q⟩) hs
theorem aO(its:List Value)(n j:Nat)(u:Value):Obj.mapSeq (·.setIfInBounds j u) { cls:=.type "list",data:=.seq its.toArray n }={ cls:=.type "list",data:=.seq (its.set j u).toArray n }:=by
 simp[Obj.mapSeq]
theorem Inv.lst{pins:List (Addr×Obj)}{σ:St}{H:Hp}{s:Shared}{p:Addr}{xs:List V}(I:Inv X pins σ H s)(h:H p=some (.lst xs)):
 ∃(its:List Value) (n:Nat),Vals xs its∧s.heap.get? p=some { cls:=.type "list",data:=.seq its.toArray n }∧xs.length≤sizeLine:=by
 obtain⟨z,its,n,r,e⟩:=I.hok p _ h
 exact⟨its,n,r,e,z⟩
theorem Inv.lstUpd{pins:List (Addr×Obj)}{σ:St}{H:Hp}{s:Shared}{p:Addr}{xs ys:List V}{its its':List Value}{n n':Nat}{f:Obj→Obj}(I:Inv X pins σ H s)(h:H p=some (.lst xs))
 (ho:s.heap.get? p=some { cls:=.type "list",data:=.seq its.toArray n })(hf:f { cls:=.type "list",data:=.seq its.toArray n }={ cls:=.type "list",data:=.seq its'.toArray n' })(r:Vals ys its')(hz:ys.length≤sizeLine)(t:Nat):
 Inv X pins σ (upd H p (.lst ys)) { s with heap:=s.heap.update p f,toks:=t }:=by
 have e:(s.heap.update p f).get? p=some { cls:=.type "list",data:=.seq its'.toArray n' }:=by
  rw[Heap.get?_update_self f ho (by rw[hf]<;>rfl),hf]
 refine I.write (x:=p) (e:=p) (by rw[h];trivial) (.inl rfl) (fun b u hb q=>(Heap.get?_update_other _ _ (Ne.symm hb)).trans q) ⟨_,e⟩ ?_
 exact⟨hz,its',n',r,e⟩
def pJ:V→V→V→Hp→(Hp→Prop)→Prop:=fun o i v H Q=>∃p xs k j,o=.ref p∧i=.int k∧H p=some (.lst xs)∧ixN xs.length k=some j∧Q (upd H p (.lst (xs.set j v)))
theorem set_list:vK X pJ:=by
 intro pins s σ H o i v ov iv u Q I ro ri rv h
 obtain⟨p,xs,k,j,rfl,rfl,hp,hj,q⟩:=h
 cases ro
 obtain⟨t,rfl⟩:=ri
 obtain⟨its,n,r,ho,hz⟩:=I.lst hp
 obtain⟨h1,h2,h3,h4⟩:=cV hj
 have hl:=r.length
 have hn:=Oh
 have I':Inv X pins σ (upd H p (.lst (xs.set j v))) { s with heap:=s.heap.update p (Obj.mapSeq (·.setIfInBounds j u)) }:=
  I.lstUpd hp ho (aO its n j u) (r.set rv j) (by rw[List.length_set];exact hz) s.toks
 by_cases h0:0≤k
 ·have hk:k.toNat=j:=by
   rw[seqIndex_of h0 h4] at h1
   exact Option.some.inj h1
  exact PySem.W.ki_setAt ho h0 (by omega) (by rw[List.size_toArray,←hl];exact h4) (by rw[hk];exact⟨_,I',q⟩)
 ·have hk:(k+(its.toArray.size:Int)).toNat=j:=by
   rw[seqIndex_neg (by omega) h3] at h1
   rw[List.size_toArray,←hl]
   exact Option.some.inj h1
  exact PySem.W.ki_setBack ho (by omega) (by rw[List.size_toArray,←hl];exact h3) (by omega) (by rw[hk];exact⟨_,I',q⟩)
def Ii:V→Bool
 | .non=>true
 | .bl _=>true
 | .int _=>true
 | .str _=>true
 | _=>false
def eqV:V→V→Bool
 | .non,.non=>true
 | .bl a,.bl b=>a==b
 | .bl a,.int b=>(if a then 1 else 0)==b
 | .int a,.bl b=>a==(if b then 1 else 0)
 | .int a,.int b=>a==b
 | .str a,.str b=>a==b
 | _,_=>false
theorem jt{A:Around}{s:Shared}{y x:V}{u v:Value}(ry:RelV y u)(rx:RelV x v)(fy:Ii y=true)(fx:Ii x=true):SeqAt.EqAt A s u v (eqV y x):=by
 cases y with
 | non=>
  cases ry
  cases x with
  | non=>cases rx;exact SeqAt.EqAt.same _
  | bl b=>cases rx;exact SeqAt.EqAt.none_bool b
  | int b=>obtain⟨t,rfl⟩:=rx;exact SeqAt.EqAt.none_int b t
  | str b=>obtain⟨t,rfl⟩:=rx;exact SeqAt.EqAt.none_str b t
  | _=>exact absurd (show false=true from fx) Bool.false_ne_true
 | bl a=>
  cases ry
  cases x with
  | non=>cases rx;exact SeqAt.EqAt.bool_none a
  | bl b=>cases rx;exact SeqAt.EqAt.bool_bool a b
  | int b=>obtain⟨t,rfl⟩:=rx;exact SeqAt.EqAt.bool_int a b t
  | str b=>obtain⟨t,rfl⟩:=rx;exact SeqAt.EqAt.bool_str a b t
  | _=>exact absurd (show false=true from fx) Bool.false_ne_true
 | int a=>
  obtain⟨t',rfl⟩:=ry
  cases x with
  | non=>cases rx;exact SeqAt.EqAt.int_none a t'
  | bl b=>cases rx;exact SeqAt.EqAt.int_bool a t' b
  | int b=>obtain⟨t,rfl⟩:=rx;exact SeqAt.EqAt.int_int a t' b t
  | str b=>obtain⟨t,rfl⟩:=rx;exact SeqAt.EqAt.int_str a t' b t
  | _=>exact absurd (show false=true from fx) Bool.false_ne_true
 | str a=>
  obtain⟨t',rfl⟩:=ry
  cases x with
  | non=>cases rx;exact SeqAt.EqAt.str_none a t'
  | bl b=>cases rx;exact SeqAt.EqAt.str_bool a t' b
  | int b=>obtain⟨t,rfl⟩:=rx;exact SeqAt.EqAt.str_int a t' b t
  | str b=>obtain⟨t,rfl⟩:=rx;exact SeqAt.EqAt.str_str a t' b t
  | _=>exact absurd (show false=true from fx) Bool.false_ne_true
 | _=>exact absurd (show false=true from fy) Bool.false_ne_true
def eqU(x:V)(u:Value):Bool:=match u with
 | .none=>eqV .non x
 | .bool b=>eqV (.bl b) x
 | .int i _=>eqV (.int i) x
 | .str z _=>eqV (.str z) x
 | _=>false
theorem jr{x y:V}{u:Value}(r:RelV y u)(f:Ii y=true):eqU x u=eqV y x:=by
 cases y with
 | non=>cases r;rfl
 | bl b=>cases r;rfl
 | int i=>obtain⟨t,rfl⟩:=r;rfl
 | str z=>obtain⟨t,rfl⟩:=r;rfl
 | _=>exact absurd (show false=true from f) Bool.false_ne_true
theorem Xy{x:V}:∀{xs:List V} {us:List Value},Vals xs us→xs.all Ii=true→us.any (eqU x)=xs.any fun y=>eqV y x
 | _,_,.nil,_=>rfl
 | y::xs,u::us,.cons r t,f=>by
  rw[List.all_cons,Bool.and_eq_true] at f
  rw[List.any_cons,List.any_cons,jr r f.1,Xy t f.2]
theorem U0{A:Around}{s:Shared}{x:V}{v:Value}(rx:RelV x v)(fx:Ii x=true):∀{xs:List V} {us:List Value},Vals xs us→xs.all Ii=true→∀u∈us,SeqAt.EqAt A s u v (eqU x u)
 | _,_,.nil,_=>fun u hu=>by cases hu
 | y::xs,u::us,.cons r t,f=>fun u' hu=>by
  rw[List.all_cons,Bool.and_eq_true] at f
  rcases List.mem_cons.mp hu with rfl | hu
  ·rw[jr r f.1];exact jt r rx f.1 fx
  ·exact U0 rx fx t f.2 u' hu
def inV(x:V)(xs:List V):Bool:=xs.any fun y=>eqV y x
def rIn(K:PySem.W.Frag)(neg:Bool):R2:=fun x y H Q=>∃p xs,y=.ref p∧(SqL K H p xs∨SqT K H p xs)∧Ii x=true∧xs.all Ii=true∧Q (.bl (if neg then !inV x xs else inV x xs)) H
theorem XJ:OpR X (compareOp .NotIn) (rIn X.K true):=by
 intro pins s σ H x y v u Q I rx ry h
 obtain⟨p,xs,rfl,hq,fx,fs,q⟩:=h
 cases ry
 rcases hq with hq | hq
 ·obtain⟨its,r,pl,hz⟩:=I.list hq
  refine SeqAt.notIn_listAt (eqU x) pl.isList (fun w hw=>U0 rx fx r fs w (by simpa using hw)) ⟨.bl _,H,I,rfl,?_⟩
  rw[show its.toArray.any (eqU x)=its.any (eqU x) by simp,Xy r fs]
  exact q
 ·obtain⟨its,r,pl,hz⟩:=I.tuple hq
  refine SeqAt.notIn_tupleAt (eqU x) pl (fun w hw=>U0 rx fx r fs w (by simpa using hw)) ⟨.bl _,H,I,rfl,?_⟩
  rw[show its.toArray.any (eqU x)=its.any (eqU x) by simp,Xy r fs]
  exact q
theorem Dl:Gq X (.builtin "len") (fun xs H Q=>∃p ys,xs=[.ref p]∧(SqL X.K H p ys∨SqT X.K H p ys)∧Q (.int ys.length) H):=by
 intro pins s σ H xs us Q I r h
 obtain⟨p,ys,rfl,hq,q⟩:=h
 obtain⟨u,rfl,rx⟩:=vals1 r
 cases rx
 have hn:=Oh
 rcases hq with hq | hq
 ·obtain⟨its,r',pl,hz⟩:=I.list hq
  have hlen:=r'.length
  exact Calls.call_len_list pl.isList (by simp only[List.size_toArray]<;>omega) ⟨.int ys.length,H,I.tok _,⟨s.toks+1,by rw[List.size_toArray,hlen]⟩,q⟩
 ·obtain⟨its,r',pl,hz⟩:=I.tuple hq
  have hlen:=r'.length
  exact len_tuple pl (by simp only[List.size_toArray]<;>omega) ⟨.int ys.length,H,I.tok _,⟨s.toks+1,by rw[List.size_toArray,hlen]⟩,q⟩
theorem Eo:Gq X (.builtin "len") (fun xs H Q=>∃z,xs=[.str z]∧z.length≤sizeLine∧Q (.int z.length) H):=by
 intro pins s σ H xs us Q I r h
 obtain⟨z,rfl,hz,q⟩:=h
 obtain⟨u,rfl,t,rfl⟩:=vals1 r
 have hn:=Oh
 exact len_str (by omega) ⟨.int z.length,H,I.tok _,⟨_,rfl⟩,q⟩
theorem Gq.or{f:Value}{r r':List V→Hp→VK→Prop}(h:Gq X f r)(h':Gq X f r'):Gq X f (fun xs H Q=>r xs H Q∨r' xs H Q):=by
 intro pins s σ H xs us Q I rs q
 rcases q with q | q
 ·exact h pins s σ H xs us Q I rs q
 ·exact h' pins s σ H xs us Q I rs q
theorem Xw:Gq X (.type "list") (fun xs H Q=>∃p ys,xs=[.ref p]∧(SqL X.K H p ys∨SqT X.K H p ys)∧∀l,H l=none→Q (.ref l) (upd H l (.lst ys))):=by
 intro pins s σ H xs us Q I r h
 obtain⟨p,ys,rfl,hq,q⟩:=h
 obtain⟨u,rfl,rx⟩:=vals1 r
 cases rx
 have fin:∀(its:List Value),Vals ys its→ys.length≤sizeLine→∀(h':Heap) (c':Nat),(∀b o',s.heap.get? b=some o'→h'.get? b=some o')→
  h'.get? s.heap.objs.size=some { cls:=.type "list",dict:=none,data:=.seq its.toArray c',slots:= #[] }→EP X pins σ Q (.ref s.heap.objs.size) { s with heap:=h' }:=fun its r' hz h' c' kp e=>
  ⟨.ref s.heap.objs.size,_,I.laid (t':=s.toks) kp (Nat.le_refl _) (show Dp X.prog X.w _ h' _ (.lst ys) from ⟨hz,its,c',r',e⟩),rfl,q _ (I.hok.fresh (Nat.le_refl _))⟩
 rcases hq with hq | hq
 ·obtain⟨its,r',pl,hz⟩:=I.list hq
  have hlen:=r'.length
  obtain⟨o,ho,hc,n,hd⟩:=pl.isList
  exact call_list_seq p (.inl rfl) ho hc hd (fun h' c' kp e=>fin its r' hz h' c' kp e) (by simp only[List.size_toArray]<;>omega)
 ·obtain⟨its,r',pl,hz⟩:=I.tuple hq
  have hlen:=r'.length
  obtain⟨o,ho,hc,n,hd⟩:=pl
  exact call_list_seq p (.inr rfl) ho hc hd (fun h' c' kp e=>fin its r' hz h' c' kp e) (by simp only[List.size_toArray]<;>omega)
theorem JZ:Gq X (.type "tuple") (fun xs H Q=>∃p ys,xs=[.ref p]∧((SqL X.K H p ys∧∀l,H l=none→Q (.ref l) (upd H l (.tup ys)))∨(SqT X.K H p ys∧Q (.ref p) H))):=by
 intro pins s σ H xs us Q I r h
 obtain⟨p,ys,rfl,h⟩:=h
 obtain⟨u,rfl,rx⟩:=vals1 r
 cases rx
 rcases h with ⟨hq,q⟩ | ⟨hq,q⟩
 ·obtain⟨its,r',pl,hz⟩:=I.list hq
  have hlen:=r'.length
  refine call_tuple_list pl.isList (fun h' kp=>?_) (by simp only[List.size_toArray]<;>omega)
  have I1:Inv X pins σ H { s with heap:=h' }:=I.kept (t':=s.toks) kp
  have I2:Inv X pins σ (upd H h'.objs.size (.tup ys)) { s with heap:=h'.push { cls:=.type "tuple",data:=.seq its.toArray } }:=
   I1.laid (t':=s.toks) (fun b o e=>Heap.get?_push_of_some _ e) (Nat.le_refl _) (show Dp X.prog X.w _ _ _ (.tup ys) from ⟨hz,its,r',IsTup.new _ _⟩)
  exact⟨.ref h'.objs.size,_,I2,rfl,q _ (I1.hok.fresh (Nat.le_refl _))⟩
 ·obtain⟨its,r',pl,hz⟩:=I.tuple hq
  exact call_tuple_same pl ⟨.ref p,H,I,rfl,q⟩
def tyV(K:PySem.W.Frag)(T:String)(x:V)(H:Hp):Prop:=match x with
 | .str _=>T="str"
 | .int _=>T="int"
 | .ref p=>(T="list"∧∃xs,SqL K H p xs)∨(T="tuple"∧∃o,K.lookup p=some o∧o.cls=.type "tuple"∧o.dict=none)∨
  (T="dict"∧((∃kvs,H p=some (.dK kvs))∨∃kvs,H p=some (.dT kvs)))∨(T="set"∧∃S n,H p=some (.set S n))
 | _=>False
theorem gA{pins:List (Addr×Obj)}{σ:St}{H:Hp}{s:Shared}{T:String}{x:V}{v:Value}(I:Inv X pins σ H s)(r:RelV x v)(ty:tyV X.K T x H):
 s.TypeIs v T∧∀a,v=.ref a→∃ob,s.heap.get? a=some ob∧ob.dict=none:=by
 cases x with
 | str z=>
  obtain⟨t,rfl⟩:=r
  cases (show T="str" from ty)
  exact⟨typeIs_str s z t,fun _ e=>nomatch e⟩
 | int i=>
  obtain⟨t,rfl⟩:=r
  cases (show T="int" from ty)
  exact⟨typeIs_int s i t,fun _ e=>nomatch e⟩
 | ref p=>
  cases r
  rcases ty with ⟨rfl,xs,hq⟩ | ⟨rfl,o,hk,hc,hd⟩ | ⟨rfl,hk⟩ | ⟨rfl,S,n,hk⟩
  ·obtain⟨its,_,pl,_⟩:=I.list hq
   refine⟨pl.isList.typeIs,fun a e=>?_⟩
   cases e
   obtain⟨o,n,e,c,hd,_⟩:=pl
   exact⟨o,e,hd⟩
  ·refine⟨⟨o,I.kIn p o hk,hc⟩,fun a e=>?_⟩
   cases e
   exact⟨o,I.kIn _ o hk,hd⟩
  ·have z:∃o,s.heap.get? p=some o∧o.ExactDict:=by
    rcases hk with ⟨kvs,hk⟩ | ⟨kvs,hk⟩
    ·obtain⟨_,_,_,_,o,_,_,e,ex,_⟩:=I.hok p _ hk
     exact⟨o,e,ex⟩
    ·obtain⟨_,_,_,_,o,_,_,e,ex,_⟩:=I.hok p _ hk
     exact⟨o,e,ex⟩
   obtain⟨o,e,ex⟩:=z
   refine⟨⟨o,e,ex.1⟩,fun a e2=>?_⟩
   cases e2
   exact⟨o,e,ex.2.1⟩
  ·obtain⟨o,_,_,_,e,ex,_⟩:=I.hok p _ hk
   refine⟨⟨o,e,ex.1⟩,fun a e2=>?_⟩
   cases e2
   exact⟨o,e,ex.2.1⟩
 | _=>exact False.elim ty
def uM(K:PySem.W.Frag)(T:String)(r:V→List V→Hp→VK→Prop)(to:TE):TE:=fun σ H Q=>to σ H fun x H1=>tyV K T x H1∧r x [] H1 Q
def tBM(K:PySem.W.Frag)(T:String)(r:V→List V→Hp→VK→Prop)(to:TE)(t:TA):TE:=fun σ H Q=>to σ H fun x H1=>tyV K T x H1∧t σ H1 fun xs H2=>r x xs H2 Q
variable{o e:Expr}{es:List Expr}{to:TE}{t:TA}{name:Str}{apos cpos:Pos}{T id:String}{r:V→List V→Hp→VK→Prop}
theorem rG(pa:PlainAttrs T)(slot:Slot T name id)(hty:typeOf (.builtin id)=pure (.type "method_descriptor"))(hm:MtR X id r)(ho:PE X o to)
 (hbase:attributeBase o name X.env (eval o X.env)=eval o X.env:=by rfl)(hline:(apos.endLine==cpos.line)=true:=by rfl):PE X (.Call (.Attribute o name apos) [] [] cpos) (uM X.K T r to):=by
 intro pins s σ H Q I h
 refine wpAny_Call_method0_late hbase hline (thn (ho pins s σ H _ I h) fun v s1 ⟨x,H1,I1,r1,ty,q1⟩=>?_)
 obtain⟨h1,h2⟩:=gA I1 r1 ty
 exact⟨T,id,pa,slot,hty,h1,h2,Calls.callWith_builtin rfl (PySem.evalArgs_none (hm pins s1 σ H1 x [] v [] Q I1 r1 .nil q1))⟩
theorem NT(pa:PlainAttrs T)(slot:Slot T name id)(hty:typeOf (.builtin id)=pure (.type "method_descriptor"))(hm:MtR X id r)(ho:PE X o to)(ha:PA X (e::es) t)
 (hbase:attributeBase o name X.env (eval o X.env)=eval o X.env:=by rfl)
 (hfew:((backTo cpos (starEach (e::es) X.env)).all (fun x=>!x.1)&&(backToKw cpos (keywordEach [] X.env)).all (fun x=>x.1.isSome)
  &&decide ((e::es).length+([]:List Keyword).length+(if ([]:List Keyword).isEmpty then 0 else 1)<30))=true:=by rfl)
 (hline:(apos.endLine==cpos.line)=true:=by rfl)(hs:starEach (e::es) X.env=(false,eval e X.env)::starEach es X.env:=by rfl)(hplain:(backTo cpos (starEach es X.env)).any (·.1)=false:=by rfl):
 PE X (.Call (.Attribute o name apos) (e::es) [] cpos) (tBM X.K T r to t):=by
 intro pins s σ H Q I h
 refine wpAny_Call_method_late hbase hfew hline rfl (thn (ho pins s σ H _ I h) fun v s1 ⟨x,H1,I1,r1,ty,q1⟩=>?_)
 obtain⟨h1,h2⟩:=gA I1 r1 ty
 refine⟨T,id,pa,slot,hty,h1,h2,?_⟩
 have hA:=ha cpos pins s1 σ H1 _ I1 q1
 rw[hs] at hA ⊢
 refine Calls.callWith_builtin (by show(false||(backTo cpos (starEach es X.env)).any (·.1))=false;rw[hplain]<;>rfl) (Calls.evalArgs_plain ?_)
 exact thn hA fun us s2 ⟨vs,H2,I2,r2,q2⟩=>hm pins s2 σ H2 x vs v us Q I2 r1 r2 q2
end
end L2
namespace L2
open PySem PySem.Spec PyProof.Rows
def MtM(X:Cx)(id:String)(r:V→List V→Hp→VK→Prop):Prop:=
 ∀(pins:List (Addr×Obj)) (s:Shared) (σ:St) (H:Hp) (x:V) (xs:List V) (v:Value) (us:List Value) (Q:VK),Inv X pins σ H s→RelV x v→Vals xs us→r x xs H Q→
  wpAny (model X.prog X.w) X.A (call (.builtin id) (v::us)) (EP X pins σ Q) X.xe s
theorem Vals.one:∀{x:V} {us:List Value},Vals [x] us→∃u,us=[u]∧RelV x u
 | _,_,.cons r .nil=>⟨_,rfl,r⟩
theorem Vals.zero:∀{us:List Value},Vals [] us→us=[]
 | _,.nil=>rfl
theorem Vals.rep{xs:List V}{us:List Value}(h:Vals xs us):∀k:Nat,Vals (List.replicate k xs).flatten (List.replicate k us).flatten
 | 0=>.nil
 | k+1=>by
  rw[List.replicate_succ,List.replicate_succ,List.flatten_cons,List.flatten_cons]
  exact Vals.append h (Vals.rep h k)
theorem foldl_rep(its:List Value):∀(k:Nat) (acc:List Value),
 List.foldl (fun x1 x2=>x1++x2) acc.toArray (List.replicate k its.toArray)=(acc++(List.replicate k its).flatten).toArray
 | 0,acc=>by simp
 | k+1,acc=>by
  have e:acc.toArray++its.toArray=(acc++its).toArray:=by simp
  have e2:(acc++its)++(List.replicate k its).flatten=acc++(List.replicate (k+1) its).flatten:=by
   rw[List.replicate_succ,List.flatten_cons,List.append_assoc]
  rw[←e2,←foldl_rep its k (acc++its),←e,List.replicate_succ,List.foldl_cons]
section
variable{X:Cx}{pins:List (Addr×Obj)}{σ:St}{H:Hp}{s:Shared}{l b:Addr}{xs ys zs:List V}
theorem Inv.lset{its its':List Value}{n:Nat}{f:Array Value→Array Value}{t':Nat}(I:Inv X pins σ H s)(hH:H l=some (.lst xs))
 (e:s.heap.get? l=some { cls:=.type "list",data:=.seq its.toArray n })(hf:f its.toArray=its'.toArray)(hv:Vals ys its')(hz:ys.length≤sizeLine):
 Inv X pins σ (upd H l (.lst ys)) { s with heap:=s.heap.update l (Obj.mapSeq f),toks:=t' }:=by
 have q:=PySem.IsL.update e f
 rw[hf] at q
 refine I.write (x:=l) (e:=l) (by rw[hH];exact trivial) (.inl rfl) (fun b' u hb hu=>(Heap.get?_update_other s.heap (Obj.mapSeq f) (Ne.symm hb)).trans hu) ⟨_,q⟩ ?_
 exact⟨hz,its',_,hv,q⟩
theorem Inv.lnew{its:List Value}{t':Nat}(I:Inv X pins σ H s)(hv:Vals ys its)(hz:ys.length≤sizeLine):
 Inv X pins σ (upd H s.heap.objs.size (.lst ys)) { s with heap:=s.heap.push { cls:=.type "list",data:=.seq its.toArray },toks:=t' }:=
 I.laid (fun _ _ q=>Heap.get?_push_of_some _ q) (Nat.le_refl _) ⟨hz,its,0,hv,Heap.get?_push_size _ rfl⟩
theorem Inv.fresh(I:Inv X pins σ H s):H s.heap.objs.size=none:=I.hok.fresh (Nat.le_refl _)
theorem Inv.lstM(I:Inv X pins σ H s)(hH:H l=some (.lst xs)):xs.length≤sizeLine∧∃(its:List Value) (n:Nat),Vals xs its∧xs.length=its.length∧s.heap.get? l=some { cls:=.type "list",data:=.seq its.toArray n }:=by
 obtain⟨z,its,n,r,e⟩:=I.hok l _ hH
 exact⟨z,its,n,r,r.length,e⟩
theorem Yr{n:Nat}(h:n≤sizeLine):Builtin.List.listTooLong n=false:=by
 unfold Builtin.List.listTooLong
 exact decide_eq_false (by omega)
end
section
variable{X:Cx}
def lq:V→List V→Hp→VK→Prop:=fun x vs H Q=>∃l xs y,x=.ref l∧vs=[y]∧H l=some (.lst xs)∧xs.length<sizeLine∧Q .non (upd H l (.lst (xs++[y])))
theorem V5:MtM X "list.append" lq:=by
 intro pins s σ H x vs v us Q I rx rv h
 obtain⟨l,xs,y,rfl,rfl,hH,hz,q⟩:=h
 cases rx
 obtain⟨u,rfl,ru⟩:=rv.one
 obtain⟨z,its,n,r,hl,e⟩:=I.lstM hH
 refine call_meets F.slot_list_append ⟨_,e,rfl⟩ F.entry_list_append (F.args_list_append_2 _ _) (PySem.list_append l its.toArray n u (by rw[List.size_toArray];omega)) ⟨e,?_⟩
 refine⟨.non,_,I.lset (its':=its++[u]) hH e (by simp) (r.append (.cons ru .nil)) ?_,rfl,q⟩
 rw[List.length_append,List.length_singleton]
 omega
def XD:V→List V→Hp→VK→Prop:=fun x vs H Q=>∃l b xs zs,x=.ref l∧vs=[.ref b]∧H l=some (.lst xs)∧H b=some (.lst zs)∧xs.length+zs.length≤sizeLine∧Q .non (upd H l (.lst (xs++zs)))
theorem Mr:MtM X "list.extend" XD:=by
 intro pins s σ H x vs v us Q I rx rv h
 obtain⟨l,b,xs,zs,rfl,rfl,hH,hB,hz,q⟩:=h
 cases rx
 obtain⟨u,rfl,ru⟩:=rv.one
 cases ru
 obtain⟨z,its,n,r,hl,e⟩:=I.lstM hH
 obtain⟨z2,its2,n2,r2,hl2,e2⟩:=I.lstM hB
 have hsz:its.toArray.size+its2.toArray.size≤sizeLine:=by rw[List.size_toArray,List.size_toArray];omega
 have hlong:¬(!its.toArray.isEmpty&&Builtin.List.listTooLong (its.toArray.size+its2.toArray.size))=true:=by
  rw[Yr hsz,Bool.and_false]
  exact Bool.false_ne_true
 refine call_meets F.slot_list_extend ⟨_,e,rfl⟩ F.entry_list_extend (F.args_list_extend_2 _ _)
  (AutoSeq1.list_extend_list_list_0 l its.toArray n b its2.toArray n2 hlong (by rw[List.size_toArray];omega) (by omega)) ⟨e,e2,?_⟩
 refine⟨.non,_,I.lset (its':=its++its2) hH e (by simp) (r.append r2) ?_,rfl,q⟩
 rw[List.length_append]
 omega
def vg:R2:=fun x y H Q=>∃l b xs zs,x=.ref l∧y=.ref b∧H l=some (.lst xs)∧H b=some (.lst zs)∧xs.length+zs.length≤sizeLine∧∀p,H p=none→Q (.ref p) (upd H p (.lst (xs++zs)))
theorem jP:OpR X (binaryOp .Add) vg:=by
 intro pins s σ H x y v u Q I rx ry h
 obtain⟨l,b,xs,zs,rfl,rfl,hH,hB,hz,q⟩:=h
 cases rx
 cases ry
 obtain⟨z,its,n,r,hl,e⟩:=I.lstM hH
 obtain⟨z2,its2,n2,r2,hl2,e2⟩:=I.lstM hB
 refine PySem.P.add_list e e2 ?_ (by rw[List.size_toArray,List.size_toArray];omega)
 have ea:its.toArray++its2.toArray=(its++its2).toArray:=by simp
 rw[ea]
 exact⟨.ref _,_,I.lnew (t':=s.toks) (r.append r2) (by rw[List.length_append];omega),rfl,q _ I.fresh⟩
def uf:R2:=fun x y H Q=>∃l k xs,x=.ref l∧y=.int k∧H l=some (.lst xs)∧ -(2^63)≤k∧k<2^63∧xs.length*k.toNat≤sizeLine∧
 ∀p,H p=none→Q (.ref p) (upd H p (.lst (List.replicate k.toNat xs).flatten))
theorem len_rep{α:Type}(xs:List α)(k:Nat):(List.replicate k xs).flatten.length=k*xs.length:=by
 induction k with
 | zero=>simp
 | succ k ih=>rw[List.replicate_succ,List.flatten_cons,List.length_append,ih,Nat.succ_mul,Nat.add_comm]
theorem aA:OpR X (binaryOp .Mult) uf:=by
 intro pins s σ H x y v u Q I rx ry h
 obtain⟨l,k,xs,rfl,rfl,hH,h1,h2,hz,q⟩:=h
 cases rx
 obtain⟨t,rfl⟩:=ry
 obtain⟨z,its,n,r,hl,e⟩:=I.lstM hH
 have hlen:its.toArray.size*k.toNat≤sizeLine:=by rw[List.size_toArray,←hl];exact hz
 have hcap:¬its.toArray.size*k.toNat>(2^63-1)/8:=by
  have:(sizeLine:Nat)≤(2^63-1)/8:=by decide
  omega
 have hfit:¬(!Builtin.List.listFitsIndex k)=true:=by
  rw[fitsIndex_both h1 h2]
  exact Bool.false_ne_true
 have hlong:¬Builtin.List.listTooLong (its.toArray.size*k.toNat)=true:=by
  rw[Yr hlen]
  exact Bool.false_ne_true
 have hnew:List.foldl (fun x1 x2=>x1++x2) #[] (List.replicate (if its.toArray.isEmpty=true then 0 else k.toNat) its.toArray)=(List.replicate k.toNat its).flatten.toArray:=by
  have f0:∀m:Nat,List.foldl (fun x1 x2=>x1++x2) #[] (List.replicate m its.toArray)=(List.replicate m its).flatten.toArray:=fun m=>by
   have:=foldl_rep its m []
   rw[List.nil_append] at this
   exact this
  rw[f0]
  cases its with
  | nil=>simp
  | cons a r'=>rw[if_neg (by simp)]
 refine wpAny_binaryOp_repeat_ref (T:="list") (U:="int") (by decide) ⟨_,e,rfl⟩ (fun s'=>typeIs_int s' k t) noFill_list_mul F.fills_int_mul F.slot_int_rmul repeat_list F.slot_int_index.lookup
  (call_meets F.slot_int_rmul (typeIs_int s k t) F.entry_int_rmul (F.args_int_rmul_2 _ _) (int___rmul___int_list k t l its.toArray n)
   ⟨e,rfl,⟨_,e,rfl⟩,call_meets F.slot_list_mul ⟨_,e,rfl⟩ F.entry_list_mul (F.args_list_mul_2 _ _) (AutoListH.list___mul___list_int_3 l its.toArray n k t hfit hcap hlong) ⟨e,?_⟩⟩)
 rw[hnew]
 exact⟨.ref _,_,I.lnew (t':=s.toks) (r.rep k.toNat) (by rw[len_rep,Nat.mul_comm];exact hz),rfl,q _ I.fresh⟩
end
section
variable{prog:Program}{w:World}{A:Around}{E:Value→Shared→Prop}{s:Shared}
end
section
variable{X:Cx}
end
end L2
namespace Att
open PySem PySem.W PySem.Calls PyProof.Rows
theorem Sd{P:Params}{h:Heap}:∀(ns:List Int) (vs:List Value),WellAll P h vs (ns.map WData.int)→IntsAre vs ns:=by
 intro ns
 induction ns with
 | nil=>
  intro vs w
  rw[List.map_nil] at w
  cases w
  exact .nil
 | cons n ns ih=>
  intro vs w
  rw[List.map_cons] at w
  cases w with
  | cons a b=>
   cases a
   exact .cons _ _ (ih _ b)
theorem dY{l:OpenLaw}{n:Nat}(hn:l.most=some n){P:Params}{h:Heap}{args:List WData}{vals:List Value}
 (hpre:l.row.toRowW.claim.pre args=true)(hwl:WellAll P h vals args):
 ∃a vs ns,vals=[Value.ref a]∧args=[WData.list (ns.map WData.int)]∧h.get? a=some { cls:=.type "list",data:=.seq vs.toArray }∧IntsAre vs ns∧ns.length≤n:=by
 have hsh:WShape.hasAll [] args [.list .int]=true:=(pre_splitW hpre).1
 have hc:l.pre.holds [] { args:=args }=true:=(pre_splitW hpre).2
 obtain⟨d,r,rfl,h1,h2⟩:=hasAllW_cons hsh
 obtain rfl:=hasAllW_nil h2
 obtain⟨xs,rfl,h3⟩:=hasW_list h1
 obtain⟨ns,rfl⟩:=items_int h3
 have hlen:ns.length≤n:=by
  unfold OpenLaw.pre at hc
  have h4:(WTm.not (.lt (.lit (.int (n:Int))) (.len (.arg 0)))).holds [] { args:=[.list (ns.map .int)] }=true:=by
   have h4:=(holds_andW hc).1
   rw[hn] at h4
   exact h4
  have h5:=condW_of h4 (w_not (w_lt w_lit (w_len_list (w_arg rfl))))
  rw[List.length_map] at h5
  refine Nat.le_of_not_lt fun q=>?_
  have q':(n:Int)<((ns.length:Nat):Int):=by omega
  first
   | (rw [decide_eq_true q'] at h5;exact absurd h5 (by decide))
   | (simp at h5;omega)
 cases hwl with
 | cons w1 w2=>
  cases w2
  cases w1 with
  | list ho hall=>exact⟨_,_,ns,rfl,rfl,ho,Sd ns _ hall,hlen⟩
theorem d7(l:OpenLaw)(args:List WData):l.row.toRowW.claim.post args (.bool true) args=true:=
 postW_of (r:=l.row.toRowW) (X:=(true==true))
  (show WShape.has [] (.bool true) .bool=true by first | rfl | decide | simp[WShape.has,WShape.arms,WShape.armsAll])
  (show (WTm.eq .res (.lit (.bool true))).value [] { args:=args,res:=some (.bool true),after:=args }=some (.bool (true==true)) from w_eq_bool (w_res rfl) w_lit) rfl
section
variable{prog:Program}{w:World}{A:Around}{E:Value→Shared→Prop}{s:Shared}{K:Frag}
end
end Att
namespace L2
open PySem PySem.Spec PyProof.Rows
theorem Vp:∀{vs:List Value} {ns:List Int},IntsAre vs ns→Vals (ns.map V.int) vs
 | _,_,.nil=>.nil
 | _,_,.cons n t h=>.cons ⟨t,rfl⟩ (Vp h)
def Only(H:Hp):Prop:=∀b,H b=none∨∃o xs,H b=some (.frz o (.lst xs))
theorem jf{P:Program}{w:World}{K:PySem.W.Frag}{mg mb:Str→Option Value}{CX:CXT}{k:Nat}{fa a:Addr}{fd:FuncData}{x:Str}{sp:Sp}{s₁:Shared}{vs:List Value}{ns:List Int}
 (KX:K.In s₁.heap)(hns:s₁.heap.Ns mainGlobals mg)(hb:s₁.heap.Ns builtinsNs mb)(hbb:∀x:Str,x≠"__name__"→mb x=bootBuiltins x)(hlim:s₁.heap.NoLimit)(hg:s₁.gens= #[])
 (ha:s₁.heap.get? a=some { cls:=.type "list",data:=.seq vs.toArray })(hi:IntsAre vs ns)(hl:ns.length≤sizeLine)(hr:Ea k callerA)
 (F:∀base:Heap,K.In base→base.Ns mainGlobals mg→Bu P w K mg base CX k fa fd [x] sp)(hbind:∀(s:Shared) (u:Value),BindsTo s fd ⟨[u],[]⟩ [(x,u)])
 (hsp:∀H:Hp,Only H→SqL K H a (ns.map V.int)→sp [.ref a] H (fun v _=>v=.bl true) fun _ _ _=>False)
 (hCX:∀H e s',CX [] H s₁ (fun _ _ _=>False) e s'→False):
 codeAny (model P w) callerA (.call (.ref fa) ⟨[.ref a],[]⟩) (fun r s'=>r=.ok (.ret (.bool true))∧OldK s₁.heap s'.heap∧s'.os=s₁.os∧AllBare s'.gens) s₁:=by
 have rv:=Vp hi
 have lenV:=hi.length
 have core:∀H:Hp,Only H→SqL K H a (ns.map V.int)→HOk P w H s₁.heap→(∀b,H b≠none→b=a)→(H a≠none→K.lookup a=none)→
  codeAny (model P w) callerA (.call (.ref fa) ⟨[.ref a],[]⟩) (fun r s'=>r=.ok (.ret (.bool true))∧OldK s₁.heap s'.heap∧s'.os=s₁.os∧AllBare s'.gens) s₁:=by
  intro H hO hS hok hA hK
  have base_of:∀{b:Addr} {o:Obj},s₁.heap.get? b=some o→H b=none→(Xq s₁.heap H).get? b=some o:=fun e n=>jk e n
  have noA:∀{b:Addr} {o:Obj} {es:Array DictEntry} {ep:Nat},s₁.heap.get? b=some o→o.data=.dict es ep→H b=none:=fun{b o es ep} e d=>by
   cases q:H b with
   | none=>rfl
   | some u=>
    have e':b=a:=hA b (by rw[q];simp)
    subst e'
    rw[ha] at e;cases e
    have d':Data.seq vs.toArray _=Data.dict es ep:=d
    cases d'
  have nsK:∀{b:Addr} {m:Str→Option Value},s₁.heap.Ns b m→(Xq s₁.heap H).Ns b m:=fun{b m} ⟨o,es,ep,e,d,r⟩=>⟨o,es,ep,base_of e (noA e d),d,r⟩
  have hKb:K.In (Xq s₁.heap H):=fun b o e=>base_of (KX b o e) (by
   cases q:H b with
   | none=>rfl
   | some u=>
    have e':b=a:=hA b (by rw[q];simp)
    subst e'
    rw[hK (by rw[q];simp)] at e;cases e)
  have hM:Mod K mg (Xq s₁.heap H):=⟨hKb,nsK hns,⟨mb,nsK hb,hbb⟩,let ⟨mc,h1,h2⟩:=hlim;⟨mc,nsK h1,h2⟩⟩
  have e0:ao P w K mg (Xq s₁.heap H) callerA [] s₁ H:=⟨rfl,hM,fun b o e=>mZ e,Nat.le_of_eq (fG _ _),trivial,fun b hb=>absurd (show b∈([]:List Addr) from hb) (by simp),hok,.of_eq hg⟩
  refine codeAny_mono ((F _ hKb (nsK hns)).run callerA [] s₁ H ⟨[.ref a],[]⟩ [.ref a] [.ref a] _ _ hr e0 (hbind s₁ (.ref a)) (.cons rfl .nil) (hsp H hO hS)) fun r s' h=>?_
  cases r with
  | error e=>exact(hCX H e s' h).elim
  | ok fl=>
   cases fl with
   | next=>exact False.elim h
   | brk=>exact False.elim h
   | cont=>exact False.elim h
   | ret u=>
    obtain⟨v,H',os,bare,un,hok',r',q⟩:=h
    have q':v=.bl true:=q
    subst q'
    obtain rfl:u=Value.bool true:=r'
    refine⟨rfl,OldK.of_keep fun b o e=>?_,os,bare⟩
    cases q:H b with
    | none=>exact un.keep b o e q (by intro z;exact absurd (show b∈([]:List Addr) from z) (by simp)) (by simp)
    | some u=>
     rcases hO b with z | ⟨ob,xs,z⟩
     ·rw[q] at z;cases z
     ·have z2:=un.frzs b ob _ z
      obtain⟨e1,_⟩:=hok b _ z
      obtain⟨e2,_⟩:=hok' b _ z2
      rw[e] at e1;cases e1
      exact e2
 cases hk:K.lookup a with
 | some o=>
  have e:=KX a o hk
  rw[ha] at e
  cases e
  refine core (fun _=>none) (fun _=>.inl rfl) (.inr ⟨_,vs.toArray,_,hk,rfl,rfl,rfl,by rw[List.size_toArray,lenV];exact hl,by simpa using rv⟩) (fun b u z=>by have z':(none:Option HO)=some u:=z;cases z') (fun b z=>absurd rfl z) fun z=>absurd rfl z
 | none=>
  refine core (fun b=>if b=a then some (.frz { cls:=.type "list",data:=.seq vs.toArray } (.lst (ns.map V.int))) else none) (fun b=>?_) (.inl (.inr ⟨{ cls:=.type "list",data:=.seq vs.toArray },if_pos rfl⟩)) (fun b u z=>?_) (fun b z=>?_) fun _=>hk
  ·by_cases hb:b=a
   ·exact .inr ⟨_,_,if_pos hb⟩
   ·exact .inl (if_neg hb)
  ·by_cases hb:b=a
   ·have z':=(if_pos hb).symm.trans z
    cases z'
    subst hb
    exact⟨ha,by rw[List.length_map];exact hl,vs,_,rv,ha⟩
   ·have z':=(if_neg hb).symm.trans z
    cases z'
  ·by_cases hb:b=a
   ·exact hb
   ·exact absurd (if_neg hb) z
end L2
namespace L2
open PySem PySem.Spec PyProof.Rows
abbrev KOf{K:PySem.W.Frag}{h:Heap}(_:K.In h):PySem.W.Frag:=K
end L2
namespace L2
open PySem PySem.Spec PyProof.Rows
def inClass(s:Stmt)(j:Nat):Stmt:=match s with
 | .ClassDef _ _ _ body _ _ _ _ _ _ _=>body.getD j (.Pass ⟨0,0,0,0⟩)
 | _=>.Pass ⟨0,0,0,0⟩
def DW(s:Stmt):Arguments:=match s with
 | .FunctionDef _ a _ _ _ _ _ _ _ _=>a
 | _=>{ posonlyargs:=[],args:=[],vararg:=none,kwonlyargs:=[],kw_defaults:=[],kwarg:=none,defaults:=[] }
def Cu(s:Stmt):List Stmt:=match s with
 | .FunctionDef _ _ b _ _ _ _ _ _ _=>b
 | _=>[]
def Ao(s:Stmt):Scope:=match s with
 | .FunctionDef _ _ _ _ _ _ sc _ _ _=>sc
 | _=>{ kind:=.function,names:=[],isGenerator:=false,isCoroutine:=false }
abbrev CX0:CXT:=fun _ _ _ _ _ _=>False
abbrev E0:XK:=fun _ _ _=>False
theorem Rj{X:Cx}:MP CX0 X E0:=fun _ _ _ _ _ _ _ h=>h.elim
structure Fun(K:PySem.W.Frag)(x qual:Str)(st:Stmt)(f:Addr)(fd:FuncData):Prop where
 ex:∃(oc:Value) (od:Option Addr) (kV doc pm:Value) (an:Option Addr) (cdv ct:Value) (osl:Array (Option Value)),
  fd=PySem.W.fnOf x qual (DW st) (Cu st) (Ao st) .none kV doc pm an cdv ct∧K.lookup f=some ⟨oc,od,.func fd,osl⟩∧PySem.W.codeIn K cdv qual=true
 kp:PySem.W.keepIn K (.ref f)=true
section
variable{P:Program}{w:World}{K:PySem.W.Frag}{mg:Str→Option Value}{base:Heap}
theorem Fun.ok{x qual:Str}{st:Stmt}{f:Addr}{fd:FuncData}{N ps:List Str}{k:Nat}{sp:Sp}(F:Fun K x qual st f fd)(S:BV N ps (Ao st))(len:∀vs H Q E,sp vs H Q E→vs.length=ps.length)
 (hbody:∀(cdv:Value) (A:Around) (outer:List Env) (s:Shared) (H:Hp) (vs:List V) (Q:VK) (E:XK),Ea k (A.deeper (envOfC qual (Ao st) s.heap.objs.size f cdv))→sp vs H Q E→
  ∃t,PSs (QW CX0 P w K mg base N qual (Ao st) f cdv A outer s H E).nox (Cu st) t∧t { nx:=fun _ H'=>Q .non H',rt:=Q } (start N vs) H):Bu P w K mg base CX0 (k+1) f fd ps sp:=by
 obtain⟨oc,od,kV,doc,pm,an,cdv,ct,osl,rfl,lk,hcd⟩:=F.ex
 refine cX lk hcd S len fun A outer s H vs Q E hr hsp=>?_
 obtain⟨t,h,q⟩:=hbody cdv A outer s H vs Q E hr hsp
 exact⟨t,h.nox,q⟩
theorem Fun.binds{x qual:Str}{st:Stmt}{f:Addr}{fd:FuncData}{ps:List Str}(F:Fun K x qual st f fd)
 (h:∀(kV doc pm:Value) (an:Option Addr) (cdv ct:Value) (us:List Value),us.length=ps.length→bindArgs (PySem.W.fnOf x qual (DW st) (Cu st) (Ao st) .none kV doc pm an cdv ct) ⟨us,[]⟩=pure (ps.zip us)):Binds K fd ps []:=by
 obtain⟨oc,od,kV,doc,pm,an,cdv,ct,osl,rfl,lk,hcd⟩:=F.ex
 exact .all (h kV doc pm an cdv ct)
theorem Om{x qual:Str}{st:Stmt}{f:Addr}{oc:Value}{od an:Option Addr}{osl:Array (Option Value)}{kV doc pm cdv ct:Value}(l:K.lookup f=some ⟨oc,od,.func (PySem.W.fnOf x qual (DW st) (Cu st) (Ao st) .none kV doc pm an cdv ct),osl⟩)
 (c:PySem.W.codeIn K cdv qual=true)(k:PySem.W.keepIn K (.ref f)=true):Fun K x qual st f (PySem.W.fnOf x qual (DW st) (Cu st) (Ao st) .none kV doc pm an cdv ct):=⟨⟨oc,od,kV,doc,pm,an,cdv,ct,osl,rfl,l,c⟩,k⟩
end
theorem pP{A:Around}{k:Nat}(hr:Ea k A):A.units+1<cLine:=Nat.lt_of_le_of_lt (Nat.add_le_add_left (by decide:1≤64) _) hr.units
theorem Ml{n:Nat}(h:n≤1000):n<sizeLine:=Nat.lt_of_le_of_lt h (by decide)
section
variable{X:Cx}
theorem pv(i:Nat){x:Str}{pos:Pos}(hN:X.N[i]?=some x:=by rfl)(hv:Vis X.env.scope x:=by first | exact Or.inl rfl | exact Or.inr (Or.inl rfl) | exact Or.inr (Or.inr rfl))(hd:(x==("__debug__":Str))=false:=by decide)
 (hcd:(x==("__classdict__":Str))=false:=by decide):PE X (.Name x pos) (Zf i):=jB hN hv hd hcd
end
theorem Hc{A B:Prop}(h:B):if false=true then A else B:=by
 rw[if_neg Bool.false_ne_true]
 exact h
theorem Lz{A B:Prop}(h:A):if true=true then A else B:=by
 rw[if_pos rfl]
 exact h
theorem QQ{c A B:Prop}[Decidable c](hc:c)(h:B):if (!decide c)=true then A else B:=by
 rw[decide_eq_true hc]
 exact Hc h
def Bo(H H':Hp):Prop:=∀b o,H b=some o→H' b=some o
theorem Bo.refl(H:Hp):Bo H H:=fun _ _ h=>h
theorem Bo.trans{H H1 H2:Hp}(a:Bo H H1)(b:Bo H1 H2):Bo H H2:=fun c o h=>b c o (a c o h)
theorem Bo.free{H H':Hp}(e:Bo H H'){l:Addr}(h:H' l=Option.none):H l=Option.none:=by
 cases q:H l with
 | none=>rfl
 | some o=>
  rw[e l o q] at h
  cases h
theorem Bo.seq{K:PySem.W.Frag}{H H':Hp}{a:Addr}{xs:List V}(e:Bo H H')(h:SqL K H a xs):SqL K H' a xs:=by
 rcases h with (h | ⟨o,h⟩) | h
 ·exact .inl (.inl (e _ _ h))
 ·exact .inl (.inr ⟨o,e _ _ h⟩)
 ·exact .inr h
end L2
set_option maxHeartbeats 4000000
namespace L2
open PySem PySem.Spec PyProof.Rows
def Bt(k:Nat)(x:Int):Prop:=x.natAbs<2^k
theorem Bt.bits{k:Nat}{x:Int}(h:Bt k x):Builtin.Int.intBits x≤k:=PySem.intBits_le_iff.mpr h
theorem Bt.mono{k m:Nat}{x:Int}(h:Bt k x)(l:k≤m):Bt m x:=Nat.lt_of_lt_of_le h (Nat.pow_le_pow_right (by decide) l)
theorem Bt.le{k:Nat}{x y:Int}(h:Bt k y)(l:x.natAbs≤y.natAbs):Bt k x:=Nat.lt_of_le_of_lt l h
theorem Bt.mul{k m:Nat}{x y:Int}(h:Bt k x)(g:Bt m y):Bt (k+m) (x*y):=by
 unfold Bt at*
 rw[Int.natAbs_mul,Nat.pow_add]
 exact Nat.mul_lt_mul'' h g
def kY(i j:Int):Prop:=∃n m:Nat,Bt n i∧Bt m j∧n+m≤134217728
theorem kY.ok{i j:Int}(h:kY i j):IntMulOk i j:=by
 obtain⟨n,m,h1,h2,h3⟩:=h
 have a:=h1.bits
 have b:=h2.bits
 have hs:((Builtin.Int.intBits i+Builtin.Int.intBits j:Nat):Int)≤2^27:=by
  have e:(2:Int)^27=134217728:=by decide
  rw[e];omega
 have hb:Builtin.Int.intTooBig ((Builtin.Int.intBits i+Builtin.Int.intBits j:Nat):Int)=false:=decide_eq_false (Int.not_lt.mpr hs)
 unfold IntMulOk
 first
  | (rw [show (((Builtin.Int.intBits i:Nat):Int)+((Builtin.Int.intBits j:Nat):Int))=((Builtin.Int.intBits i+Builtin.Int.intBits j:Nat):Int) by omega,hb];simp)
  | (rw [hb];simp)
  | (intro z;simp only[Bool.and_eq_true] at z;simp_all)
section
variable{X:Cx}{a b c:Expr}{ta tb tc:TE}{pos:Pos}
theorem Dd:OpR X (binaryOp .Mult) (rI kY fun i j=>.int (i*j)):=opI fun _ _ _ _ _ _ _ hc q=>mul_int q hc.ok
theorem Rm{j:Int}(h:Bt 9000 j):j.natAbs.log2<9000:=by
 by_cases h0:j.natAbs=0
 ·rw[h0];decide +kernel
 ·exact(Nat.log2_lt h0).mpr h
def kZ(_ j:Int):Prop:=0<j∧Bt 9000 j
def vP(_ j:Int):Prop:=j≠0∧Bt 9000 j
theorem Df:OpR X (binaryOp .FloorDiv) (rI kZ fun i j=>.int (i/j)):=opI fun i j _ _ _ _ _ hc q=>by
 have h1:(0:Int)<j:=hc.1
 exact floordiv_int (by omega) (by rw[Int.fdiv_eq_ediv_of_nonneg i (by omega)];exact q) (.inl (PyProof.noPylong_of_log2 (Rm hc.2)))
theorem jO:OpR X (binaryOp .FloorDiv) (rI vP fun i j=>.int (i.fdiv j)):=opI fun i j _ _ _ _ _ hc q=>
 floordiv_int hc.1 q (.inl (PyProof.noPylong_of_log2 (Rm hc.2)))
def wG(i j:Int):Prop:=0≤j∧∃n:Nat,Bt n i∧(n:Int)+j≤134217728
theorem QB:OpR X (binaryOp .LShift) (rI wG fun i j=>.int (i*2^j.toNat)):=opI fun i j _ _ _ _ _ hc q=>by
 obtain⟨h0,n,hn,h1⟩:=hc
 have:=hn.bits
 refine lshift_int h0 ?_ q
 have e:(2:Int)^27=134217728:=by decide
 rw[e];omega
def qx(K:PySem.W.Frag):List V→Hp→VK→Prop:=fun xs H Q=>∃x c t b,xs=[x,.ty c]∧QZ K H x t∧PySem.W.kitOne K t (.type c)=some b∧Q (.bl b) H
theorem j7:Gq X (.builtin "isinstance") (qx X.K):=by
 intro pins s σ H xs us Q I r h
 obtain⟨x,c,t,b,rfl,ty,e,q⟩:=h
 obtain⟨u,w',rfl,r1,r2⟩:=vals2 r
 cases (show w'=Value.type c from r2)
 exact eZ I r1 ty e fun tk=>⟨.bl b,H,I.tok tk,rfl,q⟩
def Y5:List V→List V→Bool
 | [],[]=>true
 | x::xs,y::ys=>eqV x y&&Y5 xs ys
 | _,_=>false
theorem U9:∀{xs ys:List V} {us ws:List Value},Vals xs us→Vals ys ws→xs.all Ii=true→ys.all Ii=true→
 ∃e:Nat→Bool,(∀(A:Around) (s:Shared) (j:Nat) (h1:j<us.toArray.size) (h2:j<ws.toArray.size),SeqAt.EqAt A s us.toArray[j] ws.toArray[j] (e j))∧
  ((List.range (min us.toArray.size ws.toArray.size)).all e&&us.toArray.size==ws.toArray.size)=Y5 xs ys
 | [],[],_,_,.nil,.nil,_,_=>⟨fun _=>true,fun _ _ j h1 _=>absurd h1 (by simp),rfl⟩
 | [],y::ys,_,_,.nil,.cons _ _,_,_=>⟨fun _=>true,fun _ _ j h1 _=>absurd h1 (by simp),by simp[Y5]⟩
 | x::xs,[],_,_,.cons _ _,.nil,_,_=>⟨fun _=>true,fun _ _ j _ h2=>absurd h2 (by simp),by simp[Y5]⟩
 | x::xs,y::ys,u::us,w::ws,.cons r t,.cons r' t',f,f'=>by
  rw[List.all_cons,Bool.and_eq_true] at f f'
  obtain⟨e,h1,h2⟩:=U9 t t' f.2 f'.2
  refine⟨fun j=>match j with | 0=>eqV x y | j+1=>e j,?_,?_⟩
  ·intro A s j k1 k2
   cases j with
   | zero=>simpa using jt r r' f.1 f'.1
   | succ j=>
    have k:=h1 A s j (by simpa using k1) (by simpa using k2)
    simp only[List.getElem_toArray,List.getElem_cons_succ] at k ⊢
    exact k
  ·show _=(eqV x y&&Y5 xs ys)
   rw[←h2]
   have e1:min (u::us).toArray.size (w::ws).toArray.size=min us.toArray.size ws.toArray.size+1:=by simp
   rw[e1,List.range_succ_eq_map,List.all_cons,List.all_map,Bool.and_assoc]
   congr 2
   simp
def um(K:PySem.W.Frag):R2:=fun x y H Q=>∃a b xs ys,x=.ref a∧y=.ref b∧SqT K H a xs∧SqT K H b ys∧xs.all Ii=true∧ys.all Ii=true∧Q (.bl (Y5 xs ys)) H
theorem rM(hu:X.A.units<cLine):OpR X (compareOp .Eq) (um X.K):=by
 intro pins s σ H x y v u Q I rx ry h
 obtain⟨a,b,xs,ys,rfl,rfl,ha,hb,fx,fy,q⟩:=h
 cases rx
 cases ry
 obtain⟨its,r,pl,_⟩:=I.tuple ha
 obtain⟨its',r',pl',_⟩:=I.tuple hb
 obtain⟨e,h1,h2⟩:=U9 r r' fx fy
 exact SeqAt.eq_tupleAt (e:=e) pl pl' hu (fun j k1 k2=>h1 _ _ j k1 k2) (by rw[h2];exact⟨.bl _,H,I,rfl,q⟩)
structure Cal(P:Program)(w:World)(K:PySem.W.Frag)(mg:Str→Option Value)(base:Heap)(k:Nat)(x:Str)(ps:List Str)(sp:Sp):Prop where
 ex:∃(f:Addr) (fd:FuncData),Bu P w K mg base CX0 k f fd ps sp∧Binds K fd ps []∧PySem.W.keepIn K (.ref f)=true∧mg x=some (.ref f)
theorem Br{k:Nat}{x:Str}{ps:List Str}{sp:Sp}{e:Expr}{es:List Expr}{t:TA}{p:Pos}(C:Cal X.prog X.w X.K X.mg X.base k x ps sp)(hr:Ea k X.A)(hg:Gl X x)(ha:PA X (e::es) t)
 (hdb:(x==("__debug__":Str))=false:=by decide)(he:starEach (e::es) X.env=(false,eval e X.env)::starEach es X.env:=by rfl)(hpl:(backTo pos (starEach es X.env)).any (·.1)=false:=by rfl):
 PE X (.Call (.Name x p) (e::es) [] pos) (bH sp [] E0 t):=by
 obtain⟨f,fd,F,b,kp,m⟩:=C.ex
 exact mL F hr hg m kp b .nil Rj ha hdb he hpl
def uL(t:TS):TS:=fun D σ H=>∃J:St→Hp→Prop,t { D with nx:=J } σ H∧∀σ' H',J σ' H'→D.nx σ' H'
theorem Fi{st:Stmt}{t:TS}(h:PS X st t):PS X st (uL t):=by
 intro pins s σ H D I hw
 obtain⟨J,h1,h2⟩:=hw
 refine thn (h pins s σ H { D with nx:=J } I h1) fun f s1 q=>?_
 cases f with
 | next=>
  obtain⟨σ',H',I',q⟩:=q
  exact⟨σ',H',I',h2 _ _ q⟩
 | ret v=>exact q
 | brk=>exact q
 | cont=>exact q
theorem Eh{t:TS}{D:Ends}{σ:St}{H:Hp}(J:St→Hp→Prop)(h1:t { D with nx:=J } σ H)(h2:∀σ' H',J σ' H'→D.nx σ' H'):uL t D σ H:=⟨J,h1,h2⟩
theorem iG{i:Nat}{σ:St}{H:Hp}{Q:VK}{v:V}(e:σ[i]?=some (some v))(h:Q v H):Zf i σ H Q:=⟨v,e,h⟩
theorem vX{v:V}{σ:St}{H:Hp}{Q:VK}(h:Q v H):tC v σ H Q:=h
theorem uX{r:R2}{σ:St}{H:Hp}{Q:VK}(h:ta σ H fun x H1=>tb σ H1 fun y H2=>r x y H2 Q):tOp r ta tb σ H Q:=h
theorem uV{r:V→Hp→VK→Prop}{σ:St}{H:Hp}{Q:VK}(h:ta σ H fun x H1=>r x H1 Q):tUn r ta σ H Q:=h
theorem uc{g:Int→Int→V}{i j:Int}{H:Hp}{Q:VK}(h:Q (g i j) H):rI0 g (.int i) (.int j) H Q:=⟨i,j,rfl,rfl,h⟩
theorem Ew{C:Int→Int→Prop}{g:Int→Int→V}{i j:Int}{H:Hp}{Q:VK}(c:C i j)(h:Q (g i j) H):rI C g (.int i) (.int j) H Q:=⟨i,j,rfl,rfl,c,h⟩
theorem vW{g:Int→V}{i:Int}{H:Hp}{Q:VK}(h:Q (g i) H):rU g (.int i) H Q:=⟨i,rfl,h⟩
theorem ud{x y:V}{H:Hp}{Q:VK}(s:lK x y=true)(h:Q (.bl (decide (x=y))) H):rEq x y H Q:=⟨s,h⟩
theorem uY{x y:V}{H:Hp}{Q:VK}(s:lK x y=true)(h:Q (.bl (!decide (x=y))) H):rNe x y H Q:=⟨s,h⟩
theorem lN{t:TE}{σ:St}{H:Hp}{Q:Bool→Hp→Prop}(h:t σ H fun x H'=>∃k,x=.bl k∧Q k H'):ou t σ H Q:=h
theorem vY{t:TE}{σ:St}{H:Hp}{Q:Bool→Hp→Prop}(h:t σ H fun x H'=>∃k,x=.bl k∧Q k H'):L2.tB t σ H Q:=h
theorem bh{k:Bool}{Q:Bool→Prop}(h:Q k):∃k',V.bl k=.bl k'∧Q k':=⟨k,rfl,h⟩
theorem qK(n:String):RelV (.ty n) (.type n):=rfl
theorem Dw(i:Int)(t:Tok):RelV (.int i) (.int i t):=⟨t,rfl⟩
theorem qR{t:TT}{σ:St}{H:Hp}{Q:Bool→Hp→Prop}(h:t σ H fun c H1=>Q (!c) H1):uG t σ H Q:=h
theorem qj{t u:TT}{σ:St}{H:Hp}{Q:Bool→Hp→Prop}(h:t σ H fun c H1=>if c=true then u σ H1 Q else Q false H1):uN t u σ H Q:=h
theorem uW{t u:TT}{σ:St}{H:Hp}{Q:Bool→Hp→Prop}(h:t σ H fun c H1=>if c=true then Q true H1 else u σ H1 Q):tOr t u σ H Q:=h
theorem lY{σ:St}{H:Hp}{Q:VK}(h:ta σ H fun x H1=>∃c,x=.bl c∧if c=true then tb σ H1 Q else Q (.bl false) H1):pD ta tb σ H Q:=h
theorem iT{r r':R2}{σ:St}{H:Hp}{Q:VK}(h:ta σ H fun x H1=>tb σ H1 fun y H2=>r x y H2 fun z H3=>∃k,z=.bl k∧(if k=true then tc σ H3 fun w' H4=>r' y w' H4 Q else Q (.bl false) H3)):gO r r' ta tb tc σ H Q:=h
theorem lX{sp:Sp}{dvs:List V}{E:XK}{t:TA}{σ:St}{H:Hp}{Q:VK}(h:t σ H fun vs H1=>sp (vs++dvs) H1 Q E):bH sp dvs E t σ H Q:=h
theorem ue{r:List V→Hp→VK→Prop}{t:TA}{σ:St}{H:Hp}{Q:VK}(h:t σ H fun vs H1=>r vs H1 Q):tCB r t σ H Q:=h
theorem Q5{σ:St}{H:Hp}{Q:List V→Hp→Prop}(h:Q [] H):YC σ H Q:=h
theorem bY{tr:TA}{σ:St}{H:Hp}{Q:List V→Hp→Prop}(h:ta σ H fun x H1=>tr σ H1 fun xs H2=>Q (x::xs) H2):pC ta tr σ H Q:=h
theorem qM{t:TA}{σ:St}{H:Hp}{Q:VK}(h:t σ H fun xs H1=>xs.length≤sizeLine∧∀p,H1 p=none→Q (.ref p) (upd H1 p (.tup xs))):uA t σ H Q:=h
theorem qT{t:TA}{σ:St}{H:Hp}{Q:VK}(h:t σ H fun xs H1=>xs.length≤sizeLine∧∀p,H1 p=none→Q (.ref p) (upd H1 p (.lst xs))):uH t σ H Q:=h
theorem qO{t u:TS}{D:Ends}{σ:St}{H:Hp}(h:t { D with nx:=u D } σ H):uD t u D σ H:=h
theorem lR{D:Ends}{σ:St}{H:Hp}(h:D.nx σ H):o7 D σ H:=h
theorem qP{te:TE}{D:Ends}{σ:St}{H:Hp}(h:te σ H D.rt):uE te D σ H:=h
theorem qW{c:TT}{t u:TS}{D:Ends}{σ:St}{H:Hp}(h:c σ H fun b H1=>if b=true then t D σ H1 else u D σ H1):uI c t u D σ H:=h
theorem qi{te:TE}{g:TG}{D:Ends}{σ:St}{H:Hp}(h:te σ H fun x H1=>g x σ H1 D.nx):qC te g D σ H:=h
theorem lW{te:TE}{D:Ends}{σ:St}{H:Hp}(h:te σ H fun _ H1=>D.nx σ H1):o9 te D σ H:=h
theorem iR{i:Nat}{v:V}{σ:St}{H:Hp}{Q:St→Hp→Prop}(h:Q (σ.set i (some v)) H):jo i v σ H Q:=h
theorem Bj{K:PySem.W.Frag}{p:Addr}{xs:List V}{i:Int}{v:V}{H:Hp}{Q:VK}(hs:SqT K H p xs)(e:atI xs i=some v)(h:Q v H):qu K (.ref p) (.int i) H Q:=⟨p,xs,i,v,rfl,rfl,hs,e,h⟩
theorem Lp{K:PySem.W.Frag}{p:Addr}{xs:List V}{i:Int}{v:V}{H:Hp}{Q:VK}(hs:SqL K H p xs)(e:atI xs i=some v)(h:Q v H):qw K (.ref p) (.int i) H Q:=⟨p,xs,i,v,rfl,rfl,hs,e,h⟩
theorem Ub{K:PySem.W.Frag}{x:V}{c:String}{t:Value}{b:Bool}{H:Hp}{Q:VK}(ty:QZ K H x t)(e:PySem.W.kitOne K t (.type c)=some b)(h:Q (.bl b) H):qx K [x,.ty c] H Q:=⟨x,c,t,b,rfl,ty,e,h⟩
theorem Jl{c A B:Prop}[Decidable c](hc:c)(h:A):if decide c=true then A else B:=by
 rw[decide_eq_true hc];exact Lz h
theorem Ck{c A B:Prop}[Decidable c](hc:¬c)(h:B):if decide c=true then A else B:=by
 rw[decide_eq_false hc];exact Hc h
theorem QR{c A B:Prop}[Decidable c](hc:¬c)(h:A):if (!decide c)=true then A else B:=by
 rw[decide_eq_false hc];exact Lz h
theorem Ca{c A B:Prop}[Decidable c](h1:c→A)(h2:¬c→B):if decide c=true then A else B:=by
 by_cases h:c
 ·exact Jl h (h1 h)
 ·exact Ck h (h2 h)
theorem Bo.tup{K:PySem.W.Frag}{H H':Hp}{a:Addr}{xs:List V}(e:Bo H H')(h:SqT K H a xs):SqT K H' a xs:=by
 rcases h with (h | ⟨o,h⟩) | h
 ·exact .inl (.inl (e _ _ h))
 ·exact .inl (.inr ⟨o,e _ _ h⟩)
 ·exact .inr h
theorem Bk{H:Hp}{p:Addr}(h:H p=none)(o:HO):Bo H (upd H p o):=fun b u q=>by rw[Bw (By q h)];exact q
theorem Kc{i j:Int}(h0:0<j)(h1:j<18446744073709551616):kZ i j:=⟨h0,Bt.mono (k:=64) (by unfold Bt;omega) (by decide)⟩
theorem Et(x y:Nat):Builtin.bitAnd (x:Int) (y:Int)=((x &&& y:Nat):Int):=PyProof.Rows.bitAnd_pp (Int.natCast_nonneg x) (Int.natCast_nonneg y)
theorem VJ(x:Nat):decide ((0:Int)≤Builtin.bitNot (x:Int))=false:=decide_eq_false (by unfold Builtin.bitNot;omega)
theorem G9(x y:Nat):Builtin.bitOr (x:Int) (y:Int)=((x ||| y:Nat):Int):=by
 have e:∀z:Int,Builtin.bitNot (Builtin.bitNot z)=z:=fun z=>by unfold Builtin.bitNot;omega
 unfold Builtin.bitOr Builtin.bitAnd
 rw[VJ,VJ]
 dsimp only
 rw[e,e,e,Int.toNat_natCast,Int.toNat_natCast]
theorem Oq(x y:Nat):Builtin.bitXor (x:Int) (y:Int)=((x ^^^ y:Nat):Int):=by
 show Builtin.bitOr (x:Int) (y:Int)-Builtin.bitAnd (x:Int) (y:Int)=_
 rw[G9,Et]
 have h:x ||| y=(x ^^^ y)+(x &&& y):=by
  have a:(x ^^^ y) &&& (x &&& y)=0:=by
   refine Nat.eq_of_testBit_eq fun i=>?_
   rw[Nat.testBit_and,Nat.testBit_xor,Nat.testBit_and,Nat.zero_testBit]
   cases x.testBit i<;>cases y.testBit i<;>rfl
  have b:x ||| y=(x ^^^ y) ||| (x &&& y):=by
   refine Nat.eq_of_testBit_eq fun i=>?_
   rw[Nat.testBit_or,Nat.testBit_or,Nat.testBit_xor,Nat.testBit_and]
   cases x.testBit i<;>cases y.testBit i<;>rfl
  have c:=PyProof.Rows.bitOr_and ((x ^^^ y:Nat):Int) ((x &&& y:Nat):Int)
  rw[G9,Et,a,←b] at c
  omega
 omega
end
end L2
namespace Att
open PySem PySem.W PySem.Calls PyProof.Rows
theorem Rg:∀{ns:List Int} {n:Int},n∈ns→Builtin.Int.intBits n≤WData.weightAll (ns.map WData.int)
 | m::ns,n,h=>by
  rw[List.map_cons]
  show _≤WData.weight (.int m)+1+WData.weightAll (ns.map WData.int)
  rcases List.mem_cons.mp h with rfl | h
  ·have e:WData.weight (.int n)=Builtin.Int.intBits n:=by first | rfl | (unfold Builtin.Int.intBits;rfl) | simp[WData.weight,Builtin.Int.intBits]
   omega
  ·have:=Rg h
   omega
theorem ZK{ns:List Int}(h:WData.layableAll [WData.list (ns.map WData.int)]=true):∀n∈ns,L2.Bt 1048576 n:=fun n hn=>by
 have h1:WData.layable (WData.list (ns.map WData.int))=true:=(Bool.and_eq_true_iff.mp h).1
 have h2:WData.weight (WData.list (ns.map WData.int))≤2^20:=of_decide_eq_true (Bool.and_eq_true_iff.mp h1).2
 have h3:=Rg hn
 have e:WData.weight (WData.list (ns.map WData.int))=WData.weightAll (ns.map WData.int):=by first | rfl | simp[WData.weight]
 refine PySem.intBits_le_iff.mp ?_
 omega
theorem attach_callB{l:OpenLaw}{n:Nat}{q:Program}{loose:List Str}{XP:(Str→Option Value)→Heap→Prop}{YP:World→Heap→Prop}{d:DefRec}
 (hn:l.most=some n)(hdf:d.params.defaults=[])
 (call:∀(w:World) (s₀ s₁:Shared) (mg mb:Str→Option Value) (fa:Addr) (o:Obj) (pm cd doc:Value) (a:Addr) (vs:List Value) (ns:List Int),
  Ground q loose [] XP w s₀ mg mb s₁.heap→YP w s₁.heap→
  s₁.heap.get? fa=some o→o.data=.func (docDef d.name d.params d.body d.scope pm cd doc)→s₁.heap.CodeRec cd d.name→mg d.name=some (.ref fa)→
  s₁.heap.get? a=some { cls:=.type "list",data:=.seq vs.toArray }→IntsAre vs ns→ns.length≤n→(∀n∈ns,L2.Bt 1048576 n)→s₁.gens= #[]→
  codeAny (model l.prog w) callerA (.call (.ref fa) ⟨[.ref a],[]⟩) (fun r s'=>r=.ok (.ret (.bool true))∧OldK s₁.heap s'.heap∧s'.os=s₁.os∧AllBare s'.gens) s₁):
 WalkO q loose XP YP l.row.toRowW d [] (fun f vs=>PySem.call f vs):=by
 intro w s₀ s₁ mg mb G Y fa o pm cd doc dV kV ho hd hcd hD hmg hg args vals as hpre hlay hrd hwl hlo
 obtain rfl:dV=.none:=Dflts.none hD hdf
 obtain rfl:kV=.none:=Dflts.noKw hD
 obtain⟨a,vs,ns,rfl,rfl,hobj,hints,hlen⟩:=dY hn hpre hwl
 refine enter_call (codeAny_mono (call w s₀ s₁ mg mb fa o pm cd doc a vs ns G Y ho (fd_plain hd) hcd hmg hobj hints hlen (ZK hlay) hg) fun r s' hq=>?_)
 obtain⟨rfl,h2,h3,h4⟩:=hq
 exact⟨.inl ⟨.bool true,.bool true,[],rfl,fun _=>rfl,.bool true,d7 l _,fun _=>⟨List.Pairwise.nil,fun _ hm=>(nomatch hm)⟩⟩,h2,h3,h4⟩
end Att
namespace L2
open PySem PySem.Spec PyProof.Rows
def gf(K:PySem.W.Frag):Sp:=fun vs H Q _=>∃(a:Addr) (ns:List Int),vs=[.ref a]∧SqL K H a (ns.map V.int)∧ns.length≤63∧(∀n∈ns,Bt 1048576 n)∧∀H',Q (.bl true) H'
theorem fZ{l:PySem.W.OpenLaw}{k:Nat}{q:Program}{loose:List Str}{XP:(Str→Option Value)→Heap→Prop}{YP:World→Heap→Prop}{d:DefRec}{K:Params→PySem.W.Frag}
 (hn:l.most=some 63)(hdf:d.params.defaults=[])(hr:Ea k callerA)
 (hY:∀(w:World) (h:Heap),YP w h→(K w.params).In h)
 (F:∀(w:World) (mg:Str→Option Value) (fa:Addr) (h:Heap),(K w.params).In h→h.Ns mainGlobals mg→mg d.name=some (.ref fa)→
  ∃fd:FuncData,(∀(s:Shared) (u:Value),BindsTo s fd ⟨[u],[]⟩ [("_law_script",u)])∧
   ∀base:Heap,(K w.params).In base→base.Ns mainGlobals mg→Bu l.prog w (K w.params) mg base CX0 k fa fd ["_law_script"] (gf (K w.params))):
 PySem.W.WalkO q loose XP YP l.row.toRowW d [] (fun f vs=>PySem.call f vs):=by
 refine Att.attach_callB hn hdf fun w s₀ s₁ mg mb fa o pm cd doc a vs ns G Y ho hd hcd hmg hobj hints hlen hbits hg=>?_
 have KX:=hY w _ Y
 obtain⟨fd,hb,hF⟩:=F w mg fa _ KX G.T.g hmg
 exact jf KX G.T.g G.T.b G.T.builtins G.T.nolimit hg hobj hints (Nat.le_trans hlen (by decide)) hr hF hb (fun H hO hS=>⟨a,ns,rfl,hS,hlen,hbits,fun _=>rfl⟩) fun H e s'=>fun z=>z
end L2
namespace L2
open PySem PySem.Spec PyProof.Rows
def FJ(X:Cx)(M:List Str)(x:Str)(scope:Scope)(cl:List (Str×Addr))(C:Addr)(s₀:Shared)(H₀:Hp)(fp:List Addr):Cx:=
 { X with N:=x::M,s₀:=s₀,H₀:=H₀,env:=compEnvC scope cl C X.env,outer:=X.stack,ex:=fp,fn:=fun _=>false,pn:=[],xe:=fun _ _=>False }
structure VL(X:Cx)(M:List Str)(x:Str)(scope:Scope)(cl:List (Str×Addr)):Prop where
 clos:closureFor scope X.env=pure cl
 cell:∀y∈scope.names,y.2≠.cell
 kind:scope.kind=.function
 names:∀y∈scope.names,y.2=.local→scope.names.lookup y.1=some .local
 xl:scope.names.lookup x=some .local
 nd:(x::M).Nodup
 len:M.length=X.N.length
 sub:∀y c,cl.lookup y=some c→X.env.cells.lookup y=some c
 has:∀y,((relabel scope X.env).names.lookup y=some .cell∨(relabel scope X.env).names.lookup y=some .free)→∃c,cl.lookup y=some c
 vis:∀(i:Nat) (y:Str),M[i]?=some y→Vis (relabel scope X.env) y→X.N[i]?=some y∧((relabel scope X.env).names.lookup y=some .cell∨(relabel scope X.env).names.lookup y=some .free)∧(X.env.scope.names.lookup y=some .cell∨X.env.scope.names.lookup y=some .free)
def oO(X:Cx)(ifs:List Expr)(t:TT):Prop:=
 ∀(pins:List (Addr×Obj)) (s:Shared) (σ:St) (H:Hp) (Q:Bool→Hp→Prop),Inv X pins σ H s→t σ H Q→
  wpAny (model X.prog X.w) X.A (forIn ifs true fun c r=>if r=true then do let ok ←isTrue c X.env (eval c X.env);pure (ForInStep.yield ok) else pure (ForInStep.yield r)) (TP X pins σ Q) X.xe s
def uC:TT:=fun _ H Q=>Q true H
section
variable{X:Cx}
theorem Lr:oO X [] uC:=fun pins s σ H Q I h=>by
 rw[List.forIn_nil]
 exact wpAny_pure ⟨H,I,h⟩
theorem Ud{c:Expr}{t:TT}(hc:PT X c t):oO X [c] t:=fun pins s σ H Q I h=>by
 rw[List.forIn_cons]
 refine wpAny_bind ?_
 rw[if_pos rfl]
 refine wpAny_bind (thn (hc pins s σ H Q I h) fun b s1 q=>wpAny_pure ?_)
 dsimp only
 rw[List.forIn_nil]
 exact wpAny_pure q
def gM(wi:TI)(tt:TT)(te:TE):TE:=fun σ H Q=>wi σ H fun J H1=>∀D,H1 D=none→∃W:Nat→Nat→List V→Hp→Prop,(∃m,W 0 m [] (upd H1 D (.lst [])))∧
 ∀i m ys H2,W i m ys H2→H2 D=some (.lst ys)∧((J.stop i H2∧Q (.ref D) H2)∨(J.go i H2∧ys.length<sizeLine∧∃m',m'<m∧∀x H3,J.yld i H2 x H3→
  tt (some x::σ) H3 fun b H4=>if b=true then te (some x::σ) H4 fun y H5=>H5 D=some (.lst ys)∧W (i+1) m' (ys++[y]) (upd H5 D (.lst (ys++[y]))) else W (i+1) m' ys H4))
theorem oE{M:List Str}{pins:List (Addr×Obj)}{σ:St}{H:Hp}{s:Shared}{x:Str}{scope:Scope}{cl:List (Str×Addr)}{C:Addr}{fp:List Addr}(I:Inv X pins σ H s)(ok:VL X M x scope cl)(hC:s.heap.objs.size≤C)
 (hf:∀b∈fp,Rc X pins H b)(hb:∀b∈fp,b<s.heap.objs.size):(FJ X M x scope cl C s H fp).Ok where
 mod:=I.ok.mod
 kind:=ok.kind
 glob:=I.ok.glob
 blt:=I.ok.blt
 above:=hC
 inj:=fun y z c h1 h2=>I.ok.inj y z c (ok.sub y c h1) (ok.sub z c h2)
 has:=ok.has
 cab:=fun y c h=>by cases h
 hd:=I.ok.hd
 frames:=I.ok.frames
 stk:=.inl rfl
 exf:=fun b h=>⟨Nat.ne_of_lt (Nat.lt_of_lt_of_le (hb b h) hC),fun y c e=>(hf b h).2.2.2.2.1 y c (ok.sub y c e)⟩
 bs:=I.bs
 bsz:=Nat.le_trans I.ok.bsz I.sz
 noex:=fun b o e h=>by
  rcases(hf b h).2.2.2.1 with z | z
  ·exact I.ok.noex b o e z
  ·exact absurd (Nat.lt_of_lt_of_le (Heap.lt_size (I.ok.bs b o e).1) z) (Nat.lt_irrefl _)
 exfs:=fun b h z=>by
  rcases List.mem_cons.mp (I.stkSub b z) with e | e
  ·exact(hf b h).2.1 e
  ·exact(hf b h).2.2.1 e
 funs:=I.stack
 frf:=I.stkFree
def kI(tt:TT)(te:TE)(σ:St)(Q:VK):It→Hp→Prop:=fun J H1=>∀D,H1 D=none→∃W:Nat→Nat→List V→Hp→Prop,(∃m,W 0 m [] (upd H1 D (.lst [])))∧
 ∀i m ys H2,W i m ys H2→H2 D=some (.lst ys)∧((J.stop i H2∧Q (.ref D) H2)∨(J.go i H2∧ys.length<sizeLine∧∃m',m'<m∧∀x H3,J.yld i H2 x H3→
  tt (some x::σ) H3 fun b H4=>if b=true then te (some x::σ) H4 fun y H5=>H5 D=some (.lst ys)∧W (i+1) m' (ys++[y]) (upd H5 D (.lst (ys++[y]))) else W (i+1) m' ys H4))
theorem fK{M:List Str}{elt iter:Expr}{x:Str}{px pos:Pos}{ifs:List Expr}{scope:Scope}{cl:List (Str×Addr)}{tt:TT}{te:TE}(hc:X.calm=true)(ok:VL X M x scope cl)
 (ht:∀C s₀ H₀ fp,oO (FJ X M x scope cl C s₀ H₀ fp) ifs tt)(he:∀C s₀ H₀ fp,PE (FJ X M x scope cl C s₀ H₀ fp) elt te)
 {pins:List (Addr×Obj)}{σ:St}{H2:Hp}{s2:Shared}{it:Addr}{fp:List Addr}{tn:Nat→Heap→Prop}{J:It}{Q:VK}(I2:Inv X pins σ H2 s2)(T:Turn X.prog X.w X.K (.Name x px) J fp it tn)(st2:tn 0 s2.heap)(f2:∀b∈fp,Rc X pins H2 b)
 (hW:kI tt te σ Q J H2)(post:Value→Addr→Result→Shared→Prop)
 (fin:∀D C H3 s4,Inv X pins σ H3 s4→(∃m,s4.heap.Ns C m)→Rc X pins H3 C→Q (.ref D) H3→post (.ref D) C (.ok .next) s4):
 wpAny (model X.prog X.w) X.A (newList []) (fun acc s₃=>wpAny (model X.prog X.w) X.A (newFunctionEnv scope X.env.globals cl [] X.env.qual none .none (some X.env)) (fun cenv s₄=>
  codeAny (model X.prog X.w) X.A (.compStart (.ListComp elt [⟨.Name x px,iter,ifs,0⟩] scope pos) 0 (.ref it) acc { cenv with scope:=relabel scope X.env }) (post acc cenv.locals) s₄) X.xe s₃) X.xe s2:=by
 refine wpAny_newObj_type (wpAny_newFunctionEnv ok.cell (by intro y hy;simp at hy) (fun h₁ hns₁ hsb₁=>?_) ok.kind)
 dsimp only at hns₁ hsb₁ ⊢
 generalize hH2:s2.heap.push { cls:=.type "list",dict:=none,data:=.seq ([]:List Value).toArray }=G2 at hns₁ hsb₁ ⊢
 have hC:G2.objs.size=s2.heap.objs.size+1:=by rw[←hH2,Heap.size_push]
 have hDC:s2.heap.objs.size≠G2.objs.size:=by rw[hC];exact Nat.ne_of_lt (Nat.lt_succ_self _)
 have hCle:s2.heap.objs.size≤G2.objs.size:=by rw[hC];exact Nat.le_succ _
 have below:∀b,b<s2.heap.objs.size→b≠G2.objs.size∧b≠s2.heap.objs.size:=fun b hb=>⟨by rw[hC];exact Nat.ne_of_lt (Nat.lt_succ_of_lt hb),Nat.ne_of_lt hb⟩
 have old:∀b o,s2.heap.get? b=some o→h₁.get? b=some o:=fun b o e=>hsb₁.extBut b o (below b (Heap.lt_size e)).1 (Heap.get?_push_of_some _ (hH2 ▸ Heap.get?_push_of_some _ e))
 have hacc:h₁.get? s2.heap.objs.size=some { cls:=.type "list",data:=.seq ([]:List Value).toArray }:=hsb₁.extBut _ _ hDC (Heap.get?_push_of_some _ (hH2 ▸ Heap.get?_push_size _ rfl))
 have fpb:∀b∈fp,b<s2.heap.objs.size:=fun b hb=>by
  obtain⟨o,e,_⟩:=T.obj _ _ st2 b hb
  exact Heap.lt_size e
 have hD0:H2 s2.heap.objs.size=none:=I2.hok.fresh (Nat.le_refl _)
 have hC0:H2 G2.objs.size=none:=I2.hok.fresh hCle
 generalize hDD:s2.heap.objs.size=D at*
 generalize hCC:G2.objs.size=C at*
 obtain⟨W,⟨m0,w0⟩,turn⟩:=hW D hD0
 have okX:(FJ X M x scope cl C s2 H2 fp).Ok:=oE I2 ok (by rw[hDD];exact hCle) f2 (by rw[hDD];exact fpb)
 have lenN:(none::σ:St).length=(FJ X M x scope cl C s2 H2 fp).N.length:=by
  show(none::σ).length=(x::M).length
  rw[List.length_cons,List.length_cons,I2.len,ok.len]
 have locs:∀(h':Heap) (m:Str→Option Value) (w':Option V),(∀y c,X.env.cells.lookup y=some c→∀v,s2.heap.IsCell c v→h'.IsCell c v)→w'=none→
  ∀(i:Nat) (y:Str) (v:V),(x::M)[i]?=some y→(w'::σ:St)[i]?=some (some v)→Vis (relabel scope X.env) y→∃u,RelV v u∧Look (compEnvC scope cl C X.env) h' m y u:=by
  intro h' m w' hcell hw i y v e1 e2 e3
  subst hw
  cases i with
  | zero=>simp at e2
  | succ i=>
   have e0:M[i]?=some y:=by simpa using e1
   have e2':σ[i]?=some (some v):=by simpa using e2
   obtain⟨e1',k1,k2⟩:=ok.vis i y e0 e3
   obtain⟨m2,_,hl⟩:=I2.loc
   obtain⟨u,r,l⟩:=hl i y v e1' e2' (k2.elim (fun z=>.inr (.inl z)) fun z=>.inr (.inr z))
   obtain⟨c',hc'⟩:=ok.has y k1
   rcases l with ⟨z,_⟩ | ⟨_,c,hcc,z⟩
   ·have z':X.env.scope.names.lookup y=some .local:=z
    rcases k2 with q | q<;>(rw [q] at z';cases z')
   ·have q:=ok.sub y c' hc'
    rw[hcc] at q
    cases q
    exact⟨u,r,.inr ⟨k1,c',hc',hcell y c' hcc _ z⟩⟩
 have I0:Inv (FJ X M x scope cl C s2 H2 fp) [] (none::σ) (upd H2 D (.lst [])) { s2 with heap:=h₁,toks:=s2.toks+([]:List (Str×Value)).length }:=by
  refine⟨okX,rfl,I2.bare,?_,⟨_,hns₁,locs h₁ _ none (fun y c e v z=>?_) rfl⟩,fun y c e=>?_,?_,fun y c e=>?_,fun p hp=>?_,?_,lenN⟩
  ·exact Un.laid old (Nat.le_of_eq hDD) hD0
  ·obtain⟨o,ho,hd⟩:=z
   exact⟨o,old c o ho,hd⟩
  ·obtain⟨v,o,ho,hd⟩:=I2.cell y c (ok.sub y c e)
   exact⟨v,o,old c o ho,hd⟩
  ·show upd H2 D (.lst []) C=none
   rw[Bw (Ne.symm hDC)]
   exact hC0
  ·have hn:=I2.freeC y c (ok.sub y c e)
   obtain⟨v,o,ho,hd⟩:=I2.cell y c (ok.sub y c e)
   rw[Bw (fun z=>by have:=Heap.lt_size ho;rw[hDD,z] at this;exact Nat.lt_irrefl _ this)]
   exact hn
  ·exact absurd hp (by show p∉([]++[]:List (Addr×Obj));simp)
  ·refine I2.hok.laid old (Nat.le_of_eq hDD) ⟨Nat.zero_le _,[],_,.nil,hacc⟩
 have fpk:∀{H':Hp},(∀b∈fp,H' b=none)→∀b∈fp,Rc (FJ X M x scope cl C s2 H2 fp) [] H' b:=fun hn b hb=>by
  refine⟨hn b hb,(below b (fpb b hb)).1,okX.exfs b hb,.inl hb,fun y c e=>(f2 b hb).2.2.2.2.1 y c (ok.sub y c e),fun p hp=>?_⟩
  exact absurd hp (by show p∉([]++[]:List (Addr×Obj));simp)
 have loop:∀s₃:Shared,s₃={ s2 with heap:=h₁,toks:=s2.toks+([]:List (Str×Value)).length }→
  codeAny (model X.prog X.w) X.A (.compLoop (.ListComp elt [⟨.Name x px,iter,ifs,0⟩] scope pos) 0 (.ref it) (.ref D) (compEnvC scope cl C X.env))
   (post (.ref D) C) s₃:=by
  rintro s₃ rfl
  refine codeAny_compLoop_tests (fun n s'=>∃i ys w' H',Inv (FJ X M x scope cl C s2 H2 fp) [] (w'::σ) H' s'∧tn i s'.heap∧(∀b∈fp,H' b=none)∧W i n ys H') ?_ m0
   ⟨0,[],none,_,I0,T.keep _ _ _ st2 (fun b _ o e=>old b o e),fun b hb=>by rw[Bw (below b (fpb b hb)).2];exact(f2 b hb).1,w0⟩
  rintro n s3 ⟨i,ys,w3,H3,I3,st3,fr3,wt⟩
  obtain⟨hD3,hh⟩:=turn i n ys H3 wt
  rcases hh with ⟨stop,q⟩ | ⟨go,hlen,m',hm,step⟩
  ·refine thn (T.done (FJ X M x scope cl C s2 H2 fp) rfl rfl rfl hc i [] s3 (w3::σ) H3 _ I3 (fpk fr3) st3 stop) fun r s4 ⟨hr,I4⟩=>?_
   subst hr
   obtain⟨m4,hn4,_⟩:=id I4.loc
   have hC4:H3 C=none:=I4.free
   exact fin D C H3 s4 (I2.call' (ch:=fp) I4.os I4.base I4.hok I4.bare fun b hb=>⟨(f2 b hb).2.2.2.1,(f2 b hb).2.1,(f2 b hb).2.2.2.2.1,(f2 b hb).2.2.2.2.2⟩) ⟨m4,hn4⟩ (I2.fpOk (by rw[hDD];exact hCle) hC4) q
  ·refine wpAny_mono (T.item (FJ X M x scope cl C s2 H2 fp) rfl rfl rfl hc i [] s3 (w3::σ) H3 (fun _ _=>False) I3 (fpk fr3) st3 go) (fun r s4 h4=>?_) (fun _ _ z=>z.elim)
   obtain⟨u,hr,h4⟩:=h4
   subst hr
   refine(show wpAny (model X.prog X.w) X.A (letOwnedTupleGo (.Name x px) (.ref it) u >>= fun _=>assign (.Name x px) (compEnvC scope cl C X.env) u) _ _ _ from wpAny_bind (wpAny_mono h4 (fun _ s4 h4=>?_) (fun _ _ z=>z.elim)))
   obtain⟨x',H5,I5,r5,y5,st5,fr5⟩:=h4
   have I5':=I5.pinned (fpk fr5) (T.obj _ _ st5)
   refine wpAny_assign_Name (Ja (X:=FJ X M x scope cl C s2 H2 fp) (i:=0) I5' ok.nd rfl (.inl (lookup_relabel_local ok.xl)) r5 (fun s6 I6=>?_) (.inr (lookup_relabel_local ok.xl)))
   have I6':Inv (FJ X M x scope cl C s2 H2 fp) ([]++Q7 fp s4.heap) (some x'::σ) H5 s6:=I6
   have back:∀{s7:Shared} {H7:Hp} {w7:Option V},Inv (FJ X M x scope cl C s2 H2 fp) ([]++Q7 fp s4.heap) (w7::σ) H7 s7→tn (i+1) s7.heap∧(∀b∈fp,H7 b=none)∧Inv (FJ X M x scope cl C s2 H2 fp) [] (w7::σ) H7 s7:=fun{s7 H7 w7} I7=>by
    refine⟨T.keep _ _ _ st5 fun b hb o e=>(I7.pin (b,o) (List.mem_append_right _ (List.mem_append_right _ (KN hb e)))).1,fun b hb=>?_,I7.unpinned⟩
    obtain⟨o,e,d⟩:=T.obj _ _ st5 b hb
    exact(I7.pin (b,o) (List.mem_append_right _ (List.mem_append_right _ (KN hb e)))).2.1
   refine wpAny_mono (ht C s2 H2 fp _ s6 _ H5 _ I6' (step x' H5 y5)) (fun ok' s7 h7=>?_) (fun _ _ z=>z.elim)
   obtain⟨H7,I7,q7⟩:=h7
   cases ok' with
   | false=>
    have q7':W (i+1) m' ys H7:=by simpa using q7
    rw[if_neg Bool.false_ne_true]
    obtain⟨b1,b2,b3⟩:=back I7
    exact⟨m',hm,i+1,ys,_,H7,b3,b1,b2,q7'⟩
   | true=>
    rw[if_pos rfl] at q7 ⊢
    refine wpAny_mono (he C s2 H2 fp _ s7 _ H7 _ I7 q7) (fun y s8 h8=>?_) (fun _ _ z=>z.elim)
    obtain⟨v8,H8,I8,r8,hD8,w8⟩:=h8
    refine wpAny_mono (V5 (X:=FJ X M x scope cl C s2 H2 fp) _ s8 _ H8 (.ref D) [v8] (.ref D) [y] (fun _ H9=>H9=upd H8 D (.lst (ys++[v8]))) I8 rfl (.cons r8 .nil) ⟨D,ys,v8,rfl,rfl,hD8,hlen,rfl⟩) (fun _ s9 h9=>?_) (fun _ _ z=>z.elim)
    obtain⟨v9,H9,I9,_,e9⟩:=h9
    subst e9
    obtain⟨b1,b2,b3⟩:=back I9
    exact⟨m',hm,i+1,_,_,_,b3,b1,b2,w8⟩
 exact codeAny_compStart_list (loop _ rfl) (T.self _ 0 _ _ _ (T.keep _ _ _ st2 (fun b _ o e=>old b o e)) (loop _ rfl))
theorem Iz{M:List Str}{elt iter:Expr}{x:Str}{px pos:Pos}{ifs:List Expr}{scope:Scope}{cl:List (Str×Addr)}{wi:TI}{tt:TT}{te:TE}(hc:X.calm=true)(ok:VL X M x scope cl)(hi:PI X (.Name x px) iter wi)
 (ht:∀C s₀ H₀ fp,oO (FJ X M x scope cl C s₀ H₀ fp) ifs tt)(he:∀C s₀ H₀ fp,PE (FJ X M x scope cl C s₀ H₀ fp) elt te)
 (hs:∀x,foldedSetIterable iter X.env x=pure x:=by intro _;rfl):
 PE X (.ListComp elt [⟨.Name x px,iter,ifs,0⟩] scope pos) (gM wi tt te):=by
 intro pins s σ H Q I h
 rw[eval_ListComp]
 refine wpAny_comprehension_free (use:=none) rfl hs ok.clos ok.kind ok.names (thn (hi pins s σ H _ I h) fun xv s1 h1=>thn h1 fun itv s2 h2=>?_)
 obtain⟨it,fp,tn,J,H2,e,I2,T,st2,f2,hW⟩:=h2
 subst e
 refine fK hc ok ht he I2 T st2 f2 hW (compPost (model X.prog X.w) X.A X.xe none (EP X pins σ Q)) fun D C H3 s4 I4 hm fC q=>?_
 obtain⟨m,hn⟩:=hm
 exact⟨m,hn,fun h' hsb=>⟨.ref D,H3,I4.turned (t':=s4.toks) (fun b o hb e=>hsb.extBut b o hb e) fC.1 fC.2.1 fC.2.2.2.1 fC.2.2.2.2.1 fC.2.2.2.2.2,rfl,q⟩⟩
theorem X5:∀{bs:List Bool} {us:List Value},Vals (bs.map V.bl) us→us=bs.map Value.bool
 | [],_,.nil=>rfl
 | b::bs,u::us,.cons r t=>by
  cases (show u=Value.bool b from r)
  rw[X5 t]
  rfl
theorem Z4(bs:List Bool):((List.range bs.length).all fun i=>(bs[i]?).getD true)=bs.all id:=by
 induction bs with
 | nil=>rfl
 | cons b bs ih=>
  rw[List.length_cons,List.range_succ_eq_map,List.all_cons,List.all_map,List.all_cons,←ih]
  rfl
theorem nJ{s:Shared}{h':Heap}{o:Obj}(hk:∀b x,b∉[s.heap.objs.size]→(s.heap.push o).get? b=some x→h'.get? b=some x):∀b x,s.heap.get? b=some x→h'.get? b=some x:=
 fun b x e=>hk b x (fun hm=>by rw[List.mem_singleton.mp hm] at e;exact Nat.lt_irrefl _ (Heap.lt_size e)) (Heap.get?_push_of_some _ e)
theorem VH(hc:X.calm=true):Gq X (.builtin "all") (fun xs H Q=>∃(p:Addr) (bs:List Bool),xs=[.ref p]∧SqL X.K H p (bs.map V.bl)∧Q (.bl (bs.all id)) H):=by
 intro pins s σ H xs us Q I r h
 obtain⟨p,bs,rfl,hq,q⟩:=h
 obtain⟨u,rfl,ru⟩:=vals1 r
 cases (show u=Value.ref p from ru)
 obtain⟨its,rv,pl,_⟩:=I.list hq
 obtain rfl:=X5 rv
 have hl:=pl.isList
 have hlt:p<s.heap.objs.size:=by obtain⟨_,e,_⟩:=id hl;exact Heap.lt_size e
 refine call_all_walk (wpAny_pyIter_list hl ?_)
 refine⟨s.heap.objs.size,[s.heap.objs.size,p],[s.heap.objs.size],(bs.map Value.bool).toArray.size,_,_,fun i=>(bs[i]?).getD true,rfl,Walks.list (A:=X.A.in1) (I.ok.hd hc) _ p (Nat.ne_of_lt hlt) (bs.map Value.bool).toArray,
  ⟨⟨_,Heap.get?_push_size _ rfl,rfl,rfl⟩,hl.push _⟩,fun i v s' Q' E' hP hQ=>?_,fun h' tk hk=>?_⟩
 ·have hP':(bs.map Value.bool)[i]?=some v:=by simpa using hP
  rw[List.getElem?_map] at hP'
  cases e:bs[i]? with
  | none=>rw[e] at hP';cases hP'
  | some b=>
   rw[e] at hP'
   cases hP'
   simp only[e,Option.getD_some] at hQ
   exact wpAny_truthy_bool hQ
 ·have e:((List.range (bs.map Value.bool).toArray.size).all fun i=>(bs[i]?).getD true)=bs.all id:=by
   rw[List.size_toArray,List.length_map];exact Z4 bs
  rw[e]
  exact⟨.bl _,H,I.kept (nJ hk),rfl,q⟩
theorem lookup_mem{κ β:Type}[BEq κ][LawfulBEq κ]{k:κ}{v:β}:∀{l:List (κ×β)},l.lookup k=some v→(k,v)∈l
 | (a,b)::r,h=>by
  rw[List.lookup_cons] at h
  cases e:k==a with
  | true=>
   rw[e] at h
   cases h
   rw[eq_of_beq e]
   exact List.mem_cons_self
  | false=>
   rw[e] at h
   exact List.mem_cons_of_mem _ (lookup_mem h)
theorem Vd{scope:Scope}{env:Env}(h:∀y∈scope.names,y.2≠.free):(relabel scope env).names=scope.names:=
 map_eq_self fun x hx=>by
  obtain⟨n,k⟩:=x
  have:(k==NameKind.free)=false:=by simpa using h _ hx
  simp[this]
theorem Ka{x:Str}{scope:Scope}(N:List Str)(hN:X.N=N)(hf:∀y∈scope.names,y.2≠.free∧y.2≠.cell)(hk:scope.kind=.function)(hn:∀y∈scope.names,y.2=.local→scope.names.lookup y.1=some .local)
 (hx:scope.names.lookup x=some .local)(nd:(x::N).Nodup)(vis:∀y∈N,scope.names.lookup y≠some .local):VL X N x scope []:=by
 have e:=Vd (env:=X.env) fun y hy=>(hf y hy).1
 refine⟨closureFor_none fun y hy=>(hf y hy).1,fun y hy=>(hf y hy).2,hk,hn,hx,nd,by rw[hN],fun y c h=>(by cases h),fun y h=>?_,fun i y hy h=>?_⟩
 ·rw[e] at h
  rcases h with h | h
  ·exact absurd rfl (hf _ (lookup_mem h)).2
  ·exact absurd rfl (hf _ (lookup_mem h)).1
 ·rcases h with h | h | h
  ·rw[e] at h;exact absurd h (vis y (List.mem_of_getElem? hy))
  ·rw[e] at h;exact absurd rfl (hf _ (lookup_mem h)).2
  ·rw[e] at h;exact absurd rfl (hf _ (lookup_mem h)).1
structure Walk(J:It)(ok:Hp→Prop)(xs:List V):Prop where
 go:∀i H,ok H→i<xs.length→J.go i H
 yld:∀i H x H',ok H→J.yld i H x H'→i<xs.length→H'=H∧xs[i]?=some x
 stop:∀i H,ok H→xs.length≤i→J.stop i H
theorem pZ{K:PySem.W.Frag}{a:Addr}{xs:List V}:Walk (Itl K a) (fun H=>SqL K H a xs) xs:=
 ⟨fun i H h hi=>⟨xs,xs[i],h,by simp[hi]⟩,fun i H x H' h y hi=>⟨y.1,y.2 xs h⟩,fun i H h hi=>⟨xs,h,hi⟩⟩
theorem fY{K:PySem.W.Frag}{a:Addr}{xs:List V}:Walk (Itt K a) (fun H=>SqT K H a xs) xs:=
 ⟨fun i H h hi=>⟨xs,xs[i],h,by simp[hi]⟩,fun i H x H' h y hi=>⟨y.1,y.2 xs h⟩,fun i H h hi=>⟨xs,h,hi⟩⟩
theorem pY{lo:Int}{n:Nat}:Walk (Itr lo n) (fun _=>True) ((List.range n).map fun i=>V.int (lo+(i:Nat))):=
 ⟨fun i H _ hi=>(by show i<n;simpa using hi),fun i H x H' _ y hi=>⟨y.1,by
  have hi':i<n:=by simpa using hi
  rw[y.2]
  simp[hi']⟩,fun i H _ hi=>(by show n≤i;simpa using hi)⟩
theorem dF{J:It}{ok:Hp→Prop}{xs:List V}{σ:St}{H:Hp}{Q:VK}{tt:TT}{te:TE}(Wk:Walk J ok xs)(hz:xs.length<sizeLine)(hok:∀D ys,H D=none→ok (upd H D (.lst ys)))(p:V→Bool)(f:V→V)
 (ht:∀x∈xs,∀D ys (Q':Bool→Hp→Prop),H D=none→Q' (p x) (upd H D (.lst ys))→tt (some x::σ) (upd H D (.lst ys)) Q')
 (he:∀x∈xs,p x=true→∀D ys (Q':VK),H D=none→Q' (f x) (upd H D (.lst ys))→te (some x::σ) (upd H D (.lst ys)) Q')
 (h:∀D,H D=none→Q (.ref D) (upd H D (.lst ((xs.filter p).map f)))):
 ∀D,H D=none→∃W:Nat→Nat→List V→Hp→Prop,(∃m,W 0 m [] (upd H D (.lst [])))∧
  ∀i m ys H2,W i m ys H2→H2 D=some (.lst ys)∧((J.stop i H2∧Q (.ref D) H2)∨(J.go i H2∧ys.length<sizeLine∧∃m',m'<m∧∀x H3,J.yld i H2 x H3→
   tt (some x::σ) H3 fun b H4=>if b=true then te (some x::σ) H4 fun y H5=>H5 D=some (.lst ys)∧W (i+1) m' (ys++[y]) (upd H5 D (.lst (ys++[y]))) else W (i+1) m' ys H4)):=by
 intro D hD
 refine⟨fun i m ys H2=>i≤xs.length∧m=xs.length-i∧ys=((xs.take i).filter p).map f∧H2=upd H D (.lst ys),⟨_,Nat.zero_le _,rfl,by simp,rfl⟩,?_⟩
 rintro i m ys H2 ⟨hi,rfl,hys,rfl⟩
 refine⟨BR,?_⟩
 by_cases hlt:i<xs.length
 ·have hl:ys.length≤i:=by
   rw[hys,List.length_map]
   exact Nat.le_trans (List.length_filter_le _ _) (by rw[List.length_take];omega)
  refine .inr ⟨Wk.go i _ (hok D ys hD) hlt,by omega,xs.length-(i+1),by omega,fun x H3 hy=>?_⟩
  obtain⟨e3,ex⟩:=Wk.yld i _ x H3 (hok D ys hD) hy hlt
  subst e3
  have hm:x∈xs:=List.mem_of_getElem? ex
  have et:xs.take (i+1)=xs.take i++[x]:=by rw[List.take_add_one,ex];rfl
  refine ht x hm D ys _ hD ?_
  cases hp:p x with
  | false=>
   rw[if_neg Bool.false_ne_true]
   refine⟨hlt,rfl,?_,rfl⟩
   rw[et,List.filter_append,hys]
   simp[hp]
  | true=>
   rw[if_pos rfl]
   refine he x hm hp D ys _ hD ⟨BR,hlt,rfl,?_,by rw[lA]⟩
   rw[et,List.filter_append,hys]
   simp[hp]
 ·have e:i=xs.length:=by omega
  subst e
  refine .inl ⟨Wk.stop _ _ (hok D ys hD) (Nat.le_refl _),?_⟩
  rw[hys,List.take_length]
  exact h D hD
theorem bV{ta:TA}{σ:St}{H:Hp}{R:It→Hp→Prop}(h:ta σ H fun vs H1=>∃j:Int,vs=[.int j]∧ -(2^62)≤j∧j<2^62∧R (Itr 0 j.toNat) H1):pN ta σ H R:=h
theorem Mq{wi:TI}{tt:TT}{te:TE}{σ:St}{H:Hp}{Q:VK}(h:wi σ H (kI tt te σ Q)):gM wi tt te σ H Q:=h
theorem Mu{J:It}{ok:Hp→Prop}{xs:List V}{σ:St}{H:Hp}{Q:VK}{tt:TT}{te:TE}(Wk:Walk J ok xs)(hz:xs.length<sizeLine)(hok:∀D ys,H D=none→ok (upd H D (.lst ys)))(p:V→Bool)(f:V→V)
 (ht:∀x∈xs,∀D ys (Q':Bool→Hp→Prop),H D=none→Q' (p x) (upd H D (.lst ys))→tt (some x::σ) (upd H D (.lst ys)) Q')
 (he:∀x∈xs,p x=true→∀D ys (Q':VK),H D=none→Q' (f x) (upd H D (.lst ys))→te (some x::σ) (upd H D (.lst ys)) Q')
 (h:∀D,H D=none→Q (.ref D) (upd H D (.lst ((xs.filter p).map f)))):kI tt te σ Q J H:=dF Wk hz hok p f ht he h
theorem aa{K:PySem.W.Frag}{i:Nat}{a:Addr}{xs:List V}{σ:St}{H:Hp}{Q:VK}{tt:TT}{te:TE}(ei:σ[i]?=some (some (.ref a)))(hS:SqT K H a xs)(hz:xs.length<sizeLine)(p:V→Bool)(f:V→V)
 (ht:∀x∈xs,∀D ys (Q':Bool→Hp→Prop),H D=none→Q' (p x) (upd H D (.lst ys))→tt (some x::σ) (upd H D (.lst ys)) Q')
 (he:∀x∈xs,p x=true→∀D ys (Q':VK),H D=none→Q' (f x) (upd H D (.lst ys))→te (some x::σ) (upd H D (.lst ys)) Q')
 (h:∀D,H D=none→Q (.ref D) (upd H D (.lst ((xs.filter p).map f)))):gM (sU K (Zf i)) tt te σ H Q:=
 ⟨_,ei,a,rfl,⟨_,hS⟩,dF fY hz (fun D ys hD=>(Bk hD _).tup hS) p f ht he h⟩
theorem Hl{x:Str}{scope:Scope}{cl:List (Str×Addr)}(M N:List Str)(hl:M.length=N.length)(hN:X.N=N)(clos:closureFor scope X.env=pure cl)(hc:(scope.names.all fun y=>y.2 != .cell)=true)(hk:scope.kind=.function)
 (hn:(scope.names.all fun y=>y.2 != .local||scope.names.lookup y.1==some .local)=true)(hx:scope.names.lookup x=some .local)(nd:(x::M).Nodup)
 (hs:∀p∈cl,X.env.cells.lookup p.1=some p.2)
 (hh:((relabel scope X.env).names.all fun p=>(p.2 != .cell&&p.2 != .free)||(cl.lookup p.1).isSome)=true)
 (hv:((M.zip N).all fun q=>match (relabel scope X.env).names.lookup q.1 with
  | some .local=>false
  | some .cell=>q.1==q.2&&(X.env.scope.names.lookup q.1==some .cell||X.env.scope.names.lookup q.1==some .free)
  | some .free=>q.1==q.2&&(X.env.scope.names.lookup q.1==some .cell||X.env.scope.names.lookup q.1==some .free)
  | _=>true)=true):VL X M x scope cl:=by
 refine⟨clos,fun y hy=>?_,hk,fun y hy hl=>?_,hx,nd,by rw[hN];exact hl,fun y c h=>hs _ (lookup_mem h),fun y h=>?_,fun i y hy h=>?_⟩
 ·have:=List.all_eq_true.mp hc y hy
  simpa using this
 ·have:=List.all_eq_true.mp hn y hy
  simpa [hl] using this
 ·rcases h with h | h
  ·have:=List.all_eq_true.mp hh _ (lookup_mem h)
   exact Option.isSome_iff_exists.mp (by simpa using this)
  ·have:=List.all_eq_true.mp hh _ (lookup_mem h)
   exact Option.isSome_iff_exists.mp (by simpa using this)
 ·have hi:i<N.length:=by
   have:=(List.getElem?_eq_some_iff.mp hy).1
   omega
  have hz:(y,N[i])∈M.zip N:=by
   have:(M.zip N)[i]?=some (y,N[i]):=List.getElem?_zip_eq_some.mpr ⟨hy,by simp[hi]⟩
   exact List.mem_of_getElem? this
  have z:=List.all_eq_true.mp hv _ hz
  have fin:y=N[i]→X.N[i]?=some y:=fun e=>by rw[hN,e];simp[hi]
  rcases h with h | h | h
  ·dsimp only at z
   rw[h] at z;cases z
  ·dsimp only at z
   rw[h] at z
   simp only[Bool.and_eq_true,beq_iff_eq,Bool.or_eq_true] at z
   exact⟨fin z.1,.inl h,z.2⟩
  ·dsimp only at z
   rw[h] at z
   simp only[Bool.and_eq_true,beq_iff_eq,Bool.or_eq_true] at z
   exact⟨fin z.1,.inr h,z.2⟩
def fV(lo c:Int)(n:Nat):It:=⟨fun i _=>i<n,fun i H x H'=>H'=H∧x=.int (lo+i*c),fun i _=>n≤i⟩
theorem X8{P:Program}{w:World}{K:PySem.W.Frag}{tg:Expr}(it:Addr)(lo c:Int)(n:Nat):Turn P w K tg (fV lo c n) [it] it (fun i h=>IsRangeIter h it (lo+(i:Nat)*c) ((n:Int)-(i:Nat)) c) where
 mem:=by simp
 obj:=fun i h st b hb=>by
  have e:b=it:=by simpa using hb
  subst e
  exact⟨_,st,fun v z=>by
   have z':Data.fields _=Data.cell v:=z
   cases z'⟩
 keep:=fun i h h' st k=>k it (by simp) _ st
 item:=by
  intro X hP hw hK hc i pins s σ H E I hf st hg
  subst hP hw hK
  obtain⟨f0,f1,f2,f3,f4,f5⟩:=hf it (by simp)
  have W:=Walks.range (prog:=X.prog) (w:=X.w) (I.ok.hd hc) it lo c n
  refine W.item i s _ _ hg st fun v h' tk hv st' kk=>?_
  obtain⟨t,rfl⟩:=hv
  have I1:Inv X pins σ H { s with heap:=h',toks:=tk }:=I.turned (fun b o hb e=>kk b o (by simpa using hb) e) f0 f1 f3 f4 f5
  exact⟨_,rfl,Y0 (s:={ s with heap:=h',toks:=tk }) (n:="range_iterator") st' rfl rfl (by decide) ⟨.int (lo+i*c),H,I1,⟨t,rfl⟩,⟨rfl,rfl⟩,st',fun b hb=>(hf b hb).1⟩⟩
 done:=by
  intro X hP hw hK hc i pins s σ H E I hf st hg
  subst hP hw hK
  obtain⟨f0,f1,f2,f3,f4,f5⟩:=hf it (by simp)
  exact wpAny_pyNext_range_end (I.ok.hd hc) st (by have:n≤i:=hg;omega) fun h' eb=>⟨rfl,I.turned (t':=s.toks) (fun b o hb e=>eb b o hb e) f0 f1 f3 f4 f5⟩
 self:=fun _ _ _ _ _ st h=>wpAny_pyIter_rangeiter st h
def pM(ta:TA):TI:=fun σ H R=>ta σ H fun vs H1=>∃i j c:Int,vs=[.int i,.int j,.int c]∧0<c∧c<1073741824∧Builtin.Range.small i j c=true∧∃n:Nat,(n:Int)=Builtin.Range.rangeSize i j c∧R (fV i c n) H1
theorem V2{tg:Expr}{a b d:Expr}{ta:TA}{p pos:Pos}(hg:Gl X "range")(hm:X.mg "range"=none)(ha:PA X [a,b,d] ta)(hs:starEach [a,b,d] X.env=(false,eval a X.env)::starEach [b,d] X.env:=by rfl)
 (hpl:(backTo pos (starEach [b,d] X.env)).any (·.1)=false:=by rfl):PI X tg (.Call (.Name "range" p) [a,b,d] [] pos) (pM ta):=by
 intro pins s σ H R I h
 refine Call_ (KQ I hg hm boot_range (PyProof.Rows.callWith_type1 (thn (ha pos pins s σ H _ I h) fun us s1 ⟨vs,H1,I1,r1,q1⟩=>?_) hs hpl))
 obtain⟨lo,hi,c,e,c0,c1,sm,n,hn,q⟩:=q1
 subst e
 cases r1 with
 | cons r rr=>
  cases rr with
  | cons r' rr=>
   cases rr with
   | cons r'' rr=>
    cases rr
    obtain⟨t,rfl⟩:=r
    obtain⟨t',rfl⟩:=r'
    obtain⟨t'',rfl⟩:=r''
    refine PySem.call_range_3 (by omega) ?_ (Or.inl (PyProof.noPylong_small (by omega)))
    refine wpAny_pyIter_range (IsRange.new ..) sm ?_
    have I2:Inv X pins σ H1 { s1 with heap:=s1.heap.push { cls:=.type "range",data:=.fields #[.int lo t,.int hi t',.int c t''] },toks:=s1.toks }:=I1.kept fun b o e=>Heap.get?_push_of_some _ e
    refine⟨(s1.heap.push { cls:=.type "range",data:=.fields #[.int lo t,.int hi t',.int c t''] }).objs.size,[(s1.heap.push { cls:=.type "range",data:=.fields #[.int lo t,.int hi t',.int c t''] }).objs.size],_,_,H1,rfl,
     I2.kept (t':=s1.toks) fun b o e=>Heap.get?_push_of_some _ e,X8 _ lo c n,?_,fun b hb=>?_,q⟩
    ·have e1:lo+((0:Nat):Int)*c=lo:=by simp
     have e2:(n:Int)-((0:Nat):Int)=Builtin.Range.rangeSize lo hi c:=by rw[←hn];simp
     show IsRangeIter _ _ (lo+((0:Nat):Int)*c) ((n:Int)-((0:Nat):Int)) c
     rw[e1,e2]
     exact Heap.get?_push_size _ rfl
    ·have e:b=(s1.heap.push { cls:=.type "range",data:=.fields #[.int lo t,.int hi t',.int c t''] }).objs.size:=by simpa using hb
     subst e
     exact I2.fpOk (Nat.le_refl _) (I2.hok.fresh (Nat.le_refl _))
theorem bU{ta:TA}{σ:St}{H:Hp}{R:It→Hp→Prop}(h:ta σ H fun vs H1=>∃i j c:Int,vs=[.int i,.int j,.int c]∧0<c∧c<1073741824∧Builtin.Range.small i j c=true∧∃n:Nat,(n:Int)=Builtin.Range.rangeSize i j c∧R (fV i c n) H1):pM ta σ H R:=h
theorem Nj{i j c:Int}(i0:0≤i)(i1:i<4294967296)(j0:0≤j)(j1:j<4294967296)(c0:0<c)(c1:c<4294967296):Builtin.Range.small i j c=true:=by
 have e:Builtin.Range.rangeSize i j c=if i<j then (j-i-1)/c+1 else 0:=by
  unfold Builtin.Range.rangeSize
  rw[if_pos c0]
 have b1:∀x:Int,0≤x→x/c≤x:=fun x hx=>Int.ediv_le_self _ hx
 have b2:∀x:Int,0≤x→0≤x/c:=fun x hx=>Int.ediv_nonneg hx (by omega)
 unfold Builtin.Range.small
 rw[e]
 simp only[Builtin.Range.rangeFitsLong,Bool.and_eq_true,Bool.or_eq_true,decide_eq_true_eq,beq_iff_eq,if_pos c0]
 split
 ·have:=b1 (j-i-1) (by omega)
  have:=b2 (j-i-1) (by omega)
  omega
 ·omega
theorem W9{wi:TI}{g:TG}{tb:TS}{D:Ends}{σ:St}{H:Hp}(h:wi σ H fun J H1=>∃W:Nat→Nat→St→Hp→Prop,(∃m,W 0 m σ H1)∧∀i m σ H,W i m σ H→
 (J.stop i H∧D.nx σ H)∨(J.go i H∧∃N:St→Hp→Prop,(∀σ' H',N σ' H'→∃m',m'<m∧W (i+1) m' σ' H')∧∀x H',J.yld i H x H'→g x σ H' fun σ2 H2=>tb { D with nx:=N,ct:=N,bk:=D.nx } σ2 H2)):uJ wi g tb D σ H:=h
theorem bW{K:PySem.W.Frag}{tl:TE}{σ:St}{H:Hp}{R:It→Hp→Prop}(h:tl σ H fun x H1=>∃a,x=.ref a∧(∃xs,SqL K H1 a xs)∧R (Itl K a) H1):pO K tl σ H R:=h
theorem pI{K:PySem.W.Frag}{tl:TE}{σ:St}{H:Hp}{R:It→Hp→Prop}(h:tl σ H fun x H1=>∃a,x=.ref a∧(∃xs,SqT K H1 a xs)∧R (Itt K a) H1):sU K tl σ H R:=h
theorem Hu{H H':Hp}{l:Addr}{o:HO}(h:H l=none)(s:Bo H H'):Bo H (upd H' l o):=fun b u e=>by
 rw[Bw (By e h)]
 exact s b u e
end
end L2
namespace L2
open PySem PySem.Spec PyProof.Rows
def fU(h:Heap)(e:Addr)(cls:Value)(dd:Option Addr)(head:Value):Prop:=∃vs sl,h.get? e=some ⟨cls,dd,.fields vs,sl⟩∧vs[1]?=some head
def XTr(h base:Heap)(e:Addr)(cls:Value)(dd:Option Addr)(fl:Value):Prop:=∃T,fU h e cls dd (.ref T)∧base.get? T=none∧T≠e∧∃oT ts,h.get? T=some oT∧oT.data=.fields ts∧ts[3]?=some fl
structure Sea(base:Heap)(l:List Env)(e:Addr)(h:Heap):Prop where
 stays:base.StaysIn h
 new:base.get? e=none
 frames:h.FunFrames base l
section
variable{M:Model}{A:Around}{E:Value→Shared→Prop}{s:Shared}{base:Heap}{env:Env}{outer l:List Env}{L e:Addr}{cls:Value}{dd:Option Addr}
theorem G8{o:Obj}{vs:Array Value}(hd:o.data=.fields vs)(i:Nat)(x:Value):Obj.mapFields (·.setIfInBounds i x) o=⟨o.cls,o.dict,.fields (vs.setIfInBounds i x),o.slots⟩:=by
 obtain⟨c,d,dt,sl⟩:=o
 cases hd
 rfl
theorem cj{head:Value}{nx:Bool}{Q:Unit→Shared→Prop}(hfr:A.frames=some (env::outer))(hf:env.frame=some L)(S:Sea base (env::outer) e s.heap){hd0:Value}(O:fU s.heap e cls dd hd0)
 (k:∀h',Sea base (env::outer) e h'→XTr h' base e cls dd (rawInt L)→s.heap.UpToSlots h'→Q () { s with heap:=h' }):
 wpAny M A (do let a ←frameOf env;let pl ←entryPlaceOf L nx;let b ←EntryCells.newEntry head a .none (rawInt L) .none pl;setField (.ref e) 1 b) Q E s:=by
 obtain⟨vs,sl,he,h1⟩:=O
 have nofr:e∉(env::outer).filterMap (·.frame):=fun z=>by
  obtain⟨_,o,ho,hn⟩:=S.frames.mem z
  rw[he] at ho
  cases ho
  exact hn vs rfl
 refine wpAny_bind (wpAny_frameOf_fun hfr S.frames hf fun g1 so=>wpAny_bind (wpAny_entryPlaceOf fun pl hpl=>?_))
 unfold EntryCells.newEntry newFields;refine wpAny_bind (wpAny_newObj_type ?_ (hpl.sizeOk5 _ _ _ _ _))
 generalize hob:({ cls:=.type "traceback",dict:=none,data:=.fields ([head,.ref L,.none,rawInt L,.none]++(if pl.isEmpty then List.replicate 6 Value.none else pl)).toArray }:Obj)=tb
 have e1:g1.get? e=some ⟨cls,dd,.fields vs,sl⟩:=(so.2.1 e nofr).trans he
 have b1:base.StaysIn g1:=fun b o q=>(so.2.1 b fun z=>by rw[(S.frames.mem z).1] at q;cases q).trans (S.stays b o q)
 have e2:(g1.push tb).get? e=some ⟨cls,dd,.fields vs,sl⟩:=Heap.get?_push_of_some _ e1
 have ne:g1.objs.size≠e:=Nat.ne_of_gt (Heap.lt_size e1)
 have sz:1<vs.size:=(Array.getElem?_eq_some_iff.mp h1).1
 have tbf:tb.isFreed=false:=by rw[←hob];rfl
 refine wpAny_setField e2 rfl sz (k _ ⟨fun b o q=>?_,S.new,?_⟩ ?_ ?_)
 ·have hbe:b≠e:=fun z=>by rw[z,S.new] at q;cases q
  rw[Heap.get?_update_other _ _ (Ne.symm hbe)]
  exact Heap.get?_push_of_some _ (b1 b o q)
 ·refine S.frames.of_keeps fun b o q hn=>?_
  have hbe:b≠e:=fun z=>by rw[z,he] at q;cases q;exact hn vs rfl
  obtain⟨sl',q'⟩:=so.2.2 b o q
  refine⟨{ o with slots:=sl' },?_,rfl⟩
  rw[Heap.get?_update_other _ _ (Ne.symm hbe)]
  exact Heap.get?_push_of_some _ q'
 ·refine⟨g1.objs.size,⟨vs.setIfInBounds 1 (.ref g1.objs.size),sl,?_,?_⟩,b1.fresh,ne,tb,([head,.ref L,.none,rawInt L,.none]++(if pl.isEmpty then List.replicate 6 Value.none else pl)).toArray,?_,by rw[←hob],?_⟩
  ·rw[Heap.get?_update_self _ e2 (by rw[G8 rfl];rfl),G8 rfl]
  ·rw[Array.getElem?_setIfInBounds_self_of_lt sz]
  ·rw[Heap.get?_update_other _ _ (Ne.symm ne)]
   exact Heap.get?_push_size _ tbf
  ·simp
 ·intro b o q hn
  have hbe:b≠e:=fun z=>by rw[z,he] at q;cases q;exact hn vs rfl
  obtain⟨sl',q'⟩:=so.2.2 b o q
  refine⟨sl',?_⟩
  rw[Heap.get?_update_other _ _ (Ne.symm hbe)]
  exact Heap.get?_push_of_some _ q'
theorem Yq{Q:Unit→Shared→Prop}(hfr:A.frames=some (env::outer))(hf:env.frame=some L)(S:Sea base (env::outer) e s.heap)(O:fU s.heap e cls dd .none)
 (k:∀h',Sea base (env::outer) e h'→XTr h' base e cls dd (rawInt L)→s.heap.UpToSlots h'→Q () { s with heap:=h' }):wpAny M A (noteFrame (.ref e) env) Q E s:=by
 obtain⟨vs,sl,he,h1⟩:=id O
 unfold noteFrame
 simp only[hf]
 refine wpAny_bind (wpAny_field he rfl h1 ?_)
 rw[if_neg (by decide)]
 exact cj hfr hf S O k
theorem cG{Q:Unit→Shared→Prop}(hfr:A.frames=some (env::outer))(hf:env.frame=some L)(S:Sea base (env::outer) e s.heap)(O:XTr s.heap base e cls dd .none)
 (k:∀h',Sea base (env::outer) e h'→XTr h' base e cls dd (rawInt L)→s.heap.UpToSlots h'→Q () { s with heap:=h' }):wpAny M A (noteFrame (.ref e) env) Q E s:=by
 obtain⟨T,⟨vs,sl,he,h1⟩,tb,ne,oT,ts,hT,dT,h3⟩:=O
 unfold noteFrame
 simp only[hf]
 refine wpAny_bind (wpAny_field he rfl h1 ?_)
 rw[if_pos (show (Value.ref T != Value.none)=true by simp)]
 refine wpAny_bind (wpAny_field hT dT h3 ?_)
 rw[if_neg (show ¬((Value.none==rawInt L)=true) by simp[rawInt])]
 refine wpAny_bind (wpAny_setField hT dT (Array.getElem?_eq_some_iff.mp h3).1 ?_)
 have oth:∀b,b≠T→(s.heap.update T (Obj.mapFields (·.setIfInBounds 3 Value.none))).get? b=s.heap.get? b:=fun b hb=>Heap.get?_update_other _ _ (Ne.symm hb)
 have nT:∀b o,s.heap.get? b=some o→(∀ws,o.data≠.fields ws)→b≠T:=fun b o q hn z=>by
  rw[z,hT] at q
  cases q
  exact hn ts dT
 refine cj (hd0:=.ref T) (s:={ s with heap:=s.heap.update T (Obj.mapFields (·.setIfInBounds 3 Value.none)) }) hfr hf ⟨fun b o q=>?_,S.new,?_⟩ ⟨vs,sl,(oth e (Ne.symm ne)).trans he,h1⟩ fun h' a b c=>k h' a b fun x o q hn=>?_
 ·exact(oth b fun z=>by rw[z,tb] at q;cases q).trans (S.stays b o q)
 ·exact S.frames.of_keeps fun b o q hn=>⟨o,(oth b (nT b o q hn)).trans q,rfl⟩
 ·exact c x o ((oth x (nT x o q hn)).trans q) hn
theorem Ih{fl:Value}{Q:Unit→Shared→Prop}(S:Sea base l e s.heap)(O:XTr s.heap base e cls dd fl)
 (k:∀h',Sea base l e h'→XTr h' base e cls dd .none→s.heap.UpToSlots h'→Q () { s with heap:=h' }):wpAny M A (setFlight (.ref e) none) Q E s:=by
 obtain⟨T,⟨vs,sl,he,h1⟩,tb,ne,oT,ts,hT,dT,h3⟩:=O
 have sz:3<ts.size:=(Array.getElem?_eq_some_iff.mp h3).1
 unfold setFlight
 refine wpAny_bind (wpAny_field he rfl h1 ?_)
 rw[if_pos (show (Value.ref T != Value.none)=true by simp)]
 have oth:∀b,b≠T→(s.heap.update T (Obj.mapFields (·.setIfInBounds 3 ((none:Option Addr).elim Value.none fun f=>rawInt f)))).get? b=s.heap.get? b:=fun b hb=>Heap.get?_update_other _ _ (Ne.symm hb)
 have nT:∀b o,s.heap.get? b=some o→(∀ws,o.data≠.fields ws)→b≠T:=fun b o q hn z=>by
  rw[z,hT] at q
  cases q
  exact hn ts dT
 refine wpAny_setField hT dT sz (k _ ⟨fun b o q=>?_,S.new,?_⟩ ⟨T,⟨vs,sl,(oth e (Ne.symm ne)).trans he,h1⟩,tb,ne,_,ts.setIfInBounds 3 .none,Heap.get?_update_self _ hT ?_,?_,?_⟩ fun b o q hn=>⟨o.slots,(oth b (nT b o q hn)).trans q⟩)
 ·exact(oth b fun z=>by rw[z,tb] at q;cases q).trans (S.stays b o q)
 ·exact S.frames.of_keeps fun b o q hn=>⟨o,(oth b (nT b o q hn)).trans q,rfl⟩
 ·rw[G8 dT];rfl
 ·rw[G8 dT];rfl
 ·rw[Array.getElem?_setIfInBounds_self_of_lt sz]
theorem Sea.tail(S:Sea base (env::outer) e s.heap):Sea base outer e s.heap:=⟨S.stays,S.new,S.frames.2.2⟩
theorem leave_new{Q:Unit→Shared→Prop}(hfr:A.frames=some (env::outer))(hf:env.frame=some L)(S:Sea base (env::outer) e s.heap)(O:fU s.heap e cls dd .none)
 (k:∀h',Sea base outer e h'→XTr h' base e cls dd .none→s.heap.UpToSlots h'→Q () { s with heap:=h' }):wpAny M A (leaving env (.ref e)) Q E s:=by
 unfold leaving
 refine wpAny_bind (Yq hfr hf S O fun h1 S1 O1 u1=>?_)
 exact Ih (s:={ s with heap:=h1 }) S1 O1 fun h2 S2 O2 u2=>k h2 (Sea.tail (s:={ s with heap:=h2 }) S2) O2 (u1.trans u2)
theorem je{Q:Unit→Shared→Prop}(hfr:A.frames=some (env::outer))(hf:env.frame=some L)(S:Sea base (env::outer) e s.heap)(O:XTr s.heap base e cls dd .none)
 (k:∀h',Sea base outer e h'→XTr h' base e cls dd .none→s.heap.UpToSlots h'→Q () { s with heap:=h' }):wpAny M A (leaving env (.ref e)) Q E s:=by
 unfold leaving
 refine wpAny_bind (cG hfr hf S O fun h1 S1 O1 u1=>?_)
 exact Ih (s:={ s with heap:=h1 }) S1 O1 fun h2 S2 O2 u2=>k h2 (Sea.tail (s:={ s with heap:=h2 }) S2) O2 (u1.trans u2)
end
end L2
namespace L2
open PySem PySem.Spec PyProof.Rows
def Old(fs:List Addr)(H:Hp)(h B:Heap):Prop:=∀b u,h.get? b=some u→b∉fs→∃u',B.get? b=some u'∧(H b=none→u'=u)
def Tra(H:Hp)(h B:Heap):Prop:=∀b o,H b=some o→∃u,h.get? b=some u∧B.get? b=some u
section
variable{P:Program}{w:World}{fs:List Addr}{H H':Hp}{h h1 h2 B:Heap}
theorem Ov(u:Un fs [] H H' h h1)(o:Old fs H h B)(st:B.StaysIn h2)(up:h1.UpToSlots h2)(fr:∀b∈fs,∃ob,h1.get? b=some ob∧∀vs,ob.data≠.fields vs):Un fs [] H H' h h2 where
 keep:=fun b ob q n hb hx=>by
  obtain⟨u',e,z⟩:=o b ob q hb
  rw[z n] at e
  exact st _ _ e
 slot:=fun b ob q n hb hx=>by
  obtain⟨sl,e⟩:=u.slot b ob q n hb hx
  obtain⟨o2,e2,nf⟩:=fr b hb
  rw[e] at e2
  cases e2
  obtain⟨sl',e3⟩:=up b _ e nf
  exact⟨sl',e3⟩
 free:=u.free
 there:=fun b ob q hx=>by
  by_cases hb:b∈fs
  ·obtain⟨o2,e2,nf⟩:=fr b hb
   obtain⟨sl,e3⟩:=up b _ e2 nf
   exact⟨_,e3⟩
  ·obtain⟨u',e,_⟩:=o b ob q hb
   exact⟨u',st _ _ e⟩
 tups:=u.tups
 frzs:=u.frzs
 tbls:=u.tbls
theorem Ms(ok:HOk P w H' h1)(t:Tra H' h1 B)(st:B.StaysIn h2):HOk P w H' h2:=fun a o e=>by
 refine(ok a o e).stay (fun b u hb q=>?_) (fun _ q=>q) fun _ _ q=>q
 have go:∀ob,H' b=some ob→h2.get? b=some u:=fun ob z=>by
  obtain⟨u',e1,e2⟩:=t b ob z
  rw[q] at e1
  cases e1
  exact st _ _ e2
 rcases hb with z | z
 ·exact go o (z ▸ e)
 ·exact go _ z
theorem Tra.later(t:Tra H' h1 B)(st:B.StaysIn h2):Tra H' h2 B:=fun b o e=>by
 obtain⟨u,_,q⟩:=t b o e
 exact⟨u,st _ _ q,q⟩
end
def CX1(P:Program)(w:World):CXT:=fun outer H s E e s'=>∃(ea:Addr) (cls:Value) (dx:Option Addr) (B:Heap) (H':Hp),e=.ref ea∧s'.os=s.os∧AllBare s'.gens∧Un (frs outer) [] H H' s.heap s'.heap∧
 HOk P w H' s'.heap∧Sea B outer ea s'.heap∧XTr s'.heap B ea cls dx .none∧Old (frs outer) H s.heap B∧Tra H' s'.heap B∧E cls dx H'
def CXM(P:Program)(w:World):CXT:=fun outer H s E e s'=>∃(ea:Addr) (cls:Value) (dx:Option Addr) (B:Heap) (H':Hp),e=.ref ea∧s'.os=s.os∧AllBare s'.gens∧Un (frs outer) [] H H' s.heap s'.heap∧
 HOk P w H' s'.heap∧Sea B outer ea s'.heap∧fU s'.heap ea cls dx .none∧Old (frs outer) H s.heap B∧Tra H' s'.heap B∧E cls dx H'
structure Thr(X:Cx)(EE:Value→Option Addr→St→Hp→Prop):Prop where
 call:∀(pins:List (Addr×Obj)) (σ:St) (H:Hp) (s:Shared) (e:Value) (s':Shared),Inv X pins σ H s→CX1 X.prog X.w X.stack H s (fun c d H'=>EE c d σ H') e s'→X.xe e s'
 made:∀(pins:List (Addr×Obj)) (σ:St) (H:Hp) (s:Shared) (e:Value) (s':Shared),Inv X pins σ H s→CXM X.prog X.w X.stack H s (fun c d H'=>EE c d σ H') e s'→X.xe e s'
section
variable{X:Cx}{pins:List (Addr×Obj)}{σ:St}{H H':Hp}{s:Shared}
theorem frames_are(I:Inv X pins σ H s){s':Shared}(u:Un (frs X.stack) [] H H' s.heap s'.heap):∀b∈frs X.stack,∃ob,s'.heap.get? b=some ob∧∀vs,ob.data≠.fields vs:=fun b hb=>by
 obtain⟨_,o,ho,hn⟩:=I.stack.mem hb
 obtain⟨sl,e⟩:=u.any ho (I.stkFree b hb) (by simp)
 exact⟨_,e,hn⟩
theorem fj{s2:Heap}(I:Inv X pins σ H s)(hx:X.ex=[])(hst:X.stack=X.env::X.outer)(hfr:X.env.frame=some X.env.locals)(u:Un (frs X.stack) [] H H' s.heap s2):Un X.fs [] X.H₀ H' X.s₀.heap s2:=by
 have nl:∀b o,X.s₀.heap.get? b=some o→b≠X.env.locals:=fun b o e=>Nat.ne_of_lt (Nat.lt_of_lt_of_le (Heap.lt_size e) I.ok.above)
 have sub:∀b,b∈frs X.stack→b=X.env.locals∨b∈X.fs:=fun b hb=>List.mem_cons.mp (I.stkSub b hb)
 have sup:∀b,b∈X.fs→b∈frs X.stack:=fun b hb=>by
  rw[hst]
  show b∈(X.env::X.outer).filterMap (·.frame)
  rw[List.filterMap_cons,hfr]
  exact List.mem_cons_of_mem _ hb
 have ie:∀b,b∉X.ex:=fun b=>by rw[hx];simp
 exact{
  keep:=fun b o e n hb _=>u.keep b o (I.base.keep b o e n hb (ie b)) (I.base.free b o e n (ie b)) (fun z=>(sub b z).elim (nl b o e) hb) (by simp)
  slot:=fun b o e n hb _=>by
   obtain⟨sl,e1⟩:=I.base.slot b o e n hb (ie b)
   obtain⟨sl',e2⟩:=u.slot b _ e1 (I.base.free b o e n (ie b)) (sup b hb) (by simp)
   exact⟨sl',e2⟩
  free:=fun b o e n _=>by
   obtain⟨o',e1⟩:=I.base.there b o e (ie b)
   exact u.free b o' e1 (I.base.free b o e n (ie b)) (by simp)
  there:=fun b o e _=>by
   obtain⟨o',e1⟩:=I.base.there b o e (ie b)
   exact u.there b o' e1 (by simp)
  tups:=fun b xs e=>u.tups b xs (I.base.tups b xs e)
  frzs:=fun b o xs e=>u.frzs b o xs (I.base.frzs b o xs e)
  tbls:=fun b ps e=>by
   obtain⟨m1,e1⟩:=I.base.tbls b ps e
   obtain⟨m2,e2⟩:=u.tbls b _ e1
   exact⟨m1++m2,by rw[e2,Array.append_assoc]⟩ }
theorem cD{B:Heap}(I:Inv X pins σ H s)(hx:X.ex=[])(o:Old (frs X.stack) H s.heap B):Old X.fs X.H₀ X.s₀.heap B:=fun b u e hb=>by
 have ie:b∉X.ex:=by rw[hx];simp
 have hs:b∉frs X.stack:=fun z=>(List.mem_cons.mp (I.stkSub b z)).elim (fun q=>Nat.lt_irrefl _ (Nat.lt_of_lt_of_le (Heap.lt_size e) (q ▸ I.ok.above))) hb
 obtain⟨o',e1⟩:=I.base.there b u e ie
 obtain⟨u',e2,z⟩:=o b o' e1 hs
 refine⟨u',e2,fun n=>?_⟩
 have e3:=I.base.keep b u e n hb ie
 rw[e1] at e3
 cases e3
 exact z (I.base.free b _ e n ie)
end
theorem Dp.obj{P:Program}{w:World}{H:Hp}{h:Heap}{a:Addr}{o:HO}(x:Dp P w H h a o):∃u,h.get? a=some u:=by
 cases o with
 | lst xs=>obtain⟨_,_,_,_,e⟩:=x;exact⟨_,e⟩
 | tup xs=>obtain⟨_,_,_,ob,e,_⟩:=x;exact⟨_,e⟩
 | dK kvs=>obtain⟨_,_,_,_,ob,_,_,e,_⟩:=x;exact⟨_,e⟩
 | dT kvs=>obtain⟨_,_,_,_,ob,_,_,e,_⟩:=x;exact⟨_,e⟩
 | set S n=>obtain⟨ob,_,_,_,e,_⟩:=x;exact⟨_,e⟩
 | ins C dx fs=>obtain⟨_,_,_,e,_⟩:=x;exact⟨_,e⟩
 | own y=>exact x
 | xd fs=>obtain⟨_,⟨ob,_,_,e,_⟩,_⟩:=x;exact⟨_,e⟩
 | rng lo hi=>obtain⟨_,_,_,e⟩:=x;exact⟨_,e⟩
 | frz ob u=>exact⟨_,x.1⟩
 | tbl ps=>exact⟨_,x⟩
 | met f y=>exact⟨_,x⟩
 | ext φ=>exact x.2.1
theorem ZC{X:Cx}{pins:List (Addr×Obj)}{σ:St}{H H':Hp}{s s':Shared}{e:Addr}{cls:Value}{dx:Option Addr}{E:XK}(I:Inv X pins σ H s)(I':Inv X pins σ H' s')(un:Un (frs X.stack) [] H H' s.heap s'.heap)(os:s'.os=s.os)(O:fU s'.heap e cls dx .none)(hn:s.heap.get? e=none)(hn':H' e=none)
 (q:E cls dx H'):CXM X.prog X.w X.stack H s E (.ref e) s':=by
 refine⟨e,cls,dx,PySem.W.hideAll s'.heap (e::frs X.stack),H',rfl,os,I'.bare,un,I'.hok,⟨fun b o z=>PySem.W.of_hideAll _ z,PySem.W.hideAll_none _ (by simp),?_⟩,O,fun b u z hb=>?_,fun b o z=>?_,q⟩
 ·refine PySem.W.funFrames_hide I'.stack fun env he a ha=>List.mem_cons_of_mem _ ?_
  exact List.mem_filterMap.mpr ⟨env,he,ha⟩
 ·have ne:b∉e::frs X.stack:=fun hm=>(List.mem_cons.mp hm).elim (fun r=>by rw[r,hn] at z;cases z) hb
  obtain⟨u',e1⟩:=un.there b u z (by simp)
  refine⟨u',PySem.W.hideAll_get _ e1 ne,fun n=>?_⟩
  have e2:=un.keep b u z n hb (by simp)
  rw[e1] at e2
  cases e2
  rfl
 ·obtain⟨u,hu⟩:=(I'.hok b o z).obj
  refine⟨u,hu,PySem.W.hideAll_get _ hu fun hm=>?_⟩
  rcases List.mem_cons.mp hm with r | r
  ·rw[r,hn'] at z;cases z
  ·rw[I'.stkFree b r] at z;cases z
theorem gF{P:Program}{w:World}{K:PySem.W.Frag}{mg:Str→Option Value}{base:Heap}{N:List Str}{qual:Str}{scope:Scope}{f:Addr}{cd:Value}{A:Around}{outer:List Env}{s₀:Shared}{H₀:Hp}{E:XK}:
 Thr (QW (CX1 P w) P w K mg base N qual scope f cd A outer s₀ H₀ E) (fun c d _ H'=>E c d H') where
 call:=by
  rintro pins σ H s e s' I ⟨ea,cls,dx,B,H',rfl,os,bare,un,hok,sea,tr,old,tra,q⟩
  refine je (A:=(QW (CX1 P w) P w K mg base N qual scope f cd A outer s₀ H₀ E).A) (I.ok.frames) rfl sea tr fun h2 S2 O2 u2=>?_
  refine⟨ea,cls,dx,B,H',rfl,os.trans I.os,bare,?_,Ms hok tra S2.stays,S2,O2,cD I rfl old,tra.later S2.stays,q⟩
  exact fj I rfl rfl rfl (Ov un old S2.stays u2 (frames_are I un))
 made:=by
  rintro pins σ H s e s' I ⟨ea,cls,dx,B,H',rfl,os,bare,un,hok,sea,tr,old,tra,q⟩
  refine leave_new (A:=(QW (CX1 P w) P w K mg base N qual scope f cd A outer s₀ H₀ E).A) (I.ok.frames) rfl sea tr fun h2 S2 O2 u2=>?_
  refine⟨ea,cls,dx,B,H',rfl,os.trans I.os,bare,?_,Ms hok tra S2.stays,S2,O2,cD I rfl old,tra.later S2.stays,q⟩
  exact fj I rfl rfl rfl (Ov un old S2.stays u2 (frames_are I un))
end L2
namespace L2
open PySem PySem.Spec PyProof.Rows
section
variable{P:Program}{w:World}{K:PySem.W.Frag}{mg:Str→Option Value}{base:Heap}
theorem Fun.okE{x qual:Str}{st:Stmt}{f:Addr}{fd:FuncData}{N ps:List Str}{k:Nat}{sp:Sp}(F:Fun K x qual st f fd)(S:BV N ps (Ao st))(len:∀vs H Q E,sp vs H Q E→vs.length=ps.length)
 (hbody:∀(cdv:Value) (A:Around) (outer:List Env) (s:Shared) (H:Hp) (vs:List V) (Q:VK) (E:XK),Ea k (A.deeper (envOfC qual (Ao st) s.heap.objs.size f cdv))→sp vs H Q E→
  Thr (QW (CX1 P w) P w K mg base N qual (Ao st) f cdv A outer s H E) (fun c d _ H'=>E c d H')→
  ∃t,PSs (QW (CX1 P w) P w K mg base N qual (Ao st) f cdv A outer s H E) (Cu st) t∧t { nx:=fun _ H'=>Q .non H',rt:=Q } (start N vs) H):Bu P w K mg base (CX1 P w) (k+1) f fd ps sp:=by
 obtain⟨oc,od,kV,doc,pm,an,cdv,ct,osl,rfl,lk,hcd⟩:=F.ex
 exact cX lk hcd S len fun A outer s H vs Q E hr hsp=>hbody cdv A outer s H vs Q E hr hsp gF
end
structure CQ(P:Program)(w:World)(K:PySem.W.Frag)(mg:Str→Option Value)(base:Heap)(k:Nat)(x:Str)(ps:List Str)(sp:Sp):Prop where
 ex:∃(f:Addr) (fd:FuncData),Bu P w K mg base (CX1 P w) k f fd ps sp∧Binds K fd ps []∧PySem.W.keepIn K (.ref f)=true∧mg x=some (.ref f)
theorem tG{P:Program}{w:World}{K:PySem.W.Frag}{mg:Str→Option Value}{base:Heap}{k:Nat}{f:Addr}{fd:FuncData}{ps:List Str}{sp:Sp}(F:Bu P w K mg base CX0 k f fd ps sp):Bu P w K mg base (CX1 P w) k f fd ps sp:=
 ⟨F.len,fun A outer s H args us vs Q E hr e0 hb r hs=>codeAny_mono (F.run A outer s H args us vs Q E hr e0 hb r hs) fun z s' q=>by
  cases z with
  | error e=>exact q.elim
  | ok fl=>cases fl<;>exact q⟩
def gQ(sp:Sp)(EE:Value→Option Addr→St→Hp→Prop)(t:TA):TE:=fun σ H Q=>t σ H fun vs H1=>sp (vs++[]) H1 Q (fun c d H'=>EE c d σ H')
section
variable{X:Cx}{EE:Value→Option Addr→St→Hp→Prop}
theorem Bg{k:Nat}{x:Str}{ps:List Str}{sp:Sp}{e:Expr}{es:List Expr}{t:TA}{p pos:Pos}(T:Thr X EE)(C:CQ X.prog X.w X.K X.mg X.base k x ps sp)(hr:Ea k X.A)(hg:Gl X x)(ha:PA X (e::es) t)
 (hdb:(x==("__debug__":Str))=false:=by decide)(he:starEach (e::es) X.env=(false,eval e X.env)::starEach es X.env:=by rfl)(hpl:(backTo pos (starEach es X.env)).any (·.1)=false:=by rfl):
 PE X (.Call (.Name x p) (e::es) [] pos) (gQ sp EE t):=by
 intro pins s σ H Q I h
 obtain⟨f,fd,F,b,kp,m⟩:=C.ex
 refine wpAny_Call_Name_kw (GF I hg m ?_ hdb)
 refine PySem.W.callWith_K (h₀:=X.base) I.ok.mod.kin kp (thn (ha pos pins s σ H _ I h) fun us s1 ⟨vs,H1,I1,r,q⟩=>⟨I1.kIn,?_⟩) he hpl
 dsimp only at q
 rw[List.append_nil] at q
 have hl:us.length=ps.length:=by rw[←r.length];exact F.len _ _ _ _ q
 have hb:=b s1 us I1.kIn (by rw[List.append_nil];exact hl)
 rw[List.append_nil] at hb
 show wpAny _ _ (call (.ref f) us) _ _ _
 refine wpAny_call (codeAny_mono (F.run X.A X.stack s1 H1 ⟨us,[]⟩ us vs Q _ hr I1.env0 hb r q) fun z s' hq=>?_)
 cases z with
 | error e=>exact T.call pins σ H1 s1 e s' I1 hq
 | ok fl=>
  cases fl with
  | ret u=>exact I1.after hq
  | next=>exact False.elim hq
  | brk=>exact False.elim hq
  | cont=>exact False.elim hq
theorem cZ{K:PySem.W.Frag}{h:Heap}{C:Addr}{bmB:List Value}{newId:String}(KX:K.In h)(q:PySem.W.excIn K C bmB newId=true):
 ∃bm N nm qn bs hd sn sub ab col dd k0 k1 k2 k3 k5 mN,h.get? C=some (excClassObj nm qn C N bs bm hd sn sub ab col dd k0 k1 k2 k3 k5 newId)∧h.Ns N mN∧mN "__init__"=none∧OwnTail h bmB bm:=by
 unfold PySem.W.excIn at q
 split at q
 ·rename_i dd cd sl ho
  split at q
  ·rename_i C' bm k0 k1 k2 k3 n k5 hm hs
   simp only[Bool.and_eq_true,beq_iff_eq,Bool.not_eq_true'] at q
   obtain⟨⟨⟨⟨⟨e1,e2⟩,hdel⟩,ht⟩,hok⟩,hni⟩:=q
   subst e1 e2
   obtain⟨nm,bs,mro,ns,qn,hd,sn,sub,ab,col,del⟩:=cd
   dsimp only at hm hdel hok hni
   subst hm hdel
   obtain⟨l⟩:=sl
   dsimp only at hs
   subst hs
   exact⟨bm,ns,nm,qn,bs,hd,sn,sub,ab,col,dd,k0,k1,k2,k3,k5,_,KX _ _ ho,.of_isNs (PySem.W.isNs_of_in KX hok),PySem.W.nsMap_none_of_in KX hok hni,PySem.W.tail_of_in KX ht⟩
  ·cases q
 ·cases q
abbrev bmV:List Value:=[.type "ValueError",.type "Exception",.type "BaseException",.type "object"]
structure oJ(K:PySem.W.Frag)(mg:Str→Option Value)(x:Str)(C:Addr):Prop where
 bound:mg x=some (.ref C)
 exc:PySem.W.excIn K C bmV "ValueError.__new__"=true
def gG(C:Addr)(EE:Value→Option Addr→St→Hp→Prop)(ta:TA):TS:=fun _ σ H=>ta σ H fun vs H1=>vs.length≤sizeLine∧EE (.ref C) none σ H1
theorem Ef{x:Str}{C:Addr}{e:Expr}{es:List Expr}{t:TA}{np cpos pos:Pos}(T:Thr X EE)(hc:X.calm=true)(O:oJ X.K X.mg x C)(hg:Gl X x)(ha:PA X (e::es) t)
 (hdb:(x==("__debug__":Str))=false:=by decide)(he:starEach (e::es) X.env=(false,eval e X.env)::starEach es X.env:=by rfl)(hpl:(backTo cpos (starEach es X.env)).any (·.1)=false:=by rfl):
 PS X (.Raise (some (.Call (.Name x np) (e::es) [] cpos)) none pos) (gG C EE t):=by
 intro pins s σ H D I h
 obtain⟨tl,N,nm,qn,bs,hd,sn,sub,ab,col,dd,k0,k1,k2,k3,k5,mN,hC,hN,hni,TL⟩:=cZ I.ok.mod.kin O.exc
 have FV:=PySem.F.excBase_ValueError
 refine wpAny_Raise_call_subU (C:=C) (nm:=nm) (q:=qn) (N:=N) (bs:=bs) (bm:=tl) (hdct:=hd) (sn:=sn) (sub:=sub) (ab:=ab) (col:=col) (dd:=dd) (k0:=k0) (k1:=k1) (k2:=k2) (k3:=k3) (k5:=k5)
  FV (by decide +kernel) FV (mN:=mN) (TL.hasType FV.hasBase) (I.ok.hd hc) ?_ hni (GF I hg O.bound ⟨rfl,?_⟩ hdb)
 ·rw[he]
  show(false||(backTo cpos (starEach es X.env)).any (·.1))=false
  rw[hpl];rfl
 have hh:=thn (ha cpos pins s σ H _ I h) (Q':=fun vs s₂=>vs.length≤sizeLine∧(∀b o,X.base.get? b=some o→s₂.heap.get? b=some o)∧∀h' ea,Heap.MadeExcOf s₂.heap h' ea (.ref C) vs→X.xe (.ref ea) { s₂ with heap:=h' }) fun us s1 ⟨vs,H1,I1,r,hz,q⟩=>by
  refine⟨by rw[←r.length];exact hz,I1.bk,fun h' ea M=>?_⟩
  obtain⟨ta,e1,_,_⟩:=M.there
  have I2:Inv X pins σ H1 { s1 with heap:=h' }:=I1.kept (t':=s1.toks) M.keeps
  have hn:H1 ea=none:=by
   cases z:H1 ea with
   | none=>rfl
   | some o=>
    obtain⟨u,hu⟩:=(I1.hok ea o z).obj
    rw[M.new] at hu;cases hu
  exact T.made pins σ H1 s1 _ _ I1 (ZC I1 I2 (Un.kept M.keeps) rfl ⟨_,#[],e1,rfl⟩ M.new hn q)
 rw[he] at hh ⊢
 exact Calls.evalArgs_plain (thn hh fun vs s₂ h₂=>⟨rfl,h₂.1,h₂.2.1 _ _ hC,hN.keeps h₂.2.1,TL.keeps h₂.2.1,h₂.2.2⟩)
end
end L2
namespace L2
open PySem PySem.Spec PyProof.Rows
theorem Inv.re{X Y:Cx}{pins pins':List (Addr×Obj)}{σ:St}{H:Hp}{s:Shared}(I:Inv X pins σ H s)(ok:Y.Ok)(e1:Y.prog=X.prog)(e2:Y.w=X.w)(e3:Y.s₀=X.s₀)(e4:Y.outer=X.outer)(e5:Y.ex=X.ex)(e6:Y.H₀=X.H₀)(e7:Y.env=X.env)(e8:Y.N=X.N)
 (hp:∀p∈Y.pn++pins',p∈X.pn++pins):Inv Y pins' σ H s:=by
 obtain⟨P,w,K,mg,base,A,N,s₀,H₀,env,outer,stack,ex,fn,calm,pn,xe⟩:=X
 obtain⟨P',w',K',mg',base',A',N',s₀',H₀',env',outer',stack',ex',fn',calm',pn',xe'⟩:=Y
 dsimp only at e1 e2 e3 e4 e5 e6 e7 e8
 subst e1 e2 e3 e4 e5 e6 e7 e8
 exact⟨ok,I.os,I.bare,I.base,I.loc,I.cell,I.free,I.freeC,fun p h=>I.pin p (hp p h),I.hok,I.len⟩
abbrev Cx.tr(X:Cx)(xe:Value→Shared→Prop)(pn:List (Addr×Obj)):Cx:={ X with xe:=xe,pn:=pn }
abbrev Cx.hd(X:Cx)(e:Addr):Cx:={ X with A:=X.A.mark (some (.ref e)),calm:=false,xe:=fun _ _=>False }
theorem Cx.Ok.tr{X:Cx}(ok:X.Ok)(xe:Value→Shared→Prop)(pn:List (Addr×Obj)):(X.tr xe pn).Ok:=
 ⟨ok.mod,ok.kind,ok.glob,ok.blt,ok.above,ok.inj,ok.has,ok.cab,ok.hd,ok.frames,ok.stk,ok.exf,ok.bs,ok.bsz,ok.noex,ok.exfs,ok.funs,ok.frf⟩
theorem Cx.Ok.hdl{X:Cx}(ok:X.Ok)(e:Addr):(X.hd e).Ok:=
 ⟨ok.mod,ok.kind,ok.glob,ok.blt,ok.above,ok.inj,ok.has,ok.cab,(fun h=>nomatch h),ok.frames,ok.stk,ok.exf,ok.bs,ok.bsz,ok.noex,ok.exfs,ok.funs,ok.frf⟩
def ZQ(a:Addr)(cls:Value)(dx:Option Addr):HO:=.ext fun h=>∃vs sl,h.get? a=some ⟨cls,dx,.fields vs,sl⟩
structure Fl(X:Cx)(pins:List (Addr×Obj))(σ:St)(H:Hp)(s':Shared)(ea:Addr)(cls:Value)(dx:Option Addr):Prop where
 ex:∃(s₀:Shared) (H₀:Hp) (B:Heap),Inv X pins σ H₀ s₀∧s'.os=s₀.os∧AllBare s'.gens∧Un (frs X.stack) [] H₀ H s₀.heap s'.heap∧HOk X.prog X.w H s'.heap∧Sea B X.stack ea s'.heap∧XTr s'.heap B ea cls dx .none∧Old (frs X.stack) H₀ s₀.heap B∧Tra H s'.heap B
section
variable{X:Cx}{pins:List (Addr×Obj)}{σ:St}{H:Hp}{s:Shared}{ea:Addr}{cls:Value}{dx:Option Addr}
theorem Fl.inv(F:Fl X pins σ H s ea cls dx):Inv X pins σ H s:=by
 obtain⟨s₀,H₀,B,I,os,bare,un,hok,_⟩:=F.ex
 exact I.call' (ch:=[]) os un hok bare (fun b z=>nomatch z)
theorem Fl.obj(F:Fl X pins σ H s ea cls dx):∃vs sl,s.heap.get? ea=some ⟨cls,dx,.fields vs,sl⟩:=by
 obtain⟨s₀,H₀,B,I,os,bare,un,hok,sea,⟨T,⟨vs,sl,e,_⟩,_⟩,_⟩:=F.ex
 exact⟨vs,sl,e⟩
theorem Fl.free(F:Fl X pins σ H s ea cls dx):H ea=none:=by
 obtain⟨s₀,H₀,B,I,os,bare,un,hok,sea,_,_,tra⟩:=F.ex
 cases z:H ea with
 | none=>rfl
 | some o=>
  obtain⟨u,_,q⟩:=tra ea o z
  rw[sea.new] at q;cases q
theorem Fl.land{Q:Unit→Shared→Prop}{A:Around}{E:Value→Shared→Prop}(F:Fl X pins σ H s ea cls dx)(k:∀s',Inv X pins σ (upd H ea (ZQ ea cls dx)) s'→Q () s'):wpAny (model X.prog X.w) A (setFlight (.ref ea) none) Q E s:=by
 have hn:=F.free
 obtain⟨s₀,H₀,B,I,os,bare,un,hok,sea,tr,old,tra⟩:=F.ex
 refine Ih sea tr fun h2 S2 O2 u2=>k _ ?_
 have un2:=Ov un old S2.stays u2 (frames_are I un)
 have hok2:=Ms hok tra S2.stays
 obtain⟨T,⟨vs,sl,e,_⟩,_⟩:=O2
 have nf:ea∉frs X.stack:=fun z=>by
  obtain⟨_,o,ho,hn⟩:=S2.frames.mem z
  rw[e] at ho
  cases ho
  exact hn vs rfl
 have new0:s₀.heap.get? ea=none:=by
  cases z:s₀.heap.get? ea with
  | none=>rfl
  | some u=>
   obtain⟨u',q,_⟩:=old ea u z nf
   rw[S2.new] at q;cases q
 have ne:∀b u,s₀.heap.get? b=some u→b≠ea:=fun b u q z=>by rw[z,new0] at q;cases q
 refine I.call' (ch:=[]) (s':={ s with heap:=h2 }) os ?_ ?_ bare (fun b z=>nomatch z)
 ·exact⟨un2.keep,un2.slot,fun b o q n hx=>by rw[Bw (ne b o q)];exact un2.free b o q n hx,un2.there,fun b xs q=>by rw[Bw (By (un2.tups b xs q) hn)];exact un2.tups b xs q,
   fun b o u q=>by rw[Bw (By (un2.frzs b o u q) hn)];exact un2.frzs b o u q,fun b ps q=>by
    obtain⟨more,z⟩:=un2.tbls b ps q
    exact⟨more,by rw[Bw (By z hn)];exact z⟩⟩
 ·intro a o q
  by_cases ha:a=ea
  ·subst ha
   rw[BR] at q
   cases q
   refine⟨⟨vs,sl,e⟩,⟨_,e⟩,?_⟩
   rintro h1 h3 ⟨vs',sl',q⟩ kk
   exact⟨vs',sl',kk _ q⟩
  ·rw[Bw ha] at q
   refine(hok2 a o q).stay (fun b u _ z=>z) (fun b z=>?_) fun b xs z=>?_
   ·rw[Bw (By z hn)];exact z
   ·rw[Bw (By z hn)];exact z
structure ZP(K:PySem.W.Frag)(mg:Str→Option Value)(x:Str)(C:Addr):Prop where
 bound:mg x=some (.ref C)
 ty:PySem.W.typeIn K (.ref C)=some (.type "type")
 cls:(PySem.W.clsIn K C).isSome=true
 base:PySem.W.mroIn K C (.type "BaseException")=some true
theorem WK{K:PySem.W.Frag}{mg:Str→Option Value}{x:Str}{M:Model}{A:Around}{E:Value→Shared→Prop}{s:Shared}{e C C':Addr}{dx:Option Addr}{vs:Array Value}{sl:Array (Option Value)}{b:Bool}{Q:Bool→Shared→Prop}(KX:K.In s.heap)(O:ZP K mg x C)
 (he:s.heap.get? e=some ⟨.ref C',dx,.fields vs,sl⟩)(hm:PySem.W.mroIn K C' (.ref C)=some b)(q:Q b s):wpAny M A (excMatches (.ref e) (.ref C)) Q E s:=by
 have L1:PySem.W.Looks M s.heap (isInstance (.ref C) (.type "tuple")) false:=(PySem.W.looks_typeIn KX O.ty).andThen (.of_pure tc_notTuple)
 have L2:PySem.W.Looks M s.heap (isType (.ref C)) true:=by
  have hc:=O.cls
  unfold PySem.W.clsIn at hc
  split at hc
  ·rename_i c' d' cd' sl' ho
   intro A' Q' E' s' k q
   unfold isType loadHead
   exact wpAny_bind (wpAny_loadPart (k _ _ (KX _ _ ho)) (wpAny_pure q))
  ·cases hc
 have L3:=PySem.W.looks_mroIn (M:=M) KX O.base
 have L4:PySem.W.Looks M s.heap (typeOf (.ref e)) (.ref C'):=(PySem.W.Looks.ld he).andThen .now
 have L5:=PySem.W.looks_mroIn (M:=M) KX hm
 unfold excMatches
 refine wpAny_bind (L1.here ?_)
 simp only[Bool.false_eq_true,if_false]
 refine wpAny_bind (wpAny_pure ?_)
 refine wpAny_bind ?_
 rw[List.forIn_cons]
 refine wpAny_bind (wpAny_bind ?_)
 unfold isExcClass
 refine wpAny_bind (L2.here ?_)
 rw[if_pos rfl]
 refine L3.here ?_
 simp only[Bool.not_true,Bool.false_eq_true,if_false]
 refine wpAny_pure ?_
 dsimp only
 rw[List.forIn_nil]
 refine wpAny_pure (wpAny_bind (L4.here (wpAny_bind ?_)))
 rw[List.forIn_cons]
 refine wpAny_bind (wpAny_bind (L5.here ?_))
 cases b with
 | true=>
  rw[if_pos rfl]
  exact wpAny_pure (wpAny_pure (wpAny_pure q))
 | false=>
  rw[if_neg Bool.false_ne_true]
  refine wpAny_pure ?_
  dsimp only
  rw[List.forIn_nil]
  exact wpAny_pure (wpAny_pure q)
end
end L2
namespace L2
open PySem PySem.Spec PyProof.Rows
theorem SP.re{X Y:Cx}{pins pins':List (Addr×Obj)}{D:Ends}{f:Flow}{s:Shared}(h:SP X pins D f s)(k:∀σ H,Inv X pins σ H s→Inv Y pins' σ H s):SP Y pins' D f s:=by
 cases f with
 | next=>obtain⟨σ,H,I,q⟩:=h;exact⟨σ,H,k _ _ I,q⟩
 | brk=>obtain⟨σ,H,I,q⟩:=h;exact⟨σ,H,k _ _ I,q⟩
 | cont=>obtain⟨σ,H,I,q⟩:=h;exact⟨σ,H,k _ _ I,q⟩
 | ret u=>obtain⟨v,σ,H,I,r,q⟩:=h;exact⟨v,σ,H,k _ _ I,r,q⟩
section
variable{X:Cx}{pins:List (Addr×Obj)}{σ:St}{H:Hp}{s:Shared}
theorem Inv.toHd(I:Inv X pins σ H s)(e:Addr):Inv (X.hd e) pins σ H s:=I.re (I.ok.hdl e) rfl rfl rfl rfl rfl rfl rfl rfl fun _ h=>h
theorem Inv.ofHd{e:Addr}(o:X.Ok)(I:Inv (X.hd e) pins σ H s):Inv X pins σ H s:=I.re o rfl rfl rfl rfl rfl rfl rfl rfl fun _ h=>h
theorem Inv.toTr(I:Inv X pins σ H s)(xe:Value→Shared→Prop):Inv (X.tr xe (X.pn++pins)) [] σ H s:=I.re (I.ok.tr _ _) rfl rfl rfl rfl rfl rfl rfl rfl fun p h=>by simpa using h
theorem Inv.ofTr{pins':List (Addr×Obj)}{xe:Value→Shared→Prop}(o:X.Ok)(I:Inv (X.tr xe (X.pn++pins)) pins' σ H s):Inv X pins σ H s:=
 I.re o rfl rfl rfl rfl rfl rfl rfl rfl fun p h=>List.mem_append_left _ h
theorem Ma{M:Model}{A:Around}{E:Value→Shared→Prop}{i:Nat}{n:Str}{pos:Pos}{Q:Unit→Shared→Prop}(I:Inv X pins σ H s)(hN:X.N.Nodup)(hi:X.N[i]?=some n)(hk:X.env.scope.names.lookup n=some .local)
 (h:∀s',Inv X pins (σ.set i none) H s'→Q () s'):wpAny M A (do bindName X.env n .none;unbindBehindTheSuite X.env n pos) Q E s:=by
 obtain⟨m,hn,hl⟩:=id I.loc
 have hcls:(X.env.scope.kind==.class||(X.env.scope.kind==.module&&X.env.locals != X.env.globals))=false:=by rw[I.ok.kind];rfl
 have hiσ:i<σ.length:=by rw[I.len];exact(List.getElem?_eq_some_iff.mp hi).1
 have cne:=I.cne
 refine wpAny_nameGoes_keeps hk hn hcls fun h' v hn' hs=>h _ ?_
 obtain⟨oL,_,_,hoL,_⟩:=id hn
 have nl:∀b o,X.s₀.heap.get? b=some o→h'.get? b=s.heap.get? b:=fun b o e=>hs.2 b (Nat.ne_of_lt (Nat.lt_of_lt_of_le (Heap.lt_size e) I.ok.above))
 refine⟨I.ok,I.os,I.bare,⟨fun b o e z hb hx=>(nl b o e).trans (I.base.keep b o e z hb hx),fun b o e z hb hx=>?_,I.base.free,fun b o e hx=>?_,I.base.tups,I.base.frzs,I.base.tbls⟩,⟨_,hn',fun j y v' e1 e2 e3=>?_⟩,fun y c e=>?_,I.free,I.freeC,fun p hp=>?_,fun b ob e=>?_,by simpa using I.len⟩
 ·obtain⟨sl,e1⟩:=I.base.slot b o e z hb hx
  exact⟨sl,(nl b o e).trans e1⟩
 ·obtain⟨o',e1⟩:=I.base.there b o e hx
  exact⟨o',(nl b o e).trans e1⟩
 ·by_cases hj:j=i
  ·subst hj
   rw[List.getElem?_set_self hiσ] at e2
   cases e2
  ·rw[List.getElem?_set_ne (Ne.symm hj)] at e2
   obtain⟨u',r',q⟩:=hl j y v' e1 e2 e3
   refine⟨u',r',?_⟩
   rcases q with ⟨k,e⟩ | ⟨k,c,e,z⟩
   ·refine .inl ⟨k,?_⟩
    have hy:y≠n:=fun z=>hj (Uz hN e1 (z ▸ hi))
    simp[hy,e]
   ·exact .inr ⟨k,c,e,z.sameBut hs (cne y c e)⟩
 ·obtain⟨w',z⟩:=I.cell y c e
  exact⟨w',z.sameBut hs (cne y c e)⟩
 ·obtain⟨e,z,ne,nf,d⟩:=I.pin p hp
  exact⟨(hs.2 p.1 ne).trans e,z,ne,nf,d⟩
 ·refine(I.hok b ob e).stay (fun c w' hc q=>(hs.2 c ?_).trans q) (fun _ q=>q) fun _ _ q=>q
  rintro rfl
  rcases hc with rfl | hc
  ·rw[I.free] at e;cases e
  ·rw[I.free] at hc;cases hc
end
abbrev TH:=Value→Option Addr→Addr→Ends→St→Hp→Prop
def PHs(X:Cx)(hs:List ExceptHandler)(t:TH):Prop:=∀(pins:List (Addr×Obj)) (s:Shared) (σ:St) (H:Hp) (D:Ends) (ea:Addr) (cls:Value) (dx:Option Addr),Fl X pins σ H s ea cls dx→t cls dx ea D σ H→
 wpAny (model X.prog X.w) X.A (handleBy (.ref ea) X.env hs) (SP X pins D) X.xe s
def lE:TH:=fun _ _ _ _ _ _=>False
def gK(K:PySem.W.Frag)(C:Addr)(ts:Addr→TS)(tr:TH):TH:=fun cls dx ea D σ H=>∃C' b,cls=.ref C'∧PySem.W.mroIn K C' (.ref C)=some b∧if b=true then ts ea D σ (upd H ea (ZQ ea cls dx)) else tr cls dx ea D σ H
def gone(i:Nat)(D:Ends):Ends:={ nx:=fun σ H=>D.nx (σ.set i none) H,rt:=D.rt,bk:=fun σ H=>D.bk (σ.set i none) H,ct:=fun σ H=>D.ct (σ.set i none) H }
def Wa(K:PySem.W.Frag)(C:Addr)(i:Nat)(ts:Addr→TS)(tr:TH):TH:=fun cls dx ea D σ H=>∃C' b,cls=.ref C'∧PySem.W.mroIn K C' (.ref C)=some b∧if b=true then ts ea (gone i D) (σ.set i (some (.ref ea))) (upd H ea (ZQ ea cls dx)) else tr cls dx ea D σ H
section
variable{X:Cx}
theorem mG:PHs X [] lE:=fun _ _ _ _ _ _ _ _ _ h=>h.elim
theorem Ug{x:Str}{C:Addr}{b₀:Stmt}{suite:List Stmt}{np pos:Pos}{rest:List ExceptHandler}{ts:Addr→TS}{tr:TH}(O:ZP X.K X.mg x C)(hg:Gl X x)(hs:∀ea,PSs (X.hd ea) (b₀::suite) (ts ea))(hr:PHs X rest tr)
 (hdb:(x==("__debug__":Str))=false:=by decide):PHs X (.ExceptHandler (some (.Name x np)) none (b₀::suite) pos::rest) (gK X.K C ts tr):=by
 intro pins s σ H D ea cls dx F h
 obtain⟨C',b,rfl,hm,q⟩:=h
 obtain⟨vs,sl,he⟩:=F.obj
 have I:=F.inv
 refine wpAny_handleBy_cons (codeAny_handlers_test ?_) (by intro z;cases z)
 refine GF (X:=X.hd ea) (I.toHd ea) hg O.bound ?_ hdb
 refine WK I.kIn O he hm ?_
 cases b with
 | true=>
  rw[if_pos rfl] at q
  refine codeAny_handlers_suite (F.land fun s' I'=>?_)
  exact wpAny_mono (hs ea pins s' σ _ D (I'.toHd ea) q) (fun f s2 z=>z.re fun _ _ J=>J.ofHd I.ok) (fun _ _ z=>z.elim)
 | false=>
  rw[if_neg Bool.false_ne_true] at q
  exact hr pins s σ H D ea _ dx F q
theorem V3{x n:Str}{C:Addr}{i:Nat}{b₀:Stmt}{suite:List Stmt}{np pos:Pos}{rest:List ExceptHandler}{ts:Addr→TS}{tr:TH}(O:ZP X.K X.mg x C)(hg:Gl X x)(hN:X.N.Nodup)(hi:X.N[i]?=some n)(hk:X.env.scope.names.lookup n=some .local)
 (hs:∀ea,PSs (X.hd ea) (b₀::suite) (ts ea))(hr:PHs X rest tr)(hdb:(x==("__debug__":Str))=false:=by decide):PHs X (.ExceptHandler (some (.Name x np)) (some n) (b₀::suite) pos::rest) (Wa X.K C i ts tr):=by
 intro pins s σ H D ea cls dx F h
 obtain⟨C',b,rfl,hm,q⟩:=h
 obtain⟨vs,sl,he⟩:=F.obj
 have I:=F.inv
 refine wpAny_handleBy_cons (codeAny_handlers_test ?_) (by intro z;cases z)
 refine GF (X:=X.hd ea) (I.toHd ea) hg O.bound ?_ hdb
 refine WK I.kIn O he hm ?_
 cases b with
 | true=>
  rw[if_pos rfl] at q
  refine codeAny_handlers_suite_as (F.land fun s' I'=>?_)
  refine Ja (v:=.ref ea) I' hN hi (.inl hk) rfl (fun s3 I3=>?_) (.inr hk)
  refine wpAny_mono (hs ea pins s3 _ _ (gone i D) (I3.toHd ea) q) (fun f s4 z=>?_) (fun _ _ z=>z.elim)
  cases f with
  | next=>obtain⟨σ4,H4,I4,z⟩:=z;exact Ma (I4.ofHd I.ok) hN hi hk fun s5 I5=>⟨_,_,I5,z⟩
  | brk=>obtain⟨σ4,H4,I4,z⟩:=z;exact Ma (I4.ofHd I.ok) hN hi hk fun s5 I5=>⟨_,_,I5,z⟩
  | cont=>obtain⟨σ4,H4,I4,z⟩:=z;exact Ma (I4.ofHd I.ok) hN hi hk fun s5 I5=>⟨_,_,I5,z⟩
  | ret u=>obtain⟨v,σ4,H4,I4,r,z⟩:=z;exact Ma (I4.ofHd I.ok) hN hi hk fun s5 I5=>⟨v,_,_,I5,r,z⟩
 | false=>
  rw[if_neg Bool.false_ne_true] at q
  exact hr pins s σ H D ea _ dx F q
abbrev XE:=Value→Option Addr→St→Hp→Prop
def uB(tb:XE→TS)(th:TH):TS:=fun D σ H=>tb (fun c d σ' H'=>∀ea,H' ea=none→th c d ea D σ' H') D σ H
theorem rB{body:List Stmt}{h₀:ExceptHandler}{hs:List ExceptHandler}{pos:Pos}{tb:XE→TS}{th:TH}(hst:X.stack=X.env::X.outer)(hf:X.env.frame=some X.env.locals)
 (hb:∀xe pn EE,Thr (X.tr xe pn) EE→PSs (X.tr xe pn) body (tb EE))(hh:PHs X (h₀::hs) th):PS X (.Try body (h₀::hs) [] [] pos) (uB tb th):=by
 intro pins s σ H D I h
 refine wpAny_Try_except ?_
 have fr:X.A.frames=some (X.env::X.outer):=by rw[←hst];exact I.ok.frames
 generalize hxe:(fun (e:Value) (s1:Shared)=>wpAny (model X.prog X.w) X.A (noteFrame e X.env) (fun _ s2=>wpAny (model X.prog X.w) X.A (setFlight e none) (fun _ s3=>wpAny (model X.prog X.w) X.A (handleBy e X.env (h₀::hs)) (SP X pins D) X.xe s3) X.xe s2) X.xe s1)=xe
 have fin:∀(pins':List (Addr×Obj)) (σ':St) (H2 H':Hp) (s2 s':Shared) (ea:Addr) (cls:Value) (dx:Option Addr) (B h4:Heap),Inv (X.tr xe (X.pn++pins)) pins' σ' H2 s2→s'.os=s2.os→AllBare s'.gens→Un (frs X.stack) [] H2 H' s2.heap s'.heap→HOk X.prog X.w H' s'.heap→
  Old (frs X.stack) H2 s2.heap B→Tra H' s'.heap B→Sea B X.stack ea h4→XTr h4 B ea cls dx .none→s'.heap.UpToSlots h4→(∀ea,H' ea=none→th cls dx ea D σ' H')→
  wpAny (model X.prog X.w) X.A (handleBy (.ref ea) X.env (h₀::hs)) (SP X pins D) X.xe { s' with heap:=h4 }:=by
  intro pins' σ' H2 H' s2 s' ea cls dx B h4 I2 os bare un hok old tra S4 O4 u4 q
  have I3:=I2.ofTr I.ok
  refine hh pins _ σ' H' D ea cls dx ⟨s2,H2,B,I3,os,bare,Ov un old S4.stays u4 (frames_are I3 un),Ms hok tra S4.stays,S4,O4,old,tra.later S4.stays⟩ (q ea ?_)
  cases z:H' ea with
  | none=>rfl
  | some o=>
   obtain⟨u,_,e⟩:=tra ea o z
   rw[S4.new] at e;cases e
 have T:Thr (X.tr xe (X.pn++pins)) (fun c d σ' H'=>∀ea,H' ea=none→th c d ea D σ' H'):=by
  constructor
  ·rintro pins' σ' H2 s2 e s' I2 ⟨ea,cls,dx,B,H',rfl,os,bare,un,hok,sea,tr,old,tra,q⟩
   show xe (.ref ea) s'
   rw[←hxe]
   have sea':Sea B (X.env::X.outer) ea s'.heap:=by rw[←hst];exact sea
   refine cG fr hf sea' tr fun h3 S3 O3 u3=>Ih (s:={ s' with heap:=h3 }) S3 O3 fun h4 S4 O4 u4=>?_
   exact fin pins' σ' H2 H' s2 s' ea cls dx B h4 I2 os bare un hok old tra (by rw[hst];exact S4) O4 (u3.trans u4) q
  ·rintro pins' σ' H2 s2 e s' I2 ⟨ea,cls,dx,B,H',rfl,os,bare,un,hok,sea,tr,old,tra,q⟩
   show xe (.ref ea) s'
   rw[←hxe]
   have sea':Sea B (X.env::X.outer) ea s'.heap:=by rw[←hst];exact sea
   refine Yq fr hf sea' tr fun h3 S3 O3 u3=>Ih (s:={ s' with heap:=h3 }) S3 O3 fun h4 S4 O4 u4=>?_
   exact fin pins' σ' H2 H' s2 s' ea cls dx B h4 I2 os bare un hok old tra (by rw[hst];exact S4) O4 (u3.trans u4) q
 refine wpAny_mono (hb xe _ _ T [] s σ H D (I.toTr xe) h) (fun f s1 z=>?_) (fun e s1 z=>?_)
 ·have z':SP X pins D f s1:=z.re fun _ _ J=>J.ofTr I.ok
  cases f with
  | next=>exact wpAny_execs_nil z'
  | brk=>exact z'
  | cont=>exact z'
  | ret u=>exact z'
 ·exact z
end
end L2
namespace L2
open PySem PySem.Spec PyProof.Rows
section
variable{prog:Program}{w:World}{A:Around}{E:Value→Shared→Prop}{s:Shared}{K:PySem.W.Frag}{x D:Addr}{ox:Obj}{odo:Option Obj}{name:Str}
structure aj(K:PySem.W.Frag)(D:Addr):Prop where
 ga:PySem.W.findIn K (.ref D) "__getattribute__"=some (some (.builtin "BaseException.__getattribute__"))
 gk:PySem.W.findIn K (.ref D) "__getattr__"=some none
 be:PySem.W.mroIn K D (.type "BaseException")=some true
 ob:PySem.W.mroIn K D (.type "object")=some true
 ca:PySem.W.findIn K (.ref D) "__class__"=some (some (.builtin "object.__class__"))
 cl:(PySem.W.clsIn K D).isSome=true
 sp:PySem.W.specialIn K (.builtin "object.__class__") "__get__"=some (some (.builtin "getset_descriptor.__get__"))
 tk:PySem.W.takesIn K (.builtin "object.__class__")=some true
theorem ZW{M:Model}{nv:Value}{Q:Unit→Shared→Prop}(KX:K.In s.heap)(I:PySem.W.InstAt s.heap x ox D odo)(G:aj K D)(q:Q () s):wpAny M A (checkBuiltinCall "BaseException.__getattribute__" ⟨[.ref x,nv],[]⟩) Q E s:=by
 have hk:builtinKind "BaseException.__getattribute__"=some .slot:=by decide +kernel
 have hs:splitId "BaseException.__getattribute__"=some ("BaseException","__getattribute__"):=by decide +kernel
 have ha:=F.args_bexc_ga (.ref x) nv
 obtain⟨hh,g,d,t,os⟩:=s
 have L0:=I.type (M:=M)
 have L1:=PySem.W.looks_mroIn (M:=M) KX G.be
 simp only[checkBuiltinCall,hk,hs]
 repeat lk
 exact q
theorem ZV{nv:Tok}{v:Value}{Q:Fin→Shared→Prop}(KX:K.In s.heap)(I:PySem.W.InstAt s.heap x ox D odo)(hf:PySem.W.findObj K D odo name=some (.value v))(q:Q (.done (.ret v)) s):
 wpAny (model prog w) A (Builtin.«object.__getattribute__» ⟨[.ref x,.str name nv],[]⟩) Q E s:=by
 obtain⟨hh,g,d,t,os⟩:=s
 have L0:=I.type (M:=model prog w)
 have L1:=PySem.W.looks_find (M:=model prog w) KX I hf
 refine wpAny_bind (wpAny_pure (wpAny_bind (wpAny_pure (wpAny_bind (L0.at (wpAny_bind (L1.at ?_)))))))
 exact wpAny_pure q
theorem kj{nv:Tok}{fill expr:Bool}{Q:Value→Shared→Prop}(KX:K.In s.heap)(I:PySem.W.InstAt s.heap x ox D odo)(G:aj K D)
 (h:wpAny (model prog w) A.in1 (Builtin.«object.__getattribute__» ⟨[.ref x,.str name nv],[]⟩) (fun fin s'=>match fin with | .done (.ret v)=>wpAny (model prog w) A (handedOut v) Q E s' | _=>False) (fun _ _=>False) s):
 wpAny (model prog w) A (getAttrBy (.ref x) (.str name nv) fill expr) Q E s:=by
 obtain⟨hh,g,d,t,os⟩:=s
 have L0:=I.type (M:=model prog w)
 have L1:=PySem.W.looks_findIn (M:=model prog w) KX G.ga
 have L2:=PySem.W.looks_findIn (M:=model prog w) KX G.gk
 have FX:=F.excAttr_ValueError
 unfold getAttrBy
 refine wpAny_holding (wpAny_bind (L0.at (wpAny_bind (L1.at ?_))))
 have e0:(Value.builtin "BaseException.__getattribute__"==Value.builtin "object.__getattribute__")=false:=by decide +kernel
 have e1:(onTheHeap (Value.ref D)&&Value.builtin "BaseException.__getattribute__"==Value.builtin "object.__getattribute__")=false:=by rw[e0];rfl
 dsimp only
 rw[e1,if_neg Bool.false_ne_true]
 unfold getAttrByItsOwn hookBefore
 refine wpAny_bind ?_
 rw[if_pos (show onTheHeap (Value.ref D)=true from rfl)]
 refine L2.at ?_
 refine wpAny_bind (wpAny_attempt (wpAny_holding ?_))
 unfold callGetattribute
 rw[if_neg (by cases expr<;>decide)]
 unfold boundAndCalled
 rw[FX.ga.bind (.ref x)]
 refine wpAny_bind (wpAny_pure ?_)
 refine wpAny_call (codeAny_call_builtin FX.ga.plain F.entry_bexc_ga (ZW KX I G ?_))
 refine wpAny_mono h (fun fin s' z=>?_) (fun _ _ z=>z.elim)
 rcases fin with (_ | _ | _ | _) | _<;>first | exact z | exact z.elim
theorem ZS{expr:Bool}{v:Value}{Q:Value→Shared→Prop}(KX:K.In s.heap)(I:PySem.W.InstAt s.heap x ox D odo)(G:aj K D)(hf:PySem.W.findObj K D odo name=some (.value v))(hh:PySem.W.handedIn v=true)
 (q:Q v { s with toks:=s.toks+1 }):wpAny (model prog w) A (getAttr (.ref x) name expr) Q E s:=by
 unfold getAttr
 refine wpAny_bind (wpAny_mkText (kj (s:={ s with toks:=s.toks+1 }) KX I G (ZV (s:={ s with toks:=s.toks+1 }) KX I hf ?_)))
 show wpAny _ _ (handedOut _) _ _ _
 rw[PySem.W.handedOut_of hh]
 exact wpAny_pure q
end
section
variable{X:Cx}
end
end L2
namespace L2
open PySem PySem.Spec PyProof.Rows
structure Ro(k:Nat)(A:Around):Prop where
 dp:A.depth+3*k+5<recursionLimit
 un:A.units+16*k+200<cLine
 gd:A.guards=some []
theorem Ro.mono{j k:Nat}{A:Around}(r:Ro k A)(h:j≤k):Ro j A:=⟨by have:=r.dp;omega,by have:=r.un;omega,r.gd⟩
theorem Ea.toN{k:Nat}{A:Around}(r:Ea k A):Ro k A:=⟨r.dp,r.un,r.gd⟩
theorem Ro.units0{k:Nat}{A:Around}(r:Ro k A):A.units<cLine:=by have:=r.un;omega
section
variable{P:Program}{w:World}{K:PySem.W.Frag}{mg:Str→Option Value}{base:Heap}
end
section
variable{X:Cx}
end
theorem KR{K:PySem.W.Frag}{C:Addr}(h:PySem.W.hasDictIn K C=true):(PySem.W.clsIn K C).isSome=true:=by
 obtain⟨cd,e,_⟩:=PySem.W.any_some h
 rw[e];rfl
theorem Sw(a:Addr):RelV (.ref a) (.ref a):=rfl
theorem YT{sp:Sp}{EE:XE}{t:TA}{σ:St}{H:Hp}{Q:VK}(h:t σ H fun vs H1=>sp (vs++[]) H1 Q (fun c d H'=>EE c d σ H')):gQ sp EE t σ H Q:=h
theorem YQ{C:Addr}{EE:XE}{ta:TA}{D:Ends}{σ:St}{H:Hp}(h:ta σ H fun vs H1=>vs.length≤sizeLine∧EE (.ref C) none σ H1):gG C EE ta D σ H:=h
theorem iH{tb:XE→TS}{th:TH}{D:Ends}{σ:St}{H:Hp}(h:tb (fun c d σ' H'=>∀ea,H' ea=none→th c d ea D σ' H') D σ H):uB tb th D σ H:=h
theorem W8{K:PySem.W.Frag}{C C':Addr}{ts:Addr→TS}{tr:TH}{dx:Option Addr}{ea:Addr}{D:Ends}{σ:St}{H:Hp}(hm:PySem.W.mroIn K C' (.ref C)=some true)(h:ts ea D σ (upd H ea (ZQ ea (.ref C') dx))):gK K C ts tr (.ref C') dx ea D σ H:=⟨C',true,rfl,hm,by rw[if_pos rfl];exact h⟩
theorem Ib{K:PySem.W.Frag}{C C':Addr}{ts:Addr→TS}{tr:TH}{dx:Option Addr}{ea:Addr}{D:Ends}{σ:St}{H:Hp}(hm:PySem.W.mroIn K C' (.ref C)=some false)(h:tr (.ref C') dx ea D σ H):gK K C ts tr (.ref C') dx ea D σ H:=⟨C',false,rfl,hm,by rw[if_neg Bool.false_ne_true];exact h⟩
theorem YS{K:PySem.W.Frag}{C C':Addr}{i:Nat}{ts:Addr→TS}{tr:TH}{dx:Option Addr}{ea:Addr}{D:Ends}{σ:St}{H:Hp}(hm:PySem.W.mroIn K C' (.ref C)=some true)(h:ts ea (gone i D) (σ.set i (some (.ref ea))) (upd H ea (ZQ ea (.ref C') dx))):Wa K C i ts tr (.ref C') dx ea D σ H:=
 ⟨C',true,rfl,hm,by rw[if_pos rfl];exact h⟩
theorem Q6{K:PySem.W.Frag}{C C':Addr}{i:Nat}{ts:Addr→TS}{tr:TH}{dx:Option Addr}{ea:Addr}{D:Ends}{σ:St}{H:Hp}(hm:PySem.W.mroIn K C' (.ref C)=some false)(h:tr (.ref C') dx ea D σ H):Wa K C i ts tr (.ref C') dx ea D σ H:=
 ⟨C',false,rfl,hm,by rw[if_neg Bool.false_ne_true];exact h⟩
section
variable{X:Cx}
end
end L2
namespace L2
open PySem PySem.Spec PyProof.Rows
section
variable{prog:Program}{w:World}{A:Around}{E:Value→Shared→Prop}{h:Heap}{g:Array GenState}{d:Drawn}{t:Nat}{os:OsState}{K:PySem.W.Frag}{f:Addr}
variable{nm q:Str}{C N:Addr}{bs bm:List Value}{hdct:Bool}{sn:List Str}{sub:List Value}{ab:Bool}{col:Option Bool}{dd:Option Addr}{k0 k1 k2 k3 k5:Option Value}
theorem jc{rest:List Value}{Q:Value→Shared→Prop}(T:OwnTail h bmV bm)(KX:K.In h)
 (hC:h.get? C=some (excClassObj nm q C N bs bm hdct sn sub ab col dd k0 k1 k2 k3 k5 "ValueError.__new__"))(hi:PySem.W.findIn K (.ref C) "__init__"=some (some (.ref f)))(hf:PySem.W.typeIn K (.ref f)=some (.type "function"))
 (hrest:rest.length≤sizeLine)
 (hq:∀h' e,Heap.MadeExcOf h h' e (.ref C) rest→codeAny (model prog w) (A.under (.builtin "type.__call__" ⟨.ref C::rest,[]⟩)) (.call (.ref f) ⟨.ref e::rest,[]⟩) (fun r s'=>match r with | .ok (.ret u)=>u=.none∧Q (.ref e) s' | .ok _=>False | .error x=>E x s') ⟨h',g,d,t,os⟩):
 wpAny (model prog w) A (call (.ref C) rest) Q E ⟨h,g,d,t,os⟩:=by
 have FV:=PySem.F.excBase_ValueError
 have f1:=tc_lookup
 have f2:=tc_bind (.ref C)
 have hT:(⟨h,g,d,t,os⟩:Shared).TypeIs (.ref C) "type":=⟨_,hC,rfl⟩
 refine wpAny_call (codeAny_of_tree ?_)
 show wpAny _ _ (callAny (.ref C) _) _ _ _
 repeat (any_goals (first | assumption | with_reducible refine wpAny_loadPart_at hC ?_ | wp_step))
 refine⟨rfl,?_⟩
 refine codeAny_call_builtin_at (Code.quiet_builtin _ (by decide +kernel)) entry_typeCall (wpAny_check_type_call_sub hC ?_)
 repeat (first | with_reducible refine wpAny_loadPart_at hC ?_ | with_reducible refine wpAny_madeBy_exc hC ?_ | wp_step)
 refine codeAny_call_builtin_code (Code.quiet_builtin _ FV.quiet) (wpAny_check_new_subU FV (by decide +kernel) T hC ?_)
 refine codeAny_exc_new_subU FV (by decide +kernel) FV T hC ?_ hrest
 have keeps:∀b o,h.get? b=some o→((h.push { cls:=.type "tuple",data:=.seq rest.toArray }).push { cls:=.ref C,data:=.fields #[.ref h.objs.size,.none,.none,.none,.bool false,.none] }).get? b=some o:=fun b o z=>Heap.get?_push_of_some _ (Heap.get?_push_of_some _ z)
 have he:((h.push { cls:=.type "tuple",data:=.seq rest.toArray }).push { cls:=.ref C,data:=.fields #[.ref h.objs.size,.none,.none,.none,.bool false,.none] }).get? (h.objs.size+1)=some { cls:=.ref C,data:=.fields #[.ref h.objs.size,.none,.none,.none,.bool false,.none] }:=
  Heap.get?_push_at (by simp only[Heap.size_push]) rfl
 have ht:((h.push { cls:=.type "tuple",data:=.seq rest.toArray }).push { cls:=.ref C,data:=.fields #[.ref h.objs.size,.none,.none,.none,.bool false,.none] }).get? h.objs.size=some { cls:=.type "tuple",data:=.seq rest.toArray }:=
  Heap.get?_push_of_some _ (Heap.get?_push_size _ rfl)
 have M:Heap.MadeExcOf h ((h.push { cls:=.type "tuple",data:=.seq rest.toArray }).push { cls:=.ref C,data:=.fields #[.ref h.objs.size,.none,.none,.none,.bool false,.none] }) (h.objs.size+1) (.ref C) rest:=
  ⟨keeps,Heap.get?_none_of_le (Nat.le_succ _),h.objs.size,he,Heap.get?_none_of_le (Nat.le_refl _),ht⟩
 have go:=hq _ _ M
 show wpAny _ _ _ _ _ (⟨((h.push { cls:=.type "tuple",data:=.seq rest.toArray }).push { cls:=.ref C,data:=.fields #[.ref h.objs.size,.none,.none,.none,.bool false,.none] }),g,d,t,os⟩:Shared)
 generalize ((h.push { cls:=.type "tuple",data:=.seq rest.toArray }).push { cls:=.ref C,data:=.fields #[.ref h.objs.size,.none,.none,.none,.bool false,.none] })=h2 at keeps he M go ⊢
 have KX2:K.In h2:=KX.keeps keeps
 have L0:PySem.W.Looks (model prog w) h2 (typeOf (.ref (h.objs.size+1))) (.ref C):=(PySem.W.Looks.ld he).andThen .now
 have L1:=PySem.W.looks_findIn (M:=model prog w) KX2 hi
 have L2:=PySem.W.bind_fn (M:=model prog w) KX2 (.ref (h.objs.size+1)) hf
 have hC2:=keeps _ _ hC
 have hcC:(Value.ref C::bm).contains (.ref C)=true:=by simp
 unfold isInstance
 refine wpAny_bind (wpAny_bind (L0.at (wpAny_isSubtype_exc hC2 ?_)))
 rw[hcC]
 simp only[Bool.not_true,Bool.false_eq_true,if_false]
 refine wpAny_bind (wpAny_holding ?_)
 unfold callSpecial? specialOf
 refine wpAny_bind (wpAny_bind (L0.at (L1.at ?_)))
 refine wpAny_holding (wpAny_bind (L2.at (wpAny_bind (wpAny_call (codeAny_mono go fun r s' z=>?_)))))
 cases r with
 | error x=>exact z
 | ok fl=>
  cases fl with
  | ret u=>
   obtain⟨rfl,z⟩:=z
   exact wpAny_pure (wpAny_pure z)
  | next=>exact z.elim
  | brk=>exact z.elim
  | cont=>exact z.elim
end
end L2
namespace L2
open PySem PySem.Spec PyProof.Rows
section
variable{prog:Program}{w:World}{A:Around}{E:Value→Shared→Prop}{h:Heap}{g:Array GenState}{d:Drawn}{t:Nat}{os:OsState}{K:PySem.W.Frag}{e:Addr}
variable{nm q:Str}{C N:Addr}{bs bm:List Value}{hdct:Bool}{sn:List Str}{sub:List Value}{ab:Bool}{col:Option Bool}{dd:Option Addr}{k0 k1 k2 k3 k5:Option Value}{newId:String}
theorem init_exc{rest:List Value}{dx:Option Addr}{vs:Array Value}{sl:Array (Option Value)}{Q:Value→Shared→Prop}(T:OwnTail h bmV bm)
 (hC:h.get? C=some (excClassObj nm q C N bs bm hdct sn sub ab col dd k0 k1 k2 k3 k5 newId))(he:h.get? e=some ⟨.ref C,dx,.fields vs,sl⟩){t1:Addr}(h0:vs[0]?=some (.ref t1))(hrest:rest.length≤sizeLine)
 (hq:∀h' t0,(∀b o,b≠e→h.get? b=some o→h'.get? b=some o)→h'.get? e=some ⟨.ref C,dx,.fields (vs.setIfInBounds 0 (.ref t0)),sl⟩→Q .none ⟨h',g,d,t,os⟩):
 wpAny (model prog w) A (call (.builtin "ValueError.__init__") (.ref e::rest)) Q E ⟨h,g,d,t,os⟩:=by
 have FV:=PySem.F.excBase_ValueError
 refine wpAny_call (codeAny_call_builtin FV.init.plain FV.initEntry (wpAny_check_init_subU FV T hC he rfl ?_))
 wp_walk
 rw[h0]
 refine wpAny_pure ?_
 have sz:0<vs.size:=(Array.getElem?_eq_some_iff.mp h0).1
 have he2:(h.push { cls:=.type "tuple",data:=.seq rest.toArray }).get? e=some ⟨.ref C,dx,.fields vs,sl⟩:=Heap.get?_push_of_some _ he
 refine wpAny_bind (wpAny_setField he2 rfl sz ?_)
 refine wpAny_letGo (wpAny_pure (hq _ h.objs.size (fun b o hb z=>?_) ?_))
 ·rw[Heap.get?_update_other _ _ (Ne.symm hb)]
  exact Heap.get?_push_of_some _ z
 ·rw[Heap.get?_update_self _ he2 (by rw[G8 rfl];rfl),G8 rfl]
variable{x CF:Addr}{cd:ClassData}{name:Str}{v:Value}{vs:Array Value}{sl:Array (Option Value)}
theorem dN{dx:Option Addr}{Q:Unit→Shared→Prop}(KX:K.In h)(hx:h.get? x=some ⟨.ref C,dx,.fields vs,sl⟩)(hcd:PySem.W.clsIn K C=some cd)(hm:cd.mro=.ref C::.ref CF::bmV)
 (hs:PySem.W.findIn K (.ref C) "__setattr__"=some (some (.builtin "object.__setattr__")))(hna:PySem.W.findIn K (.ref C) name=some none)
 (hq:wpAny (model prog w) A.in1 (Builtin.ObjectAttr.storeInOwnDict (.ref x) (.ref C) (.str name t) name v false) (fun fin s'=>match fin with | .done (.ret _)=>Q () s' | _=>False) (fun _ _=>False) ⟨h,g,d,t+1,os⟩):
 wpAny (model prog w) A (setAttr (.ref x) name v) Q E ⟨h,g,d,t,os⟩:=by
 have SF:=PySem.F.store_ValueError
 have L0:PySem.W.Looks (model prog w) h (typeOf (.ref x)) (.ref C):=(PySem.W.Looks.ld hx).andThen .now
 have L1:=PySem.W.looks_findIn (M:=model prog w) KX hs
 have L2:=PySem.W.looks_findIn (M:=model prog w) KX hna
 have L3:PySem.W.Looks (model prog w) h (mroOf (.ref C)) cd.mro:=(PySem.W.looks_clsIn KX hcd).andThen .now
 have ob:PySem.W.mroIn K C (.type "object")=some true:=by
  unfold PySem.W.mroIn
  rw[hcd,Option.bind_some,hm]
  rfl
 have L4:PySem.W.Looks (model prog w) h (isInstance (.ref x) (.type "object")) true:=L0.andThen (PySem.W.looks_mroIn KX ob)
 unfold setAttr
 refine wpAny_bind (wpAny_mkText (wpAny_bind ?_))
 unfold callSpecial? specialOf
 refine wpAny_bind (wpAny_bind (L0.at (L1.at ?_)))
 refine wpAny_holding (wpAny_bind ?_)
 rw[SF.slot.bind (.ref x)]
 refine wpAny_pure (wpAny_bind (wpAny_call (codeAny_call_builtin SF.slot.plain SF.entry
  (@PySem.W.check_slot (model prog w) _ _ (⟨h,g,d,t+1,os⟩:Shared) "object.__setattr__" "object" "__setattr__" (.ref x) [.str name t,v] [] _ SF.kind SF.split L4 (SF.args (.ref x) (.str name t) v) ?_))))
 show wpAny _ _ (Builtin.«object.__setattr__» ⟨[.ref x,.str name t,v],[]⟩) _ _ _
 rw[PySem.W.osa_eq,refuse_eq]
 refine wpAny_bind (wpAny_bind (L0.at (wpAny_bind (L3.at ?_))))
 rw[hm,refuseLoop_ref,refuseLoop_ref,SF.passes]
 refine wpAny_pure (wpAny_bind (L0.at (wpAny_bind (L2.at (wpAny_bind (wpAny_pure ?_))))))
 refine wpAny_mono hq (fun fin s' z=>?_) (fun _ _ z=>z.elim)
 rcases fin with (_ | _ | _ | _) | _<;>first | exact z.elim | exact wpAny_pure (wpAny_pure z)
theorem fW{Q:Unit→Shared→Prop}(KX:K.In h)(hx:h.get? x=some ⟨.ref C,none,.fields vs,sl⟩)(hcd:PySem.W.clsIn K C=some cd)(hm:cd.mro=.ref C::.ref CF::bmV)(hh:cd.hasDict=true)
 (hs:PySem.W.findIn K (.ref C) "__setattr__"=some (some (.builtin "object.__setattr__")))(hna:PySem.W.findIn K (.ref C) name=some none)
 (hq:∀h' tk',h'.get? x=some ⟨.ref C,some h.objs.size,.fields vs,sl⟩→h'.Ns1 h.objs.size (fun y=>if y=name then some v else none)→(∀b o,b≠x→h.get? b=some o→h'.get? b=some o)→Q () ⟨h',g,d,tk',os⟩):
 wpAny (model prog w) A (setAttr (.ref x) name v) Q E ⟨h,g,d,t,os⟩:=by
 refine dN KX hx hcd hm hs hna ?_
 refine wpAny_bind (wpAny_pure (wpAny_bind (wpAny_bind (wpAny_loadPart hx (wpAny_bind ((PySem.W.looks_clsIn KX hcd).at ?_))))))
 rw[hh]
 have hx1:(h.push { cls:=.type "dict",data:=.dict #[] }).get? x=some ⟨.ref C,none,.fields vs,sl⟩:=Heap.get?_push_of_some _ hx
 have hxs:x≠h.objs.size:=Nat.ne_of_lt (Heap.lt_size hx)
 refine wpAny_bind (wpAny_alloc' (wpAny_bind (wpAny_update' hx1 (wpAny_pure ?_))))
 have hgd:((h.push { cls:=.type "dict",data:=.dict #[] }).update x fun o=>{ cls:=o.cls,dict:=some h.objs.size,data:=o.data,slots:=o.slots }).get? h.objs.size=some { cls:=.type "dict",data:=.dict #[] }:=
  (Heap.get?_update_ne _ _ _ _ hxs.symm).trans (Heap.get?_push_at rfl rfl)
 have hgx:((h.push { cls:=.type "dict",data:=.dict #[] }).update x fun o=>{ cls:=o.cls,dict:=some h.objs.size,data:=o.data,slots:=o.slots }).get? x=some ⟨.ref C,some h.objs.size,.fields vs,sl⟩:=Heap.get?_update_self _ hx1 rfl
 have hgo:∀b o,b≠x→h.get? b=some o→((h.push { cls:=.type "dict",data:=.dict #[] }).update x fun o=>{ cls:=o.cls,dict:=some h.objs.size,data:=o.data,slots:=o.slots }).get? b=some o:=fun b o hb z=>
  (Heap.get?_update_ne _ _ _ _ hb).trans (Heap.get?_push_of_some _ z)
 generalize ((h.push { cls:=.type "dict",data:=.dict #[] }).update x fun o=>{ cls:=o.cls,dict:=some h.objs.size,data:=o.data,slots:=o.slots })=h2 at hgd hgx hgo ⊢
 have hnd:h2.Ns h.objs.size (fun _=>none):=⟨_,#[],_,hgd,rfl,fun e he=>absurd he (by simp),fun _=>rfl⟩
 show wpAny _ _ (Builtin.ObjectAttr.storeInDict h.objs.size (.str name t) name v) _ _ _
 unfold Builtin.ObjectAttr.storeInDict Builtin.ObjectAttr.newKeyGuard
 refine wpAny_bind (wpAny_pure (wpAny_bind (wpAny_nsSet1 (Heap.Ns1.of_empty hnd) fun h' hn' hs'=>?_)))
 obtain⟨oD,esD,epD,hoD,hdD,hcD⟩:=hn'.count (Within.cons name v Within.nil)
 refine wpAny_bind (wpAny_lookBehind hoD (by rw[hdD];exact pastItsLine_dict (Nat.le_trans hcD (by rw[List.length_cons,List.length_nil,sizeLine_eq];omega))) (wpAny_pure ?_))
 exact hq h' _ ((hs'.2 x hxs).trans hgx) hn' fun b o hb z=>(hs'.2 b (Nat.ne_of_lt (Heap.lt_size z))).trans (hgo b o hb z)
end
end L2
namespace L2
open PySem PySem.Spec PyProof.Rows
structure XOwn(K:PySem.W.Frag)(C CF:Addr):Prop where
 obj:∃dd cd k0 k1 k2 k3 k5,K.lookup C=some ⟨.type "type",dd,.cls cd,#[k0,k1,k2,k3,some (.builtin "ValueError.__new__"),k5]⟩∧cd.mro=.ref C::.ref CF::bmV∧cd.hasDel=false∧cd.hasDict=true
 base:PySem.W.excIn K CF bmV "ValueError.__new__"=true
 sa:PySem.W.findIn K (.ref C) "__setattr__"=some (some (.builtin "object.__setattr__"))
section
variable{K:PySem.W.Frag}{C CF:Addr}{h:Heap}
theorem XOwn.cls(O:XOwn K C CF):∃cd,PySem.W.clsIn K C=some cd∧cd.mro=.ref C::.ref CF::bmV∧cd.hasDict=true:=by
 obtain⟨dd,cd,k0,k1,k2,k3,k5,e,m,_,hd⟩:=O.obj
 refine⟨cd,?_,m,hd⟩
 unfold PySem.W.clsIn
 rw[e]
theorem XOwn.tail(O:XOwn K C CF)(KX:K.In h):OwnTail h bmV (.ref CF::bmV):=by
 obtain⟨tl,N,nm,qn,bs,hd,sn,sub,ab,col,dd,k0,k1,k2,k3,k5,mN,hC,hN,hni,TL⟩:=cZ KX O.base
 exact .own hC hN hni .base
theorem XOwn.at(O:XOwn K C CF)(KX:K.In h):∃N nm qn bs hd sn sub ab col dd k0 k1 k2 k3 k5,h.get? C=some (excClassObj nm qn C N bs (.ref CF::bmV) hd sn sub ab col dd k0 k1 k2 k3 k5 "ValueError.__new__"):=by
 obtain⟨dd,cd,k0,k1,k2,k3,k5,e,m,hdel,hd⟩:=O.obj
 obtain⟨nm,bs,mro,ns,qn,hd,sn,sub,ab,col,del⟩:=cd
 dsimp only at m hdel
 subst m hdel
 exact⟨_,_,_,_,_,_,_,_,_,_,_,_,_,_,_,KX _ _ e⟩
end
def MT(a:Addr)(cls:Value)(dx:Option Addr):HO:=.ext fun h=>∃vs sl t1,h.get? a=some ⟨cls,dx,.fields vs,sl⟩∧vs[0]?=some (.ref t1)∧vs[1]?=some .none
section
variable{X:Cx}{pins:List (Addr×Obj)}{σ:St}{H:Hp}{s:Shared}{h':Heap}
theorem Inv.write2{x d:Addr}{o od:HO}{t':Nat}(I:Inv X pins σ H s)(mu:Mut (H x))(hd:s.heap.objs.size≤d)(k:∀b u,b≠x→s.heap.get? b=some u→h'.get? b=some u)(hx:∃u,h'.get? x=some u)
 (nx:Dp X.prog X.w (upd (upd H d od) x o) h' x o)(nd:Dp X.prog X.w (upd (upd H d od) x o) h' d od):Inv X pins σ (upd (upd H d od) x o) { s with heap:=h',toks:=t' }:=by
 have hn:H d=none:=I.hok.fresh hd
 have hnx:∀b,H b=none→b≠x:=fun b n z=>by subst z;rw[n] at mu;exact mu
 have dx:d≠x:=hnx d hn
 have hm:∀b u,H b=some u→¬Mut (some u)→b≠x:=fun b u q nm z=>by subst z;rw[q] at mu;exact nm mu
 have go:∀b u,H b=some u→¬Mut (some u)→upd (upd H d od) x o b=some u:=fun b u q nm=>by
  rw[Bw (hm b u q nm),Bw (By q hn)];exact q
 refine I.un ⟨fun b u q n _ _=>k b u (hnx b n) q,fun b u q n _ _=>⟨u.slots,k b u (hnx b n) q⟩,fun b u q n _=>?_,fun b u q _=>?_,fun b xs q=>go b _ q fun z=>z,fun b u xs q=>go b _ q fun z=>z,fun b ps q=>⟨#[],by rw[go b _ q fun z=>z];simp⟩⟩ fun b u q=>?_
 ·rw[Bw (hnx b n),Bw (Nat.ne_of_lt (Nat.lt_of_lt_of_le (Heap.lt_size q) hd))];exact n
 ·by_cases hb:b=x
  ·subst hb;exact hx
  ·exact⟨u,k b u hb q⟩
 ·by_cases hb:b=x
  ·subst hb;rw[BR] at q;cases q;exact nx
  ·rw[Bw hb] at q
   by_cases hbd:b=d
   ·subst hbd;rw[BR] at q;cases q;exact nd
   ·rw[Bw hbd] at q
    refine(I.hok b u q).stay (fun c v hc r=>k c v ?_ r) (fun c r=>go c _ r fun z=>z) fun c xs r=>go c _ r fun z=>z
    rcases hc with rfl | hc
    ·exact hb
    ·exact hm c _ hc fun z=>z
theorem U8{a:Addr}{cls:Value}{dx:Option Addr}(I:Inv X pins σ H s)(h:H a=some (MT a cls dx)):∃vs sl t1,s.heap.get? a=some ⟨cls,dx,.fields vs,sl⟩∧vs[0]?=some (.ref t1)∧vs[1]?=some .none:=
 (show Dp X.prog X.w H s.heap a (MT a cls dx) from I.hok a _ h).1
theorem Xv{P:Program}{w:World}{H:Hp}{h:Heap}{a:Addr}{cls:Value}{dx:Option Addr}{vs:Array Value}{sl:Array (Option Value)}{t1:Addr}(e:h.get? a=some ⟨cls,dx,.fields vs,sl⟩)(e0:vs[0]?=some (.ref t1))(e1:vs[1]?=some .none):Dp P w H h a (MT a cls dx):=
 ⟨⟨vs,sl,t1,e,e0,e1⟩,⟨_,e⟩,fun h1 h3 ⟨vs',sl',t',q,r⟩ kk=>⟨vs',sl',t',kk _ q,r⟩⟩
def uR(K:PySem.W.Frag)(ta tv:TE)(f:Str):TS:=fun D σ H=>tv σ H fun y H1=>ta σ H1 fun x H2=>∃a C CF,x=.ref a∧H2 a=some (MT a (.ref C) none)∧XOwn K C CF∧PySem.W.findIn K (.ref C) f=some none∧
 ∀d,H2 d=none→D.nx σ (upd (upd H2 d (.xd [(f,y)])) a (MT a (.ref C) (some d)))
variable{o value:Expr}{f:Str}{pos pos':Pos}{ta tv:TE}
theorem iY(ha:PE X o ta)(hv:PE X value tv)(hs:swapsWith value (some (.Attribute o f pos')) pos.line X.env=pure false):PS X (.Assign [.Attribute o f pos'] value pos) (uR X.K ta tv f):=by
 intro pins s σ H D I h
 refine plainObj_wpAny_Assign_Attribute (thn (hv pins s σ H _ I h) fun u s1 ⟨y,H1,I1,ry,q⟩=>thn (ha pins s1 σ H1 _ I1 q) fun ov s2 ⟨x,H2,I2,rx,a,C,CF,ex,ea,O,hna,q2⟩=>?_) hs
 subst ex
 obtain rfl:ov=Value.ref a:=rx
 obtain⟨vs,sl,t1,e,e0,e1⟩:=U8 I2 ea
 obtain⟨cd,hcd,hm,hh⟩:=O.cls
 obtain⟨hh2,g2,d2,t2,os2⟩:=s2
 refine fW I2.kIn e hcd hm hh O.sa hna fun h' tk' hx hn k=>?_
 have hne:hh2.objs.size≠a:=Nat.ne_of_gt (Heap.lt_size e)
 refine⟨σ,_,?_,q2 hh2.objs.size (I2.hok.fresh (Nat.le_refl _))⟩
 refine I2.write2 (by rw[ea];trivial) (Nat.le_refl _) k ⟨_,hx⟩ (Xv hx e0 e1) ?_
 refine⟨_,hn,fun z=>?_⟩
 show Jp (List.lookup z [(f,y)]) (if z=f then some u else none)
 by_cases q:z=f
 ·subst q;rw[if_pos rfl,List.lookup_cons_self];exact ry
 ·rw[if_neg q,List.lookup_cons,beq_eq_false_iff_ne.mpr q];trivial
structure pU(K:PySem.W.Frag)(mg:Str→Option Value)(x:Str)(CF:Addr):Prop where
 bound:mg x=some (.ref CF)
 sp:PySem.W.specialIn K (.ref CF) "__getattribute__"=some (some (.builtin "type.__getattribute__"))
 rd:PySem.W.readsIn K CF (.type "type")=true
 fc:PySem.W.findCls K (.ref CF) (.type "type") "__init__"=some (.val (.builtin "ValueError.__init__"))
def tXI(K:PySem.W.Frag)(t:TA):TE:=fun σ H Q=>t σ H fun vs H1=>∃a C CF dx rest,vs=.ref a::rest∧H1 a=some (MT a (.ref C) dx)∧XOwn K C CF∧rest.length≤sizeLine∧Q .non H1
theorem fP{C CF a:Addr}{dx:Option Addr}{rest:List Value}{Q:VK}(I:Inv X pins σ H s)(ea:H a=some (MT a (.ref C) dx))(O:XOwn X.K C CF)(hl:rest.length≤sizeLine)(q:Q .non H):
 wpAny (model X.prog X.w) X.A (call (.builtin "ValueError.__init__") (.ref a::rest)) (EP X pins σ Q) X.xe s:=by
 obtain⟨vs,sl,t1,e,e0,e1⟩:=U8 I ea
 obtain⟨N,nm,qn,bs,hd,sn,sub,ab,col,dd,k0,k1,k2,k3,k5,hC⟩:=O.at I.kIn
 obtain⟨hh,g,d,t,os⟩:=s
 have sz:0<vs.size:=(Array.getElem?_eq_some_iff.mp e0).1
 refine init_exc (O.tail I.kIn) hC e e0 hl fun h' t0 k he=>?_
 have J:Inv X pins σ (upd H a (MT a (.ref C) dx)) (⟨h',g,d,t,os⟩:Shared):=I.write (x:=a) (e:=a) (t':=t) (by rw[ea];trivial) (.inl rfl) k ⟨_,he⟩
  (Xv he (by rw[Array.getElem?_setIfInBounds_self_of_lt sz]) (by rw[Array.getElem?_setIfInBounds_ne (by decide)];exact e1))
 have eq:upd H a (MT a (.ref C) dx)=H:=by
  funext b
  by_cases hb:b=a
  ·subst hb;rw[BR,ea]
  ·rw[Bw hb]
 rw[eq] at J
 exact⟨.non,H,J,rfl,q⟩
theorem YZ{x:Str}{CF:Addr}{e:Expr}{es:List Expr}{t:TA}{p apos pos:Pos}{pl:Sem Bool}(N:pU X.K X.mg x CF)(hg:Gl X x)(ha:PA X (e::es) t)
 (hdb:(x==("__debug__":Str))=false:=by decide)(hst:starEach (e::es) X.env=(false,eval e X.env)::starEach es X.env:=by rfl)(hpl:(backTo pos (starEach es X.env)).any (·.1)=false:=by rfl)
 (ht:eval (.Call (.Attribute (.Name x p) "__init__" apos) (e::es) [] pos) X.env=(do
  let ov ←eval (.Name x p) X.env
  standAt apos.atName
  let (f,first) ←holding [ov] (getMethod ov "__init__" pl)
  callWith pos f first (backTo pos (starEach (e::es) X.env)) (backToKw pos (keywordEach [] X.env))):=by rfl):
 PE X (.Call (.Attribute (.Name x p) "__init__" apos) (e::es) [] pos) (tXI X.K t):=by
 intro pins s σ H Q I h
 refine PySem.W.methodCall_KW (pl:=pl) (GF I hg N.bound ?_ hdb) ht
 refine PySem.W.method_cls I.kIn N.sp (PySem.W.cls_value I.kIn N.rd N.fc rfl ?_)
 have I1:Inv X pins σ H { s with toks:=s.toks+1 }:=I.tok _
 refine callWith_builtin1 (thn (ha pos pins _ σ H _ I1 h) fun us s2 ⟨vs,H2,I2,r,a,C,CF,dx,rest,ev,ea,O,hl,q2⟩=>?_) hst hpl
 subst ev
 cases r with
 | cons r1 r2=>
  cases (show _=Value.ref a from r1)
  exact fP I2 ea O (by rw[←r2.length];exact hl) q2
def era(H:Hp)(a:Addr):Hp:=fun b=>if b=a then none else H b
theorem MJ{H:Hp}{a b:Addr}(h:b≠a):era H a b=H b:=by unfold era;rw[if_neg h]
theorem Y4{H:Hp}{a:Addr}:era H a a=none:=by unfold era;rw[if_pos rfl]
theorem jq{H:Hp}{a b:Addr}(h:H b=none):era H a b=none:=by
 unfold era;split
 ·rfl
 ·exact h
theorem f9{fs ex:List Addr}{H1 H2:Hp}{h1 h2:Heap}{a:Addr}{φ:Heap→Prop}(u:Un fs ex H1 H2 h1 h2)(ha:H2 a=some (.ext φ)):Un fs ex H1 (era H2 a) h1 h2 where
 keep:=u.keep
 slot:=u.slot
 free:=fun b o q n hx=>jq (u.free b o q n hx)
 there:=u.there
 tups:=fun b xs q=>by
  have z:=u.tups b xs q
  rw[MJ (Jj z ha (fun e=>nomatch e))];exact z
 frzs:=fun b o xs q=>by
  have z:=u.frzs b o xs q
  rw[MJ (Jj z ha (fun e=>nomatch e))];exact z
 tbls:=fun b ps q=>by
  obtain⟨more,z⟩:=u.tbls b ps q
  exact⟨more,by rw[MJ (Jj z ha (fun e=>nomatch e))];exact z⟩
theorem nP{P:Program}{w:World}{H:Hp}{h:Heap}{a:Addr}{φ:Heap→Prop}(ok:HOk P w H h)(ha:H a=some (.ext φ)):HOk P w (era H a) h:=fun b o q=>by
 by_cases hb:b=a
 ·subst hb;rw[Y4] at q;cases q
 ·rw[MJ hb] at q
  refine(ok b o q).stay (fun _ _ _ z=>z) (fun c z=>?_) fun c xs z=>?_
  ·rw[MJ (Jj z ha (fun e=>nomatch e))];exact z
  ·rw[MJ (Jj z ha (fun e=>nomatch e))];exact z
theorem Inv.era{a:Addr}{φ:Heap→Prop}(I:Inv X pins σ H s)(ha:H a=some (.ext φ)):Inv X pins σ (era H a) s:=by
 have e:s={ s with heap:=s.heap,toks:=s.toks }:=rfl
 rw[e]
 exact I.un (f9 Un.refl ha) (nP I.hok ha)
theorem fu{fs ex:List Addr}{H:Hp}{h h':Heap}{a:Addr}{o:HO}(k:∀b u,h.get? b=some u→h'.get? b=some u)(hnew:h.get? a=none)(hn:H a=none):Un fs ex H (upd H a o) h h' where
 keep:=fun b u q _ _ _=>k b u q
 slot:=fun b u q _ _ _=>⟨u.slots,k b u q⟩
 free:=fun b u q n _=>by rw[Bw (fun z=>by rw[z,hnew] at q;cases q)];exact n
 there:=fun b u q _=>⟨u,k b u q⟩
 tups:=fun b xs q=>by rw[Bw (By q hn)];exact q
 frzs:=fun b u xs q=>by rw[Bw (By q hn)];exact q
 tbls:=fun b ps q=>⟨#[],by rw[Bw (By q hn),q];simp⟩
theorem nO{P:Program}{w:World}{H:Hp}{h h':Heap}{a:Addr}{o:HO}(x:HOk P w H h)(k:∀b u,h.get? b=some u→h'.get? b=some u)(hn:H a=none)(new:Dp P w (upd H a o) h' a o):HOk P w (upd H a o) h':=fun b u e=>by
 by_cases hb:b=a
 ·subst hb;rw[BR] at e;cases e;exact new
 ·rw[Bw hb] at e
  exact(x b u e).stay (fun c v _ q=>k c v q) (fun c q=>by rw[Bw (By q hn)];exact q) fun c xs q=>by rw[Bw (By q hn)];exact q
end
section
variable{M:Model}{A:Around}{E:Value→Shared→Prop}
theorem du{env:Env}{s:Shared}{x:Sem Value}{Q:Flow→Shared→Prop}(hh:A.handled=none)
 (h:wpAny M A x (fun v s₁=>∃e nm q C N bs CF hdct sn sub ab col dd k0 k1 k2 k3 k5 newId dx vs sl,v=.ref e∧s₁.heap.get? C=some (excClassObj nm q C N bs (.ref CF::bmV) hdct sn sub ab col dd k0 k1 k2 k3 k5 newId)∧
  s₁.heap.get? e=some ⟨.ref C,dx,.fields vs,sl⟩∧vs[1]?=some .none∧E (.ref e) s₁) E s):
 wpAny M A (raiseStmt env (some x) none) Q E s:=by
 unfold raiseStmt
 refine wpAny_bind (wpAny_mono h (fun v s₁ h₁=>?_) fun _ _ x=>x)
 obtain⟨e,nm,q,C,N,bs,CF,hdct,sn,sub,ab,col,dd,k0,k1,k2,k3,k5,newId,dx,vs,sl,rfl,hC,he,h1,hE⟩:=h₁
 have hcB:(Value.ref C::.ref CF::bmV).contains (.type "BaseException")=true:=by
  rw[List.contains_cons,List.contains_cons];rfl
 obtain⟨hp,g,d,tk,os⟩:=s₁
 repeat (first | with_reducible refine wpAny_field he rfl h1 ?_ | with_reducible refine wpAny_loadPart_at he ?_ | with_reducible refine wpAny_loadPart_at hC ?_ | (with_reducible refine wpAny_isSubtype_exc hC ?_;rw[hcB]) | wp_step)
 exact wpAny_raiseNew_none hh hE
end
end L2
namespace L2
open PySem PySem.Spec PyProof.Rows
structure XMk(K:PySem.W.Frag)(mg:Str→Option Value)(x:Str)(C CF f:Addr):Prop extends XOwn K C CF where
 bound:mg x=some (.ref C)
 kp:PySem.W.keepIn K (.ref C)=true
 init:PySem.W.findIn K (.ref C) "__init__"=some (some (.ref f))
 fn:PySem.W.typeIn K (.ref f)=some (.type "function")
def WY(C:Addr)(sp:Sp)(EE:Value→Option Addr→St→Hp→Prop)(ta:TA):TS:=fun _ σ H=>ta σ H fun vs H1=>vs.length≤sizeLine∧∀e,H1 e=none→
 sp (.ref e::(vs++[])) (upd H1 e (MT e (.ref C) none)) (fun v H2=>v=.non∧∃dx,H2 e=some (MT e (.ref C) dx)∧EE (.ref C) dx σ (era H2 e)) E0
section
variable{X:Cx}{EE:Value→Option Addr→St→Hp→Prop}
theorem dz{k:Nat}{x:Str}{C CF f:Addr}{fd:FuncData}{ps:List Str}{sp:Sp}{e:Expr}{es:List Expr}{t:TA}{np cpos pos:Pos}(T:Thr X EE)(hc:X.calm=true)(O:XMk X.K X.mg x C CF f)(F:Bu X.prog X.w X.K X.mg X.base CX0 k f fd ps sp)(hr:Ea (k+1) X.A)(hb:Binds X.K fd ps [])
 (hg:Gl X x)(ha:PA X (e::es) t)
 (hdb:(x==("__debug__":Str))=false:=by decide)(he:starEach (e::es) X.env=(false,eval e X.env)::starEach es X.env:=by rfl)(hpl:(backTo cpos (starEach es X.env)).any (·.1)=false:=by rfl):
 PS X (.Raise (some (.Call (.Name x np) (e::es) [] cpos)) none pos) (WY C sp EE t):=by
 intro pins s σ H D I h
 rw[arm_exec_Raise]
 refine wpAny_bind (wpAny_standAt (du (I.ok.hd hc) ?_))
 refine wpAny_bind (wpAny_mono (Q:=fun v s₁=>∃e nm q C N bs CF hdct sn sub ab col dd k0 k1 k2 k3 k5 newId dx vs sl,v=.ref e∧s₁.heap.get? C=some (excClassObj nm q C N bs (.ref CF::bmV) hdct sn sub ab col dd k0 k1 k2 k3 k5 newId)∧
  s₁.heap.get? e=some ⟨.ref C,dx,.fields vs,sl⟩∧vs[1]?=some .none∧X.xe (.ref e) s₁) ?_ (fun v s₃ h₃=>wpAny_bind (wpAny_standAt (wpAny_pure h₃))) fun _ _ x=>x)
 refine wpAny_Call_Name_kw (GF I hg O.bound ?_ hdb)
 refine PySem.W.callWith_K (h₀:=X.base) I.ok.mod.kin O.kp (thn (ha cpos pins s σ H _ I h) fun us s1 ⟨vs,H1,I1,r,hz,q⟩=>⟨I1.kIn,?_⟩) he hpl
 obtain⟨N,nm,qn,bs,hd,sn,sub,ab,col,dd,k0,k1,k2,k3,k5,hC⟩:=O.toXOwn.at I1.kIn
 obtain⟨hp,g,d,tk,os⟩:=s1
 have hzu:us.length≤sizeLine:=by rw[←r.length];exact hz
 show wpAny _ _ (call (.ref C) us) _ _ _
 refine jc (f:=f) (O.toXOwn.tail I1.kIn) I1.kIn hC O.init O.fn hzu fun h' ea M=>?_
 obtain⟨ta,e1,_,_⟩:=M.there
 have hn:H1 ea=none:=by
  cases z:H1 ea with
  | none=>rfl
  | some o=>
   obtain⟨u,hu⟩:=(I1.hok ea o z).obj
   rw[M.new] at hu;cases hu
 have I2:Inv X pins σ (upd H1 ea (MT ea (.ref C) none)) (⟨h',g,d,tk,os⟩:Shared):=
  I1.un (t':=tk) (fu M.keeps M.new hn) (nO I1.hok M.keeps hn (Xv e1 rfl rfl))
 have hq:=q ea hn
 have r2:Vals (V.ref ea::(vs++[])) (Value.ref ea::us):=.cons rfl (by rw[List.append_nil];exact r)
 have hl:(Value.ref ea::us).length=ps.length:=by rw[←r2.length];exact F.len _ _ _ _ hq
 have hb':=hb ⟨h',g,d,tk,os⟩ (Value.ref ea::us) I2.kIn (by rw[List.append_nil];exact hl)
 rw[List.append_nil] at hb'
 refine codeAny_mono (F.run _ X.stack _ _ ⟨Value.ref ea::us,[]⟩ (Value.ref ea::us) _ _ E0 (hr.make C us []) (I2.env0.make C us []) hb' r2 hq) fun z s' hq'=>?_
 cases z with
 | error x=>exact hq'.elim
 | ok fl=>
  cases fl with
  | next=>exact hq'.elim
  | brk=>exact hq'.elim
  | cont=>exact hq'.elim
  | ret u=>
   obtain⟨v,H2,os2,bare,un,hok,rv,rfl,dx,hH,qe⟩:=hq'
   have I3:Inv X pins σ H2 s':=I2.call' (ch:=[]) os2 un hok bare (fun b z=>nomatch z)
   obtain⟨vs',sl',t1,g1,g2,g3⟩:=U8 I3 hH
   have I4:Inv X pins σ (era H2 ea) s':=I3.era hH
   have un2:Un (frs X.stack) [] H1 (era H2 ea) hp s'.heap:=f9 ((fu M.keeps M.new hn).trans un) hH
   obtain⟨N',nm',qn',bs',hd',sn',sub',ab',col',dd',k0',k1',k2',k3',k5',hC'⟩:=O.toXOwn.at I3.kIn
   refine⟨rv,ea,nm',qn',C,N',bs',CF,hd',sn',sub',ab',col',dd',k0',k1',k2',k3',k5',_,dx,vs',sl',rfl,hC',g1,g3,?_⟩
   exact T.made pins σ H1 ⟨hp,g,d,tk,os⟩ _ _ I1 (ZC (dx:=dx) I1 I4 un2 os2 ⟨vs',sl',g1,g3⟩ M.new Y4 qe)
end
end L2
namespace L2
open PySem PySem.Spec PyProof.Rows
def Ej(i:Int):Str:=Str.ofString (toString i)
def shI(is:List Int):Str:=tupleText (is.map Ej)
inductive kE(K:PySem.W.Frag)(H:Hp):V→Str→Prop
 | int {i:Int}:i.natAbs.log2<1920→kE K H (.int i) (Ej i)
 | str {z:Str}:z.length≤sizeLine→kE K H (.str z) z
 | tup {a:Addr} {is:List Int}:SqT K H a (is.map V.int)→(∀i∈is,i.natAbs.log2<1920)→(shI is).length≤sizeLine→kE K H (.ref a) (shI is)
theorem shownAll_ints:∀is:List Int,PyData.shownAll (is.map PyData.int)=is.map Ej
 | []=>by simp[PyData.shownAll]
 | i::is=>by simp only[List.map_cons,PyData.shownAll,PyData.shown,shownAll_ints is];rfl
theorem showableAll_ints:∀is:List Int,(∀i∈is,i.natAbs.log2<1920)→PyData.showableAll (is.map PyData.int)=true
 | [],_=>by simp[PyData.showableAll]
 | i::is,h=>by
  simp only[List.map_cons,PyData.showableAll,PyData.showable,showableAll_ints is fun j hj=>h j (List.mem_cons_of_mem _ hj),Bool.and_true,decide_eq_true_eq]
  exact h i (List.mem_cons_self ..)
theorem Kq:∀is:List Int,PyData.hasDictAll (is.map PyData.int)=false
 | []=>by simp[PyData.hasDictAll]
 | i::is=>by simp only[List.map_cons,PyData.hasDictAll,PyData.hasDict,Kq is,Bool.or_self]
theorem depthAll_ints:∀is:List Int,PyData.depthAll (is.map PyData.int)≤1
 | []=>by simp[PyData.depthAll]
 | i::is=>by
  have:=depthAll_ints is
  simp only[List.map_cons,PyData.depthAll,PyData.depth]
  omega
theorem readsAll_ints{h:Heap}:∀{is:List Int} {us:List Value},Vals (is.map V.int) us→ReadsAll h us (is.map PyData.int) []
 | [],_,.nil=>.nil
 | i::is,_,.cons r t=>by
  obtain⟨tk,rfl⟩:=(show ∃tk,_=Value.int i tk from r)
  exact .cons (as:=[]) (bs:=[]) (.int i tk) (readsAll_ints t)
section
variable{X:Cx}{pins:List (Addr×Obj)}{σ:St}{H:Hp}{s:Shared}
theorem sY{k:Nat}{x:V}{u:Value}{y:Str}{Q:VK}(hr:Ro k X.A)(I:Inv X pins σ H s)(r:RelV x u)(f:kE X.K H x y)(q:Q (.str y) H):wpAny (model X.prog X.w) X.A (formatField u Str.empty) (EP X pins σ Q) X.xe s:=by
 cases f with
 | int h=>
  obtain⟨t,rfl⟩:=(show ∃t,u=Value.int _ t from r)
  exact wpAny_formatField_int h ⟨.str (Ej _),H,I.tok _,⟨_,rfl⟩,q⟩
 | str h=>
  obtain⟨t,rfl⟩:=(show ∃t,u=Value.str y t from r)
  exact wpAny_formatField_str ⟨.str y,H,I,⟨_,rfl⟩,q⟩ ⟨.str y,H,I.tok _,⟨_,rfl⟩,q⟩ h
 | @tup a is hs hi hz=>
  cases (show u=Value.ref a from r)
  obtain⟨its,vr,⟨o,ho,hc,n,hd⟩,hl⟩:=I.tuple hs
  have rd:Reads s.heap (.ref a) (.tuple (is.map PyData.int)) []:=.tuple ho hc hd (readsAll_ints vr)
  have e:(PyData.tuple (is.map PyData.int)).shown=shI is:=by simp only[PyData.shown,shownAll_ints];rfl
  have hdp:(PyData.tuple (is.map PyData.int)).depth≤3:=by
   have:=depthAll_ints is
   simp only[PyData.depth]
   omega
  refine formatField_of_reads rd (by simp only[PyData.showable];exact showableAll_ints is hi) (PyData.noDict_hsm (by simp only[PyData.hasDict];exact Kq is)) hr.gd (by have:=hr.un;omega) (fun _ _ z=>z) (fun h' u tk hk=>?_) (by rw[e];exact hz)
  rw[e]
  exact⟨.str (shI is),H,I.kept hk,⟨_,rfl⟩,q⟩
end
def p8(K:PySem.W.Frag)(tv:TE):TE:=fun σ H Q=>tv σ H fun x H1=>∃y,kE K H1 x y∧Q (.str y) H1
abbrev TJ:=Str→St→Hp→VK→Prop
def PJ(X:Cx)(es:List Expr)(t:TJ):Prop:=∀(pins:List (Addr×Obj)) (s:Shared) (σ:St) (H:Hp) (out:Str) (Q:VK),Inv X pins σ H s→t out σ H Q→wpAny (model X.prog X.w) X.A (joinParts out (evalEach es X.env)) (EP X pins σ Q) X.xe s
def u5:TJ:=fun out _ H Q=>out.length≤sizeLine∧Q (.str out) H
def cU(te:TE)(t:TJ):TJ:=fun out σ H Q=>te σ H fun x H1=>∃y,x=.str y∧(out++y).length≤sizeLine∧t (out++y) σ H1 Q
def o8(t:TJ):TE:=fun σ H Q=>t Str.empty σ H Q
section
variable{X:Cx}{k:Nat}{e e₂:Expr}{es:List Expr}{te:TE}{t:TJ}{pos:Pos}
theorem KH(hr:Ro k X.A)(h:PE X e te):PE X (.FormattedValue e (-1) none pos) (p8 X.K te):=by
 intro pins s σ H Q I hw
 refine FormattedValue_plain (thn (h pins s σ H _ I hw) fun u s1 ⟨x,H1,I1,r,y,f,q⟩=>?_)
 exact sY hr I1 r f q
theorem Lq:PJ X [] u5:=fun pins s σ H out Q I h=>joinParts_nil ⟨.str out,H,I.tok _,⟨_,rfl⟩,h.2⟩ h.1
theorem DK(h1:PE X e te)(h2:PJ X es t):PJ X (e::es) (cU te t):=by
 intro pins s σ H out Q I h
 show wpAny _ _ (joinParts out (eval e X.env::evalEach es X.env)) _ _ _
 refine joinParts_cons (thn (h1 pins s σ H _ I h) fun u s1 ⟨x,H1,I1,r,y,ex,hz,q⟩=>?_)
 subst ex
 obtain⟨tk,rfl⟩:=(show ∃tk,u=Value.str y tk from r)
 exact⟨hz,h2 pins s1 σ H1 (out++y) Q I1 q⟩
theorem Iw(h:PJ X (e::e₂::es) t):PE X (.JoinedStr (e::e₂::es) pos) (o8 t):=fun pins s σ H Q I hw=>JoinedStr_many (h pins s σ H Str.empty Q I hw)
end
def oZ(K:PySem.W.Frag)(ta:TE)(f:Str):TE:=fun σ H Q=>ta σ H fun x H1=>∃a C d fs v,x=.ref a∧H1 a=some (ZQ a (.ref C) (some d))∧H1 d=some (.xd fs)∧aj K C∧PySem.W.hasDictIn K C=true∧PySem.W.findIn K (.ref C) f=some none∧fs.lookup f=some v∧Q v H1
section
variable{X:Cx}{e:Expr}{f:Str}{pos:Pos}{ta:TE}
theorem bw(he:PE X e ta)(hb:attributeBase e f X.env (eval e X.env)=eval e X.env):PE X (.Attribute e f pos) (oZ X.K ta f):=by
 intro pins s σ H Q I h
 refine dI hb (thn (he pins s σ H _ I h) fun u s1 ⟨x,H1,I1,rx,a,C,d,fs,v,ex,ea,ed,G,hh,ha,l,q⟩=>?_)
 subst ex
 obtain rfl:u=Value.ref a:=rx
 obtain⟨⟨vs,sl,ho⟩,_⟩:=(show Dp X.prog X.w H1 s1.heap a (ZQ a (.ref C) (some d)) from I1.hok a _ ea)
 obtain⟨mA,hn,r⟩:=I1.hok d _ ed
 obtain⟨u,hu,ru⟩:=Jp.some_of (v:=v) (o:=mA f) (by rw[←l];exact r f)
 obtain⟨od,hod,hl⟩:=V6 hn
 have J:PySem.W.InstAt s1.heap a ⟨.ref C,some d,.fields vs,sl⟩ C (some od):=⟨ho,rfl,rfl,hod⟩
 exact ZS I1.kIn J G (PySem.W.findObj_own hh ha rfl (by rw[hl,hu])) (V9 ru) ⟨v,H1,I1.tok _,ru,q⟩
end
end L2
namespace L2
open PySem PySem.Spec PyProof.Rows
structure kO(P:Program)(w:World)(K:PySem.W.Frag)(mg:Str→Option Value)(base:Heap)(k:Nat)(x:Str)(C CF:Addr)(ps:List Str)(sp:Sp):Prop where
 ex:∃(f:Addr) (fd:FuncData),Bu P w K mg base CX0 k f fd ps sp∧Binds K fd ps []∧XMk K mg x C CF f
section
variable{X:Cx}{EE:Value→Option Addr→St→Hp→Prop}
theorem V0{k:Nat}{x:Str}{C CF:Addr}{ps:List Str}{sp:Sp}{e:Expr}{es:List Expr}{t:TA}{np cpos pos:Pos}(T:Thr X EE)(hc:X.calm=true)(O:kO X.prog X.w X.K X.mg X.base k x C CF ps sp)(hr:Ea (k+1) X.A)
 (hg:Gl X x)(ha:PA X (e::es) t)
 (hdb:(x==("__debug__":Str))=false:=by decide)(he:starEach (e::es) X.env=(false,eval e X.env)::starEach es X.env:=by rfl)(hpl:(backTo cpos (starEach es X.env)).any (·.1)=false:=by rfl):
 PS X (.Raise (some (.Call (.Name x np) (e::es) [] cpos)) none pos) (WY C sp EE t):=by
 intro pins s σ H D I h
 obtain⟨f,fd,F,hb,M⟩:=O.ex
 exact dz T hc M F hr hb hg ha hdb he hpl pins s σ H D I h
structure Eb(P:Program)(w:World)(K:PySem.W.Frag)(mg:Str→Option Value)(base:Heap)(CX:CXT)(k:Nat)(C:Addr)(m:Str)(ps:List Str)(sp:Sp):Prop where
 ex:∃(f:Addr) (fd:FuncData),Bu P w K mg base CX k f fd ps sp∧Binds K fd ps []∧Meth K C m f
structure Eu(P:Program)(w:World)(K:PySem.W.Frag)(mg:Str→Option Value)(base:Heap)(CX:CXT)(k:Nat)(x:Str)(C:Addr)(ps:List Str)(sp:Sp):Prop where
 ex:∃(f:Addr) (fd:FuncData),Bu P w K mg base CX k f fd ps sp∧Binds K fd ps []∧Mk K C f∧mg x=some (.ref C)
variable{C:Addr}{m x:Str}{k:Nat}{ps:List Str}{sp:Sp}{o e:Expr}{es:List Expr}{ta:TE}{t:TA}{apos pos p:Pos}
theorem Fx{pl:Sem Bool}(O:Eb X.prog X.w X.K X.mg X.base CX0 k C m ps sp)(c:Cls X.K C)(hr:Ea k X.A)(he:PE X o ta)(ha:PA X (e::es) t)
 (hst:starEach (e::es) X.env=(false,eval e X.env)::starEach es X.env:=by rfl)(hpl:(backTo pos (starEach es X.env)).any (·.1)=false:=by rfl)
 (ht:eval (.Call (.Attribute o m apos) (e::es) [] pos) X.env=(do
  let ov ←eval o X.env
  standAt apos.atName
  let (f,first) ←holding [ov] (getMethod ov m pl)
  callWith pos f first (backTo pos (starEach (e::es) X.env)) (backToKw pos (keywordEach [] X.env))):=by rfl):
 PE X (.Call (.Attribute o m apos) (e::es) [] pos) (YD C m sp [] E0 ta t):=by
 obtain⟨f,fd,F,hb,M⟩:=O.ex
 exact mH (pl:=pl) he c M F hr hb .nil Rj ha hst hpl ht
theorem Dv{pl:Sem Bool}(O:Eb X.prog X.w X.K X.mg X.base CX0 k C m ps sp)(c:Cls X.K C)(hr:Ea k X.A)(he:PE X o ta)
 (ht:eval (.Call (.Attribute o m apos) [] [] pos) X.env=(do
  let ov ←eval o X.env
  standAt apos.atName
  let (f,first) ←holding [ov] (getMethod ov m pl)
  callWith pos f first (backTo pos (starEach [] X.env)) (backToKw pos (keywordEach [] X.env))):=by rfl):
 PE X (.Call (.Attribute o m apos) [] [] pos) (YD C m sp [] E0 ta YC):=by
 obtain⟨f,fd,F,hb,M⟩:=O.ex
 exact jG (pl:=pl) he c M F hr hb .nil Rj ht
theorem Ri(O:Eu X.prog X.w X.K X.mg X.base CX0 k x C ps sp)(hr:Ea (k+1) X.A)(hg:Gl X x)(ha:PA X (e::es) t)
 (hdb:(x==("__debug__":Str))=false:=by decide)(he:starEach (e::es) X.env=(false,eval e X.env)::starEach es X.env:=by rfl)(hpl:(backTo pos (starEach es X.env)).any (·.1)=false:=by rfl):
 PE X (.Call (.Name x p) (e::es) [] pos) (Vt C sp [] E0 t):=by
 obtain⟨f,fd,F,hb,M,hm⟩:=O.ex
 exact bx M F hr hg hm hb .nil Rj ha hdb he hpl
def gJ(C:Addr)(sp:Sp)(EE:Value→Option Addr→St→Hp→Prop)(t:TA):TE:=fun σ H Q=>t σ H fun vs H1=>∀x dx,H1 x=none→H1 dx=none→dx≠x→
 sp (.ref x::(vs++[])) (upd (upd H1 dx (.own x)) x (.ins C dx [])) (fun v H2=>v=.non∧Q (.ref x) H2) (fun c d H'=>EE c d σ H')
theorem lL{pins:List (Addr×Obj)}{σ:St}{H:Hp}{s:Shared}{Q:VK}{f:Addr}{fd:FuncData}{us:List Value}{vs:List V}(T:Thr X EE)(F:Bu X.prog X.w X.K X.mg X.base (CX1 X.prog X.w) k f fd ps sp)(hr:Ea k X.A)(hb:Binds X.K fd ps [])
 (I:Inv X pins σ H s)(r:Vals vs us)(h:sp (vs++[]) H Q (fun c d H'=>EE c d σ H')):wpAny (model X.prog X.w) X.A (call (.ref f) us) (EP X pins σ Q) X.xe s:=by
 have r2:Vals (vs++[]) (us++[]):=r.append .nil
 have hl:(us++[]).length=ps.length:=by rw[←r2.length];exact F.len _ _ _ _ h
 refine wpAny_call (codeAny_mono (F.run X.A X.stack s H ⟨us,[]⟩ (us++[]) (vs++[]) Q _ hr I.env0 (hb s us I.kIn hl) r2 h) fun r s' hq=>?_)
 cases r with
 | error e=>exact T.call pins σ H s e s' I hq
 | ok fl=>
  cases fl with
  | ret u=>exact I.after hq
  | next=>exact False.elim hq
  | brk=>exact False.elim hq
  | cont=>exact False.elim hq
theorem KD(T:Thr X EE)(O:Eu X.prog X.w X.K X.mg X.base (CX1 X.prog X.w) k x C ps sp)(hr:Ea (k+1) X.A)(hg:Gl X x)(ha:PA X (e::es) t)
 (hdb:(x==("__debug__":Str))=false:=by decide)(he:starEach (e::es) X.env=(false,eval e X.env)::starEach es X.env:=by rfl)(hpl:(backTo pos (starEach es X.env)).any (·.1)=false:=by rfl):
 PE X (.Call (.Name x p) (e::es) [] pos) (gJ C sp EE t):=by
 intro pins s0 σ H0 Q I0 h0
 obtain⟨f,fd,F,hb,M,hm⟩:=O.ex
 refine wpAny_Call_Name_kw (GF I0 hg hm ?_ hdb)
 refine PySem.W.callWith_K (h₀:=X.base) I0.ok.mod.kin M.kp (thn (ha pos pins s0 σ H0 _ I0 h0) fun us s ⟨vs,H,I,r,h⟩=>⟨I.kIn,?_⟩) he hpl
 have hq:=h (s.heap.objs.size+1) s.heap.objs.size (I.hok.fresh (Nat.le_succ _)) (I.hok.fresh (Nat.le_refl _)) (Nat.ne_of_lt (Nat.lt_succ_self _))
 have I2:=Inv.made (C:=C) I
 have r2:Vals (V.ref (s.heap.objs.size+1)::(vs++[])) (Value.ref (s.heap.objs.size+1)::(us++[])):=.cons rfl (r.append .nil)
 have hl:(Value.ref (s.heap.objs.size+1)::us++[]).length=ps.length:=by
  have e:=r2.length
  rw[F.len _ _ _ _ hq] at e
  exact e.symm
 have hb2:BindsTo _ fd ⟨Value.ref (s.heap.objs.size+1)::us,[]⟩ (ps.zip (Value.ref (s.heap.objs.size+1)::(us++[]))):=hb _ (Value.ref (s.heap.objs.size+1)::us) I2.kIn hl
 show wpAny _ _ (call (.ref C) us) _ _ _
 refine wpAny_call (Yv (f:=f) I.kIn M.makes M.init (beq_iff_eq.mp M.fn) (codeAny_mono (F.run _ X.stack _ _ ⟨Value.ref (s.heap.objs.size+1)::us,[]⟩ (Value.ref (s.heap.objs.size+1)::(us++[])) _ _ _ (hr.make C us [])
  (I2.env0.make C us []) hb2 r2 hq) fun r s' hq'=>?_))
 cases r with
 | error e=>exact T.call pins σ _ _ e s' I2 hq'
 | ok fl=>
  cases fl with
  | ret u=>
   obtain⟨v,H',I3,rv,ev,q3⟩:=I2.after hq'
   subst ev
   exact⟨rv,⟨V.ref (s.heap.objs.size+1),H',I3,rfl,q3⟩⟩
  | next=>exact False.elim hq'
  | brk=>exact False.elim hq'
  | cont=>exact False.elim hq'
end
end L2
namespace L2
open PySem PySem.Spec PyProof.Rows
theorem Yy{i:Int}(h:i.natAbs.log2<1920):(Ej i).length≤1921:=by
 have e:=int_text_length_le (k:=1920) (by decide) h
 unfold Ej
 rw[PySem.ofString_length];omega
theorem fits{s:Str}{n:Nat}(h:s.length≤n)(hn:n≤100000):s.length≤sizeLine:=Nat.le_trans h (Nat.le_trans hn (by decide))
theorem Mp{t:TJ}{σ:St}{H:Hp}{Q:VK}(h:t Str.empty σ H Q):o8 t σ H Q:=h
theorem Iv{out:Str}{σ:St}{H:Hp}{Q:VK}(h:out.length≤sizeLine)(q:Q (.str out) H):u5 out σ H Q:=⟨h,q⟩
theorem Ia{x:Str}{t:TJ}{out:Str}{σ:St}{H:Hp}{Q:VK}(n:Nat)(hn:out.length≤n)(hz:n+x.length≤100000)(h:(out++x).length≤n+x.length→t (out++x) σ H Q):cU (tC (.str x)) t out σ H Q:=by
 have e:(out++x).length≤n+x.length:=by rw[strLen_append];omega
 exact⟨x,rfl,fits e hz,h e⟩
theorem Ua{K:PySem.W.Frag}{j:Nat}{i:Int}{t:TJ}{out:Str}{σ:St}{H:Hp}{Q:VK}(n:Nat)(hn:out.length≤n)(hz:n+1921≤100000)(hv:σ[j]?=some (some (.int i)))(hi:i.natAbs.log2<1920)(h:(out++Ej i).length≤n+1921→t (out++Ej i) σ H Q):
 cU (p8 K (Zf j)) t out σ H Q:=by
 have e:(out++Ej i).length≤n+1921:=by have:=Yy hi;rw[strLen_append];omega
 exact⟨.int i,hv,Ej i,.int hi,Ej i,rfl,fits e hz,h e⟩
theorem pH{K:PySem.W.Frag}{j:Nat}{z:Str}{t:TJ}{out:Str}{σ:St}{H:Hp}{Q:VK}(n m:Nat)(hn:out.length≤n)(hm:z.length≤m)(hz:n+m≤100000)(hv:σ[j]?=some (some (.str z)))(h:(out++z).length≤n+m→t (out++z) σ H Q):
 cU (p8 K (Zf j)) t out σ H Q:=by
 have e:(out++z).length≤n+m:=by rw[strLen_append];omega
 exact⟨.str z,hv,z,.str (fits hm (by omega)),z,rfl,fits e hz,h e⟩
theorem iD{K:PySem.W.Frag}{t:TA}{σ:St}{H:Hp}{Q:VK}(h:t σ H fun vs H1=>∃a C CF dx rest,vs=.ref a::rest∧H1 a=some (MT a (.ref C) dx)∧XOwn K C CF∧rest.length≤sizeLine∧Q .non H1):tXI K t σ H Q:=h
theorem qL{K:PySem.W.Frag}{ta tv:TE}{f:Str}{D:Ends}{σ:St}{H:Hp}(h:tv σ H fun y H1=>ta σ H1 fun x H2=>∃a C CF,x=.ref a∧H2 a=some (MT a (.ref C) none)∧XOwn K C CF∧PySem.W.findIn K (.ref C) f=some none∧
 ∀d,H2 d=none→D.nx σ (upd (upd H2 d (.xd [(f,y)])) a (MT a (.ref C) (some d)))):uR K ta tv f D σ H:=h
theorem bR{K:PySem.W.Frag}{ta:TE}{f:Str}{σ:St}{H:Hp}{Q:VK}(h:ta σ H fun x H1=>∃a C d fs v,x=.ref a∧H1 a=some (ZQ a (.ref C) (some d))∧H1 d=some (.xd fs)∧aj K C∧PySem.W.hasDictIn K C=true∧PySem.W.findIn K (.ref C) f=some none∧fs.lookup f=some v∧Q v H1):oZ K ta f σ H Q:=h
def Jv(C:Addr)(f:Str)(ok:V→Prop):Sp:=fun vs H Q _=>∃(e:Addr) (v:V),vs=[.ref e,v]∧ok v∧H e=some (MT e (.ref C) none)∧∀d,H d=none→Q .non (upd (upd H d (.xd [(f,v)])) e (MT e (.ref C) (some d)))
theorem Vx{C:Addr}{f:Str}{ok:V→Prop}{EE:XE}{ta:TA}{D:Ends}{σ:St}{H:Hp}{v:V}(hv:∀Q:List V→Hp→Prop,Q [v] H→ta σ H Q)(hok:ok v)(h:∀d H',Bo H H'→H' d=some (.xd [(f,v)])→EE (.ref C) (some d) σ H'):WY C (Jv C f ok) EE ta D σ H:=by
 refine hv _ ⟨(by show 1≤sizeLine;decide),fun e he=>⟨e,v,rfl,hok,BR,fun d hd=>⟨rfl,some d,BR,?_⟩⟩⟩
 have de:d≠e:=fun z=>by subst z;rw[BR] at hd;cases hd
 have hd0:H d=none:=by rw[Bw de] at hd;exact hd
 refine h d _ (fun b u hb=>?_) ?_
 ·rw[MJ (By hb he),Bw (By hb he),Bw (By hb hd0),Bw (By hb he)];exact hb
 ·rw[MJ de,Bw de,BR]
end L2
namespace L2
open PySem PySem.Spec PyProof.Rows
section
variable{X:Cx}
theorem Hn:Thr X (fun _ _ _ _=>False) where
 call:=fun _ _ _ _ _ _ _ h=>by
  obtain⟨_,_,_,_,_,_,_,_,_,_,_,_,_,_,q⟩:=h
  exact q.elim
 made:=fun _ _ _ _ _ _ _ h=>by
  obtain⟨_,_,_,_,_,_,_,_,_,_,_,_,_,_,q⟩:=h
  exact q.elim
theorem qZ{K:PySem.W.Frag}{a b:Addr}{xs ys:List V}{H:Hp}{Q:VK}(ha:SqT K H a xs)(hb:SqT K H b ys)(fx:xs.all Ii=true)(fy:ys.all Ii=true)(q:Q (.bl (Y5 xs ys)) H):um K (.ref a) (.ref b) H Q:=⟨a,b,xs,ys,rfl,rfl,ha,hb,fx,fy,q⟩
theorem qQ{i j:Nat}{ta:TA}{D:Ends}{σ:St}{H:Hp}(h:ta σ H fun vs H1=>∃v w,vs=[v,w]∧D.nx ((σ.set i (some v)).set j (some w)) H1):uF i j ta D σ H:=h
theorem N8{t:TT}{ta tb:TE}{σ:St}{H:Hp}{Q:VK}(h:t σ H fun c H1=>if c=true then ta σ H1 Q else tb σ H1 Q):tIf t ta tb σ H Q:=h
def vZ(K:PySem.W.Frag):List V→Hp→VK→Prop:=fun xs H Q=>∃(p:Addr) (ns:List Int),xs=[.ref p]∧SqL K H p (ns.map V.int)∧Q (.int ns.sum) H
theorem VF(hc:X.calm=true):Gq X (.builtin "sum") (vZ X.K):=by
 intro pins s σ H xs us Q I r h
 obtain⟨p,ns,rfl,hq,q⟩:=h
 obtain⟨u,rfl,ru⟩:=vals1 r
 cases (show u=Value.ref p from ru)
 obtain⟨its,rv,pl,_⟩:=I.list hq
 have hi:=intsAre_of rv
 obtain⟨xs,hx⟩:=hi.allInts.items
 have hl':s.heap.IsList p (intItems xs):=hx ▸ pl.isList
 refine sum_intListG (I.ok.hd hc) hl' fun h' tk t' hk=>?_
 have e1:ns=xs.toList.map (·.1):=by
  rw[←nums_intItems,←hx]
  exact(show numsOf its.toArray.toList=ns from hi.numsOf).symm
 have e2:preSum (numAt xs) xs.size=ns.sum:=by
  rw[preSum_eq,List.take_of_length_le (by simp),e1]
 rw[e2]
 exact⟨.int ns.sum,H,I.kept hk,⟨_,rfl⟩,q⟩
def ug(K:PySem.W.Frag):List V→Hp→VK→Prop:=fun xs H Q=>∃(p:Addr) (ns:List Int),xs=[.ref p]∧SqL K H p (ns.map V.int)∧ns≠[]∧∀m,m∈ns→(∀a∈ns,m≤a)→Q (.int m) H
def uh(K:PySem.W.Frag):List V→Hp→VK→Prop:=fun xs H Q=>∃(p:Addr) (ns:List Int),xs=[.ref p]∧SqL K H p (ns.map V.int)∧ns≠[]∧∀m,m∈ns→(∀a∈ns,a≤m)→Q (.int m) H
theorem fM(hc:X.calm=true):Gq X (.builtin "min") (ug X.K):=by
 intro pins s σ H xs us Q I r h
 obtain⟨p,ns,rfl,hq,hne,q⟩:=h
 obtain⟨u,rfl,ru⟩:=vals1 r
 cases (show u=Value.ref p from ru)
 obtain⟨its,rv,pl,_⟩:=I.list hq
 have hi:=intsAre_of rv
 obtain⟨xs,e⟩:=hi.allInts.items
 have hns:ns=xs.toList.map (·.1):=by
  rw[←nums_intItems,←e]
  exact(show numsOf its.toArray.toList=ns from hi.numsOf).symm
 have hsz:0<xs.size:=by
  have h3:=List.length_pos_iff.mpr hne;rw[hns,List.length_map,Array.length_toList] at h3;exact h3
 have hl':s.heap.IsList p (intItems xs):=e ▸ pl.isList
 refine min_intList (I.ok.hd hc) hl' hsz fun v h' tk hv hk=>?_
 obtain⟨t,rfl⟩:=intItems_at hv
 obtain⟨h1,h2⟩:=argBest_lt (numAt xs) (xs.size-1)
 refine⟨.int _,H,I.kept hk,⟨_,rfl⟩,q _ ?_ fun a ha=>?_⟩
 ·rw[hns,numAt_eq];exact getD_mem (by rw[List.length_map,Array.length_toList];omega)
 ·rw[hns] at ha
  obtain⟨j,hj,rfl⟩:=mem_getD ha
  rw[List.length_map,Array.length_toList] at hj
  rw[←numAt_eq];exact h2 j (by omega)
theorem fO(hc:X.calm=true):Gq X (.builtin "max") (uh X.K):=by
 intro pins s σ H xs us Q I r h
 obtain⟨p,ns,rfl,hq,hne,q⟩:=h
 obtain⟨u,rfl,ru⟩:=vals1 r
 cases (show u=Value.ref p from ru)
 obtain⟨its,rv,pl,_⟩:=I.list hq
 have hi:=intsAre_of rv
 obtain⟨xs,e⟩:=hi.allInts.items
 have hns:ns=xs.toList.map (·.1):=by
  rw[←nums_intItems,←e]
  exact(show numsOf its.toArray.toList=ns from hi.numsOf).symm
 have hsz:0<xs.size:=by
  have h3:=List.length_pos_iff.mpr hne;rw[hns,List.length_map,Array.length_toList] at h3;exact h3
 have hl':s.heap.IsList p (intItems xs):=e ▸ pl.isList
 refine max_intList (I.ok.hd hc) hl' hsz fun v h' tk hv hk=>?_
 obtain⟨t,rfl⟩:=intItems_at hv
 obtain⟨h1,h2⟩:=argBest_gt (numAt xs) (xs.size-1)
 refine⟨.int _,H,I.kept hk,⟨_,rfl⟩,q _ ?_ fun a ha=>?_⟩
 ·rw[hns,numAt_eq];exact getD_mem (by rw[List.length_map,Array.length_toList];omega)
 ·rw[hns] at ha
  obtain⟨j,hj,rfl⟩:=mem_getD ha
  rw[List.length_map,Array.length_toList] at hj
  rw[←numAt_eq];exact h2 j (by omega)
end
section
variable{X:Cx}{M:List Str}{x:Str}{scope:Scope}{cl:List (Str×Addr)}{C:Addr}{s₀:Shared}{H₀:Hp}{fp:List Addr}
theorem eY:IxR (FJ X M x scope cl C s₀ H₀ fp) (qw X.K):=JB
theorem Ig:IxR (FJ X M x scope cl C s₀ H₀ fp) (qu X.K):=Bm
end
section
variable{X:Cx}{tg:Expr}
end
end L2
namespace L2
open PySem PySem.Spec PyProof.Rows
section
variable{X:Cx}
def pK:V→List V→Hp→VK→Prop:=fun x vs H Q=>∃n:Int,x=.int n∧vs=[]∧Q (.int ((Builtin.Int.intBits n:Nat):Int)) H
theorem mz:MtR X "int.bit_length" pK:=by
 intro pins s σ H x vs v us Q I rx rv h
 obtain⟨n,rfl,rfl,q⟩:=h
 obtain⟨t,rfl⟩:=rx
 cases rv.zero
 exact call_int_bit_length ⟨.int _,H,I.tok _,⟨_,rfl⟩,q⟩
end
theorem iV{K:PySem.W.Frag}{n:Int}{H:Hp}{Q:VK}(h:Q (.int ((Builtin.Int.intBits n:Nat):Int)) H):tyV K "int" (.int n) H∧pK (.int n) [] H Q:=⟨rfl,n,rfl,rfl,h⟩
theorem qd{K:PySem.W.Frag}{T:String}{r:V→List V→Hp→VK→Prop}{to:TE}{σ:St}{H:Hp}{Q:VK}(h:to σ H fun x H1=>tyV K T x H1∧r x [] H1 Q):uM K T r to σ H Q:=h
theorem bc{K:PySem.W.Frag}{T:String}{r:V→List V→Hp→VK→Prop}{to:TE}{t:TA}{σ:St}{H:Hp}{Q:VK}(h:to σ H fun x H1=>tyV K T x H1∧t σ H1 fun xs H2=>r x xs H2 Q):tBM K T r to t σ H Q:=h
theorem XC{K:PySem.W.Frag}{i:Nat}{t:TA}{σ:St}{H:Hp}{Q:VK}{l:Addr}{xs:List V}(e:σ[i]?=some (some (.ref l)))(h:H l=some (.lst xs))
 (g:t σ H fun ys H2=>XD (.ref l) ys H2 Q):tBM K "list" XD (Zf i) t σ H Q:=⟨_,e,.inl ⟨rfl,_,SqL.of h⟩,g⟩
theorem Yz{b:Nat}(h:b≠0):Builtin.Int.intBits (b:Int)=b.log2+1:=by
 unfold Builtin.Int.intBits
 rw[if_neg (by simp;omega),Int.natAbs_natCast]
theorem lV{to ti:TE}{t:oK}{v:V}{σ:St}{H:Hp}{Q:St→Hp→Prop}(h:to σ H fun o H1=>ti σ H1 fun i H2=>t o i v H2 fun H3=>Q σ H3):vB to ti t v σ H Q:=h
theorem nM{m k:Nat}(h:k<m):ixN m (k:Int)=some k:=by
 unfold ixN
 rw[if_pos (by omega),if_pos (by omega),Int.toNat_natCast]
theorem bT{p:Addr}{xs:List V}{k:Nat}{v:V}{H:Hp}{Q:Hp→Prop}(h:H p=some (.lst xs))(hk:k<xs.length)(q:Q (upd H p (.lst (xs.set k v)))):pJ (.ref p) (.int (k:Int)) v H Q:=
 ⟨p,xs,k,k,rfl,rfl,h,nM hk,q⟩
theorem Z3{l:Addr}{k:Int}{xs:List V}{H:Hp}{Q:VK}(h:H l=some (.lst xs))(h0:0≤k)(h1:k<2^60)(hz:xs.length*k.toNat≤sizeLine)(q:∀p,H p=none→Q (.ref p) (upd H p (.lst (List.replicate k.toNat xs).flatten))):uf (.ref l) (.int k) H Q:=
 ⟨l,k,xs,rfl,rfl,h,by omega,by omega,hz,q⟩
theorem U5{lo c:Int}{n:Nat}{g:TG}{tb:TS}{D:Ends}{σ:St}{H:Hp}(Pv:Nat→St→Hp→Prop)(h0:Pv 0 σ H)
 (hs:∀i σ H,i<n→Pv i σ H→g (.int (lo+i*c)) σ H fun σ2 H2=>tb { D with nx:=Pv (i+1),ct:=Pv (i+1),bk:=D.nx } σ2 H2)(hd:∀σ H,Pv n σ H→D.nx σ H):
 ∃W:Nat→Nat→St→Hp→Prop,(∃m,W 0 m σ H)∧∀i m σ H,W i m σ H→
  ((fV lo c n).stop i H∧D.nx σ H)∨((fV lo c n).go i H∧∃N:St→Hp→Prop,(∀σ' H',N σ' H'→∃m',m'<m∧W (i+1) m' σ' H')∧∀x H',(fV lo c n).yld i H x H'→g x σ H' fun σ2 H2=>tb { D with nx:=N,ct:=N,bk:=D.nx } σ2 H2):=by
 refine⟨fun i m σ H=>m=n-i∧i≤n∧Pv i σ H,⟨n,by simp,Nat.zero_le _,h0⟩,?_⟩
 rintro i m σ H ⟨rfl,hi,p⟩
 by_cases hlt:i<n
 ·refine .inr ⟨hlt,Pv (i+1),fun σ' H' p'=>⟨n-(i+1),by omega,rfl,hlt,p'⟩,fun x H' y=>?_⟩
  obtain⟨e,y⟩:=y
  subst e y
  exact hs i σ _ hlt p
 ·have e:i=n:=by omega
  subst e
  exact .inl ⟨Nat.le_refl _,hd σ H p⟩
theorem Pq{i j c:Int}(c0:0<c):Builtin.Range.rangeSize i j c=if i<j then (j-i-1)/c+1 else 0:=by
 unfold Builtin.Range.rangeSize
 rw[if_pos c0]
def oh(ta:TE):TT:=fun σ H Q=>ta σ H fun x H'=>∃i:Int,x=.int i∧Q (i != 0) H'
theorem qN{ta:TE}{σ:St}{H:Hp}{Q:Bool→Hp→Prop}(h:ta σ H fun x H'=>∃i:Int,x=.int i∧Q (i != 0) H'):oh ta σ H Q:=h
theorem qz{X:Cx}{a:Expr}{ta:TE}(ha:PE X a ta)(he:∀whole,isTrue a X.env whole=(do let v ←whole;standAt a.pos;holding [v] (truthy v))):PT X a (oh ta):=by
 intro pins s σ H Q I h
 refine isTrue_plain (thn (ha pins s σ H _ I h) fun v s1 ⟨x,H1,I1,r1,q1⟩=>?_) (he _)
 obtain⟨i,rfl,q⟩:=q1
 exact pq pins s1 σ H1 _ v Q I1 r1 ⟨_,rfl,q⟩
section
variable{X:Cx}{M:List Str}{x:Str}{scope:Scope}{cl:List (Str×Addr)}{C:Addr}{s₀:Shared}{H₀:Hp}{fp:List Addr}
theorem VG:Gq (FJ X M x scope cl C s₀ H₀ fp) (.builtin "len") (fun xs H Q=>∃p ys,xs=[.ref p]∧(SqL X.K H p ys∨SqT X.K H p ys)∧Q (.int ys.length) H):=Dl
end
theorem tQ{xs:List Int}{k:Nat}{x:Int}(h:xs[k]?=some x):(xs.map V.int)[k]?=some (V.int x):=by rw[List.getElem?_map,h];rfl
end L2
namespace L2
open PySem PySem.Spec PyProof.Rows
theorem iI{r:V→Option Int→Option Int→Hp→VK→Prop}{te:TE}{tl th:TO}{σ:St}{H:Hp}{Q:VK}(h:te σ H fun x H1=>tl σ H1 fun l H2=>th σ H2 fun u H3=>r x l u H3 Q):tSl r te tl th σ H Q:=h
theorem lQ{t:TE}{σ:St}{H:Hp}{Q:Option Int→Hp→Prop}(h:t σ H fun x H1=>∃i,x=.int i∧Q (some i) H1):o6 t σ H Q:=h
theorem qY{i:Int}{P:Int→Prop}(h:P i):∃j,V.int i=.int j∧P j:=⟨i,rfl,h⟩
theorem dj{σ:St}{H:Hp}{Q:Option Int→Hp→Prop}(h:Q none H):bD σ H Q:=h
end L2
namespace L2
open PySem PySem.Spec PyProof.Rows
section
variable{X:Cx}
def tLR(ta:TA):TE:=fun σ H Q=>ta σ H fun vs H1=>∃(i j c:Int) (n:Nat),(vs=[.int i,.int j,.int c]∨(vs=[.int i,.int j]∧c=1))∧0<c∧c<1073741824∧Builtin.Range.small i j c=true∧Builtin.Range.rangeSize i j c=(n:Int)∧n≤1000000∧
 ∀l,H1 l=none→Q (.ref l) (upd H1 l (.lst ((List.range n).map fun(k:Nat)=>V.int (i+(k:Int)*c))))
theorem Ks{lo c:Int}:∀(acc:List Value) (k:Nat),(∀(j:Nat) (v:Value),acc[j]?=some v→∃t,v=.int (lo+((k+j:Nat):Int)*c) t)→Vals ((List.range' k acc.length).map fun(i:Nat)=>V.int (lo+(i:Int)*c)) acc
 | [],k,_=>.nil
 | v::acc,k,h=>by
  rw[List.length_cons,List.range'_succ,List.map_cons]
  refine .cons ?_ (Ks acc (k+1) fun j u hu=>?_)
  ·obtain⟨t,ht⟩:=h 0 v (by simp)
   exact⟨t,by rw[ht];simp⟩
  ·obtain⟨t,ht⟩:=h (j+1) u (by simpa using hu)
   exact⟨t,by rw[ht,show k+(j+1)=k+1+j by omega]⟩
theorem HD{pins:List (Addr×Obj)}{σ:St}{H:Hp}{s:Shared}{r:Addr}{i j c:Int}{t u v:Tok}{n:Nat}{Q:VK}(hc:X.calm=true)(I:Inv X pins σ H s)(hr:IsRange s.heap r i j c t u v)(sm:Builtin.Range.small i j c=true)(hn:Builtin.Range.rangeSize i j c=(n:Int))(hz:n≤1000000)
 (q:∀l,H l=none→Q (.ref l) (upd H l (.lst ((List.range n).map fun(k:Nat)=>V.int (i+(k:Int)*c))))):wpAny (model X.prog X.w) X.A (call (.type "list") [.ref r]) (EP X pins σ Q) X.xe s:=by
 refine call_list_range (I.ok.hd hc) hr sm hn (by omega) fun h' tk acc' c' hk hS' hacc=>?_
 have ha:acc'.toList.length=n:=by simpa using hacc.1
 refine⟨.ref _,_,I.laid (a:=s.heap.objs.size) (o:=.lst ((List.range n).map fun(k:Nat)=>V.int (i+(k:Int)*c))) hk (Nat.le_refl _) ⟨?_,acc'.toList,c',?_,by simpa using hS'⟩,rfl,q _ I.fresh⟩
 ·rw[List.length_map,List.length_range,sizeLine_eq]
  omega
 ·have:=Ks (lo:=i) (c:=c) acc'.toList 0 fun j v hv=>by rw[Nat.zero_add];exact hacc.2 j v (by simpa using hv)
  rw[ha,←List.range_eq_range'] at this
  exact this
theorem Z7{a b d:Expr}{ta:TA}{p p2 pos pos2:Pos}(hc:X.calm=true)(hgl:Gl X "list")(hml:X.mg "list"=none)(hgr:Gl X "range")(hmr:X.mg "range"=none)(ha:PA X [a,b,d] ta)
 (hs:starEach [a,b,d] X.env=(false,eval a X.env)::starEach [b,d] X.env:=by rfl)(hpl:(backTo pos2 (starEach [b,d] X.env)).any (·.1)=false:=by rfl)
 (hs1:starEach [.Call (.Name "range" p2) [a,b,d] [] pos2] X.env=(false,eval (.Call (.Name "range" p2) [a,b,d] [] pos2) X.env)::starEach [] X.env:=by rfl):
 PE X (.Call (.Name "list" p) [.Call (.Name "range" p2) [a,b,d] [] pos2] [] pos) (tLR ta):=by
 intro pins s σ H Q I h
 refine wpAny_Call_Name_kw (KQ I hgl hml boot_list ?_ (by decide) (by decide))
 refine PyProof.Rows.callWith_type1 ?_ hs1 rfl
 rw[hs1]
 show wpAny _ _ (spliced ((false,eval _ X.env)::backTo pos (starEach [] X.env))) _ _ s
 refine Calls.spliced_cons ?_
 refine Call_ (KQ I hgr hmr boot_range (PyProof.Rows.callWith_type1 (thn (ha pos2 pins s σ H _ I h) fun us s1 ⟨vs,H1,I1,r1,q1⟩=>?_) hs hpl))
 obtain⟨i,j,c,n,e,c0,c1,sm,hn,hz,q⟩:=q1
 rcases e with e | ⟨e,rfl⟩
 ·subst e
  cases r1 with
  | cons r rr=>
   cases rr with
   | cons r' rr=>
    cases rr with
    | cons r'' rr=>
     cases rr
     obtain⟨t,rfl⟩:=r
     obtain⟨t',rfl⟩:=r'
     obtain⟨t'',rfl⟩:=r''
     refine PySem.call_range_3 (by omega) ?_ (Or.inl (PyProof.noPylong_small (by omega)))
     refine Calls.spliced_nil ?_
     have I2:Inv X pins σ H1 { s1 with heap:=s1.heap.push { cls:=.type "range",data:=.fields #[.int i t,.int j t',.int c t''] },toks:=s1.toks }:=I1.kept fun b o e=>Heap.get?_push_of_some _ e
     exact HD hc I2 (IsRange.new ..) sm hn hz q
 ·subst e
  cases r1 with
  | cons r rr=>
   cases rr with
   | cons r' rr=>
    cases rr
    obtain⟨t,rfl⟩:=r
    obtain⟨t',rfl⟩:=r'
    refine call_range_2 ?_
    refine Calls.spliced_nil ?_
    have I2:Inv X pins σ H1 { s1 with heap:=s1.heap.push { cls:=.type "range",data:=.fields #[.int i t,.int j t',.int 1 s1.toks] },toks:=s1.toks+1 }:=I1.kept fun b o e=>Heap.get?_push_of_some _ e
    exact HD hc I2 (IsRange.new ..) sm hn hz q
theorem Z8{a b:Expr}{ta:TA}{p p2 pos pos2:Pos}(hc:X.calm=true)(hgl:Gl X "list")(hml:X.mg "list"=none)(hgr:Gl X "range")(hmr:X.mg "range"=none)(ha:PA X [a,b] ta)
 (hs:starEach [a,b] X.env=(false,eval a X.env)::starEach [b] X.env:=by rfl)(hpl:(backTo pos2 (starEach [b] X.env)).any (·.1)=false:=by rfl)
 (hs1:starEach [.Call (.Name "range" p2) [a,b] [] pos2] X.env=(false,eval (.Call (.Name "range" p2) [a,b] [] pos2) X.env)::starEach [] X.env:=by rfl):
 PE X (.Call (.Name "list" p) [.Call (.Name "range" p2) [a,b] [] pos2] [] pos) (tLR ta):=by
 intro pins s σ H Q I h
 refine wpAny_Call_Name_kw (KQ I hgl hml boot_list ?_ (by decide) (by decide))
 refine PyProof.Rows.callWith_type1 ?_ hs1 rfl
 rw[hs1]
 show wpAny _ _ (spliced ((false,eval _ X.env)::backTo pos (starEach [] X.env))) _ _ s
 refine Calls.spliced_cons ?_
 refine Call_ (KQ I hgr hmr boot_range (PyProof.Rows.callWith_type1 (thn (ha pos2 pins s σ H _ I h) fun us s1 ⟨vs,H1,I1,r1,q1⟩=>?_) hs hpl))
 obtain⟨i,j,c,n,e,c0,c1,sm,hn,hz,q⟩:=q1
 rcases e with e | ⟨e,rfl⟩
 ·subst e
  cases r1 with
  | cons r rr=>
   cases rr with
   | cons r' rr=>
    cases rr with
    | cons r'' rr=>
     cases rr
     obtain⟨t,rfl⟩:=r
     obtain⟨t',rfl⟩:=r'
     obtain⟨t'',rfl⟩:=r''
     refine PySem.call_range_3 (by omega) ?_ (Or.inl (PyProof.noPylong_small (by omega)))
     refine Calls.spliced_nil ?_
     have I2:Inv X pins σ H1 { s1 with heap:=s1.heap.push { cls:=.type "range",data:=.fields #[.int i t,.int j t',.int c t''] },toks:=s1.toks }:=I1.kept fun b o e=>Heap.get?_push_of_some _ e
     exact HD hc I2 (IsRange.new ..) sm hn hz q
 ·subst e
  cases r1 with
  | cons r rr=>
   cases rr with
   | cons r' rr=>
    cases rr
    obtain⟨t,rfl⟩:=r
    obtain⟨t',rfl⟩:=r'
    refine call_range_2 ?_
    refine Calls.spliced_nil ?_
    have I2:Inv X pins σ H1 { s1 with heap:=s1.heap.push { cls:=.type "range",data:=.fields #[.int i t,.int j t',.int 1 s1.toks] },toks:=s1.toks+1 }:=I1.kept fun b o e=>Heap.get?_push_of_some _ e
    exact HD hc I2 (IsRange.new ..) sm hn hz q
end
theorem uZ{ta:TA}{σ:St}{H:Hp}{Q:VK}(h:ta σ H fun vs H1=>∃(i j c:Int) (n:Nat),(vs=[.int i,.int j,.int c]∨(vs=[.int i,.int j]∧c=1))∧0<c∧c<1073741824∧Builtin.Range.small i j c=true∧Builtin.Range.rangeSize i j c=(n:Int)∧n≤1000000∧
 ∀l,H1 l=none→Q (.ref l) (upd H1 l (.lst ((List.range n).map fun(k:Nat)=>V.int (i+(k:Int)*c))))):tLR ta σ H Q:=h
end L2
namespace L2
open PySem PySem.Spec PyProof.Rows
end L2
namespace L2
open PySem PySem.Spec PyProof.Rows
section
variable{X:Cx}
section
variable{prog:Program}{w:World}{A:Around}{R:Result→Shared→Prop}
end
end
end L2
namespace L2
open PySem PySem.Spec PyProof.Rows
theorem qX{K:PySem.W.Frag}{ta:TE}{f:Str}{σ:St}{H:Hp}{Q:VK}(h:ta σ H fun x H1=>∃a C dx fs v,x=.ref a∧H1 a=some (.ins C dx fs)∧Cls K C∧Dq K C f∧fs.lookup f=some v∧Q v H1):uK K ta f σ H Q:=h
theorem lO{K:PySem.W.Frag}{ta tv:TE}{f:Str}{D:Ends}{σ:St}{H:Hp}(h:tv σ H fun y H1=>ta σ H1 fun x H2=>∃a C dx fs,x=.ref a∧H2 a=some (.ins C dx fs)∧Cls K C∧Dq K C f∧fs.length<1000∧D.nx σ (upd H2 a (.ins C dx (Ff f y fs)))):uT K ta tv f D σ H:=h
theorem lU{C:Addr}{m:Str}{sp:Sp}{ta:TE}{t:TA}{σ:St}{H:Hp}{Q:VK}(h:ta σ H fun x H1=>∃a dx fs,x=.ref a∧H1 a=some (.ins C dx fs)∧fs.lookup m=none∧t σ H1 fun vs H2=>sp (x::(vs++[])) H2 Q E0):YD C m sp [] E0 ta t σ H Q:=h
end L2
namespace L2
open PySem PySem.Spec PyProof.Rows
section
variable{X:Cx}{M xs:List Str}{scope:Scope}{cl:List (Str×Addr)}{C:Addr}{s₀:Shared}{H₀:Hp}{fp:List Addr}
end
end L2
namespace L2
open PySem PySem.Spec PyProof.Rows
structure Jq(K:PySem.W.Frag)(x qual:Str)(st:Stmt)(f:Addr)(fd:FuncData)(ds:Array Value):Prop where
 ex:∃(oc:Value) (od:Option Addr) (T:Addr) (to:Obj) (tn:Nat) (kV doc pm:Value) (an:Option Addr) (cdv ct:Value) (osl:Array (Option Value)),
  fd=PySem.W.fnOf x qual (DW st) (Cu st) (Ao st) (.ref T) kV doc pm an cdv ct∧K.lookup f=some ⟨oc,od,.func fd,osl⟩∧PySem.W.codeIn K cdv qual=true∧K.lookup T=some to∧to.data=.seq ds tn
 kp:PySem.W.keepIn K (.ref f)=true
section
variable{P:Program}{w:World}{K:PySem.W.Frag}{mg:Str→Option Value}{base:Heap}{x qual:Str}{st:Stmt}{f:Addr}{fd:FuncData}{N ps:List Str}{k:Nat}{sp:Sp}{ds:Array Value}
theorem Jq.ok(F:Jq K x qual st f fd ds)(S:BV N ps (Ao st))(len:∀vs H Q E,sp vs H Q E→vs.length=ps.length)
 (hbody:∀(cdv:Value) (A:Around) (outer:List Env) (s:Shared) (H:Hp) (vs:List V) (Q:VK) (E:XK),Ea k (A.deeper (envOfC qual (Ao st) s.heap.objs.size f cdv))→sp vs H Q E→
  ∃t,PSs (QW CX0 P w K mg base N qual (Ao st) f cdv A outer s H E).nox (Cu st) t∧t { nx:=fun _ H'=>Q .non H',rt:=Q } (start N vs) H):Bu P w K mg base CX0 (k+1) f fd ps sp:=by
 obtain⟨oc,od,T,to,tn,kV,doc,pm,an,cdv,ct,osl,rfl,lk,hcd,_⟩:=F.ex
 refine cX lk hcd S len fun A outer s H vs Q E hr hsp=>?_
 obtain⟨t,h,q⟩:=hbody cdv A outer s H vs Q E hr hsp
 exact⟨t,h.nox,q⟩
theorem Jq.okE(F:Jq K x qual st f fd ds)(S:BV N ps (Ao st))(len:∀vs H Q E,sp vs H Q E→vs.length=ps.length)
 (hbody:∀(cdv:Value) (A:Around) (outer:List Env) (s:Shared) (H:Hp) (vs:List V) (Q:VK) (E:XK),Ea k (A.deeper (envOfC qual (Ao st) s.heap.objs.size f cdv))→sp vs H Q E→
  Thr (QW (CX1 P w) P w K mg base N qual (Ao st) f cdv A outer s H E) (fun c d _ H'=>E c d H')→
  ∃t,PSs (QW (CX1 P w) P w K mg base N qual (Ao st) f cdv A outer s H E) (Cu st) t∧t { nx:=fun _ H'=>Q .non H',rt:=Q } (start N vs) H):Bu P w K mg base (CX1 P w) (k+1) f fd ps sp:=by
 obtain⟨oc,od,T,to,tn,kV,doc,pm,an,cdv,ct,osl,rfl,lk,hcd,_⟩:=F.ex
 exact cX lk hcd S len fun A outer s H vs Q E hr hsp=>hbody cdv A outer s H vs Q E hr hsp gF
theorem Jq.binds(F:Jq K x qual st f fd ds)
 (h:∀(T:Addr) (kV doc pm:Value) (an:Option Addr) (cdv ct:Value) (us:List Value),us.length=ps.length→bindArgs (PySem.W.fnOf x qual (DW st) (Cu st) (Ao st) (.ref T) kV doc pm an cdv ct) ⟨us,[]⟩=pure (ps.zip us)):Binds K fd ps []:=by
 obtain⟨oc,od,T,to,tn,kV,doc,pm,an,cdv,ct,osl,rfl,lk,hcd,_⟩:=F.ex
 exact .all (h T kV doc pm an cdv ct)
theorem Jq.bindsD{dv:List Value}(n:Nat)(hn:n+dv.length=ps.length)(F:Jq K x qual st f fd ds)
 (h:∀(T:Addr) (kV doc pm:Value) (an:Option Addr) (cdv ct:Value) (us:List Value),us.length=n→
  ∃k:Option (Array Value)→Sem (List (Str×Value)),bindArgs (PySem.W.fnOf x qual (DW st) (Cu st) (Ao st) (.ref T) kV doc pm an cdv ct) ⟨us,[]⟩=seqItems? (.ref T) >>= k∧k (some ds)=pure (ps.zip (us++dv))):Binds K fd ps dv:=by
 obtain⟨oc,od,T,to,tn,kV,doc,pm,an,cdv,ct,osl,rfl,lk,hcd,ht,hs⟩:=F.ex
 intro s us KX hl
 obtain⟨k,h1,h2⟩:=h T kV doc pm an cdv ct us (by rw[List.length_append] at hl;omega)
 exact PySem.W.binds_K KX rfl ht hs h1 h2
theorem QS{oc:Value}{od an:Option Addr}{osl:Array (Option Value)}{kV doc pm cdv ct:Value}{T:Addr}{to:Obj}{tn:Nat}(l:K.lookup f=some ⟨oc,od,.func (PySem.W.fnOf x qual (DW st) (Cu st) (Ao st) (.ref T) kV doc pm an cdv ct),osl⟩)
 (c:PySem.W.codeIn K cdv qual=true)(k:PySem.W.keepIn K (.ref f)=true)(t:K.lookup T=some to)(d:to.data=.seq ds tn):Jq K x qual st f (PySem.W.fnOf x qual (DW st) (Cu st) (Ao st) (.ref T) kV doc pm an cdv ct) ds:=
 ⟨⟨oc,od,T,to,tn,kV,doc,pm,an,cdv,ct,osl,rfl,l,c,t,d⟩,k⟩
end
structure kW(P:Program)(w:World)(K:PySem.W.Frag)(mg:Str→Option Value)(base:Heap)(CX:CXT)(k:Nat)(x:Str)(C:Addr)(ps:List Str)(dvs:List V)(sp:Sp):Prop where
 ex:∃(f:Addr) (fd:FuncData) (ds:List Value),Bu P w K mg base CX k f fd ps sp∧Binds K fd ps ds∧Vals dvs ds∧Mk K C f∧mg x=some (.ref C)
section
variable{X:Cx}{EE:Value→Option Addr→St→Hp→Prop}{C:Addr}{m x:Str}{k:Nat}{ps:List Str}{dvs:List V}{sp:Sp}{o e:Expr}{es:List Expr}{ta:TE}{t:TA}{apos pos p:Pos}
theorem jE(O:kW X.prog X.w X.K X.mg X.base CX0 k x C ps dvs sp)(hr:Ea (k+1) X.A)(hg:Gl X x)(ha:PA X (e::es) t)
 (hdb:(x==("__debug__":Str))=false:=by decide)(he:starEach (e::es) X.env=(false,eval e X.env)::starEach es X.env:=by rfl)(hpl:(backTo pos (starEach es X.env)).any (·.1)=false:=by rfl):
 PE X (.Call (.Name x p) (e::es) [] pos) (Vt C sp dvs E0 t):=by
 obtain⟨f,fd,ds,F,hb,hv,M,hm⟩:=O.ex
 exact bx M F hr hg hm hb hv Rj ha hdb he hpl
end
section
variable{X:Cx}
end
end L2
namespace L2
open PySem PySem.Spec PyProof.Rows
theorem iM{C:Addr}{sp:Sp}{dvs:List V}{t:TA}{σ:St}{H:Hp}{Q:VK}(h:t σ H fun vs H1=>∀x dx,H1 x=none→H1 dx=none→dx≠x→sp (.ref x::(vs++dvs)) (upd (upd H1 dx (.own x)) x (.ins C dx [])) (fun v H2=>v=.non∧Q (.ref x) H2) E0):Vt C sp dvs E0 t σ H Q:=h
theorem iK{C:Addr}{sp:Sp}{EE:XE}{t:TA}{σ:St}{H:Hp}{Q:VK}(h:t σ H fun vs H1=>∀x dx,H1 x=none→H1 dx=none→dx≠x→sp (.ref x::(vs++[])) (upd (upd H1 dx (.own x)) x (.ins C dx [])) (fun v H2=>v=.non∧Q (.ref x) H2) (fun c d H'=>EE c d σ H')):gJ C sp EE t σ H Q:=h
end L2
namespace L2
open PySem PySem.Spec PyProof.Rows
def rE:V→Bool
 | .byt _=>false
 | .flt _=>false
 | _=>true
inductive EqV(K:PySem.W.Frag)(H:Hp):Nat→V→V→Prop
 | same {n:Nat} {v:V}:rE v=true→EqV K H n v v
 | lst {n:Nat} {a b:Addr} {xs ys:List V}:SqL K H a xs→SqL K H b ys→xs.length=ys.length→(∀(i:Nat) x y,xs[i]?=some x→ys[i]?=some y→EqV K H n x y)→EqV K H (n+1) (.ref a) (.ref b)
 | tup {n:Nat} {a b:Addr} {xs ys:List V}:SqT K H a xs→SqT K H b ys→xs.length=ys.length→(∀(i:Nat) x y,xs[i]?=some x→ys[i]?=some y→EqV K H n x y)→EqV K H (n+1) (.ref a) (.ref b)
theorem Ou:∀{xs:List V} {us:List Value} {i:Nat} {u:Value},Vals xs us→us[i]?=some u→∃x,xs[i]?=some x∧RelV x u
 | _,_,i,u,.nil,h=>by simp at h
 | _,_,0,u,.cons r _,h=>by
  injection h with h
  subst h
  exact⟨_,rfl,r⟩
 | _,_,i+1,u,.cons _ rs,h=>Ou (i:=i) rs h
section
variable{X:Cx}{pins:List (Addr×Obj)}{σ:St}{H:Hp}{s:Shared}
theorem EqV.at{n:Nat}{x y:V}(h:EqV X.K H n x y)(I:Inv X pins σ H s):∀{A:Around} {u v:Value},RelV x u→RelV y v→A.units+n<cLine→SeqAt.EqAt A s u v true:=by
 induction h with
 | @same n v hp=>
  intro A u u' r r' _
  cases v with
  | non=>cases r;cases r';exact SeqAt.EqAt.same _
  | bl b=>cases r;cases r';exact SeqAt.EqAt.same _
  | int i=>
   obtain⟨t,rfl⟩:=r
   obtain⟨t',rfl⟩:=r'
   have:=SeqAt.EqAt.int_int (A:=A) (s:=s) i t i t'
   rwa [beq_self_eq_true] at this
  | str x=>
   obtain⟨t,rfl⟩:=r
   obtain⟨t',rfl⟩:=r'
   have:=SeqAt.EqAt.str_str (A:=A) (s:=s) x t x t'
   rwa [beq_self_eq_true] at this
  | byt b=>cases hp
  | flt b=>cases hp
  | ref a=>cases r;cases r';exact SeqAt.EqAt.same _
  | ty n=>cases r;cases r';exact SeqAt.EqAt.same _
 | @lst n a b xs ys ha hb hl _ ih=>
  intro A u v r r' hu
  cases r
  cases r'
  by_cases e:a=b
  ·subst e
   exact SeqAt.EqAt.same _
  obtain⟨its,r,pl,_⟩:=I.list ha
  obtain⟨its',r',pl',_⟩:=I.list hb
  have l1:=r.length
  have l2:=r'.length
  have:=SeqAt.RcAt.lists (A:=A) (e:=fun _=>true) pl.isList pl'.isList (by simp;omega) (by omega) fun j k1 k2=>by
   obtain⟨x,hx,rx⟩:=Ou r (i:=j) (u:=its.toArray[j]) (by simp)
   obtain⟨y,hy,ry⟩:=Ou r' (i:=j) (u:=its'.toArray[j]) (by simp)
   exact ih j x y hx hy rx ry (by show A.units+1+n<cLine;omega)
  rw[show ((List.range its.toArray.size).all fun _=>true)=true by simp] at this
  exact SeqAt.EqAt.of_refs e this
 | @tup n a b xs ys ha hb hl _ ih=>
  intro A u v r r' hu
  cases r
  cases r'
  by_cases e:a=b
  ·subst e
   exact SeqAt.EqAt.same _
  obtain⟨its,r,pl,_⟩:=I.tuple ha
  obtain⟨its',r',pl',_⟩:=I.tuple hb
  have l1:=r.length
  have l2:=r'.length
  have:=SeqAt.RcAt.tuples (A:=A) (e:=fun _=>true) pl pl' (by omega) fun j k1 k2=>by
   obtain⟨x,hx,rx⟩:=Ou r (i:=j) (u:=its.toArray[j]) (by simp)
   obtain⟨y,hy,ry⟩:=Ou r' (i:=j) (u:=its'.toArray[j]) (by simp)
   exact ih j x y hx hy rx ry (by show A.units+1+n<cLine;omega)
  rw[show ((List.range (min its.toArray.size its'.toArray.size)).all fun _=>true)=true by simp,Bool.true_and,show(its.toArray.size==its'.toArray.size)=true by simp;omega] at this
  exact SeqAt.EqAt.of_refs e this
end
end L2
namespace L2
open PySem PySem.Spec PyProof.Rows
structure Hm(P:Program)(w:World)(K:PySem.W.Frag)(mg:Str→Option Value)(base:Heap)(CX:CXT)(k:Nat)(m:Str)(ps:List Str)(L:List (Addr×Sp)):Prop where
 ex:∀p∈L,Cls K p.1∧∃(f:Addr) (fd:FuncData),Bu P w K mg base CX k f fd ps p.2∧Binds K fd ps []∧Meth K p.1 m f
theorem Hm.nil{P:Program}{w:World}{K:PySem.W.Frag}{mg:Str→Option Value}{base:Heap}{CX:CXT}{k:Nat}{m:Str}{ps:List Str}:Hm P w K mg base CX k m ps []:=⟨fun p hp=>(nomatch hp)⟩
theorem Bu.up{P:Program}{w:World}{K:PySem.W.Frag}{mg:Str→Option Value}{base:Heap}{CX:CXT}{k j:Nat}{f:Addr}{fd:FuncData}{ps:List Str}{sp:Sp}(F:Bu P w K mg base CX k f fd ps sp)(h:k≤j):Bu P w K mg base CX j f fd ps sp:=
 ⟨F.len,fun A outer s H args us vs Q E hr e0 hb r hs=>F.run A outer s H args us vs Q E (hr.mono h) e0 hb r hs⟩
theorem Hm.cons{P:Program}{w:World}{K:PySem.W.Frag}{mg:Str→Option Value}{base:Heap}{CX:CXT}{k j:Nat}{m:Str}{ps:List Str}{C:Addr}{sp:Sp}{L:List (Addr×Sp)}(c:Cls K C)(O:Eb P w K mg base CX j C m ps sp)(h:j≤k)(r:Hm P w K mg base CX k m ps L):Hm P w K mg base CX k m ps ((C,sp)::L):=by
 refine⟨fun p hp=>?_⟩
 rcases List.mem_cons.mp hp with e | e
 ·subst e
  obtain⟨f,fd,F,hb,M⟩:=O.ex
  exact⟨c,f,fd,F.up h,hb,M⟩
 ·exact r.ex p e
theorem Eb.toE{P:Program}{w:World}{K:PySem.W.Frag}{mg:Str→Option Value}{base:Heap}{k:Nat}{m:Str}{ps:List Str}{C:Addr}{sp:Sp}(O:Eb P w K mg base CX0 k C m ps sp):Eb P w K mg base (CX1 P w) k C m ps sp:=by
 obtain⟨f,fd,F,hb,M⟩:=O.ex
 exact⟨⟨f,fd,tG F,hb,M⟩⟩
def gH(L:List (Addr×Sp))(m:Str)(ta:TE)(t:TA):TE:=fun σ H Q=>ta σ H fun x H1=>∃a C dx fs sp,(C,sp)∈L∧x=.ref a∧H1 a=some (.ins C dx fs)∧fs.lookup m=none∧
 t σ H1 fun vs H2=>sp (x::(vs++[])) H2 Q E0
def bF(L:List (Addr×Sp))(m:Str)(EE:XE)(ta:TE)(t:TA):TE:=fun σ H Q=>ta σ H fun x H1=>∃a C dx fs sp,(C,sp)∈L∧x=.ref a∧H1 a=some (.ins C dx fs)∧fs.lookup m=none∧
 t σ H1 fun vs H2=>sp (x::(vs++[])) H2 Q (fun c d H'=>EE c d σ H')
section
variable{X:Cx}{EE:Value→Option Addr→St→Hp→Prop}{L:List (Addr×Sp)}{m:Str}{k:Nat}{ps:List Str}{o e:Expr}{es:List Expr}{ta:TE}{t:TA}{apos pos:Pos}
theorem El{pl:Sem Bool}(O:Hm X.prog X.w X.K X.mg X.base CX0 k m ps L)(hr:Ea k X.A)(he:PE X o ta)
 (ht:eval (.Call (.Attribute o m apos) [] [] pos) X.env=(do
  let ov ←eval o X.env
  standAt apos.atName
  let (f,first) ←holding [ov] (getMethod ov m pl)
  callWith pos f first (backTo pos (starEach [] X.env)) (backToKw pos (keywordEach [] X.env))):=by rfl):
 PE X (.Call (.Attribute o m apos) [] [] pos) (gH L m ta YC):=by
 intro pins s σ H Q I h
 refine PySem.W.methodCall_KW (pl:=pl) (thn (he pins s σ H _ I h) fun u s1 ⟨x,H1,I1,rx,a,C,dx,fs,sp,mem,ex,ea,l,q⟩=>?_) ht
 subst ex
 obtain rfl:u=Value.ref a:=rx
 obtain⟨c,f,fd,F,hb,hm⟩:=O.ex _ mem
 refine KZ I1 ea c hm l ?_
 exact PySem.W.callWith_K0 (first:=[.ref a]) I1.kIn hm.kp (UJ (us:=[.ref a]) (vs:=[.ref a]) F hr hb .nil Rj I1 (.cons rfl .nil) q)
theorem Z6{pl:Sem Bool}(T:Thr X EE)(O:Hm X.prog X.w X.K X.mg X.base (CX1 X.prog X.w) k m ps L)(hr:Ea k X.A)(he:PE X o ta)
 (ht:eval (.Call (.Attribute o m apos) [] [] pos) X.env=(do
  let ov ←eval o X.env
  standAt apos.atName
  let (f,first) ←holding [ov] (getMethod ov m pl)
  callWith pos f first (backTo pos (starEach [] X.env)) (backToKw pos (keywordEach [] X.env))):=by rfl):
 PE X (.Call (.Attribute o m apos) [] [] pos) (bF L m EE ta YC):=by
 intro pins s σ H Q I h
 refine PySem.W.methodCall_KW (pl:=pl) (thn (he pins s σ H _ I h) fun u s1 ⟨x,H1,I1,rx,a,C,dx,fs,sp,mem,ex,ea,l,q⟩=>?_) ht
 subst ex
 obtain rfl:u=Value.ref a:=rx
 obtain⟨c,f,fd,F,hb,hm⟩:=O.ex _ mem
 refine KZ I1 ea c hm l ?_
 exact PySem.W.callWith_K0 (first:=[.ref a]) I1.kIn hm.kp (lL (us:=[.ref a]) (vs:=[.ref a]) T F hr hb I1 (.cons rfl .nil) q)
end
theorem iJ{L:List (Addr×Sp)}{m:Str}{ta:TE}{t:TA}{σ:St}{H:Hp}{Q:VK}(h:ta σ H fun x H1=>∃a C dx fs sp,(C,sp)∈L∧x=.ref a∧H1 a=some (.ins C dx fs)∧fs.lookup m=none∧t σ H1 fun vs H2=>sp (x::(vs++[])) H2 Q E0):gH L m ta t σ H Q:=h
theorem dq{L:List (Addr×Sp)}{m:Str}{EE:XE}{ta:TE}{t:TA}{σ:St}{H:Hp}{Q:VK}(h:ta σ H fun x H1=>∃a C dx fs sp,(C,sp)∈L∧x=.ref a∧H1 a=some (.ins C dx fs)∧fs.lookup m=none∧t σ H1 fun vs H2=>sp (x::(vs++[])) H2 Q (fun c d H'=>EE c d σ H')):bF L m EE ta t σ H Q:=h
end L2
namespace L2
theorem vo{α:Type}{us:List α}(h:us.length=1):∃a0,us=[a0]:=by
 match us,h with
 | [a0],_=>exact⟨a0,rfl⟩
theorem jd{α:Type}{us:List α}(h:us.length=2):∃a0 a1,us=[a0,a1]:=by
 match us,h with
 | [a0,a1],_=>exact⟨a0,a1,rfl⟩
theorem rT{α:Type}{us:List α}(h:us.length=3):∃a0 a1 a2,us=[a0,a1,a2]:=by
 match us,h with
 | [a0,a1,a2],_=>exact⟨a0,a1,a2,rfl⟩
theorem uy{α:Type}{us:List α}(h:us.length=4):∃a0 a1 a2 a3,us=[a0,a1,a2,a3]:=by
 match us,h with
 | [a0,a1,a2,a3],_=>exact⟨a0,a1,a2,a3,rfl⟩
theorem rR{α:Type}{us:List α}(h:us.length=5):∃a0 a1 a2 a3 a4,us=[a0,a1,a2,a3,a4]:=by
 match us,h with
 | [a0,a1,a2,a3,a4],_=>exact⟨a0,a1,a2,a3,a4,rfl⟩
theorem vm{α:Type}{us:List α}(h:us.length=6):∃a0 a1 a2 a3 a4 a5,us=[a0,a1,a2,a3,a4,a5]:=by
 match us,h with
 | [a0,a1,a2,a3,a4,a5],_=>exact⟨a0,a1,a2,a3,a4,a5,rfl⟩
theorem ux{α:Type}{us:List α}(h:us.length=7):∃a0 a1 a2 a3 a4 a5 a6,us=[a0,a1,a2,a3,a4,a5,a6]:=by
 match us,h with
 | [a0,a1,a2,a3,a4,a5,a6],_=>exact⟨a0,a1,a2,a3,a4,a5,a6,rfl⟩
theorem vh{α:Type}{us:List α}(h:us.length=8):∃a0 a1 a2 a3 a4 a5 a6 a7,us=[a0,a1,a2,a3,a4,a5,a6,a7]:=by
 match us,h with
 | [a0,a1,a2,a3,a4,a5,a6,a7],_=>exact⟨a0,a1,a2,a3,a4,a5,a6,a7,rfl⟩
end L2
namespace L2
open PySem PySem.Spec PyProof.Rows
section
variable{X:Cx}
end
end L2
namespace L2
open PySem PySem.Spec PyProof.Rows
section
variable{X:Cx}
end
end L2
namespace L2
open PySem PySem.Spec PyProof.Rows
section
variable{X:Cx}
end
end L2
namespace L2
open PySem PySem.Spec PyProof.Rows
section
variable{X:Cx}
end
end L2
namespace L2
open PySem PySem.Spec PyProof.Rows
def Vu(c:Nat):V:=.str ⟨#[c]⟩
def Its(z:Str):It:=⟨fun i _=>i<z.cps.size,fun i H x H'=>H'=H∧∃c,z.cps[i]?=some c∧x=Vu c,fun i _=>z.cps.size≤i⟩
theorem gB{P:Program}{w:World}{K:PySem.W.Frag}{tg:Expr}(z:Str)(t:Tok)(it:Addr):Turn P w K tg (Its z) [it] it (fun i h=>h.IsStrIter it "str_ascii_iterator" z t i) where
 mem:=by simp
 obj:=fun i h st b hb=>by
  have e:b=it:=by simpa using hb
  subst e
  obtain⟨o,e,c,d⟩:=st
  exact⟨o,e,fun v z=>by rw[d] at z;cases z⟩
 keep:=fun i h h' st k=>by
  obtain⟨o,e,r⟩:=st
  exact⟨o,k it (by simp) o e,r⟩
 item:=by
  intro X hP hw hK hc i pins s σ H E I hf st hg
  subst hP hw hK
  have hg':i<z.cps.size:=hg
  obtain⟨f0,f1,f2,f3,f4,f5⟩:=hf it (by simp)
  refine wpAny_pyNext_ascii_item st (c:=z.cps[i]) (by simp[hg']) fun h' st' sb=>?_
  have I1:Inv X pins σ H { s with heap:=h',toks:=s.toks+1 }:=I.turned (t':=s.toks+1) (fun b o hb e=>(sb.2 b hb).trans e) f0 f1 f3 f4 f5
  obtain⟨o,e,c,d⟩:=id st'
  exact⟨_,rfl,Y0 (s:={ s with heap:=h',toks:=s.toks+1 }) e c d (by decide) ⟨Vu z.cps[i],H,I1,⟨_,rfl⟩,⟨rfl,_,by simp[hg'],rfl⟩,st',fun b hb=>(hf b hb).1⟩⟩
 done:=by
  intro X hP hw hK hc i pins s σ H E I hf st hg
  subst hP hw hK
  have hg':z.cps.size≤i:=hg
  obtain⟨f0,f1,f2,f3,f4,f5⟩:=hf it (by simp)
  exact wpAny_pyNext_ascii_end (I.ok.hd hc) st (by simp[hg']) fun h' eb=>⟨rfl,I.turned (t':=s.toks) (fun b o hb e=>eb b o hb e) f0 f1 f3 f4 f5⟩
 self:=fun _ _ _ _ _ st h=>wpAny_pyIter_striter_ascii st h
def asc(z:Str):Bool:=z.cps.all (· <128)
def u6(tl:TE):TI:=fun σ H R=>tl σ H fun x H1=>∃z,x=.str z∧asc z=true∧R (Its z) H1
section
variable{X:Cx}{tg:Expr}
theorem iz{l:Expr}{tl:TE}(hl:PE X l tl):PI X tg l (u6 tl):=by
 intro pins s σ H R I h
 refine thn (hl pins s σ H _ I h) fun v s1 ⟨x,H1,I1,r1,q1⟩=>?_
 obtain⟨z,e,ha,q⟩:=q1
 subst e
 obtain⟨t,rfl⟩:=(show ∃t,v=Value.str z t from r1)
 refine wpAny_pyIter_ascii ha ?_
 refine⟨s1.heap.objs.size,[s1.heap.objs.size],_,_,H1,rfl,I1.kept (t':=s1.toks) fun b o e=>Heap.get?_push_of_some _ e,gB z t _,⟨_,Heap.get?_push_size _ rfl,rfl,rfl⟩,fun b hb=>?_,q⟩
 have e:b=s1.heap.objs.size:=by simpa using hb
 subst e
 exact I1.fpOk (Nat.le_refl _) (I1.hok.fresh (Nat.le_refl _))
def vd:V→Option Int→Option Int→Hp→VK→Prop:=fun x lo hi H Q=>∃z,x=.str z∧z.length≤sizeLine∧Q (.str (Txt.slice z lo hi)) H
theorem Yc{v:Value}{o:Option Int}(h:IsPart v o):∃l:Option (Int×Tok),v=partValue l∧l.map (·.1)=o:=by
 cases h with
 | none=>exact⟨none,rfl,rfl⟩
 | int i t=>exact⟨some (i,t),rfl,rfl⟩
theorem qH:SlR X vd:=by
 intro pins s σ H x v vl vu lo hi sl Q I rx hs pl pu h
 obtain⟨z,rfl,hz,q⟩:=h
 obtain⟨t,rfl⟩:=(show ∃t,v=Value.str z t from rx)
 obtain⟨l,rfl,rfl⟩:=Yc pl
 obtain⟨u,rfl,rfl⟩:=Yc pu
 refine⟨"str",_,F.slot_str_getitem.lookup,typeIs_str _ _ _,wpAny_getItem_str_slice (l:=l) (u:=u) (st:=none) hs rfl ?_⟩
 refine post_val_or_str ⟨Nat.le_trans (Txt.slice_le z _ _) hz,fun t' k=>?_⟩
 exact⟨.str _,H,I.kept (t':=k) fun b o e=>e,⟨_,rfl⟩,q⟩
theorem Vl:MtR X "str.startswith" (fun x xs H Q=>∃z y,x=.str z∧xs=[.str y]∧Q (.bl (Txt.startswith z y)) H):=by
 intro pins s σ H x xs v us Q I rx rs h
 obtain⟨z,y,rfl,rfl,q⟩:=h
 obtain⟨t,rfl⟩:=(show ∃t,v=Value.str z t from rx)
 obtain⟨u,rfl,ru⟩:=vals1 rs
 obtain⟨t',rfl⟩:=(show ∃t,u=Value.str y t from ru)
 exact call_gives F.slot_str_startswith (typeIs_str _ _ _) F.entry_str_startswith (F.args_str_startswith_2 _ _) (gives_str_startswith z y t t') ⟨.bl _,H,I,rfl,q⟩
theorem Vn:Gq X (.type "int") (fun xs H Q=>∃z n,xs=[.str z]∧z.length≤640∧PySem.intText? z=some n∧Q (.int n) H):=by
 intro pins s σ H xs us Q I r h
 obtain⟨z,n,rfl,hl,hn,q⟩:=h
 obtain⟨u,rfl,ru⟩:=vals1 r
 obtain⟨t,rfl⟩:=(show ∃t,u=Value.str z t from ru)
 exact PySem.W.KIN.call_text hn hl ⟨.int n,H,I.tok _,⟨_,rfl⟩,q⟩
end
theorem ZX{z:Str}:Walk (Its z) (fun _=>True) (z.cps.toList.map Vu):=
 ⟨fun i H _ hi=>(by show i<z.cps.size;simpa using hi),fun i H x H' _ y hi=>⟨y.1,by
  obtain⟨c,hc,rfl⟩:=y.2
  rw[List.getElem?_map,Array.getElem?_toList,hc]
  rfl⟩,fun i H _ hi=>(by show z.cps.size≤i;simpa using hi)⟩
theorem iQ{tl:TE}{σ:St}{H:Hp}{R:It→Hp→Prop}(h:tl σ H fun x H1=>∃z,x=.str z∧asc z=true∧R (Its z) H1):u6 tl σ H R:=h
theorem bO(x:Str)(t:Tok):RelV (.str x) (.str x t):=⟨t,rfl⟩
section
variable{X:Cx}
end
end L2
namespace L2
open PySem PySem.Spec PyProof.Rows
inductive Qa(P:Program)(w:World)(K:PySem.W.Frag)(mg:Str→Option Value)(base:Heap)(k:Nat):List (Str×Sp)→Prop
 | nil:Qa P w K mg base k []
 | cons {x:Str} {ps:List Str} {sp:Sp} {L:List (Str×Sp)}:Cal P w K mg base k x ps sp→Qa P w K mg base k L→Qa P w K mg base k ((x,sp)::L)
theorem Qa.get{P:Program}{w:World}{K:PySem.W.Frag}{mg:Str→Option Value}{base:Heap}{k:Nat}{L:List (Str×Sp)}(h:Qa P w K mg base k L){x:Str}{sp:Sp}(hm:(x,sp)∈L):∃ps,Cal P w K mg base k x ps sp:=by
 induction h with
 | nil=>cases hm
 | cons C _ ih=>
  rcases List.mem_cons.mp hm with e | e
  ·injection e with e1 e2
   subst e1
   subst e2
   exact⟨_,C⟩
  ·exact ih e
def gP(mg:Str→Option Value)(i:Nat)(L:List (Str×Sp))(t:TA):TE:=fun σ H Q=>∃f x sp,σ[i]?=some (some (.ref f))∧(x,sp)∈L∧mg x=some (.ref f)∧t σ H fun vs H1=>sp vs H1 Q E0
section
variable{X:Cx}{pos:Pos}
theorem mO{k i:Nat}{x:Str}{L:List (Str×Sp)}{e:Expr}{es:List Expr}{t:TA}{p:Pos}(CV:Qa X.prog X.w X.K X.mg X.base k L)(hr:Ea k X.A)(hN:X.N[i]?=some x)(hv:Vis X.env.scope x)(ha:PA X (e::es) t)
 (hdb:(x==("__debug__":Str))=false:=by decide)(hcd:(x==("__classdict__":Str))=false:=by decide)(he:starEach (e::es) X.env=(false,eval e X.env)::starEach es X.env:=by rfl)(hpl:(backTo pos (starEach es X.env)).any (·.1)=false:=by rfl):
 PE X (.Call (.Name x p) (e::es) [] pos) (gP X.mg i L t):=by
 intro pins s σ H Q I h
 obtain⟨f,y,sp,hf,hm,hmg,h⟩:=h
 obtain⟨ps,C⟩:=CV.get hm
 obtain⟨f',fd,F,b,kp,m⟩:=C.ex
 have ef:f'=f:=by
  rw[hmg] at m
  injection m with m
  injection m with m
  exact m.symm
 subst ef
 refine wpAny_Call_Name_kw ?_
 refine thn (jB hN hv hdb hcd pins s σ H (fun v H1=>v=.ref f'∧H1=H) I ⟨_,hf,rfl,rfl⟩) fun v s1 ⟨y,H1,I1,r1,q1⟩=>?_
 obtain⟨rfl,rfl⟩:=q1
 cases r1
 refine PySem.W.callWith_K (h₀:=X.base) I1.ok.mod.kin kp (thn (ha pos pins s1 σ _ _ I1 h) fun us s2 ⟨vs,H2,I2,r,q⟩=>⟨I2.kIn,?_⟩) he hpl
 dsimp only at q
 have hl:us.length=ps.length:=by rw[←r.length];exact F.len _ _ _ _ q
 have hb:=b s2 us I2.kIn (by rw[List.append_nil];exact hl)
 rw[List.append_nil] at hb
 show wpAny _ _ (call (.ref f') us) _ _ _
 refine wpAny_call (codeAny_mono (F.run X.A X.stack s2 H2 ⟨us,[]⟩ us vs Q _ hr I2.env0 hb r q) fun z s' hq=>?_)
 cases z with
 | error e=>exact False.elim hq
 | ok fl=>
  cases fl with
  | ret u=>exact I2.after hq
  | next=>exact False.elim hq
  | brk=>exact False.elim hq
  | cont=>exact False.elim hq
theorem iU{mg:Str→Option Value}{i:Nat}{L:List (Str×Sp)}{t:TA}{σ:St}{H:Hp}{Q:VK}{f:Addr}{x:Str}{sp:Sp}(h1:σ[i]?=some (some (.ref f)))(h2:(x,sp)∈L)(h3:mg x=some (.ref f))(h:t σ H fun vs H1=>sp vs H1 Q E0):gP mg i L t σ H Q:=⟨f,x,sp,h1,h2,h3,h⟩
end
end L2
namespace L2
open PySem PySem.Spec PyProof.Rows
section
variable{X:Cx}{pins:List (Addr×Obj)}{σ:St}{H:Hp}{s:Shared}{h':Heap}
end
section
variable{X:Cx}
end
section
variable{X:Cx}
end
end L2
namespace L2
open PySem PySem.Spec PyProof.Rows
structure vQ(K:PySem.W.Frag)(mg:Str→Option Value)(x:Str)(CB f:Addr):Prop where
 bound:mg x=some (.ref CB)
 sp:PySem.W.specialIn K (.ref CB) "__getattribute__"=some (some (.builtin "type.__getattribute__"))
 rd:PySem.W.readsIn K CB (.type "type")=true
 fc:PySem.W.findCls K (.ref CB) (.type "type") "__init__"=some (.val (.ref f))
 kp:PySem.W.keepIn K (.ref f)=true
structure VM(P:Program)(w:World)(K:PySem.W.Frag)(mg:Str→Option Value)(base:Heap)(k:Nat)(x:Str)(ps:List Str)(sp:Sp):Prop where
 ex:∃(f CB:Addr) (fd:FuncData),Bu P w K mg base CX0 k f fd ps sp∧Binds K fd ps []∧vQ K mg x CB f
section
variable{X:Cx}
theorem Gm{x:Str}{k:Nat}{ps:List Str}{sp:Sp}{e:Expr}{es:List Expr}{t:TA}{p apos pos:Pos}{pl:Sem Bool}(O:VM X.prog X.w X.K X.mg X.base k x ps sp)(hr:Ea k X.A)(hg:Gl X x)(ha:PA X (e::es) t)
 (hdb:(x==("__debug__":Str))=false:=by decide)(hst:starEach (e::es) X.env=(false,eval e X.env)::starEach es X.env:=by rfl)(hpl:(backTo pos (starEach es X.env)).any (·.1)=false:=by rfl)
 (ht:eval (.Call (.Attribute (.Name x p) "__init__" apos) (e::es) [] pos) X.env=(do
  let ov ←eval (.Name x p) X.env
  standAt apos.atName
  let (f,first) ←holding [ov] (getMethod ov "__init__" pl)
  callWith pos f first (backTo pos (starEach (e::es) X.env)) (backToKw pos (keywordEach [] X.env))):=by rfl):
 PE X (.Call (.Attribute (.Name x p) "__init__" apos) (e::es) [] pos) (bH sp [] E0 t):=by
 intro pins s σ H Q I h
 obtain⟨f,CB,fd,F,hb,N⟩:=O.ex
 refine PySem.W.methodCall_KW (pl:=pl) (GF I hg N.bound ?_ hdb) ht
 refine PySem.W.method_cls I.kIn N.sp (PySem.W.cls_value I.kIn N.rd N.fc rfl ?_)
 have I1:Inv X pins σ H { s with toks:=s.toks+1 }:=I.tok _
 refine PySem.W.callWith_K (first:=[]) (h₀:=X.base) I.ok.mod.kin N.kp (thn (ha pos pins _ σ H _ I1 h) fun us s2 ⟨vs,H2,I2,r,q2⟩=>⟨I2.kIn,?_⟩) hst hpl
 exact UJ (us:=us) (vs:=vs) F hr hb .nil Rj I2 r q2
theorem jF{k:Nat}{x:Str}{C:Addr}{ps:List Str}{sp:Sp}{p pos:Pos}(O:Eu X.prog X.w X.K X.mg X.base CX0 k x C ps sp)(hr:Ea (k+1) X.A)(hg:Gl X x)
 (hdb:(x==("__debug__":Str))=false:=by decide):PE X (.Call (.Name x p) [] [] pos) (Vt C sp [] E0 YC):=by
 obtain⟨f,fd,F,hb,M,hm⟩:=O.ex
 exact jH M F hr hg hm hb .nil Rj hdb
end
end L2
namespace L2
open PySem PySem.Spec PyProof.Rows
def Vm(op:Int→Int→Bool)(z:Bool):List Int→List Int→Bool
 | x::xs,y::ys=>if x=y then Vm op z xs ys else op x y
 | _,_=>z
inductive Prs:List (Value×Value)→List Int→List Int→Prop
 | nil:Prs [] [] []
 | cons {zs:List (Value×Value)} {x y:Int} {t u:Tok} {xs ys:List Int}:Prs zs xs ys→Prs ((.int x t,.int y u)::zs) (x::xs) (y::ys)
abbrev TupAt(h:Heap)(l:Addr)(its:Array Value)(n:Nat)(dd:Option Addr)(sl:Array (Option Value)):Prop:=h.get? l=some ⟨.type "tuple",dd,.seq its n,sl⟩
theorem sO{prog:Program}{w:World}{A:Around}{E:Value→Shared→Prop}{s:Shared}{Q:Value→Shared→Prop}{a b:Int}{t u:Tok}(h:Q (.bool ((fun i j=>decide (i≤j)) a b)) s):wpAny (model prog w) A (richCompare .LtE (.int a t) (.int b u)) Q E s:=PySem.P.le_int (by simpa using h)
theorem Xp{l b:Addr}{its jts:Array Value}{n m:Nat}{dd de:Option Addr}{sl sm:Array (Option Value)}{xs ys:List Int}(z:Prs (its.toList.zip jts.toList) xs ys)(hsz:its.size=jts.size):
 Meets (Builtin.«tuple.__le__» ⟨[.ref l,.ref b],[]⟩) (fun _ R s=>TupAt s.heap l its n dd sl∧TupAt s.heap b jts m de sm∧R (.ok (.ret (.bool (Vm (fun i j=>decide (i≤j)) true xs ys)))) s):=by
 refine .of_wp fun P W A0 R0 s0 h0=>?_
 obtain⟨H0,G0,D0,T0,O0⟩:=s0
 obtain⟨el,eb,r0⟩:=h0
 have sub:=AutoSeq1.sub_tuple_tuple
 wp_walk using wpAny_loadPart' el,wpAny_loadPart' eb,wpAny_forIn_list _ (fun zs st s1=>st.1=none∧s1=⟨H0,G0,D0,T0,O0⟩∧∃us vs,Prs zs us vs∧R0 (.ok (.ret (.bool (Vm (fun i j=>decide (i≤j)) true us vs)))) ⟨H0,G0,D0,T0,O0⟩) _
 case turn=>
  rintro⟨p,q⟩ zs st s1 ⟨-,rfl,us,vs,pr,r1⟩
  cases pr with
  | @cons zs x y t u us vs pr=>
   refine wpAny_bind (SeqAt.EqAt.int_int x t y u P W _ _ ?_)
   by_cases c:x=y
   ·subst c
    rw[Vm,if_pos rfl] at r1
    rw[beq_self_eq_true]
    wp_walk
    exact⟨rfl,rfl,us,vs,pr,r1⟩
   ·rw[Vm,if_neg c] at r1
    rw[beq_eq_false_iff_ne.mpr c]
    wp_walk using sO
    exact⟨_,rfl,r1⟩
 case fin=>
  rintro⟨o,un⟩ s1 ⟨e,rfl,us,vs,pr,r1⟩
  cases pr
  cases e
  wp_walk
  refine⟨_,rfl,?_⟩
  simpa [Builtin.Tuple.tupleCompareSizes,hsz,Vm] using r1
 case h=>exact⟨rfl,rfl,xs,ys,z,r0⟩
theorem qp{prog:Program}{w:World}{A:Around}{E:Value→Shared→Prop}{s:Shared}{Q:Value→Shared→Prop}{l b:Addr}{its jts:Array Value}{xs ys:List Int}(hl:s.heap.IsTuple l its)(hb:s.heap.IsTuple b jts)(hu:A.units<cLine)
 (z:Prs (its.toList.zip jts.toList) xs ys)(hsz:its.size=jts.size)(h:Q (.bool (Vm (fun i j=>decide (i≤j)) true xs ys)) s):wpAny (model prog w) A (richCompare .LtE (.ref l) (.ref b)) Q E s:=by
 obtain⟨o1,g1,k1,n1,e1⟩:=hl
 obtain⟨o2,g2,k2,n2,e2⟩:=hb
 obtain⟨q1,d1,f1,w1⟩:=o1
 obtain⟨q2,d2,f2,w2⟩:=o2
 cases k1
 cases k2
 cases e1
 cases e2
 refine richCompare_meets_room (op:=.LtE) ⟨_,g1,rfl⟩ ⟨_,g2,rfl⟩ F.slot_tuple_le F.entry_tuple_le (F.args_tuple_le_2 _ _) (Xp (n:=n1) (m:=n2) (dd:=d1) (de:=d2) (sl:=w1) (sm:=w2) z hsz) ?_ hu
 exact⟨g1,g2,(fun x=>nomatch x),h⟩
def ul(K:PySem.W.Frag)(op:Int→Int→Bool)(z:Bool):R2:=fun x y H Q=>∃(a b:Addr) (xs ys:List Int),x=.ref a∧y=.ref b∧SqT K H a (xs.map V.int)∧SqT K H b (ys.map V.int)∧xs.length=ys.length∧Q (.bl (Vm op z xs ys)) H
theorem iu:∀{xs ys:List Int} {us vs:List Value},Vals (xs.map V.int) us→Vals (ys.map V.int) vs→xs.length=ys.length→Prs (us.zip vs) xs ys
 | [],[],_,_,.nil,.nil,_=>.nil
 | x::xs,y::ys,_,_,.cons r rs,.cons q qs,h=>by
  obtain⟨t,rfl⟩:=r
  obtain⟨u,rfl⟩:=q
  exact .cons (iu rs qs (Nat.succ.inj h))
section
variable{X:Cx}
theorem rK(hu:X.A.units<cLine):OpR X (compareOp .LtE) (ul X.K (fun i j=>decide (i≤j)) true):=by
 intro pins s σ H x y v u Q I rx ry h
 obtain⟨a,b,xs,ys,rfl,rfl,ha,hb,hl,q⟩:=h
 cases rx
 cases ry
 obtain⟨its,r,pl,_⟩:=I.tuple ha
 obtain⟨its',r',pl',_⟩:=I.tuple hb
 have l1:=r.length
 have l2:=r'.length
 rw[List.length_map] at l1 l2
 exact qp pl pl' hu (by simpa using iu r r' hl) (by simp;omega) ⟨.bl _,H,I,rfl,q⟩
end
section
variable{X:Cx}
end
end L2
namespace L2
open PySem PySem.Spec PyProof.Rows PySem.Builtin PySem.Builtin.Str
def plc(c:Nat):Nat→List Nat→List Nat
 | _,[]=>[]
 | k,a::l=>if a=c then k::plc c (k+1) l else plc c (k+1) l
def spl(c:Nat):List Nat→List (List Nat)
 | []=>[[]]
 | a::l=>if a=c then []::spl c l else ((a::(spl c l).headD [])::(spl c l).drop 1)
theorem We(c:Nat)(l:List Nat):spl c (c::l)=[]::spl c l:=by
 conv=>lhs;unfold spl
 rw[if_pos rfl]
theorem O5{c a:Nat}(l:List Nat)(h:a≠c):spl c (a::l)=(a::(spl c l).headD [])::(spl c l).drop 1:=by
 conv=>lhs;unfold spl
 rw[if_neg h]
theorem gU{a b:Str}(h:a.cps=b.cps):a=b:=by
 cases a
 cases b
 exact congrArg Str.mk h
theorem qF(c:Nat):∀l,spl c l≠[]
 | []=>fun h=>nomatch h
 | a::l=>by
  unfold spl
  split
  ·exact fun h=>nomatch h
  ·exact fun h=>nomatch h
theorem Jr(c:Nat)(l:List Nat):spl c l=(spl c l).headD []::(spl c l).drop 1:=by
 have:=qF c l
 cases h:spl c l with
 | nil=>exact absurd h this
 | cons p ps=>rfl
theorem bj(c:Nat):∀(l:List Nat) (k:Nat),(plc c k l).length+1=(spl c l).length
 | [],_=>rfl
 | a::l,k=>by
  have ih:=bj c l (k+1)
  unfold plc spl
  split
  ·rw[List.length_cons,List.length_cons,ih]
  ·rw[ih,Jr c l]
   rfl
theorem V1(c:Nat):∀(l:List Nat) (k:Nat),(plc c k l).length=l.count c
 | [],_=>rfl
 | a::l,k=>by
  have ih:=V1 c l (k+1)
  unfold plc
  rw[List.count_cons]
  split
  ·rename_i h
   rw[List.length_cons,ih,if_pos (by simpa using h)]
  ·rename_i h
   rw[ih,if_neg (by simpa using h)]
   rfl
theorem bK(c:Nat):∀(p l:List Nat),c∉p→spl c (p++c::l)=p::spl c l
 | [],l,_=>We c l
 | a::p,l,h=>by
  have ih:=bK c p l fun z=>h (List.mem_cons_of_mem _ z)
  show spl c (a::(p++c::l))=_
  rw[O5 _ (fun z=>h (by rw[z];exact List.mem_cons_self)),ih]
  rfl
theorem bJ(c:Nat):∀(p:List Nat),c∉p→spl c p=[p]
 | [],_=>rfl
 | a::p,h=>by
  rw[O5 _ (fun z=>h (by rw[z];exact List.mem_cons_self)),bJ c p fun z=>h (List.mem_cons_of_mem _ z)]
  rfl
theorem Q9(c:Nat)(L:List Nat):∀(l:List Nat) (k s0:Nat),L.drop k=l→s0≤k→k≤L.length→
 ((s0::(plc c k l).map (· +1)).zip (plc c k l++[L.length])).map (fun (ij:Nat×Nat)=>(L.drop ij.1).take (ij.2-ij.1))=((L.drop s0).take (k-s0)++(spl c l).headD [])::(spl c l).drop 1
 | [],k,s0,h,h1,h2=>by
  have e:k=L.length:=by
   have:=congrArg List.length h
   rw[List.length_drop] at this
   simp at this
   omega
  subst e
  show[(L.drop s0).take (L.length-s0)]=[(L.drop s0).take (L.length-s0)++[]]
  rw[List.append_nil]
 | a::l,k,s0,h,h1,h2=>by
  have kl:k<L.length:=by
   have:=congrArg List.length h
   rw[List.length_drop,List.length_cons] at this
   omega
  have hd:L.drop (k+1)=l:=by
   rw[←List.drop_drop,h]
   rfl
  unfold plc spl
  split
  ·have ih:=Q9 c L l (k+1) (k+1) hd (Nat.le_refl _) kl
   rw[List.map_cons,List.cons_append,List.zip_cons_cons,List.map_cons,ih,Nat.sub_self,List.take_zero,List.nil_append,←Jr]
   show _=((L.drop s0).take (k-s0)++[])::spl c l
   rw[List.append_nil]
  ·have ih:=Q9 c L l (k+1) s0 hd (by omega) kl
   rw[ih]
   have e:(L.drop s0).take (k+1-s0)=(L.drop s0).take (k-s0)++[a]:=by
    have hk:(L.drop s0)[k-s0]?=some a:=by
     rw[List.getElem?_drop,show s0+(k-s0)=k by omega]
     have:=congrArg (fun z=>z[0]?) h
     simpa [List.getElem?_drop] using this
    rw[show k+1-s0=(k-s0)+1 by omega,List.take_add_one,hk]
    rfl
   rw[e,List.append_assoc]
   rfl
def cps(z:Str):List Nat:=z.cps.toList
theorem S9(z:Str):(cps z).length=z.length:=Array.length_toList
theorem Xl(x:Str)(c:Nat):∀(n k free:Nat) (acc:Array Nat),k+n=x.length+1→free≤k→acc.size≤k→
 (forIn (List.range' k n) (acc,free) (StrLaws.occBody x ⟨#[c]⟩ x.length (x.length+1))).run.fst.toList=acc.toList++plc c k ((cps x).drop k)
 | 0,k,free,acc,h,_,_=>by
  rw[List.drop_of_length_le (by rw[S9];omega)]
  show acc.toList=acc.toList++[]
  rw[List.append_nil]
 | n+1,k,free,acc,h,hf,ha=>by
  rw[List.range'_succ,List.forIn_cons]
  have one:(⟨#[c]⟩:Str).length=1:=rfl
  by_cases z:(cps x)[k]?=some c
  ·have kl:k<(cps x).length:=(List.getElem?_eq_some_iff.mp z).1
   have hs:=(StrLaws.subAt_one x c k).mpr z
   have ed:(cps x).drop k=c::(cps x).drop (k+1):=by
    rw[List.drop_eq_getElem_cons kl,(List.getElem?_eq_some_iff.mp z).2]
   have ih:=Xl x c n (k+1) (k+1) (acc.push k) (by omega) (Nat.le_refl _) (by rw[Array.size_push];omega)
   unfold StrLaws.occBody
   rw[if_pos ⟨⟨⟨by show acc.size<x.length+1;omega,hf⟩,hs.1⟩,hs.2⟩,ed]
   unfold plc
   rw[if_pos rfl]
   have e2:acc.toList++k::plc c (k+1) ((cps x).drop (k+1))=(acc.push k).toList++plc c (k+1) ((cps x).drop (k+1)):=by
    rw[Array.toList_push,List.append_assoc]
    rfl
   rw[e2]
   exact ih
  ·have hs:¬(k+(⟨#[c]⟩:Str).length≤x.length∧subAt x ⟨#[c]⟩ k=true):=fun y=>z ((StrLaws.subAt_one x c k).mp y)
   have ih:=Xl x c n (k+1) free acc (by omega) (by omega) (by omega)
   have ep:plc c k ((cps x).drop k)=plc c (k+1) ((cps x).drop (k+1)):=by
    by_cases kl:k<(cps x).length
    ·rw[List.drop_eq_getElem_cons kl]
     have:(cps x)[k]≠c:=fun y=>z (by rw[List.getElem?_eq_getElem kl,y])
     show(if (cps x)[k]=c then _ else _)=_
     rw[if_neg this]
    ·rw[List.drop_of_length_le (by omega),List.drop_of_length_le (by omega)]
     rfl
   unfold StrLaws.occBody
   rw[if_neg fun y=>hs ⟨y.1.2,y.2⟩,ep]
   exact ih
theorem cF(x:Str)(c:Nat):occurrences x ⟨#[c]⟩ 0 x.length (x.length+1)=plc c 0 (cps x):=by
 rw[StrLaws.occ_eq]
 have:=Xl x c (x.length+1) 0 0 #[] (by omega) (Nat.le_refl _) (Nat.le_refl _)
 simpa using this
theorem Yb(x:Str)(c:Nat):partsBetween x (plc c 0 (cps x)) 1=(spl c (cps x)).map fun p=>(⟨p.toArray⟩:Str):=by
 have h:=Q9 c (cps x) (cps x) 0 0 rfl (Nat.le_refl _) (Nat.zero_le _)
 rw[List.take_zero,List.nil_append,←Jr] at h
 rw[←h,List.map_map]
 unfold partsBetween
 rw[←S9]
 refine List.map_congr_left fun ij _=>?_
 refine gU (Array.toList_inj.mp ?_)
 rw[StrLaws.strSub_toList]
 rfl
section
variable{X:Cx}
theorem bI:∀(ps:List Str) (tk:Nat),Vals (ps.map V.str) (strsFrom tk ps)
 | [],_=>.nil
 | p::ps,tk=>.cons ⟨tk,rfl⟩ (bI ps (tk+1))
theorem TQ:∀{zs:List Str} {us:List Value},Vals (zs.map V.str) us→StrsAre us zs
 | [],_,.nil=>.nil
 | z::zs,_,.cons r rs=>by
  obtain⟨t,rfl⟩:=(show ∃t,_=Value.str z t from r)
  exact .cons z t (TQ rs)
def Qf(c:Nat)(z:Str):List Str:=(spl c (cps z)).map fun p=>(⟨p.toArray⟩:Str)
theorem YF(c:Nat)(z:Str):(Qf c z).length≤z.length+1:=by
 unfold Qf
 rw[List.length_map,←bj c (cps z) 0,V1,←S9]
 exact Nat.succ_le_succ List.count_le_length
theorem Rh{c:Nat}{z:Str}(h:plc c 0 (cps z)=[]):Qf c z=[z]:=by
 have e:=Yb z c
 rw[h] at e
 unfold Qf
 rw[←e]
 show[strSub z 0 z.length]=[z]
 refine congrArg (fun y=>[y]) (gU (Array.toList_inj.mp ?_))
 rw[StrLaws.strSub_toList,List.drop_zero,Nat.sub_zero]
 exact List.take_of_length_le (by show z.cps.toList.length≤z.cps.size;rw[Array.length_toList];exact Nat.le_refl _)
def qt:V→List V→Hp→VK→Prop:=fun x xs H Q=>∃z c,x=.str z∧xs=[.str ⟨#[c]⟩]∧c<256∧z.length≤1000000∧∀l,H l=none→Q (.ref l) (upd H l (.lst ((Qf c z).map V.str)))
theorem jb:MtR X "str.split" qt:=by
 intro pins s σ H x xs v us Q I rx rs h
 obtain⟨z,c,rfl,rfl,hc,hz,q⟩:=h
 obtain⟨t,rfl⟩:=(show ∃t,v=Value.str z t from rx)
 obtain⟨u,rfl,ru⟩:=vals1 rs
 obtain⟨t',rfl⟩:=(show ∃t,u=Value.str ⟨#[c]⟩ t from ru)
 have sl:z.length+1≤sizeLine:=Nat.le_trans (Nat.succ_le_succ hz) (by decide)
 have one:(⟨#[c]⟩:Str).length=1:=rfl
 have itself:Qf c z=[z]→EP X pins σ Q (.ref s.heap.objs.size) { s with heap:=s.heap.push { cls:=.type "list",data:=.seq [Value.str z t].toArray } }:=fun e=>by
  refine⟨.ref _,_,I.laid (a:=s.heap.objs.size) (o:=.lst ((Qf c z).map V.str)) (fun _ _ e=>Heap.get?_push_of_some _ e) (Nat.le_refl _) ⟨by rw[e];show 1≤sizeLine;decide,[Value.str z t],0,by rw[e];exact .cons ⟨t,rfl⟩ .nil,Heap.get?_push_size _ rfl⟩,rfl,q _ I.fresh⟩
 by_cases h1:(decide (z.length<(⟨#[c]⟩:Str).length)||decide (PySem.Builtin.Str.strKind z<PySem.Builtin.Str.strKind ⟨#[c]⟩))=true
 ·have e:Qf c z=[z]:=by
   have k1:PySem.Builtin.Str.strKind (⟨#[c]⟩:Str)=1:=by
    unfold PySem.Builtin.Str.strKind
    simp[hc]
   have k0:1≤PySem.Builtin.Str.strKind z:=by
    unfold PySem.Builtin.Str.strKind
    repeat' split
    all_goals omega
   rw[k1,one,decide_eq_false (show ¬PySem.Builtin.Str.strKind z<1 by omega),Bool.or_false,decide_eq_true_eq] at h1
   refine Rh ?_
   have:cps z=[]:=List.length_eq_zero_iff.mp (by rw[S9];omega)
   rw[this]
   rfl
  exact call_meets F.slot_str_split (typeIs_str _ _ _) F.entry_str_split (F.args_str_split_2 _ _) (meets_str_split_cannot_occur z ⟨#[c]⟩ t t' h1) (itself e)
 ·have h1':=(Bool.not_eq_true _).mp h1
  by_cases h2:(occurrences z ⟨#[c]⟩ 0 z.length (z.length+1)).isEmpty=true
  ·have e:Qf c z=[z]:=by
    rw[cF,List.isEmpty_iff] at h2
    exact Rh h2
   exact call_meets F.slot_str_split (typeIs_str _ _ _) F.entry_str_split (F.args_str_split_2 _ _) (meets_str_split_not_found z ⟨#[c]⟩ t t' h1' rfl h2) (itself e)
  ·have h2':=(Bool.not_eq_true _).mp h2
   have ep:partsBetween z (occurrences z ⟨#[c]⟩ 0 z.length (z.length+1)) (⟨#[c]⟩:Str).length=Qf c z:=by rw[cF];exact Yb z c
   refine call_meets F.slot_str_split (typeIs_str _ _ _) F.entry_str_split (F.args_str_split_2 _ _) (meets_str_split_sep z ⟨#[c]⟩ t t' h1' rfl h2' (by omega) (by rw[ep];exact Nat.le_trans (YF c z) sl)) ?_
   rw[ep]
   exact⟨.ref _,_,I.laid (a:=s.heap.objs.size) (o:=.lst ((Qf c z).map V.str)) (fun _ _ e=>Heap.get?_push_of_some _ e) (Nat.le_refl _) ⟨by rw[List.length_map];exact Nat.le_trans (YF c z) sl,strsFrom s.toks (Qf c z),0,bI _ _,Heap.get?_push_size _ rfl⟩,rfl,q _ I.fresh⟩
def rJoin(K:PySem.W.Frag):V→List V→Hp→VK→Prop:=fun x xs H Q=>∃z l zs,x=.str z∧xs=[.ref l]∧SqL K H l (zs.map V.str)∧(zs.map (·.length)).sum+zs.length*z.length≤16777216∧Q (.str (Txt.join z zs)) H
theorem my:MtR X "str.join" (rJoin X.K):=by
 intro pins s σ H x xs v us Q I rx rs h
 obtain⟨z,l,zs,rfl,rfl,hl,hz,q⟩:=h
 obtain⟨t,rfl⟩:=(show ∃t,v=Value.str z t from rx)
 obtain⟨u,rfl,ru⟩:=vals1 rs
 obtain rfl:u=Value.ref l:=ru
 obtain⟨its,r,pl,_⟩:=I.list hl
 exact join_list pl.isList (by simpa using TQ r) hz fun t' k=>⟨.str _,H,I.tok _,⟨_,rfl⟩,q⟩
end
end L2
namespace L2
open PySem PySem.Spec PyProof.Rows
section
variable{s:Shared}{A:Around}{w:World}{prog:Program}
end
section
variable{X:Cx}
end
end L2
namespace L2
open PySem PySem.Spec PyProof.Rows
section
variable{X:Cx}
end
end L2
namespace L2
open PySem PySem.Spec PyProof.Rows
section
variable{M:Model}{A:Around}{E:Value→Shared→Prop}{s:Shared}{base:Heap}{env:Env}{outer l:List Env}{L e:Addr}{cls:Value}{dd:Option Addr}{fl:Value}
end
section
variable{X:Cx}{pins:List (Addr×Obj)}{σ:St}{H H':Hp}{s:Shared}{C ea:Addr}{cls:Value}{dx:Option Addr}{B h1 h2 h3:Heap}{fl:Value}
end
section
variable{X:Cx}{pins:List (Addr×Obj)}{σ:St}{H2:Hp}{s2:Shared}{M:List Str}{x:Str}{scope:Scope}{cl:List (Str×Addr)}{C:Addr}{fp:List Addr}{E:XK}{Qe:Value→Shared→Prop}{acc:Value}
end
section
variable{X:Cx}
end
end L2
namespace L2
open PySem PySem.Spec PyProof.Rows Builtin.Str
section
variable{X:Cx}
theorem eQ:MtR X "str.rstrip" (fun x xs H Q=>∃z y,x=.str z∧xs=[.str y]∧z.length≤sizeLine∧Q (.str (if stripSame y.cps.contains false true z then z else stripped y.cps.contains false true z)) H):=by
 intro pins s σ H x xs v us Q I rx rs h
 obtain⟨z,y,rfl,rfl,hz,q⟩:=h
 obtain⟨t,rfl⟩:=(show ∃t,v=Value.str z t from rx)
 obtain⟨u,rfl,ru⟩:=vals1 rs
 obtain⟨t',rfl⟩:=(show ∃t,u=Value.str y t from ru)
 refine call_gives F.slot_str_rstrip (typeIs_str _ _ _) F.entry_str_rstrip (F.args_str_rstrip_2 _ _) (gives_str_rstrip_chars z y t t') ?_
 by_cases c:stripSame y.cps.contains false true z=true
 ·rw[if_pos c] at q ⊢
  exact⟨.str _,H,I,⟨_,rfl⟩,q⟩
 ·rw[if_neg c] at q ⊢
  exact⟨fits_stripped _ _ _ hz,.str _,H,I.tok _,⟨_,rfl⟩,q⟩
end
end L2
namespace L2
open PySem PySem.Spec PyProof.Rows
section
variable{prog:Program}{w:World}{A:Around}{R:Result→Shared→Prop}{I:Addr}{fp wr:List Addr}{n:Nat}{P:Nat→Value→Prop}{St:Nat→Heap→Prop}
end
section
variable{prog:Program}{w:World}{A:Around}{E:Value→Shared→Prop}{s:Shared}
end
section
variable{X:Cx}
end
end L2
namespace L2
open PySem
@[elab_as_elim] theorem fresh{P:Hp→Prop}{H:Hp}{l:Addr}{o:HO}(h:H l=none)(q:∀H',Bo H H'→H' l=some o→P H'):P (upd H l o):=q _ (Bk h o) BR
example {Q:V→Hp→Prop} {H:Hp} (q:∀l H',Bo H H'→H' l=some (.lst [.int 1])→Q (.ref l) H'):∀l,H l=none→Q (.ref l) (upd H l (.lst [.int 1])):=fun l hl=>by
 refine fresh hl fun H1 s1 t1=>?_
 exact q l H1 s1 t1
end L2
namespace L2
open PySem PySem.Spec PyProof.Rows
section
variable{X:Cx}
end
section
variable{X:Cx}{M:List Str}{x:Str}{scope:Scope}{cl:List (Str×Addr)}{C:Addr}{s₀:Shared}{H₀:Hp}{fp:List Addr}
end
end L2
namespace L2
open PySem PySem.Spec PyProof.Rows
def FnG(K:PySem.W.Frag)(g n q:Str)(st:Stmt):Prop:=∃f fd,PySem.W.nsIn K mainGlobals g=some (some (.ref f))∧Fun K n q st f fd
def FnM(K:PySem.W.Frag)(C:Addr)(x n q:Str)(st:Stmt):Prop:=∃f fd,PySem.W.findIn K (.ref C) x=some (some (.ref f))∧Fun K n q st f fd∧PySem.W.typeIn K (.ref f)=some (.type "function")
def Rf(n q:Str)(st:Stmt)(ps:List Str):Prop:=∀(kV doc pm:Value) (an:Option Addr) (cdv ct:Value) (us:List Value),us.length=ps.length→bindArgs (PySem.W.fnOf n q (DW st) (Cu st) (Ao st) .none kV doc pm an cdv ct) ⟨us,[]⟩=pure (ps.zip us)
theorem sX{K:PySem.W.Frag}{g n q:Str}{st:Stmt}{f:Addr}{oc:Value}{od an:Option Addr}{osl:Array (Option Value)}{kV doc pm cdv ct:Value}(a:PySem.W.nsIn K mainGlobals g=some (some (.ref f)))(l:K.lookup f=some ⟨oc,od,.func (PySem.W.fnOf n q (DW st) (Cu st) (Ao st) .none kV doc pm an cdv ct),osl⟩)
 (c:PySem.W.codeIn K cdv q=true)(k:PySem.W.keepIn K (.ref f)=true):FnG K g n q st:=⟨f,_,a,Om l c k⟩
theorem sV{K:PySem.W.Frag}{C:Addr}{x n q:Str}{st:Stmt}{f:Addr}{oc:Value}{od an:Option Addr}{osl:Array (Option Value)}{kV doc pm cdv ct:Value}(a:PySem.W.findIn K (.ref C) x=some (some (.ref f)))(l:K.lookup f=some ⟨oc,od,.func (PySem.W.fnOf n q (DW st) (Cu st) (Ao st) .none kV doc pm an cdv ct),osl⟩)
 (c:PySem.W.codeIn K cdv q=true)(k:PySem.W.keepIn K (.ref f)=true)(u:PySem.W.typeIn K (.ref f)=some (.type "function")):FnM K C x n q st:=⟨f,_,a,Om l c k,u⟩
section
variable{P:Program}{w:World}{K:PySem.W.Frag}{h:Heap}{mg:Str→Option Value}{base:Heap}{g n q:Str}{st:Stmt}{ps:List Str}{k:Nat}{sp:Sp}
theorem Cv(X:K.In h)(G:h.Ns mainGlobals mg)(Q:FnG K g n q st)(b:Rf n q st ps)(ok:∀{f:Addr} {fd:FuncData},Fun K n q st f fd→Bu P w K mg base CX0 k f fd ps sp):Cal P w K mg base k g ps sp:=by
 obtain⟨f,fd,a,F⟩:=Q
 exact⟨⟨f,fd,ok F,F.binds b,F.kp,PySem.W.mg_of X G a⟩⟩
theorem Cj(X:K.In h)(G:h.Ns mainGlobals mg)(Q:FnG K g n q st)(b:Rf n q st ps)(ok:∀{f:Addr} {fd:FuncData},Fun K n q st f fd→Bu P w K mg base (CX1 P w) k f fd ps sp):CQ P w K mg base k g ps sp:=by
 obtain⟨f,fd,a,F⟩:=Q
 exact⟨⟨f,fd,ok F,F.binds b,F.kp,PySem.W.mg_of X G a⟩⟩
theorem GJ{CX:CXT}{C:Addr}(Q:FnM K C g n q st)(b:Rf n q st ps)(ok:∀{f:Addr} {fd:FuncData},Fun K n q st f fd→Bu P w K mg base CX k f fd ps sp):Eb P w K mg base CX k C g ps sp:=by
 obtain⟨f,fd,a,F,u⟩:=Q
 exact⟨⟨f,fd,ok F,F.binds b,⟨a,beq_iff_eq.mpr u,F.kp⟩⟩⟩
theorem Ep{CX:CXT}{x:Str}{C:Addr}(X:K.In h)(G:h.Ns mainGlobals mg)(mk:PySem.W.makesIn K C=true)(kp:PySem.W.keepIn K (.ref C)=true)(nC:PySem.W.nsIn K mainGlobals x=some (some (.ref C)))(Q:FnM K C "__init__" n q st)(b:Rf n q st ps)(ok:∀{f:Addr} {fd:FuncData},Fun K n q st f fd→Bu P w K mg base CX k f fd ps sp):Eu P w K mg base CX k x C ps sp:=by
 obtain⟨f,fd,a,F,u⟩:=Q
 exact⟨⟨f,fd,ok F,F.binds b,⟨mk,a,beq_iff_eq.mpr u,kp⟩,PySem.W.mg_of X G nC⟩⟩
end
end L2
namespace L2
open PySem PySem.Spec PyProof.Rows
theorem UV{P:Program}{w:World}{K:PySem.W.Frag}{mg:Str→Option Value}{base:Heap}{CX:CXT}{k0:Nat}{m n q:Str}{st:Stmt}{ps:List Str}{Cs:List Addr}{sp:Nat→Sp}
 (hC:∀C∈Cs,Cls K C∧FnM K C m n q st)(b:Rf n q st ps)(z:∀vs H Q E,¬sp 0 vs H Q E)
 (step:∀(d:Nat) {f:Addr} {fd:FuncData},Hm P w K mg base CX (k0+d) m ps (Cs.map fun C=>(C,sp d))→Fun K n q st f fd→Bu P w K mg base CX (k0+d+1) f fd ps (sp (d+1))):
 ∀d,Hm P w K mg base CX (k0+d) m ps (Cs.map fun C=>(C,sp d))
 | 0=>⟨fun p hp=>by
  obtain⟨C,hC',rfl⟩:=List.mem_map.mp hp
  obtain⟨c,f,fd,a,F,u⟩:=hC C hC'
  exact⟨c,f,fd,⟨fun vs H Q E h=>absurd h (z vs H Q E),fun A outer s H args us vs Q E _ _ _ _ h=>absurd h (z vs H Q E)⟩,F.binds b,⟨a,beq_iff_eq.mpr u,F.kp⟩⟩⟩
 | d+1=>⟨fun p hp=>by
  have R:=UV hC b z step d
  obtain⟨C,hC',rfl⟩:=List.mem_map.mp hp
  obtain⟨c,f,fd,a,F,u⟩:=hC C hC'
  exact⟨c,f,fd,step d R F,F.binds b,⟨a,beq_iff_eq.mpr u,F.kp⟩⟩⟩
theorem all_nil{α:Type}{p:α→Prop}:∀x∈([]:List α),p x:=fun _ h=>(nomatch h)
theorem all_cons{α:Type}{p:α→Prop}{a:α}{l:List α}(h:p a)(t:∀x∈l,p x):∀x∈a::l,p x:=fun x hx=>by
 rcases List.mem_cons.mp hx with e | e
 ·exact e ▸ h
 ·exact t x e
end L2
namespace L2
open PySem PySem.Spec PyProof.Rows
section
variable{X:Cx}{k:Nat}{q:Addr}{fd:FuncData}{p:Str}{sp:Sp}{xs:List V}{kf:Nat→Int}{J:Hp→Prop}{l:Addr}{pins:List (Addr×Obj)}{σ:St}
theorem Rc.at{H H':Hp}{b:Addr}(f:Rc X pins H b)(n:H' b=none):Rc X pins H' b:=⟨n,f.2⟩
end
end L2
namespace L2
open PySem PySem.Spec PyProof.Rows
section
variable{prog:Program}{w:World}{A:Around}{E:Value→Shared→Prop}{s:Shared}
end
section
variable{prog:Program}{w:World}{A:Around}{E:Value→Shared→Prop}{s:Shared}{z TI TO i1 i2:Addr}{f1 f2:List Addr}{n1 n2 k:Nat}{P1 P2:Nat→Value→Prop}{S1 S2:Nat→Heap→Prop}{a b:Value}
end
section
variable{prog:Program}{w:World}{A:Around}{E:Value→Shared→Prop}{s:Shared}{z TI TO i1 i2 l1 l2:Addr}{k:Nat}{xs ys:Array Value}{a b:Value}
end
section
variable{X:Cx}
end
end L2
namespace L2
open PySem PySem.Spec PyProof.Rows
section
variable{P:Program}{w:World}{K:PySem.W.Frag}{h:Heap}{mg:Str→Option Value}{base:Heap}{k0 J:Nat}{g n q:Str}{st:Stmt}{ps:List Str}{sp:Nat→Sp}
theorem UW(X:K.In h)(G:h.Ns mainGlobals mg)(F:FnG K g n q st)(b:Rf n q st ps)(z:∀vs H Q E,¬sp 0 vs H Q E)
 (step:∀(d:Nat) {f:Addr} {fd:FuncData},CQ P w K mg base (k0+J*d) g ps (sp d)→Fun K n q st f fd→Bu P w K mg base (CX1 P w) (k0+J*d+J) f fd ps (sp (d+1))):
 ∀d,CQ P w K mg base (k0+J*d) g ps (sp d)
 | 0=>Cj X G F b fun _=>⟨fun vs H Q E h=>absurd h (z vs H Q E),fun A outer s H args us vs Q E _ _ _ _ h=>absurd h (z vs H Q E)⟩
 | d+1=>by
  have R:=UW X G F b z step d
  rw[show k0+J*(d+1)=k0+J*d+J by rw[Nat.mul_succ,Nat.add_assoc]]
  exact Cj X G F b fun F'=>step d R F'
end
end L2
namespace L2
open PySem PySem.Spec PyProof.Rows Builtin.Str
section
variable{X:Cx}
theorem eU:MtR X "str.lstrip" (fun x xs H Q=>∃z y,x=.str z∧xs=[.str y]∧z.length≤sizeLine∧Q (.str (if stripSame y.cps.contains true false z then z else stripped y.cps.contains true false z)) H):=by
 intro pins s σ H x xs v us Q I rx rs h
 obtain⟨z,y,rfl,rfl,hz,q⟩:=h
 obtain⟨t,rfl⟩:=(show ∃t,v=Value.str z t from rx)
 obtain⟨u,rfl,ru⟩:=vals1 rs
 obtain⟨t',rfl⟩:=(show ∃t,u=Value.str y t from ru)
 refine call_gives F.slot_str_lstrip (typeIs_str _ _ _) F.entry_str_lstrip (F.args_str_lstrip_2 _ _) (gives_str_lstrip_chars z y t t') ?_
 by_cases c:stripSame y.cps.contains true false z=true
 ·rw[if_pos c] at q ⊢
  exact⟨.str _,H,I,⟨_,rfl⟩,q⟩
 ·rw[if_neg c] at q ⊢
  exact⟨fits_stripped _ _ _ hz,.str _,H,I.tok _,⟨_,rfl⟩,q⟩
end
end L2
namespace L2
open PySem PySem.W PySem.Spec PyProof.Rows
section
variable{κ:Type}[DecidableEq κ]
def Mw(kvs:List (κ×V))(k:κ):Option V:=(kvs.find? fun kv=>decide (kv.1=k)).map (·.2)
def putK(kvs:List (κ×V))(k:κ)(v:V):List (κ×V):=
 if (kvs.any fun kv=>decide (kv.1=k))=true then kvs.map (fun kv=>if kv.1=k then (kv.1,v) else kv) else kvs++[(k,v)]
theorem X6{p:κ×V}{r:List (κ×V)}{k:κ}(e:p.1=k):Mw (p::r) k=some p.2:=by simp[Mw,List.find?_cons,e]
theorem X7{p:κ×V}{r:List (κ×V)}{k:κ}(e:¬p.1=k):Mw (p::r) k=Mw r k:=by simp[Mw,List.find?_cons,e]
theorem Yx(kvs:List (κ×V))(k:κ)(v:V):(putK kvs k v).length≤kvs.length+1:=by
 unfold putK
 split
 ·rw[List.length_map];omega
 ·rw[List.length_append,List.length_cons,List.length_nil];omega
theorem Jp.isSome_eq{o:Option V}{u:Option Value}(r:Jp o u):o.isSome=u.isSome:=by
 cases o with
 | none=>cases u with
  | none=>rfl
  | some _=>exact(show False from r).elim
 | some _=>cases u with
  | none=>exact(show False from r).elim
  | some _=>rfl
theorem Jp.getD{o:Option V}{u:Option Value}{d:V}{d':Value}(r:Jp o u)(rd:RelV d d'):RelV (o.getD d) (u.getD d'):=by
 cases o with
 | none=>cases u with
  | none=>exact rd
  | some _=>exact(show False from r).elim
 | some _=>cases u with
  | none=>exact(show False from r).elim
  | some _=>exact r
theorem KV.val{kvs:List (κ×V)}{vs:List (κ×Value)}(r:KV kvs vs)(k:κ):Jp (Mw kvs k) (valueAt vs k):=by
 unfold KV at r
 induction r with
 | nil=>exact True.intro
 | @cons p q ps qs h t ih=>
  obtain⟨h1,h2⟩:=h
  by_cases e:p.1=k
  ·have e':q.1=k:=h1.symm.trans e
   have b:valueAt (q::qs) k=some q.2:=by simp[valueAt,List.find?_cons,e']
   rw[X6 e,b];exact h2
  ·have e':¬q.1=k:=fun z=>e (h1.trans z)
   have b:valueAt (q::qs) k=valueAt qs k:=by simp[valueAt,List.find?_cons,e']
   rw[X7 e,b];exact ih
theorem KV.any{kvs:List (κ×V)}{vs:List (κ×Value)}(r:KV kvs vs)(k:κ):(kvs.any fun kv=>decide (kv.1=k))=vs.any fun kv=>decide (kv.1=k):=by
 unfold KV at r
 induction r with
 | nil=>rfl
 | cons h t ih=>rw[List.any_cons,List.any_cons,ih,h.1]
theorem KV.repl{kvs:List (κ×V)}{vs:List (κ×Value)}(r:KV kvs vs)(k:κ){y:V}{u:Value}(ry:RelV y u):
 KV (kvs.map fun kv=>if kv.1=k then (kv.1,y) else kv) (vs.map fun kv=>if kv.1=k then (kv.1,u) else kv):=by
 unfold KV at r ⊢
 induction r with
 | nil=>exact .nil
 | @cons p q ps qs h t ih=>
  rw[List.map_cons,List.map_cons]
  refine .cons ?_ ih
  obtain⟨h1,h2⟩:=h
  by_cases e:p.1=k
  ·rw[if_pos e,if_pos (h1.symm.trans e)];exact⟨h1,ry⟩
  ·rw[if_neg e,if_neg (fun z=>e (h1.trans z))];exact⟨h1,h2⟩
theorem KV.put{kvs:List (κ×V)}{vs:List (κ×Value)}(r:KV kvs vs)(k:κ){y:V}{u:Value}(ry:RelV y u):KV (putK kvs k y) (stored vs k u):=by
 unfold putK stored
 rw[r.any k]
 by_cases e:(vs.any fun kv=>decide (kv.1=k))=true
 ·rw[if_pos e,if_pos e];exact r.repl k ry
 ·rw[if_neg e,if_neg e];exact Paired.snoc r ⟨rfl,ry⟩
theorem KV.length{kvs:List (κ×V)}{vs:List (κ×Value)}(r:KV kvs vs):kvs.length=vs.length:=Paired.length r
end
theorem cQ{P:Program}{w:World}{k:Key}{u:Value}(r:RelV (kV k) u):(FQ P w).is k u=true:=by
 cases k with
 | inl i=>obtain⟨t,e⟩:=(show ∃t,u=Value.int i t from r);subst e;exact Yu P w i t
 | inr x=>obtain⟨t,e⟩:=(show ∃t,u=Value.str x t from r);subst e;exact Yt P w x t
theorem V8{P:Program}{w:World}:∀{ks:List Key} {us:List Value},Vals (ks.map kV) us→ItemsAre (FQ P w) ks us
 | [],_,r=>by rw[List.map_nil] at r;cases r;exact .nil
 | k::ks,_,r=>by
  rw[List.map_cons] at r
  cases r with
  | cons h t=>exact .cons (cQ h) (V8 t)
abbrev KT(H:Hp):List (List Key×V)→List (List Key×Addr×Value)→Prop:=Paired fun p q=>p.1=q.1∧H q.2.1=some (.tup (p.1.map kV))∧RelV p.2 q.2.2
theorem KT.val{H:Hp}{kvs:List (List Key×V)}{xs:List (List Key×Addr×Value)}(r:KT H kvs xs)(k:List Key):Jp (Mw kvs k) ((atKey xs k).map (·.2)):=by
 induction r with
 | nil=>exact True.intro
 | @cons p q ps qs h t ih=>
  obtain⟨h1,_,h2⟩:=h
  by_cases e:p.1=k
  ·have e':q.1=k:=h1.symm.trans e
   have b:atKey (q::qs) k=some q.2:=by simp[atKey,List.find?_cons,e']
   rw[X6 e,b];exact h2
  ·have e':¬q.1=k:=fun z=>e (h1.trans z)
   have b:atKey (q::qs) k=atKey qs k:=by simp[atKey,List.find?_cons,e']
   rw[X7 e,b];exact ih
section
variable{P:Program}{w:World}{H:Hp}{h:Heap}{a:Addr}
theorem pG{u:HO}(ok:HOk P w H h)(e:Rd H a u):Dp P w H h a u:=e.ok ok
theorem cz{kvs:List (Key×V)}(ok:HOk P w H h)(e:Rd H a (.dK kvs)):kvs.length≤sizeLine∧(a==sysModules)=false∧∃vs,KV kvs vs∧h.DictOf (FQ P w) a vs:=
 show Dp P w H h a (.dK kvs) from pG ok e
theorem vG{kvs:List (Key×V)}(ok:HOk P w H h)(e:H a=some (.dK kvs)):kvs.length≤sizeLine∧(a==sysModules)=false∧∃vs,KV kvs vs∧h.DictOf (FQ P w) a vs:=cz ok (.inl e)
theorem aR{ks:List Key}(ok:HOk P w H h)(e:H a=some (.tup (ks.map kV))):(tupleKind (FQ P w)).is h ks a:=by
 obtain⟨_,its,r,o,h1,h2,n,h3⟩:=(show Dp P w H h a (.tup (ks.map kV)) from ok a _ e)
 exact⟨o,its.toArray,n,h1,h2,h3,by simpa using V8 r⟩
theorem ju{kvs:List (List Key×V)}(ok:HOk P w H h)(e:Rd H a (.dT kvs)):kvs.length≤sizeLine∧(a==sysModules)=false∧
 ∃xs,KT H kvs xs∧h.DictOfH (tupleKind (FQ P w)) a xs:=by
 obtain⟨z,y,xs,r,o,es,ep,h1,h2,h3,h4,h5⟩:=(show Dp P w H h a (.dT kvs) from pG ok e)
 refine⟨z,y,xs,r,o,es,ep,h1,h2,h3,h4,fun x hx=>?_,h5⟩
 have all:∀{l:List (List Key×V)} {m:List (List Key×Addr×Value)},KT H l m→∀x∈m,(tupleKind (FQ P w)).is h x.1 x.2.1:=by
  intro l m q
  induction q with
  | nil=>intro x hx;exact nomatch hx
  | @cons p q ps qs hq t ih=>
   intro x hx
   rcases List.mem_cons.mp hx with e | hx
   ·subst e
    exact aR ok (by rw[←hq.1];exact hq.2.1)
   ·exact ih x hx
 exact all r x hx
end
def ZR(H:Hp)(a:Addr)(y:V)(r:Option V):Prop:=
 (∃kvs k,Rd H a (.dK kvs)∧y=kV k∧r=Mw kvs k)∨∃kvs k b,Rd H a (.dT kvs)∧y=.ref b∧H b=some (.tup (k.map kV))∧r=Mw kvs k
def vM(H:Hp)(a:Addr)(y v:V)(H':Hp):Prop:=
 (∃kvs k,H a=some (.dK kvs)∧y=kV k∧kvs.length<sizeLine∧H'=upd H a (.dK (putK kvs k v)))∨
 ∃kvs k b,H a=some (.dT kvs)∧y=.ref b∧H b=some (.tup (k.map kV))∧kvs.length<sizeLine∧H'=upd H a (.dT (putK kvs k v))
theorem ZR.k{H:Hp}{a:Addr}{kvs:List (Key×V)}{k:Key}(e:H a=some (.dK kvs)):ZR H a (kV k) (Mw kvs k):=.inl ⟨kvs,k,.inl e,rfl,rfl⟩
theorem vM.k{H:Hp}{a:Addr}{kvs:List (Key×V)}{k:Key}{v:V}(e:H a=some (.dK kvs))(hl:kvs.length<sizeLine):vM H a (kV k) v (upd H a (.dK (putK kvs k v))):=.inl ⟨kvs,k,e,rfl,hl,rfl⟩
section
variable{X:Cx}{pins:List (Addr×Obj)}{σ:St}{H:Hp}{s:Shared}{a:Addr}{y v:V}{u r:Value}{o:Option V}{A:Around}{E:Value→Shared→Prop}
theorem Inv.big(I:Inv X pins σ H s):sysModules<s.heap.objs.size:=by
 have h:mainGlobals<s.heap.objs.size:=(I.mod.glob.keeps I.bk).lt
 exact Nat.lt_trans (by decide) h
theorem fJ{Q:Value→Shared→Prop}(hu:A.units+1<cLine)(I:Inv X pins σ H s)(g:ZR H a y (some v))(ry:RelV y u)(h:∀w' s',Inv X pins σ H s'→RelV v w'→Q w' s'):
 wpAny (model X.prog X.w) A (getItem (.ref a) u) Q E s:=by
 rcases g with ⟨kvs,k,e,ey,l⟩ | ⟨kvs,k,b,e,ey,eb,l⟩
 ·subst ey
  obtain⟨z,hd,vs,rel,dd⟩:=cz I.hok e
  obtain⟨w',hw,rw'⟩:=Jp.some_of (v:=v) (o:=valueAt vs k) (by rw[l];exact rel.val k)
  exact wpAny_getItem_of (cQ ry) dd.mapOf hw (h w' _ (I.tok _) rw')
 ·subst ey
  cases (show u=Value.ref b from ry)
  obtain⟨z,hd,xs,rel,dd⟩:=ju I.hok e
  obtain⟨w',hw,rw'⟩:=Jp.some_of (v:=v) (o:=(atKey xs k).map (·.2)) (by rw[l];exact rel.val k)
  obtain⟨p,hp,hp2⟩:=Option.map_eq_some_iff.mp hw
  refine wpAny_getItem_heap (tupleKind_room_in1 hu) (aR I.hok eb) dd hp ?_
  rw[hp2]
  exact h w' _ (I.tok _) rw'
theorem n8{Q:Value→Shared→Prop}(hu:A.units+1<cLine)(I:Inv X pins σ H s)(g:ZR H a y o)(ry:RelV y u)(h:∀s',Inv X pins σ H s'→Q (.bool (!o.isSome)) s'):
 wpAny (model X.prog X.w) A (compareOp .NotIn u (.ref a)) Q E s:=by
 rcases g with ⟨kvs,k,e,ey,l⟩ | ⟨kvs,k,b,e,ey,eb,l⟩
 ·subst ey
  obtain⟨z,hd,vs,rel,dd⟩:=cz I.hok e
  refine wpAny_notIn_of (cQ ry) hd dd.mapOf ?_
  rw[←(rel.val k).isSome_eq,←l]
  exact h _ (I.tok _)
 ·subst ey
  cases (show u=Value.ref b from ry)
  obtain⟨z,hd,xs,rel,dd⟩:=ju I.hok e
  refine wpAny_notIn_heap (tupleKind_room_in1 hu) (aR I.hok eb) hd dd ?_
  have q:=(rel.val k).isSome_eq
  rw[Option.isSome_map] at q
  rw[←q,←l]
  exact h _ (I.tok _)
theorem n6{h':Heap}{t':Nat}{ob:HO}(I:Inv X pins σ H s)(mu:Mut (H a))(hs:Heap.SameBut a s.heap h')(he:∃q,h'.get? a=some q)(new:Dp X.prog X.w (upd H a ob) h' a ob):
 Inv X pins σ (upd H a ob) { s with heap:=h',toks:=t' }:=
 I.write (x:=a) (e:=a) mu (.inl rfl) (fun b q hb z=>(hs.2 b hb).trans z) he new
theorem tD{P:Program}{w:World}{H':Hp}{h':Heap}{kvs:List (Key×V)}{vs:List (Key×Value)}(z:kvs.length≤sizeLine)(hd:(a==sysModules)=false)(rel:KV kvs vs)(dd:h'.DictOf (FQ P w) a vs):
 Dp P w H' h' a (.dK kvs):=⟨z,hd,vs,rel,dd⟩
end
section
variable{X:Cx}{pins:List (Addr×Obj)}{σ:St}{H:Hp}{s:Shared}{a:Addr}{kvs:List (Key×V)}{k:Key}{u:Value}{A:Around}{E:Value→Shared→Prop}
end
def vL(i:Expr):Prop:=∀ov iv,subscripted i false ov iv=operate [ov,iv] (getItem ov iv)
theorem lF{prog:Program}{w:World}{A:Around}{E:Value→Shared→Prop}{s:Shared}{env:Env}{value slice:Expr}{pos:Pos}{T id:String}{Q:Value→Shared→Prop}
 (hl:typeLookup (.type T) "__getitem__"=pure (some (.builtin id)))(hs:vL slice)
 (h:wpAny (model prog w) A (eval value env) (fun o s₁=>wpAny (model prog w) A (eval slice env) (fun i s₂=>s₂.TypeIs o T∧wpAny (model prog w) A (getItem o i) Q E s₂) E s₁) E s):
 wpAny (model prog w) A (eval (.Subscript value slice pos) env) Q E s:=by
 refine Subscript_ (wpAny_mono h (fun o s₁ h₁=>wpAny_mono h₁ (fun i s₂ h₂=>?_) fun _ _ x=>x) fun _ _ x=>x)
 obtain⟨hT,h₂⟩:=h₂
 unfold subscriptTail
 refine wpAny_bind ?_
 rw[getitemInPython_of_ne hT.not_modules]
 refine wpAny_bind (wpAny_specialOf hT hl ?_)
 have fin:wpAny (model prog w) A (subscripted slice false o i) (fun r s₃=>wpAny (model prog w) A (letTemporaryGo value o r >>= fun _=>pure r) Q E s₃) E s₂:=by
  rw[hs o i]
  exact wpAny_operating (wpAny_mono h₂ (fun r s₃ h₃=>wpAny_bind (wpAny_letTemporaryGo (wpAny_pure h₃))) fun _ _ x=>x)
 first
  | exact wpAny_pure (wpAny_bind fin)
  | exact wpAny_bind (wpAny_pure (wpAny_bind fin))
  | exact wpAny_bind fin
theorem Y8{X:Cx}{pins:List (Addr×Obj)}{σ:St}{H:Hp}{s:Shared}{a:Addr}{y:V}{o:Option V}(I:Inv X pins σ H s)(g:ZR H a y o):s.TypeIs (.ref a) "dict":=by
 rcases g with ⟨kvs,k,e,_,_⟩ | ⟨kvs,k,b,e,_,_,_⟩
 ·obtain⟨_,_,vs,_,dd⟩:=cz I.hok e
  exact dd.typeIs
 ·obtain⟨_,_,xs,_,dd⟩:=ju I.hok e
  exact dd.typeIs
def pB(td ty:TE):TE:=fun σ H Q=>td σ H fun x H1=>ty σ H1 fun y H2=>∃a v,x=.ref a∧ZR H2 a y (some v)∧Q v H2
def bG(ty td:TE):TE:=fun σ H Q=>ty σ H fun y H1=>td σ H1 fun x H2=>∃a o,x=.ref a∧ZR H2 a y o∧Q (.bl (!o.isSome)) H2
section
variable{X:Cx}{o i e value:Expr}{pos pos' tpos:Pos}{td ty tv:TE}
theorem mK(hu:X.A.units+1<cLine)(ho:PE X o td)(hi:PE X i ty)(hs:vL i):PE X (.Subscript o i pos) (pB td ty):=by
 intro pins s σ H Q I h
 refine lF PySem.F.slot_dict_getitem.lookup hs (thn (ho pins s σ H _ I h) fun u s1 ⟨x,H1,I1,rx,q1⟩=>thn (hi pins s1 σ H1 _ I1 q1) fun iv s2 ⟨y,H2,I2,ry,a,v,ex,g,q2⟩=>?_)
 subst ex
 obtain rfl:u=Value.ref a:=rx
 exact⟨Y8 I2 g,fJ hu I2 g ry fun w' s3 I3 rw'=>⟨v,H2,I3,rw',q2⟩⟩
theorem eE(hu:X.A.units+1<cLine)(hi:PE X i ty)(ho:PE X o td):PC X .NotIn i o (bG ty td):=by
 intro pins s σ H Q I h
 refine thn (hi pins s σ H _ I h) fun iv s1 ⟨y,H1,I1,ry,q1⟩=>thn (ho pins s1 σ H1 _ I1 q1) fun u s2 ⟨x,H2,I2,rx,a,ov,ex,g,q2⟩=>?_
 subst ex
 obtain rfl:u=Value.ref a:=rx
 exact n8 hu I2 g ry fun s3 I3=>⟨.bl (!ov.isSome),H2,I3,rfl,q2⟩
end
theorem jz{P:Program}{w:World}{H:Hp}(h:Heap)(hb:sysModules<h.objs.size):Dp P w H (h.push { cls:=.type "dict",data:=.dict #[] }) h.objs.size (.dK []):=
 ⟨Nat.zero_le _,beq_eq_false_iff_ne.mpr (Ne.symm (Nat.ne_of_lt hb)),[],.nil,Heap.DictOf.new h⟩
section
variable{X:Cx}{pos:Pos}
end
def Qd:List (TE×TE)→St→Hp→(List (V×V)→Hp→Prop)→Prop
 | [],_,H,Q=>Q [] H
 | (tk,tv)::r,σ,H,Q=>tk σ H fun x H1=>tv σ H1 fun y H2=>Qd r σ H2 fun ps H3=>Q ((x,y)::ps) H3
abbrev VV:List (V×V)→List (Value×Value)→Prop:=Paired fun p q=>RelV p.1 q.1∧RelV p.2 q.2
def PPs(X:Cx)(pos:Pos)(keys:List (Option Expr))(values:List Expr)(trs:List (TE×TE)):Prop:=
 ∀(pins:List (Addr×Obj)) (s:Shared) (σ:St) (H:Hp) (Q:List (V×V)→Hp→Prop),Inv X pins σ H s→Qd trs σ H Q→
  wpAny (model X.prog X.w) X.A (evalPairs (pairTrees keys values X.env pos)) (fun vs s'=>∃ps H',Inv X pins σ H' s'∧VV ps vs∧Q ps H') X.xe s
theorem mC{X:Cx}{pos:Pos}:PPs X pos [] [] []:=fun pins s σ H Q I h=>pairTrees_nil_walk ⟨[],H,I,.nil,h⟩
theorem YX{X:Cx}{pos:Pos}{k v:Expr}{ks:List (Option Expr)}{vs:List Expr}{tk tv:TE}{trs:List (TE×TE)}(hk:PE X k tk)(hv:PE X v tv)(hr:PPs X pos ks vs trs):
 PPs X pos (some k::ks) (v::vs) ((tk,tv)::trs):=fun pins s σ H Q I h=>
 pairTrees_cons_walk (thn (hk pins s σ H _ I h) fun u s1 ⟨x,H1,I1,rx,q1⟩=>thn (hv pins s1 σ H1 _ I1 q1) fun w2 s2 ⟨y,H2,I2,ry,q2⟩=>
  thn (hr pins s2 σ H2 _ I2 q2) fun ws s3 ⟨ps,H3,I3,rel,q3⟩=>⟨(x,y)::ps,H3,I3,.cons ⟨rx,ry⟩ rel,q3⟩)
def KJ(kvs more:List (Key×V)):List (Key×V):=more.foldl (fun acc kv=>putK acc kv.1 kv.2) kvs
theorem KV.merge:∀{more:List (Key×V)} {rs:List (Key×Value)} {kvs:List (Key×V)} {vs:List (Key×Value)},KV more rs→KV kvs vs→KV (KJ kvs more) (merged vs rs):=by
 intro more rs kvs vs r
 unfold KV at r
 induction r generalizing kvs vs with
 | nil=>intro q;exact q
 | @cons p q ps qs h t ih=>
  intro r0
  have e:KV (putK kvs p.1 p.2) (stored vs q.1 q.2):=by
   have:=r0.put p.1 h.2
   rw[←h.1];exact this
  exact ih e
theorem NZ:∀(more kvs:List (Key×V)),(KJ kvs more).length≤kvs.length+more.length
 | [],kvs=>by show kvs.length≤kvs.length+0;omega
 | p::r,kvs=>by
  have h1:=NZ r (putK kvs p.1 p.2)
  have h2:=Yx kvs p.1 p.2
  show(KJ (putK kvs p.1 p.2) r).length≤_
  rw[List.length_cons];omega
theorem VD{P:Program}{w:World}:∀{kvs:List (Key×V)} {ws:List (Value×Value)},VV (kvs.map fun kv=>(kV kv.1,kv.2)) ws→∃rs,Carries (FQ P w) ws rs∧KV kvs rs
 | [],_,r=>by rw[List.map_nil] at r;cases r;exact⟨[],True.intro,.nil⟩
 | p::kvs,_,r=>by
  rw[List.map_cons] at r
  cases r with
  | @cons a b as bs h t=>
   obtain⟨rs,c,q⟩:=VD (P:=P) (w:=w) t
   obtain⟨b1,b2⟩:=b
   exact⟨(p.1,b2)::rs,⟨cQ h.1,rfl,c⟩,.cons ⟨rfl,h.2⟩ q⟩
def pA(trs:List (TE×TE)):TE:=fun σ H Q=>∀p,H p=none→Qd trs σ (upd H p (.dK [])) fun ps H2=>H2 p=some (.dK [])∧∃kvs:List (Key×V),ps=kvs.map (fun kv=>(kV kv.1,kv.2))∧kvs.length≤15∧Q (.ref p) (upd H2 p (.dK (KJ [] kvs)))
theorem mJ{X:Cx}{pos:Pos}{keys:List (Option Expr)}{values:List Expr}{trs:List (TE×TE)}(h:PPs X pos keys values trs)(hall:keys.all (·.isSome)=true)(hl:keys.length=values.length)(h0:keys≠[])
 (h15:keys.length≤15):PE X (.Dict keys values pos) (pA trs):=by
 intro pins s σ H Q I q
 have hn:=I.hok.fresh (Nat.le_refl s.heap.objs.size)
 have I1:=I.laid (a:=s.heap.objs.size) (o:=.dK []) (h':=s.heap.push { cls:=.type "dict",data:=.dict #[] }) (t':=s.toks) (fun _ _ q=>Heap.get?_push_of_some _ q) (Nat.le_refl _) (jz s.heap I.big)
 refine wpAny_Dict_walk (knd:=FQ X.prog X.w) hall hl h0 h15 (thn (h pins _ σ _ _ I1 (q _ hn)) fun ws s2 ⟨ps,H2,I2,rel,e,kvs,ep,lk,q2⟩=>?_)
 subst ep
 obtain⟨rs,c,rk⟩:=VD (P:=X.prog) (w:=X.w) rel
 obtain⟨z,hd,vs0,r0,dd⟩:=vG I2.hok e
 cases r0
 refine⟨rs,c,dd,fun h' dd' hs=>⟨.ref s.heap.objs.size,_,?_,rfl,q2⟩⟩
 have hz:(KJ [] kvs).length≤sizeLine:=by
  have h1:=NZ kvs []
  rw[List.length_nil] at h1
  rw[sizeLine_eq];omega
 have he:∃q,h'.get? s.heap.objs.size=some q:=let ⟨q,_,_,hq,_⟩:=dd';⟨q,hq⟩
 exact n6 I2 (by rw[e];exact True.intro) hs he (tD hz hd (rk.merge .nil) dd')
end L2
local macro_rules | `(tactic| walk_at "rd1")=> `(tactic| first
 | with_reducible refine L2.qO ?_ | with_reducible refine L2.qP ?_ | with_reducible refine L2.qi ?_ | with_reducible refine L2.qW ?_ | with_reducible refine L2.lR ?_ | with_reducible refine L2.lW ?_
 | with_reducible refine L2.uX ?_ | ((with_reducible refine' L2.iG ?ev ?_);(case ev=>exact rfl)) | with_reducible refine L2.vX ?_ | with_reducible refine L2.uV ?_ | with_reducible refine L2.lN ?_ | with_reducible refine L2.vY ?_
 | with_reducible refine L2.uc ?_ | with_reducible refine L2.vW ?_ | ((with_reducible refine' L2.ud ?es ?_);(case es=>exact rfl)) | ((with_reducible refine' L2.uY ?es ?_);(case es=>exact rfl))
 | with_reducible refine L2.bh ?_ | with_reducible refine L2.qR ?_ | with_reducible refine L2.qj ?_ | with_reducible refine L2.uW ?_ | with_reducible refine L2.lY ?_ | with_reducible refine L2.rd_orV ?_ | with_reducible refine L2.rd_notV ?_ | with_reducible refine L2.iT ?_
 | with_reducible refine L2.lX ?_ | with_reducible refine L2.ue ?_ | with_reducible refine L2.Q5 ?_ | with_reducible refine L2.bY ?_ | with_reducible refine L2.qM ?_ | with_reducible refine L2.qT ?_
 | with_reducible refine L2.qd ?_ | with_reducible refine L2.iM ?_ | with_reducible refine L2.qX ?_ | with_reducible refine L2.lO ?_ | with_reducible refine L2.lU ?_ | with_reducible refine L2.iJ ?_ | with_reducible refine L2.uZ ?_ | with_reducible refine L2.rd_lra ?_ | with_reducible refine L2.iI ?_ | with_reducible refine L2.lQ ?_ | with_reducible refine L2.qY ?_ | with_reducible refine L2.dj ?_ | with_reducible refine L2.qN ?_ | with_reducible refine L2.rd_truI ?_ | with_reducible refine L2.lV ?_ | with_reducible refine L2.iV ?_
 | with_reducible refine L2.qQ ?_ | with_reducible refine L2.iR ?_ | with_reducible refine L2.rd_gcons ?_ | with_reducible refine L2.rd_gnil ?_
 | ((with_reducible refine' L2.Ew ?ec ?_);(case ec=>first | ((with_reducible show L2.vN _ _);exact⟨by decide,by decide,by decide⟩) | ((with_reducible show L2.kZ _ _);exact L2.Kc (by decide) (by decide)) | (show (0:Int)<_;first | decide | omega | exact L2.pow2_pos _))))
local macro_rules | `(tactic| walk_at "d")=> `(tactic| repeat walk_at "rd1")
local macro_rules | `(tactic| walk_at "fm")=> `(tactic| (repeat (first | exact List.forall_mem_nil _ | refine List.forall_mem_cons.mpr ⟨by with_unfolding_all rfl,?_⟩)))
local macro_rules | `(tactic| walk_at "rdi")=> `(tactic| ((with_reducible refine' L2.Bj ?hs1 ?he1 ?_);(case hs1=>first | assumption | exact L2.SqT.of (by assumption));(case he1=>exact rfl)))
local macro_rules | `(tactic| walk_at "f")=> `(tactic| ((with_reducible refine L2.W9 ?_);(first | with_reducible refine L2.bW ?_ | with_reducible refine L2.pI ?_ | with_reducible refine L2.bV ?_ | with_reducible refine L2.rd_rng2 ?_ | with_reducible refine L2.bU ?_ | with_reducible refine L2.rd_rng2A ?_)))
local macro_rules | `(tactic| walk_at "x")=> `(tactic| (repeat (first | walk_at "rd1" | with_reducible refine L2.YT ?_ | with_reducible refine L2.iK ?_ | with_reducible refine L2.rd_methE ?_ | with_reducible refine L2.dq ?_ | with_reducible refine L2.YQ ?_ | with_reducible refine L2.iH ?_ | with_reducible refine L2.iD ?_ | with_reducible refine L2.qL ?_ | with_reducible refine L2.rd_xf2 ?_ | with_reducible refine L2.Mp ?_ | with_reducible refine L2.bR ?_ | with_reducible refine L2.N8 ?_)))
local macro_rules | `(tactic| walk_at "b0")=> `(tactic| (intro _ _ _ _ _ _ us hl;have h:us=[]:=List.length_eq_zero_iff.mp hl;subst h;rfl))
local macro_rules | `(tactic| walk_at "b1")=> `(tactic| (intro _ _ _ _ _ _ us hl;obtain⟨_,h⟩:=L2.vo hl;subst h;rfl))
local macro_rules | `(tactic| walk_at "b2")=> `(tactic| (intro _ _ _ _ _ _ us hl;obtain⟨_,_,h⟩:=L2.jd hl;subst h;rfl))
local macro_rules | `(tactic| walk_at "b3")=> `(tactic| (intro _ _ _ _ _ _ us hl;obtain⟨_,_,_,h⟩:=L2.rT hl;subst h;rfl))
local macro_rules | `(tactic| walk_at "b4")=> `(tactic| (intro _ _ _ _ _ _ us hl;obtain⟨_,_,_,_,h⟩:=L2.uy hl;subst h;rfl))
local macro_rules | `(tactic| walk_at "b5")=> `(tactic| (intro _ _ _ _ _ _ us hl;obtain⟨_,_,_,_,_,h⟩:=L2.rR hl;subst h;rfl))
local macro_rules | `(tactic| walk_at "b6")=> `(tactic| (intro _ _ _ _ _ _ us hl;obtain⟨_,_,_,_,_,_,h⟩:=L2.vm hl;subst h;rfl))
local macro_rules | `(tactic| walk_at "b7")=> `(tactic| (intro _ _ _ _ _ _ us hl;obtain⟨_,_,_,_,_,_,_,h⟩:=L2.ux hl;subst h;rfl))
local macro_rules | `(tactic| walk_at "b8")=> `(tactic| (intro _ _ _ _ _ _ us hl;obtain⟨_,_,_,_,_,_,_,_,h⟩:=L2.vh hl;subst h;rfl))
namespace Fw
theorem Oo(r d:Int)(hd:d≠0):0≤r.fmod d*d∧(r.fmod d).natAbs<d.natAbs:=by
 rcases(by omega:0<d∨d<0) with h | h
 ·have a:=Int.fmod_nonneg_of_pos r h
  have b:=Int.fmod_lt_of_pos r h
  exact⟨Int.mul_nonneg a (Int.le_of_lt h),by omega⟩
 ·have e:r.fmod d= -((-r).fmod (-d)):=by
   rw[Int.fmod_def,Int.fmod_def,Int.neg_fdiv_neg,Int.neg_mul];omega
  have a:=Int.fmod_nonneg_of_pos (-r) (b:= -d) (by omega)
  have b:=Int.fmod_lt_of_pos (-r) (b:= -d) (by omega)
  rw[e]
  generalize (-r).fmod (-d)=z at*
  refine⟨?_,by omega⟩
  have:=Int.mul_nonneg a (show 0≤ -d by omega)
  rw[Int.neg_mul];rw[Int.mul_neg] at this;omega
structure EqI(a b u v r u' v' r':Int):Prop where
 e1:u*a+v*b=r
 e2:u'*a+v'*b=r'
 g:Int.gcd r r'=Int.gcd a b
 ph:(u=1∧v=0∧r=a∧u'=0∧v'=1∧r'=b)∨
  (b≠0∧r≠0∧0≤r'*r∧r.natAbs≤b.natAbs∧r'.natAbs≤b.natAbs∧u'.natAbs*r.natAbs+u.natAbs*r'.natAbs≤b.natAbs∧u.natAbs≤b.natAbs+1)
theorem EqI.start(a b:Int):EqI a b 1 0 a 0 1 b:=⟨by omega,by omega,rfl,.inl ⟨rfl,rfl,rfl,rfl,rfl,rfl⟩⟩
theorem Lx(u q x:Int):(u-q*x).natAbs≤u.natAbs+q.natAbs*x.natAbs:=by
 have h:=Int.natAbs_sub_le u (q*x)
 rw[Int.natAbs_mul] at h
 exact h
theorem T9{r d:Int}(hd:d≠0)(hs:0≤d*r):(r-r.fdiv d*d).natAbs+(r.fdiv d).natAbs*d.natAbs=r.natAbs:=by
 have e:r.fmod d+r.fdiv d*d=r:=Int.fmod_add_fdiv_mul r d
 have e2:r-r.fdiv d*d=r.fmod d:=by omega
 rw[e2,←Int.natAbs_mul]
 have fs:=Oo r d hd
 rcases(by omega:0<d∨d<0) with h | h
 ·have r0:0≤r:=by
   rcases(by omega:0≤r∨r<0) with z | z
   ·exact z
   ·have:=Int.mul_neg_of_pos_of_neg h z;omega
  have q0:0≤r.fdiv d:=Int.fdiv_nonneg r0 (Int.le_of_lt h)
  have a:=Int.fmod_nonneg_of_pos r h
  have p:=Int.mul_nonneg q0 (Int.le_of_lt h)
  omega
 ·have r0:r≤0:=by
   rcases(by omega:r≤0∨0<r) with z | z
   ·exact z
   ·have:=Int.mul_neg_of_neg_of_pos h z;omega
  have q0:0≤r.fdiv d:=Int.fdiv_nonneg_of_nonpos_of_nonpos r0 (Int.le_of_lt h)
  have a:r.fmod d≤0:=by
   rcases(by omega:r.fmod d≤0∨0<r.fmod d) with z | z
   ·exact z
   ·have:=Int.mul_neg_of_pos_of_neg z h;omega
  have p:=Int.mul_nonneg q0 (show 0≤ -d by omega)
  rw[Int.mul_neg] at p
  omega
theorem EqI.step{a b u v r u' v' r':Int}(I:EqI a b u v r u' v' r')(h:r'≠0):
 EqI a b u' v' r' (u-r.fdiv r'*u') (v-r.fdiv r'*v') (r-r.fdiv r'*r')∧(r-r.fdiv r'*r').natAbs<r'.natAbs:=by
 have e:r.fmod r'+r.fdiv r'*r'=r:=Int.fmod_add_fdiv_mul r r'
 have e2:r-r.fdiv r'*r'=r.fmod r':=by omega
 have fs:=Oo r r' h
 refine⟨⟨I.e2,?_,?_,?_⟩,by rw[e2];exact fs.2⟩
 ·have:=I.e1
  have:=I.e2
  grind
 ·rw[Int.gcd_sub_mul_right_right,Int.gcd_comm]
  exact I.g
 ·right
  rcases I.ph with ⟨h1,h2,h3,h4,h5,h6⟩ | ⟨hb,hr,hs,l1,l2,l3,l4⟩
  ·subst h1 h2 h3 h4 h5 h6
   refine⟨h,h,by rw[e2];exact fs.1,Nat.le_refl _,by rw[e2];omega,?_,by simp⟩
   simp
  ·have q:=T9 h hs
   refine⟨hb,h,by rw[e2];exact fs.1,l2,by rw[e2];omega,?_,?_⟩
   ·have m:=Lx u (r.fdiv r') u'
    generalize (r-r.fdiv r'*r').natAbs=A at*
    generalize (u-r.fdiv r'*u').natAbs=B at*
    generalize (r.fdiv r').natAbs=C at*
    have k1:B*r'.natAbs≤(u.natAbs+C*u'.natAbs)*r'.natAbs:=Nat.mul_le_mul_right _ m
    have k2:(u.natAbs+C*u'.natAbs)*r'.natAbs+u'.natAbs*A=u.natAbs*r'.natAbs+u'.natAbs*(A+C*r'.natAbs):=by grind
    rw[q] at k2
    omega
   ·have:u'.natAbs*1≤u'.natAbs*r.natAbs:=Nat.mul_le_mul_left _ (by omega)
    omega
theorem v_bound{a b u v r:Int}(hb:b≠0)(e:u*a+v*b=r)(l1:r.natAbs≤b.natAbs)(l4:u.natAbs≤b.natAbs+1):v.natAbs≤1+2*a.natAbs:=by
 have e1:v*b=r-u*a:=by omega
 have h:=Lx r u a
 rw[←e1,Int.natAbs_mul] at h
 have hb':0<b.natAbs:=by omega
 have k:u.natAbs*a.natAbs≤(b.natAbs+1)*a.natAbs:=Nat.mul_le_mul_right _ l4
 have k2:a.natAbs*1≤a.natAbs*b.natAbs:=Nat.mul_le_mul_left _ hb'
 have k3:v.natAbs*b.natAbs≤(1+2*a.natAbs)*b.natAbs:=by grind
 exact Nat.le_of_mul_le_mul_right k3 hb'
theorem EqI.bounds{a b u v r u' v' r':Int}(I:EqI a b u v r u' v' r'):
 u.natAbs≤b.natAbs+1∧v.natAbs≤1+2*a.natAbs∧u'.natAbs≤b.natAbs+1∧v'.natAbs≤1+2*a.natAbs∧r.natAbs≤a.natAbs+b.natAbs∧r'.natAbs≤b.natAbs:=by
 rcases I.ph with ⟨h1,h2,h3,h4,h5,h6⟩ | ⟨hb,hr,hs,l1,l2,l3,l4⟩
 ·subst h1 h2 h3 h4 h5 h6
  refine⟨by simp,by simp,by simp,by simp,by omega,by omega⟩
 ·have:u'.natAbs*1≤u'.natAbs*r.natAbs:=Nat.mul_le_mul_left _ (by omega)
  have lu:u'.natAbs≤b.natAbs+1:=by omega
  exact⟨l4,v_bound hb I.e1 l1 l4,lu,v_bound hb I.e2 l2 lu,by omega,l2⟩
theorem Z5{r d:Int}(hd:d≠0):(r.fdiv d).natAbs≤r.natAbs+1:=by
 have e:r.fmod d+r.fdiv d*d=r:=Int.fmod_add_fdiv_mul r d
 have fs:=(Oo r d hd).2
 have h:(r.fdiv d*d).natAbs≤r.natAbs+(r.fmod d).natAbs:=by omega
 rw[Int.natAbs_mul] at h
 have d1:1≤d.natAbs:=by omega
 generalize (r.fdiv d).natAbs=x at*
 generalize d.natAbs=y at*
 generalize r.natAbs=z at*
 rcases(by omega:x≤1∨2≤x) with c | c
 ·omega
 ·obtain⟨k,rfl⟩:∃k,x=k+1:=⟨x-1,by omega⟩
  have:(k+1)*y=k*y+y:=Nat.succ_mul k y
  have:k*1≤k*y:=Nat.mul_le_mul_left k d1
  omega
structure Eqn(a b u v g:Int):Prop where
 eq:u*a+v*b=g
 gd:g=(Int.gcd a b:Int)
 bu:u.natAbs≤b.natAbs+1
 bv:v.natAbs≤1+2*a.natAbs
theorem EqI.done{a b u v r u' v':Int}(I:EqI a b u v r u' v' 0):(r<0→Eqn a b (-u) (-v) (-r))∧(¬r<0→Eqn a b u v r):=by
 have g:=I.g
 rw[Int.gcd_zero_right] at g
 have B:=I.bounds
 refine⟨fun h=>⟨?_,by omega,by omega,by omega⟩,fun h=>⟨I.e1,by omega,B.1,B.2.1⟩⟩
 have:=I.e1
 rw[Int.neg_mul,Int.neg_mul];omega
end Fw
namespace Fw
theorem S6{a b:Int}(ha:0<a):0<(Int.gcd a b:Int):=by
 have:Int.gcd a b≠0:=fun z=>by
  have:=Int.eq_zero_of_gcd_eq_zero_left z
  omega
 omega
theorem jm{a b:Int}(ha:0<a):(Int.gcd a b:Int)≤a:=Int.le_of_dvd ha (Int.gcd_dvd_left ..)
def DN(a b:Int):Int:=a/(Int.gcd a b:Int)*b
theorem DG{a b:Int}(ha:0<a)(hb:0<b):
 0<DN a b∧a∣DN a b∧b∣DN a b∧DN a b*(Int.gcd a b:Int)=a*b∧(∀t,a∣t→b∣t→DN a b∣t)∧DN a b=(Int.lcm a b:Int):=by
 have gp:=S6 (b:=b) ha
 obtain⟨x,hx⟩:(Int.gcd a b:Int)∣a:=Int.gcd_dvd_left ..
 obtain⟨y,hy⟩:(Int.gcd a b:Int)∣b:=Int.gcd_dvd_right ..
 have e1:a/(Int.gcd a b:Int)=x:=by
  have gne:(Int.gcd a b:Int)≠0:=by omega
  generalize hg:(Int.gcd a b:Int)=g at*
  rw[hx]
  exact Int.mul_ediv_cancel_left x gne
 have e:DN a b=x*b:=by unfold DN;rw[e1]
 have pr:DN a b*(Int.gcd a b:Int)=a*b:=by rw[e];conv=>rhs;rw[hx]
                                          grind
 have pl:(Int.lcm a b:Int)*(Int.gcd a b:Int)=a*b:=by
  have h:=Int.gcd_mul_lcm a b
  have h2:((Int.gcd a b*Int.lcm a b:Nat):Int)=((a.natAbs*b.natAbs:Nat):Int):=by rw[h]
  rw[Int.natCast_mul,Int.natCast_mul,Int.natAbs_of_nonneg (Int.le_of_lt ha),Int.natAbs_of_nonneg (Int.le_of_lt hb)] at h2
  rw[Int.mul_comm];exact h2
 have el:DN a b=(Int.lcm a b:Int):=Int.eq_of_mul_eq_mul_right (by omega:(Int.gcd a b:Int)≠0) (pr.trans pl.symm)
 refine⟨?_,?_,?_,pr,?_,el⟩
 ·have:0<DN a b*(Int.gcd a b:Int):=by rw[pr];exact Int.mul_pos ha hb
  exact Int.pos_of_mul_pos_left this gp
 ·rw[el];exact Int.dvd_lcm_left ..
 ·rw[el];exact Int.dvd_lcm_right ..
 ·intro t h1 h2;rw[el];exact Int.coe_lcm_dvd h1 h2
theorem cP{a b:Int}(ha:0<a)(hb:0<b):DN a b≤a*b:=by
 have f:=DG ha hb
 have gp:=S6 (b:=b) ha
 have h:DN a b*1≤DN a b*(Int.gcd a b:Int):=Int.mul_le_mul_of_nonneg_left (by omega) (Int.le_of_lt f.1)
 rw[f.2.2.2.1] at h;omega
end Fw
namespace Fw
def On(n:Int)(b:Nat)(d:Int):Bool:=b.testBit (d%n).toNat
theorem Ky(b k:Nat):((b:Nat):Int)/2^k=((b >>> k:Nat):Int):=by
 rw[Nat.shiftRight_eq_div_pow,Int.natCast_ediv,Int.natCast_pow];rfl
theorem Tu(b k:Nat):((b:Nat):Int)*2^k=((b <<< k:Nat):Int):=by
 rw[Nat.shiftLeft_eq,Int.natCast_mul,Int.natCast_pow];rfl
theorem fH(k:Nat):(1:Int)*2^k-1=((2^k-1:Nat):Int):=by
 have:0<2^k:=Nat.two_pow_pos k
 rw[Int.natCast_sub (by omega),Int.natCast_pow];simp
theorem iw(k:Nat):(1:Int)*2^k=((2^k:Nat):Int):=by
 rw[Int.natCast_pow];simp
theorem high{n b i:Nat}(hb:b<2^n)(h:n≤i):b.testBit i=false:=by
 have p:2^n≤2^i:=Nat.pow_le_pow_right (by decide) h
 exact Nat.testBit_lt_two_pow (by omega)
theorem MN(c w:Nat):c &&& (2^w-1)<2^w:=by
 rw[Nat.and_two_pow_sub_one_eq_mod];exact Nat.mod_lt _ (Nat.two_pow_pos w)
theorem QX(c w i:Nat)(h:i<w):(c &&& (2^w-1)).testBit i=c.testBit i:=by
 rw[Nat.testBit_and,Nat.testBit_two_pow_sub_one];simp[h]
def lat(n b s:Nat):Nat:=((b <<< s) ||| (b >>> (n-s))) &&& (2^n-1)
theorem RX(n b s:Nat):lat n b s<2^n:=MN _ _
structure Rb(n b w c:Nat):Prop where
 lt:c<2^w
 bit:∀i,i<w→c.testBit i=b.testBit (i%n)
theorem Rb.start{n b:Nat}(h:b<2^n):Rb n b n b:=⟨h,fun i hi=>by rw[Nat.mod_eq_of_lt hi]⟩
theorem Rb.dbl{n b w c:Nat}(S:Rb n b w c)(hd:n∣w):Rb n b (w*2) (c ||| (c <<< w)):=by
 have e:2^(w*2)=2^w*2^w:=by rw[Nat.mul_two,Nat.pow_add]
 refine⟨?_,fun i hi=>?_⟩
 ·refine Nat.or_lt_two_pow (Nat.lt_of_lt_of_le S.lt (Nat.pow_le_pow_right (by decide) (by omega))) ?_
  rw[Nat.shiftLeft_eq,e]
  exact Nat.mul_lt_mul_of_pos_right S.lt (Nat.two_pow_pos w)
 ·rw[Nat.testBit_or,Nat.testBit_shiftLeft]
  by_cases h:i<w
  ·rw[S.bit i h];simp[Nat.not_le.mpr h]
  ·rw[high S.lt (by omega),S.bit (i-w) (by omega)]
   obtain⟨k,rfl⟩:=hd
   have e2:i=(i-n*k)+n*k:=by omega
   have e3:i%n=(i-n*k)%n:=by conv=>lhs;rw[e2,Nat.add_mul_mod_self_left]
   rw[e3];simp;intro z;omega
theorem Rb.cut{n b w c z:Nat}(S:Rb n b w c)(h:z≤w):Rb n b z (c &&& (2^z-1)):=
 ⟨MN _ _,fun i hi=>by rw[QX _ _ _ hi,S.bit i (by omega)]⟩
end Fw
namespace Fw
def hit(n:Int)(ds:List Int)(d:Int):Bool:=ds.any fun x=>decide ((d-x)%n=0)
structure RB(n:Int)(ds:List Int)(b:Nat):Prop where
 lt:b<2^n.toNat
 bit:∀d,On n b d=hit n ds d
theorem RB.nil(n:Int):RB n [] 0:=⟨Nat.two_pow_pos _,fun d=>by unfold On hit;simp⟩
theorem Wb{n d x:Int}(hn:0<n):(d-x)%n=0↔d%n=x%n:=by
 rw[Int.sub_emod]
 have h1:=Int.emod_nonneg d (show n≠0 by omega)
 have h2:=Int.emod_lt_of_pos d hn
 have h3:=Int.emod_nonneg x (show n≠0 by omega)
 have h4:=Int.emod_lt_of_pos x hn
 constructor
 ·intro h
  have:=Int.dvd_of_emod_eq_zero h
  obtain⟨k,hk⟩:=this
  have:k=0:=by
   rcases Int.lt_trichotomy k 0 with z | z | z
   ·have:n*k≤n*(-1):=Int.mul_le_mul_of_nonneg_left (by omega) (by omega)
    omega
   ·exact z
   ·have:n*1≤n*k:=Int.mul_le_mul_of_nonneg_left (by omega) (by omega)
    omega
  subst this
  omega
 ·intro h
  rw[h]
  simp
theorem RB.snoc{n:Int}{ds:List Int}{b:Nat}{x:Int}(hn:0<n)(h:RB n ds b):RB n (ds++[x]) (b ||| 2^(x%n).toNat):=by
 have h3:=Int.emod_nonneg x (show n≠0 by omega)
 have h4:=Int.emod_lt_of_pos x hn
 refine⟨Nat.or_lt_two_pow h.lt (Nat.pow_lt_pow_right (by decide) (by omega)),fun d=>?_⟩
 have h1:=Int.emod_nonneg d (show n≠0 by omega)
 have hb:=h.bit d
 unfold On hit at*
 rw[Nat.testBit_or,hb,List.any_append,Nat.testBit_two_pow]
 congr 1
 rw[List.any_cons,List.any_nil,Bool.or_false,Bool.eq_iff_iff,decide_eq_true_eq,decide_eq_true_eq,Wb hn]
 omega
end Fw
namespace Fw
def cnt(b:Nat):Nat→Nat
 | 0=>0
 | k+1=>cnt b k+(if b.testBit k then 1 else 0)
theorem ZD(b:Nat):∀k,cnt b (k+1)=b%2+cnt (b/2) k
 | 0=>by
  simp only[cnt,Nat.testBit_zero]
  have:=Nat.mod_two_eq_zero_or_one b
  rcases this with h | h<;>simp[h]
 | k+1=>by
  have ih:=ZD b k
  rw[cnt,ih]
  show b%2+cnt (b/2) k+_=b%2+(cnt (b/2) k+_)
  rw[Nat.testBit_succ]
  omega
def CC(n:Int)(b:Nat)(d:Int):Int:=d/n*(cnt b n.toNat:Int)+(cnt b (d%n).toNat:Int)
theorem Mv{n:Int}{b:Nat}(hn:0<n)(d:Int):CC n b (d+1)=CC n b d+(if On n b d then 1 else 0):=by
 have h1:=Int.emod_nonneg d (show n≠0 by omega)
 have h2:=Int.emod_lt_of_pos d hn
 have h3:=Int.mul_ediv_add_emod d n
 unfold CC On
 by_cases hl:d%n=n-1
 ·have hd:d+1=n*(d/n+1):=by rw[Int.mul_add,Int.mul_one];omega
  have e1:(d+1)/n=d/n+1:=by rw[hd];exact Int.mul_ediv_cancel_left _ (by omega)
  have e2:(d+1)%n=0:=by rw[hd];exact Int.mul_emod_right _ _
  have e3:n.toNat=(d%n).toNat+1:=by omega
  rw[e1,e2]
  show(d/n+1)*(cnt b n.toNat:Int)+((cnt b 0:Nat):Int)=_
  have e4:(cnt b n.toNat:Int)=(cnt b (d%n).toNat:Int)+(if b.testBit (d%n).toNat then 1 else 0):=by
   rw[e3,cnt]
   split<;>simp
  have e5:((cnt b 0:Nat):Int)=0:=rfl
  rw[Int.add_mul,Int.one_mul,e5]
  omega
 ·have e1:(d+1)/n=d/n:=by
   have:d+1=n*(d/n)+(d%n+1):=by omega
   rw[this,Int.mul_add_ediv_left _ _ (by omega),Int.ediv_eq_zero_of_lt (a:=d%n+1) (b:=n) (by omega) (by omega),Int.add_zero]
  have e2:(d+1)%n=d%n+1:=by
   have:d+1=n*(d/n)+(d%n+1):=by omega
   rw[this,Int.mul_add_emod_self_left]
   exact Int.emod_eq_of_lt (by omega) (by omega)
  rw[e1,e2]
  have e3:(d%n+1).toNat=(d%n).toNat+1:=by omega
  rw[e3,cnt]
  split<;>simp<;>omega
theorem oV{n:Int}{b:Nat}(hn:0<n)(d:Int):CC n b (d+n)=CC n b d+(cnt b n.toNat:Int):=by
 unfold CC
 have e1:(d+n)/n=d/n+1:=by rw[Int.add_ediv_of_dvd_right (Int.dvd_refl n),Int.ediv_self (by omega)]
 have e2:(d+n)%n=d%n:=Int.add_emod_right d n
 rw[e1,e2,Int.add_mul,Int.one_mul]
 omega
theorem Rp{n:Int}{b:Nat}(hn:0<n)(d:Int):∀k:Nat,CC n b d≤CC n b (d+(k:Int))
 | 0=>by simp
 | k+1=>by
  have ih:=Rp (b:=b) hn d k
  have e:=Mv (b:=b) hn (d+(k:Int))
  have:d+((k+1:Nat):Int)=d+(k:Int)+1:=by omega
  rw[this,e]
  split<;>omega
theorem TF{n:Int}{b:Nat}(hn:0<n){d e:Int}(h:d≤e):CC n b d≤CC n b e:=by
 have:=Rp (b:=b) hn d (e-d).toNat
 rwa [show d+((e-d).toNat:Int)=e by omega] at this
end Fw
namespace Fw
end Fw
namespace Fw
def NB(w:Nat):List Nat→Nat
 | []=>0
 | a::l=>a+2^w*NB w l
def fsum:List Nat→Nat
 | []=>0
 | a::l=>a+fsum l
def Dg(w f s:Nat):Prop:=∃l:List Nat,(∀a∈l,a≤w)∧f=NB w l∧s=fsum l
theorem Dg.nil{w:Nat}:Dg w 0 0:=⟨[],(fun _ h=>nomatch h),rfl,rfl⟩
theorem Dg.cons{w a f s:Nat}(h:a≤w)(g:Dg w f s):Dg w (a+2^w*f) (a+s):=by
 obtain⟨l,h1,rfl,rfl⟩:=g
 exact⟨a::l,fun x hx=>(List.mem_cons.mp hx).elim (fun e=>e ▸ h) (h1 x),rfl,rfl⟩
def Ev(w f e:Nat):Prop:=∀i,e.testBit i=(f.testBit i&&decide (i%(2*w)<w))
theorem WD{w:Nat}:∀l:List Nat,NB w l=0→fsum l=0
 | [],_=>rfl
 | a::l,e=>by
  have e:a+2^w*NB w l=0:=e
  have e1:a=0:=by omega
  have e2:2^w*NB w l=0:=by omega
  have p:=Nat.two_pow_pos w
  rcases Nat.mul_eq_zero.mp e2 with z | z
  ·omega
  ·show a+fsum l=0
   rw[e1,WD l z]
theorem Dg.last{w f s:Nat}(h:Dg w f s)(hl:f<2^w):f=s:=by
 obtain⟨l,_,rfl,rfl⟩:=h
 cases l with
 | nil=>rfl
 | cons a l=>
  have hl:a+2^w*NB w l<2^w:=hl
  have z:NB w l=0:=by
   rcases Nat.eq_zero_or_pos (NB w l) with z | z
   ·exact z
   ·have:=Nat.le_mul_of_pos_right (2^w) z
    omega
  show a+2^w*NB w l=a+fsum l
  rw[WD l z,z];simp
theorem WP{w a h:Nat}(ha:a<2^w)(i:Nat):(a+2^w*h).testBit i=if i<w then a.testBit i else h.testBit (i-w):=by
 rw[Nat.add_comm,Nat.testBit_two_pow_mul_add h ha]
theorem Ev.peel{w a h e:Nat}(w0:0<w)(ha:a<2^w)(H:Ev w (a+2^w*h) e):e=a+2^(2*w)*(e/2^(2*w))∧Ev w (h/2^w) (e/2^(2*w)):=by
 have e1:e%2^(2*w)=a:=by
  refine Nat.eq_of_testBit_eq fun i=>?_
  rw[Nat.testBit_mod_two_pow,H i,WP ha]
  by_cases c:i<w
  ·rw[if_pos c,Nat.mod_eq_of_lt (by omega)]
   simp[c,show i<2*w by omega]
  ·rw[if_neg c]
   have:a.testBit i=false:=Nat.testBit_lt_two_pow (Nat.lt_of_lt_of_le ha (Nat.pow_le_pow_right (by decide) (by omega)))
   rw[this]
   by_cases c2:i<2*w
   ·rw[Nat.mod_eq_of_lt c2]
    simp[c]
   ·simp[c2]
 refine⟨?_,fun i=>?_⟩
 ·have:=Nat.mod_add_div e (2^(2*w))
  rw[e1] at this
  exact this.symm
 ·rw[←Nat.shiftRight_eq_div_pow,←Nat.shiftRight_eq_div_pow,Nat.testBit_shiftRight,Nat.testBit_shiftRight,H,WP ha,if_neg (by omega),show 2*w+i-w=w+i by omega,Nat.add_mod_left]
theorem pR{w:Nat}(w0:0<w):∀l:List Nat,(∀a∈l,a≤w)→∀e1 e2,Ev w (NB w l) e1→Ev w (NB w l/2^w) e2→Dg (2*w) (e1+e2) (fsum l)∧e1+e2≤NB w l
 | [],_,e1,e2,h1,h2=>by
  have z:∀e,Ev w 0 e→e=0:=fun e he=>Nat.eq_of_testBit_eq fun i=>by rw[he i,Nat.zero_testBit];rfl
  have h2:Ev w (0/2^w) e2:=h2
  rw[Nat.zero_div] at h2
  rw[z e1 h1,z e2 h2]
  exact⟨.nil,Nat.le_refl _⟩
 | [a],ha,e1,e2,h1,h2=>by
  have ha:=ha a List.mem_cons_self
  have h1:Ev w (a+2^w*0) e1:=h1
  have h2:Ev w ((a+2^w*0)/2^w) e2:=h2
  show Dg (2*w) (e1+e2) (a+0)∧e1+e2≤a+2^w*0
  have al:a<2^w:=Nat.lt_of_le_of_lt ha Nat.lt_two_pow_self
  have z:∀e,Ev w 0 e→e=0:=fun e he=>Nat.eq_of_testBit_eq fun i=>by rw[he i,Nat.zero_testBit];rfl
  obtain⟨p1,p2⟩:=h1.peel w0 al
  rw[Nat.zero_div] at p2
  have p3:=z _ p2
  rw[Nat.mul_zero,Nat.add_zero,Nat.div_eq_of_lt al] at h2
  have p4:=z _ h2
  rw[p3,Nat.mul_zero,Nat.add_zero] at p1
  rw[p1,p4,Nat.mul_zero]
  refine⟨?_,by omega⟩
  have:=Dg.cons (w:=2*w) (a:=a) (by omega) (.nil)
  rwa [Nat.mul_zero] at this
 | a::b::l,hl,e1,e2,h1,h2=>by
  have ha:=hl a List.mem_cons_self
  have hb:=hl b (List.mem_cons_of_mem _ List.mem_cons_self)
  have hg:∀x∈l,x≤w:=fun x hx=>hl x (List.mem_cons_of_mem _ (List.mem_cons_of_mem _ hx))
  have h1:Ev w (a+2^w*(b+2^w*NB w l)) e1:=h1
  have h2:Ev w ((a+2^w*(b+2^w*NB w l))/2^w) e2:=h2
  have ih:=pR w0 l hg
  show Dg (2*w) (e1+e2) (a+(b+fsum l))∧e1+e2≤a+2^w*(b+2^w*NB w l)
  generalize NB w l=g at*
  generalize fsum l=s at*
  have al:a<2^w:=Nat.lt_of_le_of_lt ha Nat.lt_two_pow_self
  have bl:b<2^w:=Nat.lt_of_le_of_lt hb Nat.lt_two_pow_self
  have p:=Nat.two_pow_pos w
  have d1:(a+2^w*(b+2^w*g))/2^w=b+2^w*g:=by rw[Nat.add_mul_div_left _ _ p,Nat.div_eq_of_lt al,Nat.zero_add]
  have d2:(b+2^w*g)/2^w=g:=by rw[Nat.add_mul_div_left _ _ p,Nat.div_eq_of_lt bl,Nat.zero_add]
  rw[d1] at h2
  obtain⟨p1,p2⟩:=h1.peel w0 al
  obtain⟨p3,p4⟩:=h2.peel w0 bl
  rw[d2] at p2
  obtain⟨i1,i2⟩:=ih _ _ p2 p4
  have:=Dg.cons (w:=2*w) (a:=a+b) (by omega) i1
  refine⟨?_,?_⟩
  ·rw[p1,p3]
   rw[Nat.mul_add] at this
   have e:a+2^(2*w)*(e1/2^(2*w))+(b+2^(2*w)*(e2/2^(2*w)))=a+b+(2^(2*w)*(e1/2^(2*w))+2^(2*w)*(e2/2^(2*w))):=by omega
   rw[e,←Nat.add_assoc a b s]
   exact this
  ·have m:=Nat.mul_le_mul_left (2^(2*w)) i2
   rw[Nat.mul_add] at m
   have q1:b≤2^w*b:=Nat.le_mul_of_pos_left b p
   have q2:2^w*(2^w*g)=2^(2*w)*g:=by rw[←Nat.mul_assoc,←Nat.pow_add,Nat.two_mul]
   rw[Nat.mul_add,q2]
   omega
theorem Dg.pair{w f s:Nat}(w0:0<w)(h:Dg w f s){e1 e2:Nat}(h1:Ev w f e1)(h2:Ev w (f/2^w) e2):Dg (2*w) (e1+e2) s∧e1+e2≤f:=by
 obtain⟨l,hl,rfl,rfl⟩:=h
 exact pR w0 l hl e1 e2 h1 h2
theorem Dg.start:∀(n b:Nat),b<2^n→Dg 1 b (cnt b n)
 | 0,b,h=>by
  have:b=0:=by simp at h;exact h
  subst this
  exact .nil
 | n+1,b,h=>by
  have:=Dg.cons (w:=1) (a:=b%2) (by omega) (Dg.start n (b/2) (by rw[Nat.pow_succ] at h;omega))
  rw[ZD]
  rwa [Nat.pow_one,Nat.mod_add_div] at this
theorem ZF{b c:Nat}:∀{k:Nat},(∀i,i<k→b.testBit i=c.testBit i)→cnt b k=cnt c k
 | 0,_=>rfl
 | k+1,h=>by
  rw[cnt,cnt,ZF (fun i hi=>h i (by omega)),h k (by omega)]
theorem j6(b:Nat):∀k,cnt b k≤k
 | 0=>Nat.le_refl _
 | k+1=>by
  have:=j6 b k
  rw[cnt]
  split<;>omega
end Fw
namespace Fw
def pc(b j:Nat):Nat:=b/2^(256*j)%2^256
theorem Ui(b j i:Nat):(pc b j).testBit i=(decide (i<256)&&b.testBit (256*j+i)):=by
 unfold pc
 rw[Nat.testBit_mod_two_pow,←Nat.shiftRight_eq_div_pow,Nat.testBit_shiftRight]
theorem uq(b j:Nat):pc b j<2^256:=Nat.mod_lt _ (Nat.two_pow_pos _)
theorem jN(b p:Nat):pc (b ||| 2^p) (p/256)=pc b (p/256) ||| 2^(p%256):=by
 refine Nat.eq_of_testBit_eq fun i=>?_
 rw[Ui,Nat.testBit_or,Nat.testBit_or,Ui,Nat.testBit_two_pow,Nat.testBit_two_pow]
 by_cases c:i<256
 ·have:(p=256*(p/256)+i)=(p%256=i):=propext ⟨fun h=>by omega,fun h=>by omega⟩
  simp[c,this]
 ·have:¬p%256=i:=by omega
  simp[c,this]
theorem jM{b p j:Nat}(h:j≠p/256):pc (b ||| 2^p) j=pc b j:=by
 refine Nat.eq_of_testBit_eq fun i=>?_
 rw[Ui,Nat.testBit_or,Ui,Nat.testBit_two_pow]
 by_cases c:i<256
 ·have:¬p=256*j+i:=by omega
  simp[c,this]
 ·simp[c]
theorem mR(b m:Nat):b%2^(256*m) ||| (pc b m <<< (256*m))=b%2^(256*(m+1)):=by
 refine Nat.eq_of_testBit_eq fun i=>?_
 rw[Nat.testBit_or,Nat.testBit_shiftLeft,Nat.testBit_mod_two_pow,Nat.testBit_mod_two_pow,Ui]
 by_cases c:i<256*m
 ·simp[c,show ¬256*m≤i by omega,show i<256*(m+1) by omega]
 ·by_cases c2:i<256*(m+1)
  ·simp[c,c2,show 256*m≤i by omega,show i-256*m<256 by omega,show 256*m+(i-256*m)=i by omega]
  ·simp[c,c2,show ¬i-256*m<256 by omega]
end Fw
namespace Fw
theorem tX{n m:Int}{b:Nat}(hd:n∣m)(d k:Int):On n b (d+m*k)=On n b d:=by
 unfold On
 obtain⟨c,rfl⟩:=hd
 rw[Int.mul_assoc,Int.add_mul_emod_self_left]
end Fw
namespace Fw
theorem nQ{z:Int}{xs:List Int}{d:Int}:hit z xs d=true↔∃x∈xs,∃k,d=x+z*k:=by
 unfold hit
 rw[List.any_eq_true]
 constructor
 ·rintro⟨x,hx,h⟩
  obtain⟨k,hk⟩:=Int.dvd_of_emod_eq_zero (of_decide_eq_true h)
  exact⟨x,hx,k,by omega⟩
 ·rintro⟨x,hx,k,hk⟩
  refine⟨x,hx,decide_eq_true ?_⟩
  rw[show d-x=z*k by omega]
  exact Int.mul_emod_right z k
end Fw
namespace Fw
end Fw
namespace Fw
def wH(on1 on2:Int→Bool)(d:Int):Prop:=∃r,on1 r=true∧r≤d∧∀s,on2 s=true→r<s→d<s
end Fw
namespace Fw
theorem au{n:Int}{b:Nat}(hn:0<n):∀(k:Nat) (f:Int),(∀r,f≤r→r<f+(k:Int)→On n b r=false)→CC n b (f+(k:Int))=CC n b f
 | 0,f,_=>by simp
 | k+1,f,h=>by
  have ih:=au hn k f fun r h1 h2=>h r h1 (by omega)
  have e:=Mv (b:=b) hn (f+(k:Int))
  rw[h (f+(k:Int)) (by omega) (by omega),if_neg Bool.false_ne_true,ih] at e
  rw[show f+((k+1:Nat):Int)=f+(k:Int)+1 by omega,e]
  omega
theorem pX{n:Int}{b:Nat}(hn:0<n){e:Int}:∀(rs:List Int) (f:Int),f≤e→rs.Pairwise (· < ·)→(∀r,r∈rs↔f≤r∧r<e∧On n b r=true)→
 (∀(i:Nat) (x:Int),rs[i]?=some x→CC n b x=CC n b f+(i:Int))∧CC n b e=CC n b f+(rs.length:Int)
 | [],f,fe,_,hm=>by
  refine⟨fun i x h=>by simp at h,?_⟩
  have:=au (b:=b) hn (e-f).toNat f fun r h1 h2=>by
   cases c:On n b r with
   | false=>rfl
   | true=>exact absurd ((hm r).mpr ⟨h1,by omega,c⟩) (by simp)
  rw[show f+((e-f).toNat:Int)=e by omega] at this
  simpa using this
 | r::tl,f,fe,hs,hm=>by
  obtain⟨h1,h2,h3⟩:=(hm r).mp List.mem_cons_self
  obtain⟨s1,s2⟩:=List.pairwise_cons.mp hs
  have c1:CC n b r=CC n b f:=by
   have:=au (b:=b) hn (r-f).toNat f fun x x1 x2=>by
    cases c:On n b x with
    | false=>rfl
    | true=>
     rcases List.mem_cons.mp ((hm x).mpr ⟨x1,by omega,c⟩) with z | z
     ·omega
     ·have:=s1 x z
      omega
   rwa [show f+((r-f).toNat:Int)=r by omega] at this
  have c2:=Mv (b:=b) hn r
  rw[h3,if_pos rfl] at c2
  obtain⟨i1,i2⟩:=pX hn (e:=e) tl (r+1) (by omega) s2 fun x=>by
   constructor
   ·intro hx
    have a:=(hm x).mp (List.mem_cons_of_mem _ hx)
    have:=s1 x hx
    exact⟨by omega,a.2.1,a.2.2⟩
   ·rintro⟨x1,x2,x3⟩
    rcases List.mem_cons.mp ((hm x).mpr ⟨by omega,x2,x3⟩) with z | z
    ·omega
    ·exact z
  refine⟨fun i x hx=>?_,?_⟩
  ·cases i with
   | zero=>
    injection hx with hx
    subst hx
    rw[c1]
    simp
   | succ i=>
    have:=i1 i x hx
    rw[this,c2,c1]
    omega
  ·rw[i2,c2,c1,List.length_cons]
   omega
def Kth(n1:Int)(b1:Nat)(n2:Int)(b2:Nat)(k d:Int):Prop:=On n1 b1 d=true∧∃b e,On n2 b2 b=true∧On n2 b2 e=true∧b≤d∧d<e∧(∀r,b<r→r<e→On n2 b2 r=false)∧(0<k→CC n1 b1 (d+1)-CC n1 b1 b=k)∧(k<0→CC n1 b1 e-CC n1 b1 d= -k)
end Fw
namespace Fw
end Fw
namespace Fw
theorem kh{n:Int}{b:Nat}(hn:0<n)(d j:Int):CC n b (d+n*j)=CC n b d+j*(cnt b n.toNat:Int):=by
 unfold CC
 rw[Int.add_mul_ediv_left _ _ (by omega),Int.add_mul_emod_self_left,Int.add_mul]
 omega
theorem Qc{n:Int}{b:Nat}:CC n b 0=0:=by
 unfold CC
 rw[Int.zero_ediv,Int.zero_emod]
 show 0*_+((cnt b 0:Nat):Int)=0
 rw[Int.zero_mul]
 rfl
theorem oU{n:Int}{b:Nat}(hn:0<n){d e:Int}(h1:On n b d=true)(h2:On n b e=true)(h:CC n b d=CC n b e):d=e:=by
 have c1:=Mv (b:=b) hn d
 have c2:=Mv (b:=b) hn e
 rw[h1,if_pos rfl] at c1
 rw[h2,if_pos rfl] at c2
 rcases Int.lt_trichotomy d e with c | c | c
 ·have:=TF (b:=b) hn (show d+1≤e by omega)
  omega
 ·exact c
 ·have:=TF (b:=b) hn (show e+1≤d by omega)
  omega
def Evr(n:Int)(b:Nat)(k day d:Int):Prop:=On n b d=true∧(CC n b d-CC n b day)%k=0
structure Dn(n:Int)(b:Nat)(ds:List Int):Prop where
 len:(ds.length:Int)=(cnt b n.toNat:Int)
 at':∀(j:Nat) (x:Int),ds[j]?=some x→On n b x=true∧CC n b x=(j:Int)∧0≤x∧x<n
theorem Dn.mk'{n:Int}{b:Nat}{ds:List Int}(hn:0<n)(srt:ds.Pairwise (· < ·))(mem:∀d,d∈ds↔0≤d∧d<n∧On n b d=true):Dn n b ds:=by
 obtain⟨h1,h2⟩:=pX (b:=b) hn ds 0 (Int.le_of_lt hn) srt mem
 rw[Qc] at h1 h2
 have t:=oV (b:=b) hn 0
 rw[Qc,Int.zero_add,Int.zero_add,h2,Int.zero_add] at t
 refine⟨t,fun j x hx=>?_⟩
 have m:=(mem x).mp (List.mem_of_getElem? hx)
 have:=h1 j x hx
 exact⟨m.2.2,by omega,m.1,m.2.1⟩
def Kr(n:Int)(ds:List Int)(P:Int):Int:=P/(ds.length:Int)*n+(ds[(P%(ds.length:Int)).toNat]?).getD 0
theorem Dn.day{n:Int}{b:Nat}{ds:List Int}(hn:0<n)(D:Dn n b ds)(h:0<ds.length)(P:Int):On n b (Kr n ds P)=true∧CC n b (Kr n ds P)=P:=by
 have m0:=Int.emod_nonneg P (show (ds.length:Int)≠0 by omega)
 have m1:=Int.emod_lt_of_pos P (show (0:Int)<(ds.length:Int) by omega)
 have hl:(P%(ds.length:Int)).toNat<ds.length:=by omega
 obtain⟨x,hx⟩:∃x,ds[(P%(ds.length:Int)).toNat]?=some x:=⟨_,List.getElem?_eq_getElem hl⟩
 obtain⟨a1,a2,a3,a4⟩:=D.at' _ _ hx
 have e:Kr n ds P=x+n*(P/(ds.length:Int)):=by
  unfold Kr
  rw[hx,Int.mul_comm]
  show _+x=_
  omega
 have p:=Int.mul_ediv_add_emod P (ds.length:Int)
 rw[e]
 constructor
 ·unfold On at a1 ⊢
  rwa [Int.add_mul_emod_self_left]
 ·rw[kh hn,a2,←D.len,Int.mul_comm]
  omega
theorem nZ{n:Int}{b:Nat}{ds:List Int}{k day:Int}(hn:0<n)(k0:0<k)(D:Dn n b ds)(d:Int):
 hit (n*k) ((List.range ds.length).map fun(i:Nat)=>Kr n ds (CC n b day%k+(i:Int)*k)) d=true↔Evr n b k day d:=by
 have f0:=Int.emod_nonneg (CC n b day) (show k≠0 by omega)
 have f1:=Int.emod_lt_of_pos (CC n b day) k0
 have fe:=Int.mul_ediv_add_emod (CC n b day) k
 have nk:0<n*k:=Int.mul_pos hn k0
 have per:∀d q,On n b (d+n*k*q)=On n b d:=fun d q=>tX ⟨k,rfl⟩ d q
 have cmul:∀d q,CC n b (d+n*k*q)=CC n b d+k*(q*(ds.length:Int)):=fun d q=>by
  rw[Int.mul_assoc,kh hn,←D.len,Int.mul_assoc]
 rw[nQ]
 constructor
 ·rintro⟨x,hx,q,rfl⟩
  obtain⟨i,hi,rfl⟩:=List.mem_map.mp hx
  have hi':=List.mem_range.mp hi
  obtain⟨a1,a2⟩:=D.day hn (by omega) (CC n b day%k+(i:Int)*k)
  refine⟨by rw[per];exact a1,?_⟩
  rw[cmul,a2]
  have:CC n b day%k+(i:Int)*k+k*(q*(ds.length:Int))-CC n b day=k*((i:Int)+q*(ds.length:Int)-CC n b day/k):=by
   rw[Int.mul_sub,Int.mul_add,Int.mul_comm k (i:Int)]
   omega
  rw[this]
  exact Int.mul_emod_right _ _
 ·rintro⟨o,hd⟩
  have e:=Int.mul_ediv_add_emod d (n*k)
  have m0:=Int.emod_nonneg d (show n*k≠0 by omega)
  have m1:=Int.emod_lt_of_pos d nk
  have o':=per (d%(n*k)) (d/(n*k))
  have c':=cmul (d%(n*k)) (d/(n*k))
  rw[show d%(n*k)+n*k*(d/(n*k))=d by omega] at o' c'
  rw[o] at o'
  generalize d%(n*k)=d' at*
  generalize hq:d/(n*k)=q at*
  have g0:=TF (b:=b) hn m0
  rw[Qc] at g0
  have g1:=Mv (b:=b) hn d'
  rw[←o',if_pos rfl] at g1
  have g2:=TF (b:=b) hn (show d'+1≤n*k by omega)
  have g3:=cmul 0 1
  rw[Int.zero_add,Int.mul_one,Qc,Int.one_mul,Int.zero_add] at g3
  have hm:0<ds.length:=by
   rcases Nat.eq_zero_or_pos ds.length with z | z
   ·rw[z] at g3
    simp at g3
    omega
   ·exact z
  obtain⟨t,ht⟩:=Int.dvd_of_emod_eq_zero hd
  have hc:CC n b d'-CC n b day%k=k*(t+CC n b day/k-q*(ds.length:Int)):=by
   rw[Int.mul_sub,Int.mul_add]
   omega
  generalize t+CC n b day/k-q*(ds.length:Int)=i at hc
  have i0:0≤i:=by
   refine Int.not_lt.mp fun z=>?_
   have:=Int.mul_le_mul_of_nonneg_left (show i≤ -1 by omega) (Int.le_of_lt k0)
   omega
  have i1:i<(ds.length:Int):=by
   refine Int.not_le.mp fun z=>?_
   have:=Int.mul_le_mul_of_nonneg_left z (Int.le_of_lt k0)
   omega
  obtain⟨a1,a2⟩:=D.day hn hm (CC n b day%k+i*k)
  have ed:Kr n ds (CC n b day%k+i*k)=d':=oU hn a1 o'.symm (by rw[a2,Int.mul_comm];omega)
  refine⟨d',List.mem_map.mpr ⟨i.toNat,List.mem_range.mpr (by omega),?_⟩,q,by omega⟩
  rw[show (i.toNat:Int)=i by omega]
  exact ed
end Fw
namespace Fw
end Fw
namespace Fw
abbrev Wd:=List Nat
def G7(cs:Wd):Bool:=
 let f:=if cs.head?=some 45 then cs.drop 1 else cs
 decide (1≤f.length)&&decide (f.length≤60)&&f.all (fun c=>decide (48≤c)&&decide (c≤57))&&(decide (f.head?≠some 48)||decide (cs=[48]))
def nameB(cs:Wd):Bool:=decide (1≤cs.length)&&decide (cs.length≤8)&&cs.all fun c=>decide (97≤c)&&decide (c≤122)
def U3:Wd:=[97,108,108]
def Ly:Wd:=[110,111,110,101]
def Cr:Wd:=[101,97,99,104]
def Cz:Wd:=[100,97,116,101]
def Cd:Wd:=[102,114,111,109]
def M9:Wd:=[110,111,116]
def GQ:Wd:=[101,118,101,114,121]
def Fo:Wd:=[108,97,116,101,114]
def kOf:Wd:=[111,102]
def Gr:Wd:=[42]
def kL:Wd:=[40]
def kR:Wd:=[41]
def Fj:List Wd:=[[97,110,100],[111,114],[98,117,116],[117,110,108,105,107,101],[117,112,111,110],[117,110,116,105,108],[110,101,97,114],[116,105,108,108]]
inductive Pl:Type
 | lf (w:Wd)
 | each (n r:Int)
 | date (nm:Wd) (m d:Option Int) (s r:Int)
 | not (p:Pl)
 | later (n:Int) (p:Pl)
 | nth (n:Int) (p q:Pl)
 | every (n:Int) (p:Pl) (r:Int)
 | pair (w:Wd) (p q:Pl)
section
variable(val:Wd→Int)
def HJ:List Wd→Option (Int×List Wd)
 | []=>none
 | w::r=>if G7 w=true then some (val w,r) else none
def tkW(x:Wd):List Wd→Option (List Wd)
 | []=>none
 | w::r=>if w=x then some r else none
def Gd(ts:List Wd):Option ((Int×Int)×List Wd):=match HJ val ts with
 | none=>none
 | some (n,r)=>match tkW Cd r with
  | none=>none
  | some r=>match HJ val r with
   | none=>none
   | some (m,r)=>some ((n,m),r)
def Hq:List Wd→Option (Option Int×List Wd)
 | []=>none
 | w::r=>if w=Gr then some (none,r) else match HJ val (w::r) with
  | none=>none
  | some (n,r)=>some (some n,r)
def Ga:List Wd→Option ((Int×Int)×List Wd)
 | []=>some ((1,0),[])
 | w::r=>if w=Cr then Gd val r else some ((1,0),w::r)
def JC:List Wd→Option (Pl×List Wd)
 | []=>none
 | nm::r=>if nameB nm=true then match Hq val r with
  | none=>none
  | some (m,r)=>match Hq val r with
   | none=>none
   | some (d,r)=>match Ga val r with
    | none=>none
    | some (y,r)=>some (.date nm m d y.1 y.2,r)
  else none
def Hr(P:List Wd→Option (Pl×List Wd))(ts:List Wd):Option (Pl×List Wd):=match P ts with
 | some (p,w::r)=>if w∈Fj then match P r with
  | none=>none
  | some (q,r)=>some (.pair w p q,r)
  else none
 | _=>none
def HB(P:List Wd→Option (Pl×List Wd))(ts:List Wd):Option (Pl×List Wd):=match HJ val ts with
 | none=>none
 | some (n,r)=>match tkW kOf r with
  | none=>none
  | some r=>match P r with
   | none=>none
   | some (p,r)=>match tkW Cd r with
    | none=>none
    | some r=>match HJ val r with
     | none=>none
     | some (m,r)=>some (.every n p m,r)
def Er(P:List Wd→Option (Pl×List Wd))(ts:List Wd):Option (Pl×List Wd):=match HJ val ts with
 | some (n,w::r)=>if w=Fo then match P r with
  | none=>none
  | some (p,r)=>some (.later n p,r)
  else if w=kOf then match P r with
   | none=>none
   | some (p,r)=>match tkW Cd r with
    | none=>none
    | some r=>match P r with
     | none=>none
     | some (q,r)=>some (.nth n p q,r)
  else none
 | _=>none
def Cp(P:List Wd→Option (Pl×List Wd)):List Wd→Option (Pl×List Wd)
 | []=>none
 | w::r=>if w=M9 then match P r with
  | none=>none
  | some (p,r)=>some (.not p,r)
  else if w=GQ then HB val P r
  else if G7 w=true then Er val P (w::r)
  else Hr P (w::r)
def prs:Nat→List Wd→Option (Pl×List Wd)
 | 0,_=>none
 | _+1,[]=>none
 | d+1,w::r=>if w=U3∨w=Ly then some (.lf w,r)
  else if w=Cr then match Gd val r with
   | none=>none
   | some (y,r)=>some (.each y.1 y.2,r)
  else if w=Cz then JC val r
  else if w=kL then match Cp val (prs d) r with
   | none=>none
   | some (p,r)=>match tkW kR r with
    | none=>none
    | some r=>some (p,r)
  else none
end
def kws:List Wd:=[U3,Ly,Cr,Cz,Cd,M9,GQ,Fo,kOf,Gr,kL,kR]++Fj
def Plain(w:Wd):Prop:=w∈kws∨G7 w=true
def Sq:Bool→List Wd→Prop
 | _,[]=>True
 | b,w::r=>(Plain w∨(b=true∧nameB w=true))∧Sq (decide (w=Cz)) r
def ht(c:List Wd):Int:=(c.count kL:Int)-(c.count kR:Int)
theorem Sq.tt{b:Bool}:∀{c:List Wd},Sq false c→Sq b c
 | [],_=>trivial
 | w::r,⟨h,g⟩=>⟨.inl (h.elim id fun z=>(nomatch z.1)),g⟩
theorem Sq.app:∀{b:Bool} {c e:List Wd},Sq b c→Sq false e→Sq b (c++e)
 | b,[],e,_,h=>h.tt
 | b,w::r,e,⟨h,g⟩,h2=>⟨h,Sq.app g h2⟩
theorem Oj(c e:List Wd):ht (c++e)=ht c+ht e:=by unfold ht;rw[List.count_append,List.count_append];omega
def Tk(ts r:List Wd)(k:Int):Prop:=∃c,ts=c++r∧Sq false c∧ht c=k
theorem Tk.one{w:Wd}{r:List Wd}(h:Plain w)(k:Int)(hk:ht [w]=k):Tk (w::r) r k:=⟨[w],rfl,⟨.inl h,trivial⟩,hk⟩
theorem Tk.trans{a b c:List Wd}{k m n:Int}(h:Tk a b k)(g:Tk b c m)(e:k+m=n):Tk a c n:=by
 obtain⟨x,rfl,h1,h2⟩:=h
 obtain⟨y,rfl,g1,g2⟩:=g
 exact⟨x++y,by rw[List.append_assoc],h1.app g1,by rw[Oj];omega⟩
theorem Tk.refl(a:List Wd):Tk a a 0:=⟨[],rfl,trivial,rfl⟩
theorem rP{w:Wd}(h:G7 w=true):ht [w]=0:=by
 have h1:w≠kL:=fun e=>by subst e;revert h;decide
 have h2:w≠kR:=fun e=>by subst e;revert h;decide
 unfold ht
 rw[List.count_cons,List.count_cons]
 simp[h1,h2]
theorem mq{w:Wd}(h:nameB w=true):ht [w]=0:=by
 have h1:w≠kL:=fun e=>by subst e;revert h;decide
 have h2:w≠kR:=fun e=>by subst e;revert h;decide
 unfold ht
 rw[List.count_cons,List.count_cons]
 simp[h1,h2]
section
variable{val:Wd→Int}
theorem Gb{ts r:List Wd}{n:Int}(h:HJ val ts=some (n,r)):Tk ts r 0:=by
 cases ts with
 | nil=>cases h
 | cons w t=>
  simp only[HJ] at h
  split at h
  ·rename_i hw
   cases h
   exact .one (.inr hw) 0 (rP hw)
  ·cases h
theorem Nh{x:Wd}{ts r:List Wd}(h:tkW x ts=some r):ts=x::r:=by
 cases ts with
 | nil=>cases h
 | cons w t=>
  simp only[tkW] at h
  split at h
  ·rename_i hw
   cases h
   rw[hw]
  ·cases h
theorem Hd{x:Wd}{r:List Wd}(h:x∈kws)(k:Int)(hk:ht [x]=k):Tk (x::r) r k:=.one (.inl h) k hk
theorem Vr{ts r:List Wd}{y:Int×Int}(h:Gd val ts=some (y,r)):Tk ts r 0:=by
 unfold Gd at h
 split at h
 ·cases h
 ·rename_i n r1 h1
  split at h
  ·cases h
  ·rename_i r2 h2
   split at h
   ·cases h
   ·rename_i m r3 h3
    cases h
    have e:=Nh h2
    subst e
    exact(Gb h1).trans ((Hd (by decide) 0 (by decide)).trans (Gb h3) rfl) rfl
theorem Vq{ts r:List Wd}{y:Option Int}(h:Hq val ts=some (y,r)):Tk ts r 0:=by
 cases ts with
 | nil=>cases h
 | cons w t=>
  simp only[Hq] at h
  split at h
  ·rename_i hw
   cases h
   subst hw
   exact Hd (by decide) 0 (by decide)
  ·split at h
   ·cases h
   ·rename_i n r1 h1
    cases h
    exact Gb h1
theorem Zd{ts r:List Wd}{y:Int×Int}(h:Ga val ts=some (y,r)):Tk ts r 0:=by
 cases ts with
 | nil=>cases h;exact .refl _
 | cons w t=>
  simp only[Ga] at h
  split at h
  ·rename_i hw
   subst hw
   exact(Hd (by decide) 0 (by decide)).trans (Vr h) rfl
  ·cases h
   exact .refl _
theorem dU{ts r:List Wd}{p:Pl}(h:JC val ts=some (p,r)):Tk (Cz::ts) r 0:=by
 cases ts with
 | nil=>cases h
 | cons w t=>
  simp only[JC] at h
  split at h
  ·rename_i hw
   split at h
   ·cases h
   ·rename_i m r1 h1
    split at h
    ·cases h
    ·rename_i d r2 h2
     split at h
     ·cases h
     ·rename_i y r3 h3
      cases h
      have a:Tk (Cz::w::t) t 0:=⟨[Cz,w],rfl,⟨.inl (.inl (by decide)),.inr ⟨by decide,hw⟩,trivial⟩,by
       have:=mq hw
       rw[show [Cz,w]=[Cz]++[w] from rfl,Oj,this]
       decide⟩
      exact a.trans ((Vq h1).trans ((Vq h2).trans (Zd h3) rfl) rfl) rfl
  ·cases h
theorem dR{P:List Wd→Option (Pl×List Wd)}(hP:∀{ts r p},P ts=some (p,r)→Tk ts r 0){ts r:List Wd}{p:Pl}(h:Hr P ts=some (p,r)):Tk ts r 0:=by
 unfold Hr at h
 split at h
 ·rename_i p1 w r1 h1
  split at h
  ·rename_i hw
   split at h
   ·cases h
   ·rename_i q r2 h2
    cases h
    exact(hP h1).trans ((Hd (List.mem_append_right _ hw) 0 ((show ∀w∈Fj,ht [w]=0 by decide) w hw)).trans (hP h2) rfl) rfl
  ·cases h
 ·cases h
theorem Ze{P:List Wd→Option (Pl×List Wd)}(hP:∀{ts r p},P ts=some (p,r)→Tk ts r 0){ts r:List Wd}{p:Pl}(h:HB val P ts=some (p,r)):Tk ts r 0:=by
 unfold HB at h
 split at h
 ·cases h
 ·rename_i n r1 h1
  split at h
  ·cases h
  ·rename_i r2 h2
   split at h
   ·cases h
   ·rename_i p1 r3 h3
    split at h
    ·cases h
    ·rename_i r4 h4
     split at h
     ·cases h
     ·rename_i m r5 h5
      cases h
      have e:=Nh h2
      subst e
      have e:=Nh h4
      subst e
      exact(Gb h1).trans ((Hd (by decide) 0 (by decide)).trans ((hP h3).trans ((Hd (by decide) 0 (by decide)).trans (Gb h5) rfl) rfl) rfl) rfl
theorem VN{P:List Wd→Option (Pl×List Wd)}(hP:∀{ts r p},P ts=some (p,r)→Tk ts r 0){ts r:List Wd}{p:Pl}(h:Er val P ts=some (p,r)):Tk ts r 0:=by
 unfold Er at h
 split at h
 ·rename_i n w r1 h1
  split at h
  ·rename_i hw
   split at h
   ·cases h
   ·rename_i p1 r2 h2
    cases h
    subst hw
    exact(Gb h1).trans ((Hd (by decide) 0 (by decide)).trans (hP h2) rfl) rfl
  ·split at h
   ·rename_i hw
    split at h
    ·cases h
    ·rename_i p1 r2 h2
     split at h
     ·cases h
     ·rename_i r3 h3
      split at h
      ·cases h
      ·rename_i q r4 h4
       cases h
       subst hw
       have e:=Nh h3
       subst e
       exact(Gb h1).trans ((Hd (by decide) 0 (by decide)).trans ((hP h2).trans ((Hd (by decide) 0 (by decide)).trans (hP h4) rfl) rfl) rfl) rfl
   ·cases h
 ·cases h
theorem YB{P:List Wd→Option (Pl×List Wd)}(hP:∀{ts r p},P ts=some (p,r)→Tk ts r 0){ts r:List Wd}{p:Pl}(h:Cp val P ts=some (p,r)):Tk ts r 0:=by
 cases ts with
 | nil=>cases h
 | cons w t=>
  simp only[Cp] at h
  split at h
  ·rename_i hw
   split at h
   ·cases h
   ·rename_i p1 r1 h1
    cases h
    subst hw
    exact(Hd (by decide) 0 (by decide)).trans (hP h1) rfl
  ·split at h
   ·rename_i hw
    subst hw
    exact(Hd (by decide) 0 (by decide)).trans (Ze hP h) rfl
   ·split at h
    ·exact VN hP h
    ·exact dR hP h
theorem KC:∀{d:Nat} {ts r:List Wd} {p:Pl},prs val d ts=some (p,r)→Tk ts r 0
 | 0,ts,r,p,h=>by cases h
 | d+1,[],r,p,h=>by cases h
 | d+1,w::t,r,p,h=>by
  simp only[prs] at h
  split at h
  ·rename_i hw
   cases h
   rcases hw with hw | hw<;>subst hw
   ·exact Hd (by decide) 0 (by decide)
   ·exact Hd (by decide) 0 (by decide)
  ·split at h
   ·rename_i hw
    subst hw
    split at h
    ·cases h
    ·rename_i y r1 h1
     cases h
     exact(Hd (by decide) 0 (by decide)).trans (Vr h1) rfl
   ·split at h
    ·rename_i hw
     subst hw
     exact dU h
    ·split at h
     ·rename_i hw
      subst hw
      split at h
      ·cases h
      ·rename_i p1 r1 h1
       split at h
       ·cases h
       ·rename_i r2 h2
        cases h
        have e:=Nh h2
        subst e
        exact(Hd (by decide) 1 (by decide)).trans ((YB (fun h=>KC h) h1).trans (Hd (by decide) (-1) (by decide)) rfl) rfl
     ·cases h
end
end Fw
namespace Fw
def opd(p:Wd):Wd:=p.dropWhile (· ==40)
def core(p:Wd):Wd:=((opd p).reverse.dropWhile (· ==41)).reverse
def Ez(p:Wd):List Wd:=List.replicate (p.length-(opd p).length) kL++[core p]++List.replicate ((opd p).length-(core p).length) kR
def wordsOf:Int→List Wd→Option (List Wd)
 | _,[]=>some []
 | d,p::ps=>if core p=[] then none else if 40<d+((p.length:Int)-((opd p).length:Int)) then none else
  match wordsOf (d+((p.length:Int)-((opd p).length:Int))-(((opd p).length:Int)-((core p).length:Int))) ps with
  | none=>none
  | some r=>some (Ez p++r)
def Gk(val:Wd→Int)(T:Wd):Option Pl:=if 4000<T.length then none else match wordsOf 0 (L2.spl 32 T) with
 | none=>none
 | some ts=>match prs val 41 ts with
  | some (p,[])=>some p
  | _=>none
theorem Nf:∀{ps:List Wd} {d:Int} {ts:List Wd},wordsOf d ps=some ts→ts=ps.flatMap Ez∧∀p∈ps,core p≠[]
 | [],d,ts,h=>by
  simp only[wordsOf] at h
  cases h
  exact⟨rfl,fun p hp=>(nomatch hp)⟩
 | p::ps,d,ts,h=>by
  simp only[wordsOf] at h
  split at h
  ·cases h
  ·rename_i hc
   split at h
   ·cases h
   ·split at h
    ·cases h
    ·rename_i r hr
     cases h
     obtain⟨e,g⟩:=Nf hr
     refine⟨by rw[List.flatMap_cons,←e],fun q hq=>?_⟩
     rcases List.mem_cons.mp hq with z | z
     ·rw[z];exact hc
     ·exact g q z
theorem QV(c:Nat):∀p:Wd,p=List.replicate (p.length-(p.dropWhile (· ==c)).length) c++p.dropWhile (· ==c)
 | []=>rfl
 | a::p=>by
  by_cases h:a=c
  ·subst h
   have e:(a::p).dropWhile (· ==a)=p.dropWhile (· ==a):=by simp[List.dropWhile_cons]
   have l:(p.dropWhile (· ==a)).length≤p.length:=(List.dropWhile_sublist _).length_le
   rw[e,List.length_cons,Nat.succ_sub l,List.replicate_succ,List.cons_append,←QV a p]
  ·have e:(a::p).dropWhile (· ==c)=a::p:=by simp[List.dropWhile_cons,h]
   rw[e]
   simp
theorem RD(p:Wd):(opd p).length≤p.length:=(List.dropWhile_sublist _).length_le
theorem Mt(p:Wd):(core p).length≤(opd p).length:=by
 unfold core
 rw[List.length_reverse]
 have:=(List.dropWhile_sublist (· ==41) (l:=(opd p).reverse)).length_le
 rwa [List.length_reverse] at this
theorem cA(p:Wd):p=List.replicate (p.length-(opd p).length) 40++core p++List.replicate ((opd p).length-(core p).length) 41:=by
 have h1:=QV 40 p
 have h2:=congrArg List.reverse (QV 41 (opd p).reverse)
 rw[List.reverse_reverse,List.reverse_append,List.reverse_replicate,List.length_reverse] at h2
 have e:((opd p).reverse.dropWhile (· ==41)).length=(core p).length:=by unfold core;rw[List.length_reverse]
 rw[e] at h2
 have h3:opd p=core p++List.replicate ((opd p).length-(core p).length) 41:=h2
 rw[List.append_assoc,←h3]
 exact h1
theorem WN(p:Wd):(core p).head?≠some 40:=by
 intro h
 have e:opd p=core p++List.replicate ((opd p).length-(core p).length) 41:=by
  have h2:=congrArg List.reverse (QV 41 (opd p).reverse)
  rw[List.reverse_reverse,List.reverse_append,List.reverse_replicate,List.length_reverse] at h2
  have e:((opd p).reverse.dropWhile (· ==41)).length=(core p).length:=by unfold core;rw[List.length_reverse]
  rw[e] at h2
  exact h2
 have h2:(opd p).head?=some 40:=by
  rw[e,List.head?_append,h]
  rfl
 have:=List.head?_dropWhile_not (· ==40) p
 rw[show p.dropWhile (· ==40)=opd p from rfl,h2] at this
 simp at this
theorem WM(p:Wd):(core p).getLast?≠some 41:=by
 intro h
 unfold core at h
 rw[List.getLast?_reverse] at h
 have:=List.head?_dropWhile_not (· ==41) (opd p).reverse
 rw[h] at this
 simp at this
def gs(c:Nat):Bool:=(decide (97≤c)&&decide (c≤122))||(decide (48≤c)&&decide (c≤57))||decide (c=42)||decide (c=45)
theorem jY{w:Wd}(h:G7 w=true):w.all gs=true:=by
 unfold G7 at h
 simp only[Bool.and_eq_true] at h
 have hf:=h.1.2
 rw[List.all_eq_true] at hf ⊢
 intro c hc
 cases w with
 | nil=>cases hc
 | cons a r=>
  by_cases e:(a::r).head?=some 45
  ·injection e with e
   subst e
   rcases List.mem_cons.mp hc with z | z
   ·subst z;decide
   ·have:=hf c (by simpa using z)
    unfold gs
    rw[this]
    simp
  ·rw[if_neg e] at hf
   have:=hf c hc
   unfold gs
   rw[this]
   simp
theorem cJ{w:Wd}(h:nameB w=true):w.all gs=true:=by
 unfold nameB at h
 simp only[Bool.and_eq_true] at h
 have hf:=h.2
 rw[List.all_eq_true] at hf ⊢
 intro c hc
 have:=hf c hc
 unfold gs
 rw[this]
 rfl
theorem iy{w:Wd}(h:Plain w)(h1:w≠kL)(h2:w≠kR):w.all gs=true:=by
 rcases h with h | h
 ·have:∀w∈kws,w≠kL→w≠kR→w.all gs=true:=by decide
  exact this w h h1 h2
 ·exact jY h
theorem gW:∀{b:Bool} {c:List Wd},Sq b c→∀w∈c,Plain w∨nameB w=true
 | b,w::r,⟨h,g⟩,x,hx=>by
  rcases List.mem_cons.mp hx with z | z
  ·rw[z];exact h.elim .inl fun y=>.inr y.2
  ·exact gW g x z
structure Red(val:Wd→Int)(T:Wd):Prop where
 len:T.length≤4000
 sq:Sq false ((L2.spl 32 T).flatMap Ez)
 ht0:ht ((L2.spl 32 T).flatMap Ez)=0
 ne:∀p∈L2.spl 32 T,core p≠[]
theorem red{val:Wd→Int}{T:Wd}{p:Pl}(h:Gk val T=some p):Red val T:=by
 unfold Gk at h
 split at h
 ·cases h
 ·rename_i hl
  split at h
  ·cases h
  ·rename_i ts h1
   split at h
   ·rename_i p' h2
    obtain⟨e,g⟩:=Nf h1
    obtain⟨c,ec,hs,hh⟩:=KC h2
    rw[List.append_nil] at ec
    subst ec
    subst e
    exact⟨by omega,hs,hh,g⟩
   ·cases h
theorem j5(p:Wd):core p∈Ez p:=by unfold Ez;simp
theorem Red.core{val:Wd→Int}{T:Wd}(R:Red val T){p:Wd}(hp:p∈L2.spl 32 T):(core p).all gs=true:=by
 have h1:Fw.core p≠kL:=fun e=>WN p (by rw[e];rfl)
 have h2:Fw.core p≠kR:=fun e=>WM p (by rw[e];rfl)
 rcases gW R.sq _ (List.mem_flatMap.mpr ⟨p,hp,j5 p⟩) with z | z
 ·exact iy z h1 h2
 ·exact cJ z
theorem Mg(c a:Nat)(h:a≠c):∀l:List Nat,l.count a=((L2.spl c l).map fun q=>q.count a).sum
 | []=>rfl
 | b::l=>by
  have ih:=Mg c a h l
  by_cases e:b=c
  ·subst e
   rw[L2.We,List.map_cons,List.sum_cons,List.count_nil,List.count_cons_of_ne (Ne.symm h),ih,Nat.zero_add]
  ·rw[L2.O5 l e,List.map_cons,List.sum_cons,List.count_cons,List.count_cons,ih]
   conv=>lhs;rw[L2.Jr c l,List.map_cons,List.sum_cons]
   omega
theorem lr{p:Wd}(h:(core p).all gs=true):ht (Ez p)=(p.count 40:Int)-(p.count 41:Int):=by
 have n40:(core p).count 40=0:=List.count_eq_zero.mpr fun z=>absurd (List.all_eq_true.mp h 40 z) (by decide)
 have n41:(core p).count 41=0:=List.count_eq_zero.mpr fun z=>absurd (List.all_eq_true.mp h 41 z) (by decide)
 have kl:core p≠kL:=fun e=>by rw[e] at n40;revert n40;decide
 have kr:core p≠kR:=fun e=>by rw[e] at n41;revert n41;decide
 have c40:p.count 40=p.length-(opd p).length:=by
  conv=>lhs;rw[cA p]
  rw[List.count_append,List.count_append,List.count_replicate,List.count_replicate,n40]
  simp
 have c41:p.count 41=(opd p).length-(core p).length:=by
  conv=>lhs;rw[cA p]
  rw[List.count_append,List.count_append,List.count_replicate,List.count_replicate,n41]
  simp
 rw[c40,c41]
 unfold Ez ht
 rw[List.count_append,List.count_append,List.count_append,List.count_append,List.count_replicate,List.count_replicate,List.count_replicate,List.count_replicate,List.count_cons,List.count_cons]
 simp[kl,kr,show(kL==kR)=false by decide,show(kR==kL)=false by decide,show kL≠kR by decide,show kR≠kL by decide]
theorem cY:∀{ps:List Wd},(∀p∈ps,(core p).all gs=true)→ht (ps.flatMap Ez)=(((ps.map fun q=>q.count 40).sum:Nat):Int)-(((ps.map fun q=>q.count 41).sum:Nat):Int)
 | [],_=>rfl
 | p::ps,h=>by
  rw[List.flatMap_cons,Oj,lr (h p List.mem_cons_self),cY fun q hq=>h q (List.mem_cons_of_mem _ hq),List.map_cons,List.map_cons,List.sum_cons,List.sum_cons]
  omega
theorem Red.bal{val:Wd→Int}{T:Wd}(R:Red val T):T.count 40=T.count 41:=by
 have h:=R.ht0
 rw[cY fun p hp=>R.core hp,←Mg 32 40 (by decide) T,←Mg 32 41 (by decide) T] at h
 omega
end Fw
namespace Fw
def Hj:Wd:=[115,117,110]
def jn:List Wd→Wd
 | []=>[]
 | [w]=>w
 | w::y::r=>w++32::jn (y::r)
def bA:List Wd→List Wd
 | []=>[]
 | p::r=>(40::p)::r
def bB:List Wd→List Wd
 | []=>[]
 | [p]=>[p++[41]]
 | p::q::r=>p::bB (q::r)
theorem Cy{w:Wd}{r:List Wd}(h:r≠[]):jn (w::r)=w++32::jn r:=by
 cases r with
 | nil=>exact absurd rfl h
 | cons y r=>rfl
theorem Oi:∀{ps qs:List Wd},ps≠[]→qs≠[]→jn (ps++qs)=jn ps++32::jn qs
 | [],_,h,_=>absurd rfl h
 | [w],qs,_,h=>by rw[List.singleton_append,Cy h];rfl
 | w::y::r,qs,_,h=>by
  rw[List.cons_append,Cy (by simp),Oi (by simp) h]
  show _=(w++32::jn (y::r))++_
  simp
theorem uz{ps:List Wd}(h:ps≠[]):jn (bA ps)=40::jn ps:=by
 match ps,h with
 | [w],_=>rfl
 | w::y::r,_=>rfl
theorem pL:∀{ps:List Wd},ps≠[]→jn (bB ps)=jn ps++[41]
 | [],h=>absurd rfl h
 | [w],_=>rfl
 | w::y::r,_=>by
  have ih:=pL (ps:=y::r) (by simp)
  have ne:bB (y::r)≠[]:=by cases r<;>simp[bB]
  show jn (w::bB (y::r))=_
  rw[Cy ne,ih]
  show _=(w++32::jn (y::r))++[41]
  simp
theorem gZ:∀{w:Wd} {ws:List Wd},(∀p∈w::ws,32∉p)→L2.spl 32 (jn (w::ws))=w::ws
 | w,[],h=>L2.bJ 32 w (h w List.mem_cons_self)
 | w,y::r,h=>by
  show L2.spl 32 (w++32::jn (y::r))=_
  rw[L2.bK 32 w _ (h w List.mem_cons_self),gZ fun p hp=>h p (List.mem_cons_of_mem _ hp)]
theorem j9{ps:List Wd}(h:ps≠[]):bA ps≠[]:=by cases ps<;>simp_all [bA]
theorem vI{ps:List Wd}(h:ps≠[]):bB ps≠[]:=by
 match ps,h with
 | [w],_=>simp[bB]
 | w::y::r,_=>simp[bB]
theorem j8:∀(ps:List Wd) {qs:List Wd},qs≠[]→bB (ps++qs)=ps++bB qs
 | [],_,_=>rfl
 | [p],q::r,_=>rfl
 | p::y::r,qs,h=>by
  have:=j8 (y::r) h
  rw[List.cons_append] at this ⊢
  show bB (p::y::(r++qs))=_
  show p::bB (y::(r++qs))=_
  rw[this]
  rfl
theorem Yd(p:Wd):opd (40::p)=opd p:=by simp[opd,List.dropWhile_cons]
theorem Jo(p:Wd):core (40::p)=core p:=by unfold core;rw[Yd]
theorem cB{p q:Wd}(h:opd p≠[]):opd (p++q)=opd p++q:=by
 unfold opd at*
 induction p with
 | nil=>exact absurd rfl h
 | cons a p ih=>
  by_cases e:a=40
  ·subst e
   simp only[List.cons_append,List.dropWhile_cons,beq_self_eq_true,if_true] at*
   exact ih h
  ·simp[List.dropWhile_cons,e]
theorem Ra{p:Wd}(h:opd p≠[]):core (p++[41])=core p:=by
 unfold core
 rw[cB h,List.reverse_append]
 simp[List.dropWhile_cons]
theorem VB{p:Wd}(h:core p≠[]):opd p≠[]:=fun e=>h (by unfold core;rw[e];rfl)
theorem Vz(p:Wd):Ez (40::p)=kL::Ez p:=by
 have:=RD p
 unfold Ez
 rw[Yd,Jo,List.length_cons,Nat.succ_sub this,List.replicate_succ]
 rfl
theorem Vy{p:Wd}(h:core p≠[]):Ez (p++[41])=Ez p++[kR]:=by
 have h2:=VB h
 have:=Mt p
 unfold Ez
 rw[Ra h2,cB h2,List.length_append,List.length_append,show p.length+[41].length-((opd p).length+[41].length)=p.length-(opd p).length by simp,show(opd p).length+[41].length-(core p).length=(opd p).length-(core p).length+1 by simp;omega,List.replicate_succ']
 simp
theorem WL{p:Wd}(h1:p.head?≠some 40)(h2:p.getLast?≠some 41):core p=p:=by
 have e1:opd p=p:=by
  cases p with
  | nil=>rfl
  | cons a r=>
   have:a≠40:=fun e=>h1 (by rw[e];rfl)
   simp[opd,List.dropWhile_cons,this]
 unfold core
 rw[e1]
 cases e:p.reverse with
 | nil=>rw[List.dropWhile_nil];rw[List.reverse_eq_nil_iff.mp e];rfl
 | cons a r=>
  have:a≠41:=fun z=>h2 (by rw[List.getLast?_eq_head?_reverse,e,z];rfl)
  have e2:(a::r).dropWhile (· ==41)=a::r:=by simp[List.dropWhile_cons,this]
  rw[e2,←e,List.reverse_reverse]
theorem dw{p:Wd}(h1:p.head?≠some 40)(h2:p.getLast?≠some 41):Ez p=[p]:=by
 have e1:opd p=p:=by
  cases p with
  | nil=>rfl
  | cons a r=>
   have:a≠40:=fun e=>h1 (by rw[e];rfl)
   simp[opd,List.dropWhile_cons,this]
 unfold Ez
 rw[WL h1 h2,e1]
 simp
instance (w:Wd):Decidable (Plain w):=by unfold Plain;infer_instance
theorem oA(p:Wd):core p≠kL∧core p≠kR:=⟨fun e=>WN p (by rw[e];rfl),fun e=>WM p (by rw[e];rfl)⟩
end Fw
namespace Fw
theorem cI{ps:List Wd}(h:ps≠[]):∃l p,ps=l++[p]:=⟨ps.dropLast,ps.getLast h,(List.dropLast_concat_getLast h).symm⟩
theorem dH{l:List Wd}{p:Wd}:bB (l++[p])=l++[p++[41]]:=j8 l (by simp)
def rJ:List Wd:=Fj++[Cd]
def tO:List Wd:=Fj++[Cd,kOf,Fo,M9]
end Fw
namespace Fw
def k1:Wd:=[49]
def k2:Wd:=[50]
def kM3:Wd:=[45,51]
def vH:List Wd:=[Cz,Hj,Gr,kM3]
theorem rH:∀w∈Fj,w∈tO∧w∈rJ∧w≠Cr:=by decide
section
variable{val:Wd→Int}
theorem mj{T:Wd}(h:¬Red val T):Gk val T=none:=by
 cases e:Gk val T with
 | none=>rfl
 | some p=>exact absurd (red e) h
theorem gb{T:Wd}(h:T.count 40≠T.count 41):Gk val T=none:=mj fun R=>h R.bal
end
end Fw
namespace Fw
section
variable{val:Wd→Int}
def tks(ps:List Wd):List Wd:=ps.flatMap Ez
structure Pr7(val:Wd→Int)(k:Nat)(ps:List Wd):Prop where
 hd:∃t r,tks ps=t::r∧t∈[U3,Ly,Cr,Cz,kL]
 pe:∃p,∀d r,k≤d→r.head?≠some Cr→prs val d (tks ps++r)=some (p,r)
 pa:ps=vH∨∃p,∀d r,k≤d→prs val d (tks ps++r)=some (p,r)
theorem Pr7.of{k:Nat}{ps:List Wd}(hd:∃t r,tks ps=t::r∧t∈[U3,Ly,Cr,Cz,kL]){p:Pl}(h:∀d r,k≤d→prs val d (tks ps++r)=some (p,r)):Pr7 val k ps:=⟨hd,⟨p,fun d r kd _=>h d r kd⟩,.inr ⟨p,h⟩⟩
theorem Pr7.mono{k m:Nat}{ps:List Wd}(P:Pr7 val k ps)(h:k≤m):Pr7 val m ps:=by
 obtain⟨p,hp⟩:=P.pe
 refine⟨P.hd,⟨p,fun d r kd g=>hp d r (by omega) g⟩,P.pa.elim .inl fun⟨q,hq⟩=>.inr ⟨q,fun d r kd=>hq d r (by omega)⟩⟩
theorem u9{w:Wd}{r:List Wd}(h:w≠Cr):(w::r).head?≠some Cr:=fun z=>h (by injection z)
theorem gD{w:Wd}{ps:List Wd}(h:Ez w=[w]):tks (w::ps)=w::tks ps:=by
 unfold tks
 rw[List.flatMap_cons,h]
 rfl
theorem gC{ps:List Wd}(ne:ps≠[])(co:∀p∈ps,core p≠[]):tks (bB (bA ps))=kL::(tks ps++[kR]):=by
 match ps,ne with
 | [f],_=>
  show Ez ((40::f)++[41])++[]=kL::((Ez f++[])++[kR])
  rw[Vy (by rw[Jo];exact co f List.mem_cons_self),Vz]
  simp
 | f::y::r,_=>
  obtain⟨l,p,e⟩:=cI (ps:=y::r) (by simp)
  have E:bB (bA (f::y::r))=(40::f)::(l++[p++[41]]):=by
   show(40::f)::bB (y::r)=_
   rw[e,dH]
  rw[E,e]
  unfold tks
  rw[List.flatMap_cons,List.flatMap_append,List.flatMap_cons,List.flatMap_nil,List.flatMap_cons,List.flatMap_append,List.flatMap_cons,List.flatMap_nil,Vz,Vy (co p (by rw[e];simp))]
  simp
theorem HH{n:Wd}{r:List Wd}(h:G7 n=true):HJ val (n::r)=some (val n,r):=by simp only[HJ,h,if_true]
theorem WX(x:Wd)(r:List Wd):tkW x (x::r)=some r:=by simp only[tkW,if_true]
theorem Vs{n m:Wd}{r:List Wd}(hn:G7 n=true)(hm:G7 m=true):Gd val (n::Cd::m::r)=some ((val n,val m),r):=by
 unfold Gd
 rw[HH hn]
 simp only[]
 rw[WX]
 simp only[]
 rw[HH hm]
theorem X4{P:List Wd→Option (Pl×List Wd)}{t:Wd}{r:List Wd}(h:t∈[U3,Ly,Cr,Cz,kL]):Cp val P (t::r)=Hr P (t::r):=by
 have:∀t∈[U3,Ly,Cr,Cz,kL],t≠M9∧t≠GQ∧G7 t≠true:=by decide
 obtain⟨a,b,c⟩:=this t h
 simp only[Cp]
 rw[if_neg a,if_neg b,if_neg c]
theorem rD(d:Nat)(r:List Wd):prs val (d+1) (kL::r)=(match Cp val (prs val d) r with | none=>none | some (p,r)=>match tkW kR r with | none=>none | some r=>some (p,r)):=rfl
theorem ir{d:Nat}{xs r:List Wd}{p:Pl}(h:Cp val (prs val d) (xs++kR::r)=some (p,kR::r)):prs val (d+1) (kL::(xs++[kR])++r)=some (p,r):=by
 have e:kL::(xs++[kR])++r=kL::(xs++kR::r):=by simp
 rw[e,rD,h]
 simp only[]
 rw[WX]
theorem Yp{n:Wd}(hn:G7 n=true):n≠M9∧n≠GQ:=⟨fun e=>by subst e;revert hn;decide,fun e=>by subst e;revert hn;decide⟩
theorem Ng{P:List Wd→Option (Pl×List Wd)}{n:Wd}{r:List Wd}(hn:G7 n=true):Cp val P (n::r)=Er val P (n::r):=by
 simp only[Cp]
 rw[if_neg (Yp hn).1,if_neg (Yp hn).2,if_pos hn]
theorem gY{ps:List Wd}(ne:ps≠[])(bl:∀p∈ps,32∉p):L2.spl 32 (jn ps)=ps:=by
 cases ps with
 | nil=>exact absurd rfl ne
 | cons w ws=>exact gZ bl
end
end Fw
namespace Fw
section
variable{val:Wd→Int}
theorem words_pos:∀{ps:List Wd} {d:Int},(∀p∈ps,core p≠[])→d+(((ps.map fun q=>q.count 40).sum:Nat):Int)≤40→wordsOf d ps=some (tks ps)
 | [],d,_,_=>rfl
 | p::ps,d,co,h=>by
  rw[List.map_cons,List.sum_cons] at h
  have a:=RD p
  have b:=Mt p
  have c:p.length-(opd p).length≤p.count 40:=by
   have e:=congrArg (List.count 40) (cA p)
   rw[List.count_append,List.count_append,List.count_replicate] at e
   simp at e
   omega
  simp only[wordsOf]
  rw[if_neg (co p List.mem_cons_self),if_neg (by omega),words_pos (fun q hq=>co q (List.mem_cons_of_mem _ hq)) (by omega)]
  rfl
theorem bQ{T:Wd}{p:Pl}(ln:T.length≤4000)(co:∀q∈L2.spl 32 T,core q≠[])(c40:T.count 40≤40)(hp:prs val 41 (tks (L2.spl 32 T))=some (p,[])):Gk val T=some p:=by
 unfold Gk
 rw[if_neg (by omega),words_pos co (by rw[←Mg 32 40 (by decide) T];omega)]
 simp only[hp]
def Gw(w:Wd):Prop:=w≠[]∧w.all gs=true
theorem Gw.no{w:Wd}(h:Gw w){c:Nat}(hc:gs c=false):c∉w:=fun m=>by
 have:=List.all_eq_true.mp h.2 c m
 rw[hc] at this
 cases this
theorem Gw.h{w:Wd}(h:Gw w):w.head?≠some 40∧w.getLast?≠some 41:=⟨fun z=>h.no (by decide) (List.mem_of_mem_head? z),fun z=>h.no (by decide) (List.mem_of_getLast? z)⟩
theorem KY{n:Wd}(h:G7 n=true):Gw n:=⟨(fun e=>by subst e;revert h;decide),jY h⟩
theorem cW{n:Wd}(h:nameB n=true):Gw n:=⟨(fun e=>by subst e;revert h;decide),cJ h⟩
theorem Zc:∀{ws:List Wd},(∀w∈ws,Gw w)→tks ws=ws
 | [],_=>rfl
 | w::ws,h=>by
  have g:=(h w List.mem_cons_self).h
  rw[gD (dw g.1 g.2),Zc fun x hx=>h x (List.mem_cons_of_mem _ hx)]
theorem Xu{ws:List Wd}(h:∀w∈ws,Gw w):∀w∈ws,core w≠[]:=fun w hw=>by
 rw[WL (h w hw).h.1 (h w hw).h.2]
 exact(h w hw).1
theorem pQ{ws:List Wd}(h:∀w∈ws,Gw w):∀w∈ws,32∉w:=fun w hw=>(h w hw).no (by decide)
theorem aU{c:Nat}(h:c≠32):∀{ws:List Wd},c∈jn ws→∃w∈ws,c∈w
 | [],m=>(nomatch m)
 | [w],m=>⟨w,List.mem_cons_self,m⟩
 | w::x::r,m=>by
  rw[Cy (by simp)] at m
  rcases List.mem_append.mp m with m | m
  ·exact⟨w,List.mem_cons_self,m⟩
  ·rcases List.mem_cons.mp m with m | m
   ·exact absurd m h
   ·obtain⟨y,hy,z⟩:=aU h m
    exact⟨y,List.mem_cons_of_mem _ hy,z⟩
theorem Jm{ws:List Wd}(h:∀w∈ws,Gw w){c:Nat}(c32:c≠32)(hc:gs c=false):(jn ws).count c=0:=List.count_eq_zero.mpr fun m=>by
 obtain⟨w,hw,m⟩:=aU c32 m
 exact(h w hw).no hc m
theorem jg{ws:List Wd}(h:∀w∈ws,Gw w):∀c∈jn ws,c<128:=fun c m=>by
 by_cases e:c=32
 ·omega
 ·obtain⟨w,hw,m⟩:=aU e m
  have:=List.all_eq_true.mp (h w hw).2 c m
  unfold gs at this
  simp only[Bool.or_eq_true,Bool.and_eq_true,decide_eq_true_eq] at this
  omega
theorem di{ws:List Wd}{p:Pl}(h:∀w∈ws,Gw w)(ne:ws≠[])(ln:(jn ws).length≤4000)(hp:prs val 41 ws=some (p,[])):Gk val (jn ws)=some p:=by
 have e:=gY ne (pQ h)
 exact bQ ln (by rw[e];exact Xu h) (by rw[Jm h (by decide) (by decide)];decide) (by rw[e,Zc h];exact hp)
theorem Xz{ws:List Wd}{q:Wd}(h:q∈bB (bA ws))(ne:ws≠[]):∃w∈ws,q=w∨q=40::w∨q=w++[41]∨q=40::w++[41]:=by
 have A:∀q∈bA ws,∃w∈ws,q=w∨q=40::w:=fun q hq=>by
  cases ws with
  | nil=>exact absurd rfl ne
  | cons f r=>
   rcases List.mem_cons.mp hq with z | z
   ·exact⟨f,List.mem_cons_self,.inr z⟩
   ·exact⟨q,List.mem_cons_of_mem _ z,.inl rfl⟩
 obtain⟨l,p,e⟩:=cI (j9 ne)
 rw[e] at A
 rw[e,dH] at h
 rcases List.mem_append.mp h with z | z
 ·obtain⟨w,hw,h⟩:=A q (List.mem_append_left _ z)
  exact⟨w,hw,h.elim .inl fun h=>.inr (.inl h)⟩
 ·obtain⟨w,hw,h⟩:=A p (List.mem_append_right _ List.mem_cons_self)
  rw[List.mem_singleton.mp z]
  rcases h with h | h
  ·exact⟨w,hw,.inr (.inr (.inl (by rw[h])))⟩
  ·exact⟨w,hw,.inr (.inr (.inr (by rw[h])))⟩
theorem dh{ws:List Wd}{p:Pl}(h:∀w∈ws,Gw w)(ne:ws≠[])(ln:(jn ws).length≤3900)(hp:Cp val (prs val 40) (ws++[kR])=some (p,[kR])):Gk val (40::jn ws++[41])=some p:=by
 have e0:40::jn ws++[41]=jn (bB (bA ws)):=by rw[pL (j9 ne),uz ne]
 have bl:∀q∈bB (bA ws),32∉q:=fun q hq m=>by
  obtain⟨w,hw,h'⟩:=Xz hq ne
  have n:=pQ h w hw
  rcases h' with z | z | z | z<;>rw[z] at m
  ·exact n m
  ·simp at m
   exact n m
  ·simp at m
   exact n m
  ·simp at m
   exact n m
 have e:L2.spl 32 (40::jn ws++[41])=bB (bA ws):=by rw[e0,gY (vI (j9 ne)) bl]
 have g0:=Jm h (c:=40) (by decide) (by decide)
 refine bQ (by simp;omega) (by
  rw[e]
  intro q hq
  obtain⟨w,hw,h'⟩:=Xz hq ne
  have c:=Xu h w hw
  rcases h' with z | z | z | z
  ·rw[z];exact c
  ·rw[z,Jo];exact c
  ·rw[z,Ra (VB c)];exact c
  ·rw[z,Ra (VB (by rw[Jo];exact c)),Jo];exact c) (by
  rw[List.count_append,List.count_cons,g0]
  decide) ?_
 rw[e,gC ne (Xu h),Zc h]
 have:=ir (val:=val) (d:=40) (xs:=ws) (r:=[]) hp
 rwa [List.append_nil] at this
structure Lf(val:Wd→Int)(ws:List Wd)(p:Pl):Prop where
 gw:∀w∈ws,Gw w
 hd:∃t r,ws=t::r∧t∈[U3,Ly,Cr,Cz,kL]
 pe:∀d r,r.head?≠some Cr→prs val (d+1) (ws++r)=some (p,r)
theorem Lf.ne{ws:List Wd}{p:Pl}(L:Lf val ws p):ws≠[]:=by
 obtain⟨t,r,e,_⟩:=L.hd
 rw[e]
 simp
theorem Cm{w:Wd}{ws:List Wd}(h:Gw w)(g:∀w∈ws,Gw w):∀x∈w::ws,Gw x:=fun x hx=>(List.mem_cons.mp hx).elim (fun z=>z ▸ h) (g x)
theorem aY{ws vs:List Wd}(h:∀w∈ws,Gw w)(g:∀w∈vs,Gw w):∀x∈ws++vs,Gw x:=fun x hx=>(List.mem_append.mp hx).elim (h x) (g x)
theorem vA:∀w∈[Cr,Cd,Cz,Gr,M9,GQ,Fo,kOf]++Fj,Gw w:=by unfold Gw;decide
theorem Ol{w:Wd}(h:w∈[Cr,Cd,Cz,Gr,M9,GQ,Fo,kOf]++Fj):Gw w:=vA w h
theorem Xr:∀x∈([]:List Wd),Gw x:=fun _ h=>(nomatch h)
theorem Sy{n m:Wd}(hn:G7 n=true)(hm:G7 m=true):Lf val [Cr,n,Cd,m] (.each (val n) (val m)):=by
 refine⟨Cm (Ol (by decide)) (Cm (KY hn) (Cm (Ol (by decide)) (Cm (KY hm) Xr))),⟨_,_,rfl,by decide⟩,fun d r _=>?_⟩
 show(match Gd val (n::Cd::m::r) with | none=>none | some (y,r)=>some (Pl.each y.1 y.2,r))=_
 rw[Vs hn hm]
def Wn(val:Wd→Int)(w:Wd)(o:Option Int):Prop:=(w=Gr∧o=none)∨(G7 w=true∧o=some (val w))
theorem oW{w:Wd}{o:Option Int}(h:Wn val w o)(r:List Wd):Hq val (w::r)=some (o,r):=by
 rcases h with ⟨rfl,rfl⟩ | ⟨h,rfl⟩
 ·rfl
 ·simp only[Hq]
  rw[if_neg (fun e=>by subst e;revert h;decide),HH h]
theorem az{w:Wd}{o:Option Int}(h:Wn val w o):Gw w:=by
 rcases h with ⟨rfl,rfl⟩ | ⟨h,rfl⟩
 ·exact Ol (by decide)
 ·exact KY h
theorem Y9{nm a b:Wd}{oa ob:Option Int}(hn:nameB nm=true)(ha:Wn val a oa)(hb:Wn val b ob)(d:Nat)(r:List Wd):prs val (d+1) (Cz::nm::a::b::r)=(match Ga val r with | none=>none | some (y,r)=>some (.date nm oa ob y.1 y.2,r)):=by
 show JC val (nm::a::b::r)=_
 simp only[JC]
 rw[if_pos hn,oW ha]
 simp only[]
 rw[oW hb]
theorem nD{nm a b:Wd}{oa ob:Option Int}(hn:nameB nm=true)(ha:Wn val a oa)(hb:Wn val b ob):Lf val [Cz,nm,a,b] (.date nm oa ob 1 0):=by
 refine⟨Cm (Ol (by decide)) (Cm (cW hn) (Cm (az ha) (Cm (az hb) Xr))),⟨_,_,rfl,by decide⟩,fun d r hr=>?_⟩
 show prs val (d+1) (Cz::nm::a::b::r)=_
 rw[Y9 hn ha hb]
 cases r with
 | nil=>rfl
 | cons w r=>
  have:Ga val (w::r)=some ((1,0),w::r):=by
   simp only[Ga]
   rw[if_neg (fun z=>hr (by rw[z];rfl))]
  rw[this]
theorem QM{nm a b n m:Wd}{oa ob:Option Int}(hn:nameB nm=true)(ha:Wn val a oa)(hb:Wn val b ob)(h1:G7 n=true)(h2:G7 m=true):Lf val [Cz,nm,a,b,Cr,n,Cd,m] (.date nm oa ob (val n) (val m)):=by
 refine⟨Cm (Ol (by decide)) (Cm (cW hn) (Cm (az ha) (Cm (az hb) (Cm (Ol (by decide)) (Cm (KY h1) (Cm (Ol (by decide)) (Cm (KY h2) Xr))))))),⟨_,_,rfl,by decide⟩,fun d r hr=>?_⟩
 show prs val (d+1) (Cz::nm::a::b::Cr::n::Cd::m::r)=_
 rw[Y9 hn ha hb]
 have:Ga val (Cr::n::Cd::m::r)=some ((val n,val m),r):=by
  show Gd val (n::Cd::m::r)=_
  exact Vs h1 h2
 rw[this]
section
variable{ws vs:List Wd}{p q:Pl}(L:Lf val ws p)(M:Lf val vs q)
include L
theorem vD:Cp val (prs val 40) (M9::ws++[kR])=some (.not p,[kR]):=by
 show(match prs val 40 (ws++[kR]) with | none=>none | some (p,r)=>some (Pl.not p,r))=_
 rw[L.pe 39 [kR] (by decide)]
theorem nW{n:Wd}(hn:G7 n=true):Cp val (prs val 40) (n::Fo::ws++[kR])=some (.later (val n) p,[kR]):=by
 show Cp val (prs val 40) (n::(Fo::ws++[kR]))=_
 rw[Ng hn]
 unfold Er
 rw[HH hn]
 show(match prs val 40 (ws++[kR]) with | none=>none | some (p,r)=>some (Pl.later (val n) p,r))=_
 rw[L.pe 39 [kR] (by decide)]
theorem nY{n m:Wd}(hn:G7 n=true)(hm:G7 m=true):Cp val (prs val 40) (GQ::n::kOf::(ws++[Cd,m])++[kR])=some (.every (val n) p (val m),[kR]):=by
 show HB val (prs val 40) (n::(kOf::(ws++[Cd,m]++[kR])))=_
 unfold HB
 rw[HH hn]
 simp only[]
 rw[WX]
 simp only[]
 rw[List.append_assoc,L.pe 39 ([Cd,m]++[kR]) (u9 (by decide))]
 show(match HJ val (m::[kR]) with | none=>none | some (y,r)=>some (Pl.every (val n) p y,r))=_
 rw[HH hm]
include M
theorem vC{n:Wd}(hn:G7 n=true):Cp val (prs val 40) (n::kOf::(ws++Cd::vs)++[kR])=some (.nth (val n) p q,[kR]):=by
 show Cp val (prs val 40) (n::(kOf::(ws++Cd::vs++[kR])))=_
 rw[Ng hn]
 unfold Er
 rw[HH hn]
 show(match prs val 40 (ws++Cd::vs++[kR]) with | none=>none | some (p,r)=>match tkW Cd r with | none=>none | some r=>match prs val 40 r with | none=>none | some (q,r)=>some (Pl.nth (val n) p q,r))=_
 rw[List.append_assoc,L.pe 39 _ (by simp;decide)]
 show(match prs val 40 (vs++[kR]) with | none=>none | some (q,r)=>some (Pl.nth (val n) p q,r))=_
 rw[M.pe 39 [kR] (by decide)]
theorem sr{w:Wd}(hw:w∈Fj):Cp val (prs val 40) ((ws++w::vs)++[kR])=some (.pair w p q,[kR]):=by
 obtain⟨t,u,et,ht⟩:=L.hd
 have e2:ws++w::vs++[kR]=t::(u++w::(vs++[kR])):=by rw[et];simp
 rw[e2,X4 ht,←e2]
 unfold Hr
 have e3:ws++w::vs++[kR]=ws++w::(vs++[kR]):=by simp
 rw[e3,L.pe 39 _ (fun z=>(rH w hw).2.2 (by injection z))]
 simp only[hw,if_true]
 rw[M.pe 39 [kR] (by decide)]
end
end
end Fw
namespace Fw
open PySem L2 PyProof.Rows
def top(i:Nat):Stmt:=PySem.Challenge.pw_feastwheel_k76_first_refusal_met.main.body.getD i (.Pass ⟨0,0,0,0⟩)
abbrev Dh:Stmt:=inClass (top 4) 0
abbrev Ds:Stmt:=inClass (top 9) 0
abbrev Qz:Stmt:=top 16
abbrev JP:Stmt:=top 17
abbrev Lh:Stmt:=top 18
abbrev GP:Stmt:=top 20
abbrev Q0:Stmt:=top 21
abbrev N7:Stmt:=top 22
abbrev UG:Stmt:=top 23
abbrev Gg:Stmt:=top 27
abbrev Nu:Stmt:=top 28
abbrev Q3:Stmt:=top 29
abbrev Li:Stmt:=top 32
abbrev Q4:Stmt:=top 33
abbrev La:Stmt:=top 34
abbrev JQ:Stmt:=top 35
abbrev Z2:Stmt:=top 36
abbrev Jh:Stmt:=top 37
abbrev Jg:Stmt:=top 38
abbrev Qv:Stmt:=top 39
abbrev J4:Stmt:=top 40
abbrev W6:Stmt:=top 41
abbrev HS:Stmt:=top 43
abbrev HY:Stmt:=top 44
abbrev Hw:Stmt:=top 45
abbrev Mm:Stmt:=top 46
abbrev Qx:Stmt:=top 48
abbrev J5:Stmt:=top 49
abbrev N5:Stmt:=top 50
abbrev N6:Stmt:=top 52
abbrev Z0:Stmt:=top 53
abbrev W5:Stmt:=top 54
abbrev iB:Stmt:=top 58
abbrev W7:Stmt:=top 59
abbrev Ek:Stmt:=inClass (top 61) 0
abbrev Do:Stmt:=inClass (top 61) 2
abbrev Dm:Stmt:=inClass (top 61) 3
abbrev Ln:Stmt:=inClass (top 62) 0
abbrev NQ:Stmt:=inClass (top 63) 0
abbrev Lj:Stmt:=top 64
abbrev Ha:Stmt:=inClass (top 65) 0
abbrev JG:Stmt:=top 66
abbrev J6:Stmt:=top 67
abbrev EY:Stmt:=inClass (top 68) 0
abbrev Hx:Stmt:=inClass (top 69) 0
abbrev Hb:Stmt:=inClass (top 70) 0
abbrev Iu:Stmt:=inClass (top 71) 0
abbrev IW:Stmt:=inClass (top 72) 0
abbrev Gh:Stmt:=inClass (top 73) 0
abbrev G5:Stmt:=inClass (top 74) 0
abbrev Kl:Stmt:=inClass (top 75) 0
abbrev Ji:Stmt:=inClass (top 76) 0
abbrev Ko:Stmt:=inClass (top 77) 0
abbrev Km:Stmt:=inClass (top 78) 0
abbrev IK:Stmt:=inClass (top 79) 0
abbrev G6:Stmt:=inClass (top 80) 0
abbrev Gi:Stmt:=inClass (top 84) 0
abbrev JW:Stmt:=inClass (top 84) 1
abbrev JV:Stmt:=inClass (top 84) 2
abbrev Nt:Stmt:=top 85
abbrev K9:Stmt:=top 86
abbrev JL:Stmt:=top 87
abbrev JK:Stmt:=top 88
abbrev LQ:Stmt:=top 89
abbrev LR:Stmt:=top 90
abbrev HR:Stmt:=top 91
abbrev J2:Stmt:=top 92
abbrev LK:Stmt:=top 93
abbrev JH:Stmt:=top 94
abbrev LC:Stmt:=top 95
abbrev Lg:Stmt:=top 96
abbrev Le:Stmt:=top 97
abbrev Z1:Stmt:=top 98
abbrev Lb:Stmt:=top 99
abbrev Qw:Stmt:=top 104
abbrev J3:Stmt:=top 105
abbrev Qy:Stmt:=top 106
abbrev Hv:Stmt:=top 107
abbrev Gz:Stmt:=top 108
abbrev Ld:Stmt:=top 109
abbrev Di:Stmt:=inClass (top 110) 0
abbrev J7:Stmt:=inClass (top 110) 1
abbrev Hy:Stmt:=inClass (top 110) 2
abbrev G4:Stmt:=inClass (top 110) 3
abbrev Hz:Stmt:=inClass (top 110) 4
abbrev HW:Stmt:=top 115
abbrev Ey:Stmt:=inClass (top 116) 0
abbrev G3:Stmt:=inClass (top 116) 1
abbrev JR:Stmt:=inClass (top 116) 2
abbrev JS:Stmt:=inClass (top 116) 3
abbrev Lk:Stmt:=inClass (top 116) 4
abbrev Gj:Stmt:=inClass (top 118) 0
abbrev IV:Stmt:=inClass (top 118) 3
abbrev JN:Stmt:=top 120
abbrev JM:Stmt:=top 121
abbrev Ny:Stmt:=top 122
abbrev Nz:Stmt:=top 123
abbrev HX:Stmt:=top 124
abbrev Nx:Stmt:=top 125
abbrev Nv:Stmt:=top 126
abbrev Pn:Stmt:=top 127
abbrev JT:Stmt:=inClass (top 114) 0
abbrev K8:Stmt:=top 38
abbrev J1:Stmt:=top 39
def Wu(K:PySem.W.Frag):Sp:=fun vs H Q _=>∃(a:Addr) (ns:List Int) (k:Int),vs=[.ref a,.int k]∧SqL K H a (ns.map V.int)∧0≤k∧ns.length≤63∧Q (.int (ns.getD k.toNat 0)) H
theorem bZ{K:PySem.W.Frag}{a:Addr}{ns:List Int}{k:Int}{H:Hp}{Q:VK}{E:XK}(hS:SqL K H a (ns.map V.int))(hl:ns.length≤63)(hk:0≤k)(h:Q (.int (ns.getD k.toNat 0)) H):Wu K ([.ref a,.int k]++[]) H Q E:=⟨a,ns,k,rfl,hS,hk,hl,h⟩
theorem oF{ns:List Int}{k:Int}(h0:0≤k)(h:k<(ns.length:Int)):atI (ns.map V.int) k=some (.int (ns.getD k.toNat 0)):=by
 have hk:k.toNat<ns.length:=by omega
 have ek:k=((k.toNat:Nat):Int):=by omega
 have q:atI (ns.map V.int) ((k.toNat:Nat):Int)=some (.int ns[k.toNat]):=FZ (by rw[List.getElem?_map,List.getElem?_eq_getElem hk]<;>rfl)
 rw[←ek] at q
 rw[q]
 simp[List.getD,hk]
theorem p40:(10:Int)^(40:Int).toNat=10000000000000000000000000000000000000000:=by decide
theorem p39:(10:Int)^(39:Int).toNat=1000000000000000000000000000000000000000:=by decide
theorem Ik{x:Int}(h1: -1000000000000000000000000000000000000000000000000000000000000≤x)(h2:x≤1000000000000000000000000000000000000000000000000000000000000):Bt 200 x:=by
 unfold Bt
 have:(2:Nat)^200=1606938044258990275541962092341162602522202993782792835301376:=by decide
 omega
theorem Dz{a b:V}:([a,b]:List V).length≤sizeLine:=by show 2≤sizeLine;decide
theorem at0{x y:V}:atI [x,y] 0=some x:=rfl
theorem at1{x y:V}:atI [x,y] 1=some y:=rfl
local macro_rules | `(tactic| walk_at "c")=> `(tactic| (repeat (first | walk_at "rd1" | ((with_reducible refine' Fw.bZ ?hc1 ?hc2 ?hc3 ?_);(case hc1=>assumption);(case hc2=>assumption);(case hc3=>decide)) | with_reducible refine Fw.rd_whole ?_)))
local macro_rules | `(tactic| walk_at "y")=> `(tactic| (repeat (first | walk_at "rd1" | ((with_reducible refine' Fw.bZ ?hc1 ?hc2 ?hc3 ?_);(case hc1=>assumption);(case hc2=>assumption);(case hc3=>decide)) | with_reducible refine Fw.rd_whole ?_ | with_reducible refine L2.YT ?_ | with_reducible refine L2.YQ ?_ | with_reducible refine L2.iH ?_ | with_reducible refine L2.bR ?_ | with_reducible refine L2.N8 ?_)))
def qG:Sp:=fun vs H Q _=>∃a b:Int,vs=[.int a,.int b]∧Bt 500 a∧Bt 500 b∧∀(p:Addr) (u v g:Int) (H':Hp),Bo H H'→H' p=some (.tup [.int u,.int v,.int g])→Eqn a b u v g→Q (.ref p) H'
def Qm:Sp:=fun vs H Q _=>∃a b:Int,vs=[.int a,.int b]∧Bt 500 a∧Bt 500 b∧∀H',Bo H H'→Q (.int (Int.gcd a b:Int)) H'
theorem tV{x y z:V}:atI [x,y,z] 0=some x:=rfl
theorem tU{x y z:V}:atI [x,y,z] 1=some y:=rfl
theorem ZL{x y z:V}:atI [x,y,z] 2=some z:=rfl
theorem three{a b c:V}:([a,b,c]:List V).length≤sizeLine:=by show 3≤sizeLine;decide
theorem two{a b:V}:([a,b]:List V).length≤sizeLine:=by show 2≤sizeLine;decide
theorem dG{k m:Nat}{x y:Int}(h:Bt k y)(l:x.natAbs≤4*y.natAbs+4)(hk:k+4≤m):Bt m x:=by
 unfold Bt at*
 have p:2^(k+4)≤2^m:=Nat.pow_le_pow_right (by decide) hk
 have e:2^(k+4)=2^k*16:=by rw[Nat.pow_add]
 omega
theorem tK{k m:Nat}{x y z:Int}(h:Bt k y)(h':Bt k z)(l:x.natAbs≤y.natAbs+z.natAbs+4)(hk:k+4≤m):Bt m x:=by
 unfold Bt at*
 have p:2^(k+4)≤2^m:=Nat.pow_le_pow_right (by decide) hk
 have e:2^(k+4)=2^k*16:=by rw[Nat.pow_add]
 omega
theorem DY{k:Nat}{x:Int}(h0:0≤x)(h1:x<18446744073709551616)(hk:64≤k):Bt k x:=Bt.mono (k:=64) (by unfold Bt;omega) hk
def Ku:Sp:=fun vs H Q _=>∃n:Int,vs=[.int n]∧0≤n∧n≤1000000∧Q (.int ((2^n.toNat-1:Nat):Int)) H
theorem Kd{b n:Nat}(h:b<2^n):Bt n (b:Int):=by unfold Bt;rw[Int.natAbs_natCast];exact h
theorem bt1:Bt 1 1:=by unfold Bt;decide
def GR(K:PySem.W.Frag):Sp:=fun vs H Q _=>∃(a:Addr) (n z:Int) (b:Nat),vs=[.ref a,.int z]∧SqT K H a [.int n,.int (b:Int)]∧0<n∧n≤300000∧b<2^n.toNat∧0<z∧z≤150000∧
 ∀c:Nat,Rb n.toNat b z.toNat c→Q (.int (c:Int)) H
def Mi(K:PySem.W.Frag):Sp:=fun vs H Q _=>∃(a:Addr) (n:Int) (b:Nat),vs=[.ref a]∧SqT K H a [.int n,.int (b:Int)]∧0<n∧n≤150000∧b<2^n.toNat∧
 ∀(p:Addr) (c:Nat),H p=none→c<2^n.toNat→(∀i,i<n.toNat→c.testBit i=!b.testBit i)→Q (.ref p) (upd H p (.tup [.int n,.int (c:Int)]))
theorem tL{k:Nat}{d n:Int}(h:Bt k d)(hn:0<n):Bt k (d/n):=by
 refine h.le ?_
 rcases Int.lt_or_le d 0 with c | c
 ·have h1:d/n<0:=Int.ediv_neg_of_neg_of_pos c hn
  have h2:d≤d/n:=(Int.le_ediv_iff_mul_le hn).mpr (by
   have:=Int.mul_le_mul_of_nonpos_left (show d≤0 by omega) (show 1≤n by omega)
   omega)
  omega
 ·have h1:0≤d/n:=Int.ediv_nonneg c (by omega)
  have h2:d/n≤d:=Int.ediv_le_self n c
  omega
def jX(v:V):Prop:=∃i:Int,v=.int i∧i.natAbs.log2<1920
def Gs(cT:Addr)(n:Int)(H:Hp)(E:XK):Prop:=∀d H',Bo H H'→H' d=some (.xd [("needed",.int n)])→E (.ref cT) (some d) H'
def Il(cN:Addr)(H:Hp)(E:XK):Prop:=∀H',Bo H H'→E (.ref cN) none H'
theorem Gs.later{cT:Addr}{n:Int}{H H':Hp}{E:XK}(h:Gs cT n H E)(s:Bo H H'):Gs cT n H' E:=fun d H2 s2 e=>h d H2 (s.trans s2) e
theorem Il.later{cN:Addr}{H H':Hp}{E:XK}(h:Il cN H E)(s:Bo H H'):Il cN H' E:=fun H2 s2=>h H2 (s.trans s2)
theorem Il.here{cN:Addr}{H:Hp}{E:XK}(h:Il cN H E):E (.ref cN) none H:=h H (Bo.refl H)
def Gv(cN:Addr):Sp:=fun vs H Q E=>∃n:Int,vs=[.int n]∧(1≤n→Q .non H)∧(n<1→Il cN H E)
def GK(cT:Addr):Sp:=fun vs H Q E=>∃n:Int,vs=[.int n]∧Bt 1900 n∧(n≤150000→Q .non H)∧(150000<n→Gs cT n H E)
def Jc(cN:Addr):Sp:=fun vs H Q E=>∃a b:Int,vs=[.int a,.int b]∧Bt 500 a∧Bt 500 b∧(1≤a→1≤b→∀H',Bo H H'→Q (.int (DN a b)) H')∧(¬(1≤a∧1≤b)→Il cN H E)
structure Two(K:PySem.W.Frag)(H:Hp)(a1 a2:Addr)(n1 n2:Int)(b1 b2:Nat):Prop where
 s1:SqT K H a1 [.int n1,.int (b1:Int)]
 s2:SqT K H a2 [.int n2,.int (b2:Int)]
 p1:0<n1
 p2:0<n2
 l1:n1≤150000
 l2:n2≤150000
 k1:b1<2^n1.toNat
 k2:b2<2^n2.toNat
theorem Two.later{K:PySem.W.Frag}{H H':Hp}{a1 a2:Addr}{n1 n2:Int}{b1 b2:Nat}(t:Two K H a1 a2 n1 n2 b1 b2)(s:Bo H H'):Two K H' a1 a2 n1 n2 b1 b2:=⟨s.tup t.s1,s.tup t.s2,t.p1,t.p2,t.l1,t.l2,t.k1,t.k2⟩
theorem Two.bt{K:PySem.W.Frag}{H:Hp}{a1 a2:Addr}{n1 n2:Int}{b1 b2:Nat}(t:Two K H a1 a2 n1 n2 b1 b2):Bt 1900 (DN n1 n2):=by
 have h0:=(DG t.p1 t.p2).1
 have h1:=cP t.p1 t.p2
 have h2:=Int.mul_le_mul t.l1 t.l2 (Int.le_of_lt t.p2) (by decide)
 exact DY (by omega) (by omega) (by decide)
def PK(K:PySem.W.Frag)(cT:Addr):Sp:=fun vs H Q E=>∃(a1 a2:Addr) (n1 n2:Int) (b1 b2:Nat),vs=[.ref a1,.ref a2]∧Two K H a1 a2 n1 n2 b1 b2∧(DN n1 n2≤150000→∀H',Bo H H'→Q (.int (DN n1 n2)) H')∧(150000<DN n1 n2→Gs cT (DN n1 n2) H E)
def Hs(K:PySem.W.Frag)(cN cT:Addr):Sp:=fun vs H Q E=>∃(a:Addr) (ds:List Int) (n:Int),vs=[.int n,.ref a]∧SqL K H a (ds.map V.int)∧Bt 1900 n∧
 (1≤n→n≤150000→∀(p:Addr) (b:Nat) (H':Hp),Bo H H'→H' p=some (.tup [.int n,.int (b:Int)])→RB n ds b→Q (.ref p) H')∧(n<1→Il cN H E)∧(150000<n→Gs cT n H E)
def Fp(K:PySem.W.Frag)(cN cT:Addr):Sp:=fun vs H Q E=>∃(a:Addr) (n z:Int) (b:Nat),vs=[.ref a,.int z]∧SqT K H a [.int n,.int (b:Int)]∧0<n∧n≤150000∧b<2^n.toNat∧Bt 1900 z∧
 (1≤z→n∣z→z≤150000→∀(p:Addr) (c:Nat),H p=none→Rb n.toNat b z.toNat c→Q (.ref p) (upd H p (.tup [.int z,.int (c:Int)])))∧(z<1∨¬n∣z→Il cN H E)∧(1≤z→n∣z→150000<z→Gs cT z H E)
def Uh(b k:Nat):List V:=(List.range k).map fun j=>V.int ((pc b j:Nat):Int)
theorem Py(b k:Nat):(Uh b k).length=k:=by unfold Uh;simp
theorem Pz{b k j:Nat}(h:j<k):(Uh b k)[j]?=some (V.int ((pc b j:Nat):Int)):=by
 unfold Uh
 rw[List.getElem?_map,List.getElem?_range h]
 rfl
theorem d9(k:Nat):(List.replicate k [V.int 0]).flatten=Uh 0 k:=by
 unfold Uh
 have:(fun j=>V.int ((pc 0 j:Nat):Int))=fun _=>V.int 0:=by
  funext j
  unfold pc
  simp
 rw[this,List.map_const',List.length_range]
 induction k with
 | zero=>rfl
 | succ k ih=>rw[List.replicate_succ,List.flatten_cons,ih,List.replicate_succ];rfl
theorem jL{b k p:Nat}(h:p/256<k):(Uh b k).set (p/256) (V.int ((pc b (p/256) ||| 2^(p%256):Nat):Int))=Uh (b ||| 2^p) k:=by
 refine List.ext_getElem? fun j=>?_
 rw[List.getElem?_set]
 by_cases hj:j<k
 ·rw[Pz hj]
  by_cases c:p/256=j
  ·rw[if_pos c,if_pos (by rw[Py];omega)]
   subst c
   rw[Pz hj,jN]
  ·rw[if_neg c,Pz hj,jM (Ne.symm c)]
 ·have e:∀b,(Uh b k)[j]?=none:=fun b=>List.getElem?_eq_none (by rw[Py];omega)
  rw[if_neg (by omega),e,e]
theorem lZ{n:Int}{b:Nat}(hn:0<n)(hb:b<2^n.toNat):b%2^(256*((n/256+1).toNat))=b:=
 Nat.mod_eq_of_lt (Nat.lt_of_lt_of_le hb (Nat.pow_le_pow_right (by decide) (by omega)))
def dl(b m:Nat):List Nat:=(List.range m).filter fun i=>b.testBit i
def dli(b m:Nat):List Int:=(dl b m).map fun(i:Nat)=>(i:Int)
theorem jy(b m k:Nat):dl b (m+k)=dl b m++((List.range k).filter fun i=>b.testBit (m+i)).map fun i=>m+i:=by
 unfold dl
 rw[List.range_add,List.filter_append,List.filter_map]
 rfl
theorem nj{b n:Nat}(hb:b<2^n)(k:Nat):dl b (n+k)=dl b n:=by
 rw[jy]
 have:((List.range k).filter fun i=>b.testBit (n+i))=[]:=by
  rw[List.filter_eq_nil_iff]
  intro i _
  rw[high hb (by omega)]
  exact Bool.false_ne_true
 rw[this,List.map_nil,List.append_nil]
theorem sy(b m:Nat):(dl b m).length≤m:=by
 unfold dl
 exact Nat.le_trans (List.length_filter_le _ _) (by simp)
theorem mem_dl{b m i:Nat}:i∈dl b m↔i<m∧b.testBit i=true:=by
 unfold dl
 rw[List.mem_filter,List.mem_range]
theorem m8{b m:Nat}{d:Int}:d∈dli b m↔0≤d∧d<m∧b.testBit d.toNat=true:=by
 unfold dli
 rw[List.mem_map]
 constructor
 ·rintro⟨i,hi,rfl⟩
  obtain⟨h1,h2⟩:=mem_dl.mp hi
  exact⟨by omega,by omega,by rw[Int.toNat_natCast];exact h2⟩
 ·rintro⟨h1,h2,h3⟩
  exact⟨d.toNat,mem_dl.mpr ⟨by omega,h3⟩,by omega⟩
theorem ni(b m:Nat):(dl b m).Pairwise (· < ·):=List.Pairwise.filter _ List.pairwise_lt_range
theorem jx(b m:Nat):(dli b m).Pairwise (· < ·):=by
 unfold dli
 rw[List.pairwise_map]
 exact(ni b m).imp fun h=>by omega
theorem cu(b m:Nat):(dli b m).length≤m:=by
 unfold dli
 rw[List.length_map]
 exact sy b m
def Tq(K:PySem.W.Frag):Sp:=fun vs H Q _=>∃(a:Addr) (n:Int) (b:Nat),vs=[.ref a]∧SqT K H a [.int n,.int (b:Int)]∧0<n∧n≤150000∧b<2^n.toNat∧
 ∀(l:Addr) (H':Hp),H l=none→Bo H H'→H' l=some (.lst ((dli b n.toNat).map V.int))→Q (.ref l) H'
theorem d8(b m i:Nat):(Builtin.bitAnd (((b/2^m%2^256:Nat):Int)/2^i) 1 != 0)=(decide (i<256)&&b.testBit (m+i)):=by
 have h:(b/2^m%2^256).testBit i=(decide (i<256)&&b.testBit (m+i)):=by
  rw[Nat.testBit_mod_two_pow,←Nat.shiftRight_eq_div_pow,Nat.testBit_shiftRight]
 rw[Ky,show(1:Int)=((1:Nat):Int) from rfl,Et,Nat.and_one_is_mod,←h,Nat.testBit_eq_decide_div_mod_eq,Nat.shiftRight_eq_div_pow,Bool.eq_iff_iff]
 simp only[bne_iff_ne,decide_eq_true_eq]
 omega
theorem Y6(b m:Nat):((dli b m).map V.int)++(((((List.range 256).map fun i=>V.int (0+(i:Nat)))).filter fun v=>match v with | .int d=>b.testBit (m+d.toNat) | _=>false).map fun v=>match v with | .int d=>V.int ((m:Int)+d) | _=>.non)=(dli b (m+256)).map V.int:=by
 unfold dli
 rw[jy,List.map_append,List.map_append]
 congr 1
 rw[List.filter_map,List.map_map,List.map_map,List.map_map]
 have e:((fun v:V=>match v with | .int d=>b.testBit (m+d.toNat) | _=>false) ∘ fun i:Nat=>V.int (0+(i:Nat)))=fun i=>b.testBit (m+i):=by
  funext i
  show b.testBit (m+(0+(i:Int)).toNat)=_
  rw[show (0+(i:Int)).toNat=i by omega]
 rw[e]
 refine List.map_congr_left fun i _=>?_
 show V.int ((m:Int)+(0+(i:Int)))=V.int (((m+i:Nat):Int))
 rw[show (m:Int)+(0+(i:Int))=((m+i:Nat):Int) by omega]
def Zk(K:PySem.W.Frag):Sp:=fun vs H Q _=>∃(a:Addr) (n f e:Int) (b:Nat),vs=[.ref a,.int f,.int e]∧SqT K H a [.int n,.int (b:Int)]∧0<n∧n≤150000∧b<2^n.toNat∧Bt 250 f∧Bt 250 e∧∀H',Bo H H'→Q (.int (CC n b e-CC n b f)) H'
def Zj:Sp:=fun vs H Q _=>∃(b n:Nat),vs=[.int (b:Int)]∧b<2^n∧n≤150000∧∀H',Bo H H'→Q (.int ((cnt b n:Nat):Int)) H'
def Wv(K:PySem.W.Frag):Sp:=fun vs H Q _=>∃(a:Addr) (n d:Int) (b:Nat),vs=[.ref a,.int d]∧SqT K H a [.int n,.int (b:Int)]∧0<n∧n≤150000∧b<2^n.toNat∧Bt 260 d∧∀H',Bo H H'→Q (.int (CC n b d)) H'
theorem cg{w z f c:Nat}(w0:0<w)(hf:f<2^z)(S:Rb (2*w) (2^w-1) z c)(k:Nat):Ev w (f/2^k) ((f/2^k) &&& c):=fun i=>by
 rw[Nat.testBit_and]
 have fl:f/2^k<2^z:=Nat.lt_of_le_of_lt (Nat.div_le_self _ _) hf
 by_cases h:i<z
 ·rw[S.bit i h,Nat.testBit_two_pow_sub_one]
 ·rw[high fl (by omega)];rfl
def Tn(K:PySem.W.Frag)(cN cT:Addr):Sp:=fun vs H Q E=>∃(k d:Int) (a:Addr) (n:Int) (b:Nat),vs=[.int k,.ref a,.int d]∧SqT K H a [.int n,.int (b:Int)]∧0<n∧n≤150000∧b<2^n.toNat∧Bt 250 d∧Bt 400 k∧(k<1→Il cN H E)∧
 (1≤k→n*k≤150000→∀(p:Addr) (c:Nat) (H':Hp),Bo H H'→H' p=some (.tup [.int (n*k),.int (c:Int)])→c<2^(n*k).toNat→(∀e,On (n*k) c e=true↔Evr n b k d e)→Q (.ref p) H')∧
 (1≤k→150000<n*k→Gs cT (n*k) H E)
theorem cL{n k:Int}(hn:0<n)(hk:0<k):k≤n*k:=by
 have:=Int.mul_le_mul_of_nonneg_right (show 1≤n by omega) (Int.le_of_lt hk)
 omega
theorem jw{n:Int}{b:Nat}(hn:0<n)(d:Int):d∈dli b n.toNat↔0≤d∧d<n∧On n b d=true:=by
 rw[m8]
 constructor
 ·rintro⟨h1,h2,h3⟩
  refine⟨h1,by omega,?_⟩
  unfold On
  rw[Int.emod_eq_of_lt h1 (by omega)]
  exact h3
 ·rintro⟨h1,h2,h3⟩
  refine⟨h1,by omega,?_⟩
  unfold On at h3
  rwa [Int.emod_eq_of_lt h1 (by omega)] at h3
def Ec(K:PySem.W.Frag):Sp:=fun vs H Q _=>∃(a1 a2:Addr) (n1 n2:Int) (b1 b2:Nat),vs=[.ref a1,.ref a2]∧Two K H a1 a2 n1 n2 b1 b2∧DN n1 n2≤150000∧
 ∀(p:Addr) (c:Nat) (H':Hp),Bo H H'→H' p=some (.tup [.int (DN n1 n2),.int (c:Int)])→c<2^(DN n1 n2).toNat→Q (.ref p) H'
def Fz(K:PySem.W.Frag)(cT:Addr):Sp:=fun vs H Q E=>∃(a1 a2:Addr) (n1 n2:Int) (b1 b2:Nat),vs=[.ref a1,.ref a2]∧Two K H a1 a2 n1 n2 b1 b2∧
 (DN n1 n2≤150000→∀(p:Addr) (c:Nat) (H':Hp),Bo H H'→H' p=some (.tup [.int (DN n1 n2),.int (c:Int)])→c<2^(DN n1 n2).toNat→Q (.ref p) H')∧(150000<DN n1 n2→Gs cT (DN n1 n2) H E)
def PB(K:PySem.W.Frag)(mg:Str→Option Value)(L:List (Str×Sp)):Sp:=fun vs H Q _=>∃(a1 a2 f:Addr) (n e:Int) (b c:Nat) (x:Str),vs=[.ref a1,.ref a2,.int e,.ref f]∧(x,Ec K)∈L∧mg x=some (.ref f)∧H a1=some (.tup [.int n,.int (b:Int)])∧SqT K H a2 [.int n,.int (c:Int)]∧0<n∧n≤150000∧b<2^n.toNat∧c<2^n.toNat∧(e=1∨e= -1)∧
 ∀(p:Addr) (g:Nat) (H':Hp),Bo H H'→H' p=some (.tup [.int n,.int (g:Int)])→g<2^n.toNat→Q (.ref p) H'
def Zn(K:PySem.W.Frag)(cN cT:Addr):Sp:=fun vs H Q E=>∃(k:Int) (a1 a2:Addr) (n1 n2:Int) (b1 b2:Nat),vs=[.int k,.ref a1,.ref a2]∧Two K H a1 a2 n1 n2 b1 b2∧(k=0→Il cN H E)∧
 (k≠0→DN n1 n2≤150000→∀(p:Addr) (c:Nat) (H':Hp),Bo H H'→H' p=some (.tup [.int (DN n1 n2),.int (c:Int)])→c<2^(DN n1 n2).toNat→Q (.ref p) H')∧
 (k≠0→150000<DN n1 n2→Gs cT (DN n1 n2) H E)
def Ju(K:PySem.W.Frag):Sp:=fun vs H Q _=>∃(a:Addr) (n num:Int) (b:Nat),vs=[.ref a,.int num]∧SqT K H a [.int n,.int (b:Int)]∧0<n∧n≤150000∧b<2^n.toNat∧
 ∀p,H p=none→Q (.ref p) (upd H p (.tup [.int n,.int ((lat n.toNat b (num%n).toNat:Nat):Int)]))
inductive oR where
 | num | long (n:Int) | rnd (n:Int)
def oR.row:oR→List V
 | .num=>[.str "number",.int 0]
 | .long n=>[.str "long",.int n]
 | .rnd n=>[.str "round",.int n]
def oR.ends(cN cT:Addr)(D:oR)(H:Hp)(Q:VK)(E:XK):Prop:=match D with
 | .num=>Il cN H E
 | .long n=>Gs cT n H E
 | .rnd n=>∀(p:Addr) (c:Nat) (H':Hp),Bo H H'→H' p=some (.tup [.int n,.int (c:Int)])→c<2^n.toNat→1≤n→n≤150000→Q (.ref p) H'
structure tZ(K:PySem.W.Frag)(H:Hp)(a1 a2:Addr)(k d n1 n2:Int)(b1 b2:Nat):Prop where
 w:Two K H a1 a2 n1 n2 b1 b2
 bk:Bt 400 k
 bd:Bt 250 d
theorem tZ.later{K:PySem.W.Frag}{H H':Hp}{a1 a2:Addr}{k d n1 n2:Int}{b1 b2:Nat}(a:tZ K H a1 a2 k d n1 n2 b1 b2)(s:Bo H H'):tZ K H' a1 a2 k d n1 n2 b1 b2:=⟨a.w.later s,a.bk,a.bd⟩
theorem lcm_self{n:Int}(h:0<n):DN n n=n:=by
 have f:=DG h h
 exact Int.dvd_antisymm (Int.le_of_lt f.1) (Int.le_of_lt h) (f.2.2.2.2.1 n (Int.dvd_refl _) (Int.dvd_refl _)) f.2.1
def cpl(z:Str):List Nat:=z.cps.toList
theorem Mf{y z:Str}(h:cpl y=cpl z):y=z:=by
 cases y
 cases z
 simp only[cpl] at h
 exact congrArg Str.mk (Array.toList_inj.mp h)
def Hk(cs:List Nat):List Nat:=if cs.head?=some 45 then cs.drop 1 else cs
structure dM(cs:List Nat):Prop where
 lo:1≤(Hk cs).length
 hi:(Hk cs).length≤60
 dg:∀c∈Hk cs,48≤c∧c≤57
 z0:(Hk cs).head?=some 48→cs=[48]
def Bx(cs:List Nat):Int:=if cs.head?=some 45 then -((PySem.NumText.digitsVal (Hk cs):Nat):Int) else ((PySem.NumText.digitsVal (Hk cs):Nat):Int)
theorem Ex(z:Str):(cpl z).length=z.length:=Array.length_toList
theorem fD{z:Str}(h:dM (cpl z)):PySem.intText? z=some (Bx (cpl z)):=by
 have hl:z.length≤4300:=by
  have:=h.hi
  rw[←Ex]
  unfold Hk at this
  split at this
  ·rw[List.length_drop] at this;omega
  ·omega
 unfold Bx
 by_cases e:(cpl z).head?=some 45
 ·rw[if_pos e]
  have ef:Hk (cpl z)=(cpl z).drop 1:=by unfold Hk;rw[if_pos e]
  have hz:z.cps.toList=45::(cpl z).drop 1:=by
   show cpl z=_
   generalize cpl z=cs at e
   cases cs with
   | nil=>cases e
   | cons a r=>
    injection e with e
    rw[e]
    rfl
  rw[ef]
  refine PySem.intText_neg hz (fun c hc=>h.dg c (by rw[ef];exact hc)) (fun z0=>?_) hl
  have:=h.lo
  rw[ef,z0] at this
  simp at this
 ·rw[if_neg e]
  have ef:Hk (cpl z)=cpl z:=by unfold Hk;rw[if_neg e]
  rw[ef]
  refine PySem.intText_digits (fun c hc=>h.dg c (by rw[ef];exact hc)) (fun z0=>?_) hl
  have:=h.lo
  rw[ef] at this
  have z1:cpl z=[]:=z0
  rw[z1] at this
  simp at this
theorem YJ{z:Str}(h:1≤z.length):cpl (Txt.slice z (some 1) none)=(cpl z).drop 1:=by
 rw[slice_from_eq (b:=(z.length:Int)) (by decide) (by omega) rfl]
 show((List.drop 1 z.cps.toList).take ((z.length:Int)-1).toNat)=_
 rw[List.take_of_length_le]
 ·rfl
 ·rw[List.length_drop]
  have:z.cps.toList.length=z.length:=Ex z
  omega
theorem dX{z:Str}{lo hi:Option Int}{c:Nat}(h:c∈cpl (Txt.slice z lo hi)):c∈cpl z:=by
 unfold Txt.slice at h
 split at h
 ·exact h
 ·simp only[cpl] at h
  obtain⟨i,_,hi⟩:=List.mem_filterMap.mp h
  have hi':z.cps.toList[i]?=some c:=by rw[Array.getElem?_toList];exact hi
  exact List.mem_of_getElem? hi'
theorem HF{z:Str}:asc z=true↔∀c∈cpl z,c<128:=by
 unfold asc cpl
 rw[Array.all_eq_true']
 simp[Array.mem_toList_iff]
theorem Wc{z:Str}(h:1≤z.length∨True):Txt.startswith z "-"=decide ((cpl z).head?=some 45):=by
 have ey:(Str.ofString "-")=⟨#[45]⟩:=by decide +kernel
 rw[ey]
 unfold Txt.startswith Builtin.Str.subAt
 show(decide (0+1≤z.length)&&(z.cps.extract 0 (0+1)== #[45]))=_
 rw[Bool.eq_iff_iff,Bool.and_eq_true,decide_eq_true_eq,decide_eq_true_eq,beq_iff_eq]
 have el:(cpl z).length=z.length:=Ex z
 have ex:(z.cps.extract 0 (0+1)).toList=(cpl z).take 1:=by
  rw[Array.toList_extract]
  simp[cpl,List.extract_eq_drop_take]
 constructor
 ·rintro⟨_,e⟩
  rw[e] at ex
  generalize cpl z=cs at ex
  cases cs with
  | nil=>cases ex
  | cons a r=>
   injection ex with e1 _
   rw[e1]
   rfl
 ·intro e
  cases hc:cpl z with
  | nil=>rw[hc] at e;cases e
  | cons a r=>
   rw[hc] at e ex el
   injection e with e
   rw[List.length_cons] at el
   refine⟨by omega,Array.toList_inj.mp ?_⟩
   rw[ex,e]
   rfl
theorem nq(c:Nat):c∈cpl (Str.ofString "0123456789")↔48≤c∧c≤57:=by
 have e:cpl (Str.ofString "0123456789")=[48,49,50,51,52,53,54,55,56,57]:=by decide +kernel
 rw[e]
 simp only[List.mem_cons,List.not_mem_nil,or_false]
 omega
theorem jj(c:Nat):(!(Builtin.Str.occurrences (Str.ofString "0123456789") ⟨#[c]⟩ 0 (Str.ofString "0123456789").length 1).isEmpty)=decide (48≤c∧c≤57):=by
 rw[StrLaws.found_one,Bool.eq_iff_iff,decide_eq_true_eq,decide_eq_true_eq]
 exact nq c
structure TOk(z:Str):Prop where
 asc:asc z=true
 len:z.length≤1000000
theorem TOk.fit{z:Str}(h:TOk z):z.length≤sizeLine:=Nat.le_trans h.len (by decide)
theorem TOk.slice{z:Str}(h:TOk z)(lo hi:Option Int):TOk (Txt.slice z lo hi):=⟨HF.mpr fun c hc=>HF.mp h.asc c (dX hc),Nat.le_trans (Txt.slice_le z lo hi) h.len⟩
inductive Hnd(H:Hp):V→Prop
 | txt (z:Str):TOk z→Hnd H (.str z)
 | non:Hnd H .non
 | int (i:Int):Hnd H (.int i)
 | tup (a:Addr) (xs:List V):H a=some (.tup xs)→Hnd H (.ref a)
 | lst (a:Addr) (xs:List V):H a=some (.lst xs)→Hnd H (.ref a)
def isT(v:V):Bool:=match v with | .str _=>true | _=>false
theorem rZ(K:PySem.W.Frag):PySem.W.kitOne K (.type "str") (.type "str")=some true:=by unfold PySem.W.kitOne;rw[if_pos (by simp)]
theorem rm(K:PySem.W.Frag):PySem.W.kitOne K (.type "NoneType") (.type "str")=some false:=by first | rfl | decide +kernel | with_unfolding_all rfl
theorem nH(K:PySem.W.Frag):PySem.W.kitOne K (.type "int") (.type "str")=some false:=by first | rfl | decide +kernel | with_unfolding_all rfl
theorem rY(K:PySem.W.Frag):PySem.W.kitOne K (.type "tuple") (.type "str")=some false:=by first | rfl | decide +kernel | with_unfolding_all rfl
theorem rz(K:PySem.W.Frag):PySem.W.kitOne K (.type "list") (.type "str")=some false:=by first | rfl | decide +kernel | with_unfolding_all rfl
theorem qU{K:PySem.W.Frag}{H:Hp}{v:V}{Q:VK}(h:Hnd H v)(q:Q (.bl (isT v)) H):qx K [v,.ty "str"] H Q:=by
 cases h with
 | txt z hz=>exact Ub (.str z) (rZ K) q
 | non=>exact Ub .non (rm K) q
 | int i=>exact Ub (.int i) (nH K) q
 | tup a xs e=>exact Ub (.tup e) (rY K) q
 | lst a xs e=>exact Ub (.lst e) (rz K) q
def Sh:Sp:=fun vs H Q _=>∃z:Str,vs=[.str z]∧TOk z∧∀(v:Bool) (H':Hp),Bo H H'→(v=true↔dM (cpl z))→Q (.bl v) H'
theorem dD(a b:Str):cpl (a++b)=cpl a++cpl b:=by
 show(a.cps++b.cps).toList=_
 rw[Array.toList_append]
 rfl
theorem oG{a b:Str}(h1:asc a=true)(h2:asc b=true):asc (a++b)=true:=HF.mpr fun c hc=>by
 rw[dD] at hc
 rcases List.mem_append.mp hc with h | h
 ·exact HF.mp h1 c h
 ·exact HF.mp h2 c h
theorem len_app(a b:Str):(a++b).length=a.length+b.length:=by
 rw[←Ex,dD,List.length_append,Ex,Ex]
structure TL(k:Nat)(z:Str):Prop where
 asc:asc z=true
 len:z.length≤k
theorem TL.app{k m:Nat}{a b:Str}(h1:TL k a)(h2:TL m b):TL (k+m) (a++b):=⟨oG h1.asc h2.asc,by rw[len_app];have:=h1.len;have:=h2.len;omega⟩
theorem TL.mono{k m:Nat}{a:Str}(h1:TL k a)(h:k≤m):TL m a:=⟨h1.asc,Nat.le_trans h1.len h⟩
theorem TL.ok{k:Nat}{a:Str}(h1:TL k a)(h:k≤1000000):TOk a:=⟨h1.asc,Nat.le_trans h1.len h⟩
theorem Y7(m:Nat):∀c∈(Nat.toDigits 10 m).map Char.toNat,c<128:=fun c hc=>by
 obtain⟨ch,hch,e⟩:=List.mem_map.mp hc
 have r:=digit_range (Nat.isDigit_of_mem_toDigits (by decide) (by decide) hch)
 omega
theorem TL.int{i:Int}(h:i.natAbs.log2<1920):TL 1921 (Ej i):=by
 refine⟨HF.mpr fun c hc=>?_,Yy h⟩
 unfold Ej cpl at hc
 rw[signs_ofString] at hc
 cases i with
 | ofNat m=>
  have e:(toString (Int.ofNat m)).toList=Nat.toDigits 10 m:=by
   show(Nat.repr m).toList=_
   rw[Nat.toList_repr]
  rw[e] at hc
  exact Y7 m c hc
 | negSucc m=>
  have e:(toString (Int.negSucc m)).toList='-'::Nat.toDigits 10 (m+1):=by
   show("-"++Nat.repr (m+1)).toList=_
   rw[String.toList_append,Nat.toList_repr]
   rfl
  rw[e,List.map_cons] at hc
  rcases List.mem_cons.mp hc with h | h
  ·have:('-':Char).toNat=45:=by decide
   omega
  ·exact Y7 (m+1) c h
theorem four{a b c d:V}:([a,b,c,d]:List V).length≤sizeLine:=by show 4≤sizeLine;decide
theorem dT(n:Nat):cpl (Ej (n:Int))=(Nat.toDigits 10 n).map Char.toNat:=by
 unfold Ej cpl
 rw[signs_ofString]
 have e:(toString (Int.ofNat n)).toList=Nat.toDigits 10 n:=by
  show(Nat.repr n).toList=_
  rw[Nat.toList_repr]
 exact congrArg (List.map Char.toNat) e
theorem ofNat_toNat{cs:List Nat}(h:∀c∈cs,48≤c∧c≤57):(cs.map Char.ofNat).map Char.toNat=cs:=by
 rw[List.map_map]
 conv=>rhs;rw[←List.map_id cs]
 refine List.map_congr_left fun c hc=>?_
 have:=h c hc
 rcases(by omega:c=48∨c=49∨c=50∨c=51∨c=52∨c=53∨c=54∨c=55∨c=56∨c=57) with e | e | e | e | e | e | e | e | e | e<;>subst e<;>rfl
theorem canon{cs:List Nat}(h:∀c∈cs,48≤c∧c≤57)(ne:cs≠[])(z:cs.head?=some 48→cs=[48]):cpl (Ej ((PySem.NumText.digitsVal cs:Nat):Int))=cs:=by
 rw[dT]
 obtain⟨c,r,rfl⟩:∃c r,cs=c::r:=by
  cases cs with
  | nil=>exact absurd rfl ne
  | cons c r=>exact⟨c,r,rfl⟩
 have hc:=h c List.mem_cons_self
 rw[PySem.NumText.toDigits_digitsVal r.length (c::r) (by simp) h (by
  by_cases e:c=48
  ·have:=z (by rw[e];rfl)
   injection this with _ e2
   exact .inl (by rw[e2];rfl)
  ·exact .inr ⟨c,r,rfl,by omega⟩)]
 exact ofNat_toNat h
theorem fL{cs:List Nat}(h:∀c∈cs,48≤c∧c≤57)(ne:cs≠[]):cpl (Ej ((PySem.NumText.digitsVal cs:Nat):Int))=cs↔(cs.head?=some 48→cs=[48]):=by
 refine⟨fun e z=>?_,canon h ne⟩
 refine Classical.byContradiction fun hn=>?_
 obtain⟨r,rfl⟩:∃r,cs=48::r:=by
  cases cs with
  | nil=>exact absurd rfl ne
  | cons c r=>
   injection z with z
   exact⟨r,by rw[z]⟩
 have rn:r≠[]:=fun y=>hn (by rw[y])
 have dr:∀c∈r,48≤c∧c≤57:=fun c hc=>h c (List.mem_cons_of_mem _ hc)
 have ev:PySem.NumText.digitsVal (48::r)=PySem.NumText.digitsVal r:=rfl
 rw[dT,ev,PySem.NumText.toDigits_all r dr] at e
 have l:r.length+1=(match r.dropWhile (· ==48) with | []=>['0'] | c::r=>(c::r).map Char.ofNat).length:=by
  have:=congrArg List.length e
  rw[List.length_map,List.length_cons] at this
  exact this.symm
 have d:(r.dropWhile (· ==48)).length≤r.length:=(List.dropWhile_sublist _).length_le
 have r1:1≤r.length:=by
  cases r with
  | nil=>exact absurd rfl rn
  | cons _ _=>simp
 cases hd:r.dropWhile (· ==48) with
 | nil=>
  rw[hd] at l
  have l':r.length+1=1:=l
  omega
 | cons a b=>
  rw[hd] at l d
  have l':r.length+1=((a::b).map Char.ofNat).length:=l
  rw[List.length_map] at l'
  omega
theorem aX(n:Nat):(∀c∈cpl (Ej (n:Int)),48≤c∧c≤57)∧cpl (Ej (n:Int))≠[]∧PySem.NumText.digitsVal (cpl (Ej (n:Int)))=n:=by
 rw[dT]
 refine⟨fun c hc=>?_,fun e=>?_,PySem.W.KIN.val_back n⟩
 ·obtain⟨ch,hch,e⟩:=List.mem_map.mp hc
  have r:=digit_range (Nat.isDigit_of_mem_toDigits (by decide) (by decide) hch)
  omega
 ·have:=congrArg List.length e
  rw[List.length_map] at this
  have p:=Nat.length_toDigits_pos (b:=10) (n:=n)
  rw[List.length_nil] at this
  omega
structure RC(K:PySem.W.Frag)(CR C:Addr):Prop where
 cl:Cls K C
 k:Dq K C "kept"
 m:Dq K C "made_of"
 w:Dq K C "words"
 ca:PySem.W.findIn K (.ref C) "__class__"=some (some (.builtin "object.__class__"))
 ob:PySem.W.mroIn K C (.type "object")=some true
 isr:PySem.W.kitOne K (.ref C) (.ref CR)=some true
def rF(p pm pw:Addr):List (Str×V):=[("kept",.ref p),("made_of",.ref pm),("words",.ref pw)]
structure FN(K:PySem.W.Frag)(CR:Addr)(CL:List Addr)(H:Hp)(x:Addr)(n:Int)(b:Nat):Prop where
 ex:∃C dx p pm pw,C∈CL∧RC K CR C∧H x=some (.ins C dx (rF p pm pw))∧H p=some (.tup [.int n,.int (b:Int)])
 n0:0<n
 n1:n≤150000
 lt:b<2^n.toNat
theorem FN.same{K:PySem.W.Frag}{CR:Addr}{CL:List Addr}{H H':Hp}{x:Addr}{n:Int}{b:Nat}(R:FN K CR CL H x n b)(s:Bo H H'):FN K CR CL H' x n b:=by
 obtain⟨C,dx,p,pm,pw,h1,h2,h3,h4⟩:=R.ex
 exact⟨⟨C,dx,p,pm,pw,h1,h2,s _ _ h3,s _ _ h4⟩,R.n0,R.n1,R.lt⟩
def KB(x:Addr)(H H':Hp):Prop:=∀y o,y≠x→H y=some o→H' y=some o
theorem KB.pre{x:Addr}{H H1 H':Hp}(s:Bo H H1)(k:KB x H1 H'):KB x H H':=fun y o h e=>k y o h (s _ _ e)
theorem Jk{H1 H':Hp}{x dx:Addr}{o o':HO}(hx:H1 x=none)(hd:H1 dx=none)(ne:dx≠x)(k:KB x (upd (upd H1 dx o) x o') H'):Bo H1 H':=fun y u e=>by
 have y1:y≠x:=By e hx
 have y2:y≠dx:=By e hd
 exact k y u y1 (by rw[Bw y1,Bw y2];exact e)
def Gf(K:PySem.W.Frag)(CR:Addr):Sp:=fun vs H Q _=>∃(x p pm pw C dx:Addr),vs=[.ref x,.ref p,.ref pm,.ref pw]∧H x=some (.ins C dx [])∧RC K CR C∧
 ∀H',KB x H H'→H' x=some (.ins C dx (rF p pm pw))→Q .non H'
def Ge(K:PySem.W.Frag)(CR:Addr)(CL:List Addr):Sp:=fun vs H Q _=>∃(x:Addr) (n:Int) (b:Nat),vs=[.ref x]∧FN K CR CL H x n b∧∀p,H p=some (.tup [.int n,.int (b:Int)])→Q (.ref p) H
def O6(K:PySem.W.Frag)(CR:Addr)(CL:List Addr):Sp:=fun vs H Q _=>∃(x:Addr) (n:Int) (b:Nat),vs=[.ref x]∧FN K CR CL H x n b∧Q (.int n) H
theorem Fy{K:PySem.W.Frag}{CR:Addr}{CL:List Addr}{C x dx p pm pw:Addr}{H2 H':Hp}{n:Int}{b:Nat}(hC:C∈CL)(R:RC K CR C)(hx:H2 x=some (.ins C dx []))(hp:H2 p=some (.tup [.int n,.int (b:Int)]))(k:KB x H2 H')(e:H' x=some (.ins C dx (rF p pm pw)))(n0:0<n)(n1:n≤150000)(lt:b<2^n.toNat):FN K CR CL H' x n b:=
 ⟨⟨C,dx,p,pm,pw,hC,R,e,k _ _ (Jj hp hx (fun z=>nomatch z)) hp⟩,n0,n1,lt⟩
theorem Ke{k:Nat}{x:Int}(h:Bt k x)(hk:k≤1920)(h0:0<k):x.natAbs.log2<1920:=by
 unfold Bt at h
 by_cases z:x.natAbs=0
 ·rw[z];decide
 ·exact Nat.lt_of_lt_of_le ((Nat.log2_lt z).mpr h) hk
theorem m9{H1:Hp}{x dx:Addr}{o o':HO}(hx:H1 x=none)(hd:H1 dx=none):Bo H1 (upd (upd H1 dx o) x o'):=fun y u e=>by
 rw[Bw (By e hx),Bw (By e hd)];exact e
theorem qb{D:Ends}{σ:L2.St}{H:Hp}(h:D.bk σ H):gR D σ H:=h
def Gx:Sp:=fun _ _ _ _=>False
def Tc(K:PySem.W.Frag):Sp:=fun vs H Q _=>∃(p:Addr) (k:Int),vs=[.ref p,.int k]∧SqT K H p []∧∀H',Bo H H'→Q (.int 0) H'
def O7(K:PySem.W.Frag):Sp:=fun vs H Q _=>∃(p:Addr) (b:Int),vs=[.int b,.ref p]∧SqT K H p []∧∀H',Bo H H'→Q (.int b) H'
def Wj(K:PySem.W.Frag):Sp:=fun vs H Q _=>∃(p:Addr) (b:Int),vs=[.int b,.ref p]∧SqT K H p []∧0≤b∧b≤20000∧∀H',Bo H H'→Q .non H'
def Zi(K:PySem.W.Frag):Sp:=fun vs H Q _=>∃(p:Addr),vs=[.ref p]∧SqT K H p []∧∀H',Bo H H'→Q (.int 1) H'
def Mh(CM:Addr):Sp:=fun vs H Q _=>∃(x dx p:Addr) (k b:Int) (fs:List (Str×V)),vs=[.ref x,.int k]∧H x=some (.ins CM dx fs)∧fs.lookup (Str.ofString "base")=some (.int b)∧fs.lookup (Str.ofString "terms")=some (.ref p)∧H p=some (.tup [])∧0≤b∧b≤1000∧ -1000≤k∧k≤1000∧∀H',Bo H H'→Q (.int (b*k)) H'
def mF7(b:Int)(p:Addr):List (Str×V):=[("base",.int b),("terms",.ref p),("full_count",.int 1),("full_sum",.int b)]
def Me7(CM:Addr)(H:Hp)(y:Addr)(b:Int):Prop:=∃dx p,H y=some (.ins CM dx (mF7 b p))∧H p=some (.tup [])
theorem Me7.same{CM:Addr}{H H':Hp}{y:Addr}{b:Int}(M:Me7 CM H y b)(s:Bo H H'):Me7 CM H' y b:=by
 obtain⟨dx,p,h1,h2⟩:=M
 exact⟨dx,p,s _ _ h1,s _ _ h2⟩
theorem Me7.kb{CM x C d:Addr}{H H':Hp}{y:Addr}{b:Int}{fs:List (Str×V)}(M:Me7 CM H y b)(hx:H x=some (.ins C d fs))(ne:y≠x)(k:KB x H H'):Me7 CM H' y b:=by
 obtain⟨dx,p,h1,h2⟩:=M
 exact⟨dx,p,k _ _ ne h1,k _ _ (Jj h2 hx (fun z=>nomatch z)) h2⟩
def Tj(CM:Addr):Sp:=fun vs H Q _=>∃(x dx:Addr) (b:Int),vs=[.ref x,.int b,.non]∧H x=some (.ins CM dx [])∧1≤b∧b≤1000∧∀H',KB x H H'→Me7 CM H' x b→Q .non H'
def gr(CM:Addr):Sp:=fun vs H Q _=>∃(x:Addr) (k b:Int),vs=[.ref x,.int k]∧Me7 CM H x b∧∀H',Bo H H'→Q (.int b) H'
def Qi(CM:Addr):Sp:=fun vs H Q _=>∃(x:Addr) (b:Int),vs=[.ref x]∧Me7 CM H x b∧Q (.int 1) H
def Te(K:PySem.W.Frag):Sp:=fun vs H Q _=>∃(l:Addr) (k:Int),vs=[.ref l,.int 1]∧SqL K H l ([k].map V.int)∧1≤k∧k≤1000∧Q .non H
def sF7(s:Int)(p y:Addr):List (Str×V):=[("start",.int s),("months",.ref p),("leap",.int 1),("years",.ref y)]
def Kg(CS CM:Addr)(H:Hp)(x:Addr)(s k:Int):Prop:=∃dx p y,H x=some (.ins CS dx (sF7 s p y))∧H p=some (.tup [.int k])∧Me7 CM H y k
theorem Kg.same{CS CM:Addr}{H H':Hp}{x:Addr}{s k:Int}(S:Kg CS CM H x s k)(e:Bo H H'):Kg CS CM H' x s k:=by
 obtain⟨dx,p,y,h1,h2,h3⟩:=S
 exact⟨dx,p,y,e _ _ h1,e _ _ h2,h3.same e⟩
theorem Kg.but{CS CM:Addr}{H:Hp}{x l:Addr}{s k:Int}{xs ys:List V}(S:Kg CS CM H x s k)(hl:H l=some (.lst xs)):Kg CS CM (upd H l (.lst ys)) x s k:=by
 obtain⟨dx,p,y,h1,h2,dm,q,h3,h4⟩:=S
 have f:∀{a:Addr} {o:HO},(∀zs,o≠.lst zs)→H a=some o→upd H l (.lst ys) a=some o:=fun{a o} ho h=>by
  rw[Bw (fun e=>by rw[e,hl] at h;exact ho xs (Option.some.inj h).symm)]
  exact h
 exact⟨dx,p,y,f (fun _ z=>nomatch z) h1,f (fun _ z=>nomatch z) h2,dm,q,f (fun _ z=>nomatch z) h3,f (fun _ z=>nomatch z) h4⟩
def O8(CS CM:Addr):Sp:=fun vs H Q _=>∃(x dx ll:Addr) (s k:Int),vs=[.ref x,.int s,.ref ll,.int 1,.non]∧H x=some (.ins CS dx [])∧H ll=some (.lst [.int k])∧1≤k∧k≤1000∧∀H',KB x H H'→Kg CS CM H' x s k→Q .non H'
def bL(CS CM:Addr):Sp:=fun vs H Q _=>∃(x:Addr) (n s k:Int),vs=[.ref x,.int n]∧Kg CS CM H x s k∧1≤k∧k≤1000∧ -1000≤n∧n≤1000∧∀H',Bo H H'→Q (.int (s+k*n)) H'
def Sg(CS CM:Addr):Sp:=fun vs H Q _=>∃(x:Addr) (n s k:Int),vs=[.ref x,.int n]∧Kg CS CM H x s k∧∀(p:Addr) H',H p=none→Bo H H'→H' p=some (.lst [.int k])→Q (.ref p) H'
def Zt(CS CM:Addr):Sp:=fun vs H Q _=>∃(x:Addr) (s k:Int),vs=[.ref x]∧Kg CS CM H x s k∧1≤k∧k≤1000∧∀(p:Addr) H',Bo H H'→H' p=some (.tup [.int 1,.int k])→Q (.ref p) H'
def oI(o:Option Int):V:=match o with | none=>.non | some i=>.int i
theorem Uc{H:Hp}{x:Addr}{o:HO}{m:Hp→Prop}(h:∀H',KB x H H'→H' x=some o→m H'):m (upd H x o):=h _ (fun y _ ne e=>by rw[Bw ne];exact e) BR
def spR(sp:Sp)(d:Nat):Sp:=fun vs H Q E=>0<d∧sp vs H Q E
theorem YG{sp:Sp}{vs:List V}{H:Hp}{Q:VK}{E:XK}(h:spR sp 0 vs H Q E):False:=absurd h.1 (by decide)
theorem FN.mt{K:PySem.W.Frag}{CR:Addr}{CL:List Addr}{H:Hp}{x:Addr}{n:Int}{b:Nat}(R:FN K CR CL H x n b):∃C dx fs,(∀sp:Sp,(C,sp)∈CL.map fun c=>(c,sp))∧H x=some (.ins C dx fs)∧fs.lookup (Str.ofString "turn")=none∧fs.lookup (Str.ofString "size")=none∧fs.lookup (Str.ofString "on")=none:=by
 obtain⟨C,dx,p,pm,pw,h1,h2,h3,h4⟩:=R.ex
 exact⟨C,dx,_,fun sp=>List.mem_map.mpr ⟨C,h1,rfl⟩,h3,rfl,rfl,rfl⟩
structure tY(cs:List Nat):Prop where
 lo:1≤cs.length
 hi:cs.length≤8
 ch:∀c∈cs,97≤c∧c≤122
theorem nF(c:Nat):c∈cpl (Str.ofString "abcdefghijklmnopqrstuvwxyz")↔97≤c∧c≤122:=by
 have e:cpl (Str.ofString "abcdefghijklmnopqrstuvwxyz")=(List.range 26).map (97+ ·):=by decide +kernel
 rw[e,List.mem_map]
 constructor
 ·rintro⟨k,hk,rfl⟩
  have:=List.mem_range.mp hk
  omega
 ·intro h
  exact⟨c-97,List.mem_range.mpr (by omega),by omega⟩
theorem sS(c:Nat):(!(Builtin.Str.occurrences (Str.ofString "abcdefghijklmnopqrstuvwxyz") ⟨#[c]⟩ 0 (Str.ofString "abcdefghijklmnopqrstuvwxyz").length 1).isEmpty)=decide (97≤c∧c≤122):=by
 rw[StrLaws.found_one,Bool.eq_iff_iff,decide_eq_true_eq,decide_eq_true_eq]
 exact nF c
def Zo:Sp:=fun vs H Q _=>∃z:Str,vs=[.str z]∧TOk z∧∀(v:Bool) (H':Hp),Bo H H'→(v=true↔tY (cpl z))→Q (.bl v) H'
theorem jZ(w:Wd):tY w↔nameB w=true:=by
 unfold nameB
 simp only[Bool.and_eq_true,decide_eq_true_eq,List.all_eq_true]
 exact⟨fun h=>⟨⟨h.lo,h.hi⟩,h.ch⟩,fun h=>⟨h.1.1,h.1.2,h.2⟩⟩
theorem Xm(w:Wd):dM w↔G7 w=true:=by
 unfold G7
 simp only[Bool.and_eq_true,Bool.or_eq_true,decide_eq_true_eq,List.all_eq_true]
 constructor
 ·intro h
  refine⟨⟨⟨h.lo,h.hi⟩,h.dg⟩,?_⟩
  by_cases e:(Hk w).head?=some 48
  ·exact .inr (h.z0 e)
  ·exact .inl e
 ·rintro⟨⟨⟨h1,h2⟩,h3⟩,h4⟩
  exact⟨h1,h2,h3,fun e=>h4.elim (fun z=>absurd e z) id⟩
def Js:Sp:=fun vs H Q _=>∃v:V,vs=[v]∧Hnd H v∧(∀z,v=.str z→∀b:Bool,(b=true↔(cpl z).length≤4000)→Q (.bl b) H)∧(isT v=false→Q (.bl false) H)
def sW(w:Wd):Str:=⟨w.toArray⟩
theorem Dk(w:Wd):cpl (sW w)=w:=by unfold cpl sW;simp
theorem qJ(z:Str):sW (cpl z)=z:=Mf (Dk _)
theorem Es(w:Wd):(sW w).length=w.length:=by rw[←Ex,Dk]
def rdF(p:Addr)(k:Nat):List (Str×V):=[("words",.ref p),("place",.int (k:Int))]
structure Rdr(CD:Addr)(H:Hp)(x p:Addr)(ws:List Wd)(k:Nat):Prop where
 ex:∃dx,H x=some (.ins CD dx (rdF p k))
 tp:H p=some (.tup (ws.map fun w=>.str (sW w)))
 ln:ws.length≤100000
 ok:∀w∈ws,TOk (sW w)
 ne:∀w∈ws,w≠[]
def nxt(ws:List Wd)(k:Nat):Wd:=(ws[k]?).getD []
theorem aM{ws:List Wd}(h:∀w∈ws,TOk (sW w))(k:Nat):TOk (sW (nxt ws k)):=by
 unfold nxt
 cases e:ws[k]? with
 | none=>exact⟨by decide +kernel,by decide +kernel⟩
 | some w=>exact h w (List.mem_of_getElem? e)
theorem Ij(ws:List Wd)(k:Nat):(k<ws.length∧ws.drop k=nxt ws k::ws.drop (k+1))∨(ws.length≤k∧ws.drop k=[]∧nxt ws k=[]):=by
 rcases Nat.lt_or_ge k ws.length with h | h
 ·refine .inl ⟨h,?_⟩
  unfold nxt
  rw[List.getElem?_eq_getElem h]
  exact List.drop_eq_getElem_cons h
 ·refine .inr ⟨h,List.drop_of_length_le h,?_⟩
  unfold nxt
  rw[List.getElem?_eq_none h]
  rfl
theorem GD{ws:List Wd}{k:Nat}{w:Wd}(h:nxt ws k=w)(hw:w≠[]):ws.drop k=w::ws.drop (k+1):=by
 rcases Ij ws k with ⟨_,e⟩ | ⟨_,_,e⟩
 ·rw[e,h]
 ·exact absurd (h.symm.trans e) hw
theorem lH:Str.ofString "*"=sW Gr:=by decide +kernel
theorem Hf:Str.ofString "each"=sW Cr:=by decide +kernel
theorem Ww:Str.ofString "from"=sW Cd:=by decide +kernel
theorem FT{a b:Wd}:V.str (sW a)=V.str (sW b)↔a=b:=⟨fun e=>by injection e with e;rw[←Dk a,e,Dk],fun e=>by rw[e]⟩
theorem KB.tr{x:Addr}{H H1 H2:Hp}(a:KB x H H1)(b:KB x H1 H2):KB x H H2:=fun y o h e=>b y o h (a y o h e)
theorem KB.sm{x:Addr}{H H1:Hp}(s:Bo H H1):KB x H H1:=fun y o _ e=>s y o e
theorem Rdr.same{CD:Addr}{H H':Hp}{x p:Addr}{ws:List Wd}{k:Nat}(R:Rdr CD H x p ws k)(s:Bo H H'):Rdr CD H' x p ws k:=by
 obtain⟨dx,hx⟩:=R.ex
 exact⟨⟨dx,s _ _ hx⟩,s _ _ R.tp,R.ln,R.ok,R.ne⟩
def Ni(CD:Addr):Sp:=fun vs H Q _=>∃(x p:Addr) (ws:List Wd) (k:Nat),vs=[.ref x]∧Rdr CD H x p ws k∧Q (.str (sW (nxt ws k))) H
def JD(CD:Addr):Sp:=fun vs H Q _=>∃(x p:Addr) (ws:List Wd) (k:Nat),vs=[.ref x]∧Rdr CD H x p ws k∧∀H',KB x H H'→Rdr CD H' x p ws (k+1)→Q (.str (sW (nxt ws k))) H'
def Wo(CD:Addr):Sp:=fun vs H Q _=>∃(x dx l:Addr) (ws:List Wd),vs=[.ref x,.ref l]∧H x=some (.ins CD dx [])∧H l=some (.lst (ws.map fun w=>.str (sW w)))∧ws.length≤100000∧(∀w∈ws,TOk (sW w))∧(∀w∈ws,w≠[])∧∀p H',KB x H H'→Rdr CD H' x p ws 0→Q .non H'
def Out{α:Type}(CD cR:Addr)(H:Hp)(x p:Addr)(ws:List Wd)(o:Option (α×List Wd))(val:α→V→Hp→Prop)(Q:VK)(E:XK):Prop:=
 (∀a r v k H',o=some (a,r)→KB x H H'→Rdr CD H' x p ws k→ws.drop k=r→val a v H'→Q v H')∧(o=none→∀H',KB x H H'→E (.ref cR) none H')
theorem Out.later{α:Type}{CD cR:Addr}{H H1:Hp}{x p:Addr}{ws:List Wd}{o:Option (α×List Wd)}{val:α→V→Hp→Prop}{Q:VK}{E:XK}(h:Out CD cR H x p ws o val Q E)(s:KB x H H1):Out CD cR H1 x p ws o val Q E:=⟨fun a r v k H' e g=>h.1 a r v k H' e (s.tr g),fun e H' g=>h.2 e H' (s.tr g)⟩
def isInt(n:Int)(v:V)(_:Hp):Prop:=v=.int n
def isOpt(n:Option Int)(v:V)(_:Hp):Prop:=v=oI n
def is2(y:Int×Int)(v:V)(H:Hp):Prop:=∃q,v=.ref q∧H q=some (.tup [.int y.1,.int y.2])
def vq(_:Unit)(v:V)(_:Hp):Prop:=v=.non
def tkU(x:Wd)(ts:List Wd):Option (Unit×List Wd):=(tkW x ts).map fun r=>((),r)
def PlH(H:Hp):Pl→V→Prop
 | .lf w,v=>∃q,v=.ref q∧H q=some (.tup [.str (sW w)])
 | .each n r,v=>∃q,v=.ref q∧H q=some (.tup [.str (sW Cr),.int n,.int r])
 | .not p,v=>∃q u,v=.ref q∧H q=some (.tup [.str (sW M9),u])∧PlH H p u
 | .pair w p r,v=>∃q u y,v=.ref q∧H q=some (.tup [.str (sW w),u,y])∧PlH H p u∧PlH H r y
 | .date nm m d s r,v=>∃q,v=.ref q∧H q=some (.tup [.str (sW Cz),.str (sW nm),oI m,oI d,.int s,.int r])
 | .later n p,v=>∃q u,v=.ref q∧H q=some (.tup [.str (sW Fo),.int n,u])∧PlH H p u
 | .nth n p r,v=>∃q u y,v=.ref q∧H q=some (.tup [.str (sW kOf),.int n,u,y])∧PlH H p u∧PlH H r y
 | .every n p r,v=>∃q u,v=.ref q∧H q=some (.tup [.str (sW GQ),.int n,u,.int r])∧PlH H p u
theorem PlH.kp{H H':Hp}(s:∀y xs,H y=some (.tup xs)→H' y=some (.tup xs)):∀{p:Pl} {v:V},PlH H p v→PlH H' p v
 | .lf w,v,⟨q,e,h⟩=>⟨q,e,s _ _ h⟩
 | .each n r,v,⟨q,e,h⟩=>⟨q,e,s _ _ h⟩
 | .not p,v,⟨q,u,e,h,g⟩=>⟨q,u,e,s _ _ h,PlH.kp s g⟩
 | .pair w p r,v,⟨q,u,y,e,h,g,g'⟩=>⟨q,u,y,e,s _ _ h,PlH.kp s g,PlH.kp s g'⟩
 | .date nm m d t r,v,⟨q,e,h⟩=>⟨q,e,s _ _ h⟩
 | .later n p,v,⟨q,u,e,h,g⟩=>⟨q,u,e,s _ _ h,PlH.kp s g⟩
 | .nth n p r,v,⟨q,u,y,e,h,g,g'⟩=>⟨q,u,y,e,s _ _ h,PlH.kp s g,PlH.kp s g'⟩
 | .every n p r,v,⟨q,u,e,h,g⟩=>⟨q,u,e,s _ _ h,PlH.kp s g⟩
def aV(p:Pl)(v:V)(H:Hp):Prop:=PlH H p v
section
variable(CD cR:Addr)
def Qg:Sp:=fun vs H Q E=>∃(x p:Addr) (ws:List Wd) (k:Nat) (w:Wd),vs=[.ref x,.str (sW w)]∧w.length≤100∧w≠[]∧Rdr CD H x p ws k∧Out CD cR H x p ws (tkU w (ws.drop k)) vq Q E
def Qj:Sp:=fun vs H Q E=>∃(x p:Addr) (ws:List Wd) (k:Nat),vs=[.ref x]∧Rdr CD H x p ws k∧Out CD cR H x p ws (HJ Bx (ws.drop k)) isInt Q E
def Wg:Sp:=fun vs H Q E=>∃(x p:Addr) (ws:List Wd) (k:Nat),vs=[.ref x]∧Rdr CD H x p ws k∧Out CD cR H x p ws (Hq Bx (ws.drop k)) isOpt Q E
def Su:Sp:=fun vs H Q E=>∃(x p:Addr) (ws:List Wd) (k:Nat),vs=[.ref x]∧Rdr CD H x p ws k∧Out CD cR H x p ws (Gd Bx (ws.drop k)) is2 Q E
def Ws:Sp:=fun vs H Q E=>∃(x p:Addr) (ws:List Wd) (k:Nat),vs=[.ref x]∧Rdr CD H x p ws k∧Out CD cR H x p ws (JC Bx (ws.drop k)) aV Q E
end
theorem lC(p:Nat→Bool)(l:List Nat):l.drop (l.takeWhile p).length=l.dropWhile p:=by
 conv=>lhs;rw[←List.takeWhile_append_dropWhile (p:=p) (l:=l)]
 rw[List.takeWhile_append_dropWhile]
 conv=>lhs;rw[←List.takeWhile_append_dropWhile (p:=p) (l:=l)]
 exact List.drop_left' (by rw[List.takeWhile_append_dropWhile])
theorem g40:(fun c=>(Str.ofString "(").cps.contains c)=(· ==40):=by
 funext c
 rw[show (Str.ofString "(").cps= #[40] by decide +kernel]
 by_cases h:c=40
 ·subst h
  simp
 ·rw[show (#[40]:Array Nat).contains c=false by simpa using h]
  exact(beq_false_of_ne h).symm
theorem g41:(fun c=>(Str.ofString ")").cps.contains c)=(· ==41):=by
 funext c
 rw[show (Str.ofString ")").cps= #[41] by decide +kernel]
 by_cases h:c=41
 ·subst h
  simp
 ·rw[show (#[41]:Array Nat).contains c=false by simpa using h]
  exact(beq_false_of_ne h).symm
def lsT(z:Str):Str:=if stripSame (Str.ofString "(").cps.contains true false z then z else stripped (Str.ofString "(").cps.contains true false z
def rsT(z:Str):Str:=if stripSame (Str.ofString ")").cps.contains false true z then z else stripped (Str.ofString ")").cps.contains false true z
theorem nA(z:Str):cpl (lsT z)=opd (cpl z):=by
 have lo:stripLo (Str.ofString "(").cps.contains true z=((cpl z).takeWhile (· ==40)).length:=by
  unfold stripLo
  rw[if_pos rfl]
  show((cpl z).takeWhile (fun c=>(Str.ofString "(").cps.contains c)).length=_
  rw[g40]
 unfold lsT opd
 rw[←lC]
 split
 ·rename_i h
  unfold stripSame at h
  simp only[Bool.and_eq_true,beq_iff_eq] at h
  rw[lo] at h
  rw[h.1]
  rfl
 ·unfold stripped
  show(Builtin.Str.strSub z _ _).cps.toList=_
  rw[StrLaws.strSub_toList,lo]
  have:stripHi (Str.ofString "(").cps.contains false z ((cpl z).takeWhile (· ==40)).length=z.length:=rfl
  rw[this]
  exact List.take_of_length_le (by rw[List.length_drop];have:=Ex z;unfold cpl at this;omega)
theorem lM(z:Str):cpl (rsT z)=((cpl z).reverse.dropWhile (· ==41)).reverse:=by
 have hi:stripHi (Str.ofString ")").cps.contains true z 0=z.length-((cpl z).reverse.takeWhile (· ==41)).length:=by
  unfold stripHi
  rw[if_pos rfl]
  show z.length-((cpl z).reverse.takeWhile (fun c=>(Str.ofString ")").cps.contains c)).length=_
  rw[g41]
 have key:(cpl z).take ((cpl z).length-((cpl z).reverse.takeWhile (· ==41)).length)=((cpl z).reverse.dropWhile (· ==41)).reverse:=by
  have e:=List.takeWhile_append_dropWhile (p:=(· ==41)) (l:=(cpl z).reverse)
  have e2:=congrArg List.reverse e
  rw[List.reverse_append,List.reverse_reverse] at e2
  have l2:=congrArg List.length e
  rw[List.length_append,List.length_reverse] at l2
  conv=>lhs;rw[←e2]
  rw[List.take_left']
  rw[List.length_reverse,e2]
  omega
 unfold rsT
 split
 ·rename_i h
  unfold stripSame at h
  simp only[Bool.and_eq_true,beq_iff_eq] at h
  have h2:stripHi (Str.ofString ")").cps.contains true z 0=z.length:=h.2
  rw[hi] at h2
  rw[←key,Ex,h2,←Ex,List.take_length]
 ·unfold stripped
  show(Builtin.Str.strSub z 0 (stripHi (Str.ofString ")").cps.contains true z 0)).cps.toList=_
  rw[StrLaws.strSub_toList,hi,←key,Ex]
  rfl
theorem uv(w:Wd):lsT (sW w)=sW (opd w):=Mf (by rw[nA,Dk,Dk])
theorem uU(w:Wd):rsT (sW (opd w))=sW (core w):=Mf (by rw[lM,Dk,Dk];rfl)
theorem qD(z:Str):Qf 32 z=(spl 32 (cpl z)).map sW:=rfl
def Wf(cR:Addr):Sp:=fun vs H Q E=>∃z:Str,vs=[.str z]∧TOk z∧(cpl z).length≤4000∧(∀ts l H',wordsOf 0 (spl 32 (cpl z))=some ts→Bo H H'→H' l=some (.lst (ts.map fun w=>.str (sW w)))→Q (.ref l) H')∧(wordsOf 0 (spl 32 (cpl z))=none→∀H',Bo H H'→E (.ref cR) none H')
theorem KB.rf{x:Addr}{H:Hp}:KB x H H:=fun _ _ _ e=>e
theorem g8:Str.ofString ""=sW []:=by decide +kernel
theorem uQ:Str.ofString "("=sW kL:=by decide +kernel
theorem uP:Str.ofString ")"=sW kR:=by decide +kernel
theorem Zg(c:Nat):∀l:List Nat,((spl c l).map fun w=>w.length+1).sum=l.length+1
 | []=>rfl
 | a::l=>by
  have ih:=Zg c l
  by_cases e:a=c
  ·subst e
   rw[We,List.map_cons,List.sum_cons,ih,List.length_cons]
   show 0+1+_=_
   omega
  ·rw[O5 l e,List.map_cons,List.sum_cons,List.length_cons,List.length_cons]
   rw[Jr c l,List.map_cons,List.sum_cons] at ih
   omega
theorem Xo{a:Nat}:∀{l:List Nat},a∈l→a≤l.sum
 | b::l,h=>by
  rw[List.sum_cons]
  rcases List.mem_cons.mp h with z | z
  ·omega
  ·have:=Xo z
   omega
theorem YW(p:Wd):(Ez p).length≤p.length+1:=by
 have a:=RD p
 have b:=Mt p
 unfold Ez
 simp only[List.length_append,List.length_replicate,List.length_cons,List.length_nil]
 omega
theorem U6:∀ps:List Wd,(ps.flatMap Ez).length≤(ps.map fun w=>w.length+1).sum
 | []=>Nat.le_refl _
 | p::ps=>by
  rw[List.flatMap_cons,List.length_append,List.map_cons,List.sum_cons]
  have:=U6 ps
  have:=YW p
  omega
theorem lD{ps:List Wd}(i:Nat):((ps.take i).flatMap Ez).length≤(ps.flatMap Ez).length:=by
 conv=>rhs;rw[←List.take_append_drop i ps,List.flatMap_append,List.length_append]
 omega
theorem UT{α:Type}(v:α):∀k:Nat,(List.replicate k [v]).flatten=List.replicate k v
 | 0=>rfl
 | k+1=>by rw[List.replicate_succ,List.flatten_cons,UT v k];rfl
theorem qy(p:Wd):(Ez p).map (fun w=>V.str (sW w))=List.replicate (p.length-(opd p).length) (V.str (sW kL))++[V.str (sW (core p))]++List.replicate ((opd p).length-(core p).length) (V.str (sW kR)):=by
 unfold Ez
 simp
theorem lG{z:Str}(h:TOk z):∀p∈spl 32 (cpl z),∀c∈p,c<128:=fun p hp c hc=>by
 have:∀(l p:List Nat),p∈spl 32 l→∀a∈p,a∈l:=by
  intro l
  induction l with
  | nil=>intro p hp a ha;rw[List.mem_singleton.mp hp] at ha;cases ha
  | cons b l ih=>
   intro p hp a ha
   by_cases e:b=32
   ·subst e
    rw[We] at hp
    rcases List.mem_cons.mp hp with z | z
    ·rw[z] at ha;cases ha
    ·exact List.mem_cons_of_mem _ (ih p z a ha)
   ·rw[O5 l e] at hp
    rcases List.mem_cons.mp hp with z | z
    ·rw[z] at ha
     rcases List.mem_cons.mp ha with y | y
     ·rw[y];exact List.mem_cons_self
     ·exact List.mem_cons_of_mem _ (ih _ (by rw[Jr 32 l];exact List.mem_cons_self) a y)
    ·exact List.mem_cons_of_mem _ (ih p (by rw[Jr 32 l];exact List.mem_cons_of_mem _ z) a ha)
 exact HF.mp h.asc c (this _ p hp c hc)
def DD(d:Nat)(ts:List Wd):Prop:=∀l m,ts=l++m→ht l<(d:Int)
theorem DD.tk{d:Nat}{ts r:List Wd}(h:DD d ts)(t:Tk ts r 0):DD d r:=fun l m e=>by
 obtain⟨c,rfl,_,hc⟩:=t
 have:=h (c++l) m (by rw[e,List.append_assoc])
 rw[Oj] at this
 omega
theorem DD.open{d:Nat}{r:List Wd}(h:DD (d+1) (kL::r)):DD d r:=fun l m e=>by
 have:=h (kL::l) m (by rw[e];rfl)
 rw[show kL::l=[kL]++l from rfl,Oj] at this
 have e1:ht [kL]=1:=by decide
 omega
theorem DD.word{d:Nat}{w:Wd}{r:List Wd}(h:DD d (w::r))(hw:ht [w]=0):DD d r:=fun l m e=>by
 have:=h (w::l) m (by rw[e];rfl)
 rw[show w::l=[w]++l from rfl,Oj,hw] at this
 omega
theorem PlH.kb{CD:Addr}{H H':Hp}{x p:Addr}{ws:List Wd}{k:Nat}(R:Rdr CD H x p ws k)(kb:KB x H H'){q:Pl}{v:V}(h:PlH H q v):PlH H' q v:=PlH.kp (fun y xs e=>by
 obtain⟨dx,hx⟩:=R.ex
 exact kb y _ (Jj e hx (fun z=>nomatch z)) e) h
section
variable(CD cR:Addr)(d:Nat)
def Jt:Sp:=fun vs H Q E=>∃(x p:Addr) (ws:List Wd) (k:Nat),vs=[.ref x]∧Rdr CD H x p ws k∧DD d (ws.drop k)∧Out CD cR H x p ws (prs Bx d (ws.drop k)) aV Q E
def Wm:Sp:=fun vs H Q E=>∃(x p:Addr) (ws:List Wd) (k:Nat),vs=[.ref x]∧Rdr CD H x p ws k∧DD d (ws.drop k)∧Out CD cR H x p ws (Er Bx (prs Bx d) (ws.drop k)) aV Q E
def Tp:Sp:=fun vs H Q E=>∃(x p:Addr) (ws:List Wd) (k:Nat),vs=[.ref x]∧Rdr CD H x p ws k∧DD d (ws.drop k)∧Out CD cR H x p ws (HB Bx (prs Bx d) (ws.drop k)) aV Q E
def Wl:Sp:=fun vs H Q E=>∃(x p:Addr) (ws:List Wd) (k:Nat),vs=[.ref x]∧Rdr CD H x p ws k∧DD d (ws.drop k)∧Out CD cR H x p ws (Hr (prs Bx d) (ws.drop k)) aV Q E
def TV:Sp:=fun vs H Q E=>∃(x p:Addr) (ws:List Wd) (k:Nat),vs=[.ref x]∧Rdr CD H x p ws k∧DD d (ws.drop k)∧Out CD cR H x p ws (Cp Bx (prs Bx d) (ws.drop k)) aV Q E
end
theorem YH{CD cR:Addr}{vs:List V}{H:Hp}{Q:VK}{E:XK}(h:Jt CD cR 0 vs H Q E):False:=by
 obtain⟨x,p,ws,k,_,_,D,_⟩:=h
 have:=D [] _ rfl
 exact absurd this (by decide)
theorem ji(w:Wd):inV (V.str (sW w)) [.str "and",.str "or",.str "but",.str "unlike",.str "upon",.str "until",.str "near",.str "till"]=decide (w∈Fj):=by
 have e:([.str "and",.str "or",.str "but",.str "unlike",.str "upon",.str "until",.str "near",.str "till"]:List V)=Fj.map fun v=>V.str (sW v):=by
  have:(["and","or","but","unlike","upon","until","near","till"]:List Str)=Fj.map sW:=by decide +kernel
  have:=congrArg (List.map V.str) this
  rw[List.map_map] at this
  exact this
 rw[e]
 unfold inV
 rw[List.any_map,Bool.eq_iff_iff,List.any_eq_true,decide_eq_true_eq]
 constructor
 ·rintro⟨v,hv,h⟩
  have h:(sW v==sW w)=true:=h
  have:=eq_of_beq h
  have:v=w:=by rw[←Dk v,this,Dk]
  exact this ▸ hv
 ·intro h
  exact⟨w,h,by show(sW w==sW w)=true;exact beq_self_eq_true _⟩
theorem Kv:Str.ofString "later"=sW Fo:=by decide +kernel
theorem bM:Str.ofString "of"=sW kOf:=by decide +kernel
theorem Qp:Str.ofString "not"=sW M9:=by decide +kernel
theorem PL:Str.ofString "every"=sW GQ:=by decide +kernel
theorem Kw:Str.ofString "all"=sW U3:=by decide +kernel
theorem Im:Str.ofString "none"=sW Ly:=by decide +kernel
theorem Jw:Str.ofString "date"=sW Cz:=by decide +kernel
theorem Ox{x:Wd}{ts:List Wd}{a:Unit}{r:List Wd}(h:tkU x ts=some (a,r)):tkW x ts=some r:=by
 unfold tkU at h
 obtain⟨b,h1,h2⟩:=Option.map_eq_some_iff.mp h
 injection h2 with _ h2
 rw[h1,h2]
theorem Oz{x:Wd}{ts:List Wd}(h:tkU x ts=none):tkW x ts=none:=Option.map_eq_none_iff.mp h
theorem Em{H:Hp}{y dy:Addr}{o:HO}(hy:H y=none)(hdy:H dy=none)(ne:dy≠y):Bo H (upd (upd H dy (.own y)) y o):=(Bk hdy _).trans (Bk (by rw[Bw (Ne.symm ne)];exact hy) _)
theorem lw(p:Wd):(Ez p).count kL=p.length-(opd p).length∧(Ez p).count kR=(opd p).length-(core p).length:=by
 have n:=oA p
 unfold Ez
 rw[List.count_append,List.count_append,List.count_append,List.count_append,List.count_replicate,List.count_replicate,List.count_replicate,List.count_replicate,List.count_cons,List.count_cons]
 simp[n.1,n.2,show(kL==kR)=false by decide,show(kR==kL)=false by decide,show kL≠kR by decide,show kR≠kL by decide]
theorem X3:∀{ps:List Wd} {d:Int} {ts:List Wd},wordsOf d ps=some ts→d≤40→∀l m,ts=l++m→d+ht l≤40
 | [],d,ts,h,hd,l,m,e=>by
  simp only[wordsOf] at h
  cases h
  have:l=[]:=(List.append_eq_nil_iff.mp e.symm).1
  subst this
  show d+0≤40
  omega
 | p::ps,d,ts,h,hd,l,m,e=>by
  simp only[wordsOf] at h
  split at h
  ·cases h
  ·split at h
   ·cases h
   ·rename_i h40
    split at h
    ·cases h
    ·rename_i r hr
     cases h
     have c:=lw p
     have a:=RD p
     have b:=Mt p
     rcases List.append_eq_append_iff.mp e.symm with ⟨u,e1,e2⟩ | ⟨u,e1,e2⟩
     ·have h1:l.count kL≤(Ez p).count kL:=by rw[e1,List.count_append];omega
      unfold ht
      omega
     ·have ih:=X3 hr (by omega) u m e2
      rw[e1,Oj]
      have:ht (Ez p)=((p.length:Int)-((opd p).length:Int))-(((opd p).length:Int)-((core p).length:Int)):=by
       unfold ht
       rw[c.1,c.2]
       omega
      omega
theorem bC{p w:Wd}(h:w∈Ez p):w=kL∨w=kR∨w=core p:=by
 unfold Ez at h
 rcases List.mem_append.mp h with h | h
 ·rcases List.mem_append.mp h with h | h
  ·exact .inl (List.eq_of_mem_replicate h)
  ·exact .inr (.inr (List.mem_singleton.mp h))
 ·exact .inr (.inl (List.eq_of_mem_replicate h))
theorem fX{z:Str}(hz:TOk z)(zl:(cpl z).length≤4000){ts:List Wd}(h:wordsOf 0 (spl 32 (cpl z))=some ts):ts.length≤100000∧(∀w∈ts,TOk (sW w))∧(∀w∈ts,w≠[])∧DD 41 ts:=by
 obtain⟨e,g⟩:=Nf h
 have fl:=U6 (spl 32 (cpl z))
 have wt:=Zg 32 (cpl z)
 refine⟨?_,fun w hw=>?_,fun w hw=>?_,fun l m e=>?_⟩
 ·rw[e]
  exact Nat.le_trans fl (by rw[wt];omega)
 ·rw[e] at hw
  obtain⟨p,hp,hw⟩:=List.mem_flatMap.mp hw
  rcases bC hw with rfl | rfl | rfl
  ·exact⟨by decide +kernel,by decide +kernel⟩
  ·exact⟨by decide +kernel,by decide +kernel⟩
  ·have hs:=lG hz p hp
   have sub:∀c∈core p,c∈p:=fun c hc=>by rw[cA p];simp[hc]
   have pl:p.length+1≤((spl 32 (cpl z)).map fun w=>w.length+1).sum:=Xo (List.mem_map.mpr ⟨p,hp,rfl⟩)
   refine⟨HF.mpr fun c hc=>?_,?_⟩
   ·rw[Dk] at hc
    exact hs c (sub c hc)
   ·rw[Es]
    have:=Mt p
    have:=RD p
    rw[wt] at pl
    omega
 ·rw[e] at hw
  obtain⟨p,hp,hw⟩:=List.mem_flatMap.mp hw
  rcases bC hw with rfl | rfl | rfl
  ·decide
  ·decide
  ·exact g p hp
 ·have:=X3 h (by decide) l m e
  omega
theorem dJ{x:V}{xs:List V}:atI (x::xs) 0=some x:=by
 simp only[atI,ixN]
 rw[if_pos (Int.le_refl 0)]
 simp
theorem vy(u v:Int):Int.gcd v (u%v)=Int.gcd u v:=by
 have e:u%v=u+v*(-(u/v)):=by rw[Int.mul_neg,Int.emod_def];omega
 rw[e,Int.gcd_add_mul_left_right,Int.gcd_comm]
def Zr:Sp:=fun vs H Q _=>∃x y:Int,vs=[.int x,.int y]∧0<x∧0<y∧Q (.int (Int.gcd x y:Int)) H
inductive CP where
 | name (z:Str) | num | cyc | rule | long (n:Int) | made (n:Int)
def DQ(n:Int):CP:=if 150000<n then .long n else .made n
def CP.thn:CP→(Int→CP)→CP
 | .made n,f=>f n
 | D,_=>D
structure Vo where
 (M N Y R T:Addr)
def pW(cM:Addr)(z:Str)(H:Hp)(E:XK):Prop:=∀d H',Bo H H'→H' d=some (.xd [("name",.str z)])→E (.ref cM) (some d) H'
def CP.en(A:Vo)(H:Hp)(E:XK)(G:Int→Prop):CP→Prop
 | .name z=>pW A.M z H E
 | .num=>Il A.N H E
 | .cyc=>Il A.Y H E
 | .rule=>Il A.R H E
 | .long n=>Gs A.T n H E
 | .made n=>G n
section
variable{A:Vo}{H H':Hp}{E:XK}{G G':Int→Prop}{D:CP}
theorem CP.imp(h:D.en A H E G)(s:Bo H H')(g:∀n,G n→G' n):D.en A H' E G':=by
 cases D with
 | name z=>exact fun d H2 s2 e=>h d H2 (s.trans s2) e
 | num=>exact Il.later h s
 | cyc=>exact Il.later h s
 | rule=>exact Il.later h s
 | long n=>exact Gs.later h s
 | made n=>exact g n h
theorem CP.sub{f:Int→CP}(h:(D.thn f).en A H E G):D.en A H E fun n=>(f n).en A H E G:=by
 cases D<;>exact h
theorem su{n:Int}(h:(DQ n).en A H E G):(n≤150000→G n)∧(150000<n→Gs A.T n H E):=by
 unfold DQ at h
 by_cases c:150000<n
 ·rw[if_pos c] at h
  exact⟨fun z=>absurd z (by omega),fun _=>h⟩
 ·rw[if_neg c] at h
  exact⟨fun _=>h,fun z=>absurd z c⟩
end
def Nb(K:PySem.W.Frag)(CR:Addr)(CL:List Addr)(A:Vo)(C:Addr)(H:Hp)(x:Addr)(Q:VK)(E:XK)(D:CP):Prop:=(∃dx,H x=some (.ins C dx []))∧D.en A H E fun n=>∀(b:Nat) H',KB x H H'→FN K CR CL H' x n b→Q .non H'
theorem Nb.fit{K:PySem.W.Frag}{CR:Addr}{CL:List Addr}{A:Vo}{C:Addr}{H:Hp}{x:Addr}{Q:VK}{E:XK}{n:Int}(h:Nb K CR CL A C H x Q E (DQ n)):(∃dx,H x=some (.ins C dx []))∧(n≤150000→∀(b:Nat) H',KB x H H'→FN K CR CL H' x n b→Q .non H')∧(150000<n→Gs A.T n H E):=⟨h.1,su h.2⟩
section
variable(K:PySem.W.Frag)(CR:Addr)(CL:List Addr)(A:Vo)(C:Addr)
def O9:Sp:=fun vs H Q E=>∃(x r t:Addr) (n1 n2:Int) (b1 b2:Nat),vs=[.ref x,.ref r,.ref t]∧FN K CR CL H r n1 b1∧FN K CR CL H t n2 b2∧Nb K CR CL A C H x Q E (DQ (DN n1 n2))
def gq:Sp:=fun vs H Q E=>∃(x r:Addr) (n:Int) (b:Nat),vs=[.ref x,.ref r]∧FN K CR CL H r n b∧Nb K CR CL A C H x Q E (.made n)
def gj:Sp:=fun vs H Q E=>∃(x r:Addr) (k n:Int) (b:Nat),vs=[.ref x,.int k,.ref r]∧Bt 250 k∧FN K CR CL H r n b∧Nb K CR CL A C H x Q E (.made n)
def gm:Sp:=fun vs H Q E=>∃(x r t:Addr) (k n1 n2:Int) (b1 b2:Nat),vs=[.ref x,.int k,.ref r,.ref t]∧Bt 250 k∧FN K CR CL H r n1 b1∧FN K CR CL H t n2 b2∧Nb K CR CL A C H x Q E (if k=0 then .num else DQ (DN n1 n2))
def gh:Sp:=fun vs H Q E=>∃(x r:Addr) (k d n:Int) (b:Nat),vs=[.ref x,.int k,.ref r,.int d]∧Bt 250 k∧Bt 250 d∧FN K CR CL H r n b∧Nb K CR CL A C H x Q E (if k<1 then .num else DQ (n*k))
def gn:Sp:=fun vs H Q E=>∃(x:Addr) (n r:Int),vs=[.ref x,.int n,.int r]∧Bt 250 n∧Bt 250 r∧Nb K CR CL A C H x Q E (if n<1 then .num else DQ n)
end
def Mj:Sp:=fun vs H Q _=>∃n r:Int,vs=[.int n,.int r]∧1≤n∧n≤150000∧∀z,TL 6000 z→Q (.str z) H
def Td(CM:Addr):Sp:=fun vs H Q _=>∃(x:Addr) (t b:Int),vs=[.ref x,.int t]∧Me7 CM H x b∧1≤b∧b≤1000∧ -10000≤t∧t≤10000∧Q (.int (t/b)) H
def Zh(CS CM:Addr):Sp:=fun vs H Q _=>∃(x:Addr) (n s:Int),vs=[.ref x,.int n]∧Kg CS CM H x s 5∧ -50≤s∧s≤0∧ -1≤n∧n≤999∧Q (.int ((n-s)/5)) H
def Tr(CS CM:Addr):Sp:=fun vs H Q _=>∃(x:Addr) (n s:Int),vs=[.ref x,.int n]∧Kg CS CM H x s 5∧ -50≤s∧s≤0∧ -1≤n∧n≤999∧∀(p:Addr) (r:Int) H',Bo H H'→H' p=some (.tup [.int ((n-s)/5),.int 1,.int r])→Q (.ref p) H'
def kJ(CC:Addr)(H:Hp)(x:Addr):Prop:=∃dx fs,H x=some (.ins CC dx fs)∧fs.lookup (Str.ofString "cycle")=none
def Ql(CS CM CC:Addr):Sp:=fun vs H Q _=>∃(H0:Hp) (x dx o nw:Addr) (k:Int),vs=[.ref x,.ref o,.ref nw,.int k]∧H0 x=none∧H0 dx=none∧dx≠x∧H=upd (upd H0 dx (.own x)) x (.ins CC dx [])∧Kg CS CM H0 o 0 5∧Kg CS CM H0 nw (-50) 5∧0≤k∧k≤999∧∀H',Bo H0 H'→kJ CC H' x→Q .non H'
def vz(o n:Addr)(d:Int)(p q:Addr):List (Str×V):=[("old",.ref o),("new",.ref n),("day",.int d),("last_old",.ref p),("first_new",.ref q)]
theorem uw{a b c a' b' c':Int}(h:a'<a):Vm (fun i j=>decide (i≤j)) true [a,b,c] [a',b',c']=false:=by
 simp only[Vm]
 rw[if_neg (by omega)]
 exact decide_eq_false (by omega)
def Wt(CC cN:Addr):Sp:=fun vs H _ E=>∃x:Addr,vs=[.ref x]∧E (.ref cN) none H
structure Ot(m d:Option Int)(st:Int):Prop where
 m1:∀i,m=some i→1≤i
 d0:d≠some 0
 st:1≤st
def Wh(cN:Addr):Sp:=fun vs H Q E=>∃(m d:Option Int) (st:Int),vs=[oI m,oI d,.int st]∧(Ot m d st→Q .non H)∧(¬Ot m d st→Il cN H E)
def Wr:Sp:=fun vs H Q _=>vs=[.int 0,.int 5,.int (-1)]∧∀(l:Addr) (H':Hp),H l=none→Bo H H'→H' l=some (.lst [.int 4])→Q (.ref l) H'
def Wq(CS CM:Addr):Sp:=fun vs H Q _=>∃x:Addr,vs=[.ref x,.int 0,.int 1,.int (-1)]∧Kg CS CM H x 0 5∧∀(l:Addr) (H':Hp),H l=none→Bo H H'→H' l=some (.lst [.int 4])→Q (.ref l) H'
inductive DA(CS CM CC:Addr)(H:Hp)(y:Addr):Option Int→Option Int→Int→Int→CP→Prop
 | num:DA CS CM CC H y (some 0) none 40000 7 .num
 | cyc:kJ CC H y→DA CS CM CC H y (some 1) (some 1) 40000 7 .cyc
 | long {st:Int}:Kg CS CM H y 0 5→30001≤st→Bt 250 st→DA CS CM CC H y (some 1) (some 1) st 7 (.long (5*st))
 | made:Kg CS CM H y 0 5→DA CS CM CC H y (some 1) (some (-1)) 1 0 (.made 5)
theorem DA.same{CS CM CC:Addr}{H H':Hp}{y:Addr}{m d:Option Int}{st r:Int}{D:CP}(h:DA CS CM CC H y m d st r D)(s:Bo H H'):DA CS CM CC H' y m d st r D:=by
 cases h with
 | num=>exact .num
 | cyc h=>
  obtain⟨dx,fs,e,l⟩:=h
  exact .cyc ⟨dx,fs,s _ _ e,l⟩
 | long S h b=>exact .long (S.same s) h b
 | made S=>exact .made (S.same s)
def Qn(CS CM CC:Addr)(A:Vo):Sp:=fun vs H Q E=>∃(y:Addr) (m d:Option Int) (st r:Int) (D:CP),vs=[.ref y,oI m,oI d,.int st,.int r]∧DA CS CM CC H y m d st r D∧D.en A H E fun n=>∀(p:Addr) (b:Nat) (H':Hp),Bo H H'→H' p=some (.tup [.int n,.int (b:Int)])→b<2^n.toNat→Q (.ref p) H'
def Wi:Sp:=fun vs H Q _=>∃m:Option Int,vs=[oI m]∧(∀i,m=some i→i.natAbs.log2<1920)∧∀z,TL 2000 z→Q (.str z) H
def Qo:Sp:=fun vs H Q _=>∃z:Str,vs=[.str z,.int 1,.int (-1),.int 1,.int 0]∧z.length≤100∧∀(y:Str) (H':Hp),Bo H H'→Q (.str y) H'
def Zq(K:PySem.W.Frag)(CR:Addr)(CL:List Addr)(A:Vo)(C CS CM CC:Addr):Sp:=fun vs H Q E=>∃(x y:Addr) (z:Str) (m d:Option Int) (st r:Int) (D:CP),vs=[.ref x,.str z,.ref y,oI m,oI d,.int st,.int r]∧z.length≤100∧DA CS CM CC H y m d st r D∧Nb K CR CL A C H x Q E D
def M8:Wd:=[111,108,100]
inductive LD:Pl→CP→Prop
 | each {n r:Int}:Bt 250 n→Bt 250 r→LD (.each n r) (if n<1 then .num else DQ n)
 | name {nm:Wd} {m d:Option Int} {s r:Int}:nm≠Hj→nm≠M8→nm.length≤100→LD (.date nm m d s r) (.name (sW nm))
 | num:LD (.date Hj (some 0) none 40000 7) .num
 | cyc:LD (.date M8 (some 1) (some 1) 40000 7) .cyc
 | long {st:Int}:30001≤st→Bt 250 st→LD (.date Hj (some 1) (some 1) st 7) (.long (5*st))
 | made:LD (.date Hj (some 1) (some (-1)) 1 0) (.made 5)
theorem LD.form{p:Pl}{D:CP}(h:LD p D):(∃n r,p=.each n r∧Bt 250 n∧Bt 250 r∧D=if n<1 then .num else DQ n)∨∃nm m d s r,p=.date nm m d s r:=by
 cases h with
 | each a b=>exact .inl ⟨_,_,rfl,a,b,rfl⟩
 | _=>exact .inr ⟨_,_,_,_,_,rfl⟩
def pw3:List Wd:=[[97,110,100],[98,117,116],[117,110,108,105,107,101]]
inductive PD:Nat→Pl→CP→Prop
 | lf {d:Nat} {p:Pl} {D:CP}:LD p D→PD (d+1) p D
 | not {d:Nat} {p:Pl} {D:CP}:PD d p D→PD (d+1) (.not p) D
 | later {d:Nat} {k:Int} {p:Pl} {D:CP}:Bt 250 k→PD d p D→PD (d+1) (.later k p) D
 | every {d:Nat} {k r:Int} {p:Pl} {D:CP}:Bt 250 k→Bt 250 r→PD d p D→PD (d+1) (.every k p r) (D.thn fun n=>if k<1 then .num else DQ (n*k))
 | nth {d:Nat} {k:Int} {p q:Pl} {D D':CP}:Bt 250 k→PD d p D→PD d q D'→PD (d+1) (.nth k p q) (D.thn fun n=>D'.thn fun m=>if k=0 then .num else DQ (DN n m))
 | pair {d:Nat} {w:Wd} {p q:Pl} {D D':CP}:w∈pw3→PD d p D→PD d q D'→PD (d+1) (.pair w p q) (D.thn fun n=>D'.thn fun m=>DQ (DN n m))
def Dct(CS CM CC:Addr)(H:Hp)(a:Addr):Prop:=∃s o,H a=some (.dK [(.inr "sun",.ref s),(.inr "old",.ref o)])∧Kg CS CM H s 0 5∧kJ CC H o
theorem Dct.same{CS CM CC:Addr}{H H':Hp}{a:Addr}(h:Dct CS CM CC H a)(e:Bo H H'):Dct CS CM CC H' a:=by
 obtain⟨s,o,h1,S,dx,fs,h2,l⟩:=h
 exact⟨s,o,e _ _ h1,S.same e,dx,fs,e _ _ h2,l⟩
section
variable(K:PySem.W.Frag)(CR:Addr)(CL:List Addr)(A:Vo)(CS CM CC:Addr)
def ZM(H:Hp)(Q:VK)(n:Int):Prop:=∀(x:Addr) (b:Nat) H',Bo H H'→FN K CR CL H' x n b→Q (.ref x) H'
def Qk:Sp:=fun vs H Q E=>∃(v:V) (a:Addr) (nm:Wd) (m d:Option Int) (s r:Int) (D:CP),vs=[v,.ref a]∧PlH H (.date nm m d s r) v∧LD (.date nm m d s r) D∧Dct CS CM CC H a∧D.en A H E (ZM K CR CL H Q)
def Zm:Sp:=fun vs H Q E=>∃(w:Wd) (a b:Addr) (n1 n2:Int) (b1 b2:Nat),vs=[.str (sW w),.ref a,.ref b]∧w∈pw3∧FN K CR CL H a n1 b1∧FN K CR CL H b n2 b2∧(DQ (DN n1 n2)).en A H E (ZM K CR CL H Q)
def Jb(d:Nat):Sp:=fun vs H Q E=>∃(v:V) (a:Addr) (p:Pl) (D:CP),vs=[v,.ref a]∧PlH H p v∧PD d p D∧Dct CS CM CC H a∧D.en A H E (ZM K CR CL H Q)
def TD(z:Str)(D:CP):Prop:=(Gk Bx (cpl z)=none∧D=.rule)∨∃p,Gk Bx (cpl z)=some p∧PD 2 p D
def Tg:Sp:=fun vs H Q E=>∃(z:Str) (a:Addr) (D:CP),vs=[.str z,.ref a]∧TOk z∧TD z D∧Dct CS CM CC H a∧D.en A H E (ZM K CR CL H Q)
end
theorem VP{K:PySem.W.Frag}{CR:Addr}{CL:List Addr}{A:Vo}{CS CM CC:Addr}{vs:List V}{H:Hp}{Q:VK}{E:XK}(h:Jb K CR CL A CS CM CC 0 vs H Q E):False:=by
 obtain⟨_,_,_,_,_,_,h,_⟩:=h
 cases h
theorem Gn{K:PySem.W.Frag}{CR:Addr}{CL:List Addr}{A:Vo}{C:Addr}{D:CP}{H1:Hp}{x dx:Addr}{Q:VK}{E:XK}(h1:H1 x=none)(h2:H1 dx=none)(ne:dx≠x)(h:D.en A H1 E (ZM K CR CL H1 Q)):Nb K CR CL A C (upd (upd H1 dx (.own x)) x (.ins C dx [])) x (fun v H2=>v=.non∧Q (.ref x) H2) E D:=
 ⟨⟨dx,BR⟩,CP.imp h (Em h1 h2 ne) fun n G b H' k R=>⟨rfl,G x b H' (Jk h1 h2 ne k) R⟩⟩
def jW(v:V):Prop:=∃z:Str,v=.str z∧z.length≤100
def CP.row:CP→List V
 | .name z=>[.str "name",.str z]
 | .num=>[.str "number",.int 0]
 | .cyc=>[.str "cycle",.int 0]
 | .rule=>[.str "rule",.int 0]
 | .long n=>[.str "long",.int n]
 | .made n=>[.str "made",.int n]
theorem UL(d:CP):d.row.all Ii=true:=by cases d<;>rfl
theorem iC(d:CP):Y5 d.row d.row=true:=by
 cases d with
 | name z=>show((Str.ofString "name"==Str.ofString "name")&&((z==z)&&true))=true;simp
 | num=>decide
 | cyc=>decide
 | rule=>decide
 | long n=>show((Str.ofString "long"==Str.ofString "long")&&((n==n)&&true))=true;simp
 | made n=>show((Str.ofString "made"==Str.ofString "made")&&((n==n)&&true))=true;simp
def TX(CS CM CC:Addr):Sp:=fun vs H Q _=>∃(z:Str) (a:Addr) (D:CP),vs=[.str z,.ref a]∧TOk z∧TD z D∧Dct CS CM CC H a∧∀(u:Addr) H',Bo H H'→H' u=some (.tup D.row)→Q (.ref u) H'
theorem Kf{α:Type}{a:α}{l:List α}:atI (a::l) 0=some a:=FZ (j:=0) rfl
theorem MK{α:Type}{a b:α}{l:List α}:atI (a::b::l) 1=some b:=FZ (j:=1) rfl
theorem fQ{α:Type}{a b c:α}{l:List α}:atI (a::b::c::l) 2=some c:=FZ (j:=2) rfl
theorem tR{α:Type}{a b c d:α}{l:List α}:atI (a::b::c::d::l) 3=some d:=FZ (j:=3) rfl
theorem wB{α:Type}{a b c d e:α}{l:List α}:atI (a::b::c::d::e::l) 4=some e:=FZ (j:=4) rfl
theorem wA{α:Type}{a b c d e f:α}{l:List α}:atI (a::b::c::d::e::f::l) 5=some f:=FZ (j:=5) rfl
theorem nu{cs:List Nat}(h:∀c∈cs,48≤c∧c≤57):cs.head?≠some 45:=by
 cases cs with
 | nil=>exact fun z=>nomatch z
 | cons a r=>
  intro z
  injection z with z
  have:=h a List.mem_cons_self
  omega
theorem tE{n:Nat}(h:n<10^60):(cpl (Ej (n:Int))).length≤60:=by
 rw[dT,List.length_map]
 exact(Nat.length_toDigits_le_iff (by decide) (by decide)).mpr h
theorem MF{cs:List Nat}(h:cs.head?≠some 45):Hk cs=cs:=by unfold Hk;rw[if_neg h]
theorem km{cs:List Nat}(h:cs.head?≠some 45):Bx cs=((PySem.NumText.digitsVal cs:Nat):Int):=by unfold Bx;rw[if_neg h,MF h]
theorem U7{y:Int}(h:y.natAbs<10^60):dM (cpl (Ej y))∧Bx (cpl (Ej y))=y∧47∉cpl (Ej y):=by
 have id:=aX y.natAbs
 have dl:=tE h
 have z0:(cpl (Ej ((y.natAbs:Nat):Int))).head?=some 48→cpl (Ej ((y.natAbs:Nat):Int))=[48]:=by
  have c:=(fL id.1 id.2.1).mp (by rw[id.2.2])
  exact c
 have l1:1≤(cpl (Ej ((y.natAbs:Nat):Int))).length:=by
  cases hh:cpl (Ej ((y.natAbs:Nat):Int)) with
  | nil=>exact absurd hh id.2.1
  | cons a r=>simp
 rcases Int.lt_or_le y 0 with c | c
 ·have e:cpl (Ej y)=45::cpl (Ej ((y.natAbs:Nat):Int)):=by
   cases y with
   | ofNat k=>exact absurd c (by simp)
   | negSucc k=>
    show cpl (Ej (Int.negSucc k))=45::cpl (Ej (((k+1:Nat)):Int))
    rw[dT]
    unfold Ej cpl
    rw[signs_ofString]
    show(("-"++Nat.repr (k+1)).toList).map Char.toNat=_
    rw[String.toList_append,List.map_append,Nat.toList_repr]
    rfl
  have hh:(cpl (Ej y)).head?=some 45:=by rw[e];rfl
  have ef:Hk (cpl (Ej y))=cpl (Ej ((y.natAbs:Nat):Int)):=by unfold Hk;rw[if_pos hh,e];rfl
  refine⟨⟨by rw[ef];exact l1,by rw[ef];exact dl,by rw[ef];exact id.1,fun z=>?_⟩,?_,?_⟩
  ·rw[ef] at z
   have:=z0 z
   have v:=id.2.2
   rw[this] at v
   have:PySem.NumText.digitsVal [48]=0:=rfl
   omega
  ·unfold Bx
   rw[if_pos hh,ef,id.2.2]
   omega
  ·rw[e]
   intro z
   rcases List.mem_cons.mp z with z | z
   ·omega
   ·have:=id.1 47 z
    omega
 ·have e:Ej y=Ej ((y.natAbs:Nat):Int):=by congr 1;omega
  rw[e]
  have h45:=nu id.1
  refine⟨⟨by rw[MF h45];exact l1,by rw[MF h45];exact dl,by rw[MF h45];exact id.1,fun z=>z0 (by rw[MF h45] at z;exact z)⟩,?_,fun z=>by have:=id.1 47 z;omega⟩
  rw[km h45,id.2.2]
  omega
theorem ut{y:Int}(h:y.natAbs<10^60):G7 (cpl (Ej y))=true:=(Xm _).mp (U7 h).1
theorem tH(a b:Str):cpl (a++b)=cpl a++cpl b:=by
 show(a.cps++b.cps).toList=_
 rw[Array.toList_append]
 rfl
theorem De(a b:Wd):sW a++sW b=sW (a++b):=Mf (by rw[tH,Dk,Dk,Dk])
theorem aN{y:Int}(h1: -100000000000000000000000000000000000000000≤y)(h2:y≤100000000000000000000000000000000000000000):∃n:Wd,Ej y=sW n∧G7 n=true∧n.length≤61∧y.natAbs.log2<1920∧Bx n=y:=by
 have h:y.natAbs<10^60:=by
  have:(10:Nat)^60=1000000000000000000000000000000000000000000000000000000000000:=by decide
  omega
 have F:=(U7 h).1
 refine⟨cpl (Ej y),(qJ _).symm,ut h,?_,Ke (Ik (by omega) (by omega):Bt 200 y) (by decide) (by decide),(U7 h).2.1⟩
 have:=F.hi
 unfold Hk at this
 split at this
 ·rw[List.length_drop] at this;omega
 ·omega
def nmF(c:Int):Nat→Wd
 | 0=>[120]
 | k+1=>nmF c k++[97+((c/7+(k:Int)*(c/5000))%26).toNat]
theorem Xn(c:Int):∀k,(nmF c k).length=k+1
 | 0=>rfl
 | k+1=>by
  show(nmF c k++[_]).length=_
  rw[List.length_append,Xn c k]
  rfl
theorem cH(c:Int):∀k,∀a∈nmF c k,97≤a∧a≤122
 | 0,a,h=>by
  rw[List.mem_singleton.mp h]
  decide
 | k+1,a,h=>by
  rcases List.mem_append.mp h with h | h
  ·exact cH c k a h
  ·rw[List.mem_singleton.mp h]
   have m0:=Int.emod_nonneg (c/7+(k:Int)*(c/5000)) (show (26:Int)≠0 by decide)
   have m1:=Int.emod_lt_of_pos (c/7+(k:Int)*(c/5000)) (show (0:Int)<26 by decide)
   omega
theorem Ys(c:Int):∀k,∃r,nmF c k=120::r
 | 0=>⟨[],rfl⟩
 | k+1=>by
  obtain⟨r,e⟩:=Ys c k
  exact⟨r++[_],by show nmF c k++[_]=_;rw[e];rfl⟩
def nmS(c:Int):Wd:=nmF c (c%7).toNat
theorem rQ(c:Int):nameB (nmS c)=true∧nmS c≠Hj∧nmS c≠M8∧(nmS c).length≤7:=by
 have m1:=Int.emod_lt_of_pos c (show (0:Int)<7 by decide)
 obtain⟨r,e⟩:=Ys c (c%7).toNat
 have l:=Xn c (c%7).toNat
 refine⟨(jZ _).mp ⟨by unfold nmS;omega,by unfold nmS;omega,cH c _⟩,?_,?_,by unfold nmS;omega⟩
 ·unfold nmS
  rw[e]
  exact fun z=>nomatch z
 ·unfold nmS
  rw[e]
  exact fun z=>nomatch z
def abS:Str:=Str.ofString "abcdefghijklmnopqrstuvwxyz"
theorem vJ{i:Int}(h0:0≤i)(h1:i<26):atI abS.cps.toList i=some (97+i.toNat):=by
 have e:abS.cps.toList=(List.range 26).map (97+ ·):=by decide +kernel
 rw[e]
 have:=FZ (xs:=(List.range 26).map (97+ ·)) (j:=i.toNat) (v:=97+i.toNat) (by rw[List.getElem?_map,List.getElem?_range (by omega)];rfl)
 rwa [show ((i.toNat:Nat):Int)=i by omega] at this
def Th:Sp:=fun vs H Q _=>∃c:Int,vs=[.int c]∧0≤c∧c≤100000000000000000000000000000000000000000∧Q (.str (sW (nmS c))) H
def Lt(z:Str)(p:Pl)(D:CP):Prop:=∃ws,z=sW (jn ws)∧Lf Bx ws p∧(jn ws).length≤200∧LD p D
theorem cO{n r:Int}(h0:1≤n)(h1:n≤150000)(b:Bt 250 r):LD (.each n r) (.made n):=by
 have:=LD.each (n:=n) ((Ik (by omega) (by omega):Bt 200 n).mono (by decide)) b
 rwa [if_neg (by omega),DQ,if_neg (by omega)] at this
theorem rW{n r:Int}(h0:n<1)(bn:Bt 250 n)(b:Bt 250 r):LD (.each n r) .num:=by
 have:=LD.each bn b
 rwa [if_pos h0] at this
theorem nG{n r:Int}(h0:150000<n)(bn:Bt 250 n)(b:Bt 250 r):LD (.each n r) (.long n):=by
 have:=LD.each bn b
 rwa [if_neg (by omega),DQ,if_pos h0] at this
def Ti:Sp:=fun vs H Q _=>∃x:Int,vs=[.int x]∧∀(z:Str) (p q:Addr) (pl:Pl) (D:CP) H',Bo H H'→H' p=some (.tup [.str z,.ref q])→H' q=some (.tup D.row)→Lt z pl D→Q (.ref p) H'
theorem Gp{H H1:Hp}{Q:VK}{z:Str}{pl:Pl}{D:CP}(q:∀(z:Str) (p q:Addr) (pl:Pl) (D:CP) H',Bo H H'→H' p=some (.tup [.str z,.ref q])→H' q=some (.tup D.row)→Lt z pl D→Q (.ref p) H')(L:Lt z pl D)(s:Bo H H1)(q0:Addr)(h0:H1 q0=none)(p:Addr)(hp:upd H1 q0 (.tup D.row) p=none):Q (.ref p) (upd (upd H1 q0 (.tup D.row)) p (.tup [.str z,.ref q0])):=
 q z p q0 pl D _ (s.trans ((Bk h0 _).trans (Bk hp _))) BR ((Bk hp _) _ _ BR) L
def Rq(w k:Int)(D1 D2:CP):CP:=D1.thn fun n=>if w<4 then (D2.thn fun m=>if w=3∧k=0 then .num else DQ (DN n m)) else if w=4 then (if k<1 then .num else DQ (n*k)) else DQ n
def oM(D:CP):Prop:=∀n,D=.made n→1≤n∧n≤150000
theorem LD.sz{p:Pl}{D:CP}(h:LD p D):oM D:=fun n e=>by
 cases h with
 | @each n' r _ _=>
  unfold DQ at e
  split at e
  ·cases e
  ·split at e
   ·cases e
   ·cases e
    omega
 | name=>cases e
 | num=>cases e
 | cyc=>cases e
 | long=>cases e
 | made=>
  cases e
  decide
theorem pF(D:CP):(∃n,D=.made n)∨∃(s:Str) (v:V),D.row=[.str s,v]∧V.str s≠V.str (Str.ofString "made")∧∀f,D.thn f=D:=by
 cases D with
 | made n=>exact .inl ⟨n,rfl⟩
 | name z=>exact .inr ⟨_,_,rfl,(by decide +kernel),fun _=>rfl⟩
 | num=>exact .inr ⟨_,_,rfl,(by decide +kernel),fun _=>rfl⟩
 | cyc=>exact .inr ⟨_,_,rfl,(by decide +kernel),fun _=>rfl⟩
 | rule=>exact .inr ⟨_,_,rfl,(by decide +kernel),fun _=>rfl⟩
 | long n=>exact .inr ⟨_,_,rfl,(by decide +kernel),fun _=>rfl⟩
def Qh:Sp:=fun vs H Q _=>∃(w k:Int) (p1 q1 p2 q2:Addr) (z1 z2:Str) (D1 D2:CP),vs=[.int w,.int k,.ref p1,.ref p2]∧H p1=some (.tup [.str z1,.ref q1])∧H q1=some (.tup D1.row)∧H p2=some (.tup [.str z2,.ref q2])∧H q2=some (.tup D2.row)∧oM D1∧oM D2∧Bt 250 k∧∀(u:Addr) H',Bo H H'→H' u=some (.tup (Rq w k D1 D2).row)→Q (.ref u) H'
structure Tx(z:Str)(p:Pl):Prop where
 ok:TOk z
 rd:Gk Bx (cpl z)=some p
 ok':TOk (z++Str.ofString ")")
 no:Gk Bx (cpl (z++Str.ofString ")"))=none
 ln:z.length≤2000
theorem qI:Str.ofString ")"=sW [41]:=by decide +kernel
theorem oY{T:Wd}{p:Pl}(a:∀c∈T,c<128)(ln:T.length≤2000)(rd:Gk Bx T=some p)(c:T.count 40=T.count 41):Tx (sW T) p:=by
 refine⟨⟨HF.mpr (by rw[Dk];exact a),by rw[Es];omega⟩,by rw[Dk];exact rd,?_,?_,by rw[Es];exact ln⟩
 ·rw[qI,De]
  refine⟨HF.mpr ?_,?_⟩
  ·rw[Dk]
   intro c hc
   rcases List.mem_append.mp hc with h | h
   ·exact a c h
   ·rw[List.mem_singleton.mp h]
    decide
  ·rw[Es,List.length_append]
   show T.length+1≤_
   omega
 ·rw[qI,De,Dk]
  refine gb ?_
  rw[List.count_append,List.count_append,c]
  simp
theorem lB{ws:List Wd}{p:Pl}(L:Lf Bx ws p)(ln:(jn ws).length≤1900):Tx (sW (jn ws)) p:=by
 refine oY (jg L.gw) (by omega) (di L.gw L.ne (by omega) ?_) (by rw[Jm L.gw (by decide) (by decide),Jm L.gw (by decide) (by decide)])
 have:=L.pe 40 [] (by decide)
 rwa [List.append_nil] at this
theorem Ow{ws:List Wd}{p:Pl}{z:Str}(h:∀w∈ws,Gw w)(ne:ws≠[])(ln:(jn ws).length≤1900)(hp:Cp Bx (prs Bx 40) (ws++[kR])=some (p,[kR]))(e:z=sW (40::(jn ws++[41]))):Tx z p:=by
 rw[e]
 refine oY (fun c hc=>?_) (by simp;omega) (dh h ne (by omega) hp) ?_
 ·rcases List.mem_cons.mp hc with z | z
  ·omega
  ·rcases List.mem_append.mp z with z | z
   ·exact jg h c z
   ·rw[List.mem_singleton.mp z]
    decide
 ·simp only[List.count_cons,List.count_append,List.count_nil,Jm h (show 40≠32 by decide) (by decide),Jm h (show 41≠32 by decide) (by decide)]
  decide
def TY:Sp:=fun vs H Q _=>∃(w k:Int) (p1 q1 p2 q2:Addr) (z1 z2:Str) (l1 l2:Pl) (D1 D2:CP),vs=[.int w,.int k,.ref p1,.ref p2]∧H p1=some (.tup [.str z1,.ref q1])∧H p2=some (.tup [.str z2,.ref q2])∧Lt z1 l1 D1∧Lt z2 l2 D2∧0≤w∧w<8∧ -100000000000000000000000000000000000000000≤k∧k≤100000000000000000000000000000000000000000∧∀(z:Str) (p:Pl) H',Bo H H'→Tx z p→PD 2 p (Rq w k D1 D2)→Q (.str z) H'
theorem uO{m:Nat}(h:m≤100000):m≤sizeLine:=Nat.le_trans h (by decide)
section
variable{w k:Int}{D D2:CP}
theorem Gu{f g:Int→CP}(h:∀n,f n=g n):D.thn f=D.thn g:=by rw[show f=g from funext h]
theorem oX(h:w<4):(D.thn fun n=>if w<4 then (D2.thn fun m=>if w=3∧k=0 then CP.num else DQ (DN n m)) else if w=4 then (if k<1 then .num else DQ (n*k)) else DQ n)=D.thn fun n=>D2.thn fun m=>if w=3∧k=0 then CP.num else DQ (DN n m):=Gu fun _=>if_pos h
theorem tu(h:w<3):(D.thn fun n=>D2.thn fun m=>if w=3∧k=0 then CP.num else DQ (DN n m))=D.thn fun n=>D2.thn fun m=>DQ (DN n m):=Gu fun _=>Gu fun _=>if_neg (by omega)
theorem vV(h:w=3):(D.thn fun n=>D2.thn fun m=>if w=3∧k=0 then CP.num else DQ (DN n m))=D.thn fun n=>D2.thn fun m=>if k=0 then CP.num else DQ (DN n m):=Gu fun _=>Gu fun _=>by
 by_cases c:k=0
 ·rw[if_pos ⟨h,c⟩,if_pos c]
 ·rw[if_neg (fun z=>c z.2),if_neg c]
theorem vU(h:w=4):(D.thn fun n=>if w<4 then (D2.thn fun m=>if w=3∧k=0 then CP.num else DQ (DN n m)) else if w=4 then (if k<1 then .num else DQ (n*k)) else DQ n)=D.thn fun n=>if k<1 then .num else DQ (n*k):=Gu fun _=>by rw[if_neg (by omega),if_pos h]
theorem vR(h:¬w<4)(h4:w≠4):(D.thn fun n=>if w<4 then (D2.thn fun m=>if w=3∧k=0 then CP.num else DQ (DN n m)) else if w=4 then (if k<1 then .num else DQ (n*k)) else DQ n)=D.thn DQ:=Gu fun _=>by rw[if_neg h,if_neg h4]
theorem sZ(h:oM D):D.thn DQ=D:=by
 cases D with
 | made n=>
  have:=h n rfl
  show DQ n=_
  unfold DQ
  rw[if_neg (by omega)]
 | _=>rfl
end
theorem lb(n:Nat){a:Wd}(h:Nat.ble a.length n=true):a.length≤n:=Nat.le_of_ble_eq_true h
theorem Ci{a b:Wd}{n m:Nat}(ha:a.length≤n)(hb:b.length≤m):(a++b).length≤n+m:=by rw[List.length_append];exact Nat.add_le_add ha hb
theorem lz{a b:Wd}{n m:Nat}(ha:a.length≤n)(hb:b.length≤m)(h:Nat.ble (n+m) 100000=true):(sW a).length+(sW b).length≤sizeLine:=by
 rw[Es,Es]
 exact uO (Nat.le_trans (Nat.add_le_add ha hb) (Nat.le_of_ble_eq_true h))
structure Dr(K:PySem.W.Frag)(mg:Str→Option Value)(Aw Af Ad BW Be Al Ah An Az CZ DP Ax Av Ba Ay Bl Bc Ak Aq CJ Bq CN CK Bb Ar Aj Ae Bf BX Am:Addr):Prop where
 h_NoNumber:ZP K mg "NoNumber" Af
 h_TooLong:ZP K mg "TooLong" Ad
 h_NoCycle:ZP K mg "NoCycle" Al
 h_NoRule:ZP K mg "NoRule" Ah
 h_NoName:ZP K mg "NoName" An
 x_NoRule:oJ K mg "NoRule" Ah
 r_NoRule_NoRule:PySem.W.mroIn K Ah (.ref Ah)=some true
 o_NoName:XOwn K An Aw
 f_FeastError:pU K mg "FeastError" Aw
 d_NoName:PySem.W.hasDictIn K An=true
 na_NoName_name:PySem.W.findIn K (.ref An) "name"=some none
 g_NoName:aj K An
 r_NoName_NoRule:PySem.W.mroIn K An (.ref Ah)=some false
 r_NoName_NoName:PySem.W.mroIn K An (.ref An)=some true
 x_NoNumber:oJ K mg "NoNumber" Af
 r_NoNumber_NoNumber:PySem.W.mroIn K Af (.ref Af)=some true
 r_NoNumber_NoRule:PySem.W.mroIn K Af (.ref Ah)=some false
 r_NoNumber_NoName:PySem.W.mroIn K Af (.ref An)=some false
 o_TooLong:XOwn K Ad Aw
 d_TooLong:PySem.W.hasDictIn K Ad=true
 na_TooLong_needed:PySem.W.findIn K (.ref Ad) "needed"=some none
 g_TooLong:aj K Ad
 r_TooLong_NoNumber:PySem.W.mroIn K Ad (.ref Af)=some false
 r_TooLong_TooLong:PySem.W.mroIn K Ad (.ref Ad)=some true
 r_TooLong_NoCycle:PySem.W.mroIn K Ad (.ref Al)=some false
 r_TooLong_NoRule:PySem.W.mroIn K Ad (.ref Ah)=some false
 r_TooLong_NoName:PySem.W.mroIn K Ad (.ref An)=some false
 x_NoCycle:oJ K mg "NoCycle" Al
 r_NoCycle_NoNumber:PySem.W.mroIn K Al (.ref Af)=some false
 r_NoCycle_NoCycle:PySem.W.mroIn K Al (.ref Al)=some true
 r_NoCycle_NoRule:PySem.W.mroIn K Al (.ref Ah)=some false
 r_NoCycle_NoName:PySem.W.mroIn K Al (.ref An)=some false
 cl_Measure:Cls K Ae
 na_Measure_base:Dq K Ae "base"
 na_Measure_terms:Dq K Ae "terms"
 na_Measure_full_count:Dq K Ae "full_count"
 na_Measure_full_sum:Dq K Ae "full_sum"
 cl_Sun:Cls K BX
 na_Sun_start:Dq K BX "start"
 na_Sun_months:Dq K BX "months"
 na_Sun_leap:Dq K BX "leap"
 na_Sun_years:Dq K BX "years"
 cl_Change:Cls K Am
 na_Change_old:Dq K Am "old"
 na_Change_new:Dq K Am "new"
 na_Change_day:Dq K Am "day"
 na_Change_last_old:Dq K Am "last_old"
 na_Change_first_new:Dq K Am "first_new"
 cl_Reader:Cls K Aj
 na_Reader_words:Dq K Aj "words"
 na_Reader_place:Dq K Aj "place"
 cl_Each:Cls K Ax
 rc_Each:RC K Az Ax
 cl_Dated:Cls K Av
 rc_Dated:RC K Az Av
 cl_Not:Cls K Ba
 rc_Not:RC K Az Ba
 cl_Both:Cls K Ay
 rc_Both:RC K Az Ay
 cl_But:Cls K Bc
 rc_But:RC K Az Bc
 cl_Unlike:Cls K Ak
 rc_Unlike:RC K Az Ak
 cl_Later:Cls K Aq
 rc_Later:RC K Az Aq
 cl_Kth:Cls K Bb
 rc_Kth:RC K Az Bb
 cl_Every:Cls K Ar
 rc_Every:RC K Az Ar
section
variable{P:Program}{w:World}{K:PySem.W.Frag}{mg:Str→Option Value}{base:Heap}
variable{Aw Af Ad BW Be Al Ah An Az CZ DP Ax Av Ba Ay Bl Bc Ak Aq CJ Bq CN CK Bb Ar Aj Ae Bf BX Am:Addr}
theorem My:BV ["self","needed"] ["self","needed"] (Ao Dh):=by walk_at "s"
theorem M6{f:Addr}{fd:FuncData}(F:Fun K "__init__" "TooLong.__init__" Dh f fd)(er:Dr K mg Aw Af Ad BW Be Al Ah An Az CZ DP Ax Av Ba Ay Bl Bc Ak Aq CJ Bq CN CK Bb Ar Aj Ae Bf BX Am):Bu P w K mg base CX0 1 f fd ["self","needed"] (Jv Ad "needed" jX):=by
 refine F.ok (k:=0) My (fun vs H Q E h=>?_) (fun cdv A outer s H vs Q E hr h=>?_)
 ·obtain⟨e,v,rfl,_⟩:=h
  rfl
 obtain⟨e,v,rfl,⟨n,rfl,hn⟩,he,q⟩:=h
 refine⟨_,(Ab (CT (YZ er.f_FeastError rfl (Aa (pv 0) (Aa (Iw (DK BJ (DK (KH hr.toN (pv 1)) (DK BJ Lq)))) Ac))))
  (Ag (iY (pv 0) (pv 1) (by rfl)))),?_⟩
 walk_at "x"
 refine Ia 0 (by decide) (by decide) fun l1=>Ua _ l1 (by decide) rfl hn fun l2=>Ia _ l2 (by decide) fun l3=>Iv (fits l3 (by decide)) ?_
 walk_at "x"
 refine⟨e,_,_,_,_,rfl,he,er.o_TooLong,(by show 1≤sizeLine;decide),?_⟩
 walk_at "x"
 exact⟨e,_,_,rfl,he,er.o_TooLong,er.na_TooLong_needed,fun d hd=>q d hd⟩
theorem Nq:BV ["self","name"] ["self","name"] (Ao Ds):=by walk_at "s"
theorem Od{f:Addr}{fd:FuncData}(F:Fun K "__init__" "NoName.__init__" Ds f fd)(er:Dr K mg Aw Af Ad BW Be Al Ah An Az CZ DP Ax Av Ba Ay Bl Bc Ak Aq CJ Bq CN CK Bb Ar Aj Ae Bf BX Am):Bu P w K mg base CX0 1 f fd ["self","name"] (Jv An "name" jW):=by
 refine F.ok (k:=0) Nq (fun vs H Q E h=>?_) (fun cdv A outer s H vs Q E hr h=>?_)
 ·obtain⟨e,v,rfl,_⟩:=h
  rfl
 obtain⟨e,v,rfl,⟨z,rfl,hz⟩,he,q⟩:=h
 refine⟨_,(Ab (CT (YZ er.f_FeastError rfl (Aa (pv 0) (Aa (Iw (DK BJ (DK (KH hr.toN (pv 1)) Lq))) Ac))))
  (Ag (iY (pv 0) (pv 1) (by rfl)))),?_⟩
 walk_at "x"
 refine Ia 0 (by decide) (by decide) fun l1=>pH _ 100 l1 hz (by decide) rfl fun l2=>Iv (fits l2 (by decide)) ?_
 walk_at "x"
 refine⟨e,_,_,_,_,rfl,he,er.o_NoName,(by show 1≤sizeLine;decide),?_⟩
 walk_at "x"
 exact⟨e,_,_,rfl,he,er.o_NoName,er.na_NoName_name,fun d hd=>q d hd⟩
theorem Mx:BV ["number"] ["number"] (Ao GP):=by walk_at "s"
theorem M3{f:Addr}{fd:FuncData}(F:Fun K "refuse_below_one" "refuse_below_one" GP f fd)(er:Dr K mg Aw Af Ad BW Be Al Ah An Az CZ DP Ax Av Ba Ay Bl Bc Ak Aq CJ Bq CN CK Bb Ar Aj Ae Bf BX Am):Bu P w K mg base (CX1 P w) 1 f fd ["number"] (Gv Af):=by
 refine F.okE (k:=0) Mx (fun vs H Q E h=>?_) (fun cdv A outer s H vs Q E hr h T=>?_)
 ·obtain⟨n,rfl,_⟩:=h
  rfl
 obtain⟨n,rfl,qs,qe⟩:=h
 refine⟨_,(Ag (CG (BL GX (pv 0) Ai (Bd _))
  (Ag (Ef T rfl er.x_NoNumber rfl (Aa BJ Ac)))
  Bh)),?_⟩
 walk_at "x"
 refine Ca (fun c=>?_) (fun c=>?_)
 ·walk_at "x"
  exact⟨(by show 1≤sizeLine;decide),(qe c).here⟩
 ·walk_at "x"
  exact qs (by omega)
theorem Nk:BV ["size"] ["size"] (Ao Gg):=by walk_at "s"
theorem Oa{f:Addr}{fd:FuncData}(F:Fun K "refuse_too_long" "refuse_too_long" Gg f fd)(er:Dr K mg Aw Af Ad BW Be Al Ah An Az CZ DP Ax Av Ba Ay Bl Bc Ak Aq CJ Bq CN CK Bb Ar Aj Ae Bf BX Am)(c_TooLong___init__:kO P w K mg base 1 "TooLong" Ad Aw ["self","needed"] (Jv Ad "needed" jX)){tk_LONGEST:Tok}(m_LONGEST:mg "LONGEST"=some (.int 150000 tk_LONGEST)):Bu P w K mg base (CX1 P w) 3 f fd ["size"] (GK Ad):=by
 refine F.okE (k:=2) Nk (fun vs H Q E h=>?_) (fun cdv A outer s H vs Q E hr h T=>?_)
 ·obtain⟨n,rfl,_⟩:=h
  rfl
 obtain⟨n,rfl,hb,qs,qe⟩:=h
 refine⟨_,(Ag (CG (BL GZ (pv 0) (DR rfl m_LONGEST (Dw _ _)) (Bd _))
  (Ag (V0 T rfl c_TooLong___init__ (hr.mono (by decide)) rfl (Aa (pv 0) Ac)))
  Bh)),?_⟩
 walk_at "x"
 refine Ca (fun c=>?_) (fun c=>?_)
 ·walk_at "x"
  exact Vx (v:=.int n) (fun Q hQ=>bY (iG rfl (Q5 hQ))) ⟨n,rfl,Ke hb (by decide) (by decide)⟩ (fun d H' s e=>qe c d H' s e)
 ·walk_at "x"
  exact qs (by omega)
theorem Fe:BV ["one","other","row","below","times","rest"] ["one","other"] (Ao N7):=by walk_at "s"
theorem Yo{f:Addr}{fd:FuncData}(F:Fun K "equation" "equation" N7 f fd):Bu P w K mg base CX0 1 f fd ["one","other"] qG:=by
 refine F.ok (k:=0) Fe (fun vs H Q E h=>?_) (fun cdv A outer s H vs Q E hr h=>?_)
 ·obtain⟨a,b,rfl,_⟩:=h
  rfl
 obtain⟨a,b,rfl,ha,hb,q⟩:=h
 refine⟨_,(Ab (BK (i:=2) Fe.nd rfl (by walk_at "o") (Bv (Aa Ai (Aa Ai (Aa (pv 0) Ac)))))
  (Ab (BK (i:=3) Fe.nd rfl (by walk_at "o") (Bv (Aa Ai (Aa Ai (Aa (pv 1) Ac)))))
  (Ab (Ie PassesOwn.never (BL QC (Bp Bm (pv 3) Ai (fun _ _=>rfl)) Ai (Bd _))
   (Ab (BK (i:=4) Fe.nd rfl (by walk_at "o") (BP jO (Bp Bm (pv 2) Ai (fun _ _=>rfl)) (Bp Bm (pv 3) Ai (fun _ _=>rfl))))
  (Ab (BK (i:=5) Fe.nd rfl (by walk_at "o") (Bv (Aa (BP Ei (Bp Bm (pv 2) Ai (fun _ _=>rfl)) (BP Dd (pv 4) (Bp Bm (pv 3) Ai (fun _ _=>rfl)))) (Aa (BP Ei (Bp Bm (pv 2) Ai (fun _ _=>rfl)) (BP Dd (pv 4) (Bp Bm (pv 3) Ai (fun _ _=>rfl)))) (Aa (BP Ei (Bp Bm (pv 2) Ai (fun _ _=>rfl)) (BP Dd (pv 4) (Bp Bm (pv 3) Ai (fun _ _=>rfl)))) Ac)))))
  (Ab (BK (i:=2) Fe.nd rfl (by walk_at "o") (pv 3))
  (Ag (BK (i:=3) Fe.nd rfl (by walk_at "o") (pv 5)))))))
  (Ab (CG (BL GX (Bp Bm (pv 2) Ai (fun _ _=>rfl)) Ai (Bd _))
   (Ag (BZ (Bv (Aa (Ls Ho (Bp Bm (pv 2) Ai (fun _ _=>rfl))) (Aa (Ls Ho (Bp Bm (pv 2) Ai (fun _ _=>rfl))) (Aa (Ls Ho (Bp Bm (pv 2) Ai (fun _ _=>rfl))) Ac))))))
   Bh)
  (Ag (BZ (pv 2))))))),?_⟩
 walk_at "d"
 refine⟨three,fun p1 hp1=>?_⟩
 walk_at "d"
 refine⟨three,fun p2 hp2=>?_⟩
 walk_at "d"
 have n12:p1≠p2:=fun z=>by rw[←z,BR] at hp2;cases hp2
 refine⟨fun m σ' H'=>∃(pr pb:Addr) (u v r u' v' r':Int) (t1 t2:Option V),σ'=[some (.int a),some (.int b),some (.ref pr),some (.ref pb),t1,t2]∧Bo H H'∧
  H' pr=some (.tup [.int u,.int v,.int r])∧H' pb=some (.tup [.int u',.int v',.int r'])∧EqI a b u v r u' v' r'∧m=r'.natAbs,
  ⟨_,p1,p2,1,0,a,0,1,b,none,none,rfl,(Bk hp1 _).trans (Bk hp2 _),by rw[Bw n12];exact BR,BR,EqI.start a b,rfl⟩,?_⟩
 rintro m σ' H' ⟨pr,pb,u,v,r,u',v',r',t1,t2,rfl,sm,hpr,hpb,I,rfl⟩
 have B:=I.bounds
 have br:=tK (m:=510) ha hb (show r.natAbs≤a.natAbs+b.natAbs+4 by omega) (by decide)
 have br':=dG (m:=510) hb (show r'.natAbs≤4*b.natAbs+4 by omega) (by decide)
 have bu':=dG (m:=510) hb (show u'.natAbs≤4*b.natAbs+4 by omega) (by decide)
 have bv':=dG (m:=510) ha (show v'.natAbs≤4*a.natAbs+4 by omega) (by decide)
 walk_at "d"
 refine Bj (SqT.of hpb) ZL ?_
 walk_at "d"
 by_cases hz:r'=0
 ·subst hz
  refine QQ rfl ?_
  have D:=I.done
  walk_at "d"
  refine Bj (SqT.of hpr) ZL ?_
  walk_at "d"
  refine Ca (fun c=>?_) (fun c=>?_)
  ·walk_at "d"
   refine Bj (SqT.of hpr) tV ?_
   walk_at "d"
   refine Bj (SqT.of hpr) tU ?_
   walk_at "d"
   refine Bj (SqT.of hpr) ZL ?_
   walk_at "d"
   refine⟨three,fun p hp=>?_⟩
   exact q p _ _ _ _ (sm.trans (Bk hp _)) BR (D.1 c)
  ·walk_at "d"
   exact q pr _ _ _ _ sm hpr (D.2 c)
 ·refine QR (fun z=>hz (V.int.inj z)) ?_
  refine⟨_,fun σ' H' hh=>hh,?_⟩
  have St:=I.step hz
  have bq:=dG (m:=520) br (show (r.fdiv r').natAbs≤4*r.natAbs+4 by have:=Z5 (r:=r) hz;omega) (by decide)
  walk_at "d"
  refine Bj (SqT.of hpr) ZL ?_
  walk_at "d"
  refine Bj (SqT.of hpb) ZL ?_
  refine Ew ⟨hz,br'.mono (by decide)⟩ ?_
  walk_at "d"
  refine Bj (SqT.of hpr) tV ?_
  walk_at "d"
  refine Bj (SqT.of hpb) tV ?_
  refine Ew ⟨520,510,bq,bu',by decide⟩ ?_
  walk_at "d"
  refine Bj (SqT.of hpr) tU ?_
  walk_at "d"
  refine Bj (SqT.of hpb) tU ?_
  refine Ew ⟨520,510,bq,bv',by decide⟩ ?_
  walk_at "d"
  refine Bj (SqT.of hpr) ZL ?_
  walk_at "d"
  refine Bj (SqT.of hpb) ZL ?_
  refine Ew ⟨520,510,bq,br',by decide⟩ ?_
  walk_at "d"
  refine⟨three,fun p hp=>?_⟩
  walk_at "d"
  exact⟨_,St.2,pb,p,u',v',r',_,_,_,_,_,rfl,sm.trans (Bk hp _),(Bk hp _) _ _ hpb,BR,St.1,rfl⟩
theorem Zz:BV ["one","other"] ["one","other"] (Ao Q0):=by walk_at "s"
theorem aJ{f:Addr}{fd:FuncData}(F:Fun K "divisor" "divisor" Q0 f fd)(c_equation:Cal P w K mg base 1 "equation" ["one","other"] qG):Bu P w K mg base CX0 2 f fd ["one","other"] Qm:=by
 refine F.ok (k:=1) Zz (fun vs H Q E h=>?_) (fun cdv A outer s H vs Q E hr h=>?_)
 ·obtain⟨a,b,rfl,_⟩:=h
  rfl
 obtain⟨a,b,rfl,ha,hb,q⟩:=h
 refine⟨_,(Ag (BZ (Bp Bm (Br c_equation (hr.mono (by decide)) rfl (Aa (pv 0) (Aa (pv 1) Ac))) Ai (fun _ _=>rfl)))),?_⟩
 walk_at "d"
 refine⟨a,b,rfl,ha,hb,fun p u v g H' sm hp e=>?_⟩
 walk_at "d"
 refine Bj (SqT.of hp) ZL ?_
 rw[e.gd]
 exact q _ sm
theorem dZ:BV ["one","other"] ["one","other"] (Ao UG):=by walk_at "s"
theorem eN{f:Addr}{fd:FuncData}(F:Fun K "common" "common" UG f fd)(c_refuse_below_one:CQ P w K mg base 1 "refuse_below_one" ["number"] (Gv Af))(c_divisor:Cal P w K mg base 2 "divisor" ["one","other"] Qm):Bu P w K mg base (CX1 P w) 3 f fd ["one","other"] (Jc Af):=by
 refine F.okE (k:=2) dZ (fun vs H Q E h=>?_) (fun cdv A outer s H vs Q E hr h T=>?_)
 ·obtain⟨a,b,rfl,_⟩:=h
  rfl
 obtain⟨a,b,rfl,ha,hb,qs,qe⟩:=h
 refine⟨_,(Ab (CT (Bg T c_refuse_below_one (hr.mono (by decide)) rfl (Aa (pv 0) Ac)))
  (Ab (CT (Bg T c_refuse_below_one (hr.mono (by decide)) rfl (Aa (pv 1) Ac)))
  (Ag (BZ (BP Dd (BP Df (pv 0) (Br c_divisor (hr.mono (by decide)) rfl (Aa (pv 0) (Aa (pv 1) Ac)))) (pv 1)))))),?_⟩
 walk_at "x"
 refine⟨a,rfl,fun a0=>?_,fun a0=>qe (fun z=>by omega)⟩
 walk_at "x"
 refine⟨b,rfl,fun b0=>?_,fun b0=>qe (fun z=>by omega)⟩
 walk_at "x"
 refine⟨a,b,rfl,ha,hb,fun H' sm=>?_⟩
 have g0:=S6 (b:=b) (show 0<a by omega)
 have g1:=jm (b:=b) (show 0<a by omega)
 refine Ew ⟨g0,(ha.le (x:=(Int.gcd a b:Int)) (by omega)).mono (by decide)⟩ ?_
 walk_at "x"
 have d0:0≤a/(Int.gcd a b:Int):=Int.ediv_nonneg (by omega) (by omega)
 have d1:a/(Int.gcd a b:Int)≤a:=Int.ediv_le_self _ (by omega)
 refine Ew ⟨500,500,ha.le (by omega),hb,by decide⟩ ?_
 exact qs a0 b0 _ sm
theorem Fb:BV ["size","days","pieces","day","bits","number","place"] ["size","days"] (Ao Nu):=by walk_at "s"
theorem Yh{f:Addr}{fd:FuncData}(F:Fun K "round_by" "round_by" Nu f fd)(c_refuse_below_one:CQ P w K mg base 1 "refuse_below_one" ["number"] (Gv Af))(c_refuse_too_long:CQ P w K mg base 3 "refuse_too_long" ["size"] (GK Ad))(z_range:mg "range"=none)(z_len:mg "len"=none){tk_PIECE:Tok}(m_PIECE:mg "PIECE"=some (.int 256 tk_PIECE)):Bu P w K mg base (CX1 P w) 4 f fd ["size","days"] (Hs K Af Ad):=by
 refine F.okE (k:=3) Fb (fun vs H Q E h=>?_) (fun cdv A outer s H vs Q E hr h T=>?_)
 ·obtain⟨a,ds,n,rfl,_⟩:=h
  rfl
 obtain⟨a,ds,n,rfl,hS,hb,qs,qn,ql⟩:=h
 refine⟨_,(Ab (CT (Bg T c_refuse_below_one (hr.mono (by decide)) rfl (Aa (pv 0) Ac)))
  (Ab (CT (Bg T c_refuse_too_long (hr.mono (by decide)) rfl (Aa (pv 0) Ac)))
  (Ab (BK (i:=2) Fb.nd rfl (by walk_at "o") (BP aA (GC (Aa Ai Ac)) (BP Dj (BP Df (pv 0) (DR rfl m_PIECE (Dw _ _))) Ai)))
  (Ab (J9 (by first | exact PassesOwn.leaving | exact PassesOwn.looking | with_unfolding_all passes_own) rfl (Pu (pv 1)) (Hi (i:=3) Fb.nd rfl (by walk_at "o"))
   (Ab (BK (i:=6) Fb.nd rfl (by walk_at "o") (BP Eg (pv 3) (pv 0)))
  (Ag (ig (BP Ye (Bp JB (pv 2) (BP Df (pv 6) (DR rfl m_PIECE (Dw _ _))) (fun _ _=>rfl)) (BP QB Ai (BP Eg (pv 6) (DR rfl m_PIECE (Dw _ _))))) (jA (pv 2) (BP Df (pv 6) (DR rfl m_PIECE (Dw _ _))) set_list)))))
  (Ab (BK (i:=4) Fb.nd rfl (by walk_at "o") Ai)
  (Ab (J9 (by first | exact PassesOwn.leaving | exact PassesOwn.looking | with_unfolding_all passes_own) rfl (Q8 rfl z_range (Aa (CW Dl rfl z_len PySem.boot_len (Aa (pv 2) Ac)) Ac)) (Hi (i:=5) Fb.nd rfl (by walk_at "o"))
   (Ag (BK (i:=4) Fb.nd rfl (by walk_at "o") (BP Ye (pv 4) (BP QB (Bp JB (pv 2) (pv 5) (fun _ _=>rfl)) (BP Dd (pv 5) (DR rfl m_PIECE (Dw _ _))))))))
  (Ag (BZ (Bv (Aa (pv 0) (Aa (pv 4) Ac))))))))))),?_⟩
 walk_at "x"
 refine⟨n,rfl,fun n0=>?_,fun n0=>qn n0⟩
 walk_at "x"
 refine⟨n,rfl,hb,fun n1=>?_,fun n1=>ql n1⟩
 have fin:=qs n0 n1
 walk_at "x"
 refine⟨(by show 1≤sizeLine;decide),fun l0 hl0=>?_⟩
 walk_at "x"
 refine Z3 BR (by omega) (by omega) (by show 1*_≤sizeLine;unfold sizeLine;omega) (fun l hl=>?_)
 have s0:=Bk hl0 (.lst [.int 0])
 have s1:=s0.trans (Bk hl (.lst (List.replicate (n/256+1).toNat [V.int 0]).flatten))
 have t1:upd (upd H l0 (.lst [.int 0])) l (.lst (List.replicate (n/256+1).toNat [V.int 0]).flatten) l=some (.lst (Uh 0 (n/256+1).toNat)):=by rw[BR,d9]
 have hl':H l=none:=s0.free hl
 generalize upd (upd H l0 (.lst [.int 0])) l (.lst (List.replicate (n/256+1).toNat [V.int 0]).flatten)=H1 at s1 t1 ⊢
 generalize hk:(n/256+1).toNat=k at t1
 walk_at "x"
 refine⟨_,rfl,a,rfl,⟨_,s1.seq hS⟩,QT (xs:=ds.map V.int) (fun i σ' H'=>Bo H H'∧∃(b:Nat) (c c':Option V),H' l=some (.lst (Uh b k))∧σ'=[some (.int n),some (.ref a),some (.ref l),c,none,none,c']∧RB n (ds.take i) b) ⟨s1,0,none,none,t1,rfl,?_⟩ ?_ ?_ ?_⟩
 ·simpa using RB.nil n
 ·rintro i σ' H' _ ⟨s,_⟩
  exact s.seq hS
 ·rintro i x σ' H' hx ⟨s,b,c,c',t,rfl,B⟩
  rw[List.getElem?_map] at hx
  obtain⟨d,hd,rfl⟩:=Option.map_eq_some_iff.mp hx
  have m0:=Int.emod_nonneg d (show n≠0 by omega)
  have m1:=Int.emod_lt_of_pos d (show 0<n by omega)
  walk_at "x"
  have B':=B.snoc (x:=d) (by omega)
  obtain⟨p,hp⟩:∃p:Nat,d%n=(p:Int):=⟨(d%n).toNat,by omega⟩
  rw[hp,Int.toNat_natCast] at B'
  rw[hp] at m1 ⊢
  have e1:(p:Int)/256=((p/256:Nat):Int):=by omega
  have e2:(p:Int)%256=((p%256:Nat):Int):=by omega
  rw[e1]
  have pk:p/256<k:=by omega
  refine Lp (SqL.of t) (FZ (Pz pk)) ?_
  walk_at "x"
  rw[e2]
  refine Ew ⟨by omega,1,bt1,by omega⟩ ?_
  walk_at "x"
  rw[Int.toNat_natCast,iw,G9]
  try rw[e1]
  refine bT t (by rw[Py];exact pk) ?_
  rw[jL pk]
  refine⟨Hu hl' s,_,_,_,BR,rfl,?_⟩
  rw[List.take_add_one,hd]
  exact B'
 ·rintro σ' H2 ⟨s2,b,c,c',t2,rfl,B⟩
  rw[List.length_map,List.take_length] at B
  walk_at "x"
  walk_at "f"
  walk_at "x"
  refine⟨l,_,rfl,.inl (SqL.of t2),?_⟩
  walk_at "x"
  rw[Py]
  refine⟨(k:Int),rfl,by omega,by omega,WF (n:=((k:Int)).toNat) (fun i σ' H'=>H'=H2∧∃(c1:Option V),σ'=[some (.int n),some (.ref a),some (.ref l),c,some (.int ((b%2^(256*i):Nat):Int)),c1,c']∧i≤k) ⟨rfl,none,?_,by omega⟩ ?_ ?_⟩
  ·rw[Nat.mul_zero,Nat.pow_zero,Nat.mod_one]
   rfl
  ·rintro i σ' H' hi ⟨rfl,c1,rfl,_⟩
   have ik:i<k:=by omega
   walk_at "x"
   rw[Int.zero_add]
   refine Lp (SqL.of t2) (FZ (Pz ik)) ?_
   walk_at "x"
   refine Ew ⟨20,10,Kd (by omega),(by unfold Bt;decide),by decide⟩ ?_
   walk_at "x"
   refine Ew ⟨by omega,256,Kd (uq _ _),by omega⟩ ?_
   walk_at "x"
   rw[show ((i:Int)*256).toNat=256*i by omega,Tu,G9,mR]
   exact⟨rfl,_,rfl,by omega⟩
  ·rintro σ' H' ⟨rfl,c1,rfl,_⟩
   walk_at "x"
   have e:256*((k:Int)).toNat=256*(n/256+1).toNat:=by omega
   rw[e,lZ (by omega) B.lt]
   refine⟨Dz,fun p hp=>?_⟩
   exact fin p b _ (s2.trans (Bk hp _)) BR B
theorem W2:BV ["size"] ["size"] (Ao Li):=by walk_at "s"
theorem Xg{f:Addr}{fd:FuncData}(F:Fun K "full_bits" "full_bits" Li f fd):Bu P w K mg base CX0 1 f fd ["size"] Ku:=by
 refine F.ok (k:=0) W2 (fun vs H Q E h=>?_) (fun cdv A outer s H vs Q E hr h=>?_)
 ·obtain⟨n,rfl,_⟩:=h
  rfl
 obtain⟨n,rfl,h0,h1,q⟩:=h
 refine⟨_,(Ag (BZ (BP Ei (BP QB Ai (pv 0)) Ai))),?_⟩
 walk_at "d"
 refine Ew ⟨h0,1,(by unfold Bt;decide),by omega⟩ ?_
 walk_at "d"
 rw[fH]
 exact q
theorem J0:BV ["turn","days","first","piece"] ["turn"] (Ao Q3):=by walk_at "s"
theorem aK{f:Addr}{fd:FuncData}(F:Fun K "days_in" "days_in" Q3 f fd)(c_full_bits:Cal P w K mg base 1 "full_bits" ["size"] Ku)(z_range:mg "range"=none){tk_PIECE:Tok}(m_PIECE:mg "PIECE"=some (.int 256 tk_PIECE)):Bu P w K mg base CX0 2 f fd ["turn"] (Tq K):=by
 refine F.ok (k:=1) J0 (fun vs H Q E h=>?_) (fun cdv A outer s H vs Q E hr h=>?_)
 ·obtain⟨a,n,b,rfl,_⟩:=h
  rfl
 obtain⟨a,n,b,rfl,hS,h0,h1,hb,q⟩:=h
 refine⟨_,(Ab (BK (i:=1) J0.nd rfl (by walk_at "o") (GC Ac))
  (Ab (J9 PassesOwn.never rfl (V2 rfl z_range (Aa Ai (Aa (Bp Bm (pv 0) Ai (fun _ _=>rfl)) (Aa (DR rfl m_PIECE (Dw _ _)) Ac)))) (Hi (i:=2) J0.nd rfl (by walk_at "o"))
   (Ab (BK (i:=3) J0.nd rfl (by walk_at "o") (BP Lw (BP Uj (Bp Bm (pv 0) Ai (fun _ _=>rfl)) (pv 2)) (Br c_full_bits (hr.mono (by decide)) rfl (Aa (DR rfl m_PIECE (Dw _ _)) Ac))))
  (Ag (Fi (CG (BL GZ (pv 3) Ai (Bd _))
   (Ag (CT (NT PySem.F.plainAttrs_list PySem.F.slot_list_extend PySem.F.type_list_extend Mr (pv 1) (Aa (Iz rfl (Hl ["turn","days","first","piece"] ["turn","days","first","piece"] rfl rfl (by with_unfolding_all rfl) (by decide +kernel) rfl (by decide +kernel) rfl (by decide +kernel) (by walk_at "fm") (by with_unfolding_all rfl) (by with_unfolding_all rfl)) (Q8 rfl z_range (Aa (DR rfl m_PIECE (Dw _ _)) Ac)) (fun _ _ _ _=>(Ud (qz (BP Lw (BP Uj (pv 4) (pv 0)) Ai) (fun _=>rfl)))) (fun _ _ _ _=>(BP Dj (pv 3) (pv 0)))) Ac))))
   Bh)))))
  (Ag (BZ (pv 1))))),?_⟩
 walk_at "d"
 refine⟨(by show 0≤sizeLine;decide),fun l hl=>?_⟩
 have s1:=Bk hl (.lst [])
 have t1:upd H l (.lst []) l=some (.lst ((dli b (256*0)).map V.int)):=BR
 generalize upd H l (.lst [])=H1 at s1 t1 ⊢
 have hS1:=s1.tup hS
 walk_at "d"
 walk_at "f"
 walk_at "d"
 refine Bj hS1 at0 ?_
 walk_at "d"
 refine⟨0,n,256,rfl,by decide,by decide,Nj (by decide) (by decide) (by omega) (by omega) (by decide) (by decide),((n-1)/256+1).toNat,?_,?_⟩
 ·rw[Pq (by decide),if_pos h0,show n-0-1=n-1 by omega]
  omega
 refine U5 (fun i σ' H'=>Bo H H'∧H' l=some (.lst ((dli b (256*i)).map V.int))∧∃c c':Option V,σ'=[some (.ref a),some (.ref l),c,c']∧i≤700) ⟨s1,t1,none,none,rfl,by decide⟩ ?_ ?_
 ·rintro i σ' H2 hi ⟨s2,t2,c,c',rfl,_⟩
  have hS2:=s2.tup hS
  have i1:i<700:=by omega
  rw[show (0:Int)+(i:Int)*256=((256*i:Nat):Int) by omega]
  generalize hm:256*i=m at*
  walk_at "d"
  refine Bj hS2 at1 ?_
  walk_at "d"
  refine Ew (show (0:Int)≤(m:Int) by omega) ?_
  walk_at "d"
  refine⟨256,rfl,by decide,by decide,?_⟩
  walk_at "d"
  rw[Int.toNat_natCast,Ky,Et,Nat.and_two_pow_sub_one_eq_mod,Nat.shiftRight_eq_div_pow,show(256:Int).toNat=256 from rfl]
  refine Eh (fun σ' H'=>Bo H H'∧H' l=some (.lst ((dli b (256*(i+1))).map V.int))∧∃c c':Option V,σ'=[some (.ref a),some (.ref l),c,c']∧i+1≤700) ?_ (fun σ' H' h=>h)
  walk_at "d"
  refine Ca (fun _=>?_) (fun p0=>?_)
  rotate_left
  ·walk_at "d"
   refine⟨s2,?_,_,_,rfl,by omega⟩
   rw[t2,show 256*(i+1)=m+256 by omega,←Y6]
   have:((((List.range 256).map fun i=>V.int (0+(i:Nat)))).filter fun v=>match v with | .int d=>b.testBit (m+d.toNat) | _=>false)=[]:=by
    rw[List.filter_eq_nil_iff]
    intro v hv
    obtain⟨j,hj,rfl⟩:=List.mem_map.mp hv
    have hj':j<256:=List.mem_range.mp hj
    show ¬b.testBit (m+(0+(j:Int)).toNat)=true
    rw[show (0+(j:Int)).toNat=j by omega]
    have e:(b/2^m%2^256).testBit j=b.testBit (m+j):=by
     rw[Nat.testBit_mod_two_pow,←Nat.shiftRight_eq_div_pow,Nat.testBit_shiftRight,decide_eq_true hj',Bool.true_and]
    rw[←e,show b/2^m%2^256=0 by omega,Nat.zero_testBit]
    exact Bool.false_ne_true
   rw[this,List.map_nil,List.append_nil]
  walk_at "d"
  refine XC rfl t2 ?_
  walk_at "d"
  refine Mq (bV ?_)
  walk_at "d"
  refine⟨256,rfl,by decide,by decide,?_⟩
  refine Mu pY ?_ (fun _ _ _=>trivial) (fun v=>match v with | .int d=>b.testBit (m+d.toNat) | _=>false) (fun v=>match v with | .int d=>V.int ((m:Int)+d) | _=>.non) (fun x hx D ys Q' hD h=>?_) (fun x hx _ D ys Q' hD h=>?_) (fun D hD=>?_)
  ·rw[List.length_map,List.length_range]
   exact Ml (by decide)
  ·obtain⟨j,hj,rfl⟩:=List.mem_map.mp hx
   have hj':j<256:=List.mem_range.mp hj
   walk_at "d"
   refine Ew (show (0:Int)≤0+(j:Int) by omega) ?_
   walk_at "d"
   rw[show (0+(j:Int)).toNat=j by omega,d8,decide_eq_true hj',Bool.true_and]
   replace h:Q' (b.testBit (m+(0+(j:Int)).toNat)) _:=h
   rw[show (0+(j:Int)).toNat=j by omega] at h
   exact h
  ·obtain⟨j,hj,rfl⟩:=List.mem_map.mp hx
   walk_at "d"
   exact h
  have s3:=Bk hD (.lst ((((List.range (Int.toNat 256)).map fun i=>V.int (0+(i:Nat))).filter fun v=>match v with | .int d=>b.testBit (m+d.toNat) | _=>false).map fun v=>match v with | .int d=>V.int ((m:Int)+d) | _=>.non))
  walk_at "d"
  refine⟨l,D,_,_,rfl,rfl,s3 _ _ t2,BR,?_,?_⟩
  ·rw[List.length_map,List.length_map]
   refine Nat.le_trans (Nat.add_le_add (cu _ _) (List.length_filter_le _ _)) ?_
   rw[List.length_map,List.length_range]
   exact Nat.le_trans (show m+Int.toNat 256≤200000 by have:Int.toNat 256=256:=rfl;omega) (by decide)
  walk_at "d"
  refine⟨Hu hl (s2.trans s3),?_,_,_,rfl,by omega⟩
  rw[BR,show Int.toNat 256=256 from rfl,Y6,show 256*(i+1)=m+256 by omega]
 ·rintro σ' H2 ⟨s2,t2,c,c',rfl,_⟩
  walk_at "d"
  refine q l _ hl s2 ?_
  rw[t2]
  unfold dli
  obtain⟨k,hk⟩:∃k,256*((n-1)/256+1).toNat=n.toNat+k:=⟨256*((n-1)/256+1).toNat-n.toNat,by omega⟩
  rw[hk,nj hb]
theorem Ht:BV ["turn","size","bits","width"] ["turn","size"] (Ao Q4):=by walk_at "s"
theorem aL{f:Addr}{fd:FuncData}(F:Fun K "bits_by" "bits_by" Q4 f fd)(c_full_bits:Cal P w K mg base 1 "full_bits" ["size"] Ku):Bu P w K mg base CX0 2 f fd ["turn","size"] (GR K):=by
 refine F.ok (k:=1) Ht (fun vs H Q E h=>?_) (fun cdv A outer s H vs Q E hr h=>?_)
 ·obtain⟨a,n,z,b,rfl,_⟩:=h
  rfl
 obtain⟨a,n,z,b,rfl,hS,h0,h1,hb,z0,z1,q⟩:=h
 refine⟨_,(Ab (BK (i:=2) Ht.nd rfl (by walk_at "o") (Bp Bm (pv 0) Ai (fun _ _=>rfl)))
  (Ab (BK (i:=3) Ht.nd rfl (by walk_at "o") (Bp Bm (pv 0) Ai (fun _ _=>rfl)))
  (Ab (Ie PassesOwn.never (BL GX (pv 3) (pv 1) (Bd _))
   (Ab (BK (i:=2) Ht.nd rfl (by walk_at "o") (BP Ye (pv 2) (BP QB (pv 2) (pv 3))))
  (Ag (BK (i:=3) Ht.nd rfl (by walk_at "o") (BP Dd (pv 3) Ai)))))
  (Ag (BZ (BP Lw (pv 2) (Br c_full_bits (hr.mono (by decide)) rfl (Aa (pv 1) Ac)))))))),?_⟩
 walk_at "d"
 refine Bj hS at1 ?_
 walk_at "d"
 refine Bj hS at0 ?_
 walk_at "d"
 refine⟨fun m σ' H'=>H'=H∧∃wd c:Nat,σ'=[some (.ref a),some (.int z),some (.int (c:Int)),some (.int (wd:Int))]∧n.toNat∣wd∧0<wd∧wd≤300000∧Rb n.toNat b wd c∧m=z.toNat-wd,
  ⟨_,rfl,n.toNat,b,?_,Nat.dvd_refl _,by omega,by omega,Rb.start hb,rfl⟩,?_⟩
 ·have e:((n.toNat:Nat):Int)=n:=by omega
  rw[e]
  rfl
 rintro m σ' H' ⟨rfl,wd,c,rfl,hd,w0,w1,S,rfl⟩
 walk_at "d"
 refine Ca (fun cc=>?_) (fun cc=>?_)
 ·refine⟨_,fun σ' H' hh=>hh,?_⟩
  walk_at "d"
  refine Ew ⟨by omega,wd,Kd S.lt,by omega⟩ ?_
  walk_at "d"
  refine Ew ⟨20,2,Kd (by omega),(by unfold Bt;decide),by decide⟩ ?_
  walk_at "d"
  rw[Int.toNat_natCast,Tu,G9]
  refine⟨z.toNat-wd*2,by omega,rfl,wd*2,c ||| (c <<< wd),?_,Nat.dvd_trans hd (Nat.dvd_mul_right _ _),by omega,by omega,S.dbl hd,rfl⟩
  rfl
 ·walk_at "d"
  refine⟨z,rfl,by omega,by omega,?_⟩
  walk_at "d"
  rw[Et]
  exact q _ (S.cut (by omega))
theorem Wz:BV ["turn","size"] ["turn","size"] (Ao La):=by walk_at "s"
theorem Xa{f:Addr}{fd:FuncData}(F:Fun K "stretched" "stretched" La f fd)(er:Dr K mg Aw Af Ad BW Be Al Ah An Az CZ DP Ax Av Ba Ay Bl Bc Ak Aq CJ Bq CN CK Bb Ar Aj Ae Bf BX Am)(c_refuse_below_one:CQ P w K mg base 1 "refuse_below_one" ["number"] (Gv Af))(c_refuse_too_long:CQ P w K mg base 3 "refuse_too_long" ["size"] (GK Ad))(c_bits_by:Cal P w K mg base 2 "bits_by" ["turn","size"] (GR K)):Bu P w K mg base (CX1 P w) 4 f fd ["turn","size"] (Fp K Af Ad):=by
 refine F.okE (k:=3) Wz (fun vs H Q E h=>?_) (fun cdv A outer s H vs Q E hr h T=>?_)
 ·obtain⟨a,n,z,b,rfl,_⟩:=h
  rfl
 obtain⟨a,n,z,b,rfl,hS,h0,h1,hb,hz,qs,qn,ql⟩:=h
 refine⟨_,(Ab (CT (Bg T c_refuse_below_one (hr.mono (by decide)) rfl (Aa (pv 1) Ac)))
  (Ab (CG (BL QC (BP Eg (pv 1) (Bp Bm (pv 0) Ai (fun _ _=>rfl))) Ai (Bd _))
   (Ag (Ef T rfl er.x_NoNumber rfl (Aa BJ Ac)))
   Bh)
  (Ab (CT (Bg T c_refuse_too_long (hr.mono (by decide)) rfl (Aa (pv 1) Ac)))
  (Ag (BZ (Bv (Aa (pv 1) (Aa (Br c_bits_by (hr.mono (by decide)) rfl (Aa (pv 0) (Aa (pv 1) Ac))) Ac)))))))),?_⟩
 walk_at "x"
 refine⟨z,rfl,fun z0=>?_,fun z0=>qn (.inl z0)⟩
 walk_at "x"
 refine Bj hS at0 ?_
 refine Ew h0 ?_
 walk_at "x"
 by_cases hd:z%n=0
 ·have hd':n∣z:=Int.dvd_of_emod_eq_zero hd
  rw[hd]
  refine QQ rfl ?_
  walk_at "x"
  refine⟨z,rfl,hz,fun z1=>?_,fun z1=>ql z0 hd' z1⟩
  walk_at "x"
  refine⟨a,n,z,b,rfl,hS,h0,by omega,hb,by omega,z1,fun c S=>?_⟩
  walk_at "x"
  exact⟨Dz,fun p hp=>qs z0 hd' z1 p c hp S⟩
 ·refine QR (fun q=>hd (V.int.inj q)) ?_
  walk_at "x"
  exact⟨(by show 1≤sizeLine;decide),(qn (.inr fun q=>hd (Int.emod_eq_zero_of_dvd q))).here⟩
theorem K5:BV ["one","other","size"] ["one","other"] (Ao JQ):=by walk_at "s"
theorem Us{f:Addr}{fd:FuncData}(F:Fun K "common_size" "common_size" JQ f fd)(c_common:CQ P w K mg base 3 "common" ["one","other"] (Jc Af))(c_refuse_too_long:CQ P w K mg base 3 "refuse_too_long" ["size"] (GK Ad)):Bu P w K mg base (CX1 P w) 4 f fd ["one","other"] (PK K Ad):=by
 refine F.okE (k:=3) K5 (fun vs H Q E h=>?_) (fun cdv A outer s H vs Q E hr h T=>?_)
 ·obtain⟨a1,a2,n1,n2,b1,b2,rfl,_⟩:=h
  rfl
 obtain⟨a1,a2,n1,n2,b1,b2,rfl,W,q,ql⟩:=h
 have p1:=W.p1
 have p2:=W.p2
 have l1:=W.l1
 have l2:=W.l2
 refine⟨_,(Ab (BK (i:=2) K5.nd rfl (by walk_at "o") (Bg T c_common (hr.mono (by decide)) rfl (Aa (Bp Bm (pv 0) Ai (fun _ _=>rfl)) (Aa (Bp Bm (pv 1) Ai (fun _ _=>rfl)) Ac))))
  (Ab (CT (Bg T c_refuse_too_long (hr.mono (by decide)) rfl (Aa (pv 2) Ac)))
  (Ag (BZ (pv 2))))),?_⟩
 walk_at "x"
 refine Bj W.s1 at0 ?_
 walk_at "x"
 refine Bj W.s2 at0 ?_
 walk_at "x"
 refine⟨n1,n2,rfl,DY (by omega) (by omega) (by decide),DY (by omega) (by omega) (by decide),fun _ _ H1 s1=>?_,fun z=>absurd (show 1≤n1∧1≤n2 by omega) z⟩
 walk_at "x"
 refine⟨_,rfl,W.bt,fun lz=>?_,fun lz=>(ql lz).later s1⟩
 walk_at "x"
 exact q lz _ s1
theorem Gy:BV ["bits","fields","width","each_second"] ["bits"] (Ao Qx):=by walk_at "s"
theorem aF{f:Addr}{fd:FuncData}(F:Fun K "ones_in" "ones_in" Qx f fd)(c_bits_by:Cal P w K mg base 2 "bits_by" ["turn","size"] (GR K))(c_full_bits:Cal P w K mg base 1 "full_bits" ["size"] Ku):Bu P w K mg base CX0 3 f fd ["bits"] Zj:=by
 refine F.ok (k:=2) Gy (fun vs H Q E h=>?_) (fun cdv A outer s H vs Q E hr h=>?_)
 ·obtain⟨b,n,rfl,_⟩:=h
  rfl
 obtain⟨b,n,rfl,hb,hn,q⟩:=h
 refine⟨_,(Ab (BK (i:=1) Gy.nd rfl (by walk_at "o") (pv 0))
  (Ab (BK (i:=2) Gy.nd rfl (by walk_at "o") Ai)
  (Ab (Ie PassesOwn.never (BL GZ (BP Uj (pv 1) (pv 2)) Ai (Bd _))
   (Ab (BK (i:=3) Gy.nd rfl (by walk_at "o") (Br c_bits_by (hr.mono (by decide)) rfl (Aa (Bv (Aa (BP Dd Ai (pv 2)) (Aa (Br c_full_bits (hr.mono (by decide)) rfl (Aa (pv 2) Ac)) Ac))) (Aa (rG PySem.F.plainAttrs_int PySem.F.slot_int_bit_length PySem.F.type_int_bit_length mz (pv 1)) Ac))))
  (Ab (BK (i:=1) Gy.nd rfl (by walk_at "o") (BP Dj (BP Lw (pv 1) (pv 3)) (BP Lw (BP Uj (pv 1) (pv 2)) (pv 3))))
  (Ag (BK (i:=2) Gy.nd rfl (by walk_at "o") (BP Dd Ai (pv 2)))))))
  (Ag (BZ (pv 1)))))),?_⟩
 walk_at "d"
 refine⟨fun m σ' H'=>Bo H H'∧∃f w:Nat,∃x:Option V,σ'=[some (.int (b:Int)),some (.int (f:Int)),some (.int (w:Int)),x]∧0<w∧w≤300000∧f<2^n∧Dg w f (cnt b n)∧m=n-w,
  ⟨_,Bo.refl _,b,1,none,rfl,by decide,by decide,hb,Dg.start n b hb,rfl⟩,?_⟩
 rintro m σ' H1 ⟨s1,f,w,x,rfl,w0,w1,hf,D,rfl⟩
 walk_at "d"
 refine Ew (show (0:Int)≤(w:Int) by omega) ?_
 walk_at "d"
 rw[Int.toNat_natCast,Ky]
 refine Ca (fun cc=>?_) (fun cc=>?_)
 ·have f1:2^w≤f:=by
   have h1:0<f >>> w:=by omega
   rw[Nat.shiftRight_eq_div_pow] at h1
   exact Nat.le_of_not_lt fun z=>by rw[Nat.div_eq_of_lt z] at h1;omega
  have wn:w<n:=by
   refine Nat.lt_of_not_le fun z=>?_
   have:=Nat.pow_le_pow_right (show 0<2 by decide) z
   omega
  have f0:f≠0:=by have:=Nat.two_pow_pos w;omega
  have l1:f<2^(f.log2+1):=Nat.lt_log2_self
  have l2:f.log2+1≤n:=by
   have:=Nat.log2_self_le f0
   refine Nat.lt_of_not_le fun z=>?_
   have:=Nat.pow_le_pow_right (show 0<2 by decide) z
   omega
  refine⟨_,fun σ' H' hh=>hh,?_⟩
  walk_at "d"
  refine Ew ⟨3,20,(by unfold Bt;decide),Kd (by omega),by decide⟩ ?_
  walk_at "d"
  refine⟨(w:Int),rfl,by omega,by omega,?_⟩
  walk_at "d"
  rw[Int.toNat_natCast,show(2:Int)*(w:Int)=((2*w:Nat):Int) by omega]
  refine⟨Dz,fun p hp=>?_⟩
  have s2:=Bk hp (.tup [.int ((2*w:Nat):Int),.int ((2^w-1:Nat):Int)])
  have t2:upd H1 p (.tup [.int ((2*w:Nat):Int),.int ((2^w-1:Nat):Int)]) p=some (.tup [.int ((2*w:Nat):Int),.int ((2^w-1:Nat):Int)]):=BR
  generalize upd H1 p (.tup [.int ((2*w:Nat):Int),.int ((2^w-1:Nat):Int)])=H2 at s2 t2 ⊢
  walk_at "d"
  rw[Yz f0]
  walk_at "d"
  refine⟨p,_,_,_,rfl,SqT.of t2,by omega,by omega,?_,by omega,by omega,fun c S=>?_⟩
  ·rw[Int.toNat_natCast]
   have:=Nat.pow_le_pow_right (show 0<2 by decide) (show w≤2*w by omega)
   have:=Nat.two_pow_pos w
   omega
  rw[Int.toNat_natCast,show(((f.log2+1:Nat):Int)).toNat=f.log2+1 by omega] at S
  walk_at "d"
  refine Ew (show (0:Int)≤(w:Int) by omega) ?_
  walk_at "d"
  refine Ew ⟨3,20,(by unfold Bt;decide),Kd (by omega),by decide⟩ ?_
  walk_at "d"
  have E1:=cg w0 l1 S 0
  have E2:=cg w0 l1 S w
  rw[Nat.pow_zero,Nat.div_one] at E1
  obtain⟨d1,d2⟩:=D.pair w0 E1 E2
  rw[Int.toNat_natCast,Ky,Nat.shiftRight_eq_div_pow,Et,Et]
  refine⟨n-2*w,by omega,s1.trans s2,(f &&& c)+(f/2^w &&& c),2*w,some (.int (c:Int)),?_,by omega,by omega,by omega,d1,rfl⟩
  rw[Int.natCast_add]
  rfl
 ·have fl:f<2^w:=by
   have h1:f >>> w=0:=Nat.eq_zero_of_not_pos fun z=>cc (Int.natCast_pos.mpr z)
   rw[Nat.shiftRight_eq_div_pow] at h1
   exact Nat.lt_of_not_le fun z=>by
    have:=(Nat.le_div_iff_mul_le (Nat.two_pow_pos w)).mpr (show 1*2^w≤f by omega)
    omega
  walk_at "d"
  rw[D.last fl]
  exact q _ s1
theorem NK:BV ["turn","day","part"] ["turn","day"] (Ao J5):=by walk_at "s"
theorem Vi{f:Addr}{fd:FuncData}(F:Fun K "days_ahead" "days_ahead" J5 f fd)(c_full_bits:Cal P w K mg base 1 "full_bits" ["size"] Ku)(c_ones_in:Cal P w K mg base 3 "ones_in" ["bits"] Zj):Bu P w K mg base CX0 4 f fd ["turn","day"] (Wv K):=by
 refine F.ok (k:=3) NK (fun vs H Q E h=>?_) (fun cdv A outer s H vs Q E hr h=>?_)
 ·obtain⟨a,n,d,b,rfl,_⟩:=h
  rfl
 obtain⟨a,n,d,b,rfl,hS,h0,h1,hb,bd,q⟩:=h
 have m0:=Int.emod_nonneg d (show n≠0 by omega)
 have m1:=Int.emod_lt_of_pos d h0
 refine⟨_,(Ab (BK (i:=2) NK.nd rfl (by walk_at "o") (BP Lw (Bp Bm (pv 0) Ai (fun _ _=>rfl)) (Br c_full_bits (hr.mono (by decide)) rfl (Aa (BP Eg (pv 1) (Bp Bm (pv 0) Ai (fun _ _=>rfl))) Ac))))
  (Ag (BZ (BP Dj (BP Dd (BP Df (pv 1) (Bp Bm (pv 0) Ai (fun _ _=>rfl))) (Br c_ones_in (hr.mono (by decide)) rfl (Aa (Bp Bm (pv 0) Ai (fun _ _=>rfl)) Ac))) (Br c_ones_in (hr.mono (by decide)) rfl (Aa (pv 2) Ac)))))),?_⟩
 walk_at "d"
 refine Bj hS at1 ?_
 walk_at "d"
 refine Bj hS at0 ?_
 refine Ew h0 ?_
 walk_at "d"
 refine⟨d%n,rfl,m0,by omega,?_⟩
 walk_at "d"
 rw[Et]
 refine Bj hS at0 ?_
 walk_at "d"
 refine Ew (Kc h0 (by omega)) ?_
 walk_at "d"
 refine Bj hS at1 ?_
 walk_at "d"
 refine⟨b,n.toNat,rfl,hb,by omega,fun H1 s1=>?_⟩
 have cl:=j6 b n.toNat
 refine Ew ⟨260,20,tL bd h0,Kd (by omega),by decide⟩ ?_
 walk_at "d"
 refine⟨_,(d%n).toNat,rfl,MN _ _,by omega,fun H2 s2=>?_⟩
 walk_at "d"
 rw[ZF (c:=b) fun i hi=>QX _ _ _ hi]
 exact q _ (s1.trans s2)
theorem YL:BV ["turn","first","end"] ["turn","first","end"] (Ao N5):=by walk_at "s"
theorem Ym{f:Addr}{fd:FuncData}(F:Fun K "how_many" "how_many" N5 f fd)(c_days_ahead:Cal P w K mg base 4 "days_ahead" ["turn","day"] (Wv K)):Bu P w K mg base CX0 5 f fd ["turn","first","end"] (Zk K):=by
 refine F.ok (k:=4) YL (fun vs H Q E h=>?_) (fun cdv A outer s H vs Q E hr h=>?_)
 ·obtain⟨a,n,f',e,b,rfl,_⟩:=h
  rfl
 obtain⟨a,n,f',e,b,rfl,hS,h0,h1,hb,b1,b2,q⟩:=h
 refine⟨_,(Ag (BZ (BP Ei (Br c_days_ahead (hr.mono (by decide)) rfl (Aa (pv 0) (Aa (pv 2) Ac))) (Br c_days_ahead (hr.mono (by decide)) rfl (Aa (pv 0) (Aa (pv 1) Ac)))))),?_⟩
 walk_at "d"
 refine⟨a,n,e,b,rfl,hS,h0,h1,hb,b2.mono (by decide),fun H1 s1=>?_⟩
 walk_at "d"
 refine⟨a,n,f',b,rfl,s1.tup hS,h0,h1,hb,b1.mono (by decide),fun H2 s2=>?_⟩
 walk_at "d"
 exact q _ (s1.trans s2)
theorem bN:BV ["one","other","size"] ["one","other"] (Ao Z2):=by walk_at "s"
theorem mY{f:Addr}{fd:FuncData}(F:Fun K "both" "both" Z2 f fd)(c_common_size:CQ P w K mg base 4 "common_size" ["one","other"] (PK K Ad))(c_bits_by:Cal P w K mg base 2 "bits_by" ["turn","size"] (GR K)):Bu P w K mg base (CX1 P w) 5 f fd ["one","other"] (Fz K Ad):=by
 refine F.okE (k:=4) bN (fun vs H Q E h=>?_) (fun cdv A outer s H vs Q E hr h T=>?_)
 ·obtain⟨a1,a2,n1,n2,b1,b2,rfl,_⟩:=h
  rfl
 obtain⟨a1,a2,n1,n2,b1,b2,rfl,W,q,ql⟩:=h
 have fl:=DG W.p1 W.p2
 have l1:=W.l1
 have l2:=W.l2
 refine⟨_,(Ab (BK (i:=2) bN.nd rfl (by walk_at "o") (Bg T c_common_size (hr.mono (by decide)) rfl (Aa (pv 0) (Aa (pv 1) Ac))))
  (Ag (BZ (Bv (Aa (pv 2) (Aa (BP Lw (Br c_bits_by (hr.mono (by decide)) rfl (Aa (pv 0) (Aa (pv 2) Ac))) (Br c_bits_by (hr.mono (by decide)) rfl (Aa (pv 1) (Aa (pv 2) Ac)))) Ac)))))),?_⟩
 walk_at "x"
 refine⟨a1,a2,n1,n2,b1,b2,rfl,W,fun lz H1 s1=>?_,fun e=>ql e⟩
 walk_at "x"
 refine⟨a1,n1,_,b1,rfl,s1.tup W.s1,W.p1,(by omega),W.k1,fl.1,lz,fun c1 T1=>?_⟩
 walk_at "x"
 refine⟨a2,n2,_,b2,rfl,s1.tup W.s2,W.p2,(by omega),W.k2,fl.1,lz,fun c2 T2=>?_⟩
 walk_at "x"
 rw[Et]
 refine⟨Dz,fun p hp=>?_⟩
 exact q lz p _ _ (s1.trans (Bk hp _)) BR (Nat.and_lt_two_pow _ T2.lt)
theorem Vw:BV ["one","other","size"] ["one","other"] (Ao Jh):=by walk_at "s"
theorem eG{f:Addr}{fd:FuncData}(F:Fun K "either" "either" Jh f fd)(c_common_size:CQ P w K mg base 4 "common_size" ["one","other"] (PK K Ad))(c_bits_by:Cal P w K mg base 2 "bits_by" ["turn","size"] (GR K)):Bu P w K mg base CX0 5 f fd ["one","other"] (Ec K):=by
 refine F.ok (k:=4) Vw (fun vs H Q E h=>?_) (fun cdv A outer s H vs Q E hr h=>?_)
 ·obtain⟨a1,a2,n1,n2,b1,b2,rfl,_⟩:=h
  rfl
 obtain⟨a1,a2,n1,n2,b1,b2,rfl,W,lz,q⟩:=h
 have fl:=DG W.p1 W.p2
 have l1:=W.l1
 have l2:=W.l2
 refine⟨_,(Ab (BK (i:=2) Vw.nd rfl (by walk_at "o") (Bg Hn c_common_size (hr.mono (by decide)) rfl (Aa (pv 0) (Aa (pv 1) Ac))))
  (Ag (BZ (Bv (Aa (pv 2) (Aa (BP Ye (Br c_bits_by (hr.mono (by decide)) rfl (Aa (pv 0) (Aa (pv 2) Ac))) (Br c_bits_by (hr.mono (by decide)) rfl (Aa (pv 1) (Aa (pv 2) Ac)))) Ac)))))),?_⟩
 walk_at "x"
 refine⟨a1,a2,n1,n2,b1,b2,rfl,W,fun _ H1 s1=>?_,fun e=>absurd e (by omega)⟩
 walk_at "x"
 refine⟨a1,n1,_,b1,rfl,s1.tup W.s1,W.p1,(by omega),W.k1,fl.1,lz,fun c1 T1=>?_⟩
 walk_at "x"
 refine⟨a2,n2,_,b2,rfl,s1.tup W.s2,W.p2,(by omega),W.k2,fl.1,lz,fun c2 T2=>?_⟩
 walk_at "x"
 rw[G9]
 refine⟨Dz,fun p hp=>?_⟩
 exact q p _ _ (s1.trans (Bk hp _)) BR (Nat.or_lt_two_pow T1.lt T2.lt)
theorem Vv:BV ["one","other","size"] ["one","other"] (Ao Jg):=by walk_at "s"
theorem eF{f:Addr}{fd:FuncData}(F:Fun K "unlike" "unlike" Jg f fd)(c_common_size:CQ P w K mg base 4 "common_size" ["one","other"] (PK K Ad))(c_bits_by:Cal P w K mg base 2 "bits_by" ["turn","size"] (GR K)):Bu P w K mg base CX0 5 f fd ["one","other"] (Ec K):=by
 refine F.ok (k:=4) Vv (fun vs H Q E h=>?_) (fun cdv A outer s H vs Q E hr h=>?_)
 ·obtain⟨a1,a2,n1,n2,b1,b2,rfl,_⟩:=h
  rfl
 obtain⟨a1,a2,n1,n2,b1,b2,rfl,W,lz,q⟩:=h
 have fl:=DG W.p1 W.p2
 have l1:=W.l1
 have l2:=W.l2
 refine⟨_,(Ab (BK (i:=2) Vv.nd rfl (by walk_at "o") (Bg Hn c_common_size (hr.mono (by decide)) rfl (Aa (pv 0) (Aa (pv 1) Ac))))
  (Ag (BZ (Bv (Aa (pv 2) (Aa (BP Z9 (Br c_bits_by (hr.mono (by decide)) rfl (Aa (pv 0) (Aa (pv 2) Ac))) (Br c_bits_by (hr.mono (by decide)) rfl (Aa (pv 1) (Aa (pv 2) Ac)))) Ac)))))),?_⟩
 walk_at "x"
 refine⟨a1,a2,n1,n2,b1,b2,rfl,W,fun _ H1 s1=>?_,fun e=>absurd e (by omega)⟩
 walk_at "x"
 refine⟨a1,n1,_,b1,rfl,s1.tup W.s1,W.p1,(by omega),W.k1,fl.1,lz,fun c1 T1=>?_⟩
 walk_at "x"
 refine⟨a2,n2,_,b2,rfl,s1.tup W.s2,W.p2,(by omega),W.k2,fl.1,lz,fun c2 T2=>?_⟩
 walk_at "x"
 rw[Oq]
 refine⟨Dz,fun p hp=>?_⟩
 exact q p _ _ (s1.trans (Bk hp _)) BR (Nat.xor_lt_two_pow T1.lt T2.lt)
theorem PN:BV ["one","other","size"] ["one","other"] (Ao K8):=by walk_at "s"
theorem XM{f:Addr}{fd:FuncData}(F:Fun K "unlike" "unlike" K8 f fd)(c_common_size:CQ P w K mg base 4 "common_size" ["one","other"] (PK K Ad))(c_bits_by:Cal P w K mg base 2 "bits_by" ["turn","size"] (GR K)):Bu P w K mg base (CX1 P w) 5 f fd ["one","other"] (Fz K Ad):=by
 refine F.okE (k:=4) PN (fun vs H Q E h=>?_) (fun cdv A outer s H vs Q E hr h T=>?_)
 ·obtain⟨a1,a2,n1,n2,b1,b2,rfl,_⟩:=h
  rfl
 obtain⟨a1,a2,n1,n2,b1,b2,rfl,W,q,ql⟩:=h
 have fl:=DG W.p1 W.p2
 have l1:=W.l1
 have l2:=W.l2
 refine⟨_,(Ab (BK (i:=2) PN.nd rfl (by walk_at "o") (Bg T c_common_size (hr.mono (by decide)) rfl (Aa (pv 0) (Aa (pv 1) Ac))))
  (Ag (BZ (Bv (Aa (pv 2) (Aa (BP Z9 (Br c_bits_by (hr.mono (by decide)) rfl (Aa (pv 0) (Aa (pv 2) Ac))) (Br c_bits_by (hr.mono (by decide)) rfl (Aa (pv 1) (Aa (pv 2) Ac)))) Ac)))))),?_⟩
 walk_at "x"
 refine⟨a1,a2,n1,n2,b1,b2,rfl,W,fun lz H1 s1=>?_,fun e=>ql e⟩
 walk_at "x"
 refine⟨a1,n1,_,b1,rfl,s1.tup W.s1,W.p1,(by omega),W.k1,fl.1,lz,fun c1 T1=>?_⟩
 walk_at "x"
 refine⟨a2,n2,_,b2,rfl,s1.tup W.s2,W.p2,(by omega),W.k2,fl.1,lz,fun c2 T2=>?_⟩
 walk_at "x"
 rw[Oq]
 refine⟨Dz,fun p hp=>?_⟩
 exact q lz p _ _ (s1.trans (Bk hp _)) BR (Nat.xor_lt_two_pow T1.lt T2.lt)
theorem Vb:BV ["turn"] ["turn"] (Ao J4):=by walk_at "s"
theorem Vh{f:Addr}{fd:FuncData}(F:Fun K "other_days" "other_days" J4 f fd)(c_full_bits:Cal P w K mg base 1 "full_bits" ["size"] Ku):Bu P w K mg base CX0 2 f fd ["turn"] (Mi K):=by
 refine F.ok (k:=1) Vb (fun vs H Q E h=>?_) (fun cdv A outer s H vs Q E hr h=>?_)
 ·obtain⟨a,n,b,rfl,_⟩:=h
  rfl
 obtain⟨a,n,b,rfl,S,n0,n1,hb,q⟩:=h
 refine⟨_,(Ag (BZ (Bv (Aa (Bp Bm (pv 0) Ai (fun _ _=>rfl)) (Aa (BP Z9 (Bp Bm (pv 0) Ai (fun _ _=>rfl)) (Br c_full_bits (hr.mono (by decide)) rfl (Aa (Bp Bm (pv 0) Ai (fun _ _=>rfl)) Ac))) Ac))))),?_⟩
 walk_at "d"
 refine Bj S at0 ?_
 walk_at "d"
 refine Bj S at1 ?_
 walk_at "d"
 refine Bj S at0 ?_
 walk_at "d"
 refine⟨n,rfl,by omega,by omega,?_⟩
 walk_at "d"
 rw[Oq]
 refine⟨Dz,fun p hp=>q p _ hp ?_ fun i hi=>?_⟩
 ·exact Nat.xor_lt_two_pow hb (by have:=Nat.two_pow_pos n.toNat;omega)
 ·rw[Nat.testBit_xor,Nat.testBit_two_pow_sub_one]
  simp[hi]
theorem Zv:BV ["one","other"] ["one","other"] (Ao Qv):=by walk_at "s"
theorem aC{f:Addr}{fd:FuncData}(F:Fun K "without" "without" Qv f fd)(c_both:CQ P w K mg base 5 "both" ["one","other"] (Fz K Ad))(c_other_days:Cal P w K mg base 2 "other_days" ["turn"] (Mi K)):Bu P w K mg base CX0 6 f fd ["one","other"] (Ec K):=by
 refine F.ok (k:=5) Zv (fun vs H Q E h=>?_) (fun cdv A outer s H vs Q E hr h=>?_)
 ·obtain⟨a1,a2,n1,n2,b1,b2,rfl,_⟩:=h
  rfl
 obtain⟨a1,a2,n1,n2,b1,b2,rfl,W,lz,q⟩:=h
 refine⟨_,(Ag (BZ (Bg Hn c_both (hr.mono (by decide)) rfl (Aa (pv 0) (Aa (Br c_other_days (hr.mono (by decide)) rfl (Aa (pv 1) Ac)) Ac))))),?_⟩
 walk_at "x"
 refine⟨a2,n2,b2,rfl,W.s2,W.p2,W.l2,W.k2,fun p c hp hc hbit=>?_⟩
 walk_at "x"
 refine⟨a1,p,n1,n2,b1,c,rfl,⟨(Bk hp _).tup W.s1,SqT.of BR,W.p1,W.p2,W.l1,W.l2,W.k1,hc⟩,fun _ p3 c3 H3 s3 hp3 B=>?_,fun e=>absurd e (by omega)⟩
 exact q p3 c3 H3 ((Bk hp _).trans s3) hp3 B
theorem VR:BV ["one","other"] ["one","other"] (Ao J1):=by walk_at "s"
theorem Ve{f:Addr}{fd:FuncData}(F:Fun K "without" "without" J1 f fd)(c_both:CQ P w K mg base 5 "both" ["one","other"] (Fz K Ad))(c_other_days:Cal P w K mg base 2 "other_days" ["turn"] (Mi K)):Bu P w K mg base (CX1 P w) 6 f fd ["one","other"] (Fz K Ad):=by
 refine F.okE (k:=5) VR (fun vs H Q E h=>?_) (fun cdv A outer s H vs Q E hr h T=>?_)
 ·obtain⟨a1,a2,n1,n2,b1,b2,rfl,_⟩:=h
  rfl
 obtain⟨a1,a2,n1,n2,b1,b2,rfl,W,q,ql⟩:=h
 refine⟨_,(Ag (BZ (Bg T c_both (hr.mono (by decide)) rfl (Aa (pv 0) (Aa (Br c_other_days (hr.mono (by decide)) rfl (Aa (pv 1) Ac)) Ac))))),?_⟩
 walk_at "x"
 refine⟨a2,n2,b2,rfl,W.s2,W.p2,W.l2,W.k2,fun p c hp hc hbit=>?_⟩
 walk_at "x"
 refine⟨a1,p,n1,n2,b1,c,rfl,⟨(Bk hp _).tup W.s1,SqT.of BR,W.p1,W.p2,W.l1,W.l2,W.k1,hc⟩,fun lz p3 c3 H3 s3 hp3 B=>?_,fun e=>(ql e).later (Bk hp _)⟩
 exact q lz p3 c3 H3 ((Bk hp _).trans s3) hp3 B
theorem T4:BV ["turn","number","shift","bits"] ["turn","number"] (Ao W6):=by walk_at "s"
theorem jT{f:Addr}{fd:FuncData}(F:Fun K "later" "later" W6 f fd)(c_full_bits:Cal P w K mg base 1 "full_bits" ["size"] Ku):Bu P w K mg base CX0 2 f fd ["turn","number"] (Ju K):=by
 refine F.ok (k:=1) T4 (fun vs H Q E h=>?_) (fun cdv A outer s H vs Q E hr h=>?_)
 ·obtain⟨a,n,num,b,rfl,_⟩:=h
  rfl
 obtain⟨a,n,num,b,rfl,hS,h0,h1,hb,q⟩:=h
 refine⟨_,(Ab (BK (i:=2) T4.nd rfl (by walk_at "o") (BP Eg (pv 1) (Bp Bm (pv 0) Ai (fun _ _=>rfl))))
  (Ab (BK (i:=3) T4.nd rfl (by walk_at "o") (BP Ye (BP QB (Bp Bm (pv 0) Ai (fun _ _=>rfl)) (pv 2)) (BP Uj (Bp Bm (pv 0) Ai (fun _ _=>rfl)) (BP Ei (Bp Bm (pv 0) Ai (fun _ _=>rfl)) (pv 2)))))
  (Ag (BZ (Bv (Aa (Bp Bm (pv 0) Ai (fun _ _=>rfl)) (Aa (BP Lw (pv 3) (Br c_full_bits (hr.mono (by decide)) rfl (Aa (Bp Bm (pv 0) Ai (fun _ _=>rfl)) Ac))) Ac))))))),?_⟩
 have m0:=Int.emod_nonneg num (show n≠0 by omega)
 have m1:=Int.emod_lt_of_pos num h0
 walk_at "d"
 refine Bj hS at0 ?_
 refine Ew h0 ?_
 walk_at "d"
 refine Bj hS at1 ?_
 walk_at "d"
 refine Ew ⟨m0,n.toNat,Kd hb,by omega⟩ ?_
 walk_at "d"
 refine Bj hS at1 ?_
 walk_at "d"
 refine Bj hS at0 ?_
 walk_at "d"
 refine Ew (show (0:Int)≤n-num%n by omega) ?_
 walk_at "d"
 refine Bj hS at0 ?_
 walk_at "d"
 refine Bj hS at0 ?_
 walk_at "d"
 refine⟨n,rfl,by omega,by omega,?_⟩
 walk_at "d"
 have e:(n-num%n).toNat=n.toNat-(num%n).toNat:=by omega
 rw[Tu,Ky,G9,Et,e]
 refine⟨(by show 2≤sizeLine;decide),fun p hp=>?_⟩
 exact q p hp
theorem Fd:BV ["turn","barred","step","join","told","free","stride"] ["turn","barred","step","join"] (Ao N6):=by walk_at "s"
theorem Yn{f:Addr}{fd:FuncData}(F:Fun K "gathered" "gathered" N6 f fd)(c_other_days:Cal P w K mg base 2 "other_days" ["turn"] (Mi K))(c_both:CQ P w K mg base 5 "both" ["one","other"] (Fz K Ad))(c_later:Cal P w K mg base 2 "later" ["turn","number"] (Ju K))(c_either:Cal P w K mg base 5 "either" ["one","other"] (Ec K))(c_unlike:Cal P w K mg base 5 "unlike" ["one","other"] (Ec K))(z_abs:mg "abs"=none):Bu P w K mg base CX0 6 f fd ["turn","barred","step","join"] (PB K mg [("either",Ec K),("unlike",Ec K)]):=by
 refine F.ok (k:=5) Fd (fun vs H Q E h=>?_) (fun cdv A outer s H vs Q E hr h=>?_)
 ·obtain⟨a1,a2,f',n,e,b,c,x,rfl,_⟩:=h
  rfl
 obtain⟨a1,a2,f',n,e,b,c,x,rfl,hxj,hmg,S1,S2,n0,n1,hb,hc,he,q⟩:=h
 refine⟨_,(Ab (BK (i:=4) Fd.nd rfl (by walk_at "o") (pv 0))
  (Ab (BK (i:=5) Fd.nd rfl (by walk_at "o") (Br c_other_days (hr.mono (by decide)) rfl (Aa (pv 1) Ac)))
  (Ab (BK (i:=6) Fd.nd rfl (by walk_at "o") (pv 2))
  (Ab (Ie PassesOwn.never (BL GX (CW ZJ rfl z_abs PyProof.Rows.boot_abs (Aa (pv 6) Ac)) (Bp Bm (pv 0) Ai (fun _ _=>rfl)) (Bd _))
   (Ab (BK (i:=4) Fd.nd rfl (by walk_at "o") (mO (i:=3) (k:=5) (Qa.cons c_either (Qa.cons c_unlike Qa.nil)) (hr.mono (by decide)) rfl (by first | exact Or.inl rfl | exact Or.inr (Or.inl rfl) | exact Or.inr (Or.inr rfl)) (Aa (pv 4) (Aa (Bg Hn c_both (hr.mono (by decide)) rfl (Aa (Br c_later (hr.mono (by decide)) rfl (Aa (pv 4) (Aa (pv 6) Ac))) (Aa (pv 5) Ac))) Ac))))
  (Ab (BK (i:=5) Fd.nd rfl (by walk_at "o") (Bg Hn c_both (hr.mono (by decide)) rfl (Aa (pv 5) (Aa (Br c_later (hr.mono (by decide)) rfl (Aa (pv 5) (Aa (pv 6) Ac))) Ac))))
  (Ag (BK (i:=6) Fd.nd rfl (by walk_at "o") (BP Dd Ai (pv 6)))))))
  (Ag (BZ (pv 4))))))),?_⟩
 walk_at "x"
 refine⟨a2,n,c,rfl,S2,n0,n1,hc,fun pf fc hpf lf bf=>?_⟩
 have s1:=Bk hpf (.tup [.int n,.int (fc:Int)])
 have t1:upd H pf (.tup [.int n,.int (fc:Int)]) pf=some (.tup [.int n,.int (fc:Int)]):=BR
 generalize upd H pf (.tup [.int n,.int (fc:Int)])=H1 at s1 t1 ⊢
 have ls:=lcm_self n0
 walk_at "x"
 refine⟨fun m σ' H'=>Bo H H'∧∃(pt pf:Addr) (g fr k:Nat),0<k∧k≤300000∧H' pt=some (.tup [.int n,.int (g:Int)])∧SqT K H' pf [.int n,.int (fr:Int)]∧g<2^n.toNat∧fr<2^n.toNat∧
  σ'=[some (.ref a1),some (.ref a2),some (.int e),some (.ref f'),some (.ref pt),some (.ref pf),some (.int (e*(k:Int)))]∧m=n.toNat-k,
  ⟨_,s1,a1,pf,b,fc,1,by decide,by decide,s1 _ _ S1,SqT.of t1,hb,lf,(by rw[show e*((1:Nat):Int)=e by omega];rfl),rfl⟩,?_⟩
 rintro m σ' H2 ⟨s2,pt,pf,g,fr,k,k0,k1,Tt,Tf,lg,lfr,rfl,rfl⟩
 have ek:(e*(k:Int)).natAbs=k:=by rcases he with h | h<;>rw[h]<;>omega
 walk_at "x"
 refine⟨_,rfl,?_⟩
 walk_at "x"
 refine Bj (SqT.of (s2 _ _ S1)) at0 ?_
 walk_at "x"
 have mulb:∀x:Int,e*x=x∨e*x= -x:=fun x=>by rcases he with h | h<;>rw[h]<;>omega
 refine Ca (fun hlt=>?_) (fun hge=>?_)
 ·have kn:(k:Int)<n:=by
   have:=mulb k
   split at hlt<;>omega
  refine⟨fun σ' H'=>∃m',m'<n.toNat-k∧Bo H H'∧∃(pt pf:Addr) (g fr k:Nat),0<k∧k≤300000∧H' pt=some (.tup [.int n,.int (g:Int)])∧SqT K H' pf [.int n,.int (fr:Int)]∧g<2^n.toNat∧fr<2^n.toNat∧
   σ'=[some (.ref a1),some (.ref a2),some (.int e),some (.ref f'),some (.ref pt),some (.ref pf),some (.int (e*(k:Int)))]∧m'=n.toNat-k,fun σ' H' hh=>hh,?_⟩
  walk_at "x"
  refine iU rfl hxj hmg ?_
  walk_at "x"
  refine⟨pt,n,_,g,rfl,SqT.of Tt,n0,n1,lg,fun p1 h1=>?_⟩
  have s3:=Bk h1 (.tup [.int n,.int ((lat n.toNat g (e*(k:Int)%n).toNat:Nat):Int)])
  have t3:upd H2 p1 (.tup [.int n,.int ((lat n.toNat g (e*(k:Int)%n).toNat:Nat):Int)]) p1=some _:=BR
  generalize upd H2 p1 (.tup [.int n,.int ((lat n.toNat g (e*(k:Int)%n).toNat:Nat):Int)])=H3 at s3 t3 ⊢
  walk_at "x"
  refine⟨p1,pf,n,n,_,fr,rfl,⟨SqT.of t3,s3.tup Tf,n0,n0,n1,n1,RX _ _ _,lfr⟩,fun _ p2 c2 H4 s4 t4 B2=>?_,fun e=>absurd e (by rw[ls];omega)⟩
  rw[ls] at t4 B2
  walk_at "x"
  refine⟨pt,p2,n,n,g,c2,rfl,⟨SqT.of (s4 _ _ (s3 _ _ Tt)),SqT.of t4,n0,n0,n1,n1,lg,B2⟩,(by rw[ls];exact n1),fun p3 c3 H5 s5 t5 B3=>?_⟩
  rw[ls] at t5 B3
  walk_at "x"
  refine⟨pf,n,_,fr,rfl,s5.tup (s4.tup (s3.tup Tf)),n0,n1,lfr,fun p4 h4=>?_⟩
  have s6:=Bk h4 (.tup [.int n,.int ((lat n.toNat fr (e*(k:Int)%n).toNat:Nat):Int)])
  have t6:upd H5 p4 (.tup [.int n,.int ((lat n.toNat fr (e*(k:Int)%n).toNat:Nat):Int)]) p4=some _:=BR
  generalize upd H5 p4 (.tup [.int n,.int ((lat n.toNat fr (e*(k:Int)%n).toNat:Nat):Int)])=H6 at s6 t6 ⊢
  walk_at "x"
  refine⟨pf,p4,n,n,fr,_,rfl,⟨s6.tup (s5.tup (s4.tup (s3.tup Tf))),SqT.of t6,n0,n0,n1,n1,lfr,RX _ _ _⟩,fun _ p5 c5 H7 s7 t7 B5=>?_,fun e=>absurd e (by rw[ls];omega)⟩
  rw[ls] at t7 B5
  walk_at "x"
  refine Ew ⟨2,20,Kd (by decide),(by show(e*(k:Int)).natAbs<2^20;rw[ek];omega),by decide⟩ ?_
  walk_at "x"
  refine⟨n.toNat-2*k,by omega,s2.trans (s3.trans (s4.trans (s5.trans (s6.trans s7)))),p3,p5,c3,c5,2*k,by omega,by omega,s7 _ _ (s6 _ _ t5),SqT.of t7,B3,B5,?_,rfl⟩
  ·have:e*((2*k:Nat):Int)=2*(e*(k:Int)):=by rw[Int.natCast_mul,Int.mul_left_comm];rfl
   rw[this]
   rfl
 ·have kn:n.toNat≤k:=by
   have:=mulb k
   split at hge<;>omega
  walk_at "x"
  exact q pt g H2 s2 Tt lg
theorem Wx:BV ["R","S","size","days"] ["R","S"] (Ao Z0):=by walk_at "s"
theorem mW{f:Addr}{fd:FuncData}(F:Fun K "upon" "upon" Z0 f fd)(c_common_size:CQ P w K mg base 4 "common_size" ["one","other"] (PK K Ad))(c_stretched:CQ P w K mg base 4 "stretched" ["turn","size"] (Fp K Af Ad))(c_both:CQ P w K mg base 5 "both" ["one","other"] (Fz K Ad))(c_gathered:Cal P w K mg base 6 "gathered" ["turn","barred","step","join"] (PB K mg [("either",Ec K),("unlike",Ec K)]))(c_later:Cal P w K mg base 2 "later" ["turn","number"] (Ju K))(c_either:Cal P w K mg base 5 "either" ["one","other"] (Ec K)){fv_either:Addr}(v_either:mg "either"=some (.ref fv_either)):Bu P w K mg base (CX1 P w) 7 f fd ["R","S"] (Fz K Ad):=by
 refine F.okE (k:=6) Wx (fun vs H Q E h=>?_) (fun cdv A outer s H vs Q E hr h T=>?_)
 ·obtain⟨a1,a2,n1,n2,b1,b2,rfl,_⟩:=h
  rfl
 obtain⟨a1,a2,n1,n2,b1,b2,rfl,W,q,ql⟩:=h
 have fl:=DG W.p1 W.p2
 have bz:=W.bt
 refine⟨_,(Ab (BK (i:=2) Wx.nd rfl (by walk_at "o") (Bg T c_common_size (hr.mono (by decide)) rfl (Aa (pv 0) (Aa (pv 1) Ac))))
  (Ab (BK (i:=3) Wx.nd rfl (by walk_at "o") (Bg T c_stretched (hr.mono (by decide)) rfl (Aa (pv 0) (Aa (pv 2) Ac))))
  (Ag (BZ (Bg T c_both (hr.mono (by decide)) rfl (Aa (pv 3) (Aa (Br c_gathered (hr.mono (by decide)) rfl (Aa (Bg T c_stretched (hr.mono (by decide)) rfl (Aa (pv 1) (Aa (pv 2) Ac))) (Aa (Br c_later (hr.mono (by decide)) rfl (Aa (pv 3) (Aa Ai Ac))) (Aa Ai (Aa (DR rfl v_either (Sw _)) Ac))))) Ac))))))),?_⟩
 walk_at "x"
 refine⟨a1,a2,n1,n2,b1,b2,rfl,W,fun lz H1 s1=>?_,fun e=>ql e⟩
 replace q:=q lz
 clear ql
 generalize hz:DN n1 n2=z at*
 have z0:=fl.1
 have d1:n1∣z:=fl.2.1
 have d2:n2∣z:=fl.2.2.1
 have ls:=lcm_self z0
 walk_at "x"
 refine⟨a1,n1,z,b1,rfl,s1.tup W.s1,W.p1,W.l1,W.k1,bz,fun _ _ _ pr cr hr1 Sr=>?_,(fun e=>e.elim (fun e=>absurd e (by omega)) (fun e=>absurd d1 e)),(fun _ _ e=>absurd e (by omega))⟩
 have s2:=Bk hr1 (.tup [.int z,.int (cr:Int)])
 have t2:upd H1 pr (.tup [.int z,.int (cr:Int)]) pr=some (.tup [.int z,.int (cr:Int)]):=BR
 generalize upd H1 pr (.tup [.int z,.int (cr:Int)])=H2 at s2 t2 ⊢
 walk_at "x"
 refine⟨a2,n2,z,b2,rfl,s2.tup (s1.tup W.s2),W.p2,W.l2,W.k2,bz,fun _ _ _ ps cs hs1 Ss=>?_,(fun e=>e.elim (fun e=>absurd e (by omega)) (fun e=>absurd d2 e)),(fun _ _ e=>absurd e (by omega))⟩
 have s3:=Bk hs1 (.tup [.int z,.int (cs:Int)])
 have t3:upd H2 ps (.tup [.int z,.int (cs:Int)]) ps=some (.tup [.int z,.int (cs:Int)]):=BR
 generalize upd H2 ps (.tup [.int z,.int (cs:Int)])=H3 at s3 t3 ⊢
 walk_at "x"
 refine⟨pr,z,_,cr,rfl,s3.tup (SqT.of t2),z0,lz,Sr.lt,fun pl hl1=>?_⟩
 have s4:=Bk hl1 (.tup [.int z,.int ((lat z.toNat cr (1%z).toNat:Nat):Int)])
 have t4:upd H3 pl (.tup [.int z,.int ((lat z.toNat cr (1%z).toNat:Nat):Int)]) pl=some _:=BR
 generalize upd H3 pl (.tup [.int z,.int ((lat z.toNat cr (1%z).toNat:Nat):Int)])=H4 at s4 t4 ⊢
 walk_at "x"
 refine⟨ps,pl,_,z,1,cs,_,_,rfl,List.mem_cons_self,v_either,s4 _ _ t3,SqT.of t4,z0,lz,Ss.lt,RX _ _ _,.inl rfl,fun pg g H5 s5 t5 lg=>?_⟩
 walk_at "x"
 refine⟨pr,pg,z,z,cr,g,rfl,⟨s5.tup (s4.tup (s3.tup (SqT.of t2))),SqT.of t5,z0,z0,lz,lz,Sr.lt,lg⟩,fun _ p c H6 s6 t6 B=>?_,fun e=>absurd e (by rw[ls];omega)⟩
 rw[ls] at t6 B
 exact q p c H6 (s1.trans (s2.trans (s3.trans (s4.trans (s5.trans s6))))) t6 B
theorem Tw:BV ["R","S","size","days"] ["R","S"] (Ao W5):=by walk_at "s"
theorem jR{f:Addr}{fd:FuncData}(F:Fun K "until" "until" W5 f fd)(c_common_size:CQ P w K mg base 4 "common_size" ["one","other"] (PK K Ad))(c_stretched:CQ P w K mg base 4 "stretched" ["turn","size"] (Fp K Af Ad))(c_both:CQ P w K mg base 5 "both" ["one","other"] (Fz K Ad))(c_gathered:Cal P w K mg base 6 "gathered" ["turn","barred","step","join"] (PB K mg [("either",Ec K),("unlike",Ec K)]))(c_later:Cal P w K mg base 2 "later" ["turn","number"] (Ju K))(c_either:Cal P w K mg base 5 "either" ["one","other"] (Ec K)){fv_either:Addr}(v_either:mg "either"=some (.ref fv_either)):Bu P w K mg base (CX1 P w) 7 f fd ["R","S"] (Fz K Ad):=by
 refine F.okE (k:=6) Tw (fun vs H Q E h=>?_) (fun cdv A outer s H vs Q E hr h T=>?_)
 ·obtain⟨a1,a2,n1,n2,b1,b2,rfl,_⟩:=h
  rfl
 obtain⟨a1,a2,n1,n2,b1,b2,rfl,W,q,ql⟩:=h
 have fl:=DG W.p1 W.p2
 have bz:=W.bt
 refine⟨_,(Ab (BK (i:=2) Tw.nd rfl (by walk_at "o") (Bg T c_common_size (hr.mono (by decide)) rfl (Aa (pv 0) (Aa (pv 1) Ac))))
  (Ab (BK (i:=3) Tw.nd rfl (by walk_at "o") (Bg T c_stretched (hr.mono (by decide)) rfl (Aa (pv 0) (Aa (pv 2) Ac))))
  (Ag (BZ (Bg T c_both (hr.mono (by decide)) rfl (Aa (pv 3) (Aa (Br c_gathered (hr.mono (by decide)) rfl (Aa (Bg T c_stretched (hr.mono (by decide)) rfl (Aa (pv 1) (Aa (pv 2) Ac))) (Aa (Br c_later (hr.mono (by decide)) rfl (Aa (pv 3) (Aa (Ls Ho Ai) Ac))) (Aa (Ls Ho Ai) (Aa (DR rfl v_either (Sw _)) Ac))))) Ac))))))),?_⟩
 walk_at "x"
 refine⟨a1,a2,n1,n2,b1,b2,rfl,W,fun lz H1 s1=>?_,fun e=>ql e⟩
 replace q:=q lz
 clear ql
 generalize hz:DN n1 n2=z at*
 have z0:=fl.1
 have d1:n1∣z:=fl.2.1
 have d2:n2∣z:=fl.2.2.1
 have ls:=lcm_self z0
 walk_at "x"
 refine⟨a1,n1,z,b1,rfl,s1.tup W.s1,W.p1,W.l1,W.k1,bz,fun _ _ _ pr cr hr1 Sr=>?_,(fun e=>e.elim (fun e=>absurd e (by omega)) (fun e=>absurd d1 e)),(fun _ _ e=>absurd e (by omega))⟩
 have s2:=Bk hr1 (.tup [.int z,.int (cr:Int)])
 have t2:upd H1 pr (.tup [.int z,.int (cr:Int)]) pr=some (.tup [.int z,.int (cr:Int)]):=BR
 generalize upd H1 pr (.tup [.int z,.int (cr:Int)])=H2 at s2 t2 ⊢
 walk_at "x"
 refine⟨a2,n2,z,b2,rfl,s2.tup (s1.tup W.s2),W.p2,W.l2,W.k2,bz,fun _ _ _ ps cs hs1 Ss=>?_,(fun e=>e.elim (fun e=>absurd e (by omega)) (fun e=>absurd d2 e)),(fun _ _ e=>absurd e (by omega))⟩
 have s3:=Bk hs1 (.tup [.int z,.int (cs:Int)])
 have t3:upd H2 ps (.tup [.int z,.int (cs:Int)]) ps=some (.tup [.int z,.int (cs:Int)]):=BR
 generalize upd H2 ps (.tup [.int z,.int (cs:Int)])=H3 at s3 t3 ⊢
 walk_at "x"
 refine⟨pr,z,_,cr,rfl,s3.tup (SqT.of t2),z0,lz,Sr.lt,fun pl hl1=>?_⟩
 have s4:=Bk hl1 (.tup [.int z,.int ((lat z.toNat cr (-1%z).toNat:Nat):Int)])
 have t4:upd H3 pl (.tup [.int z,.int ((lat z.toNat cr (-1%z).toNat:Nat):Int)]) pl=some _:=BR
 generalize upd H3 pl (.tup [.int z,.int ((lat z.toNat cr (-1%z).toNat:Nat):Int)])=H4 at s4 t4 ⊢
 walk_at "x"
 refine⟨ps,pl,_,z,-1,cs,_,_,rfl,List.mem_cons_self,v_either,s4 _ _ t3,SqT.of t4,z0,lz,Ss.lt,RX _ _ _,.inr rfl,fun pg g H5 s5 t5 lg=>?_⟩
 walk_at "x"
 refine⟨pr,pg,z,z,cr,g,rfl,⟨s5.tup (s4.tup (s3.tup (SqT.of t2))),SqT.of t5,z0,z0,lz,lz,Sr.lt,lg⟩,fun _ p c H6 s6 t6 B=>?_,fun e=>absurd e (by rw[ls];omega)⟩
 rw[ls] at t6 B
 exact q p c H6 (s1.trans (s2.trans (s3.trans (s4.trans (s5.trans s6))))) t6 B
theorem Jz:BV ["number","R","S","size","step","ends","days","place","odd"] ["number","R","S"] (Ao iB):=by walk_at "s"
theorem rO{f:Addr}{fd:FuncData}(F:Fun K "kth" "kth" iB f fd)(er:Dr K mg Aw Af Ad BW Be Al Ah An Az CZ DP Ax Av Ba Ay Bl Bc Ak Aq CJ Bq CN CK Bb Ar Aj Ae Bf BX Am)(c_common_size:CQ P w K mg base 4 "common_size" ["one","other"] (PK K Ad))(c_stretched:CQ P w K mg base 4 "stretched" ["turn","size"] (Fp K Af Ad))(c_later:Cal P w K mg base 2 "later" ["turn","number"] (Ju K))(c_both:CQ P w K mg base 5 "both" ["one","other"] (Fz K Ad))(c_gathered:Cal P w K mg base 6 "gathered" ["turn","barred","step","join"] (PB K mg [("either",Ec K),("unlike",Ec K)]))(c_unlike:Cal P w K mg base 5 "unlike" ["one","other"] (Ec K))(c_without:Cal P w K mg base 6 "without" ["one","other"] (Ec K))(c_upon:CQ P w K mg base 7 "upon" ["R","S"] (Fz K Ad))(c_until:CQ P w K mg base 7 "until" ["R","S"] (Fz K Ad))(z_abs:mg "abs"=none){fv_unlike:Addr}(v_unlike:mg "unlike"=some (.ref fv_unlike)):Bu P w K mg base (CX1 P w) 8 f fd ["number","R","S"] (Zn K Af Ad):=by
 refine F.okE (k:=7) Jz (fun vs H Q E h=>?_) (fun cdv A outer s H vs Q E hr h T=>?_)
 ·obtain⟨k,a1,a2,n1,n2,b1,b2,rfl,_⟩:=h
  rfl
 obtain⟨k,a1,a2,n1,n2,b1,b2,rfl,W,q0,q,ql⟩:=h
 have fl:=DG W.p1 W.p2
 have bz:=W.bt
 refine⟨_,(Ab (CG (BL Cg (pv 0) Ai (Bd _))
  (Ag (Ef T rfl er.x_NoNumber rfl (Aa BJ Ac)))
  Bh)
  (Ab (BK (i:=3) Jz.nd rfl (by walk_at "o") (Bg T c_common_size (hr.mono (by decide)) rfl (Aa (pv 1) (Aa (pv 2) Ac))))
  (Ab (Fi (BK (i:=4) Jz.nd rfl (by walk_at "o") (FW (BL GZ (pv 0) Ai (Bd _)) Ai (Ls Ho Ai))))
  (Ab (Fi (BK (i:=5) Jz.nd rfl (by walk_at "o") (FW (BL GZ (pv 0) Ai (Bd _)) (Bg T c_stretched (hr.mono (by decide)) rfl (Aa (pv 2) (Aa (pv 3) Ac))) (Br c_later (hr.mono (by decide)) rfl (Aa (Bg T c_stretched (hr.mono (by decide)) rfl (Aa (pv 2) (Aa (pv 3) Ac))) (Aa (Ls Ho Ai) Ac))))))
  (Ab (BK (i:=6) Jz.nd rfl (by walk_at "o") (Bg T c_stretched (hr.mono (by decide)) rfl (Aa (pv 1) (Aa (pv 3) Ac))))
  (Ab (BK (i:=7) Jz.nd rfl (by walk_at "o") (CW ZJ rfl z_abs PyProof.Rows.boot_abs (Aa (pv 0) Ac)))
  (Ab (Ie (by first | exact PassesOwn.leaving | exact PassesOwn.looking | with_unfolding_all passes_own) (PW.pt (XF (BL GZ (pv 7) Ai (Bd _)) (Sx (BL GZ (Bp Bm (pv 6) Ai (fun _ _=>rfl)) Ai (Bd _)))))
   (Ab (BK (i:=8) Jz.nd rfl (by walk_at "o") (Bg T c_both (hr.mono (by decide)) rfl (Aa (pv 6) (Aa (Br c_gathered (hr.mono (by decide)) rfl (Aa (pv 6) (Aa (pv 5) (Aa (pv 4) (Aa (DR rfl v_unlike (Sw _)) Ac))))) Ac))))
  (Ab (Fi (BK (i:=6) Jz.nd rfl (by walk_at "o") (FW (BL Cg (BP Eg (pv 7) Ai) Ai (Bd _)) (pv 8) (Br c_without (hr.mono (by decide)) rfl (Aa (pv 6) (Aa (pv 8) Ac))))))
  (Ag (BK (i:=7) Jz.nd rfl (by walk_at "o") (BP Df (BP Dj (pv 7) Ai) Ai))))))
  (Ag (BZ (FW (BL GZ (pv 0) Ai (Bd _)) (Bg T c_upon (hr.mono (by decide)) rfl (Aa (pv 6) (Aa (pv 5) Ac))) (Bg T c_until (hr.mono (by decide)) rfl (Aa (pv 6) (Aa (pv 5) Ac))))))))))))),?_⟩
 walk_at "x"
 refine Ca (fun c=>?_) (fun c=>?_)
 ·walk_at "x"
  exact⟨(by show 1≤sizeLine;decide),q0 (by injection c) _ (Bo.refl _)⟩
 have k0:k≠0:=fun z=>c (by rw[z])
 walk_at "x"
 refine⟨a1,a2,n1,n2,b1,b2,rfl,W,fun lz H1 s1=>?_,fun e=>ql k0 e⟩
 replace q:=q k0 lz
 clear ql q0
 generalize hz:DN n1 n2=z at*
 have z0:=fl.1
 have d1:n1∣z:=fl.2.1
 have d2:n2∣z:=fl.2.2.1
 have ls:=lcm_self z0
 have str2:∀(H':Hp) (Q':VK) (E':XK),Bo H H'→(∀(p:Addr) (c:Nat),H' p=none→c<2^z.toNat→Q' (.ref p) (upd H' p (.tup [.int z,.int (c:Int)])))→Fp K Af Ad ([.ref a2,.int z]++[]) H' Q' E':=fun H' Q' E' s hq=>
  ⟨a2,n2,z,b2,rfl,s.tup W.s2,W.p2,W.l2,W.k2,bz,fun _ _ _ p c hp S=>hq p c hp S.lt,(fun e=>e.elim (fun e=>absurd e (by omega)) (fun e=>absurd d2 e)),(fun _ _ e=>absurd e (by omega))⟩
 walk_at "x"
 obtain⟨e,he⟩:∃e:Int,(0<k→e=1)∧(¬0<k→e= -1):=⟨if 0<k then 1 else -1,fun c=>if_pos c,fun c=>if_neg c⟩
 have he':e=1∨e= -1:=by
  by_cases c:0<k
  ·exact .inl (he.1 c)
  ·exact .inr (he.2 c)
 refine Eh (fun σ' H'=>σ'=[some (.int k),some (.ref a1),some (.ref a2),some (.int z),some (.int e),none,none,none,none]∧H'=H1) ?_ ?_
 ·walk_at "x"
  refine Ca (fun c=>?_) (fun c=>?_)
  ·rw[he.1 c]
   walk_at "x"
   exact⟨rfl,rfl⟩
  ·rw[he.2 c]
   walk_at "x"
   exact⟨rfl,rfl⟩
 rintro σ' H1' ⟨rfl,rfl⟩
 walk_at "x"
 refine Eh (fun σ' H'=>∃(pe:Addr) (ce:Nat),σ'=[some (.int k),some (.ref a1),some (.ref a2),some (.int z),some (.int e),some (.ref pe),none,none,none]∧Bo H1' H'∧H' pe=some (.tup [.int z,.int (ce:Int)])∧ce<2^z.toNat) ?_ ?_
 ·walk_at "x"
  refine Ca (fun c=>?_) (fun c=>?_)
  ·walk_at "x"
   refine str2 _ _ _ s1 fun ps cs hs1 Ss=>?_
   walk_at "x"
   exact⟨ps,cs,rfl,Bk hs1 _,BR,Ss⟩
  ·walk_at "x"
   refine str2 _ _ _ s1 fun ps cs hs1 Ss=>?_
   walk_at "x"
   refine⟨ps,z,-1,cs,rfl,SqT.of BR,z0,lz,Ss,fun p hp=>?_⟩
   walk_at "x"
   exact⟨p,_,rfl,(Bk hs1 _).trans (Bk hp _),BR,RX _ _ _⟩
 rintro σ' H2 ⟨pe,ce,rfl,s2,t2,lce⟩
 walk_at "x"
 refine⟨a1,n1,z,b1,rfl,s2.tup (s1.tup W.s1),W.p1,W.l1,W.k1,bz,fun _ _ _ pr cr hr1 Sr=>?_,(fun e=>e.elim (fun e=>absurd e (by omega)) (fun e=>absurd d1 e)),(fun _ _ e=>absurd e (by omega))⟩
 have s3:=Bk hr1 (.tup [.int z,.int (cr:Int)])
 have t3:upd H2 pr (.tup [.int z,.int (cr:Int)]) pr=some (.tup [.int z,.int (cr:Int)]):=BR
 generalize upd H2 pr (.tup [.int z,.int (cr:Int)])=H3 at s3 t3 ⊢
 walk_at "x"
 refine⟨_,rfl,?_⟩
 obtain⟨p0,hp0⟩:∃p0:Int,(if k<0 then -k else k)=p0:=⟨_,rfl⟩
 have ap:p0=(k.natAbs:Int):=by split at hp0<;>omega
 rw[hp0]
 walk_at "x"
 refine⟨fun m σ' H'=>Bo H3 H'∧∃(pd:Addr) (t:Nat) (p:Int) (od:Option V),1≤p∧p≤p0∧H' pd=some (.tup [.int z,.int (t:Int)])∧t<2^z.toNat∧
  σ'=[some (.int k),some (.ref a1),some (.ref a2),some (.int z),some (.int e),some (.ref pe),some (.ref pd),some (.int p),od]∧m=p.toNat,
  ⟨_,Bo.refl _,pr,cr,p0,none,by omega,by omega,t3,Sr.lt,rfl,rfl⟩,?_⟩
 rintro m σ' H4 ⟨s4,pd,t,p,od,p1,pp,td,lt,rfl,rfl⟩
 walk_at "x"
 have te:=s4 _ _ (s3 _ _ t2)
 have last:∀(Q':VK) (E':XK),(∀(p':Addr) (c':Nat) (H':Hp),Bo H4 H'→H' p'=some (.tup [.int z,.int (c':Int)])→c'<2^z.toNat→Q' (.ref p') H')→Fz K Ad ([.ref pd,.ref pe]++[]) H4 Q' E':=fun Q' E' hq=>
  ⟨pd,pe,z,z,t,ce,rfl,⟨SqT.of td,SqT.of te,z0,z0,lz,lz,lt,lce⟩,fun _ p' c' H' s' t' lc'=>by rw[ls] at t' lc';exact hq p' c' H' s' t' lc',fun e=>absurd e (by rw[ls];omega)⟩
 have fin:∀p' (c':Nat) H',Bo H4 H'→H' p'=some (.tup [.int z,.int (c':Int)])→c'<2^z.toNat→Q (.ref p') H':=fun p' c' H' s' t' lc'=>q p' c' H' (s1.trans (s2.trans (s3.trans (s4.trans s')))) t' lc'
 refine Ca (fun hp=>?_) (fun hp=>?_)
 ·walk_at "x"
  refine Bj (SqT.of td) at1 ?_
  walk_at "x"
  refine Ca (fun ht=>?_) (fun ht=>?_)
  ·refine⟨fun σ' H'=>∃m',m'<p.toNat∧Bo H3 H'∧∃(pd:Addr) (t:Nat) (p:Int) (od:Option V),1≤p∧p≤p0∧H' pd=some (.tup [.int z,.int (t:Int)])∧t<2^z.toNat∧
   σ'=[some (.int k),some (.ref a1),some (.ref a2),some (.int z),some (.int e),some (.ref pe),some (.ref pd),some (.int p),od]∧m'=p.toNat,fun σ' H' hh=>hh,?_⟩
   walk_at "x"
   refine⟨pd,pe,_,z,e,t,ce,_,rfl,List.mem_cons_of_mem _ List.mem_cons_self,v_unlike,td,SqT.of te,z0,lz,lt,lce,he',fun pg g H5 s5 t5 lg=>?_⟩
   walk_at "x"
   refine⟨pd,pg,z,z,t,g,rfl,⟨s5.tup (SqT.of td),SqT.of t5,z0,z0,lz,lz,lt,lg⟩,fun _ po c H6 s6 t6 B=>?_,fun e=>absurd e (by rw[ls];omega)⟩
   rw[ls] at t6 B
   have td6:=s6 _ _ (s5 _ _ td)
   walk_at "x"
   refine Eh (fun σ' H'=>∃(pn:Addr) (t':Nat),σ'=[some (.int k),some (.ref a1),some (.ref a2),some (.int z),some (.int e),some (.ref pe),some (.ref pn),some (.int p),some (.ref po)]∧Bo H6 H'∧H' pn=some (.tup [.int z,.int (t':Int)])∧t'<2^z.toNat) ?_ ?_
   ·walk_at "x"
    refine Ca (fun o=>?_) (fun o=>?_)
    ·walk_at "x"
     exact⟨po,c,rfl,Bo.refl _,t6,B⟩
    ·walk_at "x"
     refine⟨pd,po,z,z,t,c,rfl,⟨SqT.of td6,SqT.of t6,z0,z0,lz,lz,lt,B⟩,(by rw[ls];exact lz),fun pn t' H7 s7 t7 B7=>?_⟩
     rw[ls] at t7 B7
     walk_at "x"
     exact⟨pn,t',rfl,s7,t7,B7⟩
   rintro σ' H7 ⟨pn,t',rfl,s7,t7,lt'⟩
   walk_at "x"
   exact⟨_,(by omega:((p+1)/2).toNat<p.toNat),s4.trans (s5.trans (s6.trans s7)),pn,t',(p+1)/2,_,by omega,by omega,t7,lt',rfl,rfl⟩
  ·walk_at "x"
   refine Ca (fun c=>?_) (fun c=>?_)
   ·walk_at "x"
    exact last _ _ fin
   ·walk_at "x"
    exact last _ _ fin
 ·refine Hc ?_
  walk_at "x"
  refine Ca (fun c=>?_) (fun c=>?_)
  ·walk_at "x"
   exact last _ _ fin
  ·walk_at "x"
   exact last _ _ fin
theorem K4:BV ["number","R","day","size","days","first","places"] ["number","R","day"] (Ao W7):=by walk_at "s"
theorem jU{f:Addr}{fd:FuncData}(F:Fun K "every" "every" W7 f fd)(c_refuse_below_one:CQ P w K mg base 1 "refuse_below_one" ["number"] (Gv Af))(c_refuse_too_long:CQ P w K mg base 3 "refuse_too_long" ["size"] (GK Ad))(c_days_in:Cal P w K mg base 2 "days_in" ["turn"] (Tq K))(c_how_many:Cal P w K mg base 5 "how_many" ["turn","first","end"] (Zk K))(c_round_by:CQ P w K mg base 4 "round_by" ["size","days"] (Hs K Af Ad))(z_list:mg "list"=none)(z_range:mg "range"=none)(z_len:mg "len"=none):Bu P w K mg base (CX1 P w) 6 f fd ["number","R","day"] (Tn K Af Ad):=by
 refine F.okE (k:=5) K4 (fun vs H Q E h=>?_) (fun cdv A outer s H vs Q E hr h T=>?_)
 ·obtain⟨k,d,a,n,b,rfl,_⟩:=h
  rfl
 obtain⟨k,d,a,n,b,rfl,hS,h0,h1,hb,bd,bk,q0,q,ql⟩:=h
 have bn:Bt 64 n:=DY (by omega) (by omega) (by decide)
 refine⟨_,(Ab (CT (Bg T c_refuse_below_one (hr.mono (by decide)) rfl (Aa (pv 0) Ac)))
  (Ab (BK (i:=3) K4.nd rfl (by walk_at "o") (BP Dd (Bp Bm (pv 1) Ai (fun _ _=>rfl)) (pv 0)))
  (Ab (CT (Bg T c_refuse_too_long (hr.mono (by decide)) rfl (Aa (pv 3) Ac)))
  (Ab (BK (i:=4) K4.nd rfl (by walk_at "o") (Br c_days_in (hr.mono (by decide)) rfl (Aa (pv 1) Ac)))
  (Ab (BK (i:=5) K4.nd rfl (by walk_at "o") (BP Eg (Br c_how_many (hr.mono (by decide)) rfl (Aa (pv 1) (Aa Ai (Aa (pv 2) Ac)))) (pv 0)))
  (Ab (BK (i:=6) K4.nd rfl (by walk_at "o") (Z7 rfl rfl z_list rfl z_range (Aa (pv 5) (Aa (BP Dd (CW Dl rfl z_len PySem.boot_len (Aa (pv 4) Ac)) (pv 0)) (Aa (pv 0) Ac)))))
  (Ag (BZ (Bg T c_round_by (hr.mono (by decide)) rfl (Aa (pv 3) (Aa (Iz rfl (Hl ["number","R","day","size","days","first","places"] ["number","R","day","size","days","first","places"] rfl rfl (by with_unfolding_all rfl) (by decide +kernel) rfl (by decide +kernel) rfl (by decide +kernel) (by walk_at "fm") (by with_unfolding_all rfl) (by with_unfolding_all rfl)) (Pu (pv 6)) (fun _ _ _ _=>Lr) (fun _ _ _ _=>(BP Dj (BP Dd (BP Df (pv 0) (CW VG rfl z_len PySem.boot_len (Aa (pv 5) Ac))) (Bp Ig (pv 2) Ai (fun _ _=>rfl))) (Bp eY (pv 5) (BP Eg (pv 0) (CW VG rfl z_len PySem.boot_len (Aa (pv 5) Ac))) (fun _ _=>rfl))))) Ac))))))))))),?_⟩
 walk_at "x"
 refine⟨k,rfl,fun k1=>?_,fun e=>q0 e⟩
 walk_at "x"
 refine Bj hS at0 ?_
 walk_at "x"
 refine Ew ⟨64,400,bn,bk,by decide⟩ ?_
 walk_at "x"
 refine⟨n*k,rfl,(bn.mul bk).mono (by decide),fun lz=>?_,fun e=>ql k1 e⟩
 replace q:=q k1 lz
 clear ql q0
 have kn:=cL h0 (show 0<k by omega)
 walk_at "x"
 refine⟨a,n,b,rfl,hS,h0,h1,hb,fun ld H1 _ s1 t1=>?_⟩
 have D:=Dn.mk' h0 (jx b n.toNat) (jw (b:=b) h0)
 have len:=cu b n.toNat
 generalize dli b n.toNat=ds at t1 D len
 have hS1:=s1.tup hS
 walk_at "x"
 refine⟨a,n,0,d,b,rfl,hS1,h0,h1,hb,(by unfold Bt;decide),bd,fun H2 s2=>?_⟩
 rw[Qc,Int.sub_zero]
 walk_at "x"
 have f0:=Int.emod_nonneg (CC n b d) (show k≠0 by omega)
 have f1:=Int.emod_lt_of_pos (CC n b d) (show 0<k by omega)
 have t2:=s2 _ _ t1
 have hS2:=s2.tup hS1
 refine⟨ld,_,rfl,.inl (SqL.of t2),?_⟩
 rw[List.length_map]
 walk_at "x"
 refine Ew ⟨64,64,DY (by omega) (by omega) (by decide),DY (by omega) (by omega) (by decide),by decide⟩ ?_
 walk_at "x"
 have mk:(ds.length:Int)*k≤n*k:=Int.mul_le_mul_of_nonneg_right (by omega) (by omega)
 have mk0:0≤(ds.length:Int)*k:=Int.mul_nonneg (by omega) (by omega)
 refine⟨CC n b d%k,(ds.length:Int)*k,k,ds.length,.inl rfl,by omega,by omega,Nj (by omega) (by omega) (by omega) (by omega) (by omega) (by omega),?_,by omega,fun lp hlp=>?_⟩
 ·rw[Pq (by omega)]
  rcases Nat.eq_zero_or_pos ds.length with z | z
  ·rw[z,if_neg (by simp;omega)]
   rfl
  ·have e1:(ds.length:Int)*k-CC n b d%k-1=(k-1-CC n b d%k)+k*((ds.length:Int)-1):=by
    rw[Int.mul_sub,Int.mul_comm k]
    omega
   have e2:k≤(ds.length:Int)*k:=cL (by omega) (by omega)
   rw[if_pos (by omega),e1,Int.add_mul_ediv_left _ _ (by omega),Int.ediv_eq_zero_of_lt (by omega) (by omega)]
   omega
 have s3:=Bk hlp (.lst ((List.range ds.length).map fun(i:Nat)=>V.int (CC n b d%k+(i:Int)*k)))
 have t3:=s3 _ _ t2
 have p3:upd H2 lp (.lst ((List.range ds.length).map fun(i:Nat)=>V.int (CC n b d%k+(i:Int)*k))) lp=some (.lst ((List.range ds.length).map fun(i:Nat)=>V.int (CC n b d%k+(i:Int)*k))):=BR
 have hS3:=s3.tup hS2
 generalize upd H2 lp (.lst ((List.range ds.length).map fun(i:Nat)=>V.int (CC n b d%k+(i:Int)*k)))=H3 at s3 t3 p3 hS3 ⊢
 walk_at "x"
 refine Mq (bW ?_)
 walk_at "x"
 refine⟨lp,rfl,⟨_,SqL.of p3⟩,?_⟩
 refine Mu pZ ?_ (fun D' ys hD'=>(Bk hD' _).seq (SqL.of p3)) (fun _=>true) (fun v=>match v with | .int P=>.int (Kr n ds P) | _=>.non) (fun x hx D' ys Q' hD' h=>h) (fun x hx _ D' ys Q' hD' h=>?_) (fun D' hD'=>?_)
 ·rw[List.length_map,List.length_range]
  exact Nat.lt_of_le_of_lt (show ds.length≤150000 by omega) (by decide)
 ·obtain⟨i,hi,rfl⟩:=List.mem_map.mp hx
  have hi':=List.mem_range.mp hi
  replace h:Q' (.int (Kr n ds (CC n b d%k+(i:Int)*k))) _:=h
  have ik:(i:Int)*k≤(ds.length:Int)*k:=Int.mul_le_mul_of_nonneg_right (by omega) (by omega)
  have ik0:0≤(i:Int)*k:=Int.mul_nonneg (by omega) (by omega)
  generalize hP:CC n b d%k+(i:Int)*k=P at h ⊢
  have m0:=Int.emod_nonneg P (show (ds.length:Int)≠0 by omega)
  have m1:=Int.emod_lt_of_pos P (show (0:Int)<(ds.length:Int) by omega)
  obtain⟨x,hx⟩:∃x,ds[(P%(ds.length:Int)).toNat]?=some x:=⟨_,List.getElem?_eq_getElem (by omega)⟩
  have ed:Kr n ds P=P/(ds.length:Int)*n+x:=by
   unfold Kr
   rw[hx]
   rfl
  rw[ed] at h
  have P0:0≤P:=by omega
  have P1:P/(ds.length:Int)≤P:=Int.ediv_le_self _ P0
  have P2:0≤P/(ds.length:Int):=Int.ediv_nonneg P0 (by omega)
  have t4:=Bk hD' (.lst ys) _ _ t3
  walk_at "x"
  refine⟨ld,_,rfl,.inl (SqL.of t4),?_⟩
  rw[List.length_map]
  walk_at "x"
  refine Ew (Kc (by omega) (by omega)) ?_
  walk_at "x"
  refine Bj ((Bk hD' _).tup hS3) at0 ?_
  refine Ew ⟨64,64,DY (by omega) (by omega) (by decide),bn,by decide⟩ ?_
  walk_at "x"
  refine⟨ld,_,rfl,.inl (SqL.of t4),?_⟩
  rw[List.length_map]
  walk_at "x"
  rw[show P%(ds.length:Int)=(((P%(ds.length:Int)).toNat:Nat):Int) by omega]
  refine Lp (SqL.of t4) (FZ (tQ hx)) ?_
  walk_at "x"
  exact h
 have e:((((List.range ds.length).map fun(i:Nat)=>V.int (CC n b d%k+(i:Int)*k)).filter fun _=>true).map fun v=>match v with | .int P=>V.int (Kr n ds P) | _=>.non)=(((List.range ds.length).map fun(i:Nat)=>Kr n ds (CC n b d%k+(i:Int)*k)).map V.int):=by
  rw[List.filter_eq_self.mpr (fun _ _=>rfl),List.map_map,List.map_map]
  rfl
 rw[e]
 walk_at "x"
 refine⟨D',_,n*k,rfl,SqL.of BR,DY (by omega) (by omega) (by decide),fun _ _ p c H5 s5 t5 B=>?_,fun e=>absurd e (by omega),fun e=>absurd e (by omega)⟩
 refine q p c H5 ((((s1.trans s2).trans s3).trans (Bk hD' _)).trans s5) t5 B.lt fun x=>?_
 rw[B.bit x]
 exact nZ h0 (by omega) D x
theorem Qt:BV ["self","kept","made_of","words"] ["self","kept","made_of","words"] (Ao Ek):=by walk_at "s"
theorem RQ{f:Addr}{fd:FuncData}{ds:Array Value}(F:Jq K "__init__" "Rule.__init__" Ek f fd ds)(er:Dr K mg Aw Af Ad BW Be Al Ah An Az CZ DP Ax Av Ba Ay Bl Bc Ak Aq CJ Bq CN CK Bb Ar Aj Ae Bf BX Am):Bu P w K mg base CX0 1 f fd ["self","kept","made_of","words"] (Gf K Az):=by
 refine F.ok (k:=0) Qt (fun vs H Q E h=>?_) (fun cdv A outer s H vs Q E hr h=>?_)
 ·obtain⟨x,p,pm,pw,C,dx,rfl,_⟩:=h
  rfl
 obtain⟨x,p,pm,pw,C,dx,rfl,hx,R,q⟩:=h
 refine⟨_,(Ab (FP (pv 0) (FW (BL OJ (pv 1) JX (Bd _)) (Bv (Aa Ai (Aa Ai Ac))) (pv 1)) (by rfl))
  (Ab (FP (pv 0) (FW (BL OJ (pv 2) JX (Bd _)) (Bv Ac) (pv 2)) (by rfl))
  (Ag (FP (pv 0) (FW (BL OJ (pv 3) JX (Bd _)) (Bv (Aa BJ Ac)) (pv 3)) (by rfl))))),?_⟩
 walk_at "d"
 refine N8 ?_
 walk_at "d"
 refine⟨rfl,bh (Ck (fun e=>nomatch e) ?_)⟩
 walk_at "d"
 refine⟨x,C,dx,[],rfl,hx,R.cl,R.k,by decide,?_⟩
 walk_at "d"
 refine N8 ?_
 walk_at "d"
 refine⟨rfl,bh (Ck (fun e=>nomatch e) ?_)⟩
 walk_at "d"
 refine⟨x,C,dx,_,rfl,BR,R.cl,R.m,(show 1<1000 by decide),?_⟩
 walk_at "d"
 refine N8 ?_
 walk_at "d"
 refine⟨rfl,bh (Ck (fun e=>nomatch e) ?_)⟩
 walk_at "d"
 refine⟨x,C,dx,_,rfl,BR,R.cl,R.w,(show 2<1000 by decide),?_⟩
 walk_at "d"
 refine q _ (fun y o ne e=>?_) BR
 rw[Bw ne,Bw ne,Bw ne]
 exact e
theorem W3:BV ["self"] ["self"] (Ao Dm):=by walk_at "s"
theorem Xj{k d:Nat}{f:Addr}{fd:FuncData}(F:Fun K "turn" "Rule.turn" Dm f fd)(er:Dr K mg Aw Af Ad BW Be Al Ah An Az CZ DP Ax Av Ba Ay Bl Bc Ak Aq CJ Bq CN CK Bb Ar Aj Ae Bf BX Am)(cr:Hm P w K mg base CX0 k "turn" ["self"] ([Ax,Av,Ba,Ay,Bc,Ak,Aq,Bb,Ar].map fun C=>(C,(spR (Ge K Az [Ax,Av,Ba,Ay,Bc,Ak,Aq,Bb,Ar])) d)))(hk:1≤k):Bu P w K mg base CX0 (k+1) f fd ["self"] ((spR (Ge K Az [Ax,Av,Ba,Ay,Bc,Ak,Aq,Bb,Ar])) (d+1)):=by
 refine F.ok (k:=k) W3 (fun vs H Q E h=>?_) (fun cdv A outer s H vs Q E hr h=>?_)
 ·obtain⟨_,x,n,b,rfl,_⟩:=h
  rfl
 obtain⟨_,x,n,b,rfl,R,q⟩:=h
 obtain⟨C,dx,p,pm,pw,hC,rc,hx,hp⟩:=R.ex
 refine⟨_,(Ag (BZ (Ce (pv 0) (by rfl)))),?_⟩
 walk_at "d"
 exact⟨x,C,dx,_,_,rfl,hx,rc.cl,rc.k,rfl,q p hp⟩
theorem W4:BV ["self"] ["self"] (Ao Do):=by walk_at "s"
theorem Xk{k d:Nat}{f:Addr}{fd:FuncData}(F:Fun K "size" "Rule.size" Do f fd)(er:Dr K mg Aw Af Ad BW Be Al Ah An Az CZ DP Ax Av Ba Ay Bl Bc Ak Aq CJ Bq CN CK Bb Ar Aj Ae Bf BX Am)(cr:Hm P w K mg base CX0 k "size" ["self"] ([Ax,Av,Ba,Ay,Bc,Ak,Aq,Bb,Ar].map fun C=>(C,(spR (O6 K Az [Ax,Av,Ba,Ay,Bc,Ak,Aq,Bb,Ar])) d)))(hk:1≤k):Bu P w K mg base CX0 (k+1) f fd ["self"] ((spR (O6 K Az [Ax,Av,Ba,Ay,Bc,Ak,Aq,Bb,Ar])) (d+1)):=by
 refine F.ok (k:=k) W4 (fun vs H Q E h=>?_) (fun cdv A outer s H vs Q E hr h=>?_)
 ·obtain⟨_,x,n,b,rfl,_⟩:=h
  rfl
 obtain⟨_,x,n,b,rfl,R,q⟩:=h
 obtain⟨C,dx,p,pm,pw,hC,rc,hx,hp⟩:=R.ex
 refine⟨_,(Ag (BZ (Bp Bm (Ce (pv 0) (by rfl)) Ai (fun _ _=>rfl)))),?_⟩
 walk_at "d"
 refine⟨x,C,dx,_,_,rfl,hx,rc.cl,rc.k,rfl,?_⟩
 walk_at "d"
 refine Bj (SqT.of hp) at0 ?_
 exact q
theorem Pb:BV ["step","rest","least_rest"] ["step","rest"] (Ao Lj):=by walk_at "s"
theorem Xh{f:Addr}{fd:FuncData}(F:Fun K "each_text" "each_text" Lj f fd):Bu P w K mg base CX0 1 f fd ["step","rest"] Mj:=by
 refine F.ok (k:=0) Pb (fun vs H Q E h=>?_) (fun cdv A outer s H vs Q E hr h=>?_)
 ·obtain⟨n,r,rfl,_⟩:=h
  rfl
 obtain⟨n,r,rfl,n0,n1,q⟩:=h
 refine⟨_,(Ab (BK (i:=2) Pb.nd rfl (by walk_at "o") (BP Eg (pv 1) (pv 0)))
  (Ag (BZ (Iw (DK BJ (DK (KH hr.toN (pv 0)) (DK BJ (DK (KH hr.toN (pv 2)) Lq)))))))),?_⟩
 walk_at "x"
 try refine Mp ?_
 have m0:=Int.emod_nonneg r (show n≠0 by omega)
 have m1:=Int.emod_lt_of_pos r (show 0<n by omega)
 have g1:=Ke (DY (by omega) (by omega) (by decide):Bt 1900 n) (by decide) (by decide)
 have g2:=Ke (DY (by omega) (by omega) (by decide):Bt 1900 (r%n)) (by decide) (by decide)
 refine Ia 0 (by decide) (by decide) fun l1=>Ua _ l1 (by decide) rfl g1 fun l2=>Ia _ l2 (by decide) fun l3=>Ua _ l3 (by decide) rfl g2 fun l4=>Iv (fits l4 (by decide)) ?_
 refine q _ ?_
 have e0:TL 0 Str.empty:=⟨by decide +kernel,by decide +kernel⟩
 have e1:TL 5 (Str.ofString "each "):=⟨by decide +kernel,by decide +kernel⟩
 have e2:TL 6 (Str.ofString " from "):=⟨by decide +kernel,by decide +kernel⟩
 exact((((e0.app e1).app (TL.int g1)).app e2).app (TL.int g2)).mono (by decide)
theorem Jf:BV ["self","size","rest","kept"] ["self","size","rest"] (Ao Ha):=by walk_at "s"
theorem RV{f:Addr}{fd:FuncData}(F:Fun K "__init__" "Each.__init__" Ha f fd)(er:Dr K mg Aw Af Ad BW Be Al Ah An Az CZ DP Ax Av Ba Ay Bl Bc Ak Aq CJ Bq CN CK Bb Ar Aj Ae Bf BX Am)(c_round_by:CQ P w K mg base 4 "round_by" ["size","days"] (Hs K Af Ad))(c_Rule___init__:VM P w K mg base 1 "Rule" ["self","kept","made_of","words"] (Gf K Az))(c_each_text:Cal P w K mg base 1 "each_text" ["step","rest"] Mj):Bu P w K mg base (CX1 P w) 5 f fd ["self","size","rest"] (gn K Az [Ax,Av,Ba,Ay,Bc,Ak,Aq,Bb,Ar] ⟨An,Af,Al,Ah,Ad⟩ Ax):=by
 refine F.okE (k:=4) Jf (fun vs H Q E h=>?_) (fun cdv A outer s H vs Q E hr h T=>?_)
 ·obtain⟨x,n,r,rfl,_⟩:=h
  rfl
 obtain⟨x,n,r,rfl,bn,br,h⟩:=h
 refine⟨_,(Ab (BK (i:=3) Jf.nd rfl (by walk_at "o") (Bg T c_round_by (hr.mono (by decide)) rfl (Aa (pv 1) (Aa (GC (Aa (pv 2) Ac)) Ac))))
  (Ag (CT (Gm c_Rule___init__ (hr.mono (by decide)) rfl (Aa (pv 0) (Aa (pv 3) (Aa (Bv Ac) (Aa (Bv (Aa (Br c_each_text (hr.mono (by decide)) rfl (Aa (pv 1) (Aa (pv 2) Ac))) Ac)) Ac)))))))),?_⟩
 walk_at "x"
 refine⟨(by show 1≤sizeLine;decide),fun l hl=>?_⟩
 refine fresh hl fun H1 s1 t1=>?_
 have t1:H1 l=some (.lst ([r].map V.int)):=t1
 walk_at "x"
 refine⟨l,[r],n,rfl,SqL.of t1,bn.mono (by decide),fun n0 n1 p b H2 s2 t2 B=>?_,fun n0=>?_,fun n1=>?_⟩
 ·rw[if_neg (by omega)] at h
  obtain⟨⟨dx,hx⟩,q,_⟩:=h.fit
  walk_at "x"
  refine⟨(by show 0≤sizeLine;decide),fun pm hpm=>?_⟩
  refine fresh hpm fun H3 s3 _=>?_
  walk_at "x"
  refine⟨n,r,rfl,by omega,n1,fun z _=>?_⟩
  walk_at "x"
  refine⟨(by show 1≤sizeLine;decide),fun pw hpw=>?_⟩
  refine fresh hpw fun H5 s5 _=>?_
  have s5:=s3.trans s5
  have hx5:=(s1.trans (s2.trans s5)) _ _ hx
  walk_at "x"
  exact⟨x,p,pm,pw,Ax,dx,rfl,hx5,er.rc_Each,fun H' k e=>q n1 b H' (k.pre (s1.trans (s2.trans s5))) (Fy (List.mem_of_getElem? (i:=0) rfl) er.rc_Each hx5 (s5 _ _ t2) k e (by omega) (by omega) B.lt)⟩
 ·rw[if_pos n0] at h
  exact Il.later h.2 s1
 ·rw[if_neg (by omega)] at h
  exact(h.fit.2.2 n1).later s1
theorem Qu:BV ["self","R","S"] ["self","R","S"] (Ao Hb):=by walk_at "s"
theorem RW{f:Addr}{fd:FuncData}(F:Fun K "__init__" "Both.__init__" Hb f fd)(er:Dr K mg Aw Af Ad BW Be Al Ah An Az CZ DP Ax Av Ba Ay Bl Bc Ak Aq CJ Bq CN CK Bb Ar Aj Ae Bf BX Am)(c_Rule___init__:VM P w K mg base 1 "Rule" ["self","kept","made_of","words"] (Gf K Az))(c_both:CQ P w K mg base 5 "both" ["one","other"] (Fz K Ad))(c_Rec_turn:Hm P w K mg base CX0 2 "turn" ["self"] ([Ax,Av,Ba,Ay,Bc,Ak,Aq,Bb,Ar].map fun C=>(C,(spR (Ge K Az [Ax,Av,Ba,Ay,Bc,Ak,Aq,Bb,Ar])) 1))):Bu P w K mg base (CX1 P w) 6 f fd ["self","R","S"] (O9 K Az [Ax,Av,Ba,Ay,Bc,Ak,Aq,Bb,Ar] ⟨An,Af,Al,Ah,Ad⟩ Ay):=by
 refine F.okE (k:=5) Qu (fun vs H Q E h=>?_) (fun cdv A outer s H vs Q E hr h T=>?_)
 ·obtain⟨x,r,t,n1,n2,b1,b2,rfl,_⟩:=h
  rfl
 obtain⟨x,r,t,n1,n2,b1,b2,rfl,R1,R2,h⟩:=h
 obtain⟨⟨dx,hx⟩,q,ql⟩:=h.fit
 have fl:=DG R1.n0 R2.n0
 refine⟨_,(Ag (CT (Gm c_Rule___init__ (hr.mono (by decide)) rfl (Aa (pv 0) (Aa (Bg T c_both (hr.mono (by decide)) rfl (Aa (El c_Rec_turn (hr.mono (by decide)) (pv 1)) (Aa (El c_Rec_turn (hr.mono (by decide)) (pv 2)) Ac))) (Aa (Bv (Aa (pv 1) (Aa (pv 2) Ac))) (Aa (Bv (Aa BJ (Aa BJ (Aa BJ Ac)))) Ac))))))),?_⟩
 walk_at "x"
 obtain⟨C1,dr,fs,m1,hr1,l1,_⟩:=R1.mt
 refine⟨r,C1,dr,fs,_,m1 _,rfl,hr1,l1,?_⟩
 walk_at "x"
 refine⟨Nat.one_pos,r,n1,b1,rfl,R1,fun p hp=>?_⟩
 walk_at "x"
 obtain⟨C2,dr',fs',m2,hr2,l2,_⟩:=R2.mt
 refine⟨t,C2,dr',fs',_,m2 _,rfl,hr2,l2,?_⟩
 walk_at "x"
 refine⟨Nat.one_pos,t,n2,b2,rfl,R2,fun p' hp'=>?_⟩
 walk_at "x"
 refine⟨p,p',n1,n2,b1,b2,rfl,⟨SqT.of hp,SqT.of hp',R1.n0,R2.n0,R1.n1,R2.n1,R1.lt,R2.lt⟩,fun lz p2 c H1 s1 t1 lt=>?_,ql⟩
 walk_at "x"
 refine⟨Dz,fun pm hpm=>?_⟩
 refine fresh hpm fun H2 s2 _=>?_
 walk_at "x"
 refine⟨(by show 3≤sizeLine;decide),fun pw hpw=>?_⟩
 refine fresh hpw fun H3 s3 _=>?_
 have s3:=s2.trans s3
 have hx3:=(s1.trans s3) _ _ hx
 walk_at "x"
 exact⟨x,p2,pm,pw,Ay,dx,rfl,hx3,er.rc_Both,fun H' k e=>q lz c H' (k.pre (s1.trans s3)) (Fy (List.mem_of_getElem? (i:=3) rfl) er.rc_Both hx3 (s3 _ _ t1) k e fl.1 lz lt)⟩
theorem Rx:BV ["self","R","S"] ["self","R","S"] (Ao IW):=by walk_at "s"
theorem SQ{f:Addr}{fd:FuncData}(F:Fun K "__init__" "But.__init__" IW f fd)(er:Dr K mg Aw Af Ad BW Be Al Ah An Az CZ DP Ax Av Ba Ay Bl Bc Ak Aq CJ Bq CN CK Bb Ar Aj Ae Bf BX Am)(c_Rule___init__:VM P w K mg base 1 "Rule" ["self","kept","made_of","words"] (Gf K Az))(c_without_nE:CQ P w K mg base 6 "without" ["one","other"] (Fz K Ad))(c_Rec_turn:Hm P w K mg base CX0 2 "turn" ["self"] ([Ax,Av,Ba,Ay,Bc,Ak,Aq,Bb,Ar].map fun C=>(C,(spR (Ge K Az [Ax,Av,Ba,Ay,Bc,Ak,Aq,Bb,Ar])) 1))):Bu P w K mg base (CX1 P w) 7 f fd ["self","R","S"] (O9 K Az [Ax,Av,Ba,Ay,Bc,Ak,Aq,Bb,Ar] ⟨An,Af,Al,Ah,Ad⟩ Bc):=by
 refine F.okE (k:=6) Rx (fun vs H Q E h=>?_) (fun cdv A outer s H vs Q E hr h T=>?_)
 ·obtain⟨x,r,t,n1,n2,b1,b2,rfl,_⟩:=h
  rfl
 obtain⟨x,r,t,n1,n2,b1,b2,rfl,R1,R2,h⟩:=h
 obtain⟨⟨dx,hx⟩,q,ql⟩:=h.fit
 have fl:=DG R1.n0 R2.n0
 refine⟨_,(Ag (CT (Gm c_Rule___init__ (hr.mono (by decide)) rfl (Aa (pv 0) (Aa (Bg T c_without_nE (hr.mono (by decide)) rfl (Aa (El c_Rec_turn (hr.mono (by decide)) (pv 1)) (Aa (El c_Rec_turn (hr.mono (by decide)) (pv 2)) Ac))) (Aa (Bv (Aa (pv 1) (Aa (pv 2) Ac))) (Aa (Bv (Aa BJ (Aa BJ (Aa BJ Ac)))) Ac))))))),?_⟩
 walk_at "x"
 obtain⟨C1,dr,fs,m1,hr1,l1,_⟩:=R1.mt
 refine⟨r,C1,dr,fs,_,m1 _,rfl,hr1,l1,?_⟩
 walk_at "x"
 refine⟨Nat.one_pos,r,n1,b1,rfl,R1,fun p hp=>?_⟩
 walk_at "x"
 obtain⟨C2,dr',fs',m2,hr2,l2,_⟩:=R2.mt
 refine⟨t,C2,dr',fs',_,m2 _,rfl,hr2,l2,?_⟩
 walk_at "x"
 refine⟨Nat.one_pos,t,n2,b2,rfl,R2,fun p' hp'=>?_⟩
 walk_at "x"
 refine⟨p,p',n1,n2,b1,b2,rfl,⟨SqT.of hp,SqT.of hp',R1.n0,R2.n0,R1.n1,R2.n1,R1.lt,R2.lt⟩,fun lz p2 c H1 s1 t1 lt=>?_,ql⟩
 walk_at "x"
 refine⟨Dz,fun pm hpm=>?_⟩
 refine fresh hpm fun H2 s2 _=>?_
 walk_at "x"
 refine⟨(by show 3≤sizeLine;decide),fun pw hpw=>?_⟩
 refine fresh hpw fun H3 s3 _=>?_
 have s3:=s2.trans s3
 have hx3:=(s1.trans s3) _ _ hx
 walk_at "x"
 exact⟨x,p2,pm,pw,Bc,dx,rfl,hx3,er.rc_But,fun H' k e=>q lz c H' (k.pre (s1.trans s3)) (Fy (List.mem_of_getElem? (i:=4) rfl) er.rc_But hx3 (s3 _ _ t1) k e fl.1 lz lt)⟩
theorem Nm:BV ["self","R","S"] ["self","R","S"] (Ao Gh):=by walk_at "s"
theorem Ob{f:Addr}{fd:FuncData}(F:Fun K "__init__" "Unlike.__init__" Gh f fd)(er:Dr K mg Aw Af Ad BW Be Al Ah An Az CZ DP Ax Av Ba Ay Bl Bc Ak Aq CJ Bq CN CK Bb Ar Aj Ae Bf BX Am)(c_Rule___init__:VM P w K mg base 1 "Rule" ["self","kept","made_of","words"] (Gf K Az))(c_unlike_nE:CQ P w K mg base 5 "unlike" ["one","other"] (Fz K Ad))(c_Rec_turn:Hm P w K mg base CX0 2 "turn" ["self"] ([Ax,Av,Ba,Ay,Bc,Ak,Aq,Bb,Ar].map fun C=>(C,(spR (Ge K Az [Ax,Av,Ba,Ay,Bc,Ak,Aq,Bb,Ar])) 1))):Bu P w K mg base (CX1 P w) 6 f fd ["self","R","S"] (O9 K Az [Ax,Av,Ba,Ay,Bc,Ak,Aq,Bb,Ar] ⟨An,Af,Al,Ah,Ad⟩ Ak):=by
 refine F.okE (k:=5) Nm (fun vs H Q E h=>?_) (fun cdv A outer s H vs Q E hr h T=>?_)
 ·obtain⟨x,r,t,n1,n2,b1,b2,rfl,_⟩:=h
  rfl
 obtain⟨x,r,t,n1,n2,b1,b2,rfl,R1,R2,h⟩:=h
 obtain⟨⟨dx,hx⟩,q,ql⟩:=h.fit
 have fl:=DG R1.n0 R2.n0
 refine⟨_,(Ag (CT (Gm c_Rule___init__ (hr.mono (by decide)) rfl (Aa (pv 0) (Aa (Bg T c_unlike_nE (hr.mono (by decide)) rfl (Aa (El c_Rec_turn (hr.mono (by decide)) (pv 1)) (Aa (El c_Rec_turn (hr.mono (by decide)) (pv 2)) Ac))) (Aa (Bv (Aa (pv 1) (Aa (pv 2) Ac))) (Aa (Bv (Aa BJ (Aa BJ (Aa BJ Ac)))) Ac))))))),?_⟩
 walk_at "x"
 obtain⟨C1,dr,fs,m1,hr1,l1,_⟩:=R1.mt
 refine⟨r,C1,dr,fs,_,m1 _,rfl,hr1,l1,?_⟩
 walk_at "x"
 refine⟨Nat.one_pos,r,n1,b1,rfl,R1,fun p hp=>?_⟩
 walk_at "x"
 obtain⟨C2,dr',fs',m2,hr2,l2,_⟩:=R2.mt
 refine⟨t,C2,dr',fs',_,m2 _,rfl,hr2,l2,?_⟩
 walk_at "x"
 refine⟨Nat.one_pos,t,n2,b2,rfl,R2,fun p' hp'=>?_⟩
 walk_at "x"
 refine⟨p,p',n1,n2,b1,b2,rfl,⟨SqT.of hp,SqT.of hp',R1.n0,R2.n0,R1.n1,R2.n1,R1.lt,R2.lt⟩,fun lz p2 c H1 s1 t1 lt=>?_,ql⟩
 walk_at "x"
 refine⟨Dz,fun pm hpm=>?_⟩
 refine fresh hpm fun H2 s2 _=>?_
 walk_at "x"
 refine⟨(by show 3≤sizeLine;decide),fun pw hpw=>?_⟩
 refine fresh hpw fun H3 s3 _=>?_
 have s3:=s2.trans s3
 have hx3:=(s1.trans s3) _ _ hx
 walk_at "x"
 exact⟨x,p2,pm,pw,Ak,dx,rfl,hx3,er.rc_Unlike,fun H' k e=>q lz c H' (k.pre (s1.trans s3)) (Fy (List.mem_of_getElem? (i:=5) rfl) er.rc_Unlike hx3 (s3 _ _ t1) k e fl.1 lz lt)⟩
theorem Ru:BV ["self","R"] ["self","R"] (Ao Hx):=by walk_at "s"
theorem R8{f:Addr}{fd:FuncData}(F:Fun K "__init__" "Not.__init__" Hx f fd)(er:Dr K mg Aw Af Ad BW Be Al Ah An Az CZ DP Ax Av Ba Ay Bl Bc Ak Aq CJ Bq CN CK Bb Ar Aj Ae Bf BX Am)(c_Rule___init__:VM P w K mg base 1 "Rule" ["self","kept","made_of","words"] (Gf K Az))(c_other_days:Cal P w K mg base 2 "other_days" ["turn"] (Mi K))(c_Rec_turn:Hm P w K mg base CX0 2 "turn" ["self"] ([Ax,Av,Ba,Ay,Bc,Ak,Aq,Bb,Ar].map fun C=>(C,(spR (Ge K Az [Ax,Av,Ba,Ay,Bc,Ak,Aq,Bb,Ar])) 1))):Bu P w K mg base (CX1 P w) 3 f fd ["self","R"] (gq K Az [Ax,Av,Ba,Ay,Bc,Ak,Aq,Bb,Ar] ⟨An,Af,Al,Ah,Ad⟩ Ba):=by
 refine F.okE (k:=2) Ru (fun vs H Q E h=>?_) (fun cdv A outer s H vs Q E hr h T=>?_)
 ·obtain⟨x,r,n,b,rfl,_⟩:=h
  rfl
 obtain⟨x,r,n,b,rfl,R,⟨dx,hx⟩,q⟩:=h
 refine⟨_,(Ag (CT (Gm c_Rule___init__ (hr.mono (by decide)) rfl (Aa (pv 0) (Aa (Br c_other_days (hr.mono (by decide)) rfl (Aa (El c_Rec_turn (hr.mono (by decide)) (pv 1)) Ac)) (Aa (Bv (Aa (pv 1) Ac)) (Aa (Bv (Aa BJ (Aa BJ Ac))) Ac))))))),?_⟩
 walk_at "x"
 obtain⟨C1,dr,fs,m1,hr1,l1,_⟩:=R.mt
 refine⟨r,C1,dr,fs,_,m1 _,rfl,hr1,l1,?_⟩
 walk_at "x"
 refine⟨Nat.one_pos,r,n,b,rfl,R,fun p hp=>?_⟩
 walk_at "x"
 refine⟨p,n,b,rfl,SqT.of hp,R.n0,R.n1,R.lt,fun p2 c hp2 hc hbit=>?_⟩
 refine fresh hp2 fun H1 s1 t1=>?_
 walk_at "x"
 refine⟨(by show 1≤sizeLine;decide),fun pm hpm=>?_⟩
 refine fresh hpm fun H2 s2 _=>?_
 walk_at "x"
 refine⟨Dz,fun pw hpw=>?_⟩
 refine fresh hpw fun H3 s3 _=>?_
 have s3:=s2.trans s3
 have hx3:=(s1.trans s3) _ _ hx
 walk_at "x"
 exact⟨x,p2,pm,pw,Ba,dx,rfl,hx3,er.rc_Not,fun H' k e=>q c H' (k.pre (s1.trans s3)) (Fy (List.mem_of_getElem? (i:=2) rfl) er.rc_Not hx3 (s3 _ _ t1) k e R.n0 R.n1 hc)⟩
theorem Pk:BV ["self","number","R"] ["self","number","R"] (Ao G5):=by walk_at "s"
theorem QJ{f:Addr}{fd:FuncData}(F:Fun K "__init__" "Later.__init__" G5 f fd)(er:Dr K mg Aw Af Ad BW Be Al Ah An Az CZ DP Ax Av Ba Ay Bl Bc Ak Aq CJ Bq CN CK Bb Ar Aj Ae Bf BX Am)(c_Rule___init__:VM P w K mg base 1 "Rule" ["self","kept","made_of","words"] (Gf K Az))(c_later:Cal P w K mg base 2 "later" ["turn","number"] (Ju K))(c_Rec_turn:Hm P w K mg base CX0 2 "turn" ["self"] ([Ax,Av,Ba,Ay,Bc,Ak,Aq,Bb,Ar].map fun C=>(C,(spR (Ge K Az [Ax,Av,Ba,Ay,Bc,Ak,Aq,Bb,Ar])) 1))):Bu P w K mg base (CX1 P w) 3 f fd ["self","number","R"] (gj K Az [Ax,Av,Ba,Ay,Bc,Ak,Aq,Bb,Ar] ⟨An,Af,Al,Ah,Ad⟩ Aq):=by
 refine F.okE (k:=2) Pk (fun vs H Q E h=>?_) (fun cdv A outer s H vs Q E hr h T=>?_)
 ·obtain⟨x,r,num,n,b,rfl,_⟩:=h
  rfl
 obtain⟨x,r,num,n,b,rfl,bk,R,⟨dx,hx⟩,q⟩:=h
 refine⟨_,(Ag (CT (Gm c_Rule___init__ (hr.mono (by decide)) rfl (Aa (pv 0) (Aa (Br c_later (hr.mono (by decide)) rfl (Aa (El c_Rec_turn (hr.mono (by decide)) (pv 2)) (Aa (pv 1) Ac))) (Aa (Bv (Aa (pv 2) Ac)) (Aa (Bv (Aa (Iw (DK BJ (DK (KH hr.toN (pv 1)) (DK BJ Lq)))) (Aa BJ Ac))) Ac))))))),?_⟩
 walk_at "x"
 obtain⟨C1,dr,fs,m1,hr1,l1,_⟩:=R.mt
 refine⟨r,C1,dr,fs,_,m1 _,rfl,hr1,l1,?_⟩
 walk_at "x"
 refine⟨Nat.one_pos,r,n,b,rfl,R,fun p hp=>?_⟩
 walk_at "x"
 refine⟨p,n,num,b,rfl,SqT.of hp,R.n0,R.n1,R.lt,fun p2 hp2=>?_⟩
 refine fresh hp2 fun H1 s1 t1=>?_
 walk_at "x"
 refine⟨(by show 1≤sizeLine;decide),fun pm hpm=>?_⟩
 refine fresh hpm fun H2 s2 _=>?_
 walk_at "x"
 try refine Mp ?_
 refine Ia 0 (by decide) (by decide) fun l1=>Ua _ l1 (by decide) rfl (Ke bk (by decide) (by decide)) fun l2=>Ia _ l2 (by decide) fun l3=>Iv (fits l3 (by decide)) ?_
 generalize (Str.empty++Str.ofString "("++Ej num++Str.ofString " later ")=zt
 walk_at "x"
 refine⟨Dz,fun pw hpw=>?_⟩
 refine fresh hpw fun H3 s3 _=>?_
 have s3:=s2.trans s3
 have hx3:=(s1.trans s3) _ _ hx
 walk_at "x"
 exact⟨x,p2,pm,pw,Aq,dx,rfl,hx3,er.rc_Later,fun H' k e=>q _ H' (k.pre (s1.trans s3)) (Fy (List.mem_of_getElem? (i:=6) rfl) er.rc_Later hx3 (s3 _ _ t1) k e R.n0 R.n1 (RX _ _ _))⟩
theorem Kh:BV ["self","number","R","S","kept"] ["self","number","R","S"] (Ao IK):=by walk_at "s"
theorem SM{f:Addr}{fd:FuncData}(F:Fun K "__init__" "Kth.__init__" IK f fd)(er:Dr K mg Aw Af Ad BW Be Al Ah An Az CZ DP Ax Av Ba Ay Bl Bc Ak Aq CJ Bq CN CK Bb Ar Aj Ae Bf BX Am)(c_kth:CQ P w K mg base 8 "kth" ["number","R","S"] (Zn K Af Ad))(c_Rec_turn:Hm P w K mg base CX0 2 "turn" ["self"] ([Ax,Av,Ba,Ay,Bc,Ak,Aq,Bb,Ar].map fun C=>(C,(spR (Ge K Az [Ax,Av,Ba,Ay,Bc,Ak,Aq,Bb,Ar])) 1)))(c_Rule___init__:VM P w K mg base 1 "Rule" ["self","kept","made_of","words"] (Gf K Az)):Bu P w K mg base (CX1 P w) 9 f fd ["self","number","R","S"] (gm K Az [Ax,Av,Ba,Ay,Bc,Ak,Aq,Bb,Ar] ⟨An,Af,Al,Ah,Ad⟩ Bb):=by
 refine F.okE (k:=8) Kh (fun vs H Q E h=>?_) (fun cdv A outer s H vs Q E hr h T=>?_)
 ·obtain⟨x,r,t,num,n1,n2,b1,b2,rfl,_⟩:=h
  rfl
 obtain⟨x,r,t,num,n1,n2,b1,b2,rfl,bk,R1,R2,h⟩:=h
 obtain⟨dx,hx⟩:=h.1
 have fl:=DG R1.n0 R2.n0
 have h0:num=0→Il Af H E:=fun z=>by
  rw[if_pos z] at h
  exact h.2
 have h1:num≠0→(DN n1 n2≤150000→∀(b:Nat) H',KB x H H'→FN K Az [Ax,Av,Ba,Ay,Bc,Ak,Aq,Bb,Ar] H' x (DN n1 n2) b→Q .non H')∧(150000<DN n1 n2→Gs Ad (DN n1 n2) H E):=fun z=>by
  rw[if_neg z] at h
  exact h.fit.2
 clear h
 refine⟨_,(Ab (BK (i:=4) Kh.nd rfl (by walk_at "o") (Bg T c_kth (hr.mono (by decide)) rfl (Aa (pv 1) (Aa (El c_Rec_turn (hr.mono (by decide)) (pv 2)) (Aa (El c_Rec_turn (hr.mono (by decide)) (pv 3)) Ac)))))
  (Ag (CT (Gm c_Rule___init__ (hr.mono (by decide)) rfl (Aa (pv 0) (Aa (pv 4) (Aa (Bv (Aa (pv 2) (Aa (pv 3) Ac))) (Aa (Bv (Aa (Iw (DK BJ (DK (KH hr.toN (pv 1)) (DK BJ Lq)))) (Aa BJ (Aa BJ Ac)))) Ac)))))))),?_⟩
 walk_at "x"
 obtain⟨C1,dr,fs,m1,hr1,l1,_⟩:=R1.mt
 refine⟨r,C1,dr,fs,_,m1 _,rfl,hr1,l1,?_⟩
 walk_at "x"
 refine⟨Nat.one_pos,r,n1,b1,rfl,R1,fun p hp=>?_⟩
 walk_at "x"
 obtain⟨C2,dr',fs',m2,hr2,l2,_⟩:=R2.mt
 refine⟨t,C2,dr',fs',_,m2 _,rfl,hr2,l2,?_⟩
 walk_at "x"
 refine⟨Nat.one_pos,t,n2,b2,rfl,R2,fun p' hp'=>?_⟩
 walk_at "x"
 refine⟨num,p,p',n1,n2,b1,b2,rfl,⟨SqT.of hp,SqT.of hp',R1.n0,R2.n0,R1.n1,R2.n1,R1.lt,R2.lt⟩,h0,fun k0 lz p2 c H1 s1 t1 lt=>?_,fun k0 lz=>(h1 k0).2 lz⟩
 walk_at "x"
 refine⟨Dz,fun pm hpm=>?_⟩
 refine fresh hpm fun H2 s2 _=>?_
 walk_at "x"
 try refine Mp ?_
 refine Ia 0 (by decide) (by decide) fun l1=>Ua _ l1 (by decide) rfl (Ke bk (by decide) (by decide)) fun l2=>Ia _ l2 (by decide) fun l3=>Iv (fits l3 (by decide)) ?_
 generalize (Str.empty++Str.ofString "("++Ej num++Str.ofString " of ")=zt
 walk_at "x"
 refine⟨(by show 3≤sizeLine;decide),fun pw hpw=>?_⟩
 refine fresh hpw fun H3 s3 _=>?_
 have s3:=s2.trans s3
 have hx3:=(s1.trans s3) _ _ hx
 walk_at "x"
 exact⟨x,p2,pm,pw,Bb,dx,rfl,hx3,er.rc_Kth,fun H' k e=>(h1 k0).1 lz c H' (k.pre (s1.trans s3)) (Fy (List.mem_of_getElem? (i:=7) rfl) er.rc_Kth hx3 (s3 _ _ t1) k e fl.1 lz lt)⟩
theorem Ip:BV ["self","number","R","day","kept"] ["self","number","R","day"] (Ao G6):=by walk_at "s"
theorem QK{f:Addr}{fd:FuncData}(F:Fun K "__init__" "Every.__init__" G6 f fd)(er:Dr K mg Aw Af Ad BW Be Al Ah An Az CZ DP Ax Av Ba Ay Bl Bc Ak Aq CJ Bq CN CK Bb Ar Aj Ae Bf BX Am)(c_every:CQ P w K mg base 6 "every" ["number","R","day"] (Tn K Af Ad))(c_Rec_turn:Hm P w K mg base CX0 2 "turn" ["self"] ([Ax,Av,Ba,Ay,Bc,Ak,Aq,Bb,Ar].map fun C=>(C,(spR (Ge K Az [Ax,Av,Ba,Ay,Bc,Ak,Aq,Bb,Ar])) 1)))(c_Rule___init__:VM P w K mg base 1 "Rule" ["self","kept","made_of","words"] (Gf K Az)):Bu P w K mg base (CX1 P w) 7 f fd ["self","number","R","day"] (gh K Az [Ax,Av,Ba,Ay,Bc,Ak,Aq,Bb,Ar] ⟨An,Af,Al,Ah,Ad⟩ Ar):=by
 refine F.okE (k:=6) Ip (fun vs H Q E h=>?_) (fun cdv A outer s H vs Q E hr h T=>?_)
 ·obtain⟨x,r,num,d0,n,b,rfl,_⟩:=h
  rfl
 obtain⟨x,r,num,d0,n,b,rfl,bk,bd,R,h⟩:=h
 obtain⟨dx,hx⟩:=h.1
 have h0:num<1→Il Af H E:=fun z=>by
  rw[if_pos z] at h
  exact h.2
 have h1:1≤num→(n*num≤150000→∀(b:Nat) H',KB x H H'→FN K Az [Ax,Av,Ba,Ay,Bc,Ak,Aq,Bb,Ar] H' x (n*num) b→Q .non H')∧(150000<n*num→Gs Ad (n*num) H E):=fun z=>by
  rw[if_neg (by omega)] at h
  exact h.fit.2
 clear h
 refine⟨_,(Ab (BK (i:=4) Ip.nd rfl (by walk_at "o") (Bg T c_every (hr.mono (by decide)) rfl (Aa (pv 1) (Aa (El c_Rec_turn (hr.mono (by decide)) (pv 2)) (Aa (pv 3) Ac)))))
  (Ag (CT (Gm c_Rule___init__ (hr.mono (by decide)) rfl (Aa (pv 0) (Aa (pv 4) (Aa (Bv (Aa (pv 2) Ac)) (Aa (Bv (Aa (Iw (DK BJ (DK (KH hr.toN (pv 1)) (DK BJ Lq)))) (Aa (Iw (DK BJ (DK (KH hr.toN (pv 3)) (DK BJ Lq)))) Ac))) Ac)))))))),?_⟩
 walk_at "x"
 obtain⟨C1,dr,fs,m1,hr1,l1,_⟩:=R.mt
 refine⟨r,C1,dr,fs,_,m1 _,rfl,hr1,l1,?_⟩
 walk_at "x"
 refine⟨Nat.one_pos,r,n,b,rfl,R,fun p hp=>?_⟩
 walk_at "x"
 refine⟨num,d0,p,n,b,rfl,SqT.of hp,R.n0,R.n1,R.lt,bd,bk.mono (by decide),h0,fun k0 nk p2 c H1 s1 t1 lt on=>?_,fun k0 nk=>(h1 k0).2 nk⟩
 have z0:0<n*num:=Int.mul_pos R.n0 (by omega)
 walk_at "x"
 refine⟨(by show 1≤sizeLine;decide),fun pm hpm=>?_⟩
 refine fresh hpm fun H2 s2 _=>?_
 walk_at "x"
 try refine Mp ?_
 refine Ia 0 (by decide) (by decide) fun l1=>Ua _ l1 (by decide) rfl (Ke bk (by decide) (by decide)) fun l2=>Ia _ l2 (by decide) fun l3=>Iv (fits l3 (by decide)) ?_
 generalize (Str.empty++Str.ofString "(every "++Ej num++Str.ofString " of ")=zt
 walk_at "x"
 try refine Mp ?_
 refine Ia 0 (by decide) (by decide) fun l1=>Ua _ l1 (by decide) rfl (Ke bd (by decide) (by decide)) fun l2=>Ia _ l2 (by decide) fun l3=>Iv (fits l3 (by decide)) ?_
 generalize (Str.empty++Str.ofString " from "++Ej d0++Str.ofString ")")=zu
 walk_at "x"
 refine⟨Dz,fun pw hpw=>?_⟩
 refine fresh hpw fun H3 s3 _=>?_
 have s3:=s2.trans s3
 have hx3:=(s1.trans s3) _ _ hx
 walk_at "x"
 exact⟨x,p2,pm,pw,Ar,dx,rfl,hx3,er.rc_Every,fun H' k e=>(h1 k0).1 nk c H' (k.pre (s1.trans s3)) (Fy (List.mem_of_getElem? (i:=8) rfl) er.rc_Every hx3 (s3 _ _ t1) k e z0 nk lt)⟩
theorem SX{f:Addr}{fd:FuncData}(_:Fun K "__init__" "All.__init__" Ln f fd):Bu P w K mg base CX0 1 f fd ["self"] Gx:=⟨fun _ _ _ _ h=>h.elim,fun _ _ _ _ _ _ _ _ _ _ _ _ _ h=>h.elim⟩
theorem Uy{f:Addr}{fd:FuncData}(_:Fun K "__init__" "No.__init__" NQ f fd):Bu P w K mg base CX0 1 f fd ["self"] Gx:=⟨fun _ _ _ _ h=>h.elim,fun _ _ _ _ _ _ _ _ _ _ _ _ _ h=>h.elim⟩
theorem Oe{f:Addr}{fd:FuncData}(_:Fun K "__init__" "Either.__init__" Iu f fd):Bu P w K mg base CX0 1 f fd ["self","R","S"] Gx:=⟨fun _ _ _ _ h=>h.elim,fun _ _ _ _ _ _ _ _ _ _ _ _ _ h=>h.elim⟩
theorem RN{f:Addr}{fd:FuncData}(_:Fun K "__init__" "Upon.__init__" Kl f fd):Bu P w K mg base CX0 1 f fd ["self","R","S"] Gx:=⟨fun _ _ _ _ h=>h.elim,fun _ _ _ _ _ _ _ _ _ _ _ _ _ h=>h.elim⟩
theorem QF{f:Addr}{fd:FuncData}(_:Fun K "__init__" "Until.__init__" Ji f fd):Bu P w K mg base CX0 1 f fd ["self","R","S"] Gx:=⟨fun _ _ _ _ h=>h.elim,fun _ _ _ _ _ _ _ _ _ _ _ _ _ h=>h.elim⟩
theorem RT{f:Addr}{fd:FuncData}(_:Fun K "__init__" "Near.__init__" Ko f fd):Bu P w K mg base CX0 1 f fd ["self","R","S"] Gx:=⟨fun _ _ _ _ h=>h.elim,fun _ _ _ _ _ _ _ _ _ _ _ _ _ h=>h.elim⟩
theorem RP{f:Addr}{fd:FuncData}(_:Fun K "__init__" "Till.__init__" Km f fd):Bu P w K mg base CX0 1 f fd ["self","R","S"] Gx:=⟨fun _ _ _ _ h=>h.elim,fun _ _ _ _ _ _ _ _ _ _ _ _ _ h=>h.elim⟩
theorem Zw:BV ["term","k"] ["term","k"] (Ao Qw):=by walk_at "s"
theorem aD{f:Addr}{fd:FuncData}(F:Fun K "term_on" "term_on" Qw f fd):Bu P w K mg base CX0 1 f fd ["term","k"] Gx:=by
 refine F.ok (k:=0) Zw (fun vs H Q E h=>?_) (fun cdv A outer s H vs Q E hr h=>?_)
 ·exact h.elim
 exact h.elim
theorem Va:BV ["terms","k"] ["terms","k"] (Ao J3):=by walk_at "s"
theorem Vg{f:Addr}{fd:FuncData}(F:Fun K "signs_upto" "signs_upto" J3 f fd)(z_sum:mg "sum"=none):Bu P w K mg base CX0 1 f fd ["terms","k"] (Tc K):=by
 refine F.ok (k:=0) Va (fun vs H Q E h=>?_) (fun cdv A outer s H vs Q E hr h=>?_)
 ·obtain⟨p,k,rfl,_⟩:=h
  rfl
 obtain⟨p,k,rfl,hS,q⟩:=h
 refine⟨_,(Ag (BZ (CW (VF rfl) rfl z_sum PyProof.Rows.boot_sum (Aa (Iz rfl (Hl ["terms","k"] ["terms","k"] rfl rfl (by with_unfolding_all rfl) (by decide +kernel) rfl (by decide +kernel) rfl (by decide +kernel) (by walk_at "fm") (by with_unfolding_all rfl) (by with_unfolding_all rfl)) (Ue (pv 0)) (fun _ _ _ _=>Lr) (fun _ _ _ _=>(BP Dd (Bp Ig (pv 0) Ai (fun _ _=>rfl)) (BP Df (BP Dj (BP Dd (Bp Ig (pv 0) Ai (fun _ _=>rfl)) (pv 2)) (Bp Ig (pv 0) Ai (fun _ _=>rfl))) (Bp Ig (pv 0) Ai (fun _ _=>rfl)))))) Ac)))),?_⟩
 walk_at "d"
 refine aa rfl hS (by decide) (fun _=>true) (fun v=>v) (fun x hx=>nomatch hx) (fun x hx=>nomatch hx) (fun D hD=>?_)
 walk_at "d"
 exact⟨D,[],rfl,SqL.of BR,q _ (Bk hD _)⟩
theorem Zx:BV ["term"] ["term"] (Ao Qy):=by walk_at "s"
theorem aG{f:Addr}{fd:FuncData}(F:Fun K "is_term" "is_term" Qy f fd){tk_GREATEST_N:Tok}(m_GREATEST_N:mg "GREATEST_N"=some (.int 1000 tk_GREATEST_N)):Bu P w K mg base CX0 1 f fd ["term"] Gx:=by
 refine F.ok (k:=0) Zx (fun vs H Q E h=>?_) (fun cdv A outer s H vs Q E hr h=>?_)
 ·exact h.elim
 exact h.elim
theorem Rr:BV ["base","terms"] ["base","terms"] (Ao Hv):=by walk_at "s"
theorem Ry{f:Addr}{fd:FuncData}(F:Fun K "least_length" "least_length" Hv f fd)(z_len:mg "len"=none):Bu P w K mg base CX0 1 f fd ["base","terms"] (O7 K):=by
 refine F.ok (k:=0) Rr (fun vs H Q E h=>?_) (fun cdv A outer s H vs Q E hr h=>?_)
 ·obtain⟨p,b,rfl,_⟩:=h
  rfl
 obtain⟨p,b,rfl,hS,q⟩:=h
 refine⟨_,(Ag (BZ (BP Ei (pv 0) (CW Dl rfl z_len PySem.boot_len (Aa (Iz rfl (Ka ["base","terms"] rfl (by decide +kernel) rfl (by decide +kernel) rfl (by decide +kernel) (by decide +kernel)) (Ue (pv 1)) (fun _ _ _ _=>(Ud (BL Cg (Bp Ig (pv 0) Ai (fun _ _=>rfl)) (Ls Ho Ai) (Bd _)))) (fun _ _ _ _=>(pv 0))) Ac))))),?_⟩
 walk_at "d"
 refine aa rfl hS (by decide) (fun _=>true) (fun v=>v) (fun x hx=>nomatch hx) (fun x hx=>nomatch hx) (fun D hD=>?_)
 walk_at "d"
 refine⟨D,[],rfl,.inl (SqL.of BR),?_⟩
 walk_at "d"
 rw[show b-(([]:List V).length:Int)=b from Int.sub_zero b]
 exact q _ (Bk hD _)
theorem PQ:BV ["base","terms"] ["base","terms"] (Ao Gz):=by walk_at "s"
theorem QD{f:Addr}{fd:FuncData}(F:Fun K "refuse_measure" "refuse_measure" Gz f fd)(c_is_term:Cal P w K mg base 1 "is_term" ["term"] Gx)(c_least_length:Cal P w K mg base 1 "least_length" ["base","terms"] (O7 K))(z_len:mg "len"=none)(z_all:mg "all"=none){tk_GREATEST_BASE:Tok}(m_GREATEST_BASE:mg "GREATEST_BASE"=some (.int 20000 tk_GREATEST_BASE)){tk_MOST_TERMS:Tok}(m_MOST_TERMS:mg "MOST_TERMS"=some (.int 6 tk_MOST_TERMS)):Bu P w K mg base CX0 2 f fd ["base","terms"] (Wj K):=by
 refine F.ok (k:=1) PQ (fun vs H Q E h=>?_) (fun cdv A outer s H vs Q E hr h=>?_)
 ·obtain⟨p,b,rfl,_⟩:=h
  rfl
 obtain⟨p,b,rfl,hS,b0,b1,q⟩:=h
 refine⟨_,(Ab (CG (PW.pt (Pr (BL GX (pv 0) Ai (Bd _)) (J8 (BL GZ (pv 0) (DR rfl m_GREATEST_BASE (Dw _ _)) (Bd _)))))
  (Ag Fg)
  Bh)
  (Ab (CG (BL GZ (CW Dl rfl z_len PySem.boot_len (Aa (pv 1) Ac)) (DR rfl m_MOST_TERMS (Dw _ _)) (Bd _))
   (Ag Fg)
   Bh)
  (Ab (CG (XH (OD (CW (VH rfl) rfl z_all PyProof.Rows.boot_all (Aa (Iz rfl (Ka ["base","terms"] rfl (by decide +kernel) rfl (by decide +kernel) rfl (by decide +kernel) (by decide +kernel)) (Ue (pv 1)) (fun _ _ _ _=>Lr) (fun _ _ _ _=>(Br c_is_term (hr.mono (by decide)) rfl (Aa (pv 0) Ac)))) Ac))))
   (Ag Fg)
   Bh)
  (Ag (CG (BL GX (Br c_least_length (hr.mono (by decide)) rfl (Aa (pv 0) (Aa (pv 1) Ac))) Ai (Bd _))
   (Ag Fg)
   Bh))))),?_⟩
 walk_at "d"
 refine Ck (by omega) ?_
 walk_at "d"
 refine Ck (by omega) ?_
 walk_at "d"
 refine⟨p,[],rfl,.inr hS,?_⟩
 walk_at "d"
 refine Ck (by decide) ?_
 walk_at "d"
 refine aa rfl hS (by decide) (fun _=>true) (fun v=>v) (fun x hx=>nomatch hx) (fun x hx=>nomatch hx) (fun D hD=>?_)
 have s1:=Bk hD (.lst ((([]:List V).filter fun _=>true).map fun v=>v))
 walk_at "d"
 refine⟨D,[],rfl,SqL.of BR,?_⟩
 walk_at "d"
 refine Hc ?_
 walk_at "d"
 refine⟨p,b,rfl,s1.tup hS,fun H2 s2=>?_⟩
 walk_at "d"
 refine Ck (by omega) ?_
 walk_at "d"
 exact q _ (s1.trans s2)
theorem Hh:BV ["terms","told","term"] ["terms"] (Ao Ld):=by walk_at "s"
theorem Xc{f:Addr}{fd:FuncData}(F:Fun K "period_of" "period_of" Ld f fd)(c_common:CQ P w K mg base 3 "common" ["one","other"] (Jc Af)):Bu P w K mg base CX0 4 f fd ["terms"] (Zi K):=by
 refine F.ok (k:=3) Hh (fun vs H Q E h=>?_) (fun cdv A outer s H vs Q E hr h=>?_)
 ·obtain⟨p,rfl,_⟩:=h
  rfl
 obtain⟨p,rfl,hS,q⟩:=h
 refine⟨_,(Ab (BK (i:=1) Hh.nd rfl (by walk_at "o") Ai)
  (Ab (J9 PassesOwn.never rfl (Ue (pv 0)) (Hi (i:=2) Hh.nd rfl (by walk_at "o"))
   (Ag (BK (i:=1) Hh.nd rfl (by walk_at "o") (Bg Hn c_common (hr.mono (by decide)) rfl (Aa (pv 1) (Aa (Bp Bm (pv 2) Ai (fun _ _=>rfl)) Ac))))))
  (Ag (BZ (pv 1))))),?_⟩
 walk_at "d"
 walk_at "f"
 walk_at "d"
 refine⟨p,rfl,⟨_,hS⟩,nU (xs:=[]) (fun i σ' H'=>Bo H H'∧∃c:Option V,σ'=[some (.ref p),some (.int 1),c]) ⟨Bo.refl _,none,rfl⟩ ?_ ?_ ?_⟩
 ·rintro i σ' H' _ ⟨s,_⟩
  exact s.tup hS
 ·rintro i x σ' H' hx
  simp at hx
 ·rintro σ' H' ⟨s,c,rfl⟩
  walk_at "d"
  exact q _ s
theorem Rv:BV ["self","k"] ["self","k"] (Ao Hy):=by walk_at "s"
theorem R9{f:Addr}{fd:FuncData}(F:Fun K "upto" "Measure.upto" Hy f fd)(er:Dr K mg Aw Af Ad BW Be Al Ah An Az CZ DP Ax Av Ba Ay Bl Bc Ak Aq CJ Bq CN CK Bb Ar Aj Ae Bf BX Am)(c_signs_upto:Cal P w K mg base 1 "signs_upto" ["terms","k"] (Tc K)):Bu P w K mg base CX0 2 f fd ["self","k"] (Mh Ae):=by
 refine F.ok (k:=1) Rv (fun vs H Q E h=>?_) (fun cdv A outer s H vs Q E hr h=>?_)
 ·obtain⟨x,dx,p,k,b,fs,rfl,_⟩:=h
  rfl
 obtain⟨x,dx,p,k,b,fs,rfl,hx,fb,ft,hp,b0,b1,k0,k1,q⟩:=h
 refine⟨_,(Ag (BZ (BP Dj (BP Dd (Ce (pv 0) (by rfl)) (pv 1)) (Br c_signs_upto (hr.mono (by decide)) rfl (Aa (Ce (pv 0) (by rfl)) (Aa (pv 1) Ac)))))),?_⟩
 walk_at "d"
 refine⟨x,Ae,dx,fs,_,rfl,hx,er.cl_Measure,er.na_Measure_base,fb,?_⟩
 walk_at "d"
 refine Ew ⟨200,200,Ik (by omega) (by omega),Ik (by omega) (by omega),by decide⟩ ?_
 walk_at "d"
 refine⟨x,Ae,dx,fs,_,rfl,hx,er.cl_Measure,er.na_Measure_terms,ft,?_⟩
 walk_at "d"
 refine⟨p,k,rfl,SqT.of hp,fun H' s=>?_⟩
 walk_at "d"
 rw[Int.add_zero]
 exact q _ s
theorem Mz:BV ["self","base","terms"] ["self","base","terms"] (Ao Di):=by walk_at "s"
theorem M7{f:Addr}{fd:FuncData}{ds:Array Value}(F:Jq K "__init__" "Measure.__init__" Di f fd ds)(er:Dr K mg Aw Af Ad BW Be Al Ah An Az CZ DP Ax Av Ba Ay Bl Bc Ak Aq CJ Bq CN CK Bb Ar Aj Ae Bf BX Am)(c_refuse_measure:Cal P w K mg base 2 "refuse_measure" ["base","terms"] (Wj K))(c_period_of:Cal P w K mg base 4 "period_of" ["terms"] (Zi K))(c_Measure_upto:Eb P w K mg base CX0 2 Ae "upto" ["self","k"] (Mh Ae))(z_tuple:mg "tuple"=none):Bu P w K mg base CX0 5 f fd ["self","base","terms"] (Tj Ae):=by
 refine F.ok (k:=4) Mz (fun vs H Q E h=>?_) (fun cdv A outer s H vs Q E hr h=>?_)
 ·obtain⟨x,dx,b,rfl,_⟩:=h
  rfl
 obtain⟨x,dx,b,rfl,hx,b0,b1,q⟩:=h
 refine⟨_,(Ab (FP (pv 0) (pv 1) (by rfl))
  (Ab (FP (pv 0) (FW (BL OJ (pv 2) JX (Bd _)) (Bv Ac) (Dc JZ rfl z_tuple PyProof.Rows.boot_tuple (Aa (pv 2) Ac))) (by rfl))
  (Ab (CT (Br c_refuse_measure (hr.mono (by decide)) rfl (Aa (Ce (pv 0) (by rfl)) (Aa (Ce (pv 0) (by rfl)) Ac))))
  (Ab (FP (pv 0) (Br c_period_of (hr.mono (by decide)) rfl (Aa (Ce (pv 0) (by rfl)) Ac)) (by rfl))
  (Ab (FP (pv 0) (Fx c_Measure_upto er.cl_Measure (hr.mono (by decide)) (pv 0) (Aa (Ce (pv 0) (by rfl)) Ac)) (by rfl))
  (Ag (CG (BL Cg (Ce (pv 0) (by rfl)) Ai (Bd _))
   (Ag Fg)
   Bh))))))),?_⟩
 walk_at "x"
 refine⟨x,Ae,dx,[],rfl,hx,er.cl_Measure,er.na_Measure_base,by decide,?_⟩
 refine Uc fun H1 k1 x1=>?_
 walk_at "x"
 refine⟨rfl,?_⟩
 walk_at "x"
 refine Jl rfl ?_
 walk_at "x"
 refine⟨Nat.zero_le _,fun p hp=>?_⟩
 have px:x≠p:=By x1 hp
 refine fresh hp fun H1' s1' t1'=>?_
 have x1:=s1' _ _ x1
 walk_at "x"
 refine⟨x,Ae,dx,_,rfl,x1,er.cl_Measure,er.na_Measure_terms,(by show 1<1000;decide),?_⟩
 refine Uc fun H2 k2 x2=>?_
 have p2:=k2 _ _ (Ne.symm px) t1'
 walk_at "x"
 refine⟨x,Ae,dx,_,_,rfl,x2,er.cl_Measure,er.na_Measure_base,rfl,?_⟩
 walk_at "x"
 refine⟨x,Ae,dx,_,_,rfl,x2,er.cl_Measure,er.na_Measure_terms,rfl,?_⟩
 walk_at "x"
 refine⟨p,b,rfl,SqT.of p2,by omega,by omega,fun H3 s3=>?_⟩
 have x3:=s3 _ _ x2
 walk_at "x"
 refine⟨x,Ae,dx,_,_,rfl,x3,er.cl_Measure,er.na_Measure_terms,rfl,?_⟩
 walk_at "x"
 refine⟨p,rfl,SqT.of (s3 _ _ p2),fun H4 s4=>?_⟩
 have x4:=s4 _ _ x3
 have p4:=(s3.trans s4) _ _ p2
 walk_at "x"
 refine⟨x,Ae,dx,_,rfl,x4,er.cl_Measure,er.na_Measure_full_count,(by show 2<1000;decide),?_⟩
 refine Uc fun H5 k5 x5=>?_
 have p5:=k5 _ _ (Ne.symm px) p4
 walk_at "x"
 refine⟨x,dx,_,rfl,x5,rfl,?_⟩
 walk_at "x"
 refine⟨x,Ae,dx,_,_,rfl,x5,er.cl_Measure,er.na_Measure_full_count,rfl,?_⟩
 walk_at "x"
 refine⟨x,dx,p,1,b,_,rfl,x5,rfl,rfl,p5,by omega,by omega,by omega,by omega,fun H6 s6=>?_⟩
 rw[Int.mul_one]
 have x6:=s6 _ _ x5
 walk_at "x"
 refine⟨x,Ae,dx,_,rfl,x6,er.cl_Measure,er.na_Measure_full_sum,(by show 3<1000;decide),?_⟩
 refine Uc fun H7 k7 x7=>?_
 walk_at "x"
 refine⟨x,Ae,dx,_,_,rfl,x7,er.cl_Measure,er.na_Measure_full_sum,rfl,?_⟩
 walk_at "x"
 refine Ck (fun z=>by have:=V.int.inj z;omega) ?_
 walk_at "x"
 refine q _ (fun y o hy e=>k7 _ _ hy (s6 _ _ (k5 _ _ hy ((s3.trans s4) _ _ (k2 _ _ hy (s1' _ _ (k1 _ _ hy e))))))) ⟨dx,p,x7,k7 _ _ (Ne.symm px) (s6 _ _ p5)⟩
theorem Vc:BV ["self","k"] ["self","k"] (Ao J7):=by walk_at "s"
theorem Vk{f:Addr}{fd:FuncData}(F:Fun K "at" "Measure.at" J7 f fd)(er:Dr K mg Aw Af Ad BW Be Al Ah An Az CZ DP Ax Av Ba Ay Bl Bc Ak Aq CJ Bq CN CK Bb Ar Aj Ae Bf BX Am)(c_term_on:Cal P w K mg base 1 "term_on" ["term","k"] Gx)(z_sum:mg "sum"=none):Bu P w K mg base CX0 2 f fd ["self","k"] (gr Ae):=by
 refine F.ok (k:=1) Vc (fun vs H Q E h=>?_) (fun cdv A outer s H vs Q E hr h=>?_)
 ·obtain⟨x,k,b,rfl,_⟩:=h
  rfl
 obtain⟨x,k,b,rfl,⟨dx,p,hx,hp⟩,q⟩:=h
 refine⟨_,(Ag (BZ (BP Dj (Ce (pv 0) (by rfl)) (CW (VF rfl) rfl z_sum PyProof.Rows.boot_sum (Aa (Iz rfl (Hl ["self","k"] ["self","k"] rfl rfl (by with_unfolding_all rfl) (by decide +kernel) rfl (by decide +kernel) rfl (by decide +kernel) (by walk_at "fm") (by with_unfolding_all rfl) (by with_unfolding_all rfl)) (Ue (Ce (pv 0) (by rfl))) (fun _ _ _ _=>(Ud (OD (Br c_term_on (hr.mono (by decide)) rfl (Aa (pv 0) (Aa (pv 2) Ac)))))) (fun _ _ _ _=>(Bp Ig (pv 0) Ai (fun _ _=>rfl)))) Ac))))),?_⟩
 walk_at "x"
 refine⟨x,Ae,dx,_,_,rfl,hx,er.cl_Measure,er.na_Measure_base,rfl,?_⟩
 walk_at "x"
 refine Mq (pI ?_)
 walk_at "x"
 refine⟨x,Ae,dx,_,_,rfl,hx,er.cl_Measure,er.na_Measure_terms,rfl,?_⟩
 refine⟨p,rfl,⟨_,SqT.of hp⟩,Mu fY (by decide) (fun D ys hD=>(Bk hD _).tup (SqT.of hp)) (fun _=>true) (fun v=>v) (fun y hy=>nomatch hy) (fun y hy=>nomatch hy) (fun D hD=>?_)⟩
 walk_at "x"
 refine⟨D,[],rfl,SqL.of BR,?_⟩
 walk_at "x"
 rw[show b+([]:List Int).sum=b from Int.add_zero b]
 exact q _ (Bk hD _)
theorem Pj:BV ["self"] ["self"] (Ao G4):=by walk_at "s"
theorem QH{f:Addr}{fd:FuncData}(F:Fun K "period" "Measure.period" G4 f fd)(er:Dr K mg Aw Af Ad BW Be Al Ah An Az CZ DP Ax Av Ba Ay Bl Bc Ak Aq CJ Bq CN CK Bb Ar Aj Ae Bf BX Am):Bu P w K mg base CX0 1 f fd ["self"] (Qi Ae):=by
 refine F.ok (k:=0) Pj (fun vs H Q E h=>?_) (fun cdv A outer s H vs Q E hr h=>?_)
 ·obtain⟨x,b,rfl,_⟩:=h
  rfl
 obtain⟨x,b,rfl,⟨dx,p,hx,hp⟩,q⟩:=h
 refine⟨_,(Ag (BZ (Ce (pv 0) (by rfl)))),?_⟩
 walk_at "x"
 refine⟨x,Ae,dx,_,_,rfl,hx,er.cl_Measure,er.na_Measure_full_count,rfl,?_⟩
 exact q
theorem Du:BV ["self","total","rest","low","high","middle"] ["self","total"] (Ao Hz):=by walk_at "s"
theorem SJ{f:Addr}{fd:FuncData}(F:Fun K "seek" "Measure.seek" Hz f fd)(er:Dr K mg Aw Af Ad BW Be Al Ah An Az CZ DP Ax Av Ba Ay Bl Bc Ak Aq CJ Bq CN CK Bb Ar Aj Ae Bf BX Am)(c_Measure_upto:Eb P w K mg base CX0 2 Ae "upto" ["self","k"] (Mh Ae)):Bu P w K mg base CX0 3 f fd ["self","total"] (Td Ae):=by
 refine F.ok (k:=2) Du (fun vs H Q E h=>?_) (fun cdv A outer s H vs Q E hr h=>?_)
 ·obtain⟨x,t,b,rfl,_⟩:=h
  rfl
 obtain⟨x,t,b,rfl,⟨dx,p,hx,hp⟩,b0,b1,t0,t1,q⟩:=h
 refine⟨_,(Ab (BK (i:=2) Du.nd rfl (by walk_at "o") (BP Eg (pv 1) (Ce (pv 0) (by rfl))))
  (Ab (BK (i:=3) Du.nd rfl (by walk_at "o") Ai)
  (Ab (BK (i:=4) Du.nd rfl (by walk_at "o") (Ce (pv 0) (by rfl)))
  (Ab (Ie PassesOwn.never (BL GZ (BP Ei (pv 4) (pv 3)) Ai (Bd _))
   (Ab (BK (i:=5) Du.nd rfl (by walk_at "o") (BP Df (BP Dj (pv 3) (pv 4)) Ai))
  (Ag (Fi (CG (BL cC (Fx c_Measure_upto er.cl_Measure (hr.mono (by decide)) (pv 0) (Aa (pv 5) Ac)) (pv 2) (Bd _))
   (Ag (BK (i:=3) Du.nd rfl (by walk_at "o") (pv 5)))
   (Ag (BK (i:=4) Du.nd rfl (by walk_at "o") (pv 5))))))))
  (Ag (BZ (BP Dj (BP Dd (BP Df (pv 1) (Ce (pv 0) (by rfl))) (Ce (pv 0) (by rfl))) (pv 3)))))))),?_⟩
 walk_at "x"
 refine⟨x,Ae,dx,_,_,rfl,hx,er.cl_Measure,er.na_Measure_full_sum,rfl,?_⟩
 walk_at "x"
 refine⟨x,Ae,dx,_,_,rfl,hx,er.cl_Measure,er.na_Measure_full_count,rfl,?_⟩
 walk_at "x"
 refine⟨fun m σ' H'=>H'=H∧∃c:Option V,σ'=[some (.ref x),some (.int t),some (.int (t%b)),some (.int 0),some (.int 1),c],⟨0,rfl,none,rfl⟩,?_⟩
 rintro m σ' H1 ⟨rfl,c,rfl⟩
 walk_at "x"
 refine Ca (fun cc=>absurd cc (by decide)) (fun _=>?_)
 walk_at "x"
 refine⟨x,Ae,dx,_,_,rfl,hx,er.cl_Measure,er.na_Measure_full_sum,rfl,?_⟩
 walk_at "x"
 refine Ew ⟨by omega,DY (by omega) (by omega) (by decide)⟩ ?_
 walk_at "x"
 refine⟨x,Ae,dx,_,_,rfl,hx,er.cl_Measure,er.na_Measure_full_count,rfl,?_⟩
 have e0: -10000≤t/b∧t/b≤10000:=by
  have m0:=Int.emod_nonneg t (show b≠0 by omega)
  have m1:=Int.emod_lt_of_pos t (show 0<b by omega)
  have md:=Int.mul_ediv_add_emod t b
  constructor
  ·refine Int.not_lt.mp fun z=>?_
   have:=Int.mul_le_mul_of_nonneg_left (show t/b≤ -10001 by omega) (show 0≤b by omega)
   omega
  ·refine Int.not_lt.mp fun z=>?_
   have:=Int.mul_le_mul_of_nonneg_left (show 10001≤t/b by omega) (show 0≤b by omega)
   omega
 refine Ew ⟨200,200,Ik (by omega) (by omega),Ik (by omega) (by omega),by decide⟩ ?_
 walk_at "x"
 rw[Int.mul_one,Int.add_zero]
 exact q
theorem Qs:BV ["lengths","leap"] ["lengths","leap"] (Ao HW):=by walk_at "s"
theorem RK{f:Addr}{fd:FuncData}(F:Fun K "refuse_months" "refuse_months" HW f fd)(z_len:mg "len"=none)(z_min:mg "min"=none)(z_max:mg "max"=none){tk_MOST_MONTHS:Tok}(m_MOST_MONTHS:mg "MOST_MONTHS"=some (.int 20 tk_MOST_MONTHS)){tk_LONGEST_MONTH:Tok}(m_LONGEST_MONTH:mg "LONGEST_MONTH"=some (.int 1000 tk_LONGEST_MONTH)):Bu P w K mg base CX0 1 f fd ["lengths","leap"] (Te K):=by
 refine F.ok (k:=0) Qs (fun vs H Q E h=>?_) (fun cdv A outer s H vs Q E hr h=>?_)
 ·obtain⟨l,k,rfl,_⟩:=h
  rfl
 obtain⟨l,k,rfl,hS,k0,k1,q⟩:=h
 refine⟨_,(Ab (CG (PW.pt (Pr (BL GX (CW Dl rfl z_len PySem.boot_len (Aa (pv 0) Ac)) Ai (Bd _)) (J8 (BL GZ (CW Dl rfl z_len PySem.boot_len (Aa (pv 0) Ac)) (DR rfl m_MOST_MONTHS (Dw _ _)) (Bd _)))))
  (Ag Fg)
  Bh)
  (Ab (CG (PW.pt (Pr (BL GX (CW (fM rfl) rfl z_min PyProof.Rows.boot_min (Aa (pv 0) Ac)) Ai (Bd _)) (J8 (BL GZ (CW (fO rfl) rfl z_max PyProof.Rows.boot_max (Aa (pv 0) Ac)) (DR rfl m_LONGEST_MONTH (Dw _ _)) (Bd _)))))
   (Ag Fg)
   Bh)
  (Ag (CG (PW.pt (Pr (BL GX (pv 1) Ai (Bd _)) (J8 (BL GZ (pv 1) (CW Dl rfl z_len PySem.boot_len (Aa (pv 0) Ac)) (Bd _)))))
   (Ag Fg)
   Bh)))),?_⟩
 walk_at "x"
 refine⟨l,_,rfl,.inl hS,?_⟩
 walk_at "x"
 refine Ck (by simp) ?_
 walk_at "x"
 refine⟨l,_,rfl,.inl hS,?_⟩
 walk_at "x"
 refine Ck (by simp) ?_
 walk_at "x"
 refine⟨l,[k],rfl,hS,(fun z=>nomatch z),fun m hm _=>?_⟩
 have hm:=List.mem_singleton.mp hm
 walk_at "x"
 refine Ck (by omega) ?_
 walk_at "x"
 refine⟨l,[k],rfl,hS,(fun z=>nomatch z),fun m hm _=>?_⟩
 have hm:=List.mem_singleton.mp hm
 walk_at "x"
 refine Ck (by omega) ?_
 walk_at "x"
 refine Ck (by omega) ?_
 walk_at "x"
 refine⟨l,_,rfl,.inl hS,?_⟩
 walk_at "x"
 refine Ck (by simp) ?_
 walk_at "x"
 exact q
theorem Rt:BV ["self","start","lengths","leap","terms"] ["self","start","lengths","leap","terms"] (Ao Ey):=by walk_at "s"
theorem Kp{f:Addr}{fd:FuncData}{ds:Array Value}(F:Jq K "__init__" "Sun.__init__" Ey f fd ds)(er:Dr K mg Aw Af Ad BW Be Al Ah An Az CZ DP Ax Av Ba Ay Bl Bc Ak Aq CJ Bq CN CK Bb Ar Aj Ae Bf BX Am)(c_refuse_months:Cal P w K mg base 1 "refuse_months" ["lengths","leap"] (Te K))(c_Measure___init__:Eu P w K mg base CX0 5 "Measure" Ae ["self","base","terms"] (Tj Ae))(c_least_length:Cal P w K mg base 1 "least_length" ["base","terms"] (O7 K))(z_tuple:mg "tuple"=none)(z_sum:mg "sum"=none):Bu P w K mg base CX0 7 f fd ["self","start","lengths","leap","terms"] (O8 BX Ae):=by
 refine F.ok (k:=6) Rt (fun vs H Q E h=>?_) (fun cdv A outer s H vs Q E hr h=>?_)
 ·obtain⟨x,dx,ll,s,k,rfl,_⟩:=h
  rfl
 obtain⟨x,dx,ll,s,k,rfl,hx,hl,k0,k1,q⟩:=h
 have lx:ll≠x:=Jj hl hx (by intro z;cases z)
 refine⟨_,(Ab (CT (Br c_refuse_months (hr.mono (by decide)) rfl (Aa (pv 2) (Aa (pv 3) Ac))))
  (Ab (FP (pv 0) (pv 1) (by rfl))
  (Ab (FP (pv 0) (Dc JZ rfl z_tuple PyProof.Rows.boot_tuple (Aa (pv 2) Ac)) (by rfl))
  (Ab (FP (pv 0) (pv 3) (by rfl))
  (Ab (FP (pv 0) (Ri c_Measure___init__ (hr.mono (by decide)) rfl (Aa (CW (VF rfl) rfl z_sum PyProof.Rows.boot_sum (Aa (pv 2) Ac)) (Aa (pv 4) Ac))) (by rfl))
  (Ab (CG (BL GX (Br c_least_length (hr.mono (by decide)) rfl (Aa (Bp JB (pv 2) (BP Ei (pv 3) Ai) (fun _ _=>rfl)) (Aa (Ce (Ce (pv 0) (by rfl)) (by rfl)) Ac))) Ai (Bd _))
   (Ag Fg)
   Bh)
  (Ag (CG (BL GX (Br c_least_length (hr.mono (by decide)) rfl (Aa (Ce (Ce (pv 0) (by rfl)) (by rfl)) (Aa (Ce (Ce (pv 0) (by rfl)) (by rfl)) Ac))) Ai (Bd _))
   (Ag Fg)
   Bh)))))))),?_⟩
 walk_at "x"
 refine⟨ll,k,rfl,SqL.of hl,k0,k1,?_⟩
 walk_at "x"
 refine⟨x,BX,dx,[],rfl,hx,er.cl_Sun,er.na_Sun_start,by decide,?_⟩
 refine Uc fun H1 k1' x1=>?_
 walk_at "x"
 refine⟨ll,_,rfl,.inl ⟨SqL.of (k1' _ _ lx hl),fun p hp=>?_⟩⟩
 have px:x≠p:=By x1 hp
 refine fresh hp fun H1' s1' t1'=>?_
 have x1:=s1' _ _ x1
 walk_at "x"
 refine⟨x,BX,dx,_,rfl,x1,er.cl_Sun,er.na_Sun_months,(by show 1<1000;decide),?_⟩
 refine Uc fun H2 k2 x2=>?_
 walk_at "x"
 refine⟨x,BX,dx,_,rfl,x2,er.cl_Sun,er.na_Sun_leap,(by show 2<1000;decide),?_⟩
 refine Uc fun H3 k3 x3=>?_
 have k03:KB x H H3:=fun y o hy e=>k3 y o hy (k2 y o hy (s1' _ _ (k1' y o hy e)))
 have l3:=k03 _ _ lx hl
 have t3:=k3 _ _ (Ne.symm px) (k2 _ _ (Ne.symm px) t1')
 walk_at "x"
 refine⟨ll,[k],rfl,SqL.of l3,?_⟩
 rw[show ([k]:List Int).sum=k from Int.add_zero k]
 walk_at "x"
 refine fun y dy hy hdy ne=>⟨y,dy,k,rfl,BR,k0,k1,fun H4 k4 M4=>⟨rfl,?_⟩⟩
 have s4:=Jk hy hdy ne k4
 have x4:=s4 _ _ x3
 have yx:y≠x:=fun e=>by subst e;rw[x3] at hy;cases hy
 walk_at "x"
 refine⟨x,BX,dx,_,rfl,x4,er.cl_Sun,er.na_Sun_years,(by show 3<1000;decide),?_⟩
 refine Uc fun H5 k5 x5=>?_
 have M5:=M4.kb x4 yx k5
 have t5:=k5 _ _ (Ne.symm px) (s4 _ _ t3)
 have l5:=k5 _ _ lx (s4 _ _ l3)
 have k05:KB x H H5:=fun y o hy e=>k5 y o hy (s4 _ _ (k03 y o hy e))
 obtain⟨d5,tp,e5,T5⟩:=id M5
 walk_at "x"
 refine Lp (SqL.of l5) dJ ?_
 walk_at "x"
 refine⟨x,BX,dx,_,_,rfl,x5,er.cl_Sun,er.na_Sun_years,rfl,?_⟩
 walk_at "x"
 refine⟨y,Ae,d5,_,_,rfl,e5,er.cl_Measure,er.na_Measure_terms,rfl,?_⟩
 walk_at "x"
 refine⟨tp,_,rfl,SqT.of T5,fun H6 s6=>?_⟩
 walk_at "x"
 refine Ck (by omega) ?_
 walk_at "x"
 have x6:=s6 _ _ x5
 have e6:=s6 _ _ e5
 refine⟨x,BX,dx,_,_,rfl,x6,er.cl_Sun,er.na_Sun_years,rfl,?_⟩
 walk_at "x"
 refine⟨y,Ae,d5,_,_,rfl,e6,er.cl_Measure,er.na_Measure_base,rfl,?_⟩
 walk_at "x"
 refine⟨x,BX,dx,_,_,rfl,x6,er.cl_Sun,er.na_Sun_years,rfl,?_⟩
 walk_at "x"
 refine⟨y,Ae,d5,_,_,rfl,e6,er.cl_Measure,er.na_Measure_terms,rfl,?_⟩
 walk_at "x"
 refine⟨tp,_,rfl,SqT.of (s6 _ _ T5),fun H7 s7=>?_⟩
 walk_at "x"
 refine Ck (by omega) ?_
 walk_at "x"
 refine q _ (fun y o hy e=>s7 _ _ (s6 _ _ (k05 y o hy e))) ⟨dx,p,y,s7 _ _ x6,s7 _ _ (s6 _ _ t5),(M5.same s6).same s7⟩
theorem Pg:BV ["self","year"] ["self","year"] (Ao G3):=by walk_at "s"
theorem QG{f:Addr}{fd:FuncData}(F:Fun K "year_start" "Sun.year_start" G3 f fd)(er:Dr K mg Aw Af Ad BW Be Al Ah An Az CZ DP Ax Av Ba Ay Bl Bc Ak Aq CJ Bq CN CK Bb Ar Aj Ae Bf BX Am)(c_Measure_upto:Eb P w K mg base CX0 2 Ae "upto" ["self","k"] (Mh Ae)):Bu P w K mg base CX0 3 f fd ["self","year"] (bL BX Ae):=by
 refine F.ok (k:=2) Pg (fun vs H Q E h=>?_) (fun cdv A outer s H vs Q E hr h=>?_)
 ·obtain⟨x,n,s,k,rfl,_⟩:=h
  rfl
 obtain⟨x,n,s,k,rfl,⟨dx,p,y,hx,hp,d2,tp,e2,T2⟩,k0,k1,n0,n1,q⟩:=h
 refine⟨_,(Ag (BZ (BP Dj (Ce (pv 0) (by rfl)) (Fx c_Measure_upto er.cl_Measure (hr.mono (by decide)) (Ce (pv 0) (by rfl)) (Aa (pv 1) Ac))))),?_⟩
 walk_at "x"
 refine⟨x,BX,dx,_,_,rfl,hx,er.cl_Sun,er.na_Sun_start,rfl,?_⟩
 walk_at "x"
 refine⟨x,BX,dx,_,_,rfl,hx,er.cl_Sun,er.na_Sun_years,rfl,?_⟩
 walk_at "x"
 refine⟨y,d2,_,rfl,e2,rfl,?_⟩
 walk_at "x"
 refine⟨y,d2,tp,n,k,_,rfl,e2,rfl,rfl,T2,by omega,by omega,n0,n1,fun H' s'=>?_⟩
 walk_at "x"
 exact q _ s'
theorem T7:BV ["self","day"] ["self","day"] (Ao JR):=by walk_at "s"
theorem Ut{f:Addr}{fd:FuncData}(F:Fun K "year_at" "Sun.year_at" JR f fd)(er:Dr K mg Aw Af Ad BW Be Al Ah An Az CZ DP Ax Av Ba Ay Bl Bc Ak Aq CJ Bq CN CK Bb Ar Aj Ae Bf BX Am)(c_Measure_seek:Eb P w K mg base CX0 3 Ae "seek" ["self","total"] (Td Ae)):Bu P w K mg base CX0 4 f fd ["self","day"] (Zh BX Ae):=by
 refine F.ok (k:=3) T7 (fun vs H Q E h=>?_) (fun cdv A outer s H vs Q E hr h=>?_)
 ·obtain⟨x,n,s,rfl,_⟩:=h
  rfl
 obtain⟨x,n,s,rfl,⟨dx,p,y,hx,hp,M⟩,s0,s1,n0,n1,q⟩:=h
 obtain⟨d2,tp,e2,T2⟩:=id M
 refine⟨_,(Ag (BZ (Fx c_Measure_seek er.cl_Measure (hr.mono (by decide)) (Ce (pv 0) (by rfl)) (Aa (BP Ei (pv 1) (Ce (pv 0) (by rfl))) Ac)))),?_⟩
 walk_at "x"
 refine⟨x,BX,dx,_,_,rfl,hx,er.cl_Sun,er.na_Sun_years,rfl,?_⟩
 walk_at "x"
 refine⟨y,d2,_,rfl,e2,rfl,?_⟩
 walk_at "x"
 refine⟨x,BX,dx,_,_,rfl,hx,er.cl_Sun,er.na_Sun_start,rfl,?_⟩
 walk_at "x"
 exact⟨y,n-s,5,rfl,M,by omega,by omega,by omega,by omega,q⟩
theorem K6:BV ["self","year","told"] ["self","year"] (Ao JS):=by walk_at "s"
theorem Uu{f:Addr}{fd:FuncData}(F:Fun K "lengths" "Sun.lengths" JS f fd)(er:Dr K mg Aw Af Ad BW Be Al Ah An Az CZ DP Ax Av Ba Ay Bl Bc Ak Aq CJ Bq CN CK Bb Ar Aj Ae Bf BX Am)(c_Measure_at:Eb P w K mg base CX0 2 Ae "at" ["self","k"] (gr Ae))(z_list:mg "list"=none):Bu P w K mg base CX0 3 f fd ["self","year"] (Sg BX Ae):=by
 refine F.ok (k:=2) K6 (fun vs H Q E h=>?_) (fun cdv A outer s H vs Q E hr h=>?_)
 ·obtain⟨x,n,s,k,rfl,_⟩:=h
  rfl
 obtain⟨x,n,s,k,rfl,⟨dx,p,y,hx,hp,M⟩,q⟩:=h
 refine⟨_,(Ab (BK (i:=2) K6.nd rfl (by walk_at "o") (Dc Xw rfl z_list PyProof.Rows.boot_list (Aa (Ce (pv 0) (by rfl)) Ac)))
  (Ab (ig (BP Ei (BP Dj (Bp JB (pv 2) (BP Ei (Ce (pv 0) (by rfl)) Ai) (fun _ _=>rfl)) (Fx c_Measure_at er.cl_Measure (hr.mono (by decide)) (Ce (pv 0) (by rfl)) (Aa (pv 1) Ac))) (Ce (Ce (pv 0) (by rfl)) (by rfl))) (jA (pv 2) (BP Ei (Ce (pv 0) (by rfl)) Ai) set_list))
  (Ag (BZ (pv 2))))),?_⟩
 walk_at "x"
 refine⟨x,BX,dx,_,_,rfl,hx,er.cl_Sun,er.na_Sun_months,rfl,?_⟩
 walk_at "x"
 refine⟨p,_,rfl,.inr (SqT.of hp),fun l hl=>?_⟩
 refine fresh hl fun H1 s1 t1=>?_
 have M1:=M.same s1
 obtain⟨d2,tp,e2,T2⟩:=id M1
 have x1:=s1 _ _ hx
 walk_at "x"
 refine⟨x,BX,dx,_,_,rfl,x1,er.cl_Sun,er.na_Sun_leap,rfl,?_⟩
 walk_at "x"
 refine Lp (SqL.of t1) dJ ?_
 walk_at "x"
 refine⟨x,BX,dx,_,_,rfl,x1,er.cl_Sun,er.na_Sun_years,rfl,?_⟩
 walk_at "x"
 refine⟨y,d2,_,rfl,e2,rfl,?_⟩
 walk_at "x"
 refine⟨y,n,k,rfl,M1,fun H2 s2=>?_⟩
 have x2:=s2 _ _ x1
 walk_at "x"
 refine⟨x,BX,dx,_,_,rfl,x2,er.cl_Sun,er.na_Sun_years,rfl,?_⟩
 walk_at "x"
 refine⟨y,Ae,d2,_,_,rfl,s2 _ _ e2,er.cl_Measure,er.na_Measure_base,rfl,?_⟩
 walk_at "x"
 refine⟨x,BX,dx,_,_,rfl,x2,er.cl_Sun,er.na_Sun_leap,rfl,?_⟩
 walk_at "x"
 have t2:=s2 _ _ t1
 refine bT (k:=0) t2 (by simp) ?_
 walk_at "x"
 refine q l _ hl (fun b o h=>?_) (by rw[BR];show _=some (HO.lst [V.int k]);rw[show k+k-k=k by omega];rfl)
 rw[Bw (By h hl)]
 exact s2 _ _ (s1 _ _ h)
theorem Ph:BV ["self","years"] ["self"] (Ao Lk):=by walk_at "s"
theorem Xi{f:Addr}{fd:FuncData}(F:Fun K "cycle" "Sun.cycle" Lk f fd)(er:Dr K mg Aw Af Ad BW Be Al Ah An Az CZ DP Ax Av Ba Ay Bl Bc Ak Aq CJ Bq CN CK Bb Ar Aj Ae Bf BX Am)(c_Measure_period:Eb P w K mg base CX0 1 Ae "period" ["self"] (Qi Ae))(c_Measure_upto:Eb P w K mg base CX0 2 Ae "upto" ["self","k"] (Mh Ae)):Bu P w K mg base CX0 3 f fd ["self"] (Zt BX Ae):=by
 refine F.ok (k:=2) Ph (fun vs H Q E h=>?_) (fun cdv A outer s H vs Q E hr h=>?_)
 ·obtain⟨x,s,k,rfl,_⟩:=h
  rfl
 obtain⟨x,s,k,rfl,⟨dx,p,y,hx,hp,M⟩,k0,k1,q⟩:=h
 obtain⟨d2,tp,e2,T2⟩:=id M
 refine⟨_,(Ab (BK (i:=1) Ph.nd rfl (by walk_at "o") (Dv c_Measure_period er.cl_Measure (hr.mono (by decide)) (Ce (pv 0) (by rfl))))
  (Ag (BZ (Bv (Aa (pv 1) (Aa (Fx c_Measure_upto er.cl_Measure (hr.mono (by decide)) (Ce (pv 0) (by rfl)) (Aa (pv 1) Ac)) Ac)))))),?_⟩
 walk_at "x"
 refine⟨x,BX,dx,_,_,rfl,hx,er.cl_Sun,er.na_Sun_years,rfl,?_⟩
 walk_at "x"
 refine⟨y,d2,_,rfl,e2,rfl,?_⟩
 walk_at "x"
 refine⟨y,k,rfl,M,?_⟩
 walk_at "x"
 refine⟨x,BX,dx,_,_,rfl,hx,er.cl_Sun,er.na_Sun_years,rfl,?_⟩
 walk_at "x"
 refine⟨y,d2,_,rfl,e2,rfl,?_⟩
 walk_at "x"
 refine⟨y,d2,tp,1,k,_,rfl,e2,rfl,rfl,T2,by omega,by omega,by omega,by omega,fun H' s'=>?_⟩
 rw[Int.mul_one]
 walk_at "x"
 refine⟨two,fun c hc=>?_⟩
 exact q _ _ (s'.trans (Bk hc _)) BR
theorem Ed:BV ["self","day","year","rest","month","length"] ["self","day"] (Ao JT):=by walk_at "s"
theorem Uv{f:Addr}{fd:FuncData}(F:Fun K "date_of" "Calendar.date_of" JT f fd)(er:Dr K mg Aw Af Ad BW Be Al Ah An Az CZ DP Ax Av Ba Ay Bl Bc Ak Aq CJ Bq CN CK Bb Ar Aj Ae Bf BX Am)(c_Sun_year_at:Eb P w K mg base CX0 4 BX "year_at" ["self","day"] (Zh BX Ae))(c_Sun_year_start:Eb P w K mg base CX0 3 BX "year_start" ["self","year"] (bL BX Ae))(c_Sun_lengths:Eb P w K mg base CX0 3 BX "lengths" ["self","year"] (Sg BX Ae)):Bu P w K mg base CX0 5 f fd ["self","day"] (Tr BX Ae):=by
 refine F.ok (k:=4) Ed (fun vs H Q E h=>?_) (fun cdv A outer s H vs Q E hr h=>?_)
 ·obtain⟨x,n,s,rfl,_⟩:=h
  rfl
 obtain⟨x,n,s,rfl,S,s0,s1,n0,n1,q⟩:=h
 refine⟨_,(Ab (BK (i:=2) Ed.nd rfl (by walk_at "o") (Fx c_Sun_year_at er.cl_Sun (hr.mono (by decide)) (pv 0) (Aa (pv 1) Ac)))
  (Ab (BK (i:=3) Ed.nd rfl (by walk_at "o") (BP Ei (pv 1) (Fx c_Sun_year_start er.cl_Sun (hr.mono (by decide)) (pv 0) (Aa (pv 2) Ac))))
  (Ab (BK (i:=4) Ed.nd rfl (by walk_at "o") Ai)
  (Ab (J9 PassesOwn.never rfl (Pu (Fx c_Sun_lengths er.cl_Sun (hr.mono (by decide)) (pv 0) (Aa (pv 2) Ac))) (Hi (i:=5) Ed.nd rfl (by walk_at "o"))
   (Ab (CG (BL GX (pv 3) (pv 5) (Bd _))
   (Ag iZ)
   Bh)
  (Ab (BK (i:=3) Ed.nd rfl (by walk_at "o") (BP Ei (pv 3) (pv 5)))
  (Ag (BK (i:=4) Ed.nd rfl (by walk_at "o") (BP Dj (pv 4) Ai))))))
  (Ag (BZ (Bv (Aa (pv 2) (Aa (pv 4) (Aa (BP Dj (pv 3) Ai) Ac)))))))))),?_⟩
 walk_at "x"
 obtain⟨dx,p,yy,hx,_⟩:=id S
 refine⟨x,dx,_,rfl,hx,rfl,?_⟩
 walk_at "x"
 refine⟨x,n,s,rfl,S,s0,s1,n0,n1,?_⟩
 walk_at "x"
 refine⟨x,dx,_,rfl,hx,rfl,?_⟩
 walk_at "x"
 refine⟨x,(n-s)/5,s,5,rfl,S,by omega,by omega,by omega,by omega,fun H2 s2=>?_⟩
 have S2:=S.same s2
 walk_at "x"
 walk_at "f"
 walk_at "x"
 obtain⟨dx2,p2,yy2,hx2,_⟩:=id S2
 refine⟨x,dx2,_,rfl,hx2,rfl,?_⟩
 walk_at "x"
 refine⟨x,(n-s)/5,s,5,rfl,S2,fun l H3 hl s3 t3=>?_⟩
 refine⟨l,rfl,⟨_,SqL.of t3⟩,QT (xs:=[.int 5]) (fun i σ' H'=>H3=H'∧i=0∧σ'=[some (.ref x),some (.int n),some (.int ((n-s)/5)),some (.int (n-(s+5*((n-s)/5)))),some (.int 1),none]) ⟨rfl,rfl,rfl⟩ ?_ ?_ ?_⟩
 ·rintro i σ' H' _ ⟨rfl,_⟩
  exact SqL.of t3
 ·rintro i v σ' H' hv ⟨rfl,rfl,rfl⟩
  obtain rfl:V.int 5=v:=by simpa using hv
  walk_at "x"
  refine Ca (fun _=>?_) (fun c=>absurd (show n-(s+5*((n-s)/5))<5 by omega) c)
  walk_at "x"
  refine qb ?_
  walk_at "x"
  refine⟨three,fun p hp'=>?_⟩
  exact q p _ _ (s2.trans (s3.trans (Bk hp' _))) BR
 ·rintro σ' H' ⟨_,z,_⟩
  cases z
theorem Nr:BV ["self","old","new","day"] ["self","old","new","day"] (Ao Gj):=by walk_at "s"
theorem Og{f:Addr}{fd:FuncData}(F:Fun K "__init__" "Change.__init__" Gj f fd)(er:Dr K mg Aw Af Ad BW Be Al Ah An Az CZ DP Ax Av Ba Ay Bl Bc Ak Aq CJ Bq CN CK Bb Ar Aj Ae Bf BX Am)(c_Sun_date_of:Eb P w K mg base CX0 5 BX "date_of" ["self","day"] (Tr BX Ae)):Bu P w K mg base CX0 6 f fd ["self","old","new","day"] (Ql BX Ae Am):=by
 refine F.ok (k:=5) Nr (fun vs H Q E h=>?_) (fun cdv A outer s H vs Q E hr h=>?_)
 ·obtain⟨H0,x,dx,o,nw,k,rfl,_⟩:=h
  rfl
 obtain⟨H0,x,dx,o,nw,k,rfl,hx,hdx,ne,eH,ha,hb,k0,k1,q⟩:=h
 have s0:Bo H0 H:=by rw[eH];exact m9 hx hdx
 have x0:H x=some (.ins Am dx []):=by rw[eH];exact BR
 clear eH
 refine⟨_,(Ab (FP (pv 0) (pv 1) (by rfl))
  (Ab (FP (pv 0) (pv 2) (by rfl))
  (Ab (FP (pv 0) (pv 3) (by rfl))
  (Ab (FP (pv 0) (Fx c_Sun_date_of er.cl_Sun (hr.mono (by decide)) (pv 1) (Aa (BP Ei (pv 3) Ai) Ac)) (by rfl))
  (Ab (FP (pv 0) (Fx c_Sun_date_of er.cl_Sun (hr.mono (by decide)) (pv 2) (Aa (pv 3) Ac)) (by rfl))
  (Ag (CG (BL (rK hr.units0) (Ce (pv 0) (by rfl)) (Ce (pv 0) (by rfl)) (Bd _))
   (Ag Fg)
   Bh))))))),?_⟩
 walk_at "x"
 refine⟨x,Am,dx,[],rfl,x0,er.cl_Change,er.na_Change_old,by decide,?_⟩
 have s1:Bo H0 (upd H x (.ins Am dx (Ff (Str.ofString "old") (.ref o) []))):=Hu hx s0
 have x1:upd H x (.ins Am dx (Ff (Str.ofString "old") (.ref o) [])) x=some (.ins Am dx [(Str.ofString "old",.ref o)]):=BR
 generalize upd H x (.ins Am dx (Ff (Str.ofString "old") (.ref o) []))=H1 at s1 x1 ⊢
 walk_at "x"
 refine⟨x,Am,dx,_,rfl,x1,er.cl_Change,er.na_Change_new,(by show 1<1000;decide),?_⟩
 have s2:Bo H0 (upd H1 x (.ins Am dx (Ff (Str.ofString "new") (.ref nw) [(Str.ofString "old",.ref o)]))):=Hu hx s1
 have x2:upd H1 x (.ins Am dx (Ff (Str.ofString "new") (.ref nw) [(Str.ofString "old",.ref o)])) x=some (.ins Am dx [(Str.ofString "old",.ref o),(Str.ofString "new",.ref nw)]):=BR
 generalize upd H1 x (.ins Am dx (Ff (Str.ofString "new") (.ref nw) [(Str.ofString "old",.ref o)]))=H2 at s2 x2 ⊢
 walk_at "x"
 refine⟨x,Am,dx,_,rfl,x2,er.cl_Change,er.na_Change_day,(by show 2<1000;decide),?_⟩
 have s3:Bo H0 (upd H2 x (.ins Am dx (Ff (Str.ofString "day") (.int k) [(Str.ofString "old",.ref o),(Str.ofString "new",.ref nw)]))):=Hu hx s2
 have x3:upd H2 x (.ins Am dx (Ff (Str.ofString "day") (.int k) [(Str.ofString "old",.ref o),(Str.ofString "new",.ref nw)])) x=some (.ins Am dx [(Str.ofString "old",.ref o),(Str.ofString "new",.ref nw),(Str.ofString "day",.int k)]):=BR
 generalize upd H2 x (.ins Am dx (Ff (Str.ofString "day") (.int k) [(Str.ofString "old",.ref o),(Str.ofString "new",.ref nw)]))=H3 at s3 x3 ⊢
 walk_at "x"
 obtain⟨dy,_,_,e,_⟩:=ha.same s3
 refine⟨o,dy,_,rfl,e,rfl,?_⟩
 walk_at "x"
 refine⟨o,_,0,rfl,ha.same s3,by omega,by omega,by omega,by omega,fun p r H4 s4 t4=>?_⟩
 have s04:=s3.trans s4
 walk_at "x"
 refine⟨x,Am,dx,_,rfl,s4 _ _ x3,er.cl_Change,er.na_Change_last_old,(by show 3<1000;decide),?_⟩
 have s5:Bo H0 (upd H4 x (.ins Am dx (Ff (Str.ofString "last_old") (.ref p) [(Str.ofString "old",.ref o),(Str.ofString "new",.ref nw),(Str.ofString "day",.int k)]))):=Hu hx s04
 have x5:upd H4 x (.ins Am dx (Ff (Str.ofString "last_old") (.ref p) [(Str.ofString "old",.ref o),(Str.ofString "new",.ref nw),(Str.ofString "day",.int k)])) x=some (.ins Am dx [(Str.ofString "old",.ref o),(Str.ofString "new",.ref nw),(Str.ofString "day",.int k),(Str.ofString "last_old",.ref p)]):=BR
 have px:p≠x:=Jj t4 (s4 _ _ x3) (by intro z;cases z)
 have t5:upd H4 x (.ins Am dx (Ff (Str.ofString "last_old") (.ref p) [(Str.ofString "old",.ref o),(Str.ofString "new",.ref nw),(Str.ofString "day",.int k)])) p=some (.tup [.int ((k-1-0)/5),.int 1,.int r]):=by rw[Bw px];exact t4
 generalize upd H4 x (.ins Am dx (Ff (Str.ofString "last_old") (.ref p) [(Str.ofString "old",.ref o),(Str.ofString "new",.ref nw),(Str.ofString "day",.int k)]))=H5 at s5 x5 t5 ⊢
 walk_at "x"
 obtain⟨dy',_,_,e',_⟩:=hb.same s5
 refine⟨nw,dy',_,rfl,e',rfl,?_⟩
 walk_at "x"
 refine⟨nw,_,-50,rfl,hb.same s5,by omega,by omega,by omega,by omega,fun p' r' H6 s6 t6=>?_⟩
 have s06:=s5.trans s6
 have t56:=s6 _ _ t5
 walk_at "x"
 refine⟨x,Am,dx,_,rfl,s6 _ _ x5,er.cl_Change,er.na_Change_first_new,(by show 4<1000;decide),?_⟩
 have s7:Bo H0 (upd H6 x (.ins Am dx (Ff (Str.ofString "first_new") (.ref p') [(Str.ofString "old",.ref o),(Str.ofString "new",.ref nw),(Str.ofString "day",.int k),(Str.ofString "last_old",.ref p)]))):=Hu hx s06
 have x7:upd H6 x (.ins Am dx (Ff (Str.ofString "first_new") (.ref p') [(Str.ofString "old",.ref o),(Str.ofString "new",.ref nw),(Str.ofString "day",.int k),(Str.ofString "last_old",.ref p)])) x=some (.ins Am dx (vz o nw k p p')):=BR
 have px':p'≠x:=Jj t6 (s6 _ _ x5) (by intro z;cases z)
 have t7:upd H6 x (.ins Am dx (Ff (Str.ofString "first_new") (.ref p') [(Str.ofString "old",.ref o),(Str.ofString "new",.ref nw),(Str.ofString "day",.int k),(Str.ofString "last_old",.ref p)])) p=some (.tup [.int ((k-1-0)/5),.int 1,.int r]):=by rw[Bw px];exact t56
 have t7':upd H6 x (.ins Am dx (Ff (Str.ofString "first_new") (.ref p') [(Str.ofString "old",.ref o),(Str.ofString "new",.ref nw),(Str.ofString "day",.int k),(Str.ofString "last_old",.ref p)])) p'=some (.tup [.int ((k- -50)/5),.int 1,.int r']):=by rw[Bw px'];exact t6
 generalize upd H6 x (.ins Am dx (Ff (Str.ofString "first_new") (.ref p') [(Str.ofString "old",.ref o),(Str.ofString "new",.ref nw),(Str.ofString "day",.int k),(Str.ofString "last_old",.ref p)]))=H7 at s7 x7 t7 t7' ⊢
 walk_at "x"
 refine⟨x,Am,dx,_,_,rfl,x7,er.cl_Change,er.na_Change_first_new,rfl,?_⟩
 walk_at "x"
 refine⟨x,Am,dx,_,_,rfl,x7,er.cl_Change,er.na_Change_last_old,rfl,?_⟩
 refine⟨p',p,[(k- -50)/5,1,r'],[(k-1-0)/5,1,r],rfl,rfl,SqT.of t7',SqT.of t7,rfl,?_⟩
 rw[uw (by omega)]
 walk_at "x"
 refine Hc ?_
 walk_at "x"
 exact q _ s7 ⟨dx,_,x7,rfl⟩
theorem Rw:BV ["self"] ["self"] (Ao IV):=by walk_at "s"
theorem SN{f:Addr}{fd:FuncData}(F:Fun K "cycle" "Change.cycle" IV f fd)(er:Dr K mg Aw Af Ad BW Be Al Ah An Az CZ DP Ax Av Ba Ay Bl Bc Ak Aq CJ Bq CN CK Bb Ar Aj Ae Bf BX Am):Bu P w K mg base (CX1 P w) 1 f fd ["self"] (Wt Am Al):=by
 refine F.okE (k:=0) Rw (fun vs H Q E h=>?_) (fun cdv A outer s H vs Q E hr h T=>?_)
 ·obtain⟨x,rfl,_⟩:=h
  rfl
 obtain⟨x,rfl,q⟩:=h
 refine⟨_,(Ag (Ef T rfl er.x_NoCycle rfl (Aa BJ Ac))),?_⟩
 walk_at "x"
 exact⟨(by show 1≤sizeLine;decide),q⟩
theorem Qq:BV ["month","day","step"] ["month","day","step"] (Ao HS):=by walk_at "s"
theorem RJ{f:Addr}{fd:FuncData}(F:Fun K "refuse_wanted" "refuse_wanted" HS f fd)(er:Dr K mg Aw Af Ad BW Be Al Ah An Az CZ DP Ax Av Ba Ay Bl Bc Ak Aq CJ Bq CN CK Bb Ar Aj Ae Bf BX Am)(c_refuse_below_one:CQ P w K mg base 1 "refuse_below_one" ["number"] (Gv Af)):Bu P w K mg base (CX1 P w) 2 f fd ["month","day","step"] (Wh Af):=by
 refine F.okE (k:=1) Qq (fun vs H Q E h=>?_) (fun cdv A outer s H vs Q E hr h T=>?_)
 ·obtain⟨m,d,st,rfl,_⟩:=h
  cases m<;>cases d<;>rfl
 obtain⟨m,d,st,rfl,qs,qe⟩:=h
 have lst:(Ot m d st↔(∀i,m=some i→1≤i)∧d≠some 0∧1≤st):=⟨fun W=>⟨W.m1,W.d0,W.st⟩,fun W=>⟨W.1,W.2.1,W.2.2⟩⟩
 have ret:∀{H':Hp},Bo H H'→¬Ot m d st→Il Af H' E:=fun s h H2 s2=>qe h H2 (s.trans s2)
 rw[lst] at qs qe ret
 refine⟨_,(Ab (Fi (CG (BL mU (pv 0) JX (Bd _))
  (Ag (CT (Bg T c_refuse_below_one (hr.mono (by decide)) rfl (Aa (pv 0) Ac))))
  Bh))
  (Ab (CG (BL Cg (pv 1) Ai (Bd _))
   (Ag (Ef T rfl er.x_NoNumber rfl (Aa BJ Ac)))
   Bh)
  (Ag (CT (Bg T c_refuse_below_one (hr.mono (by decide)) rfl (Aa (pv 2) Ac)))))),?_⟩
 cases m with
 | none=>
  walk_at "x"
  refine Eh (fun σ' H'=>H'=H∧σ'=[some .non,some (oI d),some (.int st)]) ?_ ?_
  ·walk_at "x"
   refine⟨rfl,?_⟩
   walk_at "x"
   refine Hc ?_
   walk_at "x"
   exact⟨rfl,rfl⟩
  rintro σ' H' ⟨rfl,rfl⟩
  cases d with
  | none=>
   walk_at "x"
   refine Ck (fun e=>nomatch e) ?_
   walk_at "x"
   exact⟨st,rfl,fun h=>qs ⟨fun i e=>(nomatch e),fun e=>(nomatch e),h⟩,fun h=>ret (Bo.refl _) fun W=>absurd W.2.2 (by omega)⟩
  | some i=>
   walk_at "x"
   refine Ca (fun e=>?_) (fun e=>?_)
   ·walk_at "x"
    exact⟨(by show 1≤sizeLine;decide),ret (Bo.refl _) (fun W=>W.2.1 (by rw[V.int.inj e])) _ (Bo.refl _)⟩
   ·walk_at "x"
    exact⟨st,rfl,fun h=>qs ⟨fun i e=>(nomatch e),(fun z=>e (by cases z;rfl)),h⟩,fun h=>ret (Bo.refl _) fun W=>absurd W.2.2 (by omega)⟩
 | some j=>
  walk_at "x"
  refine Eh (fun σ' H'=>H'=H∧1≤j∧σ'=[some (.int j),some (oI d),some (.int st)]) ?_ ?_
  ·walk_at "x"
   refine⟨rfl,?_⟩
   walk_at "x"
   refine Lz ?_
   walk_at "x"
   refine⟨j,rfl,fun h1=>⟨rfl,h1,rfl⟩,fun h1=>ret (Bo.refl _) fun W=>absurd (W.1 j rfl) (by omega)⟩
  rintro σ' H' ⟨rfl,j1,rfl⟩
  cases d with
  | none=>
   walk_at "x"
   refine Ck (fun e=>nomatch e) ?_
   walk_at "x"
   exact⟨st,rfl,fun h=>qs ⟨(fun i e=>by cases e;exact j1),fun e=>(nomatch e),h⟩,fun h=>ret (Bo.refl _) fun W=>absurd W.2.2 (by omega)⟩
  | some i=>
   walk_at "x"
   refine Ca (fun e=>?_) (fun e=>?_)
   ·walk_at "x"
    exact⟨(by show 1≤sizeLine;decide),ret (Bo.refl _) (fun W=>W.2.1 (by rw[V.int.inj e])) _ (Bo.refl _)⟩
   ·walk_at "x"
    exact⟨st,rfl,fun h=>qs ⟨(fun i e=>by cases e;exact j1),(fun z=>e (by cases z;rfl)),h⟩,fun h=>ret (Bo.refl _) fun W=>absurd W.2.2 (by omega)⟩
theorem Jd:BV ["first","length","day","place"] ["first","length","day"] (Ao HY):=by walk_at "s"
theorem RM{f:Addr}{fd:FuncData}(F:Fun K "days_of_month" "days_of_month" HY f fd)(z_list:mg "list"=none)(z_range:mg "range"=none):Bu P w K mg base CX0 1 f fd ["first","length","day"] Wr:=by
 refine F.ok (k:=0) Jd (fun vs H Q E h=>?_) (fun cdv A outer s H vs Q E hr h=>?_)
 ·obtain⟨rfl,_⟩:=h
  rfl
 obtain⟨rfl,q⟩:=h
 refine⟨_,(Ab (CG (BL OJ (pv 2) JX (Bd _))
  (Ag (BZ (Z8 rfl rfl z_list rfl z_range (Aa (pv 0) (Aa (BP Dj (pv 0) (pv 1)) Ac)))))
  Bh)
  (Ab (BK (i:=3) Jd.nd rfl (by walk_at "o") (FW (BL GZ (pv 2) Ai (Bd _)) (BP Ei (pv 2) Ai) (BP Dj (pv 1) (pv 2))))
  (Ab (CG (PW.pt (Pr (BL GX (pv 3) Ai (Bd _)) (J8 (BL ur (pv 3) (pv 1) (Bd _)))))
   (Ag (BZ (GC Ac)))
   Bh)
  (Ag (BZ (GC (Aa (BP Dj (pv 0) (pv 3)) Ac))))))),?_⟩
 walk_at "x"
 refine⟨rfl,?_⟩
 walk_at "x"
 refine Hc ?_
 walk_at "x"
 refine Ca (fun h=>absurd h (by decide)) (fun _=>?_)
 walk_at "x"
 refine Ca (fun h=>absurd h (by decide)) (fun _=>?_)
 walk_at "x"
 refine Ca (fun h=>absurd h (by decide)) (fun _=>?_)
 walk_at "x"
 refine⟨(by show 1≤sizeLine;decide),fun l hl=>?_⟩
 exact q l _ hl (Bk hl _) BR
theorem Dt:BV ["calendar","year","month","day","told","first","number","length"] ["calendar","year","month","day"] (Ao Hw):=by walk_at "s"
theorem Rz{f:Addr}{fd:FuncData}(F:Fun K "days_of_year" "days_of_year" Hw f fd)(er:Dr K mg Aw Af Ad BW Be Al Ah An Az CZ DP Ax Av Ba Ay Bl Bc Ak Aq CJ Bq CN CK Bb Ar Aj Ae Bf BX Am)(c_Sun_year_start:Eb P w K mg base CX0 3 BX "year_start" ["self","year"] (bL BX Ae))(c_Sun_lengths:Eb P w K mg base CX0 3 BX "lengths" ["self","year"] (Sg BX Ae))(c_days_of_month:Cal P w K mg base 1 "days_of_month" ["first","length","day"] Wr):Bu P w K mg base CX0 4 f fd ["calendar","year","month","day"] (Wq BX Ae):=by
 refine F.ok (k:=3) Dt (fun vs H Q E h=>?_) (fun cdv A outer s H vs Q E hr h=>?_)
 ·obtain⟨x,rfl,_⟩:=h
  rfl
 obtain⟨x,rfl,S,q⟩:=h
 refine⟨_,(Ab (BK (i:=4) Dt.nd rfl (by walk_at "o") (GC Ac))
  (Ab (BK (i:=5) Dt.nd rfl (by walk_at "o") (Fx c_Sun_year_start er.cl_Sun (hr.mono (by decide)) (pv 0) (Aa (pv 1) Ac)))
  (Ab (BK (i:=6) Dt.nd rfl (by walk_at "o") Ai)
  (Ab (J9 PassesOwn.never rfl (Pu (Fx c_Sun_lengths er.cl_Sun (hr.mono (by decide)) (pv 0) (Aa (pv 1) Ac))) (Hi (i:=7) Dt.nd rfl (by walk_at "o"))
   (Ab (Fi (CG (PW.pt (Pr (BL OJ (pv 2) JX (Bd _)) (J8 (BL Cg (pv 2) (pv 6) (Bd _)))))
   (Ag (CT (NT PySem.F.plainAttrs_list PySem.F.slot_list_extend PySem.F.type_list_extend Mr (pv 4) (Aa (Br c_days_of_month (hr.mono (by decide)) rfl (Aa (pv 5) (Aa (pv 7) (Aa (pv 3) Ac)))) Ac))))
   Bh))
  (Ab (BK (i:=5) Dt.nd rfl (by walk_at "o") (BP Dj (pv 5) (pv 7)))
  (Ag (BK (i:=6) Dt.nd rfl (by walk_at "o") (BP Dj (pv 6) Ai))))))
  (Ag (BZ (pv 4))))))),?_⟩
 walk_at "x"
 refine⟨Nat.zero_le _,fun t0 ht0=>?_⟩
 refine fresh ht0 fun H1 s1 e1=>?_
 have S1:=S.same s1
 walk_at "x"
 obtain⟨dx,p,yy,hx,_⟩:=id S1
 refine⟨x,dx,_,rfl,hx,rfl,?_⟩
 walk_at "x"
 refine⟨x,0,0,5,rfl,S1,by omega,by omega,by omega,by omega,fun H2 s2=>?_⟩
 have S2:=S1.same s2
 have e2:=s2 _ _ e1
 have s12:=s1.trans s2
 walk_at "x"
 refine W9 (bW ?_)
 walk_at "x"
 obtain⟨dx',p',yy',hx',_⟩:=id S2
 refine⟨x,dx',_,rfl,hx',rfl,?_⟩
 walk_at "x"
 refine⟨x,0,0,5,rfl,S2,fun l H3 hl s3 t3=>?_⟩
 have e3:=s3 _ _ e2
 have s13:=s12.trans s3
 have lt:l≠t0:=fun z=>by rw[z,e2] at hl;cases hl
 refine⟨l,rfl,⟨_,SqL.of t3⟩,QT (xs:=[.int 5]) (fun i σ' H'=>Bo H H'∧H' l=some (.lst [.int 5])∧((i=0∧H' t0=some (.lst [])∧σ'=[some (.ref x),some (.int 0),some (.int 1),some (.int (-1)),some (.ref t0),some (.int 0),some (.int 1),none])∨(i=1∧H' t0=some (.lst [.int 4])∧∃f n v,σ'=[some (.ref x),some (.int 0),some (.int 1),some (.int (-1)),some (.ref t0),f,n,v]))) ⟨s13,t3,.inl ⟨rfl,e3,rfl⟩⟩ ?_ ?_ ?_⟩
 ·rintro i σ' H' hk ⟨_,t,_⟩
  exact SqL.of t
 ·rintro i v0 σ' H' hv ⟨sH,tl,⟨rfl,td,rfl⟩ | ⟨rfl,_⟩⟩
  rotate_left
  ·simp at hv
  obtain rfl:V.int 5=v0:=by simpa using hv
  walk_at "x"
  refine Eh (fun σ' H'=>Bo H H'∧H' l=some (.lst [.int 5])∧H' t0=some (.lst [.int 4])∧σ'=[some (.ref x),some (.int 0),some (.int 1),some (.int (-1)),some (.ref t0),some (.int 0),some (.int 1),some (.int 5)]) ?_ ?_
  ·walk_at "x"
   refine⟨rfl,?_⟩
   walk_at "x"
   refine Hc ?_
   walk_at "x"
   refine Jl rfl ?_
   walk_at "x"
   refine XC rfl td ?_
   walk_at "x"
   refine⟨rfl,fun l5 H5 h5 s5 t5=>?_⟩
   refine Q5 ?_
   refine⟨t0,l5,_,_,rfl,rfl,s5 _ _ td,t5,(by show 0+1≤sizeLine;decide),?_⟩
   refine⟨fun r o ho=>?_,?_,BR,rfl⟩
   ·rw[Bw fun z=>by rw[z,ht0] at ho;cases ho]
    exact s5 _ _ (sH _ _ ho)
   ·rw[Bw lt]
    exact s5 _ _ tl
  rintro σ' H4 ⟨sH,tl,td,rfl⟩
  walk_at "x"
  exact⟨sH,tl,.inr ⟨rfl,td,_,_,_,rfl⟩⟩
 rintro σ' H' ⟨sH,tl,⟨z,_⟩ | ⟨_,td,f,n,v,rfl⟩⟩
 ·cases z
 walk_at "x"
 exact q t0 _ ht0 sH td
theorem Je:BV ["calendar","month","day","step","rest","cycle","years","size","days","year"] ["calendar","month","day","step","rest"] (Ao Mm):=by walk_at "s"
theorem jV{f:Addr}{fd:FuncData}{ds:Array Value}(F:Jq K "dated" "dated" Mm f fd ds)(er:Dr K mg Aw Af Ad BW Be Al Ah An Az CZ DP Ax Av Ba Ay Bl Bc Ak Aq CJ Bq CN CK Bb Ar Aj Ae Bf BX Am)(c_refuse_wanted:CQ P w K mg base 2 "refuse_wanted" ["month","day","step"] (Wh Af))(c_Sun_cycle:Eb P w K mg base CX0 3 BX "cycle" ["self"] (Zt BX Ae))(c_Change_cycle:Eb P w K mg base (CX1 P w) 1 Am "cycle" ["self"] (Wt Am Al))(c_common:CQ P w K mg base 3 "common" ["one","other"] (Jc Af))(c_refuse_too_long:CQ P w K mg base 3 "refuse_too_long" ["size"] (GK Ad))(c_days_of_year:Cal P w K mg base 4 "days_of_year" ["calendar","year","month","day"] (Wq BX Ae))(c_round_by:CQ P w K mg base 4 "round_by" ["size","days"] (Hs K Af Ad))(z_range:mg "range"=none):Bu P w K mg base (CX1 P w) 5 f fd ["calendar","month","day","step","rest"] (Qn BX Ae Am ⟨An,Af,Al,Ah,Ad⟩):=by
 refine F.okE (k:=4) Je (fun vs H Q E h=>?_) (fun cdv A outer s H vs Q E hr h T=>?_)
 ·obtain⟨y,m,d,st,r,D,rfl,_⟩:=h
  cases m<;>cases d<;>rfl
 obtain⟨y,m,d,st,r,D,rfl,C,h⟩:=h
 refine⟨_,(Ab (CT (Bg T c_refuse_wanted (hr.mono (by decide)) rfl (Aa (pv 1) (Aa (pv 2) (Aa (pv 3) Ac)))))
  (Ab (BK (i:=5) Je.nd rfl (by walk_at "o") (Z6 (k:=3) T (Hm.cons er.cl_Sun (Eb.toE c_Sun_cycle) (by decide) (Hm.cons er.cl_Change c_Change_cycle (by decide) Hm.nil)) (hr.mono (by decide)) (pv 0)))
  (Ab (BK (i:=6) Je.nd rfl (by walk_at "o") (Bg T c_common (hr.mono (by decide)) rfl (Aa (Bp Bm (pv 5) Ai (fun _ _=>rfl)) (Aa (pv 3) Ac))))
  (Ab (BK (i:=7) Je.nd rfl (by walk_at "o") (BP Dd (BP Df (pv 6) (Bp Bm (pv 5) Ai (fun _ _=>rfl))) (Bp Bm (pv 5) Ai (fun _ _=>rfl))))
  (Ab (CT (Bg T c_refuse_too_long (hr.mono (by decide)) rfl (Aa (pv 7) Ac)))
  (Ab (BK (i:=8) Je.nd rfl (by walk_at "o") (GC Ac))
  (Ab (J9 (by first | exact PassesOwn.leaving | exact PassesOwn.looking | with_unfolding_all passes_own) rfl (V2 rfl z_range (Aa (BP Eg (pv 4) (pv 3)) (Aa (pv 6) (Aa (pv 3) Ac)))) (Hi (i:=9) Je.nd rfl (by walk_at "o"))
   (Ag (CT (NT PySem.F.plainAttrs_list PySem.F.slot_list_extend PySem.F.type_list_extend Mr (pv 8) (Aa (Br c_days_of_year (hr.mono (by decide)) rfl (Aa (pv 0) (Aa (pv 9) (Aa (pv 1) (Aa (pv 2) Ac))))) Ac)))))
  (Ag (BZ (Bg T c_round_by (hr.mono (by decide)) rfl (Aa (pv 7) (Aa (pv 8) Ac)))))))))))),?_⟩
 walk_at "x"
 refine⟨m,d,st,rfl,fun W=>?_,fun W=>?_⟩
 rotate_left
 ·cases C with
  | num=>exact h
  | cyc=>exact absurd (⟨(fun i e=>by cases e;decide),by decide,by decide⟩:Ot (some 1) (some 1) 40000) W
  | long S a b=>exact absurd (⟨(fun i e=>by cases e;decide),by decide,by omega⟩:Ot (some 1) (some 1) st) W
  | made S=>exact absurd (⟨(fun i e=>by cases e;decide),by decide,by decide⟩:Ot (some 1) (some (-1)) 1) W
 walk_at "x"
 cases C with
 | num=>exact absurd (W.m1 0 rfl) (by decide)
 | cyc X=>
  obtain⟨dx,fs,e,l⟩:=X
  exact⟨y,Am,dx,fs,_,List.mem_cons_of_mem _ List.mem_cons_self,rfl,e,l,y,rfl,h H (Bo.refl H)⟩
 | long S a b=>
  have h:Gs Ad (5*st) H E:=h
  obtain⟨dx,p,yy,hx,_⟩:=id S
  refine⟨y,BX,dx,_,_,List.mem_cons_self,rfl,hx,rfl,?_⟩
  refine⟨y,0,5,rfl,S,by omega,by omega,fun c H1 s1 t1=>?_⟩
  walk_at "x"
  refine Bj (SqT.of t1) rfl ?_
  walk_at "x"
  refine⟨_,_,rfl,(show Bt 500 1 by unfold Bt;decide),b.mono (by decide),fun _ _ H2 s2=>?_,fun z=>absurd (⟨by decide,by omega⟩:(1:Int)≤1∧1≤st) z⟩
  have e1:DN 1 st=st:=by
   unfold DN
   simp
  rw[e1]
  walk_at "x"
  refine Bj (SqT.of (s2 _ _ t1)) rfl ?_
  walk_at "x"
  refine Bj (SqT.of (s2 _ _ t1)) rfl ?_
  rw[Int.ediv_one]
  refine Ew ⟨250,64,b,DY (by omega) (by omega) (by decide),by decide⟩ ?_
  rw[Int.mul_comm st 5]
  walk_at "x"
  exact⟨_,rfl,(((show Bt 64 5 from DY (by omega) (by omega) (by decide)).mul b).mono (by decide)),fun z1=>absurd z1 (by omega),fun z1=>h.later (s1.trans s2)⟩
 | made S=>
  obtain⟨dx,p,yy,hx,_⟩:=id S
  refine⟨y,BX,dx,_,_,List.mem_cons_self,rfl,hx,rfl,?_⟩
  refine⟨y,0,5,rfl,S,by omega,by omega,fun c H1 s1 t1=>?_⟩
  walk_at "x"
  refine Bj (SqT.of t1) rfl ?_
  walk_at "x"
  refine⟨_,_,rfl,(show Bt 500 1 by unfold Bt;decide),(show Bt 500 1 by unfold Bt;decide),fun _ _ H2 s2=>?_,fun z=>absurd (⟨by decide,by decide⟩:(1:Int)≤1∧(1:Int)≤1) z⟩
  have e1:DN 1 1=1:=by
   unfold DN
   simp
  rw[e1]
  walk_at "x"
  refine Bj (SqT.of (s2 _ _ t1)) rfl ?_
  walk_at "x"
  refine Bj (SqT.of (s2 _ _ t1)) rfl ?_
  rw[Int.ediv_one]
  refine Ew ⟨64,64,DY (by omega) (by omega) (by decide),DY (by omega) (by omega) (by decide),by decide⟩ ?_
  rw[show (1:Int)*5=5 from rfl]
  walk_at "x"
  refine⟨5,rfl,DY (by omega) (by omega) (by decide),fun _=>?_,fun z1=>absurd z1 (by decide)⟩
  have S2:=(S.same s1).same s2
  walk_at "x"
  refine⟨Nat.zero_le _,fun l hl=>?_⟩
  refine fresh hl fun H3 s3 t3=>?_
  have hlH:H l=none:=(s1.trans s2).free hl
  have S3:=S2.same s3
  have s03:=(s1.trans s2).trans s3
  walk_at "x"
  refine W9 (bU ?_)
  walk_at "x"
  try refine Ew (show (0:Int)<1 by decide) ?_
  try walk_at "x"
  rw[show (0:Int)%1=0 from rfl]
  have hn:((1:Nat):Int)=Builtin.Range.rangeSize 0 1 1:=by decide
  refine⟨0,1,1,rfl,by omega,by omega,Nj (by omega) (by omega) (by omega) (by omega) (by omega) (by omega),1,hn,U5 (fun j σ' H'=>Bo H H'∧∃(ds:List Int) (v:Option V),ds.length≤j∧H' l=some (.lst (ds.map V.int))∧Kg BX Ae H' y 0 5∧σ'=[some (.ref y),some (.int 1),some (.int (-1)),some (.int 1),some (.int 0),some (.ref c),some (.int 1),some (.int 5),some (.ref l),v]) ⟨s03,[],_,Nat.zero_le _,t3,S3,rfl⟩ ?_ ?_⟩
  ·rintro j σ' H4 hj ⟨sH,ds,v,dl,tl,SH,rfl⟩
   obtain rfl:j=0:=by omega
   rw[show (0:Int)+((0:Nat):Int)*1=0 from rfl]
   walk_at "x"
   refine XC rfl tl ?_
   walk_at "x"
   refine⟨y,rfl,SH,fun l5 H5 h5 s5 t5=>?_⟩
   refine Q5 ?_
   have tl5:=s5 _ _ tl
   refine⟨l,l5,_,_,rfl,rfl,tl5,t5,?_,?_⟩
   ·rw[List.length_map,sizeLine_eq]
    show ds.length+1≤_
    omega
   ·refine⟨fun u o ho=>?_,ds++[4],_,?_,by rw[BR,List.map_append];rfl,(SH.same s5).but tl5,rfl⟩
    ·rw[Bw fun z=>by rw[z,hlH] at ho;cases ho]
     exact s5 _ _ (sH _ _ ho)
    ·rw[List.length_append]
     show ds.length+1≤0+1
     omega
  ·rintro σ' H4 ⟨sH,ds,v,dl,tl,SH,rfl⟩
   walk_at "x"
   refine⟨l,ds,_,rfl,SqL.of tl,DY (by omega) (by omega) (by decide),fun _ _ p b H6 s6 t6 B=>?_,fun z=>absurd z (by decide),fun z=>absurd z (by decide)⟩
   exact h p b H6 (sH.trans s6) t6 B.lt
theorem Tv:BV ["number"] ["number"] (Ao JG):=by walk_at "s"
theorem Uk{f:Addr}{fd:FuncData}(F:Fun K "wanted_text" "wanted_text" JG f fd)(z_str:mg "str"=none):Bu P w K mg base CX0 1 f fd ["number"] Wi:=by
 refine F.ok (k:=0) Tv (fun vs H Q E h=>?_) (fun cdv A outer s H vs Q E hr h=>?_)
 ·obtain⟨m,rfl,_⟩:=h
  rfl
 obtain⟨m,rfl,hm,q⟩:=h
 refine⟨_,(Ag (BZ (FW (BL OJ (pv 0) JX (Bd _)) BJ (Dc DX rfl z_str PyProof.Rows.boot_str (Aa (pv 0) Ac))))),?_⟩
 cases m with
 | none=>
  walk_at "x"
  try refine N8 ?_
  walk_at "x"
  refine⟨rfl,?_⟩
  walk_at "x"
  refine Lz ?_
  walk_at "x"
  exact q _ ⟨by decide +kernel,by decide +kernel⟩
 | some j=>
  rw[show oI (some j)=V.int j from rfl]
  walk_at "x"
  try refine N8 ?_
  walk_at "x"
  refine⟨rfl,?_⟩
  walk_at "x"
  refine Hc ?_
  walk_at "x"
  exact⟨_,rfl,hm j rfl,q _ ((TL.int (hm j rfl)).mono (by decide))⟩
theorem NP:BV ["name","month","day","step","rest","words"] ["name","month","day","step","rest"] (Ao J6):=by walk_at "s"
theorem Vj{f:Addr}{fd:FuncData}(F:Fun K "dated_text" "dated_text" J6 f fd)(c_wanted_text:Cal P w K mg base 1 "wanted_text" ["number"] Wi)(c_each_text:Cal P w K mg base 1 "each_text" ["step","rest"] Mj):Bu P w K mg base CX0 2 f fd ["name","month","day","step","rest"] Qo:=by
 refine F.ok (k:=1) NP (fun vs H Q E h=>?_) (fun cdv A outer s H vs Q E hr h=>?_)
 ·obtain⟨z,rfl,_⟩:=h
  rfl
 obtain⟨z,rfl,tz,q⟩:=h
 have lg:∀j:Int,-1≤j→j≤1→∀i,some j=some i→i.natAbs.log2<1920:=fun j a b i e=>by
  cases e
  exact Ke (Ik (by omega) (by omega):Bt 200 j) (by decide) (by decide)
 refine⟨_,(Ab (BK (i:=5) NP.nd rfl (by walk_at "o") (GC (Aa BJ (Aa (pv 0) (Aa (Br c_wanted_text (hr.mono (by decide)) rfl (Aa (pv 1) Ac)) (Aa (Br c_wanted_text (hr.mono (by decide)) rfl (Aa (pv 2) Ac)) Ac))))))
  (Ab (Fi (CG (BL GZ (pv 3) Ai (Bd _))
   (Ag (CT (NT PySem.F.plainAttrs_list PySem.F.slot_list_append PySem.F.type_list_append V5 (pv 5) (Aa (Br c_each_text (hr.mono (by decide)) rfl (Aa (pv 3) (Aa (pv 4) Ac))) Ac))))
   Bh))
  (Ag (BZ (NT PySem.F.plainAttrs_str PySem.F.slot_str_join PySem.F.type_str_join my BJ (Aa (pv 5) Ac)))))),?_⟩
 walk_at "x"
 refine⟨some 1,rfl,lg 1 (by decide) (by decide),fun z1 t1=>?_⟩
 walk_at "x"
 refine⟨some (-1),rfl,lg (-1) (by decide) (by decide),fun z2 t2=>?_⟩
 walk_at "x"
 refine⟨four,fun l hl=>?_⟩
 refine fresh hl fun H1 s1 e1=>?_
 have e1:H1 l=some (.lst (([Str.ofString "date",z,z1,z2]:List Str).map V.str)):=e1
 walk_at "x"
 have t1l:=t1.len
 have t2l:=t2.len
 refine Eh (fun σ' H'=>H'=H1∧σ'=[some (.str z),some (.int 1),some (.int (-1)),some (.int 1),some (.int 0),some (.ref l)]) ?_ ?_
 ·walk_at "x"
  refine Ca (fun c=>absurd c (by decide)) (fun _=>?_)
  walk_at "x"
  exact⟨rfl,rfl⟩
 rintro σ' H2 ⟨rfl,rfl⟩
 walk_at "x"
 refine bc ?_
 walk_at "x"
 refine⟨rfl,?_⟩
 walk_at "x"
 refine⟨_,l,_,rfl,rfl,SqL.of e1,?_,q _ _ s1⟩
 have e1:(Str.ofString " ").length=1:=by decide +kernel
 rw[e1]
 show(4+(z.length+(z1.length+(z2.length+0))))+4*1≤16777216
 omega
theorem Ir:BV ["self","name","calendar","month","day","step","rest","kept"] ["self","name","calendar","month","day","step","rest"] (Ao EY):=by walk_at "s"
theorem QL{f:Addr}{fd:FuncData}{ds:Array Value}(F:Jq K "__init__" "Dated.__init__" EY f fd ds)(er:Dr K mg Aw Af Ad BW Be Al Ah An Az CZ DP Ax Av Ba Ay Bl Bc Ak Aq CJ Bq CN CK Bb Ar Aj Ae Bf BX Am)(c_dated:CQ P w K mg base 5 "dated" ["calendar","month","day","step","rest"] (Qn BX Ae Am ⟨An,Af,Al,Ah,Ad⟩))(c_Rule___init__:VM P w K mg base 1 "Rule" ["self","kept","made_of","words"] (Gf K Az))(c_dated_text:Cal P w K mg base 2 "dated_text" ["name","month","day","step","rest"] Qo):Bu P w K mg base (CX1 P w) 6 f fd ["self","name","calendar","month","day","step","rest"] (Zq K Az [Ax,Av,Ba,Ay,Bc,Ak,Aq,Bb,Ar] ⟨An,Af,Al,Ah,Ad⟩ Av BX Ae Am):=by
 refine F.okE (k:=5) Ir (fun vs H Q E h=>?_) (fun cdv A outer s H vs Q E hr h T=>?_)
 ·obtain⟨x,y,z,m,i,st,r,D,rfl,_⟩:=h
  cases m<;>cases i<;>rfl
 obtain⟨x,y,z,m,i,st,r,D,rfl,tz,C,⟨dx,hx⟩,h⟩:=h
 refine⟨_,(Ab (BK (i:=7) Ir.nd rfl (by walk_at "o") (Bg T c_dated (hr.mono (by decide)) rfl (Aa (pv 2) (Aa (pv 3) (Aa (pv 4) (Aa (pv 5) (Aa (pv 6) Ac)))))))
  (Ag (CT (Gm c_Rule___init__ (hr.mono (by decide)) rfl (Aa (pv 0) (Aa (pv 7) (Aa (Bv Ac) (Aa (Bv (Aa (Br c_dated_text (hr.mono (by decide)) rfl (Aa (pv 1) (Aa (pv 3) (Aa (pv 4) (Aa (pv 5) (Aa (pv 6) Ac)))))) Ac)) Ac)))))))),?_⟩
 walk_at "x"
 refine⟨y,m,i,st,r,D,rfl,C,?_⟩
 cases C with
 | num=>exact h
 | cyc X=>exact h
 | long S a b=>exact h
 | made S=>
  have q:∀(b:Nat) H',KB x H H'→FN K Az [Ax,Av,Ba,Ay,Bc,Ak,Aq,Bb,Ar] H' x 5 b→Q .non H':=h
  intro p b H1 s1 t1 lt
  walk_at "x"
  refine⟨(by show 0≤sizeLine;decide),fun pm hpm=>?_⟩
  refine fresh hpm fun H2 s2 _=>?_
  walk_at "x"
  refine⟨z,rfl,tz,fun zt H3 s3=>?_⟩
  walk_at "x"
  refine⟨(by show 1≤sizeLine;decide),fun pw hpw=>?_⟩
  refine fresh hpw fun H4 s4 _=>?_
  have s4:=s2.trans (s3.trans s4)
  have hx4:=(s1.trans s4) _ _ hx
  walk_at "x"
  exact⟨x,p,pm,pw,Av,dx,rfl,hx4,er.rc_Dated,fun H' kk e=>q b H' (kk.pre (s1.trans s4)) (Fy (List.mem_of_getElem? (i:=1) rfl) er.rc_Dated hx4 (s4 _ _ t1) kk e (by decide) (by decide) lt)⟩
theorem Np:BV ["self","words"] ["self","words"] (Ao Gi):=by walk_at "s"
theorem Oc{f:Addr}{fd:FuncData}(F:Fun K "__init__" "Reader.__init__" Gi f fd)(er:Dr K mg Aw Af Ad BW Be Al Ah An Az CZ DP Ax Av Ba Ay Bl Bc Ak Aq CJ Bq CN CK Bb Ar Aj Ae Bf BX Am)(z_tuple:mg "tuple"=none):Bu P w K mg base CX0 1 f fd ["self","words"] (Wo Aj):=by
 refine F.ok (k:=0) Np (fun vs H Q E h=>?_) (fun cdv A outer s H vs Q E hr h=>?_)
 ·obtain⟨x,dx,l,ws,rfl,_⟩:=h
  rfl
 obtain⟨x,dx,l,ws,rfl,hx,hl,wl,wo,wn,q⟩:=h
 have lx:l≠x:=Jj hl hx (by intro z;cases z)
 refine⟨_,(Ab (FP (pv 0) (Dc JZ rfl z_tuple PyProof.Rows.boot_tuple (Aa (pv 1) Ac)) (by rfl))
  (Ag (FP (pv 0) Ai (by rfl)))),?_⟩
 walk_at "d"
 refine⟨l,_,rfl,.inl ⟨SqL.of hl,fun p hp=>?_⟩⟩
 have px:x≠p:=By hx hp
 refine fresh hp fun H1 s1 t1=>?_
 walk_at "d"
 refine⟨x,Aj,dx,[],rfl,s1 _ _ hx,er.cl_Reader,er.na_Reader_words,by decide,?_⟩
 refine Uc fun H2 k2 x2=>?_
 walk_at "d"
 refine⟨x,Aj,dx,_,rfl,x2,er.cl_Reader,er.na_Reader_place,(by show 1<1000;decide),?_⟩
 refine Uc fun H3 k3 x3=>?_
 walk_at "d"
 exact q p H3 (fun y o hy e=>k3 y o hy (k2 y o hy (s1 _ _ e))) ⟨⟨dx,x3⟩,k3 _ _ (Ne.symm px) (k2 _ _ (Ne.symm px) t1),wl,wo,wn⟩
theorem T8:BV ["self"] ["self"] (Ao JW):=by walk_at "s"
theorem Ux{f:Addr}{fd:FuncData}(F:Fun K "peek" "Reader.peek" JW f fd)(er:Dr K mg Aw Af Ad BW Be Al Ah An Az CZ DP Ax Av Ba Ay Bl Bc Ak Aq CJ Bq CN CK Bb Ar Aj Ae Bf BX Am)(z_len:mg "len"=none):Bu P w K mg base CX0 1 f fd ["self"] (Ni Aj):=by
 refine F.ok (k:=0) T8 (fun vs H Q E h=>?_) (fun cdv A outer s H vs Q E hr h=>?_)
 ·obtain⟨x,p,ws,k,rfl,_⟩:=h
  rfl
 obtain⟨x,p,ws,k,rfl,R,q⟩:=h
 obtain⟨dx,hx⟩:=R.ex
 refine⟨_,(Ag (BZ (FW (BL GX (Ce (pv 0) (by rfl)) (CW Dl rfl z_len PySem.boot_len (Aa (Ce (pv 0) (by rfl)) Ac)) (Bd _)) (Bp Bm (Ce (pv 0) (by rfl)) (Ce (pv 0) (by rfl)) (fun _ _=>rfl)) BJ))),?_⟩
 walk_at "x"
 refine⟨x,Aj,dx,_,_,rfl,hx,er.cl_Reader,er.na_Reader_place,rfl,?_⟩
 walk_at "x"
 refine⟨x,Aj,dx,_,_,rfl,hx,er.cl_Reader,er.na_Reader_words,rfl,?_⟩
 walk_at "x"
 refine⟨p,_,rfl,.inr (SqT.of R.tp),?_⟩
 rw[List.length_map]
 walk_at "x"
 refine Ca (fun c=>?_) (fun c=>?_)
 ·walk_at "x"
  refine⟨x,Aj,dx,_,_,rfl,hx,er.cl_Reader,er.na_Reader_words,rfl,?_⟩
  walk_at "x"
  refine⟨x,Aj,dx,_,_,rfl,hx,er.cl_Reader,er.na_Reader_place,rfl,?_⟩
  walk_at "x"
  have kl:k<ws.length:=by omega
  refine Bj (SqT.of R.tp) (v:=.str (sW (nxt ws k))) (FZ (by rw[List.getElem?_map,List.getElem?_eq_getElem kl];unfold nxt;rw[List.getElem?_eq_getElem kl];rfl)) ?_
  exact q
 ·have e:nxt ws k=[]:=by unfold nxt;rw[List.getElem?_eq_none (by omega)];rfl
  rw[e] at q
  walk_at "x"
  exact q
theorem K7:BV ["self","word"] ["self"] (Ao JV):=by walk_at "s"
theorem Uw{f:Addr}{fd:FuncData}(F:Fun K "take" "Reader.take" JV f fd)(er:Dr K mg Aw Af Ad BW Be Al Ah An Az CZ DP Ax Av Ba Ay Bl Bc Ak Aq CJ Bq CN CK Bb Ar Aj Ae Bf BX Am)(c_Reader_peek:Eb P w K mg base CX0 1 Aj "peek" ["self"] (Ni Aj)):Bu P w K mg base CX0 2 f fd ["self"] (JD Aj):=by
 refine F.ok (k:=1) K7 (fun vs H Q E h=>?_) (fun cdv A outer s H vs Q E hr h=>?_)
 ·obtain⟨x,p,ws,k,rfl,_⟩:=h
  rfl
 obtain⟨x,p,ws,k,rfl,R,q⟩:=h
 obtain⟨dx,hx⟩:=R.ex
 refine⟨_,(Ab (BK (i:=1) K7.nd rfl (by walk_at "o") (Dv c_Reader_peek er.cl_Reader (hr.mono (by decide)) (pv 0)))
  (Ab (FP (pv 0) (BP Dj (Ce (pv 0) (by rfl)) Ai) (by rfl))
  (Ag (BZ (pv 1))))),?_⟩
 walk_at "d"
 refine⟨x,dx,_,rfl,hx,rfl,?_⟩
 walk_at "d"
 refine⟨x,p,ws,k,rfl,R,?_⟩
 walk_at "d"
 refine⟨x,Aj,dx,_,_,rfl,hx,er.cl_Reader,er.na_Reader_place,rfl,?_⟩
 walk_at "d"
 refine⟨x,Aj,dx,_,rfl,hx,er.cl_Reader,er.na_Reader_place,(by show 2<1000;decide),?_⟩
 refine Uc fun H2 k2 x2=>?_
 have px:p≠x:=Jj R.tp hx (by intro z;cases z)
 walk_at "d"
 exact q H2 k2 ⟨⟨dx,x2⟩,k2 _ _ px R.tp,R.ln,R.ok,R.ne⟩
theorem Zy:BV ["text"] ["text"] (Ao Qz):=by walk_at "s"
theorem aH{f:Addr}{fd:FuncData}(F:Fun K "is_name" "is_name" Qz f fd)(z_len:mg "len"=none)(z_all:mg "all"=none){tk_MOST_LETTERS:Tok}(m_MOST_LETTERS:mg "MOST_LETTERS"=some (.int 8 tk_MOST_LETTERS)){tk_LETTERS:Tok}(m_LETTERS:mg "LETTERS"=some (.str "abcdefghijklmnopqrstuvwxyz" tk_LETTERS)):Bu P w K mg base CX0 1 f fd ["text"] Zo:=by
 refine F.ok (k:=0) Zy (fun vs H Q E h=>?_) (fun cdv A outer s H vs Q E hr h=>?_)
 ·obtain⟨z,rfl,_⟩:=h
  rfl
 obtain⟨z,rfl,hz,q⟩:=h
 refine⟨_,(Ag (BZ (jK (jJ cC cC Ai (CW Eo rfl z_len PySem.boot_len (Aa (pv 0) Ac)) (DR rfl m_MOST_LETTERS (Dw _ _))) (jD (CW (VH rfl) rfl z_all PyProof.Rows.boot_all (Aa (Iz rfl (Ka ["text"] rfl (by decide +kernel) rfl (by decide +kernel) rfl (by decide +kernel) (by decide +kernel)) (iz (pv 0)) (fun _ _ _ _=>Lr) (fun _ _ _ _=>(Px V4 (pv 0) (DR rfl m_LETTERS (bO _ _)) (by rfl)))) Ac)))))),?_⟩
 have zl:(cpl z).length=z.length:=Ex _
 walk_at "x"
 refine⟨z,rfl,hz.fit,?_⟩
 walk_at "x"
 have no:¬tY (cpl z)→∀H',Bo H H'→Q (.bl false) H':=fun n H' s'=>q false H' s' ⟨fun z=>(nomatch z),fun z=>absurd z n⟩
 by_cases c1:1≤((z.length:Nat):Int)
 rotate_left
 ·refine Ck c1 ?_
  refine⟨_,rfl,Hc ?_⟩
  exact no (fun N=>by have:=N.lo;omega) _ (Bo.refl _)
 refine Jl c1 ?_
 walk_at "x"
 by_cases c2:((z.length:Nat):Int)≤8
 rotate_left
 ·rw[decide_eq_false c2]
  refine Hc ?_
  exact no (fun N=>by have:=N.hi;omega) _ (Bo.refl _)
 rw[decide_eq_true c2]
 refine Lz ?_
 walk_at "x"
 refine Mq (iQ ?_)
 walk_at "x"
 refine⟨_,rfl,hz.asc,?_⟩
 refine Mu ZX ?_ (fun _ _ _=>trivial) (fun _=>true) (fun v=>match v with | .str y=>.bl (decide (97≤(cpl y).headD 0∧(cpl y).headD 0≤122)) | _=>.non) (fun x hx D ys Q' hD h=>h) (fun x hx _ D ys Q' hD h=>?_) (fun D hD=>?_)
 ·rw[List.length_map]
  exact Ml (by have:z.cps.toList.length=z.length:=zl;omega)
 ·obtain⟨c,hc,rfl⟩:=List.mem_map.mp hx
  walk_at "x"
  refine⟨_,_,rfl,rfl,?_⟩
  rw[sS]
  exact h
 have e:((z.cps.toList.map Vu).filter fun _=>true).map (fun v=>match v with | .str y=>V.bl (decide (97≤(cpl y).headD 0∧(cpl y).headD 0≤122)) | _=>.non)=((cpl z).map fun c=>decide (97≤c∧c≤122)).map V.bl:=by
  rw[List.filter_eq_self.mpr (fun _ _=>rfl),List.map_map,List.map_map]
  rfl
 rw[e]
 refine fresh hD fun H1 s1 t1=>?_
 walk_at "x"
 refine⟨D,_,rfl,SqL.of t1,?_⟩
 refine q _ _ s1 ?_
 rw[List.all_map,List.all_eq_true]
 exact⟨fun h=>⟨by omega,by omega,fun c hc=>by simpa using h c hc⟩,fun N c hc=>by simpa using N.ch c hc⟩
theorem T6:BV ["text"] ["text"] (Ao JP):=by walk_at "s"
theorem Ur{f:Addr}{fd:FuncData}(F:Fun K "is_readable" "is_readable" JP f fd)(z_isinstance:mg "isinstance"=none)(z_str:mg "str"=none)(z_len:mg "len"=none){tk_MOST_SIGNS:Tok}(m_MOST_SIGNS:mg "MOST_SIGNS"=some (.int 4000 tk_MOST_SIGNS)):Bu P w K mg base CX0 1 f fd ["text"] Js:=by
 refine F.ok (k:=0) T6 (fun vs H Q E h=>?_) (fun cdv A outer s H vs Q E hr h=>?_)
 ·obtain⟨v,rfl,_⟩:=h
  rfl
 obtain⟨v,rfl,hv,q,qn⟩:=h
 refine⟨_,(Ag (BZ (jK (CW j7 rfl z_isinstance PyProof.Rows.boot_isinstance (Aa (pv 0) (Aa (mQ rfl z_str PyProof.Rows.boot_str (qK _)) Ac))) (jD (Px cC (CW Eo rfl z_len PySem.boot_len (Aa (pv 0) Ac)) (DR rfl m_MOST_SIGNS (Dw _ _)) (Bd _)))))),?_⟩
 walk_at "d"
 refine qU hv ?_
 walk_at "d"
 cases hv with
 | non=>
  refine Hc ?_
  exact qn rfl
 | int i=>
  refine Hc ?_
  exact qn rfl
 | tup a xs e0=>
  refine Hc ?_
  exact qn rfl
 | lst a xs e0=>
  refine Hc ?_
  exact qn rfl
 | txt z hz=>
  refine Lz ?_
  walk_at "d"
  refine⟨z,rfl,hz.fit,?_⟩
  walk_at "d"
  refine q z rfl _ ?_
  rw[decide_eq_true_eq,←Ex]
  omega
theorem Pa:BV ["text","figures"] ["text"] (Ao Lh):=by walk_at "s"
theorem Xf{f:Addr}{fd:FuncData}(F:Fun K "is_number" "is_number" Lh f fd)(z_len:mg "len"=none)(z_all:mg "all"=none){tk_MOST_FIGURES:Tok}(m_MOST_FIGURES:mg "MOST_FIGURES"=some (.int 60 tk_MOST_FIGURES)){tk_FIGURES:Tok}(m_FIGURES:mg "FIGURES"=some (.str "0123456789" tk_FIGURES)):Bu P w K mg base CX0 1 f fd ["text"] Sh:=by
 refine F.ok (k:=0) Pa (fun vs H Q E h=>?_) (fun cdv A outer s H vs Q E hr h=>?_)
 ·obtain⟨z,rfl,_⟩:=h
  rfl
 obtain⟨z,rfl,hz,q⟩:=h
 refine⟨_,(Ab (BK (i:=1) Pa.nd rfl (by walk_at "o") (FW (OD (NT PySem.F.plainAttrs_str PySem.F.slot_str_startswith PySem.F.type_str_startswith Vl (pv 0) (Aa BJ Ac))) (jC qH (pv 0) (mD Ai) mF) (pv 0)))
  (Ab (CG (PW.pt (Pr (BL GX (CW Eo rfl z_len PySem.boot_len (Aa (pv 1) Ac)) Ai (Bd _)) (J8 (BL GZ (CW Eo rfl z_len PySem.boot_len (Aa (pv 1) Ac)) (DR rfl m_MOST_FIGURES (Dw _ _)) (Bd _)))))
   (Ag (BZ uo))
   Bh)
  (Ab (CG (BL Cg (Bp jh (pv 1) Ai (fun _ _=>rfl)) BJ (Bd _))
   (Ag (BZ (Px Cg (pv 0) BJ (Bd _))))
   Bh)
  (Ag (BZ (CW (VH rfl) rfl z_all PyProof.Rows.boot_all (Aa (Iz rfl (Ka ["text","figures"] rfl (by decide +kernel) rfl (by decide +kernel) rfl (by decide +kernel) (by decide +kernel)) (iz (pv 1)) (fun _ _ _ _=>Lr) (fun _ _ _ _=>(Px V4 (pv 0) (DR rfl m_FIGURES (bO _ _)) (by rfl)))) Ac))))))),?_⟩
 walk_at "x"
 refine⟨_,rfl,rfl,?_⟩
 walk_at "x"
 refine⟨z,_,rfl,rfl,?_⟩
 rw[Wc (.inr trivial)]
 walk_at "x"
 refine Ca (fun hm=>?_) (fun hm=>?_)
 ·walk_at "x"
  have l1:1≤z.length:=by
   rw[←Ex]
   cases h:cpl z with
   | nil=>rw[h] at hm;cases hm
   | cons a r=>simp
  refine⟨z,rfl,hz.fit,?_⟩
  have hy:TOk (Txt.slice z (some 1) none):=hz.slice _ _
  have ey:cpl (Txt.slice z (some 1) none)=Hk (cpl z):=by
   rw[YJ l1]
   unfold Hk
   rw[if_pos hm]
  generalize Txt.slice z (some 1) none=y at hy ey ⊢
  walk_at "x"
  have fy:=hy.fit
  have yl:(cpl y).length=y.length:=Ex _
  refine⟨_,rfl,fy,?_⟩
  walk_at "x"
  refine Ca (fun l1=>Lz ?_) (fun l1=>?_)
  ·walk_at "x"
   refine q _ _ (Bo.refl _) ⟨(fun e=>nomatch e),fun N=>?_⟩
   have:=N.lo
   rw[←ey] at this
   omega
  walk_at "x"
  refine⟨_,rfl,fy,?_⟩
  walk_at "x"
  refine Ca (fun l2=>?_) (fun l2=>?_)
  ·walk_at "x"
   refine q _ _ (Bo.refl _) ⟨(fun e=>nomatch e),fun N=>?_⟩
   have:=N.hi
   rw[←ey] at this
   omega
  walk_at "x"
  obtain⟨c0,r0,ec⟩:∃c r,cpl y=c::r:=by
   cases h:cpl y with
   | nil=>rw[h] at yl;simp at yl;omega
   | cons c r=>exact⟨c,r,rfl⟩
  refine⟨_,0,c0,rfl,rfl,fy,by rw[show y.cps.toList=c0::r0 from ec];exact FZ (j:=0) rfl,?_⟩
  walk_at "x"
  refine Ca (fun e0=>?_) (fun e0=>?_)
  ·walk_at "x"
   have c48:c0=48:=by
    have e1:(⟨#[c0]⟩:Str)=Str.ofString "0":=V.str.inj e0
    have e2:cpl (⟨#[c0]⟩:Str)=cpl (Str.ofString "0"):=congrArg cpl e1
    have e3:cpl (Str.ofString "0")=[48]:=by decide +kernel
    rw[e3] at e2
    injection e2
   refine q _ _ (Bo.refl _) ?_
   rw[decide_eq_true_eq]
   have e3:cpl (Str.ofString "0")=[48]:=by decide +kernel
   constructor
   ·intro e
    have ez:cpl z=[48]:=by rw[V.str.inj e,e3]
    refine⟨?_,?_,?_,?_⟩<;>rw[ez]<;>simp[Hk]
   ·intro N
    have:=N.z0 (by rw[←ey,ec,c48];rfl)
    exact congrArg V.str (Mf (by rw[this,e3]))
  walk_at "x"
  refine Mq (iQ ?_)
  walk_at "x"
  refine⟨_,rfl,hy.asc,?_⟩
  refine Mu ZX ?_ (fun _ _ _=>trivial) (fun _=>true) (fun v=>match v with | .str y=>.bl (decide (48≤(cpl y).headD 0∧(cpl y).headD 0≤57)) | _=>.non) (fun x hx D ys Q' hD h=>h) (fun x hx _ D ys Q' hD h=>?_) (fun D hD=>?_)
  ·rw[List.length_map]
   exact Ml (by have:y.cps.toList.length=y.length:=yl;omega)
  ·obtain⟨c,hc,rfl⟩:=List.mem_map.mp hx
   walk_at "x"
   refine⟨_,_,rfl,rfl,?_⟩
   rw[jj]
   exact h
  have e:((y.cps.toList.map Vu).filter fun _=>true).map (fun v=>match v with | .str y=>V.bl (decide (48≤(cpl y).headD 0∧(cpl y).headD 0≤57)) | _=>.non)=((cpl y).map fun c=>decide (48≤c∧c≤57)).map V.bl:=by
   rw[List.filter_eq_self.mpr (fun _ _=>rfl),List.map_map,List.map_map]
   rfl
  rw[e]
  walk_at "x"
  refine⟨D,_,rfl,SqL.of BR,?_⟩
  refine q _ _ (Bk hD _) ?_
  rw[List.all_map,List.all_eq_true]
  constructor
  ·intro h
   refine⟨by rw[←ey];omega,by rw[←ey];omega,fun c hc=>?_,fun h0=>?_⟩
   ·rw[←ey] at hc
    simpa using h c hc
   ·rw[←ey,ec] at h0
    injection h0 with h0
    subst h0
    exact absurd (by congr) e0
  ·intro N c hc
   have:=N.dg c (by rw[←ey];exact hc)
   simpa using this
 ·walk_at "x"
  have hy:=hz
  have ey:cpl z=Hk (cpl z):=by
   unfold Hk
   rw[if_neg hm]
  have fy:=hy.fit
  have yl:(cpl z).length=z.length:=Ex _
  refine⟨_,rfl,fy,?_⟩
  walk_at "x"
  refine Ca (fun l1=>Lz ?_) (fun l1=>?_)
  ·walk_at "x"
   refine q _ _ (Bo.refl _) ⟨(fun e=>nomatch e),fun N=>?_⟩
   have:=N.lo
   rw[←ey] at this
   omega
  walk_at "x"
  refine⟨_,rfl,fy,?_⟩
  walk_at "x"
  refine Ca (fun l2=>?_) (fun l2=>?_)
  ·walk_at "x"
   refine q _ _ (Bo.refl _) ⟨(fun e=>nomatch e),fun N=>?_⟩
   have:=N.hi
   rw[←ey] at this
   omega
  walk_at "x"
  obtain⟨c0,r0,ec⟩:∃c r,cpl z=c::r:=by
   cases h:cpl z with
   | nil=>rw[h] at yl;simp at yl;omega
   | cons c r=>exact⟨c,r,rfl⟩
  refine⟨_,0,c0,rfl,rfl,fy,by rw[show z.cps.toList=c0::r0 from ec];exact FZ (j:=0) rfl,?_⟩
  walk_at "x"
  refine Ca (fun e0=>?_) (fun e0=>?_)
  ·walk_at "x"
   have c48:c0=48:=by
    have e1:(⟨#[c0]⟩:Str)=Str.ofString "0":=V.str.inj e0
    have e2:cpl (⟨#[c0]⟩:Str)=cpl (Str.ofString "0"):=congrArg cpl e1
    have e3:cpl (Str.ofString "0")=[48]:=by decide +kernel
    rw[e3] at e2
    injection e2
   refine q _ _ (Bo.refl _) ?_
   rw[decide_eq_true_eq]
   have e3:cpl (Str.ofString "0")=[48]:=by decide +kernel
   constructor
   ·intro e
    have ez:cpl z=[48]:=by rw[V.str.inj e,e3]
    refine⟨?_,?_,?_,?_⟩<;>rw[ez]<;>simp[Hk]
   ·intro N
    have:=N.z0 (by rw[←ey,ec,c48];rfl)
    exact congrArg V.str (Mf (by rw[this,e3]))
  walk_at "x"
  refine Mq (iQ ?_)
  walk_at "x"
  refine⟨_,rfl,hy.asc,?_⟩
  refine Mu ZX ?_ (fun _ _ _=>trivial) (fun _=>true) (fun v=>match v with | .str y=>.bl (decide (48≤(cpl y).headD 0∧(cpl y).headD 0≤57)) | _=>.non) (fun x hx D ys Q' hD h=>h) (fun x hx _ D ys Q' hD h=>?_) (fun D hD=>?_)
  ·rw[List.length_map]
   exact Ml (by have:z.cps.toList.length=z.length:=yl;omega)
  ·obtain⟨c,hc,rfl⟩:=List.mem_map.mp hx
   walk_at "x"
   refine⟨_,_,rfl,rfl,?_⟩
   rw[jj]
   exact h
  have e:((z.cps.toList.map Vu).filter fun _=>true).map (fun v=>match v with | .str y=>V.bl (decide (48≤(cpl y).headD 0∧(cpl y).headD 0≤57)) | _=>.non)=((cpl z).map fun c=>decide (48≤c∧c≤57)).map V.bl:=by
   rw[List.filter_eq_self.mpr (fun _ _=>rfl),List.map_map,List.map_map]
   rfl
  rw[e]
  walk_at "x"
  refine⟨D,_,rfl,SqL.of BR,?_⟩
  refine q _ _ (Bk hD _) ?_
  rw[List.all_map,List.all_eq_true]
  constructor
  ·intro h
   refine⟨by rw[←ey];omega,by rw[←ey];omega,fun c hc=>?_,fun h0=>?_⟩
   ·rw[←ey] at hc
    simpa using h c hc
   ·rw[←ey,ec] at h0
    injection h0 with h0
    subst h0
    exact absurd (by congr) e0
  ·intro N c hc
   have:=N.dg c (by rw[←ey];exact hc)
   simpa using this
theorem Wy:BV ["reader","word"] ["reader","word"] (Ao K9):=by walk_at "s"
theorem XN{f:Addr}{fd:FuncData}(F:Fun K "take_word" "take_word" K9 f fd)(er:Dr K mg Aw Af Ad BW Be Al Ah An Az CZ DP Ax Av Ba Ay Bl Bc Ak Aq CJ Bq CN CK Bb Ar Aj Ae Bf BX Am)(c_Reader_take:Eb P w K mg base CX0 2 Aj "take" ["self"] (JD Aj)):Bu P w K mg base (CX1 P w) 3 f fd ["reader","word"] (Qg Aj Ah):=by
 refine F.okE (k:=2) Wy (fun vs H Q E h=>?_) (fun cdv A outer s H vs Q E hr h T=>?_)
 ·obtain⟨x,p,ws,k,w,rfl,_⟩:=h
  rfl
 obtain⟨x,p,ws,k,w,rfl,wl,wn,R,o⟩:=h
 refine⟨_,(Ag (CG (BL QC (Dv c_Reader_take er.cl_Reader (hr.mono (by decide)) (pv 0)) (pv 1) (Bd _))
  (Ag (Ef T rfl er.x_NoRule rfl (Aa (Iw (DK BJ (DK (KH hr.toN (pv 1)) (DK BJ Lq)))) Ac)))
  Bh)),?_⟩
 walk_at "x"
 obtain⟨dx1,hx1⟩:=R.ex
 refine⟨x,dx1,_,rfl,hx1,rfl,?_⟩
 walk_at "x"
 refine⟨x,p,ws,k,rfl,R,fun H1 k1 R1=>?_⟩
 walk_at "x"
 by_cases e:nxt ws k=w
 ·refine QQ (by rw[e]) ?_
  walk_at "x"
  refine o.1 () (ws.drop (k+1)) _ (k+1) H1 ?_ k1 R1 rfl rfl
  rw[GD e wn]
  unfold tkU
  rw[WX]
  rfl
 ·refine QR (fun z=>e (FT.mp z)) ?_
  walk_at "x"
  refine Ia 0 (by decide) (by decide) fun l1=>pH _ 100 l1 (by rw[Es];exact wl) (by decide) rfl fun l2=>Ia _ l2 (by decide) fun l3=>Iv (fits l3 (by decide)) ?_
  refine Q5 ⟨(by show 1≤sizeLine;decide),o.2 ?_ H1 k1⟩
  rcases Ij ws k with ⟨_,h⟩ | ⟨_,h,_⟩
  ·rw[h]
   unfold tkU tkW
   simp only[]
   rw[if_neg e]
   rfl
  ·rw[h]
   rfl
theorem K1:BV ["reader","word"] ["reader"] (Ao JL):=by walk_at "s"
theorem Uo{f:Addr}{fd:FuncData}(F:Fun K "take_number" "take_number" JL f fd)(er:Dr K mg Aw Af Ad BW Be Al Ah An Az CZ DP Ax Av Ba Ay Bl Bc Ak Aq CJ Bq CN CK Bb Ar Aj Ae Bf BX Am)(c_Reader_take:Eb P w K mg base CX0 2 Aj "take" ["self"] (JD Aj))(c_is_number:Cal P w K mg base 1 "is_number" ["text"] Sh)(z_int:mg "int"=none):Bu P w K mg base (CX1 P w) 3 f fd ["reader"] (Qj Aj Ah):=by
 refine F.okE (k:=2) K1 (fun vs H Q E h=>?_) (fun cdv A outer s H vs Q E hr h T=>?_)
 ·obtain⟨x,p,ws,k,rfl,_⟩:=h
  rfl
 obtain⟨x,p,ws,k,rfl,R,o⟩:=h
 refine⟨_,(Ab (BK (i:=1) K1.nd rfl (by walk_at "o") (Dv c_Reader_take er.cl_Reader (hr.mono (by decide)) (pv 0)))
  (Ab (CG (XH (OD (Br c_is_number (hr.mono (by decide)) rfl (Aa (pv 1) Ac))))
   (Ag (Ef T rfl er.x_NoRule rfl (Aa BJ Ac)))
   Bh)
  (Ag (BZ (Dc Vn rfl z_int PyProof.Rows.boot_int (Aa (pv 1) Ac)))))),?_⟩
 walk_at "x"
 obtain⟨dx1,hx1⟩:=R.ex
 refine⟨x,dx1,_,rfl,hx1,rfl,?_⟩
 walk_at "x"
 refine⟨x,p,ws,k,rfl,R,fun H1 k1 R1=>?_⟩
 walk_at "x"
 refine⟨_,rfl,aM R.ok k,fun v H2 s2 iv=>?_⟩
 rw[Dk,Xm] at iv
 have kb:=k1.tr (KB.sm s2)
 walk_at "x"
 cases v with
 | false=>
  refine Lz ?_
  walk_at "x"
  refine⟨(by show 1≤sizeLine;decide),o.2 ?_ H2 kb⟩
  rcases Ij ws k with ⟨_,e⟩ | ⟨_,e,_⟩
  ·rw[e]
   simp only[HJ]
   rw[if_neg (fun z=>absurd (iv.mpr z) (by decide))]
  ·rw[e]
   rfl
 | true=>
  have nb:=iv.mp rfl
  have wn:nxt ws k≠[]:=fun z=>by rw[z] at nb;revert nb;decide
  have N:=(Xm _).mpr nb
  refine Hc ?_
  walk_at "x"
  refine⟨_,_,rfl,?_,fD (by rw[Dk];exact N),?_⟩
  ·rw[Es]
   have:=N.hi
   unfold Hk at this
   split at this
   ·rw[List.length_drop] at this;omega
   ·omega
  ·rw[Dk]
   refine o.1 _ (ws.drop (k+1)) _ (k+1) H2 ?_ kb (R1.same s2) rfl rfl
   rw[GD rfl wn,HH nb]
theorem Tz:BV ["reader"] ["reader"] (Ao JK):=by walk_at "s"
theorem Um{f:Addr}{fd:FuncData}(F:Fun K "take_wanted" "take_wanted" JK f fd)(er:Dr K mg Aw Af Ad BW Be Al Ah An Az CZ DP Ax Av Ba Ay Bl Bc Ak Aq CJ Bq CN CK Bb Ar Aj Ae Bf BX Am)(c_Reader_peek:Eb P w K mg base CX0 1 Aj "peek" ["self"] (Ni Aj))(c_Reader_take:Eb P w K mg base CX0 2 Aj "take" ["self"] (JD Aj))(c_take_number:CQ P w K mg base 3 "take_number" ["reader"] (Qj Aj Ah)):Bu P w K mg base (CX1 P w) 4 f fd ["reader"] (Wg Aj Ah):=by
 refine F.okE (k:=3) Tz (fun vs H Q E h=>?_) (fun cdv A outer s H vs Q E hr h T=>?_)
 ·obtain⟨x,p,ws,k,rfl,_⟩:=h
  rfl
 obtain⟨x,p,ws,k,rfl,R,o⟩:=h
 refine⟨_,(Ab (CG (BL Cg (Dv c_Reader_peek er.cl_Reader (hr.mono (by decide)) (pv 0)) BJ (Bd _))
  (Ab (CT (Dv c_Reader_take er.cl_Reader (hr.mono (by decide)) (pv 0)))
  (Ag (BZ JX)))
   Bh)
  (Ag (BZ (Bg T c_take_number (hr.mono (by decide)) rfl (Aa (pv 0) Ac))))),?_⟩
 walk_at "x"
 obtain⟨dx,hx⟩:=R.ex
 refine⟨x,dx,_,rfl,hx,rfl,?_⟩
 walk_at "x"
 refine⟨x,p,ws,k,rfl,R,?_⟩
 walk_at "x"
 rw[lH]
 refine Ca (fun e=>?_) (fun e=>?_)
 ·have e:=FT.mp e
  walk_at "x"
  obtain⟨dx1,hx1⟩:=R.ex
  refine⟨x,dx1,_,rfl,hx1,rfl,?_⟩
  walk_at "x"
  refine⟨x,p,ws,k,rfl,R,fun H1 k1 R1=>?_⟩
  walk_at "x"
  refine o.1 none (ws.drop (k+1)) _ (k+1) H1 ?_ k1 R1 rfl rfl
  rw[GD e (by decide)]
  rfl
 ·have e:nxt ws k≠Gr:=fun z=>e (FT.mpr z)
  have ew:Hq Bx (ws.drop k)=(HJ Bx (ws.drop k)).map fun a=>(some a.1,a.2):=by
   rcases Ij ws k with ⟨_,h⟩ | ⟨_,h,_⟩
   ·rw[h]
    simp only[Hq]
    rw[if_neg e]
    cases HJ Bx (nxt ws k::ws.drop (k+1)) with
    | none=>rfl
    | some a=>rfl
   ·rw[h]
    rfl
  walk_at "x"
  refine⟨x,p,ws,k,rfl,R,fun n r v k1 H1 e1 kb R1 er ev=>?_,fun e1 H1 kb=>o.2 (by rw[ew,e1];rfl) H1 kb⟩
  exact o.1 (some n) r v k1 H1 (by rw[ew,e1];rfl) kb R1 er ev
theorem PP:BV ["reader","size"] ["reader"] (Ao LQ):=by walk_at "s"
theorem XS{f:Addr}{fd:FuncData}(F:Fun K "take_each" "take_each" LQ f fd)(c_take_number:CQ P w K mg base 3 "take_number" ["reader"] (Qj Aj Ah))(c_take_word:CQ P w K mg base 3 "take_word" ["reader","word"] (Qg Aj Ah)):Bu P w K mg base (CX1 P w) 4 f fd ["reader"] (Su Aj Ah):=by
 refine F.okE (k:=3) PP (fun vs H Q E h=>?_) (fun cdv A outer s H vs Q E hr h T=>?_)
 ·obtain⟨x,p,ws,k,rfl,_⟩:=h
  rfl
 obtain⟨x,p,ws,k,rfl,R,o⟩:=h
 refine⟨_,(Ab (BK (i:=1) PP.nd rfl (by walk_at "o") (Bg T c_take_number (hr.mono (by decide)) rfl (Aa (pv 0) Ac)))
  (Ab (CT (Bg T c_take_word (hr.mono (by decide)) rfl (Aa (pv 0) (Aa BJ Ac))))
  (Ag (BZ (Bv (Aa (pv 1) (Aa (Bg T c_take_number (hr.mono (by decide)) rfl (Aa (pv 0) Ac)) Ac))))))),?_⟩
 walk_at "x"
 refine⟨x,p,ws,k,rfl,R,fun n r v k1 H1 e1 kb R1 er ev=>?_,fun e1 H1 kb=>o.2 (by unfold Gd;rw[e1]) H1 kb⟩
 subst er ev
 have o1:=o.later kb
 have u1:Gd Bx (ws.drop k)=(match tkW Cd (ws.drop k1) with | none=>none | some r=>match HJ Bx r with | none=>none | some (m,r)=>some ((n,m),r)):=by unfold Gd;rw[e1]
 walk_at "x"
 rw[Ww]
 refine⟨x,p,ws,k1,Cd,rfl,by decide,by decide,R1,fun _ r v k2 H2 e2 kb2 R2 er ev=>?_,fun e2 H2 kb=>o1.2 (by rw[u1];unfold tkU at e2;rw[Option.map_eq_none_iff.mp e2]) H2 kb⟩
 subst er
 have e2:tkW Cd (ws.drop k1)=some (ws.drop k2):=by
  unfold tkU at e2
  obtain⟨a,h1,h2⟩:=Option.map_eq_some_iff.mp e2
  injection h2 with _ h2
  rw[h1,h2]
 rw[e2] at u1
 simp only[] at u1
 have o2:=o1.later kb2
 walk_at "x"
 refine⟨x,p,ws,k2,rfl,R2,fun m r v k3 H3 e3 kb3 R3 er ev=>?_,fun e3 H3 kb=>o2.2 (by rw[u1,e3]) H3 kb⟩
 subst er ev
 have o3:=o2.later kb3
 walk_at "x"
 refine⟨Dz,fun q hq=>?_⟩
 refine fresh hq fun H4 s4 t4=>?_
 exact o3.1 (n,m) _ _ k3 H4 (by rw[u1,e3]) (KB.sm s4) (R3.same s4) rfl ⟨q,rfl,t4⟩
theorem Ft:BV ["reader","name","month","day","years"] ["reader"] (Ao LR):=by walk_at "s"
theorem XX{f:Addr}{fd:FuncData}(F:Fun K "take_date" "take_date" LR f fd)(er:Dr K mg Aw Af Ad BW Be Al Ah An Az CZ DP Ax Av Ba Ay Bl Bc Ak Aq CJ Bq CN CK Bb Ar Aj Ae Bf BX Am)(c_Reader_take:Eb P w K mg base CX0 2 Aj "take" ["self"] (JD Aj))(c_is_name:Cal P w K mg base 1 "is_name" ["text"] Zo)(c_take_wanted:CQ P w K mg base 4 "take_wanted" ["reader"] (Wg Aj Ah))(c_Reader_peek:Eb P w K mg base CX0 1 Aj "peek" ["self"] (Ni Aj))(c_take_each:CQ P w K mg base 4 "take_each" ["reader"] (Su Aj Ah)):Bu P w K mg base (CX1 P w) 5 f fd ["reader"] (Ws Aj Ah):=by
 refine F.okE (k:=4) Ft (fun vs H Q E h=>?_) (fun cdv A outer s H vs Q E hr h T=>?_)
 ·obtain⟨x,p,ws,k,rfl,_⟩:=h
  rfl
 obtain⟨x,p,ws,k,rfl,R,o⟩:=h
 refine⟨_,(Ab (BK (i:=1) Ft.nd rfl (by walk_at "o") (Dv c_Reader_take er.cl_Reader (hr.mono (by decide)) (pv 0)))
  (Ab (CG (XH (OD (Br c_is_name (hr.mono (by decide)) rfl (Aa (pv 1) Ac))))
   (Ag (Ef T rfl er.x_NoRule rfl (Aa BJ Ac)))
   Bh)
  (Ab (BK (i:=2) Ft.nd rfl (by walk_at "o") (Bg T c_take_wanted (hr.mono (by decide)) rfl (Aa (pv 0) Ac)))
  (Ab (BK (i:=3) Ft.nd rfl (by walk_at "o") (Bg T c_take_wanted (hr.mono (by decide)) rfl (Aa (pv 0) Ac)))
  (Ab (BK (i:=4) Ft.nd rfl (by walk_at "o") (Bv (Aa Ai (Aa Ai Ac))))
  (Ab (Fi (CG (BL Cg (Dv c_Reader_peek er.cl_Reader (hr.mono (by decide)) (pv 0)) BJ (Bd _))
   (Ab (CT (Dv c_Reader_take er.cl_Reader (hr.mono (by decide)) (pv 0)))
  (Ag (BK (i:=4) Ft.nd rfl (by walk_at "o") (Bg T c_take_each (hr.mono (by decide)) rfl (Aa (pv 0) Ac)))))
   Bh))
  (Ag (BZ (Bv (Aa BJ (Aa (pv 1) (Aa (pv 2) (Aa (pv 3) (Aa (Bp Bm (pv 4) Ai (fun _ _=>rfl)) (Aa (Bp Bm (pv 4) Ai (fun _ _=>rfl)) Ac))))))))))))))),?_⟩
 walk_at "x"
 obtain⟨dx1,hx1⟩:=R.ex
 refine⟨x,dx1,_,rfl,hx1,rfl,?_⟩
 walk_at "x"
 refine⟨x,p,ws,k,rfl,R,fun H1 k1 R1=>?_⟩
 walk_at "x"
 refine⟨_,rfl,aM R.ok k,fun v H2 s2 iv=>?_⟩
 rw[Dk,jZ] at iv
 have kb:=k1.tr (KB.sm s2)
 have R2:=R1.same s2
 walk_at "x"
 cases v with
 | false=>
  refine Lz ?_
  walk_at "x"
  refine⟨(by show 1≤sizeLine;decide),o.2 ?_ H2 kb⟩
  rcases Ij ws k with ⟨_,e⟩ | ⟨_,e,_⟩
  ·rw[e]
   simp only[JC]
   rw[if_neg (fun z=>absurd (iv.mpr z) (by decide))]
  ·rw[e]
   rfl
 | true=>
  have nb:=iv.mp rfl
  have wn:nxt ws k≠[]:=fun z=>by rw[z] at nb;revert nb;decide
  have u0:JC Bx (ws.drop k)=(match Hq Bx (ws.drop (k+1)) with | none=>none | some (m,r)=>match Hq Bx r with | none=>none | some (d,r)=>match Ga Bx r with | none=>none | some (y,r)=>some (.date (nxt ws k) m d y.1 y.2,r)):=by
   rw[GD rfl wn]
   simp only[JC]
   rw[if_pos nb]
  have o0:=o.later kb
  refine Hc ?_
  walk_at "x"
  refine⟨x,p,ws,k+1,rfl,R2,fun m r v k3 H3 e3 kb3 R3 er ev=>?_,fun e3 H3 kb=>o0.2 (by rw[u0,e3]) H3 kb⟩
  subst er ev
  rw[e3] at u0
  simp only[] at u0
  have o3:=o0.later kb3
  walk_at "x"
  refine⟨x,p,ws,k3,rfl,R3,fun d r v k4 H4 e4 kb4 R4 er ev=>?_,fun e4 H4 kb=>o3.2 (by rw[u0,e4]) H4 kb⟩
  subst er ev
  rw[e4] at u0
  simp only[] at u0
  have o4:=o3.later kb4
  walk_at "x"
  refine⟨Dz,fun q0 hq0=>?_⟩
  refine fresh hq0 fun H5 s5 t5=>?_
  have o5:=o4.later (KB.sm s5)
  have R5:=R4.same s5
  walk_at "x"
  refine Eh (fun σ' H'=>∃(y:Int×Int) (q:Addr) (k':Nat),Ga Bx (ws.drop k4)=some (y,ws.drop k')∧KB x H5 H'∧Rdr Aj H' x p ws k'∧H' q=some (.tup [.int y.1,.int y.2])∧σ'=[some (.ref x),some (.str (sW (nxt ws k))),some (oI m),some (oI d),some (.ref q)]) ?_ ?_
  ·walk_at "x"
   obtain⟨dx,hx⟩:=R5.ex
   refine⟨x,dx,_,rfl,hx,rfl,?_⟩
   walk_at "x"
   refine⟨x,p,ws,k4,rfl,R5,?_⟩
   walk_at "x"
   rw[Hf]
   refine Ca (fun e=>?_) (fun e=>?_)
   ·have e:=FT.mp e
    have ey:Ga Bx (ws.drop k4)=Gd Bx (ws.drop (k4+1)):=by
     rw[GD e (by decide)]
     rfl
    walk_at "x"
    obtain⟨dx6,hx6⟩:=R5.ex
    refine⟨x,dx6,_,rfl,hx6,rfl,?_⟩
    walk_at "x"
    refine⟨x,p,ws,k4,rfl,R5,fun H6 k6 R6=>?_⟩
    walk_at "x"
    refine⟨x,p,ws,k4+1,rfl,R6,fun y r v k7 H7 e7 kb7 R7 er ev=>?_,fun e7 H7 kb=>o5.2 (by rw[u0,ey,e7]) H7 (k6.tr kb)⟩
    subst er
    obtain⟨q,rfl,tq⟩:=ev
    walk_at "x"
    exact⟨y,q,k7,by rw[ey,e7],k6.tr kb7,R7,tq,rfl⟩
   ·have e:nxt ws k4≠Cr:=fun z=>e (FT.mpr z)
    walk_at "x"
    refine⟨(1,0),q0,k4,?_,KB.rf,R5,t5,rfl⟩
    rcases Ij ws k4 with ⟨_,h⟩ | ⟨_,h,_⟩
    ·rw[h]
     simp only[Ga]
     rw[if_neg e]
    ·rw[h]
     rfl
  rintro σ' H' ⟨y,q,k',ey,kb',R',tq,rfl⟩
  rw[ey] at u0
  simp only[] at u0
  walk_at "x"
  refine Bj (SqT.of tq) at0 ?_
  walk_at "x"
  refine Bj (SqT.of tq) at1 ?_
  walk_at "x"
  refine⟨(by show 6≤sizeLine;decide),fun q6 hq6=>?_⟩
  refine fresh hq6 fun H6 s6 t6=>?_
  exact o5.1 _ _ _ k' H6 u0 (kb'.tr (KB.sm s6)) (R'.same s6) rfl ⟨q6,rfl,t6⟩
theorem Dy:BV ["text","told","depth","whole","opened","word","opening","closing"] ["text"] (Ao Nt):=by walk_at "s"
theorem Yg{f:Addr}{fd:FuncData}(F:Fun K "words_of" "words_of" Nt f fd)(er:Dr K mg Aw Af Ad BW Be Al Ah An Az CZ DP Ax Av Ba Ay Bl Bc Ak Aq CJ Bq CN CK Bb Ar Aj Ae Bf BX Am)(z_len:mg "len"=none){tk_MOST_BRACKETS:Tok}(m_MOST_BRACKETS:mg "MOST_BRACKETS"=some (.int 40 tk_MOST_BRACKETS)):Bu P w K mg base (CX1 P w) 1 f fd ["text"] (Wf Ah):=by
 refine F.okE (k:=0) Dy (fun vs H Q E h=>?_) (fun cdv A outer s H vs Q E hr h T=>?_)
 ·obtain⟨z,rfl,_⟩:=h
  rfl
 obtain⟨z,rfl,hz,zl,q,qe⟩:=h
 refine⟨_,(Ab (BK (i:=1) Dy.nd rfl (by walk_at "o") (GC Ac))
  (Ab (BK (i:=2) Dy.nd rfl (by walk_at "o") Ai)
  (Ab (J9 (by first | exact PassesOwn.leaving | exact PassesOwn.looking | with_unfolding_all passes_own) rfl (Pu (NT PySem.F.plainAttrs_str PySem.F.slot_str_split PySem.F.type_str_split jb (pv 0) (Aa BJ Ac))) (Hi (i:=3) Dy.nd rfl (by walk_at "o"))
   (Ab (BK (i:=4) Dy.nd rfl (by walk_at "o") (NT PySem.F.plainAttrs_str PySem.F.slot_str_lstrip PySem.F.type_str_lstrip eU (pv 3) (Aa BJ Ac)))
  (Ab (BK (i:=5) Dy.nd rfl (by walk_at "o") (NT PySem.F.plainAttrs_str PySem.F.slot_str_rstrip PySem.F.type_str_rstrip eQ (pv 4) (Aa BJ Ac)))
  (Ab (CG (BL Cg (pv 5) BJ (Bd _))
   (Ag (Ef T rfl er.x_NoRule rfl (Aa BJ Ac)))
   Bh)
  (Ab (BK (i:=6) Dy.nd rfl (by walk_at "o") (BP Ei (CW Eo rfl z_len PySem.boot_len (Aa (pv 3) Ac)) (CW Eo rfl z_len PySem.boot_len (Aa (pv 4) Ac))))
  (Ab (BK (i:=7) Dy.nd rfl (by walk_at "o") (BP Ei (CW Eo rfl z_len PySem.boot_len (Aa (pv 4) Ac)) (CW Eo rfl z_len PySem.boot_len (Aa (pv 5) Ac))))
  (Ab (BK (i:=2) Dy.nd rfl (by walk_at "o") (BP Dj (pv 2) (pv 6)))
  (Ab (CG (BL GZ (pv 2) (DR rfl m_MOST_BRACKETS (Dw _ _)) (Bd _))
   (Ag (Ef T rfl er.x_NoRule rfl (Aa BJ Ac)))
   Bh)
  (Ab (BK (i:=2) Dy.nd rfl (by walk_at "o") (BP Ei (pv 2) (pv 7)))
  (Ag (CT (NT PySem.F.plainAttrs_list PySem.F.slot_list_extend PySem.F.type_list_extend Mr (pv 1) (Aa (BP jP (BP jP (BP aA (GC (Aa BJ Ac)) (pv 6)) (GC (Aa (pv 5) Ac))) (BP aA (GC (Aa BJ Ac)) (pv 7))) Ac)))))))))))))
  (Ag (BZ (pv 1)))))),?_⟩
 walk_at "x"
 refine⟨Nat.zero_le _,fun l hl=>?_⟩
 refine fresh hl fun H1 s1 t1=>?_
 walk_at "x"
 refine W9 (bW ?_)
 walk_at "x"
 refine bc ?_
 walk_at "x"
 refine⟨rfl,?_⟩
 walk_at "x"
 refine⟨z,32,rfl,by rw[show Str.ofString " "=⟨#[32]⟩ from by decide +kernel],by decide,hz.len,fun l2 hl2=>?_⟩
 refine fresh hl2 fun H2 s2 t2=>?_
 walk_at "x"
 have ll:l2≠l:=fun z=>by rw[z,t1] at hl2;cases hl2
 have wt:=Zg 32 (cpl z)
 generalize hps:spl 32 (cpl z)=ps at*
 have t2:H2 l2=some (.lst (ps.map fun w=>V.str (sW w))):=by rw[t2,qD,hps,List.map_map];rfl
 have fl:=U6 ps
 have plen:∀(i:Nat) (w:Wd),ps[i]?=some w→w.length≤4000∧i<ps.length:=fun i w hw=>by
  have h1:(w.length+1)≤(ps.map fun w=>w.length+1).sum:=Xo (List.mem_map.mpr ⟨w,List.mem_of_getElem? hw,rfl⟩)
  exact⟨by omega,(List.getElem?_eq_some_iff.mp hw).1⟩
 refine⟨l2,rfl,⟨_,SqL.of t2⟩,QT (xs:=ps.map fun w=>V.str (sW w)) (fun i σ' H'=>Bo H H'∧H' l2=some (.lst (ps.map fun w=>V.str (sW w)))∧∃(d:Int) (v3 v4 v5 v6 v7:Option V),H' l=some (.lst (((ps.take i).flatMap Ez).map fun w=>V.str (sW w)))∧wordsOf 0 ps=(wordsOf d (ps.drop i)).map (fun r=>(ps.take i).flatMap Ez++r)∧σ'=[some (.str z),some (.ref l),some (.int d),v3,v4,v5,v6,v7]) ⟨s1.trans s2,t2,0,none,none,none,none,none,s2 _ _ t1,by rw[List.drop_zero];cases wordsOf 0 ps<;>rfl,rfl⟩ ?_ ?_ ?_⟩
 ·rintro i σ' H' _ ⟨_,t,_⟩
  exact SqL.of t
 ·rintro i x σ' H' hx ⟨sH,tp,d,v3,v4,v5,v6,v7,tl,ew,rfl⟩
  rw[List.getElem?_map] at hx
  obtain⟨w,hw,rfl⟩:=Option.map_eq_some_iff.mp hx
  obtain⟨wl,il⟩:=plen i w hw
  have ol:=RD w
  have cl:=Mt w
  have ed:ps.drop i=w::ps.drop (i+1):=by
   rw[List.drop_eq_getElem_cons il]
   congr 1
   rw[List.getElem?_eq_getElem il] at hw
   injection hw
  rw[ed] at ew
  have fit:w.length≤sizeLine:=Nat.le_trans wl (by decide)
  walk_at "x"
  refine bc ?_
  walk_at "x"
  refine⟨rfl,?_⟩
  walk_at "x"
  refine⟨sW w,_,rfl,rfl,by rw[Es];exact fit,?_⟩
  rw[show (if stripSame (Str.ofString "(").cps.contains true false (sW w) then sW w else stripped (Str.ofString "(").cps.contains true false (sW w))=sW (opd w) from uv w]
  walk_at "x"
  refine bc ?_
  walk_at "x"
  refine⟨rfl,?_⟩
  walk_at "x"
  refine⟨sW (opd w),_,rfl,rfl,by rw[Es];omega,?_⟩
  rw[show (if stripSame (Str.ofString ")").cps.contains false true (sW (opd w)) then sW (opd w) else stripped (Str.ofString ")").cps.contains false true (sW (opd w)))=sW (core w) from uU w]
  walk_at "x"
  rw[g8]
  refine Ca (fun e=>?_) (fun e=>?_)
  ·have e:=FT.mp e
   walk_at "x"
   refine⟨(by show 1≤sizeLine;decide),qe ?_ H' sH⟩
   rw[ew]
   simp only[wordsOf]
   rw[if_pos e]
   rfl
  have e:core w≠[]:=fun z=>e (FT.mpr z)
  walk_at "x"
  refine⟨_,rfl,by rw[Es];exact fit,?_⟩
  walk_at "x"
  refine⟨_,rfl,by rw[Es];omega,?_⟩
  walk_at "x"
  refine⟨_,rfl,by rw[Es];omega,?_⟩
  walk_at "x"
  refine⟨_,rfl,by rw[Es];omega,?_⟩
  rw[Es,Es,Es]
  walk_at "x"
  refine Ca (fun e2=>?_) (fun e2=>?_)
  ·walk_at "x"
   refine⟨(by show 1≤sizeLine;decide),qe ?_ H' sH⟩
   rw[ew]
   simp only[wordsOf]
   rw[if_neg e,if_pos (by omega)]
   rfl
  walk_at "x"
  refine XC rfl tl ?_
  walk_at "x"
  have sz:∀n:Nat,n≤100000→n≤sizeLine:=fun n h=>Nat.le_trans h (by decide)
  refine⟨(by show 1≤sizeLine;decide),fun m1 hm1=>?_⟩
  refine fresh hm1 fun H3 s3 t3=>?_
  rw[uQ] at t3
  walk_at "x"
  refine Z3 t3 (by omega) (by omega) (sz _ (by simp;omega)) fun m2 hm2=>?_
  refine fresh hm2 fun H4 s4 t4=>?_
  rw[UT] at t4
  walk_at "x"
  refine⟨(by show 1≤sizeLine;decide),fun m3 hm3=>?_⟩
  refine fresh hm3 fun H5 s5 t5=>?_
  walk_at "x"
  refine⟨m2,m3,_,_,rfl,rfl,s5 _ _ t4,t5,sz _ (by simp;omega),fun m4 hm4=>?_⟩
  refine fresh hm4 fun H6 s6 t6=>?_
  walk_at "x"
  refine⟨(by show 1≤sizeLine;decide),fun m5 hm5=>?_⟩
  refine fresh hm5 fun H7 s7 t7=>?_
  rw[uP] at t7
  walk_at "x"
  refine Z3 t7 (by omega) (by omega) (sz _ (by simp;omega)) fun m6 hm6=>?_
  refine fresh hm6 fun H8 s8 t8=>?_
  rw[UT] at t8
  walk_at "x"
  refine⟨m4,m6,_,_,rfl,rfl,(s7.trans s8) _ _ t6,t8,sz _ (by simp;omega),fun m7 hm7=>?_⟩
  refine fresh hm7 fun H9 s9 t9=>?_
  have sA:=s3.trans (s4.trans (s5.trans (s6.trans (s7.trans (s8.trans s9)))))
  rw[show ((w.length:Int)-((opd w).length:Int)).toNat=w.length-(opd w).length by omega,show(((opd w).length:Int)-((core w).length:Int)).toNat=(opd w).length-(core w).length by omega,←qy] at t9
  have tk:(ps.take (i+1)).flatMap Ez=(ps.take i).flatMap Ez++Ez w:=by
   rw[List.take_add_one,hw,Option.toList_some,List.flatMap_append,List.flatMap_cons,List.flatMap_nil,List.append_nil]
  have tle:=lD (ps:=ps) i
  have ple:=YW w
  refine Q5 ?_
  refine⟨l,m7,_,_,rfl,rfl,sA _ _ tl,t9,?_,?_⟩
  ·rw[List.length_map,List.length_map]
   have b1:((ps.take i).flatMap Ez).length≤4001:=Nat.le_trans tle (Nat.le_trans fl (by rw[wt];omega))
   exact sz _ (Nat.le_trans (Nat.add_le_add b1 ple) (by omega))
  ·rw[←List.map_append,←tk]
   refine⟨fun r o ho=>?_,?_,_,_,_,_,_,_,BR,?_,rfl⟩
   ·rw[Bw fun z=>by rw[z,hl] at ho;cases ho]
    exact sA _ _ (sH _ _ ho)
   ·rw[Bw ll]
    exact sA _ _ tp
   ·rw[ew,tk]
    simp only[wordsOf]
    rw[if_neg e,if_neg (by omega)]
    cases wordsOf (d+((w.length:Int)-((opd w).length:Int))-(((opd w).length:Int)-((core w).length:Int))) (ps.drop (i+1)) with
    | none=>rfl
    | some r=>simp
 ·rintro σ' H' ⟨sH,_,d,v3,v4,v5,v6,v7,tl,ew,rfl⟩
  rw[List.length_map,List.take_length] at tl
  rw[List.length_map,List.take_length,List.drop_length] at ew
  walk_at "x"
  exact q _ l H' (by rw[ew];simp[wordsOf]) sH tl
theorem Fq:BV ["reader","number","word","plan"] ["reader"] (Ao HR):=by walk_at "s"
theorem RG{k d:Nat}{f:Addr}{fd:FuncData}(F:Fun K "take_numbered" "take_numbered" HR f fd)(er:Dr K mg Aw Af Ad BW Be Al Ah An Az CZ DP Ax Av Ba Ay Bl Bc Ak Aq CJ Bq CN CK Bb Ar Aj Ae Bf BX Am)(c_take_number:CQ P w K mg base 3 "take_number" ["reader"] (Qj Aj Ah))(c_Reader_take:Eb P w K mg base CX0 2 Aj "take" ["self"] (JD Aj))(c_take_plan:CQ P w K mg base k "take_plan" ["reader"] ((Jt Aj Ah) d))(c_take_word:CQ P w K mg base 3 "take_word" ["reader","word"] (Qg Aj Ah))(hk:8≤k):Bu P w K mg base (CX1 P w) (k+1) f fd ["reader"] ((Wm Aj Ah) d):=by
 refine F.okE (k:=k+0) Fq (fun vs H Q E h=>?_) (fun cdv A outer s H vs Q E hr h T=>?_)
 ·obtain⟨x,p,ws,k,rfl,_⟩:=h
  rfl
 obtain⟨x,p,ws,k,rfl,R,D,o⟩:=h
 refine⟨_,(Ab (BK (i:=1) Fq.nd rfl (by walk_at "o") (Bg T c_take_number (hr.mono (by omega)) rfl (Aa (pv 0) Ac)))
  (Ab (BK (i:=2) Fq.nd rfl (by walk_at "o") (Dv c_Reader_take er.cl_Reader (hr.mono (by omega)) (pv 0)))
  (Ab (CG (BL Cg (pv 2) BJ (Bd _))
   (Ag (BZ (Bv (Aa (pv 2) (Aa (pv 1) (Aa (Bg T c_take_plan (hr.mono (by omega)) rfl (Aa (pv 0) Ac)) Ac))))))
   Bh)
  (Ab (CG (BL QC (pv 2) BJ (Bd _))
   (Ag (Ef T rfl er.x_NoRule rfl (Aa BJ Ac)))
   Bh)
  (Ab (BK (i:=3) Fq.nd rfl (by walk_at "o") (Bg T c_take_plan (hr.mono (by omega)) rfl (Aa (pv 0) Ac)))
  (Ab (CT (Bg T c_take_word (hr.mono (by omega)) rfl (Aa (pv 0) (Aa BJ Ac))))
  (Ag (BZ (Bv (Aa (pv 2) (Aa (pv 1) (Aa (pv 3) (Aa (Bg T c_take_plan (hr.mono (by omega)) rfl (Aa (pv 0) Ac)) Ac))))))))))))),?_⟩
 walk_at "x"
 refine⟨x,p,ws,k,rfl,R,fun n1 r v k1 H1 e1 kb1 R1 er ev=>?_,fun e H' kb=>o.2 (by unfold Er;rw[e]) H' kb⟩
 subst er ev
 have o1:=o.later kb1
 walk_at "x"
 have D1:=D.tk (Gb e1)
 have u:Er Bx (prs Bx d) (ws.drop k)=(match ws.drop k1 with | []=>none | w::r=>if w=Fo then match prs Bx d r with | none=>none | some (p,r)=>some (.later n1 p,r) else if w=kOf then match prs Bx d r with | none=>none | some (p,r)=>match tkW Cd r with | none=>none | some r=>match prs Bx d r with | none=>none | some (q,r)=>some (.nth n1 p q,r) else none):=by
  unfold Er
  rw[e1]
  cases ws.drop k1<;>rfl
 obtain⟨dx2,hx2⟩:=R1.ex
 refine⟨x,dx2,_,rfl,hx2,rfl,?_⟩
 walk_at "x"
 refine⟨x,p,ws,k1,rfl,R1,fun H2 k2 R2=>?_⟩
 walk_at "x"
 rw[Kv,bM]
 have o2:=o1.later k2
 refine Ca (fun e=>?_) (fun e=>?_)
 ·have e:=FT.mp e
  have dk:=GD e (by decide)
  rw[dk] at u D1
  have D2:=D1.word (by decide)
  simp only[if_true] at u
  walk_at "x"
  refine⟨x,p,ws,(k1+1),rfl,R2,D2,fun p3 r v3 k3 H3 e3 kb3 R3 er pl3=>?_,fun e H' kb=>o2.2 (by rw[u,e]) H' kb⟩
  subst er
  have o3:=o2.later kb3
  have D3:=DD.tk D2 (KC e3)
  walk_at "x"
  refine⟨(by show 3≤sizeLine;decide),fun q hq=>?_⟩
  refine fresh hq fun H4 s4 t4=>?_
  exact o3.1 (.later n1 p3) _ _ k3 H4 (by rw[u,e3]) (KB.sm s4) (R3.same s4) rfl ⟨q,_,rfl,(by rw[e] at t4;exact t4),PlH.kp (fun y xs e=>s4 _ _ e) pl3⟩
 ·have e:nxt ws k1≠Fo:=fun z=>e (FT.mpr z)
  walk_at "x"
  by_cases f:nxt ws k1=kOf
  ·have dk:=GD f (by decide)
   rw[dk] at u D1
   have D2:=D1.word (by decide)
   simp only[show kOf≠Fo by decide,if_false,if_true] at u
   refine QQ (by rw[f]) ?_
   walk_at "x"
   refine⟨x,p,ws,(k1+1),rfl,R2,D2,fun p3 r v3 k3 H3 e3 kb3 R3 er pl3=>?_,fun e H' kb=>o2.2 (by rw[u,e]) H' kb⟩
   subst er
   have o3:=o2.later kb3
   have D3:=DD.tk D2 (KC e3)
   walk_at "x"
   rw[e3] at u
   simp only[] at u
   rw[Ww]
   refine⟨x,p,ws,k3,Cd,rfl,by decide,by decide,R3,fun _ r v k4 H4 e4 kb4 R4 er ev=>?_,fun e H' kb=>o3.2 (by rw[u,Oz e]) H' kb⟩
   subst er
   have e4:=Ox e4
   have o4:=o3.later kb4
   walk_at "x"
   rw[e4] at u
   simp only[] at u
   have D4:DD d (ws.drop k4):=by
    have h:=Nh e4
    rw[h] at D3
    exact D3.word (by decide)
   refine⟨x,p,ws,k4,rfl,R4,D4,fun p5 r v5 k5 H5 e5 kb5 R5 er pl5=>?_,fun e H' kb=>o4.2 (by rw[u,e]) H' kb⟩
   subst er
   have o5:=o4.later kb5
   have D5:=DD.tk D4 (KC e5)
   walk_at "x"
   refine⟨(by show 4≤sizeLine;decide),fun q hq=>?_⟩
   refine fresh hq fun H6 s6 t6=>?_
   exact o5.1 (.nth n1 p3 p5) _ _ k5 H6 (by rw[u,e5]) (KB.sm s6) (R5.same s6) rfl ⟨q,_,_,rfl,(by rw[f] at t6;exact t6),PlH.kp (fun y xs e=>s6 _ _ e) (PlH.kb R4 kb5 (PlH.kb R3 kb4 pl3)),PlH.kp (fun y xs e=>s6 _ _ e) pl5⟩
  ·refine QR (fun z=>f (FT.mp z)) ?_
   walk_at "x"
   refine⟨(by show 1≤sizeLine;decide),o2.2 ?_ H2 KB.rf⟩
   rw[u]
   rcases Ij ws k1 with ⟨_,h⟩ | ⟨_,h,_⟩
   ·rw[h]
    simp only[]
    rw[if_neg e,if_neg f]
   ·rw[h]
theorem JF:BV ["reader","number","plan"] ["reader"] (Ao J2):=by walk_at "s"
theorem Vf{k d:Nat}{f:Addr}{fd:FuncData}(F:Fun K "take_every" "take_every" J2 f fd)(c_take_number:CQ P w K mg base 3 "take_number" ["reader"] (Qj Aj Ah))(c_take_word:CQ P w K mg base 3 "take_word" ["reader","word"] (Qg Aj Ah))(c_take_plan:CQ P w K mg base k "take_plan" ["reader"] ((Jt Aj Ah) d))(hk:8≤k):Bu P w K mg base (CX1 P w) (k+1) f fd ["reader"] ((Tp Aj Ah) d):=by
 refine F.okE (k:=k+0) JF (fun vs H Q E h=>?_) (fun cdv A outer s H vs Q E hr h T=>?_)
 ·obtain⟨x,p,ws,k,rfl,_⟩:=h
  rfl
 obtain⟨x,p,ws,k,rfl,R,D,o⟩:=h
 refine⟨_,(Ab (BK (i:=1) JF.nd rfl (by walk_at "o") (Bg T c_take_number (hr.mono (by omega)) rfl (Aa (pv 0) Ac)))
  (Ab (CT (Bg T c_take_word (hr.mono (by omega)) rfl (Aa (pv 0) (Aa BJ Ac))))
  (Ab (BK (i:=2) JF.nd rfl (by walk_at "o") (Bg T c_take_plan (hr.mono (by omega)) rfl (Aa (pv 0) Ac)))
  (Ab (CT (Bg T c_take_word (hr.mono (by omega)) rfl (Aa (pv 0) (Aa BJ Ac))))
  (Ag (BZ (Bv (Aa BJ (Aa (pv 1) (Aa (pv 2) (Aa (Bg T c_take_number (hr.mono (by omega)) rfl (Aa (pv 0) Ac)) Ac))))))))))),?_⟩
 walk_at "x"
 refine⟨x,p,ws,k,rfl,R,fun n1 r v k1 H1 e1 kb1 R1 er ev=>?_,fun e H' kb=>o.2 (by unfold HB;rw[e]) H' kb⟩
 subst er ev
 have o1:=o.later kb1
 walk_at "x"
 have u:HB Bx (prs Bx d) (ws.drop k)=(match tkW kOf (ws.drop k1) with | none=>none | some r=>match prs Bx d r with | none=>none | some (p,r)=>match tkW Cd r with | none=>none | some r=>match HJ Bx r with | none=>none | some (m,r)=>some (.every n1 p m,r)):=by
  unfold HB
  rw[e1]
 have D1:=D.tk (Gb e1)
 rw[bM]
 refine⟨x,p,ws,k1,kOf,rfl,by decide,by decide,R1,fun _ r v k2 H2 e2 kb2 R2 er ev=>?_,fun e H' kb=>o1.2 (by rw[u,Oz e]) H' kb⟩
 subst er
 have e2:=Ox e2
 have o2:=o1.later kb2
 walk_at "x"
 rw[e2] at u
 simp only[] at u
 have D2:DD d (ws.drop k2):=by
  have h:=Nh e2
  rw[h] at D1
  exact D1.word (by decide)
 refine⟨x,p,ws,k2,rfl,R2,D2,fun p3 r v3 k3 H3 e3 kb3 R3 er pl3=>?_,fun e H' kb=>o2.2 (by rw[u,e]) H' kb⟩
 subst er
 have o3:=o2.later kb3
 have D3:=DD.tk D2 (KC e3)
 walk_at "x"
 rw[e3] at u
 simp only[] at u
 rw[Ww]
 refine⟨x,p,ws,k3,Cd,rfl,by decide,by decide,R3,fun _ r v k4 H4 e4 kb4 R4 er ev=>?_,fun e H' kb=>o3.2 (by rw[u,Oz e]) H' kb⟩
 subst er
 have e4:=Ox e4
 have o4:=o3.later kb4
 walk_at "x"
 rw[e4] at u
 simp only[] at u
 refine⟨x,p,ws,k4,rfl,R4,fun n5 r v k5 H5 e5 kb5 R5 er ev=>?_,fun e H' kb=>o4.2 (by rw[u,e]) H' kb⟩
 subst er ev
 have o5:=o4.later kb5
 walk_at "x"
 refine⟨(by show 4≤sizeLine;decide),fun q hq=>?_⟩
 refine fresh hq fun H6 s6 t6=>?_
 exact o5.1 (.every n1 p3 n5) _ _ k5 H6 (by rw[u,e5]) (KB.sm s6) (R5.same s6) rfl ⟨q,_,rfl,t6,PlH.kp (fun y xs e=>s6 _ _ e) (PlH.kb R4 kb5 (PlH.kb R3 kb4 pl3))⟩
theorem Jx:BV ["reader","plan","word"] ["reader"] (Ao LK):=by walk_at "s"
theorem XR{k d:Nat}{f:Addr}{fd:FuncData}(F:Fun K "take_pair" "take_pair" LK f fd)(er:Dr K mg Aw Af Ad BW Be Al Ah An Az CZ DP Ax Av Ba Ay Bl Bc Ak Aq CJ Bq CN CK Bb Ar Aj Ae Bf BX Am)(c_take_plan:CQ P w K mg base k "take_plan" ["reader"] ((Jt Aj Ah) d))(c_Reader_take:Eb P w K mg base CX0 2 Aj "take" ["self"] (JD Aj)){ta_PAIR_WORDS:Addr}(m_PAIR_WORDS:mg "PAIR_WORDS"=some (.ref ta_PAIR_WORDS))(s_PAIR_WORDS:∀H,SqT K H ta_PAIR_WORDS [.str "and",.str "or",.str "but",.str "unlike",.str "upon",.str "until",.str "near",.str "till"])(hk:8≤k):Bu P w K mg base (CX1 P w) (k+1) f fd ["reader"] ((Wl Aj Ah) d):=by
 refine F.okE (k:=k+0) Jx (fun vs H Q E h=>?_) (fun cdv A outer s H vs Q E hr h T=>?_)
 ·obtain⟨x,p,ws,k,rfl,_⟩:=h
  rfl
 obtain⟨x,p,ws,k,rfl,R,D,o⟩:=h
 refine⟨_,(Ab (BK (i:=1) Jx.nd rfl (by walk_at "o") (Bg T c_take_plan (hr.mono (by omega)) rfl (Aa (pv 0) Ac)))
  (Ab (BK (i:=2) Jx.nd rfl (by walk_at "o") (Dv c_Reader_take er.cl_Reader (hr.mono (by omega)) (pv 0)))
  (Ab (CG (BL XJ (pv 2) (DR rfl m_PAIR_WORDS (Sw _)) (by rfl))
   (Ag (Ef T rfl er.x_NoRule rfl (Aa BJ Ac)))
   Bh)
  (Ag (BZ (Bv (Aa (pv 2) (Aa (pv 1) (Aa (Bg T c_take_plan (hr.mono (by omega)) rfl (Aa (pv 0) Ac)) Ac))))))))),?_⟩
 walk_at "x"
 refine⟨x,p,ws,k,rfl,R,D,fun p1 r v1 k1 H1 e1 kb1 R1 er pl1=>?_,fun e H' kb=>o.2 (by unfold Hr;rw[e]) H' kb⟩
 subst er
 have o1:=o.later kb1
 have D1:=DD.tk D (KC e1)
 walk_at "x"
 have u:Hr (prs Bx d) (ws.drop k)=(match ws.drop k1 with | []=>none | w::r=>if w∈Fj then match prs Bx d r with | none=>none | some (q,r)=>some (.pair w p1 q,r) else none):=by
  unfold Hr
  rw[e1]
  cases ws.drop k1<;>rfl
 obtain⟨dx2,hx2⟩:=R1.ex
 refine⟨x,dx2,_,rfl,hx2,rfl,?_⟩
 walk_at "x"
 refine⟨x,p,ws,k1,rfl,R1,fun H2 k2 R2=>?_⟩
 walk_at "x"
 have o2:=o1.later k2
 have pl2:=PlH.kb R1 k2 pl1
 refine⟨ta_PAIR_WORDS,_,rfl,.inr (s_PAIR_WORDS _),rfl,rfl,?_⟩
 rw[ji]
 walk_at "x"
 by_cases m:nxt ws k1∈Fj
 ·rw[decide_eq_true m]
  refine Hc ?_
  have mw:∀w∈Fj,w≠[]∧ht [w]=0:=by decide
  have dk:=GD rfl (mw _ m).1
  rw[dk] at u D1
  have D2:=D1.word (mw _ m).2
  simp only[] at u
  rw[if_pos m] at u
  walk_at "x"
  refine⟨x,p,ws,(k1+1),rfl,R2,D2,fun p3 r v3 k3 H3 e3 kb3 R3 er pl3=>?_,fun e H' kb=>o2.2 (by rw[u,e]) H' kb⟩
  subst er
  have o3:=o2.later kb3
  have D3:=DD.tk D2 (KC e3)
  walk_at "x"
  have pl3':=PlH.kb R2 kb3 pl2
  refine⟨(by show 3≤sizeLine;decide),fun q hq=>?_⟩
  refine fresh hq fun H4 s4 t4=>?_
  exact o3.1 (.pair (nxt ws k1) p1 p3) _ _ k3 H4 (by rw[u,e3]) (KB.sm s4) (R3.same s4) rfl ⟨q,_,_,rfl,t4,PlH.kp (fun y xs e=>s4 _ _ e) pl3',PlH.kp (fun y xs e=>s4 _ _ e) pl3⟩
 ·rw[decide_eq_false m]
  refine Lz ?_
  walk_at "x"
  refine⟨(by show 1≤sizeLine;decide),o2.2 ?_ H2 KB.rf⟩
  rw[u]
  rcases Ij ws k1 with ⟨_,h⟩ | ⟨_,h,_⟩
  ·rw[h]
   simp only[]
   rw[if_neg m]
  ·rw[h]
theorem Kz:BV ["reader","word"] ["reader"] (Ao JH):=by walk_at "s"
theorem Ul{k d:Nat}{f:Addr}{fd:FuncData}(F:Fun K "take_within" "take_within" JH f fd)(er:Dr K mg Aw Af Ad BW Be Al Ah An Az CZ DP Ax Av Ba Ay Bl Bc Ak Aq CJ Bq CN CK Bb Ar Aj Ae Bf BX Am)(c_Reader_peek:Eb P w K mg base CX0 1 Aj "peek" ["self"] (Ni Aj))(c_Reader_take:Eb P w K mg base CX0 2 Aj "take" ["self"] (JD Aj))(c_take_plan:CQ P w K mg base k "take_plan" ["reader"] ((Jt Aj Ah) d))(c_take_every:CQ P w K mg base (k+1) "take_every" ["reader"] ((Tp Aj Ah) d))(c_is_number:Cal P w K mg base 1 "is_number" ["text"] Sh)(c_take_numbered:CQ P w K mg base (k+1) "take_numbered" ["reader"] ((Wm Aj Ah) d))(c_take_pair:CQ P w K mg base (k+1) "take_pair" ["reader"] ((Wl Aj Ah) d))(hk:8≤k):Bu P w K mg base (CX1 P w) (k+2) f fd ["reader"] ((TV Aj Ah) d):=by
 refine F.okE (k:=k+1) Kz (fun vs H Q E h=>?_) (fun cdv A outer s H vs Q E hr h T=>?_)
 ·obtain⟨x,p,ws,k,rfl,_⟩:=h
  rfl
 obtain⟨x,p,ws,k,rfl,R,D,o⟩:=h
 refine⟨_,(Ab (BK (i:=1) Kz.nd rfl (by walk_at "o") (Dv c_Reader_peek er.cl_Reader (hr.mono (by omega)) (pv 0)))
  (Ab (CG (BL Cg (pv 1) BJ (Bd _))
   (Ab (CT (Dv c_Reader_take er.cl_Reader (hr.mono (by omega)) (pv 0)))
  (Ag (BZ (Bv (Aa (pv 1) (Aa (Bg T c_take_plan (hr.mono (by omega)) rfl (Aa (pv 0) Ac)) Ac))))))
   Bh)
  (Ab (CG (BL Cg (pv 1) BJ (Bd _))
   (Ab (CT (Dv c_Reader_take er.cl_Reader (hr.mono (by omega)) (pv 0)))
  (Ag (BZ (Bg T c_take_every (hr.mono (by omega)) rfl (Aa (pv 0) Ac)))))
   Bh)
  (Ab (CG (OD (Br c_is_number (hr.mono (by omega)) rfl (Aa (pv 1) Ac)))
   (Ag (BZ (Bg T c_take_numbered (hr.mono (by omega)) rfl (Aa (pv 0) Ac))))
   Bh)
  (Ag (BZ (Bg T c_take_pair (hr.mono (by omega)) rfl (Aa (pv 0) Ac)))))))),?_⟩
 walk_at "x"
 obtain⟨dx,hx⟩:=R.ex
 refine⟨x,dx,_,rfl,hx,rfl,?_⟩
 walk_at "x"
 refine⟨x,p,ws,k,rfl,R,?_⟩
 walk_at "x"
 rw[Qp]
 refine Ca (fun e=>?_) (fun e=>?_)
 ·have e:=FT.mp e
  have dk:=GD e (by decide)
  have u:Cp Bx (prs Bx d) (ws.drop k)=(match prs Bx d (ws.drop (k+1)) with | none=>none | some (p,r)=>some (.not p,r)):=by
   rw[dk]
   rfl
  rw[dk] at D
  have D1:=D.word (by decide)
  walk_at "x"
  obtain⟨dx1,hx1⟩:=R.ex
  refine⟨x,dx1,_,rfl,hx1,rfl,?_⟩
  walk_at "x"
  refine⟨x,p,ws,k,rfl,R,fun H1 k1 R1=>?_⟩
  walk_at "x"
  have o1:=o.later k1
  refine⟨x,p,ws,(k+1),rfl,R1,D1,fun p2 r v2 k2 H2 e2 kb2 R2 er pl2=>?_,fun e H' kb=>o1.2 (by rw[u,e]) H' kb⟩
  subst er
  have o2:=o1.later kb2
  have D2:=DD.tk D1 (KC e2)
  walk_at "x"
  rw[e]
  refine⟨Dz,fun q hq=>?_⟩
  refine fresh hq fun H4 s4 t4=>?_
  exact o2.1 (.not p2) _ _ k2 H4 (by rw[u,e2]) (KB.sm s4) (R2.same s4) rfl ⟨q,_,rfl,t4,PlH.kp (fun y xs e=>s4 _ _ e) pl2⟩
 have e:nxt ws k≠M9:=fun z=>e (FT.mpr z)
 walk_at "x"
 rw[PL]
 refine Ca (fun f=>?_) (fun f=>?_)
 ·have f:=FT.mp f
  have dk:=GD f (by decide)
  have u:Cp Bx (prs Bx d) (ws.drop k)=HB Bx (prs Bx d) (ws.drop (k+1)):=by
   rw[dk]
   rfl
  rw[u] at o
  rw[dk] at D
  have D1:=D.word (by decide)
  walk_at "x"
  obtain⟨dx1,hx1⟩:=R.ex
  refine⟨x,dx1,_,rfl,hx1,rfl,?_⟩
  walk_at "x"
  refine⟨x,p,ws,k,rfl,R,fun H1 k1 R1=>?_⟩
  walk_at "x"
  exact⟨x,p,ws,k+1,rfl,R1,D1,o.later k1⟩
 have f:nxt ws k≠GQ:=fun z=>f (FT.mpr z)
 walk_at "x"
 refine⟨_,rfl,aM R.ok k,fun v H2 s2 iv=>?_⟩
 rw[Dk,Xm] at iv
 have R2:=R.same s2
 walk_at "x"
 cases v with
 | true=>
  have nb:=iv.mp rfl
  have wn:nxt ws k≠[]:=fun z=>by rw[z] at nb;revert nb;decide
  refine Lz ?_
  walk_at "x"
  refine⟨x,p,ws,k,rfl,R2,D,?_⟩
  rw[GD rfl wn] at o ⊢
  rw[Ng nb] at o
  exact o.later (KB.sm s2)
 | false=>
  have nb:¬G7 (nxt ws k)=true:=fun z=>absurd (iv.mpr z) (by decide)
  refine Hc ?_
  walk_at "x"
  refine⟨x,p,ws,k,rfl,R2,D,?_⟩
  rcases Ij ws k with ⟨_,h⟩ | ⟨_,h,_⟩
  ·rw[h] at o ⊢
   simp only[Cp] at o
   rw[if_neg e,if_neg f,if_neg nb] at o
   exact o.later (KB.sm s2)
  ·rw[h] at o ⊢
   have:Hr (prs Bx d) []=none:=by
    unfold Hr
    cases d<;>rfl
   rw[this]
   exact Out.later (show Out Aj Ah H x p ws (none:Option (Pl×List Wd)) aV Q E from o) (KB.sm s2)
theorem Hg:BV ["reader","word","plan","numbers"] ["reader"] (Ao LC):=by walk_at "s"
theorem XQ{k d:Nat}{f:Addr}{fd:FuncData}(F:Fun K "take_plan" "take_plan" LC f fd)(er:Dr K mg Aw Af Ad BW Be Al Ah An Az CZ DP Ax Av Ba Ay Bl Bc Ak Aq CJ Bq CN CK Bb Ar Aj Ae Bf BX Am)(c_Reader_take:Eb P w K mg base CX0 2 Aj "take" ["self"] (JD Aj))(c_take_each:CQ P w K mg base 4 "take_each" ["reader"] (Su Aj Ah))(c_take_date:CQ P w K mg base 5 "take_date" ["reader"] (Ws Aj Ah))(c_take_within:CQ P w K mg base (k+2) "take_within" ["reader"] ((TV Aj Ah) d))(c_take_word:CQ P w K mg base 3 "take_word" ["reader","word"] (Qg Aj Ah))(hk:8≤k):Bu P w K mg base (CX1 P w) (k+3) f fd ["reader"] ((Jt Aj Ah) (d+1)):=by
 refine F.okE (k:=k+2) Hg (fun vs H Q E h=>?_) (fun cdv A outer s H vs Q E hr h T=>?_)
 ·obtain⟨x,p,ws,k,rfl,_⟩:=h
  rfl
 obtain⟨x,p,ws,k,rfl,R,D,o⟩:=h
 refine⟨_,(Ab (BK (i:=1) Hg.nd rfl (by walk_at "o") (Dv c_Reader_take er.cl_Reader (hr.mono (by omega)) (pv 0)))
  (Ab (CG (PW.pt (Pr (BL Cg (pv 1) BJ (Bd _)) (J8 (BL Cg (pv 1) BJ (Bd _)))))
   (Ag (BZ (Bv (Aa (pv 1) Ac))))
   Bh)
  (Ab (CG (BL Cg (pv 1) BJ (Bd _))
   (Ab (BK (i:=3) Hg.nd rfl (by walk_at "o") (Bg T c_take_each (hr.mono (by omega)) rfl (Aa (pv 0) Ac)))
  (Ag (BZ (Bv (Aa (pv 1) (Aa (Bp Bm (pv 3) Ai (fun _ _=>rfl)) (Aa (Bp Bm (pv 3) Ai (fun _ _=>rfl)) Ac)))))))
   Bh)
  (Ab (CG (BL Cg (pv 1) BJ (Bd _))
   (Ag (BZ (Bg T c_take_date (hr.mono (by omega)) rfl (Aa (pv 0) Ac))))
   Bh)
  (Ab (CG (BL QC (pv 1) BJ (Bd _))
   (Ag (Ef T rfl er.x_NoRule rfl (Aa BJ Ac)))
   Bh)
  (Ab (BK (i:=2) Hg.nd rfl (by walk_at "o") (Bg T c_take_within (hr.mono (by omega)) rfl (Aa (pv 0) Ac)))
  (Ab (CT (Bg T c_take_word (hr.mono (by omega)) rfl (Aa (pv 0) (Aa BJ Ac))))
  (Ag (BZ (pv 2)))))))))),?_⟩
 walk_at "x"
 obtain⟨dx1,hx1⟩:=R.ex
 refine⟨x,dx1,_,rfl,hx1,rfl,?_⟩
 walk_at "x"
 refine⟨x,p,ws,k,rfl,R,fun H1 k1 R1=>?_⟩
 walk_at "x"
 have o1:=o.later k1
 rw[Kw,Im]
 refine Ca (fun e=>?_) (fun e=>?_)
 ·have e:=FT.mp e
  refine Lz ?_
  walk_at "x"
  refine⟨(by show 1≤sizeLine;decide),fun q hq=>?_⟩
  refine fresh hq fun H4 s4 t4=>?_
  exact o1.1 (.lf (nxt ws k)) _ _ (k+1) H4 (by rw[GD e (by decide),e];rfl) (KB.sm s4) (R1.same s4) rfl ⟨q,rfl,t4⟩
 have e:nxt ws k≠U3:=fun z=>e (FT.mpr z)
 walk_at "x"
 refine Ca (fun f=>?_) (fun f=>?_)
 ·have f:=FT.mp f
  walk_at "x"
  refine⟨(by show 1≤sizeLine;decide),fun q hq=>?_⟩
  refine fresh hq fun H4 s4 t4=>?_
  exact o1.1 (.lf (nxt ws k)) _ _ (k+1) H4 (by rw[GD f (by decide),f];rfl) (KB.sm s4) (R1.same s4) rfl ⟨q,rfl,t4⟩
 have f:nxt ws k≠Ly:=fun z=>f (FT.mpr z)
 walk_at "x"
 rw[Hf]
 refine Ca (fun g=>?_) (fun g=>?_)
 ·have g:=FT.mp g
  have dk:=GD g (by decide)
  have u:prs Bx (d+1) (ws.drop k)=(match Gd Bx (ws.drop (k+1)) with | none=>none | some (y,r)=>some (.each y.1 y.2,r)):=by
   rw[dk]
   rfl
  walk_at "x"
  refine⟨x,p,ws,k+1,rfl,R1,fun y r v k2 H2 e2 kb2 R2 er ev=>?_,fun e H' kb=>o1.2 (by rw[u,e]) H' kb⟩
  subst er
  obtain⟨q,rfl,tq⟩:=ev
  have o2:=o1.later kb2
  walk_at "x"
  refine Bj (SqT.of tq) at0 ?_
  walk_at "x"
  refine Bj (SqT.of tq) at1 ?_
  walk_at "x"
  refine⟨(by show 3≤sizeLine;decide),fun q3 hq3=>?_⟩
  refine fresh hq3 fun H4 s4 t4=>?_
  rw[g] at t4
  exact o2.1 (.each y.1 y.2) _ _ k2 H4 (by rw[u,e2]) (KB.sm s4) (R2.same s4) rfl ⟨q3,rfl,t4⟩
 have g:nxt ws k≠Cr:=fun z=>g (FT.mpr z)
 walk_at "x"
 rw[Jw]
 refine Ca (fun h=>?_) (fun h=>?_)
 ·have h:=FT.mp h
  have dk:=GD h (by decide)
  have u:prs Bx (d+1) (ws.drop k)=JC Bx (ws.drop (k+1)):=by
   rw[dk]
   rfl
  rw[u] at o1
  walk_at "x"
  exact⟨x,p,ws,k+1,rfl,R1,o1⟩
 have h:nxt ws k≠Cz:=fun z=>h (FT.mpr z)
 walk_at "x"
 rw[uQ]
 by_cases i:nxt ws k=kL
 ·have dk:=GD i (by decide)
  refine QQ (by rw[i]) ?_
  have u:prs Bx (d+1) (ws.drop k)=(match Cp Bx (prs Bx d) (ws.drop (k+1)) with | none=>none | some (p,r)=>match tkW kR r with | none=>none | some r=>some (p,r)):=by
   rw[dk]
   rfl
  rw[dk] at D
  have D1:=D.open
  walk_at "x"
  refine⟨x,p,ws,k+1,rfl,R1,D1,fun p2 r v2 k2 H2 e2 kb2 R2 er pl2=>?_,fun e H' kb=>o1.2 (by rw[u,e]) H' kb⟩
  subst er
  have o2:=o1.later kb2
  rw[e2] at u
  simp only[] at u
  walk_at "x"
  rw[uP]
  refine⟨x,p,ws,k2,kR,rfl,by decide,by decide,R2,fun _ r v k3 H3 e3 kb3 R3 er ev=>?_,fun e H' kb=>o2.2 (by rw[u,Oz e]) H' kb⟩
  subst er
  have e3:=Ox e3
  have o3:=o2.later kb3
  walk_at "x"
  exact o3.1 p2 _ _ k3 H3 (by rw[u,e3]) KB.rf R3 rfl (PlH.kb R2 kb3 pl2)
 ·refine QR (fun z=>i (FT.mp z)) ?_
  walk_at "x"
  refine⟨(by show 1≤sizeLine;decide),o1.2 ?_ H1 KB.rf⟩
  rcases Ij ws k with ⟨_,z⟩ | ⟨_,z,_⟩
  ·rw[z]
   simp only[prs]
   rw[if_neg (fun y=>y.elim e f),if_neg g,if_neg h,if_neg i]
  ·rw[z]
   rfl
theorem PX:BV ["plan","calendars","name"] ["plan","calendars"] (Ao Lg):=by walk_at "s"
theorem Xe{f:Addr}{fd:FuncData}(F:Fun K "made_date" "made_date" Lg f fd)(er:Dr K mg Aw Af Ad BW Be Al Ah An Az CZ DP Ax Av Ba Ay Bl Bc Ak Aq CJ Bq CN CK Bb Ar Aj Ae Bf BX Am)(c_NoName___init__:kO P w K mg base 1 "NoName" An Aw ["self","name"] (Jv An "name" jW))(c_Dated___init__:Eu P w K mg base (CX1 P w) 6 "Dated" Av ["self","name","calendar","month","day","step","rest"] (Zq K Az [Ax,Av,Ba,Ay,Bc,Ak,Aq,Bb,Ar] ⟨An,Af,Al,Ah,Ad⟩ Av BX Ae Am)):Bu P w K mg base (CX1 P w) 8 f fd ["plan","calendars"] (Qk K Az [Ax,Av,Ba,Ay,Bc,Ak,Aq,Bb,Ar] ⟨An,Af,Al,Ah,Ad⟩ BX Ae Am):=by
 refine F.okE (k:=7) PX (fun vs H Q E h=>?_) (fun cdv A outer s H vs Q E hr h T=>?_)
 ·obtain⟨v,a,nm,m,d,s,r,D,rfl,_⟩:=h
  rfl
 obtain⟨v,a,nm,m,d,s,r,D,rfl,⟨q0,rfl,hq⟩,L,C,h⟩:=h
 obtain⟨cs,co,hc,S,X⟩:=id C
 have dg:∀(H':Hp) o,H' a=some (.dK [(.inr "sun",.ref cs),(.inr "old",.ref co)])→o=Mw [((.inr "sun":Key),V.ref cs),(.inr "old",.ref co)] (.inr (sW nm))→ZR H' a (.str (sW nm)) o:=fun H' o e1 e2=>.inl ⟨_,.inr (sW nm),.inl e1,rfl,e2⟩
 refine⟨_,(Ab (BK (i:=2) PX.nd rfl (by walk_at "o") (Bp Bm (pv 0) Ai (fun _ _=>rfl)))
  (Ab (CG (rA (eE (pP hr) (pv 2) (pv 1)))
   (Ag (V0 T rfl c_NoName___init__ (hr.mono (by decide)) rfl (Aa (pv 2) Ac)))
   Bh)
  (Ag (BZ (KD T c_Dated___init__ (hr.mono (by decide)) rfl (Aa (pv 2) (Aa (mK (pP hr) (pv 1) (pv 2) (fun _ _=>rfl)) (Aa (Bp Bm (pv 0) Ai (fun _ _=>rfl)) (Aa (Bp Bm (pv 0) Ai (fun _ _=>rfl)) (Aa (Bp Bm (pv 0) Ai (fun _ _=>rfl)) (Aa (Bp Bm (pv 0) Ai (fun _ _=>rfl)) Ac))))))))))),?_⟩
 walk_at "x"
 refine Bj (SqT.of hq) MK ?_
 walk_at "x"
 unfold bG
 walk_at "x"
 by_cases hn:nm=Hj∨nm=M8
 ·obtain⟨y,ey,da⟩:∃y:Addr,Mw [((.inr "sun":Key),V.ref cs),(.inr "old",.ref co)] (.inr (sW nm))=some (.ref y)∧DA BX Ae Am H y m d s r D:=by
   have e1:Mw [((.inr "sun":Key),V.ref cs),(.inr "old",.ref co)] (.inr (sW Hj))=some (.ref cs):=rfl
   have e2:Mw [((.inr "sun":Key),V.ref cs),(.inr "old",.ref co)] (.inr (sW M8))=some (.ref co):=rfl
   cases L with
   | name n1 n2 n3=>exact absurd hn (fun z=>z.elim n1 n2)
   | num=>exact⟨cs,e1,.num⟩
   | cyc=>exact⟨co,e2,.cyc X⟩
   | long a1 a2=>exact⟨cs,e1,.long S a1 a2⟩
   | made=>exact⟨cs,e1,.made S⟩
  refine⟨a,some (.ref y),rfl,dg H _ hc ey.symm,?_⟩
  refine⟨_,rfl,?_⟩
  refine Hc ?_
  walk_at "x"
  unfold pB
  walk_at "x"
  refine⟨a,.ref y,rfl,dg H _ hc ey.symm,?_⟩
  walk_at "x"
  refine Bj (SqT.of hq) fQ ?_
  walk_at "x"
  refine Bj (SqT.of hq) tR ?_
  walk_at "x"
  refine Bj (SqT.of hq) wB ?_
  walk_at "x"
  refine Bj (SqT.of hq) wA ?_
  walk_at "x"
  intro x dx h1 h2 ne
  exact⟨x,y,sW nm,m,d,s,r,D,rfl,(by rw[Es];rcases hn with rfl | rfl<;>decide),da.same (Em h1 h2 ne),Gn h1 h2 ne h⟩
 ·have e0:Mw [((.inr "sun":Key),V.ref cs),(.inr "old",.ref co)] (.inr (sW nm))=none:=by
   have n1:(Str.ofString "sun")≠sW nm:=fun z=>hn (.inl (by rw[show Str.ofString "sun"=sW Hj by decide +kernel] at z;rw[←Dk nm,←z,Dk]))
   have n2:(Str.ofString "old")≠sW nm:=fun z=>hn (.inr (by rw[show Str.ofString "old"=sW M8 by decide +kernel] at z;rw[←Dk nm,←z,Dk]))
   unfold Mw
   simp[n1,n2]
  refine⟨a,none,rfl,dg H _ hc e0.symm,?_⟩
  refine⟨_,rfl,?_⟩
  refine Lz ?_
  walk_at "x"
  have h:pW An (sW nm) H E∧nm.length≤100:=by
   cases L with
   | name n1 n2 n3=>exact⟨h,n3⟩
   | num=>exact absurd (.inl rfl) hn
   | cyc=>exact absurd (.inr rfl) hn
   | long a1 a2=>exact absurd (.inl rfl) hn
   | made=>exact absurd (.inl rfl) hn
  exact Vx (fun Q hQ=>by walk_at "x";exact hQ) ⟨_,rfl,by rw[Es];exact h.2⟩ fun dd H' s' e=>h.1 dd H' s' e
theorem W0:BV ["word","one","other"] ["word","one","other"] (Ao Le):=by walk_at "s"
theorem Xd{f:Addr}{fd:FuncData}(F:Fun K "made_pair" "made_pair" Le f fd)(er:Dr K mg Aw Af Ad BW Be Al Ah An Az CZ DP Ax Av Ba Ay Bl Bc Ak Aq CJ Bq CN CK Bb Ar Aj Ae Bf BX Am)(c_Both___init__:Eu P w K mg base (CX1 P w) 6 "Both" Ay ["self","R","S"] (O9 K Az [Ax,Av,Ba,Ay,Bc,Ak,Aq,Bb,Ar] ⟨An,Af,Al,Ah,Ad⟩ Ay))(c_Either___init__:Eu P w K mg base CX0 1 "Either" Bl ["self","R","S"] Gx)(c_But___init__:Eu P w K mg base (CX1 P w) 7 "But" Bc ["self","R","S"] (O9 K Az [Ax,Av,Ba,Ay,Bc,Ak,Aq,Bb,Ar] ⟨An,Af,Al,Ah,Ad⟩ Bc))(c_Unlike___init__:Eu P w K mg base (CX1 P w) 6 "Unlike" Ak ["self","R","S"] (O9 K Az [Ax,Av,Ba,Ay,Bc,Ak,Aq,Bb,Ar] ⟨An,Af,Al,Ah,Ad⟩ Ak))(c_Upon___init__:Eu P w K mg base CX0 1 "Upon" CJ ["self","R","S"] Gx)(c_Until___init__:Eu P w K mg base CX0 1 "Until" Bq ["self","R","S"] Gx)(c_Near___init__:Eu P w K mg base CX0 1 "Near" CN ["self","R","S"] Gx)(c_Till___init__:Eu P w K mg base CX0 1 "Till" CK ["self","R","S"] Gx):Bu P w K mg base (CX1 P w) 9 f fd ["word","one","other"] (Zm K Az [Ax,Av,Ba,Ay,Bc,Ak,Aq,Bb,Ar] ⟨An,Af,Al,Ah,Ad⟩):=by
 refine F.okE (k:=8) W0 (fun vs H Q E h=>?_) (fun cdv A outer s H vs Q E hr h T=>?_)
 ·obtain⟨w,a,b,n1,n2,b1,b2,rfl,_⟩:=h
  rfl
 obtain⟨w,a,b,n1,n2,b1,b2,rfl,hw,R1,R2,h⟩:=h
 refine⟨_,(Ab (CG (BL Cg (pv 0) BJ (Bd _))
  (Ag (BZ (KD T c_Both___init__ (hr.mono (by decide)) rfl (Aa (pv 1) (Aa (pv 2) Ac)))))
  Bh)
  (Ab (CG (BL Cg (pv 0) BJ (Bd _))
   (Ag (BZ (Ri c_Either___init__ (hr.mono (by decide)) rfl (Aa (pv 1) (Aa (pv 2) Ac)))))
   Bh)
  (Ab (CG (BL Cg (pv 0) BJ (Bd _))
   (Ag (BZ (KD T c_But___init__ (hr.mono (by decide)) rfl (Aa (pv 1) (Aa (pv 2) Ac)))))
   Bh)
  (Ab (CG (BL Cg (pv 0) BJ (Bd _))
   (Ag (BZ (KD T c_Unlike___init__ (hr.mono (by decide)) rfl (Aa (pv 1) (Aa (pv 2) Ac)))))
   Bh)
  (Ab (CG (BL Cg (pv 0) BJ (Bd _))
   (Ag (BZ (Ri c_Upon___init__ (hr.mono (by decide)) rfl (Aa (pv 1) (Aa (pv 2) Ac)))))
   Bh)
  (Ab (CG (BL Cg (pv 0) BJ (Bd _))
   (Ag (BZ (Ri c_Until___init__ (hr.mono (by decide)) rfl (Aa (pv 1) (Aa (pv 2) Ac)))))
   Bh)
  (Ab (CG (BL Cg (pv 0) BJ (Bd _))
   (Ag (BZ (Ri c_Near___init__ (hr.mono (by decide)) rfl (Aa (pv 1) (Aa (pv 2) Ac)))))
   Bh)
  (Ag (BZ (Ri c_Till___init__ (hr.mono (by decide)) rfl (Aa (pv 1) (Aa (pv 2) Ac)))))))))))),?_⟩
 have go:∀y dy,H y=none→H dy=none→dy≠y→∀o,FN K Az [Ax,Av,Ba,Ay,Bc,Ak,Aq,Bb,Ar] (upd (upd H dy (.own y)) y o) a n1 b1∧FN K Az [Ax,Av,Ba,Ay,Bc,Ak,Aq,Bb,Ar] (upd (upd H dy (.own y)) y o) b n2 b2:=fun y dy hy hdy ne o=>⟨R1.same (Em hy hdy ne),R2.same (Em hy hdy ne)⟩
 walk_at "x"
 unfold pw3 at hw
 simp only[List.mem_cons,List.not_mem_nil,or_false] at hw
 rcases hw with rfl | rfl | rfl
 ·refine Jl (by decide +kernel) ?_
  walk_at "x"
  exact fun y dy hy hdy ne=>⟨y,a,b,n1,n2,b1,b2,rfl,(go y dy hy hdy ne _).1,(go y dy hy hdy ne _).2,Gn hy hdy ne h⟩
 ·refine Ck (by decide +kernel) ?_
  walk_at "x"
  refine Ck (by decide +kernel) ?_
  walk_at "x"
  refine Jl (by decide +kernel) ?_
  walk_at "x"
  exact fun y dy hy hdy ne=>⟨y,a,b,n1,n2,b1,b2,rfl,(go y dy hy hdy ne _).1,(go y dy hy hdy ne _).2,Gn hy hdy ne h⟩
 ·refine Ck (by decide +kernel) ?_
  walk_at "x"
  refine Ck (by decide +kernel) ?_
  walk_at "x"
  refine Ck (by decide +kernel) ?_
  walk_at "x"
  refine Jl (by decide +kernel) ?_
  walk_at "x"
  exact fun y dy hy hdy ne=>⟨y,a,b,n1,n2,b1,b2,rfl,(go y dy hy hdy ne _).1,(go y dy hy hdy ne _).2,Gn hy hdy ne h⟩
theorem Sv:BV ["plan","calendars","word","one"] ["plan","calendars"] (Ao Z1):=by walk_at "s"
theorem mX{k d:Nat}{f:Addr}{fd:FuncData}(F:Fun K "made" "made" Z1 f fd)(er:Dr K mg Aw Af Ad BW Be Al Ah An Az CZ DP Ax Av Ba Ay Bl Bc Ak Aq CJ Bq CN CK Bb Ar Aj Ae Bf BX Am)(c_All___init__:Eu P w K mg base CX0 1 "All" CZ ["self"] Gx)(c_No___init__:Eu P w K mg base CX0 1 "No" DP ["self"] Gx)(c_Each___init__:Eu P w K mg base (CX1 P w) 5 "Each" Ax ["self","size","rest"] (gn K Az [Ax,Av,Ba,Ay,Bc,Ak,Aq,Bb,Ar] ⟨An,Af,Al,Ah,Ad⟩ Ax))(c_made_date:CQ P w K mg base 8 "made_date" ["plan","calendars"] (Qk K Az [Ax,Av,Ba,Ay,Bc,Ak,Aq,Bb,Ar] ⟨An,Af,Al,Ah,Ad⟩ BX Ae Am))(c_Not___init__:Eu P w K mg base (CX1 P w) 3 "Not" Ba ["self","R"] (gq K Az [Ax,Av,Ba,Ay,Bc,Ak,Aq,Bb,Ar] ⟨An,Af,Al,Ah,Ad⟩ Ba))(c_made:CQ P w K mg base k "made" ["plan","calendars"] ((Jb K Az [Ax,Av,Ba,Ay,Bc,Ak,Aq,Bb,Ar] ⟨An,Af,Al,Ah,Ad⟩ BX Ae Am) d))(c_Later___init__:Eu P w K mg base (CX1 P w) 3 "Later" Aq ["self","number","R"] (gj K Az [Ax,Av,Ba,Ay,Bc,Ak,Aq,Bb,Ar] ⟨An,Af,Al,Ah,Ad⟩ Aq))(c_Every___init__:Eu P w K mg base (CX1 P w) 7 "Every" Ar ["self","number","R","day"] (gh K Az [Ax,Av,Ba,Ay,Bc,Ak,Aq,Bb,Ar] ⟨An,Af,Al,Ah,Ad⟩ Ar))(c_Kth___init__:Eu P w K mg base (CX1 P w) 9 "Kth" Bb ["self","number","R","S"] (gm K Az [Ax,Av,Ba,Ay,Bc,Ak,Aq,Bb,Ar] ⟨An,Af,Al,Ah,Ad⟩ Bb))(c_made_pair:CQ P w K mg base 9 "made_pair" ["word","one","other"] (Zm K Az [Ax,Av,Ba,Ay,Bc,Ak,Aq,Bb,Ar] ⟨An,Af,Al,Ah,Ad⟩))(hk:12≤k):Bu P w K mg base (CX1 P w) (k+1) f fd ["plan","calendars"] ((Jb K Az [Ax,Av,Ba,Ay,Bc,Ak,Aq,Bb,Ar] ⟨An,Af,Al,Ah,Ad⟩ BX Ae Am) (d+1)):=by
 refine F.okE (k:=k+0) Sv (fun vs H Q E h=>?_) (fun cdv A outer s H vs Q E hr h T=>?_)
 ·obtain⟨v,a,p,D,rfl,_⟩:=h
  rfl
 obtain⟨v,a,p,D,rfl,P,pd,C,h⟩:=h
 have dn:∀{x y:Wd},x≠y→V.str (sW x)≠V.str (sW y):=fun h z=>h (FT.mp z)
 refine⟨_,(Ab (BK (i:=2) Sv.nd rfl (by walk_at "o") (Bp Bm (pv 0) Ai (fun _ _=>rfl)))
  (Ab (CG (BL Cg (pv 2) BJ (Bd _))
   (Ag (BZ (jF c_All___init__ (hr.mono (by omega)) rfl)))
   Bh)
  (Ab (CG (BL Cg (pv 2) BJ (Bd _))
   (Ag (BZ (jF c_No___init__ (hr.mono (by omega)) rfl)))
   Bh)
  (Ab (CG (BL Cg (pv 2) BJ (Bd _))
   (Ag (BZ (KD T c_Each___init__ (hr.mono (by omega)) rfl (Aa (Bp Bm (pv 0) Ai (fun _ _=>rfl)) (Aa (Bp Bm (pv 0) Ai (fun _ _=>rfl)) Ac)))))
   Bh)
  (Ab (CG (BL Cg (pv 2) BJ (Bd _))
   (Ag (BZ (Bg T c_made_date (hr.mono (by omega)) rfl (Aa (pv 0) (Aa (pv 1) Ac)))))
   Bh)
  (Ab (CG (BL Cg (pv 2) BJ (Bd _))
   (Ag (BZ (KD T c_Not___init__ (hr.mono (by omega)) rfl (Aa (Bg T c_made (hr.mono (by omega)) rfl (Aa (Bp Bm (pv 0) Ai (fun _ _=>rfl)) (Aa (pv 1) Ac))) Ac))))
   Bh)
  (Ab (CG (BL Cg (pv 2) BJ (Bd _))
   (Ag (BZ (KD T c_Later___init__ (hr.mono (by omega)) rfl (Aa (Bp Bm (pv 0) Ai (fun _ _=>rfl)) (Aa (Bg T c_made (hr.mono (by omega)) rfl (Aa (Bp Bm (pv 0) Ai (fun _ _=>rfl)) (Aa (pv 1) Ac))) Ac)))))
   Bh)
  (Ab (CG (BL Cg (pv 2) BJ (Bd _))
   (Ag (BZ (KD T c_Every___init__ (hr.mono (by omega)) rfl (Aa (Bp Bm (pv 0) Ai (fun _ _=>rfl)) (Aa (Bg T c_made (hr.mono (by omega)) rfl (Aa (Bp Bm (pv 0) Ai (fun _ _=>rfl)) (Aa (pv 1) Ac))) (Aa (Bp Bm (pv 0) Ai (fun _ _=>rfl)) Ac))))))
   Bh)
  (Ab (CG (BL Cg (pv 2) BJ (Bd _))
   (Ab (BK (i:=3) Sv.nd rfl (by walk_at "o") (Bg T c_made (hr.mono (by omega)) rfl (Aa (Bp Bm (pv 0) Ai (fun _ _=>rfl)) (Aa (pv 1) Ac))))
  (Ag (BZ (KD T c_Kth___init__ (hr.mono (by omega)) rfl (Aa (Bp Bm (pv 0) Ai (fun _ _=>rfl)) (Aa (pv 3) (Aa (Bg T c_made (hr.mono (by omega)) rfl (Aa (Bp Bm (pv 0) Ai (fun _ _=>rfl)) (Aa (pv 1) Ac))) Ac)))))))
   Bh)
  (Ab (BK (i:=3) Sv.nd rfl (by walk_at "o") (Bg T c_made (hr.mono (by omega)) rfl (Aa (Bp Bm (pv 0) Ai (fun _ _=>rfl)) (Aa (pv 1) Ac))))
  (Ag (BZ (Bg T c_made_pair (hr.mono (by omega)) rfl (Aa (pv 2) (Aa (pv 3) (Aa (Bg T c_made (hr.mono (by omega)) rfl (Aa (Bp Bm (pv 0) Ai (fun _ _=>rfl)) (Aa (pv 1) Ac))) Ac)))))))))))))))),?_⟩
 cases pd with
 | lf L=>
  rcases L.form with ⟨n,r,rfl,bn,br,rfl⟩ | ⟨nm,m,d0,s,r,rfl⟩
  ·obtain⟨q0,rfl,hq⟩:=P
   walk_at "x"
   refine Bj (SqT.of hq) Kf ?_
   walk_at "x"
   rw[Kw]
   refine Ck (dn (by decide)) ?_
   walk_at "x"
   rw[Im]
   refine Ck (dn (by decide)) ?_
   walk_at "x"
   rw[Hf]
   refine Jl rfl ?_
   walk_at "x"
   refine Bj (SqT.of hq) MK ?_
   walk_at "x"
   refine Bj (SqT.of hq) fQ ?_
   walk_at "x"
   exact fun y dy hy hdy ne=>⟨y,n,r,rfl,bn,br,Gn hy hdy ne h⟩
  ·obtain⟨q0,rfl,hq⟩:=P
   walk_at "x"
   refine Bj (SqT.of hq) Kf ?_
   walk_at "x"
   rw[Kw]
   refine Ck (dn (by decide)) ?_
   walk_at "x"
   rw[Im]
   refine Ck (dn (by decide)) ?_
   walk_at "x"
   rw[Hf]
   refine Ck (dn (by decide)) ?_
   walk_at "x"
   rw[Jw]
   refine Jl rfl ?_
   walk_at "x"
   exact⟨.ref q0,a,nm,m,d0,s,r,_,rfl,⟨q0,rfl,hq⟩,L,C,h⟩
 | @not d p D pd=>
  obtain⟨q0,u,rfl,hq,P⟩:=P
  walk_at "x"
  refine Bj (SqT.of hq) Kf ?_
  walk_at "x"
  rw[Kw]
  refine Ck (dn (by decide)) ?_
  walk_at "x"
  rw[Im]
  refine Ck (dn (by decide)) ?_
  walk_at "x"
  rw[Hf]
  refine Ck (dn (by decide)) ?_
  walk_at "x"
  rw[Jw]
  refine Ck (dn (by decide)) ?_
  walk_at "x"
  rw[Qp]
  refine Jl rfl ?_
  walk_at "x"
  refine Bj (SqT.of hq) MK ?_
  walk_at "x"
  refine⟨u,a,p,D,rfl,P,pd,C,CP.imp h (Bo.refl _) fun n G x b H1 s1 R1=>?_⟩
  walk_at "x"
  exact fun y dy hy hdy ne=>⟨y,x,n,b,rfl,R1.same (Em hy hdy ne),Gn (D:=.made n) hy hdy ne fun y b H' s R=>G y b H' (s1.trans s) R⟩
 | @later d k p D bk pd=>
  obtain⟨q0,u,rfl,hq,P⟩:=P
  walk_at "x"
  refine Bj (SqT.of hq) Kf ?_
  walk_at "x"
  rw[Kw]
  refine Ck (dn (by decide)) ?_
  walk_at "x"
  rw[Im]
  refine Ck (dn (by decide)) ?_
  walk_at "x"
  rw[Hf]
  refine Ck (dn (by decide)) ?_
  walk_at "x"
  rw[Jw]
  refine Ck (dn (by decide)) ?_
  walk_at "x"
  rw[Qp]
  refine Ck (dn (by decide)) ?_
  walk_at "x"
  rw[Kv]
  refine Jl rfl ?_
  walk_at "x"
  refine Bj (SqT.of hq) MK ?_
  walk_at "x"
  refine Bj (SqT.of hq) fQ ?_
  walk_at "x"
  refine⟨u,a,p,D,rfl,P,pd,C,CP.imp h (Bo.refl _) fun n G x b H1 s1 R1=>?_⟩
  walk_at "x"
  exact fun y dy hy hdy ne=>⟨y,x,k,n,b,rfl,bk,R1.same (Em hy hdy ne),Gn (D:=.made n) hy hdy ne fun y b H' s R=>G y b H' (s1.trans s) R⟩
 | @every d k r p D bk br pd=>
  obtain⟨q0,u,rfl,hq,P⟩:=P
  walk_at "x"
  refine Bj (SqT.of hq) Kf ?_
  walk_at "x"
  rw[Kw]
  refine Ck (dn (by decide)) ?_
  walk_at "x"
  rw[Im]
  refine Ck (dn (by decide)) ?_
  walk_at "x"
  rw[Hf]
  refine Ck (dn (by decide)) ?_
  walk_at "x"
  rw[Jw]
  refine Ck (dn (by decide)) ?_
  walk_at "x"
  rw[Qp]
  refine Ck (dn (by decide)) ?_
  walk_at "x"
  rw[Kv]
  refine Ck (dn (by decide)) ?_
  walk_at "x"
  rw[PL]
  refine Jl rfl ?_
  walk_at "x"
  refine Bj (SqT.of hq) MK ?_
  walk_at "x"
  refine Bj (SqT.of hq) fQ ?_
  walk_at "x"
  refine⟨u,a,p,D,rfl,P,pd,C,CP.imp (CP.sub h) (Bo.refl _) fun n G x b H1 s1 R1=>?_⟩
  walk_at "x"
  refine Bj (SqT.of (s1 _ _ hq)) tR ?_
  walk_at "x"
  exact fun y dy hy hdy ne=>⟨y,x,k,r,n,b,rfl,bk,br,R1.same (Em hy hdy ne),Gn hy hdy ne (CP.imp G s1 fun z g y b H' s R=>g y b H' (s1.trans s) R)⟩
 | @nth d k p p2 D D2 bk pd pd2=>
  obtain⟨q0,u,u2,rfl,hq,P1,P2⟩:=P
  walk_at "x"
  refine Bj (SqT.of hq) Kf ?_
  walk_at "x"
  rw[Kw]
  refine Ck (dn (by decide)) ?_
  walk_at "x"
  rw[Im]
  refine Ck (dn (by decide)) ?_
  walk_at "x"
  rw[Hf]
  refine Ck (dn (by decide)) ?_
  walk_at "x"
  rw[Jw]
  refine Ck (dn (by decide)) ?_
  walk_at "x"
  rw[Qp]
  refine Ck (dn (by decide)) ?_
  walk_at "x"
  rw[Kv]
  refine Ck (dn (by decide)) ?_
  walk_at "x"
  rw[PL]
  refine Ck (dn (by decide)) ?_
  walk_at "x"
  rw[bM]
  refine Jl rfl ?_
  walk_at "x"
  refine Bj (SqT.of hq) fQ ?_
  walk_at "x"
  refine⟨u,a,p,D,rfl,P1,pd,C,CP.imp (CP.sub h) (Bo.refl _) fun n G x b H1 s1 R1=>?_⟩
  walk_at "x"
  have hq1:=s1 _ _ hq
  refine Bj (SqT.of hq1) MK ?_
  walk_at "x"
  refine Bj (SqT.of hq1) tR ?_
  walk_at "x"
  refine⟨u2,a,p2,D2,rfl,PlH.kp (fun y xs e=>s1 _ _ e) P2,pd2,C.same s1,CP.imp (CP.sub G) s1 fun m G2 x2 b2 H2 s2 R2=>?_⟩
  walk_at "x"
  exact fun y dy hy hdy ne=>⟨y,x,x2,k,n,m,b,b2,rfl,bk,(R1.same s2).same (Em hy hdy ne),R2.same (Em hy hdy ne),Gn hy hdy ne (CP.imp G2 (s1.trans s2) fun z g y b H' s R=>g y b H' ((s1.trans s2).trans s) R)⟩
 | @pair d w p p2 D D2 hw pd pd2=>
  obtain⟨q0,u,u2,rfl,hq,P1,P2⟩:=P
  have no:∀k∈[U3,Ly,Cr,Cz,M9,Fo,GQ,kOf],w≠k:=(show ∀w∈pw3,∀k∈[U3,Ly,Cr,Cz,M9,Fo,GQ,kOf],w≠k by decide) w hw
  walk_at "x"
  refine Bj (SqT.of hq) Kf ?_
  walk_at "x"
  rw[Kw]
  refine Ck (dn (no _ (by decide))) ?_
  walk_at "x"
  rw[Im]
  refine Ck (dn (no _ (by decide))) ?_
  walk_at "x"
  rw[Hf]
  refine Ck (dn (no _ (by decide))) ?_
  walk_at "x"
  rw[Jw]
  refine Ck (dn (no _ (by decide))) ?_
  walk_at "x"
  rw[Qp]
  refine Ck (dn (no _ (by decide))) ?_
  walk_at "x"
  rw[Kv]
  refine Ck (dn (no _ (by decide))) ?_
  walk_at "x"
  rw[PL]
  refine Ck (dn (no _ (by decide))) ?_
  walk_at "x"
  rw[bM]
  refine Ck (dn (no _ (by decide))) ?_
  walk_at "x"
  refine Bj (SqT.of hq) MK ?_
  walk_at "x"
  refine⟨u,a,p,D,rfl,P1,pd,C,CP.imp (CP.sub h) (Bo.refl _) fun n G x b H1 s1 R1=>?_⟩
  walk_at "x"
  refine Bj (SqT.of (s1 _ _ hq)) fQ ?_
  walk_at "x"
  refine⟨u2,a,p2,D2,rfl,PlH.kp (fun y xs e=>s1 _ _ e) P2,pd2,C.same s1,CP.imp (CP.sub G) s1 fun m G2 x2 b2 H2 s2 R2=>?_⟩
  walk_at "x"
  exact⟨w,x,x2,n,m,b,b2,rfl,hw,R1.same s2,R2,CP.imp G2 (s1.trans s2) fun z g y b H' s R=>g y b H' ((s1.trans s2).trans s) R⟩
theorem Jy:BV ["text","calendars","reader","plan"] ["text","calendars"] (Ao Lb):=by walk_at "s"
theorem Xb{f:Addr}{fd:FuncData}(F:Fun K "read_rule" "read_rule" Lb f fd)(er:Dr K mg Aw Af Ad BW Be Al Ah An Az CZ DP Ax Av Ba Ay Bl Bc Ak Aq CJ Bq CN CK Bb Ar Aj Ae Bf BX Am)(c_is_readable:Cal P w K mg base 1 "is_readable" ["text"] Js)(c_Reader___init__:Eu P w K mg base CX0 1 "Reader" Aj ["self","words"] (Wo Aj))(c_words_of:CQ P w K mg base 1 "words_of" ["text"] (Wf Ah))(c_take_plan:CQ P w K mg base 131 "take_plan" ["reader"] ((Jt Aj Ah) 41))(c_Reader_peek:Eb P w K mg base CX0 1 Aj "peek" ["self"] (Ni Aj))(c_made:CQ P w K mg base 14 "made" ["plan","calendars"] ((Jb K Az [Ax,Av,Ba,Ay,Bc,Ak,Aq,Bb,Ar] ⟨An,Af,Al,Ah,Ad⟩ BX Ae Am) 2)):Bu P w K mg base (CX1 P w) 132 f fd ["text","calendars"] (Tg K Az [Ax,Av,Ba,Ay,Bc,Ak,Aq,Bb,Ar] ⟨An,Af,Al,Ah,Ad⟩ BX Ae Am):=by
 refine F.okE (k:=131) Jy (fun vs H Q E h=>?_) (fun cdv A outer s H vs Q E hr h T=>?_)
 ·obtain⟨z,a,D,rfl,_⟩:=h
  rfl
 obtain⟨z,a,D,rfl,hz,td,C,h⟩:=h
 have no:Gk Bx (cpl z)=none→∀H',Bo H H'→E (.ref Ah) none H':=fun e H' s=>by
  rcases td with ⟨_,rfl⟩ | ⟨p,e',_⟩
  ·exact h H' s
  ·rw[e] at e'
   cases e'
 refine⟨_,(Ab (CG (XH (OD (Br c_is_readable (hr.mono (by decide)) rfl (Aa (pv 0) Ac))))
  (Ag (Ef T rfl er.x_NoRule rfl (Aa BJ Ac)))
  Bh)
  (Ab (BK (i:=2) Jy.nd rfl (by walk_at "o") (Ri c_Reader___init__ (hr.mono (by decide)) rfl (Aa (Bg T c_words_of (hr.mono (by decide)) rfl (Aa (pv 0) Ac)) Ac)))
  (Ab (BK (i:=3) Jy.nd rfl (by walk_at "o") (Bg T c_take_plan (hr.mono (by decide)) rfl (Aa (pv 2) Ac)))
  (Ab (CG (BL QC (Dv c_Reader_peek er.cl_Reader (hr.mono (by decide)) (pv 2)) BJ (Bd _))
   (Ag (Ef T rfl er.x_NoRule rfl (Aa BJ Ac)))
   Bh)
  (Ag (BZ (Bg T c_made (hr.mono (by decide)) rfl (Aa (pv 3) (Aa (pv 1) Ac))))))))),?_⟩
 walk_at "x"
 refine⟨.str z,rfl,.txt z hz,fun z' ez b hb=>?_,fun ht=>(nomatch ht)⟩
 cases ez
 walk_at "x"
 cases b with
 | false=>
  refine Lz ?_
  walk_at "x"
  refine⟨(by show 1≤sizeLine;decide),no ?_ H (Bo.refl _)⟩
  unfold Gk
  rw[if_pos (by have:¬(cpl z).length≤4000:=fun y=>absurd (hb.mpr y) (by decide);omega)]
 | true=>
  have zl:=hb.mp rfl
  have rd:∀ts,wordsOf 0 (spl 32 (cpl z))=some ts→Gk Bx (cpl z)=(match prs Bx 41 ts with | some (p,[])=>some p | _=>none):=fun ts e=>by
   unfold Gk
   rw[if_neg (by omega),e]
  refine Hc ?_
  walk_at "x"
  refine⟨z,rfl,hz,zl,fun ts l H1 ew s1 t1=>?_,fun ew H1 s1=>no (by unfold Gk;rw[if_neg (by omega),ew]) H1 s1⟩
  obtain⟨w1,w2,w3,w4⟩:=fX hz zl ew
  have rd:=rd ts ew
  walk_at "x"
  refine fun x dx hx hdx ne=>⟨x,dx,l,ts,rfl,BR,Em hx hdx ne _ _ t1,w1,w2,w3,fun p H2 k2 R2=>⟨rfl,?_⟩⟩
  have s2:=Jk hx hdx ne k2
  have hxH:H x=none:=s1.free hx
  have kbS:∀{H':Hp},KB x H2 H'→Bo H H':=fun{H'} kb y o e=>kb y o (By e hxH) ((s1.trans s2) _ _ e)
  walk_at "x"
  refine⟨x,p,ts,0,rfl,R2,by rw[List.drop_zero];exact w4,fun pl r v k3 H3 e3 kb3 R3 er pv=>?_,fun e H' kb=>no (by rw[List.drop_zero] at e;rw[rd,e]) H' (kbS kb)⟩
  rw[List.drop_zero] at e3
  subst er
  walk_at "x"
  obtain⟨d3,hx3⟩:=R3.ex
  refine⟨x,d3,_,rfl,hx3,rfl,?_⟩
  walk_at "x"
  refine⟨x,p,ts,k3,rfl,R3,?_⟩
  walk_at "x"
  rw[g8]
  rcases Ij ts k3 with ⟨kl,dk⟩ | ⟨_,dk,nk⟩
  ·have nn:nxt ts k3≠[]:=w3 _ (by unfold nxt;rw[List.getElem?_eq_getElem kl];exact List.getElem_mem kl)
   refine QR (fun z=>nn (FT.mp z)) ?_
   walk_at "x"
   exact⟨(by show 1≤sizeLine;decide),no (by rw[rd,e3,dk]) H3 (kbS kb3)⟩
  ·refine QQ (by rw[nk]) ?_
   rw[e3,dk] at rd
   walk_at "x"
   have pd:PD 2 pl D:=by
    rcases td with ⟨e,_⟩ | ⟨p',e',g⟩
    ·rw[rd] at e
     cases e
    ·rw[rd] at e'
     cases e'
     exact g
   have s3:=kbS kb3
   exact⟨v,a,pl,D,rfl,pv,pd,C.same s3,CP.imp h s3 fun n G x b H' s R=>G x b H' (s3.trans s) R⟩
theorem T3:BV ["_law_script","_law_k"] ["_law_script","_law_k"] (Ao JN):=by walk_at "s"
theorem Uq{f:Addr}{fd:FuncData}(F:Fun K "_law_cell_at" "_law_cell_at" JN f fd)(z_len:mg "len"=none):Bu P w K mg base CX0 1 f fd ["_law_script","_law_k"] (Wu K):=by
 refine F.ok (k:=0) T3 (fun vs H Q E h=>?_) (fun cdv A outer s H vs Q E hr h=>?_)
 ·obtain⟨a,ns,k,rfl,_⟩:=h
  rfl
 obtain⟨a,ns,k,rfl,hS,h0,hl,q⟩:=h
 refine⟨_,(Ab (CG (BL GX (pv 1) (CW Dl rfl z_len PySem.boot_len (Aa (pv 0) Ac)) (Bd _))
  (Ag (BZ (Bp JB (pv 0) (pv 1) (fun _ _=>rfl))))
  Bh)
  (Ag (BZ Ai))),?_⟩
 walk_at "d"
 refine⟨a,_,rfl,.inl hS,?_⟩
 walk_at "d"
 rw[List.length_map]
 refine Ca (fun c=>?_) (fun c=>?_)
 ·walk_at "d"
  refine Lp hS (oF h0 c) ?_
  exact q
 ·walk_at "d"
  have e:ns.getD k.toNat 0=0:=by
   simp[List.getD,List.getElem?_eq_none (show ns.length≤k.toNat by omega)]
  rw[e] at q
  exact q
theorem K3:BV ["_law_one","_law_other"] ["_law_one","_law_other"] (Ao JM):=by walk_at "s"
theorem Up{f:Addr}{fd:FuncData}(F:Fun K "_law_divisor" "_law_divisor" JM f fd):Bu P w K mg base CX0 1 f fd ["_law_one","_law_other"] Zr:=by
 refine F.ok (k:=0) K3 (fun vs H Q E h=>?_) (fun cdv A outer s H vs Q E hr h=>?_)
 ·obtain⟨x,y,rfl,_⟩:=h
  rfl
 obtain⟨x,y,rfl,x0,y0,q⟩:=h
 refine⟨_,(Ab (Ie PassesOwn.never (BL QC (pv 1) Ai (Bd _))
  (Ag (rC (i:=0) (j:=1) rfl K3.nd rfl rfl (by decide) rfl rfl (Aa (pv 1) (Aa (BP Eg (pv 0) (pv 1)) Ac)) (by with_unfolding_all rfl))))
  (Ag (BZ (pv 0)))),?_⟩
 walk_at "d"
 refine⟨fun m σ' H'=>H'=H∧∃u v:Int,σ'=[some (.int u),some (.int v)]∧0<u∧0≤v∧Int.gcd u v=Int.gcd x y∧v.toNat=m,⟨_,rfl,x,y,rfl,x0,by omega,rfl,rfl⟩,?_⟩
 rintro m σ' H' ⟨rfl,u,v,rfl,u0,v0,hg,rfl⟩
 walk_at "d"
 by_cases hv:v=0
 ·subst hv
  refine QQ rfl ?_
  walk_at "d"
  rw[Int.gcd_zero_right] at hg
  have:((Int.gcd x y:Nat):Int)=u:=by omega
  rw[this] at q
  exact q
 ·refine QR (fun z=>hv (V.int.inj z)) ?_
  refine⟨_,fun σ' H' hh=>hh,?_⟩
  walk_at "d"
  refine⟨_,_,rfl,?_⟩
  have m0:=Int.emod_nonneg u hv
  have m1:=Int.emod_lt_of_pos u (show 0<v by omega)
  refine⟨(u%v).toNat,by omega,rfl,v,u%v,rfl,by omega,m0,?_,rfl⟩
  rw[←hg]
  exact vy u v
theorem HN:BV ["_law_cell","_law_name_here","_law_k","_law_at"] ["_law_cell"] (Ao Ny):=by walk_at "s"
theorem Yk{f:Addr}{fd:FuncData}(F:Fun K "_law_name" "_law_name" Ny f fd)(z_range:mg "range"=none):Bu P w K mg base CX0 1 f fd ["_law_cell"] Th:=by
 refine F.ok (k:=0) HN (fun vs H Q E h=>?_) (fun cdv A outer s H vs Q E hr h=>?_)
 ·obtain⟨c,rfl,_⟩:=h
  rfl
 obtain⟨c,rfl,c0,c1,q⟩:=h
 refine⟨_,(Ab (BK (i:=1) HN.nd rfl (by walk_at "o") BJ)
  (Ab (J9 PassesOwn.never rfl (Q8 rfl z_range (Aa (BP Eg (pv 0) Ai) Ac)) (Hi (i:=2) HN.nd rfl (by walk_at "o"))
   (Ab (BK (i:=3) HN.nd rfl (by walk_at "o") (BP Eg (BP Dj (BP Df (pv 0) Ai) (BP Dd (pv 2) (BP Df (pv 0) Ai))) Ai))
  (Ag (BK (i:=1) HN.nd rfl (by walk_at "o") (BP Bs (pv 1) (Bp jh BJ (pv 3) (fun _ _=>rfl)))))))
  (Ag (BZ (pv 1))))),?_⟩
 walk_at "c"
 walk_at "f"
 walk_at "c"
 have m0:=Int.emod_nonneg c (show (7:Int)≠0 by decide)
 have m1:=Int.emod_lt_of_pos c (show (0:Int)<7 by decide)
 refine⟨c%7,rfl,by omega,by omega,WF (fun i σ' H'=>H'=H∧∃v u,σ'=[some (.int c),some (.str (sW (nmF c i))),v,u]) ⟨rfl,none,none,by rw[show Str.ofString "x"=sW [120] by decide +kernel];rfl⟩ ?_ ?_⟩
 ·rintro i σ' H' hi ⟨rfl,v,u,rfl⟩
  have hi:i<(c%7).toNat:=hi
  have nl:=Xn c i
  walk_at "c"
  refine Ew ⟨200,200,Ik (by omega) (by omega),Ik (by omega) (by omega),by decide⟩ ?_
  walk_at "c"
  rw[Int.zero_add]
  have a0:=Int.emod_nonneg (c/7+(i:Int)*(c/5000)) (show (26:Int)≠0 by decide)
  have a1:=Int.emod_lt_of_pos (c/7+(i:Int)*(c/5000)) (show (0:Int)<26 by decide)
  refine⟨abS,_,_,rfl,rfl,(by decide +kernel),vJ a0 a1,?_⟩
  have e:sW (nmF c i)++(⟨#[97+((c/7+(i:Int)*(c/5000))%26).toNat]⟩:Str)=sW (nmF c (i+1)):=De _ _
  refine⟨_,_,rfl,rfl,Nat.le_trans (show _≤1000 by rw[Es,nl];show i+1+1≤_;omega) (by decide),?_⟩
  rw[e]
  walk_at "c"
  exact⟨rfl,_,_,rfl⟩
 ·rintro σ' H' ⟨rfl,v,u,rfl⟩
  walk_at "c"
  exact q
theorem Io:BV ["_law_cell","_law_far","_law_way","_law_size"] ["_law_cell"] (Ao Nz):=by walk_at "s"
theorem Yl{f:Addr}{fd:FuncData}(F:Fun K "_law_leaf" "_law_leaf" Nz f fd)(c__law_name:Cal P w K mg base 1 "_law_name" ["_law_cell"] Th)(z_str:mg "str"=none):Bu P w K mg base CX0 2 f fd ["_law_cell"] Ti:=by
 refine F.ok (k:=1) Io (fun vs H Q E h=>?_) (fun cdv A outer s H vs Q E hr h=>?_)
 ·obtain⟨x,rfl,_⟩:=h
  rfl
 obtain⟨x,rfl,q⟩:=h
 refine⟨_,(Ab (BK (i:=1) Io.nd rfl (by walk_at "o") (BP Eg (BP Df (pv 0) Ai) (BP aB Ai Ai)))
  (Ab (BK (i:=2) Io.nd rfl (by walk_at "o") (BP Eg (pv 0) Ai))
  (Ab (CG (BL Cg (pv 2) Ai (Bd _))
   (Ag (BZ (Bv (Aa (BP Bs BJ (Dc DX rfl z_str PyProof.Rows.boot_str (Aa (pv 1) Ac))) (Aa (Bv (Aa BJ (Aa Ai Ac))) Ac)))))
   Bh)
  (Ab (CG (BL Cg (pv 2) Ai (Bd _))
   (Ab (BK (i:=3) Io.nd rfl (by walk_at "o") (Bp JB (GC (Aa Ai (Aa Ai Ac))) (BP Eg (pv 1) Ai) (fun _ _=>rfl)))
  (Ag (BZ (Bv (Aa (BP Bs (BP Bs (BP Bs BJ (Dc DX rfl z_str PyProof.Rows.boot_str (Aa (pv 3) Ac))) BJ) (Dc DX rfl z_str PyProof.Rows.boot_str (Aa (Ls Ho (pv 1)) Ac))) (Aa (Bv (Aa BJ (Aa (pv 3) Ac))) Ac))))))
   Bh)
  (Ab (CG (BL Cg (pv 2) Ai (Bd _))
   (Ag (BZ (Bv (Aa (BP Bs (BP Bs BJ (Dc DX rfl z_str PyProof.Rows.boot_str (Aa (Ls Ho (pv 1)) Ac))) BJ) (Aa (Bv (Aa BJ (Aa Ai Ac))) Ac)))))
   Bh)
  (Ab (CG (BL Cg (pv 2) Ai (Bd _))
   (Ag (BZ (Bv (Aa (BP Bs (BP Bs BJ (Dc DX rfl z_str PyProof.Rows.boot_str (Aa (BP Dj Ai (pv 1)) Ac))) BJ) (Aa (Bv (Aa BJ (Aa (BP Dj Ai (pv 1)) Ac))) Ac)))))
   Bh)
  (Ab (CG (BL Cg (pv 2) Ai (Bd _))
   (Ag (BZ (Bv (Aa (BP Bs (BP Bs BJ (Br c__law_name (hr.mono (by decide)) rfl (Aa (pv 1) Ac))) BJ) (Aa (Bv (Aa BJ (Aa (Br c__law_name (hr.mono (by decide)) rfl (Aa (pv 1) Ac)) Ac))) Ac)))))
   Bh)
  (Ab (CG (BL Cg (pv 2) Ai (Bd _))
   (Ag (BZ (Bv (Aa BJ (Aa (Bv (Aa BJ (Aa Ai Ac))) Ac)))))
   Bh)
  (Ab (CG (BL Cg (pv 2) Ai (Bd _))
   (Ag (BZ (Bv (Aa BJ (Aa (Bv (Aa BJ (Aa Ai Ac))) Ac)))))
   Bh)
  (Ab (CG (BL Cg (pv 2) Ai (Bd _))
   (Ag (BZ (Bv (Aa (BP Bs (BP Bs BJ (Dc DX rfl z_str PyProof.Rows.boot_str (Aa (BP Dj Ai (pv 1)) Ac))) BJ) (Aa (Bv (Aa BJ (Aa (BP Dd Ai (BP Dj Ai (pv 1))) Ac))) Ac)))))
   Bh)
  (Ag (BZ (Bv (Aa BJ (Aa (Bv (Aa BJ (Aa Ai Ac))) Ac))))))))))))))),?_⟩
 walk_at "c"
 have g0:=Int.emod_nonneg (x/9) (show (10000000000000000000000000000000000000000:Int)≠0 by decide)
 have g1:=Int.emod_lt_of_pos (x/9) (show (0:Int)<10000000000000000000000000000000000000000 by decide)
 rw[p40]
 generalize x/9%10000000000000000000000000000000000000000=y at g0 g1 ⊢
 have bt:∀v:Int,-1000000000000000000000000000000000000000000000000000000000000≤v→v≤1000000000000000000000000000000000000000000000000000000000000→Bt 250 v:=fun v a b=>(Ik a b:Bt 200 v).mono (by decide)
 refine Ca (fun _=>?_) (fun _=>?_)
 ·walk_at "c"
  obtain⟨n,en,hn,nl,lg,ev⟩:=aN (y:=y) (by omega) (by omega)
  refine⟨_,rfl,lg,?_⟩
  rw[show Str.ofString (toString _)=sW n from en]
  rw[(show Str.ofString "each 3 from "=sW [101,97,99,104,32,51,32,102,114,111,109,32] by decide +kernel)]
  refine⟨_,_,rfl,rfl,lz (lb 12 rfl) nl rfl,?_⟩
  rw[De]
  walk_at "c"
  refine⟨Dz,fun q0 h0=>?_⟩
  walk_at "c"
  refine⟨Dz,fun p hp=>Gp q ⟨[Cr,[51],Cd,n],rfl,(by rw[←ev];exact Sy (n:=[51]) (by decide) hn),by simp only[jn,List.length_append,List.length_cons,List.length_nil,show Cr.length=4 from rfl,show Cd.length=4 from rfl,show Cz.length=4 from rfl,show Hj.length=3 from rfl,show M8.length=3 from rfl,show Gr.length=1 from rfl,show k1.length=1 from rfl];omega,cO (by decide) (by decide) (bt y (by omega) (by omega))⟩ (Bo.refl _) q0 h0 p hp⟩
 walk_at "c"
 refine Ca (fun _=>?_) (fun _=>?_)
 ·walk_at "c"
  refine⟨Dz,fun l hl=>?_⟩
  refine fresh hl fun H1 s1 t1=>?_
  walk_at "c"
  obtain⟨sz,a0,a1,ex⟩:∃sz:Int,1≤sz∧sz≤150000∧atI [V.int 389,V.int 401] (y%2)=some (.int sz):=by
   obtain e | e:y%2=0∨y%2=1:=by omega
   ·exact⟨389,by decide,by decide,by rw[e];rfl⟩
   ·exact⟨401,by decide,by decide,by rw[e];rfl⟩
  refine Lp (SqL.of t1) ex ?_
  walk_at "c"
  obtain⟨n,en,hn,nl,lg,ev⟩:=aN (y:=sz) (by omega) (by omega)
  obtain⟨m,em,hm,ml,lg2,ev2⟩:=aN (y:= -y) (by omega) (by omega)
  refine⟨_,rfl,lg,?_⟩
  rw[show Str.ofString (toString _)=sW n from en]
  rw[(show Str.ofString "each "=sW [101,97,99,104,32] by decide +kernel)]
  refine⟨_,_,rfl,rfl,lz (lb 5 rfl) nl rfl,?_⟩
  rw[De]
  walk_at "c"
  rw[(show Str.ofString " from "=sW [32,102,114,111,109,32] by decide +kernel)]
  refine⟨_,_,rfl,rfl,lz (Ci (lb 5 rfl) nl) (lb 6 rfl) rfl,?_⟩
  rw[De]
  walk_at "c"
  refine⟨_,rfl,lg2,?_⟩
  rw[show Str.ofString (toString _)=sW m from em]
  refine⟨_,_,rfl,rfl,lz (Ci (Ci (lb 5 rfl) nl) (lb 6 rfl)) ml rfl,?_⟩
  rw[De]
  walk_at "c"
  refine⟨Dz,fun q0 h0=>?_⟩
  walk_at "c"
  refine⟨Dz,fun p hp=>Gp q ⟨[Cr,n,Cd,m],by simp[jn,Cr,Cd],(by rw[←ev,←ev2];exact Sy hn hm),by simp only[jn,List.length_append,List.length_cons,List.length_nil,show Cr.length=4 from rfl,show Cd.length=4 from rfl,show Cz.length=4 from rfl,show Hj.length=3 from rfl,show M8.length=3 from rfl,show Gr.length=1 from rfl,show k1.length=1 from rfl];omega,cO a0 a1 (bt (-y) (by omega) (by omega))⟩ s1 q0 h0 p hp⟩
 walk_at "c"
 refine Ca (fun _=>?_) (fun _=>?_)
 ·walk_at "c"
  obtain⟨n,en,hn,nl,lg,ev⟩:=aN (y:= -y) (by omega) (by omega)
  refine⟨_,rfl,lg,?_⟩
  rw[show Str.ofString (toString _)=sW n from en]
  rw[(show Str.ofString "each "=sW [101,97,99,104,32] by decide +kernel)]
  refine⟨_,_,rfl,rfl,lz (lb 5 rfl) nl rfl,?_⟩
  rw[De]
  walk_at "c"
  rw[(show Str.ofString " from 1"=sW [32,102,114,111,109,32,49] by decide +kernel)]
  refine⟨_,_,rfl,rfl,lz (Ci (lb 5 rfl) nl) (lb 7 rfl) rfl,?_⟩
  rw[De]
  walk_at "c"
  refine⟨Dz,fun q0 h0=>?_⟩
  walk_at "c"
  refine⟨Dz,fun p hp=>Gp q ⟨[Cr,n,Cd,k1],by simp[jn,Cr,Cd,Hj,k1],(by rw[←ev];exact Sy (m:=k1) hn (by decide)),by simp only[jn,List.length_append,List.length_cons,List.length_nil,show Cr.length=4 from rfl,show Cd.length=4 from rfl,show Cz.length=4 from rfl,show Hj.length=3 from rfl,show M8.length=3 from rfl,show Gr.length=1 from rfl,show k1.length=1 from rfl];omega,rW (by omega) (bt (-y) (by omega) (by omega)) (bt 1 (by decide) (by decide))⟩ (Bo.refl _) q0 h0 p hp⟩
 walk_at "c"
 refine Ca (fun _=>?_) (fun _=>?_)
 ·walk_at "c"
  obtain⟨n,en,hn,nl,lg,ev⟩:=aN (y:=150001+y) (by omega) (by omega)
  refine⟨_,rfl,lg,?_⟩
  rw[show Str.ofString (toString _)=sW n from en]
  rw[(show Str.ofString "each "=sW [101,97,99,104,32] by decide +kernel)]
  refine⟨_,_,rfl,rfl,lz (lb 5 rfl) nl rfl,?_⟩
  rw[De]
  walk_at "c"
  rw[(show Str.ofString " from 1"=sW [32,102,114,111,109,32,49] by decide +kernel)]
  refine⟨_,_,rfl,rfl,lz (Ci (lb 5 rfl) nl) (lb 7 rfl) rfl,?_⟩
  rw[De]
  walk_at "c"
  refine⟨Dz,fun q0 h0=>?_⟩
  walk_at "c"
  refine⟨Dz,fun p hp=>Gp q ⟨[Cr,n,Cd,k1],by simp[jn,Cr,Cd,Cz,Hj,k1],(by rw[←ev];exact Sy (m:=k1) hn (by decide)),by simp only[jn,List.length_append,List.length_cons,List.length_nil,show Cr.length=4 from rfl,show Cd.length=4 from rfl,show Cz.length=4 from rfl,show Hj.length=3 from rfl,show M8.length=3 from rfl,show Gr.length=1 from rfl,show k1.length=1 from rfl];omega,nG (by omega) (bt _ (by omega) (by omega)) (bt 1 (by decide) (by decide))⟩ (Bo.refl _) q0 h0 p hp⟩
 walk_at "c"
 refine Ca (fun _=>?_) (fun _=>?_)
 ·walk_at "c"
  refine⟨y,rfl,g0,by omega,?_⟩
  have no:=rQ y
  have nl:=no.2.2.2
  rw[(show Str.ofString "date "=sW [100,97,116,101,32] by decide +kernel)]
  walk_at "c"
  refine⟨_,_,rfl,rfl,lz (lb 5 rfl) nl rfl,?_⟩
  rw[De]
  walk_at "c"
  rw[(show Str.ofString " 0 1 each 0 from 1"=sW [32,48,32,49,32,101,97,99,104,32,48,32,102,114,111,109,32,49] by decide +kernel)]
  refine⟨_,_,rfl,rfl,lz (Ci (lb 5 rfl) nl) (lb 18 rfl) rfl,?_⟩
  rw[De]
  walk_at "c"
  refine⟨y,rfl,g0,by omega,?_⟩
  walk_at "c"
  refine⟨Dz,fun q0 h0=>?_⟩
  walk_at "c"
  refine⟨Dz,fun p hp=>Gp q ⟨[Cz,nmS y,[48],k1,Cr,[48],Cd,k1],by simp[jn,Cr,Cd,Cz,k1],(QM (oa:=some 0) (ob:=some 1) no.1 (.inr ⟨by decide,by decide⟩) (.inr ⟨by decide,by decide⟩) (by decide) (by decide)),by simp only[jn,List.length_append,List.length_cons,List.length_nil,show Cr.length=4 from rfl,show Cd.length=4 from rfl,show Cz.length=4 from rfl,show Hj.length=3 from rfl,show M8.length=3 from rfl,show Gr.length=1 from rfl,show k1.length=1 from rfl];omega,.name no.2.1 no.2.2.1 (by omega)⟩ (Bo.refl _) q0 h0 p hp⟩
 walk_at "c"
 refine Ca (fun _=>?_) (fun _=>?_)
 ·walk_at "c"
  rw[(show Str.ofString "date sun 0 * each 40000 from 7"=sW [100,97,116,101,32,115,117,110,32,48,32,42,32,101,97,99,104,32,52,48,48,48,48,32,102,114,111,109,32,55] by decide +kernel)]
  walk_at "c"
  refine⟨Dz,fun q0 h0=>?_⟩
  walk_at "c"
  refine⟨Dz,fun p hp=>Gp q ⟨[Cz,Hj,[48],Gr,Cr,[52,48,48,48,48],Cd,[55]],by decide +kernel,(QM (n:=[52,48,48,48,48]) (m:=[55]) (oa:=some 0) (ob:=none) (by decide) (.inr ⟨by decide,by decide⟩) (.inl ⟨rfl,rfl⟩) (by decide) (by decide)),by simp only[jn,List.length_append,List.length_cons,List.length_nil,show Cr.length=4 from rfl,show Cd.length=4 from rfl,show Cz.length=4 from rfl,show Hj.length=3 from rfl,show M8.length=3 from rfl,show Gr.length=1 from rfl,show k1.length=1 from rfl];omega,.num⟩ (Bo.refl _) q0 h0 p hp⟩
 walk_at "c"
 refine Ca (fun _=>?_) (fun _=>?_)
 ·walk_at "c"
  rw[(show Str.ofString "date old 1 1 each 40000 from 7"=sW [100,97,116,101,32,111,108,100,32,49,32,49,32,101,97,99,104,32,52,48,48,48,48,32,102,114,111,109,32,55] by decide +kernel)]
  walk_at "c"
  refine⟨Dz,fun q0 h0=>?_⟩
  walk_at "c"
  refine⟨Dz,fun p hp=>Gp q ⟨[Cz,M8,k1,k1,Cr,[52,48,48,48,48],Cd,[55]],by decide +kernel,(QM (n:=[52,48,48,48,48]) (m:=[55]) (oa:=some 1) (ob:=some 1) (by decide) (.inr ⟨by decide,by decide⟩) (.inr ⟨by decide,by decide⟩) (by decide) (by decide)),by simp only[jn,List.length_append,List.length_cons,List.length_nil,show Cr.length=4 from rfl,show Cd.length=4 from rfl,show Cz.length=4 from rfl,show Hj.length=3 from rfl,show M8.length=3 from rfl,show Gr.length=1 from rfl,show k1.length=1 from rfl];omega,.cyc⟩ (Bo.refl _) q0 h0 p hp⟩
 walk_at "c"
 refine Ca (fun _=>?_) (fun _=>?_)
 ·walk_at "c"
  obtain⟨n,en,hn,nl,lg,ev⟩:=aN (y:=30001+y) (by omega) (by omega)
  refine⟨_,rfl,lg,?_⟩
  rw[show Str.ofString (toString _)=sW n from en]
  rw[(show Str.ofString "date sun 1 1 each "=sW [100,97,116,101,32,115,117,110,32,49,32,49,32,101,97,99,104,32] by decide +kernel)]
  refine⟨_,_,rfl,rfl,lz (lb 18 rfl) nl rfl,?_⟩
  rw[De]
  walk_at "c"
  rw[(show Str.ofString " from 7"=sW [32,102,114,111,109,32,55] by decide +kernel)]
  refine⟨_,_,rfl,rfl,lz (Ci (lb 18 rfl) nl) (lb 7 rfl) rfl,?_⟩
  rw[De]
  walk_at "c"
  refine Ew ⟨200,200,Ik (by omega) (by omega),Ik (by omega) (by omega),by decide⟩ ?_
  walk_at "c"
  refine⟨Dz,fun q0 h0=>?_⟩
  walk_at "c"
  refine⟨Dz,fun p hp=>Gp q ⟨[Cz,Hj,k1,k1,Cr,n,Cd,[55]],by simp[jn,Cr,Cd,Cz,Hj,k1],(by rw[←ev];exact QM (m:=[55]) (oa:=some 1) (ob:=some 1) (by decide) (.inr ⟨by decide,by decide⟩) (.inr ⟨by decide,by decide⟩) hn (by decide)),by simp only[jn,List.length_append,List.length_cons,List.length_nil,show Cr.length=4 from rfl,show Cd.length=4 from rfl,show Cz.length=4 from rfl,show Hj.length=3 from rfl,show M8.length=3 from rfl,show Gr.length=1 from rfl,show k1.length=1 from rfl];omega,.long (by omega) (bt _ (by omega) (by omega))⟩ (Bo.refl _) q0 h0 p hp⟩
 walk_at "c"
 walk_at "c"
 rw[(show Str.ofString "date sun 1 -1"=sW [100,97,116,101,32,115,117,110,32,49,32,45,49] by decide +kernel)]
 walk_at "c"
 refine⟨Dz,fun q0 h0=>?_⟩
 walk_at "c"
 refine⟨Dz,fun p hp=>Gp q ⟨[Cz,Hj,k1,[45,49]],by decide +kernel,(nD (oa:=some 1) (ob:=some (-1)) (by decide) (.inr ⟨by decide,by decide⟩) (.inr ⟨by decide,by decide⟩)),by simp only[jn,List.length_append,List.length_cons,List.length_nil,show Cr.length=4 from rfl,show Cd.length=4 from rfl,show Cz.length=4 from rfl,show Hj.length=3 from rfl,show M8.length=3 from rfl,show Gr.length=1 from rfl,show k1.length=1 from rfl];omega,.made⟩ (Bo.refl _) q0 h0 p hp⟩
theorem Fv:BV ["_law_way","_law_number","_law_one","_law_other","_law_size"] ["_law_way","_law_number","_law_one","_law_other"] (Ao HX):=by walk_at "s"
theorem RL{f:Addr}{fd:FuncData}(F:Fun K "_law_whole_due" "_law_whole_due" HX f fd)(c__law_divisor:Cal P w K mg base 1 "_law_divisor" ["_law_one","_law_other"] Zr):Bu P w K mg base CX0 2 f fd ["_law_way","_law_number","_law_one","_law_other"] Qh:=by
 refine F.ok (k:=1) Fv (fun vs H Q E h=>?_) (fun cdv A outer s H vs Q E hr h=>?_)
 ·obtain⟨w',k,p1,q1,p2,q2,z1,z2,D1,D2,rfl,_⟩:=h
  rfl
 obtain⟨w',k,p1,q1,p2,q2,z1,z2,D1,D2,rfl,h1,h2,h3,h4,S1,S2,bk,q⟩:=h
 refine⟨_,(Ab (CG (BL QC (Bp Bm (Bp Bm (pv 2) Ai (fun _ _=>rfl)) Ai (fun _ _=>rfl)) BJ (Bd _))
  (Ag (BZ (Bp Bm (pv 2) Ai (fun _ _=>rfl))))
  Bh)
  (Ab (Fi (CG (PW.pt (XF (BL GX (pv 0) Ai (Bd _)) (Sx (BL QC (Bp Bm (Bp Bm (pv 3) Ai (fun _ _=>rfl)) Ai (fun _ _=>rfl)) BJ (Bd _)))))
   (Ag (BZ (Bp Bm (pv 3) Ai (fun _ _=>rfl))))
   Bh))
  (Ab (BK (i:=4) Fv.nd rfl (by walk_at "o") (Bp Bm (Bp Bm (pv 2) Ai (fun _ _=>rfl)) Ai (fun _ _=>rfl)))
  (Ab (Fi (CG (BL GX (pv 0) Ai (Bd _))
   (Ag (BK (i:=4) Fv.nd rfl (by walk_at "o") (BP Dd (BP Df (pv 4) (Br c__law_divisor (hr.mono (by decide)) rfl (Aa (pv 4) (Aa (Bp Bm (Bp Bm (pv 3) Ai (fun _ _=>rfl)) Ai (fun _ _=>rfl)) Ac)))) (Bp Bm (Bp Bm (pv 3) Ai (fun _ _=>rfl)) Ai (fun _ _=>rfl)))))
   Bh))
  (Ab (Fi (CG (BL Cg (pv 0) Ai (Bd _))
   (Ag (BK (i:=4) Fv.nd rfl (by walk_at "o") (BP Dd (pv 4) (pv 1))))
   Bh))
  (Ab (Fi (CG (PW.pt (Pr (PW.pt (XF (BL Cg (pv 0) Ai (Bd _)) (Sx (BL Cg (pv 1) Ai (Bd _))))) (J8 (PW.pt (XF (BL Cg (pv 0) Ai (Bd _)) (Sx (BL GX (pv 1) Ai (Bd _))))))))
   (Ag (BZ (Bv (Aa BJ (Aa Ai Ac)))))
   Bh))
  (Ab (CG (BL GZ (pv 4) Ai (Bd _))
   (Ag (BZ (Bv (Aa BJ (Aa (pv 4) Ac)))))
   Bh)
  (Ag (BZ (Bv (Aa BJ (Aa (pv 4) Ac)))))))))))),?_⟩
 walk_at "c"
 refine Bj (SqT.of h1) MK ?_
 walk_at "c"
 rcases pF D1 with ⟨n,rfl⟩ | ⟨s1,v1,e1,n1,t1⟩
 rotate_left
 ·have h2':=h2
  rw[e1] at h2'
  refine Bj (SqT.of h2') Kf ?_
  walk_at "c"
  refine QR n1 ?_
  walk_at "c"
  refine Bj (SqT.of h1) MK ?_
  exact q q1 H (Bo.refl _) (by unfold Rq;rw[t1];exact h2)
 have h2:H q1=some (.tup [.str "made",.int n]):=h2
 obtain⟨a0,a1⟩:=S1 n rfl
 refine Bj (SqT.of h2) Kf ?_
 walk_at "c"
 refine QQ rfl ?_
 walk_at "c"
 refine Eh (fun σ' H'=>H'=H∧(w'<4→∃m,D2=.made m)∧σ'=[some (.int w'),some (.int k),some (.ref p1),some (.ref p2),none]) ?_ ?_
 ·walk_at "c"
  refine Ca (fun c=>?_) (fun c=>?_)
  ·walk_at "c"
   refine Bj (SqT.of h3) MK ?_
   walk_at "c"
   rcases pF D2 with ⟨m,rfl⟩ | ⟨s2,v2,e2,n2,t2⟩
   ·have h4':H q2=some (.tup [.str "made",.int m]):=h4
    refine Bj (SqT.of h4') Kf ?_
    walk_at "c"
    refine QQ rfl ?_
    walk_at "c"
    exact⟨rfl,fun _=>⟨m,rfl⟩,rfl⟩
   ·have h4':=h4
    rw[e2] at h4'
    refine Bj (SqT.of h4') Kf ?_
    walk_at "c"
    refine QR n2 ?_
    walk_at "c"
    refine Bj (SqT.of h3) MK ?_
    refine q q2 H (Bo.refl _) ?_
    unfold Rq CP.thn
    simp only[]
    rw[if_pos c]
    show H q2=some (.tup (D2.thn _).row)
    rw[t2]
    exact h4
  ·try refine Hc ?_
   walk_at "c"
   exact⟨rfl,fun z=>absurd z c,rfl⟩
 rintro σ' H' ⟨rfl,hm,rfl⟩
 walk_at "c"
 refine Bj (SqT.of h1) MK ?_
 walk_at "c"
 refine Bj (SqT.of h2) MK ?_
 walk_at "c"
 refine Eh (fun σ' H''=>H''=H'∧∃n':Int,(w'<4→∃m,D2=.made m∧n'=DN n m)∧(¬w'<4→n'=n)∧0≤n'∧n'≤150000*150000∧σ'=[some (.int w'),some (.int k),some (.ref p1),some (.ref p2),some (.int n')]) ?_ ?_
 ·walk_at "c"
  refine Ca (fun c=>?_) (fun c=>?_)
  ·obtain⟨m,rfl⟩:=hm c
   have h4:H' q2=some (.tup [.str "made",.int m]):=h4
   obtain⟨b0,b1⟩:=S2 m rfl
   walk_at "c"
   refine Bj (SqT.of h3) MK ?_
   walk_at "c"
   refine Bj (SqT.of h4) MK ?_
   walk_at "c"
   refine⟨n,m,rfl,by omega,by omega,?_⟩
   have g0:=S6 (b:=m) (show 0<n by omega)
   have g1:=jm (b:=m) (show 0<n by omega)
   have d0:0≤n/(Int.gcd n m:Int):=Int.ediv_nonneg (by omega) (by omega)
   have d1:n/(Int.gcd n m:Int)≤n:=Int.ediv_le_self _ (by omega)
   walk_at "c"
   try refine Ew (Kc g0 (by omega)) ?_
   walk_at "c"
   refine Bj (SqT.of h3) MK ?_
   walk_at "c"
   refine Bj (SqT.of h4) MK ?_
   try refine Ew ⟨64,64,DY (by omega) (by omega) (by decide),DY (by omega) (by omega) (by decide),by decide⟩ ?_
   walk_at "c"
   have f0:=(DG (show 0<n by omega) (show 0<m by omega)).1
   have f1:=cP (show 0<n by omega) (show 0<m by omega)
   have f2:=Int.mul_le_mul a1 b1 (by omega) (by decide)
   exact⟨rfl,DN n m,fun _=>⟨m,rfl,rfl⟩,fun z=>absurd c z,by omega,by omega,rfl⟩
  ·walk_at "c"
   exact⟨rfl,n,fun z=>absurd z c,fun _=>rfl,by omega,by omega,rfl⟩
 rintro σ' H'' ⟨rfl,n',e4,e5,f0,f1,rfl⟩
 walk_at "c"
 refine Eh (fun σ' H'=>H'=H''∧σ'=[some (.int w'),some (.int k),some (.ref p1),some (.ref p2),some (.int (if w'=4 then n'*k else n'))]) ?_ ?_
 ·walk_at "c"
  by_cases c:w'=4
  ·refine Jl (congrArg V.int c) ?_
   walk_at "c"
   refine Ew ⟨200,250,Ik (by omega) (by omega),bk,by decide⟩ ?_
   walk_at "c"
   rw[if_pos c]
   exact⟨rfl,rfl⟩
  ·refine Ck (fun z=>c (V.int.inj z)) ?_
   walk_at "c"
   rw[if_neg c]
   exact⟨rfl,rfl⟩
 rintro σ' H ⟨rfl,rfl⟩
 have ew:((w'=3∧k=0∨w'=4∧k<1)→Rq w' k (.made n) D2=.num)∧(¬(w'=3∧k=0∨w'=4∧k<1)→Rq w' k (.made n) D2=DQ (if w'=4 then n'*k else n')):=by
  unfold Rq CP.thn
  simp only[]
  by_cases c:w'<4
  ·obtain⟨m,rfl,rfl⟩:=e4 c
   rw[if_pos c,if_neg (by omega)]
   simp only[]
   refine⟨fun z=>if_pos (by omega),fun z=>if_neg (by omega)⟩
  ·obtain rfl:=e5 c
   rw[if_neg c]
   by_cases c4:w'=4
   ·rw[if_pos c4,if_pos c4]
    refine⟨fun z=>if_pos (by omega),fun z=>if_neg (by omega)⟩
   ·rw[if_neg c4,if_neg c4]
    exact⟨fun z=>absurd z (by omega),fun _=>rfl⟩
 walk_at "c"
 refine Eh (fun σ' H'=>H'=H∧¬(w'=3∧k=0∨w'=4∧k<1)∧σ'=[some (.int w'),some (.int k),some (.ref p1),some (.ref p2),some (.int (if w'=4 then n'*k else n'))]) ?_ ?_
 ·have num:(w'=3∧k=0∨w'=4∧k<1)→∀u,H u=none→Q (.ref u) (upd H u (.tup [.str "number",.int 0])):=fun z u hu=>q u _ (Bk hu _) (by rw[ew.1 z];exact BR)
  walk_at "c"
  by_cases c3:w'=3
  ·refine Jl (congrArg V.int c3) ?_
   walk_at "c"
   by_cases k0:k=0
   ·refine Jl (congrArg V.int k0) ?_
    try refine Lz ?_
    walk_at "c"
    exact⟨Dz,num (.inl ⟨c3,k0⟩)⟩
   ·refine Ck (fun z=>k0 (V.int.inj z)) ?_
    walk_at "c"
    refine Ck (fun z=>(show w'≠4 by omega) (V.int.inj z)) ?_
    try refine Hc ?_
    walk_at "c"
    exact⟨rfl,by omega,rfl⟩
  ·refine Ck (fun z=>c3 (V.int.inj z)) ?_
   walk_at "c"
   try refine Hc ?_
   walk_at "c"
   by_cases c4:w'=4
   ·refine Jl (congrArg V.int c4) ?_
    try refine Lz ?_
    walk_at "c"
    refine Ca (fun k1=>?_) (fun k1=>?_)
    ·walk_at "c"
     exact⟨Dz,num (.inr ⟨c4,k1⟩)⟩
    ·walk_at "c"
     exact⟨rfl,by omega,rfl⟩
   ·refine Ck (fun z=>c4 (V.int.inj z)) ?_
    try refine Hc ?_
    walk_at "c"
    exact⟨rfl,by omega,rfl⟩
 rintro σ' H' ⟨rfl,nz,rfl⟩
 have e:=ew.2 nz
 rw[e] at q
 unfold DQ at q
 generalize (if w'=4 then n'*k else n')=sz at q ⊢
 walk_at "c"
 refine Ca (fun c=>?_) (fun c=>?_)
 ·rw[if_pos c] at q
  walk_at "c"
  exact⟨Dz,fun u hu=>q u _ (Bk hu _) BR⟩
 ·rw[if_neg c] at q
  walk_at "c"
  exact⟨Dz,fun u hu=>q u _ (Bk hu _) BR⟩
theorem YK:BV ["_law_way","_law_number","_law_one","_law_other"] ["_law_way","_law_number","_law_one","_law_other"] (Ao Nx):=by walk_at "s"
theorem Yj{f:Addr}{fd:FuncData}(F:Fun K "_law_text" "_law_text" Nx f fd)(z_str:mg "str"=none):Bu P w K mg base CX0 1 f fd ["_law_way","_law_number","_law_one","_law_other"] TY:=by
 refine F.ok (k:=0) YK (fun vs H Q E h=>?_) (fun cdv A outer s H vs Q E hr h=>?_)
 ·obtain⟨w',k,p1,q1,p2,q2,z1,z2,l1,l2,D1,D2,rfl,_⟩:=h
  rfl
 obtain⟨w',k,p1,q1,p2,q2,z1,z2,l1,l2,D1,D2,rfl,h1,h2,⟨ws,rfl,L1,n1,d1⟩,⟨vs,rfl,L2,n2,d2⟩,w0,w1,k0,k1',q⟩:=h
 obtain⟨n,en,hn,nl,lg,ev⟩:=aN k0 k1'
 have bk:Bt 250 k:=(Ik (by omega) (by omega):Bt 200 k).mono (by decide)
 have fs:=sZ d1.sz
 refine⟨_,(Ab (CG (BL GX (pv 0) Ai (Bd _))
  (Ag (BZ (BP Bs (BP Bs (BP Bs (BP Bs BJ (Bp Bm (pv 2) Ai (fun _ _=>rfl))) (Bp JB (GC (Aa BJ (Aa BJ (Aa BJ Ac)))) (pv 0) (fun _ _=>rfl))) (Bp Bm (pv 3) Ai (fun _ _=>rfl))) BJ)))
  Bh)
  (Ab (CG (BL Cg (pv 0) Ai (Bd _))
   (Ag (BZ (BP Bs (BP Bs (BP Bs (BP Bs (BP Bs (BP Bs BJ (Dc DX rfl z_str PyProof.Rows.boot_str (Aa (pv 1) Ac))) BJ) (Bp Bm (pv 2) Ai (fun _ _=>rfl))) BJ) (Bp Bm (pv 3) Ai (fun _ _=>rfl))) BJ)))
   Bh)
  (Ab (CG (BL Cg (pv 0) Ai (Bd _))
   (Ag (BZ (BP Bs (BP Bs (BP Bs (BP Bs (BP Bs (BP Bs BJ (Dc DX rfl z_str PyProof.Rows.boot_str (Aa (pv 1) Ac))) BJ) (Bp Bm (pv 2) Ai (fun _ _=>rfl))) BJ) (Dc DX rfl z_str PyProof.Rows.boot_str (Aa (pv 1) Ac))) BJ)))
   Bh)
  (Ab (CG (BL Cg (pv 0) Ai (Bd _))
   (Ag (BZ (BP Bs (BP Bs BJ (Bp Bm (pv 2) Ai (fun _ _=>rfl))) BJ)))
   Bh)
  (Ab (CG (BL Cg (pv 0) Ai (Bd _))
   (Ag (BZ (BP Bs (BP Bs (BP Bs (BP Bs BJ (Dc DX rfl z_str PyProof.Rows.boot_str (Aa (pv 1) Ac))) BJ) (Bp Bm (pv 2) Ai (fun _ _=>rfl))) BJ)))
   Bh)
  (Ag (BZ (Bp Bm (pv 2) Ai (fun _ _=>rfl))))))))),?_⟩
 walk_at "c"
 refine Ca (fun c=>?_) (fun c=>?_)
 ·walk_at "c"
  refine Bj (SqT.of h1) Kf ?_
  rw[(show Str.ofString "("=sW [40] by decide +kernel)]
  refine⟨_,_,rfl,rfl,lz (lb 1 rfl) n1 rfl,?_⟩
  rw[De]
  walk_at "c"
  refine⟨(by show 3≤sizeLine;decide),fun l hl=>?_⟩
  refine fresh hl fun H1 s1 t1=>?_
  walk_at "c"
  obtain⟨w,hw,wl,ex⟩:∃w:Wd,w∈pw3∧w.length≤10∧atI [V.str (Str.ofString " and "),V.str (Str.ofString " but "),V.str (Str.ofString " unlike ")] w'=some (.str (sW (32::(w++[32])))):=by
   obtain e | e | e:w'=0∨w'=1∨w'=2:=by omega
   ·exact⟨[97,110,100],by decide,by decide,by rw[e,(show Str.ofString " and "=sW [32,97,110,100,32] by decide +kernel)];rfl⟩
   ·exact⟨[98,117,116],by decide,by decide,by rw[e,(show Str.ofString " but "=sW [32,98,117,116,32] by decide +kernel)];rfl⟩
   ·exact⟨[117,110,108,105,107,101],by decide,by decide,by rw[e,(show Str.ofString " unlike "=sW [32,117,110,108,105,107,101,32] by decide +kernel)];rfl⟩
  have wb:(32::(w++[32])).length≤12:=by simp;omega
  refine Lp (SqL.of t1) ex ?_
  refine⟨_,_,rfl,rfl,lz (Ci (lb 1 rfl) n1) wb rfl,?_⟩
  rw[De]
  walk_at "c"
  refine Bj (SqT.of (s1 _ _ h2)) Kf ?_
  refine⟨_,_,rfl,rfl,lz (Ci (Ci (lb 1 rfl) n1) wb) n2 rfl,?_⟩
  rw[De]
  walk_at "c"
  rw[(show Str.ofString ")"=sW [41] by decide +kernel)]
  refine⟨_,_,rfl,rfl,lz (Ci (Ci (Ci (lb 1 rfl) n1) wb) n2) (lb 1 rfl) rfl,?_⟩
  rw[De]
  have pw:w∈Fj:=(show ∀w∈pw3,w∈Fj by decide) w hw
  refine q _ (.pair w l1 l2) H1 s1 (Ow (ws:=ws++w::vs) (aY L1.gw (Cm (Ol (List.mem_append_right _ pw)) L2.gw)) (by simp) ?_ (sr L1 L2 pw) ?_) ?_
  ·rw[Oi L1.ne (by simp),Cy L2.ne]
   simp only[List.length_append,List.length_cons]
   omega
  ·rw[Oi L1.ne (by simp),Cy L2.ne]
   simp
  ·have:=PD.pair hw (.lf (d:=0) d1) (.lf d2)
   unfold Rq
   rwa [oX (by omega),tu (by omega)]
 walk_at "c"
 by_cases c3:w'=3
 ·refine Jl (congrArg V.int c3) ?_
  walk_at "c"
  refine⟨_,rfl,lg,?_⟩
  rw[show Str.ofString (toString _)=sW n from en]
  rw[(show Str.ofString "("=sW [40] by decide +kernel)]
  refine⟨_,_,rfl,rfl,lz (lb 1 rfl) nl rfl,?_⟩
  rw[De]
  walk_at "c"
  rw[(show Str.ofString " of "=sW [32,111,102,32] by decide +kernel)]
  refine⟨_,_,rfl,rfl,lz (Ci (lb 1 rfl) nl) (lb 4 rfl) rfl,?_⟩
  rw[De]
  walk_at "c"
  refine Bj (SqT.of h1) Kf ?_
  refine⟨_,_,rfl,rfl,lz (Ci (Ci (lb 1 rfl) nl) (lb 4 rfl)) n1 rfl,?_⟩
  rw[De]
  walk_at "c"
  rw[(show Str.ofString " from "=sW [32,102,114,111,109,32] by decide +kernel)]
  refine⟨_,_,rfl,rfl,lz (Ci (Ci (Ci (lb 1 rfl) nl) (lb 4 rfl)) n1) (lb 6 rfl) rfl,?_⟩
  rw[De]
  walk_at "c"
  refine Bj (SqT.of h2) Kf ?_
  refine⟨_,_,rfl,rfl,lz (Ci (Ci (Ci (Ci (lb 1 rfl) nl) (lb 4 rfl)) n1) (lb 6 rfl)) n2 rfl,?_⟩
  rw[De]
  walk_at "c"
  rw[(show Str.ofString ")"=sW [41] by decide +kernel)]
  refine⟨_,_,rfl,rfl,lz (Ci (Ci (Ci (Ci (Ci (lb 1 rfl) nl) (lb 4 rfl)) n1) (lb 6 rfl)) n2) (lb 1 rfl) rfl,?_⟩
  rw[De]
  refine q _ (.nth k l1 l2) H (Bo.refl _) (Ow (ws:=n::kOf::(ws++Cd::vs)) (Cm (KY hn) (Cm (Ol (by decide)) (aY L1.gw (Cm (Ol (by decide)) L2.gw)))) (by simp) ?_ (by rw[←ev];exact vC L1 L2 hn) ?_) ?_
  ·rw[Cy (by simp),Cy (by simp),Oi L1.ne (by simp),Cy L2.ne]
   simp only[List.length_append,List.length_cons,show kOf.length=2 from rfl,show Cd.length=4 from rfl]
   omega
  ·rw[Cy (by simp),Cy (by simp),Oi L1.ne (by simp),Cy L2.ne]
   simp[kOf,Cd]
  ·have:=PD.nth bk (.lf (d:=0) d1) (.lf d2)
   unfold Rq
   rwa [oX (by omega),vV c3]
 refine Ck (fun z=>c3 (V.int.inj z)) ?_
 walk_at "c"
 by_cases c4:w'=4
 ·refine Jl (congrArg V.int c4) ?_
  walk_at "c"
  refine⟨_,rfl,lg,?_⟩
  rw[show Str.ofString (toString _)=sW n from en]
  rw[(show Str.ofString "(every "=sW [40,101,118,101,114,121,32] by decide +kernel)]
  refine⟨_,_,rfl,rfl,lz (lb 7 rfl) nl rfl,?_⟩
  rw[De]
  walk_at "c"
  rw[(show Str.ofString " of "=sW [32,111,102,32] by decide +kernel)]
  refine⟨_,_,rfl,rfl,lz (Ci (lb 7 rfl) nl) (lb 4 rfl) rfl,?_⟩
  rw[De]
  walk_at "c"
  refine Bj (SqT.of h1) Kf ?_
  refine⟨_,_,rfl,rfl,lz (Ci (Ci (lb 7 rfl) nl) (lb 4 rfl)) n1 rfl,?_⟩
  rw[De]
  walk_at "c"
  rw[(show Str.ofString " from "=sW [32,102,114,111,109,32] by decide +kernel)]
  refine⟨_,_,rfl,rfl,lz (Ci (Ci (Ci (lb 7 rfl) nl) (lb 4 rfl)) n1) (lb 6 rfl) rfl,?_⟩
  rw[De]
  walk_at "c"
  refine⟨_,rfl,lg,?_⟩
  rw[show Str.ofString (toString _)=sW n from en]
  refine⟨_,_,rfl,rfl,lz (Ci (Ci (Ci (Ci (lb 7 rfl) nl) (lb 4 rfl)) n1) (lb 6 rfl)) nl rfl,?_⟩
  rw[De]
  walk_at "c"
  rw[(show Str.ofString ")"=sW [41] by decide +kernel)]
  refine⟨_,_,rfl,rfl,lz (Ci (Ci (Ci (Ci (Ci (lb 7 rfl) nl) (lb 4 rfl)) n1) (lb 6 rfl)) nl) (lb 1 rfl) rfl,?_⟩
  rw[De]
  refine q _ (.every k l1 k) H (Bo.refl _) (Ow (ws:=GQ::n::kOf::(ws++[Cd,n])) (Cm (Ol (by decide)) (Cm (KY hn) (Cm (Ol (by decide)) (aY L1.gw (Cm (Ol (by decide)) (Cm (KY hn) Xr)))))) (by simp) ?_ (by rw[←ev];exact nY L1 hn hn) ?_) ?_
  ·rw[Cy (by simp),Cy (by simp),Cy (by simp),Oi L1.ne (by simp),Cy (by simp)]
   simp only[jn,List.length_append,List.length_cons,show kOf.length=2 from rfl,show Cd.length=4 from rfl,show GQ.length=5 from rfl]
   omega
  ·rw[Cy (by simp),Cy (by simp),Cy (by simp),Oi L1.ne (by simp),Cy (by simp)]
   simp[jn,kOf,Cd,GQ]
  ·have:=PD.every bk bk (.lf (d:=0) d1)
   unfold Rq
   rwa [vU c4]
 refine Ck (fun z=>c4 (V.int.inj z)) ?_
 walk_at "c"
 have ew:Rq w' k D1 D2=D1:=by
  unfold Rq
  rw[vR (by omega) c4,fs]
 rw[ew] at q
 refine Ca (fun _=>?_) (fun _=>?_)
 ·walk_at "c"
  refine Bj (SqT.of h1) Kf ?_
  rw[(show Str.ofString "(not "=sW [40,110,111,116,32] by decide +kernel)]
  refine⟨_,_,rfl,rfl,lz (lb 5 rfl) n1 rfl,?_⟩
  rw[De]
  walk_at "c"
  rw[(show Str.ofString ")"=sW [41] by decide +kernel)]
  refine⟨_,_,rfl,rfl,lz (Ci (lb 5 rfl) n1) (lb 1 rfl) rfl,?_⟩
  rw[De]
  refine q _ (.not l1) H (Bo.refl _) (Ow (ws:=M9::ws) (Cm (Ol (by decide)) L1.gw) (by simp) ?_ (vD L1) ?_) (.not (.lf d1))
  ·rw[Cy L1.ne]
   simp only[List.length_append,List.length_cons,show M9.length=3 from rfl]
   omega
  ·rw[Cy L1.ne]
   simp[M9]
 walk_at "c"
 refine Ca (fun _=>?_) (fun _=>?_)
 ·walk_at "c"
  refine⟨_,rfl,lg,?_⟩
  rw[show Str.ofString (toString _)=sW n from en]
  rw[(show Str.ofString "("=sW [40] by decide +kernel)]
  refine⟨_,_,rfl,rfl,lz (lb 1 rfl) nl rfl,?_⟩
  rw[De]
  walk_at "c"
  rw[(show Str.ofString " later "=sW [32,108,97,116,101,114,32] by decide +kernel)]
  refine⟨_,_,rfl,rfl,lz (Ci (lb 1 rfl) nl) (lb 7 rfl) rfl,?_⟩
  rw[De]
  walk_at "c"
  refine Bj (SqT.of h1) Kf ?_
  refine⟨_,_,rfl,rfl,lz (Ci (Ci (lb 1 rfl) nl) (lb 7 rfl)) n1 rfl,?_⟩
  rw[De]
  walk_at "c"
  rw[(show Str.ofString ")"=sW [41] by decide +kernel)]
  refine⟨_,_,rfl,rfl,lz (Ci (Ci (Ci (lb 1 rfl) nl) (lb 7 rfl)) n1) (lb 1 rfl) rfl,?_⟩
  rw[De]
  refine q _ (.later k l1) H (Bo.refl _) (Ow (ws:=n::Fo::ws) (Cm (KY hn) (Cm (Ol (by decide)) L1.gw)) (by simp) ?_ (by rw[←ev];exact nW L1 hn) ?_) (.later bk (.lf d1))
  ·rw[Cy (by simp),Cy L1.ne]
   simp only[List.length_append,List.length_cons,show Fo.length=5 from rfl]
   omega
  ·rw[Cy (by simp),Cy L1.ne]
   simp[Fo]
 walk_at "c"
 refine Bj (SqT.of h1) Kf ?_
 exact q _ l1 H (Bo.refl _) (lB L1 (by omega)) (.lf d1)
theorem Cq:BV ["_law_text_here","_law_calendars","_law_found","_law_word","_law_detail","e"] ["_law_text_here","_law_calendars"] (Ao Nv):=by walk_at "s"
theorem Yi{f:Addr}{fd:FuncData}(F:Fun K "_law_told" "_law_told" Nv f fd)(er:Dr K mg Aw Af Ad BW Be Al Ah An Az CZ DP Ax Av Ba Ay Bl Bc Ak Aq CJ Bq CN CK Bb Ar Aj Ae Bf BX Am)(c_read_rule:CQ P w K mg base 132 "read_rule" ["text","calendars"] (Tg K Az [Ax,Av,Ba,Ay,Bc,Ak,Aq,Bb,Ar] ⟨An,Af,Al,Ah,Ad⟩ BX Ae Am))(c_Rec_size:Hm P w K mg base CX0 2 "size" ["self"] ([Ax,Av,Ba,Ay,Bc,Ak,Aq,Bb,Ar].map fun C=>(C,(spR (O6 K Az [Ax,Av,Ba,Ay,Bc,Ak,Aq,Bb,Ar])) 1))):Bu P w K mg base CX0 133 f fd ["_law_text_here","_law_calendars"] (TX BX Ae Am):=by
 refine F.ok (k:=132) Cq (fun vs H Q E h=>?_) (fun cdv A outer s H vs Q E hr h=>?_)
 ·obtain⟨z,a,D,rfl,_⟩:=h
  rfl
 obtain⟨z,a,D,rfl,hz,td,C,q⟩:=h
 refine⟨_,(Ab (BK (i:=2) Cq.nd rfl (by walk_at "o") JX)
  (Ab (BK (i:=3) Cq.nd rfl (by walk_at "o") BJ)
  (Ab (BK (i:=4) Cq.nd rfl (by walk_at "o") Ai)
  (Ab (Fi (rB rfl rfl (fun _ _ _ T=>(Ag (BK (i:=2) Cq.nd rfl (by walk_at "o") (Bg T c_read_rule (hr.mono (by decide)) rfl (Aa (pv 0) (Aa (pv 1) Ac))))))
   (Ug er.h_NoRule rfl (fun _=>(Ag (BK (i:=3) Cq.nd rfl (by walk_at "o") BJ)))
   (V3 (i:=5) er.h_NoName rfl Cq.nd rfl rfl (fun _=>(Ab (BK (i:=3) Cq.nd rfl (by walk_at "o") BJ)
  (Ag (BK (i:=4) Cq.nd rfl (by walk_at "o") (bw (pv 5) (by rfl))))))
   (Ug er.h_NoNumber rfl (fun _=>(Ag (BK (i:=3) Cq.nd rfl (by walk_at "o") BJ)))
   (Ug er.h_NoCycle rfl (fun _=>(Ag (BK (i:=3) Cq.nd rfl (by walk_at "o") BJ)))
   (V3 (i:=5) er.h_TooLong rfl Cq.nd rfl rfl (fun _=>(Ab (BK (i:=3) Cq.nd rfl (by walk_at "o") BJ)
  (Ag (BK (i:=4) Cq.nd rfl (by walk_at "o") (bw (pv 5) (by rfl))))))
   mG)))))))
  (Ab (Fi (CG (BL Cg (pv 3) BJ (Bd _))
   (Ag (BK (i:=4) Cq.nd rfl (by walk_at "o") (El c_Rec_size (hr.mono (by decide)) (pv 2))))
   Bh))
  (Ag (BZ (Bv (Aa (pv 3) (Aa (pv 4) Ac)))))))))),?_⟩
 walk_at "x"
 refine Eh (fun σ' H'=>Bo H H'∧match D with
  | .name z1=>∃x:Option V,σ'=[some (.str z),some (.ref a),x,some (.str "name"),some (.str z1),none]
  | .num=>∃x:Option V,σ'=[some (.str z),some (.ref a),x,some (.str "number"),some (.int 0),none]
  | .cyc=>∃x:Option V,σ'=[some (.str z),some (.ref a),x,some (.str "cycle"),some (.int 0),none]
  | .rule=>∃x:Option V,σ'=[some (.str z),some (.ref a),x,some (.str "rule"),some (.int 0),none]
  | .long n=>∃x:Option V,σ'=[some (.str z),some (.ref a),x,some (.str "long"),some (.int n),none]
  | .made n=>∃(x:Addr) (b:Nat),σ'=[some (.str z),some (.ref a),some (.ref x),some (.str "made"),some (.int 0),none]∧FN K Az [Ax,Av,Ba,Ay,Bc,Ak,Aq,Bb,Ar] H' x n b) ?_ ?_
 ·walk_at "x"
  refine⟨z,a,D,rfl,hz,td,C,?_⟩
  cases D with
  | made n=>
   intro x b H1 s1 R
   walk_at "x"
   exact⟨s1,x,b,rfl,R⟩
  | rule=>
   intro H1 s1 ea hea
   refine W8 er.r_NoRule_NoRule ?_
   refine fresh hea fun H2 s2 t2=>?_
   walk_at "x"
   exact⟨s1.trans s2,_,rfl⟩
  | name z1=>
   intro dd H1 s1 hx ea hea
   refine Ib er.r_NoName_NoRule (YS er.r_NoName_NoName ?_)
   refine fresh hea fun H2 s2 t2=>?_
   have x2:=s2 _ _ hx
   walk_at "x"
   refine⟨ea,An,dd,_,_,rfl,t2,x2,er.g_NoName,er.d_NoName,er.na_NoName_name,rfl,?_⟩
   walk_at "x"
   exact⟨s1.trans s2,_,rfl⟩
  | num=>
   intro H1 s1 ea hea
   refine Ib er.r_NoNumber_NoRule (Q6 er.r_NoNumber_NoName (W8 er.r_NoNumber_NoNumber ?_))
   refine fresh hea fun H2 s2 t2=>?_
   walk_at "x"
   exact⟨s1.trans s2,_,rfl⟩
  | cyc=>
   intro H1 s1 ea hea
   refine Ib er.r_NoCycle_NoRule (Q6 er.r_NoCycle_NoName (Ib er.r_NoCycle_NoNumber (W8 er.r_NoCycle_NoCycle ?_)))
   refine fresh hea fun H2 s2 t2=>?_
   walk_at "x"
   exact⟨s1.trans s2,_,rfl⟩
  | long n=>
   intro dd H1 s1 hx ea hea
   refine Ib er.r_TooLong_NoRule (Q6 er.r_TooLong_NoName (Ib er.r_TooLong_NoNumber (Ib er.r_TooLong_NoCycle (YS er.r_TooLong_TooLong ?_))))
   refine fresh hea fun H2 s2 t2=>?_
   have x2:=s2 _ _ hx
   walk_at "x"
   refine⟨ea,Ad,dd,_,_,rfl,t2,x2,er.g_TooLong,er.d_TooLong,er.na_TooLong_needed,rfl,?_⟩
   walk_at "x"
   exact⟨s1.trans s2,_,rfl⟩
 rintro σ' H1 ⟨s1,hh⟩
 cases D with
 | name z1=>
  obtain⟨x,rfl⟩:=hh
  walk_at "y"
  refine Eh (fun σ' H'=>σ'=[some (.str z),some (.ref a),x,some (.str "name"),some (.str z1),none]∧H'=H1) ?_ ?_
  ·walk_at "y"
   refine Ck (by intro z;cases z) ?_
   walk_at "y"
   exact⟨rfl,rfl⟩
  rintro σ' H2 ⟨rfl,rfl⟩
  walk_at "y"
  exact⟨Dz,fun p hp=>q p _ (s1.trans (Bk hp _)) BR⟩
 | num=>
  obtain⟨x,rfl⟩:=hh
  walk_at "y"
  refine Eh (fun σ' H'=>σ'=[some (.str z),some (.ref a),x,some (.str "number"),some (.int 0),none]∧H'=H1) ?_ ?_
  ·walk_at "y"
   refine Ck (by intro z;cases z) ?_
   walk_at "y"
   exact⟨rfl,rfl⟩
  rintro σ' H2 ⟨rfl,rfl⟩
  walk_at "y"
  exact⟨Dz,fun p hp=>q p _ (s1.trans (Bk hp _)) BR⟩
 | cyc=>
  obtain⟨x,rfl⟩:=hh
  walk_at "y"
  refine Eh (fun σ' H'=>σ'=[some (.str z),some (.ref a),x,some (.str "cycle"),some (.int 0),none]∧H'=H1) ?_ ?_
  ·walk_at "y"
   refine Ck (by intro z;cases z) ?_
   walk_at "y"
   exact⟨rfl,rfl⟩
  rintro σ' H2 ⟨rfl,rfl⟩
  walk_at "y"
  exact⟨Dz,fun p hp=>q p _ (s1.trans (Bk hp _)) BR⟩
 | rule=>
  obtain⟨x,rfl⟩:=hh
  walk_at "y"
  refine Eh (fun σ' H'=>σ'=[some (.str z),some (.ref a),x,some (.str "rule"),some (.int 0),none]∧H'=H1) ?_ ?_
  ·walk_at "y"
   refine Ck (by intro z;cases z) ?_
   walk_at "y"
   exact⟨rfl,rfl⟩
  rintro σ' H2 ⟨rfl,rfl⟩
  walk_at "y"
  exact⟨Dz,fun p hp=>q p _ (s1.trans (Bk hp _)) BR⟩
 | long n=>
  obtain⟨x,rfl⟩:=hh
  walk_at "y"
  refine Eh (fun σ' H'=>σ'=[some (.str z),some (.ref a),x,some (.str "long"),some (.int n),none]∧H'=H1) ?_ ?_
  ·walk_at "y"
   refine Ck (by intro z;cases z) ?_
   walk_at "y"
   exact⟨rfl,rfl⟩
  rintro σ' H2 ⟨rfl,rfl⟩
  walk_at "y"
  exact⟨Dz,fun p hp=>q p _ (s1.trans (Bk hp _)) BR⟩
 | made n=>
  obtain⟨x,b,rfl,R⟩:=hh
  walk_at "y"
  refine Eh (fun σ' H'=>σ'=[some (.str z),some (.ref a),some (.ref x),some (.str "made"),some (.int n),none]∧H'=H1) ?_ ?_
  ·walk_at "y"
   refine Jl rfl ?_
   walk_at "y"
   obtain⟨C1,dx,fs,mm,hx2,_,l2,_⟩:=R.mt
   refine⟨x,C1,dx,fs,_,mm _,rfl,hx2,l2,?_⟩
   walk_at "y"
   refine⟨Nat.one_pos,x,n,b,rfl,R,?_⟩
   walk_at "y"
   exact⟨rfl,rfl⟩
  rintro σ' H2 ⟨rfl,rfl⟩
  walk_at "y"
  exact⟨Dz,fun p hp=>q p _ (s1.trans (Bk hp _)) BR⟩
theorem HQ:BV ["_law_script","_law_way","_law_number","_law_one","_law_other","_law_text_here","_law_due","_law_sun","_law_calendars"] ["_law_script"] (Ao Pn):=by walk_at "s"
theorem rN{f:Addr}{fd:FuncData}(F:Fun K "law" "law" Pn f fd)(er:Dr K mg Aw Af Ad BW Be Al Ah An Az CZ DP Ax Av Ba Ay Bl Bc Ak Aq CJ Bq CN CK Bb Ar Aj Ae Bf BX Am)(c__law_cell_at:Cal P w K mg base 1 "_law_cell_at" ["_law_script","_law_k"] (Wu K))(c__law_leaf:Cal P w K mg base 2 "_law_leaf" ["_law_cell"] Ti)(c__law_text:Cal P w K mg base 1 "_law_text" ["_law_way","_law_number","_law_one","_law_other"] TY)(c__law_whole_due:Cal P w K mg base 2 "_law_whole_due" ["_law_way","_law_number","_law_one","_law_other"] Qh)(c_Sun___init___d2:kW P w K mg base CX0 7 "Sun" BX ["self","start","lengths","leap","terms"] [(.int 1),.non] (O8 BX Ae))(c_Change___init__:Eu P w K mg base CX0 6 "Change" Am ["self","old","new","day"] (Ql BX Ae Am))(c__law_told:Cal P w K mg base 133 "_law_told" ["_law_text_here","_law_calendars"] (TX BX Ae Am)):Bu P w K mg base CX0 134 f fd ["_law_script"] (gf K):=by
 refine F.ok (k:=133) HQ (fun vs H Q E h=>?_) (fun cdv A outer s H vs Q E hr h=>?_)
 ·obtain⟨a,ns,rfl,_⟩:=h
  rfl
 obtain⟨a,ns,rfl,hS,h63,hB,q⟩:=h
 refine⟨_,(Ab (BK (i:=1) HQ.nd rfl (by walk_at "o") (BP Eg (Br c__law_cell_at (hr.mono (by decide)) rfl (Aa (pv 0) (Aa Ai Ac))) Ai))
  (Ab (BK (i:=2) HQ.nd rfl (by walk_at "o") (BP Ei (BP Eg (BP Df (Br c__law_cell_at (hr.mono (by decide)) rfl (Aa (pv 0) (Aa Ai Ac))) Ai) (BP aB Ai Ai)) (BP aB Ai Ai)))
  (Ab (Fi (CG (BL GZ (BP Eg (Br c__law_cell_at (hr.mono (by decide)) rfl (Aa (pv 0) (Aa Ai Ac))) Ai) Ai (Bd _))
   (Ag (BK (i:=2) HQ.nd rfl (by walk_at "o") (BP Ei (BP Eg (BP Df (Br c__law_cell_at (hr.mono (by decide)) rfl (Aa (pv 0) (Aa Ai Ac))) Ai) Ai) Ai)))
   Bh))
  (Ab (BK (i:=3) HQ.nd rfl (by walk_at "o") (Br c__law_leaf (hr.mono (by decide)) rfl (Aa (Br c__law_cell_at (hr.mono (by decide)) rfl (Aa (pv 0) (Aa Ai Ac))) Ac)))
  (Ab (BK (i:=4) HQ.nd rfl (by walk_at "o") (Br c__law_leaf (hr.mono (by decide)) rfl (Aa (Br c__law_cell_at (hr.mono (by decide)) rfl (Aa (pv 0) (Aa Ai Ac))) Ac)))
  (Ab (BK (i:=5) HQ.nd rfl (by walk_at "o") (Br c__law_text (hr.mono (by decide)) rfl (Aa (pv 1) (Aa (pv 2) (Aa (pv 3) (Aa (pv 4) Ac))))))
  (Ab (BK (i:=6) HQ.nd rfl (by walk_at "o") (Br c__law_whole_due (hr.mono (by decide)) rfl (Aa (pv 1) (Aa (pv 2) (Aa (pv 3) (Aa (pv 4) Ac))))))
  (Ab (Fi (CG (BL Cg (BP Eg (BP Df (Br c__law_cell_at (hr.mono (by decide)) rfl (Aa (pv 0) (Aa Ai Ac))) Ai) Ai) Ai (Bd _))
   (Ab (BK (i:=5) HQ.nd rfl (by walk_at "o") (BP Bs (pv 5) BJ))
  (Ag (BK (i:=6) HQ.nd rfl (by walk_at "o") (Bv (Aa BJ (Aa Ai Ac))))))
   Bh))
  (Ab (BK (i:=7) HQ.nd rfl (by walk_at "o") (jE c_Sun___init___d2 (hr.mono (by decide)) rfl (Aa Ai (Aa (GC (Aa Ai Ac)) Ac))))
  (Ab (BK (i:=8) HQ.nd rfl (by walk_at "o") (mJ (YX BJ (pv 7) (YX BJ (Ri c_Change___init__ (hr.mono (by decide)) rfl (Aa (pv 7) (Aa (jE c_Sun___init___d2 (hr.mono (by decide)) rfl (Aa (Ls Ho Ai) (Aa (GC (Aa Ai Ac)) Ac))) (Aa (BP Eg (Br c__law_cell_at (hr.mono (by decide)) rfl (Aa (pv 0) (Aa Ai Ac))) Ai) Ac)))) mC)) rfl rfl (by simp) (by decide)))
  (Ag (BZ (Px (rM hr.units0) (Br c__law_told (hr.mono (by decide)) rfl (Aa (pv 5) (Aa (pv 8) Ac))) (pv 6) (Bd _)))))))))))))),?_⟩
 walk_at "c"
 generalize ns.getD (Int.toNat 0) 0=c0
 generalize ns.getD (Int.toNat 3) 0=c3
 have g0:=Int.emod_nonneg (c3/4) (show (10000000000000000000000000000000000000000:Int)≠0 by decide)
 have g1:=Int.emod_lt_of_pos (c3/4) (show (0:Int)<10000000000000000000000000000000000000000 by decide)
 have yb: -100000000000000000000000000000000000000000≤c3/4%10^(40:Int).toNat-10^(39:Int).toNat∧c3/4%10^(40:Int).toNat-10^(39:Int).toNat≤100000000000000000000000000000000000000000:=by
  rw[p40,p39]
  omega
 generalize c3/4%10^(40:Int).toNat-10^(39:Int).toNat=y at yb ⊢
 refine Eh (fun σ' H'=>H'=H∧∃k:Int,-100000000000000000000000000000000000000000≤k∧k≤100000000000000000000000000000000000000000∧σ'=[some (.ref a),some (.int (c0%8)),some (.int k),none,none,none,none,none,none]) ?_ ?_
 ·walk_at "c"
  refine Ca (fun _=>?_) (fun _=>?_)
  ·walk_at "c"
   exact⟨rfl,_,by omega,by omega,rfl⟩
  ·walk_at "c"
   exact⟨rfl,y,yb.1,yb.2,rfl⟩
 rintro σ' H0 ⟨rfl,k,k0,k1,rfl⟩
 have w0:=Int.emod_nonneg c0 (show (8:Int)≠0 by decide)
 have w1:=Int.emod_lt_of_pos c0 (show (0:Int)<8 by decide)
 generalize c0%8=w at w0 w1 ⊢
 walk_at "c"
 refine⟨_,rfl,fun z1 p1 q1 l1 D1 H1 s1 t1 u1 L1=>?_⟩
 have hS1:=s1.seq hS
 walk_at "c"
 refine⟨_,rfl,fun z2 p2 q2 l2 D2 H2 s2 t2 u2 L2=>?_⟩
 have hS2:=s2.seq hS1
 walk_at "c"
 refine⟨w,k,p1,q1,p2,q2,z1,z2,l1,l2,D1,D2,rfl,s2 _ _ t1,t2,L1,L2,w0,w1,k0,k1,fun z pl H3 s3 T pd=>?_⟩
 have hS3:=s3.seq hS2
 have s23:=s2.trans s3
 walk_at "c"
 obtain⟨_,_,_,_,ld1⟩:=L1
 obtain⟨_,_,_,_,ld2⟩:=L2
 refine⟨w,k,p1,q1,p2,q2,z1,z2,D1,D2,rfl,s23 _ _ t1,s23 _ _ u1,s3 _ _ t2,s3 _ _ u2,ld1.sz,ld2.sz,(Ik (by omega) (by omega):Bt 200 k).mono (by decide),fun pd' H4 s4 t4=>?_⟩
 have hS4:=s4.seq hS3
 walk_at "c"
 refine Eh (fun σ' H'=>Bo H4 H'∧∃(z':Str) (u:Addr) (D:CP),TOk z'∧TD z' D∧H' u=some (.tup D.row)∧σ'=[some (.ref a),some (.int w),some (.int k),some (.ref p1),some (.ref p2),some (.str z'),some (.ref u),none,none]) ?_ ?_
 ·walk_at "c"
  refine Ca (fun _=>?_) (fun _=>?_)
  ·walk_at "c"
   refine⟨_,_,rfl,rfl,uO (by have:=T.ln;rw[qI,Es];show z.length+1≤_;omega),?_⟩
   walk_at "c"
   refine⟨Dz,fun u hu=>?_⟩
   refine fresh hu fun H5 s5 t5=>?_
   walk_at "c"
   exact⟨s5,_,u,.rule,T.ok',.inl ⟨T.no,rfl⟩,t5,rfl⟩
  ·walk_at "c"
   exact⟨Bo.refl _,z,pd',_,T.ok,.inr ⟨pl,T.rd,pd⟩,t4,rfl⟩
 rintro σ' H5 ⟨s5,z',u,D,tz,td,t5,rfl⟩
 have hS5:=s5.seq hS4
 walk_at "c"
 refine⟨(by show 1≤sizeLine;decide),fun l hl=>?_⟩
 refine fresh hl fun H6 s6 t6=>?_
 walk_at "c"
 refine fun x dx hx hdx ne=>⟨x,dx,l,0,5,rfl,BR,Em hx hdx ne _ _ t6,by omega,by omega,fun H7 k7 S7=>⟨rfl,?_⟩⟩
 have s7:=s6.trans (Jk hx hdx ne k7)
 have hS7:=s7.seq hS5
 walk_at "c"
 unfold pA
 intro d hd
 have hdH:H5 d=none:=s7.free hd
 refine fresh hd fun H8 s8 t8=>?_
 have hS8:=s8.seq hS7
 have S8:=S7.same s8
 unfold Qd
 walk_at "c"
 unfold Qd
 walk_at "c"
 refine⟨(by show 1≤sizeLine;decide),fun l2 hl2=>?_⟩
 refine fresh hl2 fun H9 s9 t9=>?_
 walk_at "c"
 refine fun x2 dx2 hx2 hdx2 ne2=>⟨x2,dx2,l2,-50,5,rfl,BR,Em hx2 hdx2 ne2 _ _ t9,by omega,by omega,fun H10 k10 S10=>⟨rfl,?_⟩⟩
 have s10:=s9.trans (Jk hx2 hdx2 ne2 k10)
 have hS10:=s10.seq hS8
 walk_at "c"
 generalize ns.getD (Int.toNat 4) 0=c4
 have m0:=Int.emod_nonneg c4 (show (1000:Int)≠0 by decide)
 have m1:=Int.emod_lt_of_pos c4 (show (0:Int)<1000 by decide)
 refine fun x3 dx3 hx3 hdx3 ne3=>⟨H10,x3,dx3,x,x2,_,rfl,hx3,hdx3,ne3,rfl,S8.same s10,S10,m0,by omega,fun H11 s11 C11=>⟨rfl,?_⟩⟩
 unfold Qd
 have s8':=s10.trans s11
 refine⟨s8' _ _ t8,[(.inr "sun",.ref x),(.inr "old",.ref x3)],rfl,(by show 2≤15;decide),?_⟩
 have S11:=S8.same s8'
 walk_at "c"
 have dne:∀{y:Addr} {o:HO},H11 y=some o→o≠.dK []→upd H11 d (.dK (KJ [] [(.inr "sun",.ref x),(.inr "old",.ref x3)])) y=some o:=fun{y o} e ho=>by
  rw[Bw (fun z=>by rw[z,s8' _ _ t8] at e;exact ho (Option.some.inj e).symm)]
  exact e
 have dc:Dct BX Ae Am (upd H11 d (.dK (KJ [] [(.inr "sun",.ref x),(.inr "old",.ref x3)]))) d:=by
  refine⟨x,x3,BR,?_,?_⟩
  ·obtain⟨ax,ap,ay,e1,e2,am,aq,e3,e4⟩:=S11
   exact⟨ax,ap,ay,dne e1 (fun z=>nomatch z),dne e2 (fun z=>nomatch z),am,aq,dne e3 (fun z=>nomatch z),dne e4 (fun z=>nomatch z)⟩
  ·obtain⟨ax,fs,e1,e2⟩:=C11
   exact⟨ax,fs,dne e1 (fun z=>nomatch z),e2⟩
 have sH:Bo H5 (upd H11 d (.dK (KJ [] [(.inr "sun",.ref x),(.inr "old",.ref x3)]))):=fun y o e=>by
  rw[Bw (By e hdH)]
  exact s8' _ _ (s8 _ _ (s7 _ _ e))
 generalize upd H11 d (.dK (KJ [] [(.inr "sun",.ref x),(.inr "old",.ref x3)]))=H12 at dc sH ⊢
 refine⟨z',d,D,rfl,tz,td,dc,fun pe H13 s13 t13=>?_⟩
 walk_at "c"
 refine qZ (SqT.of t13) (SqT.of (s13 _ _ (sH _ _ t5))) (UL _) (UL _) ?_
 rw[iC]
 exact q _
end
theorem tW{l:PySem.W.OpenLaw}{w:World}{K:PySem.W.Frag}{h:Heap}{mg:Str→Option Value}{fa f0 f1 f17 f18 f29 f55 f60 f71 f74 f103:Addr}{Aw Af Ad BW Be Al Ah An Az CZ DP Ax Av Ba Ay Bl Bc Ak Aq CJ Bq CN CK Bb Ar Aj Ae Bf BX Am:Addr}(X:K.In h)(G:h.Ns mainGlobals mg)(hfa:mg "law"=some (.ref fa))
 {od0 an0 od1 an1 od17 an17 od18 an18 od29 an29 od55 an55 od60 an60 od71 an71 od74 an74 od103 an103:Option Addr}{sl0 sl1 sl17 sl18 sl29 sl55 sl60 sl71 sl74 sl103:Array (Option Value)}{oc0 kV0 dc0 pm0 cd0 ct0 oc1 kV1 dc1 pm1 cd1 ct1 oc17 kV17 dc17 pm17 cd17 ct17 oc18 kV18 dc18 pm18 cd18 ct18 oc29 kV29 dc29 pm29 cd29 ct29 oc55 kV55 dc55 pm55 cd55 ct55 oc60 kV60 dc60 pm60 cd60 ct60 oc71 kV71 dc71 pm71 cd71 ct71 oc74 kV74 dc74 pm74 cd74 ct74 oc103 kV103 dc103 pm103 cd103 ct103:Value}{tk_LONGEST:Tok}{tk_PIECE:Tok}{tk_GREATEST_N:Tok}{tk_GREATEST_BASE:Tok}{tk_MOST_TERMS:Tok}{tk_MOST_MONTHS:Tok}{tk_LONGEST_MONTH:Tok}{tk_MOST_LETTERS:Tok}{tk_LETTERS:Tok}{tk_MOST_SIGNS:Tok}{tk_MOST_FIGURES:Tok}{tk_FIGURES:Tok}{tk_MOST_BRACKETS:Tok}{ta_PAIR_WORDS:Addr}{to_PAIR_WORDS:Option Addr}{tn_PAIR_WORDS:Nat}{tl_PAIR_WORDS:Array (Option Value)}{tk_PAIR_WORDS_0 tk_PAIR_WORDS_1 tk_PAIR_WORDS_2 tk_PAIR_WORDS_3 tk_PAIR_WORDS_4 tk_PAIR_WORDS_5 tk_PAIR_WORDS_6 tk_PAIR_WORDS_7:Tok}
 {T29:Addr}{to29:Value}{td29:Option Addr}{tn29:Nat}{ts29:Array (Option Value)}
 {T55:Addr}{to55:Value}{td55:Option Addr}{tn55:Nat}{ts55:Array (Option Value)}
 {T60:Addr}{to60:Value}{td60:Option Addr}{tn60:Nat}{ts60:Array (Option Value)}{tkd_Sun___init___0:Tok}
 {T71:Addr}{to71:Value}{td71:Option Addr}{tn71:Nat}{ts71:Array (Option Value)}{tkd_dated_2:Tok}{tkd_dated_3:Tok}
 {T74:Addr}{to74:Value}{td74:Option Addr}{tn74:Nat}{ts74:Array (Option Value)}{tkd_Dated___init___2:Tok}{tkd_Dated___init___3:Tok}
 {dd_NoName:Option Addr}{cd_NoName:ClassData}{q0_NoName q1_NoName q2_NoName q3_NoName q5_NoName:Option Value}
 {dd_TooLong:Option Addr}{cd_TooLong:ClassData}{q0_TooLong q1_TooLong q2_TooLong q3_TooLong q5_TooLong:Option Value}
 (n_FeastError:PySem.W.nsIn K mainGlobals "FeastError"=some (some (.ref Aw)))
 (n_NoNumber:PySem.W.nsIn K mainGlobals "NoNumber"=some (some (.ref Af)))
 (t_NoNumber:PySem.W.typeIn K (.ref Af)=some (.type "type"))
 (k_NoNumber:PySem.W.hasDictIn K Af=true)
 (b_NoNumber:PySem.W.mroIn K Af (.type "BaseException")=some true)
 (n_TooLong:PySem.W.nsIn K mainGlobals "TooLong"=some (some (.ref Ad)))
 (t_TooLong:PySem.W.typeIn K (.ref Ad)=some (.type "type"))
 (k_TooLong:PySem.W.hasDictIn K Ad=true)
 (b_TooLong:PySem.W.mroIn K Ad (.type "BaseException")=some true)
 (n_NoMeasure:PySem.W.nsIn K mainGlobals "NoMeasure"=some (some (.ref BW)))
 (n_NoChange:PySem.W.nsIn K mainGlobals "NoChange"=some (some (.ref Be)))
 (n_NoCycle:PySem.W.nsIn K mainGlobals "NoCycle"=some (some (.ref Al)))
 (t_NoCycle:PySem.W.typeIn K (.ref Al)=some (.type "type"))
 (k_NoCycle:PySem.W.hasDictIn K Al=true)
 (b_NoCycle:PySem.W.mroIn K Al (.type "BaseException")=some true)
 (n_NoRule:PySem.W.nsIn K mainGlobals "NoRule"=some (some (.ref Ah)))
 (t_NoRule:PySem.W.typeIn K (.ref Ah)=some (.type "type"))
 (k_NoRule:PySem.W.hasDictIn K Ah=true)
 (b_NoRule:PySem.W.mroIn K Ah (.type "BaseException")=some true)
 (n_NoName:PySem.W.nsIn K mainGlobals "NoName"=some (some (.ref An)))
 (t_NoName:PySem.W.typeIn K (.ref An)=some (.type "type"))
 (k_NoName:PySem.W.hasDictIn K An=true)
 (b_NoName:PySem.W.mroIn K An (.type "BaseException")=some true)
 (e_NoRule:PySem.W.excIn K Ah bmV "ValueError.__new__"=true)
 (r_NoRule_NoRule:PySem.W.mroIn K Ah (.ref Ah)=some true)
 (o_NoName:K.lookup An=some ⟨.type "type",dd_NoName,.cls cd_NoName,#[q0_NoName,q1_NoName,q2_NoName,q3_NoName,some (.builtin "ValueError.__new__"),q5_NoName]⟩)
 (om_NoName:cd_NoName.mro=.ref An::.ref Aw::bmV)
 (od_NoName:cd_NoName.hasDel=false)
 (oh_NoName:cd_NoName.hasDict=true)
 (sa_NoName:PySem.W.findIn K (.ref An) "__setattr__"=some (some (.builtin "object.__setattr__")))
 (kp_NoName:PySem.W.keepIn K (.ref An)=true)
 (e_FeastError:PySem.W.excIn K Aw bmV "ValueError.__new__"=true)
 (fs_FeastError:PySem.W.specialIn K (.ref Aw) "__getattribute__"=some (some (.builtin "type.__getattribute__")))
 (fr_FeastError:PySem.W.readsIn K Aw (.type "type")=true)
 (ff_FeastError:PySem.W.findCls K (.ref Aw) (.type "type") "__init__"=some (.val (.builtin "ValueError.__init__")))
 (na_NoName_name:PySem.W.findIn K (.ref An) "name"=some none)
 (ga_NoName:PySem.W.findIn K (.ref An) "__getattribute__"=some (some (.builtin "BaseException.__getattribute__")))
 (gk_NoName:PySem.W.findIn K (.ref An) "__getattr__"=some none)
 (ob_NoName:PySem.W.mroIn K An (.type "object")=some true)
 (ca_NoName:PySem.W.findIn K (.ref An) "__class__"=some (some (.builtin "object.__class__")))
 (r_NoName_NoRule:PySem.W.mroIn K An (.ref Ah)=some false)
 (r_NoName_NoName:PySem.W.mroIn K An (.ref An)=some true)
 (e_NoNumber:PySem.W.excIn K Af bmV "ValueError.__new__"=true)
 (r_NoNumber_NoNumber:PySem.W.mroIn K Af (.ref Af)=some true)
 (r_NoNumber_NoRule:PySem.W.mroIn K Af (.ref Ah)=some false)
 (r_NoNumber_NoName:PySem.W.mroIn K Af (.ref An)=some false)
 (o_TooLong:K.lookup Ad=some ⟨.type "type",dd_TooLong,.cls cd_TooLong,#[q0_TooLong,q1_TooLong,q2_TooLong,q3_TooLong,some (.builtin "ValueError.__new__"),q5_TooLong]⟩)
 (om_TooLong:cd_TooLong.mro=.ref Ad::.ref Aw::bmV)
 (od_TooLong:cd_TooLong.hasDel=false)
 (oh_TooLong:cd_TooLong.hasDict=true)
 (sa_TooLong:PySem.W.findIn K (.ref Ad) "__setattr__"=some (some (.builtin "object.__setattr__")))
 (kp_TooLong:PySem.W.keepIn K (.ref Ad)=true)
 (na_TooLong_needed:PySem.W.findIn K (.ref Ad) "needed"=some none)
 (ga_TooLong:PySem.W.findIn K (.ref Ad) "__getattribute__"=some (some (.builtin "BaseException.__getattribute__")))
 (gk_TooLong:PySem.W.findIn K (.ref Ad) "__getattr__"=some none)
 (ob_TooLong:PySem.W.mroIn K Ad (.type "object")=some true)
 (ca_TooLong:PySem.W.findIn K (.ref Ad) "__class__"=some (some (.builtin "object.__class__")))
 (r_TooLong_NoNumber:PySem.W.mroIn K Ad (.ref Af)=some false)
 (r_TooLong_TooLong:PySem.W.mroIn K Ad (.ref Ad)=some true)
 (r_TooLong_NoCycle:PySem.W.mroIn K Ad (.ref Al)=some false)
 (r_TooLong_NoRule:PySem.W.mroIn K Ad (.ref Ah)=some false)
 (r_TooLong_NoName:PySem.W.mroIn K Ad (.ref An)=some false)
 (e_NoCycle:PySem.W.excIn K Al bmV "ValueError.__new__"=true)
 (r_NoCycle_NoNumber:PySem.W.mroIn K Al (.ref Af)=some false)
 (r_NoCycle_NoCycle:PySem.W.mroIn K Al (.ref Al)=some true)
 (r_NoCycle_NoRule:PySem.W.mroIn K Al (.ref Ah)=some false)
 (r_NoCycle_NoName:PySem.W.mroIn K Al (.ref An)=some false)
 (n_Measure:PySem.W.nsIn K mainGlobals "Measure"=some (some (.ref Ae)))
 (pg_Measure:PySem.W.plainGet K Ae Str.empty=true)
 (k_Measure:PySem.W.hasDictIn K Ae=true)
 (po_Measure:PySem.W.plainOver K Ae=true)
 (sa_Measure:PySem.W.findIn K (.ref Ae) "__setattr__"=some (some (.builtin "object.__setattr__")))
 (mk_Measure:PySem.W.makesIn K Ae=true)
 (kp_Measure:PySem.W.keepIn K (.ref Ae)=true)
 (na_Measure_base:PySem.W.findIn K (.ref Ae) "base"=some none)
 (na_Measure_terms:PySem.W.findIn K (.ref Ae) "terms"=some none)
 (na_Measure_full_count:PySem.W.findIn K (.ref Ae) "full_count"=some none)
 (na_Measure_full_sum:PySem.W.findIn K (.ref Ae) "full_sum"=some none)
 (n_Sun:PySem.W.nsIn K mainGlobals "Sun"=some (some (.ref BX)))
 (pg_Sun:PySem.W.plainGet K BX Str.empty=true)
 (k_Sun:PySem.W.hasDictIn K BX=true)
 (po_Sun:PySem.W.plainOver K BX=true)
 (sa_Sun:PySem.W.findIn K (.ref BX) "__setattr__"=some (some (.builtin "object.__setattr__")))
 (mk_Sun:PySem.W.makesIn K BX=true)
 (kp_Sun:PySem.W.keepIn K (.ref BX)=true)
 (na_Sun_start:PySem.W.findIn K (.ref BX) "start"=some none)
 (na_Sun_months:PySem.W.findIn K (.ref BX) "months"=some none)
 (na_Sun_leap:PySem.W.findIn K (.ref BX) "leap"=some none)
 (na_Sun_years:PySem.W.findIn K (.ref BX) "years"=some none)
 (n_Change:PySem.W.nsIn K mainGlobals "Change"=some (some (.ref Am)))
 (pg_Change:PySem.W.plainGet K Am Str.empty=true)
 (k_Change:PySem.W.hasDictIn K Am=true)
 (po_Change:PySem.W.plainOver K Am=true)
 (sa_Change:PySem.W.findIn K (.ref Am) "__setattr__"=some (some (.builtin "object.__setattr__")))
 (mk_Change:PySem.W.makesIn K Am=true)
 (kp_Change:PySem.W.keepIn K (.ref Am)=true)
 (na_Change_old:PySem.W.findIn K (.ref Am) "old"=some none)
 (na_Change_new:PySem.W.findIn K (.ref Am) "new"=some none)
 (na_Change_day:PySem.W.findIn K (.ref Am) "day"=some none)
 (na_Change_last_old:PySem.W.findIn K (.ref Am) "last_old"=some none)
 (na_Change_first_new:PySem.W.findIn K (.ref Am) "first_new"=some none)
 (n_Calendar:PySem.W.nsIn K mainGlobals "Calendar"=some (some (.ref Bf)))
 (n_Rule:PySem.W.nsIn K mainGlobals "Rule"=some (some (.ref Az)))
 (n_Reader:PySem.W.nsIn K mainGlobals "Reader"=some (some (.ref Aj)))
 (pg_Reader:PySem.W.plainGet K Aj Str.empty=true)
 (k_Reader:PySem.W.hasDictIn K Aj=true)
 (po_Reader:PySem.W.plainOver K Aj=true)
 (sa_Reader:PySem.W.findIn K (.ref Aj) "__setattr__"=some (some (.builtin "object.__setattr__")))
 (mk_Reader:PySem.W.makesIn K Aj=true)
 (kp_Reader:PySem.W.keepIn K (.ref Aj)=true)
 (na_Reader_words:PySem.W.findIn K (.ref Aj) "words"=some none)
 (na_Reader_place:PySem.W.findIn K (.ref Aj) "place"=some none)
 (n_Each:PySem.W.nsIn K mainGlobals "Each"=some (some (.ref Ax)))
 (pg_Each:PySem.W.plainGet K Ax Str.empty=true)
 (k_Each:PySem.W.hasDictIn K Ax=true)
 (po_Each:PySem.W.plainOver K Ax=true)
 (sa_Each:PySem.W.findIn K (.ref Ax) "__setattr__"=some (some (.builtin "object.__setattr__")))
 (mk_Each:PySem.W.makesIn K Ax=true)
 (kp_Each:PySem.W.keepIn K (.ref Ax)=true)
 (na_Each_kept:PySem.W.findIn K (.ref Ax) "kept"=some none)
 (na_Each_made_of:PySem.W.findIn K (.ref Ax) "made_of"=some none)
 (na_Each_words:PySem.W.findIn K (.ref Ax) "words"=some none)
 (ca_Each:PySem.W.findIn K (.ref Ax) "__class__"=some (some (.builtin "object.__class__")))
 (ob_Each:PySem.W.mroIn K Ax (.type "object")=some true)
 (i_Each_Rule:PySem.W.kitOne K (.ref Ax) (.ref Az)=some true)
 (n_Dated:PySem.W.nsIn K mainGlobals "Dated"=some (some (.ref Av)))
 (pg_Dated:PySem.W.plainGet K Av Str.empty=true)
 (k_Dated:PySem.W.hasDictIn K Av=true)
 (po_Dated:PySem.W.plainOver K Av=true)
 (sa_Dated:PySem.W.findIn K (.ref Av) "__setattr__"=some (some (.builtin "object.__setattr__")))
 (mk_Dated:PySem.W.makesIn K Av=true)
 (kp_Dated:PySem.W.keepIn K (.ref Av)=true)
 (na_Dated_kept:PySem.W.findIn K (.ref Av) "kept"=some none)
 (na_Dated_made_of:PySem.W.findIn K (.ref Av) "made_of"=some none)
 (na_Dated_words:PySem.W.findIn K (.ref Av) "words"=some none)
 (ca_Dated:PySem.W.findIn K (.ref Av) "__class__"=some (some (.builtin "object.__class__")))
 (ob_Dated:PySem.W.mroIn K Av (.type "object")=some true)
 (i_Dated_Rule:PySem.W.kitOne K (.ref Av) (.ref Az)=some true)
 (n_Not:PySem.W.nsIn K mainGlobals "Not"=some (some (.ref Ba)))
 (pg_Not:PySem.W.plainGet K Ba Str.empty=true)
 (k_Not:PySem.W.hasDictIn K Ba=true)
 (po_Not:PySem.W.plainOver K Ba=true)
 (sa_Not:PySem.W.findIn K (.ref Ba) "__setattr__"=some (some (.builtin "object.__setattr__")))
 (mk_Not:PySem.W.makesIn K Ba=true)
 (kp_Not:PySem.W.keepIn K (.ref Ba)=true)
 (na_Not_kept:PySem.W.findIn K (.ref Ba) "kept"=some none)
 (na_Not_made_of:PySem.W.findIn K (.ref Ba) "made_of"=some none)
 (na_Not_words:PySem.W.findIn K (.ref Ba) "words"=some none)
 (ca_Not:PySem.W.findIn K (.ref Ba) "__class__"=some (some (.builtin "object.__class__")))
 (ob_Not:PySem.W.mroIn K Ba (.type "object")=some true)
 (i_Not_Rule:PySem.W.kitOne K (.ref Ba) (.ref Az)=some true)
 (n_Both:PySem.W.nsIn K mainGlobals "Both"=some (some (.ref Ay)))
 (pg_Both:PySem.W.plainGet K Ay Str.empty=true)
 (k_Both:PySem.W.hasDictIn K Ay=true)
 (po_Both:PySem.W.plainOver K Ay=true)
 (sa_Both:PySem.W.findIn K (.ref Ay) "__setattr__"=some (some (.builtin "object.__setattr__")))
 (mk_Both:PySem.W.makesIn K Ay=true)
 (kp_Both:PySem.W.keepIn K (.ref Ay)=true)
 (na_Both_kept:PySem.W.findIn K (.ref Ay) "kept"=some none)
 (na_Both_made_of:PySem.W.findIn K (.ref Ay) "made_of"=some none)
 (na_Both_words:PySem.W.findIn K (.ref Ay) "words"=some none)
 (ca_Both:PySem.W.findIn K (.ref Ay) "__class__"=some (some (.builtin "object.__class__")))
 (ob_Both:PySem.W.mroIn K Ay (.type "object")=some true)
 (i_Both_Rule:PySem.W.kitOne K (.ref Ay) (.ref Az)=some true)
 (n_But:PySem.W.nsIn K mainGlobals "But"=some (some (.ref Bc)))
 (pg_But:PySem.W.plainGet K Bc Str.empty=true)
 (k_But:PySem.W.hasDictIn K Bc=true)
 (po_But:PySem.W.plainOver K Bc=true)
 (sa_But:PySem.W.findIn K (.ref Bc) "__setattr__"=some (some (.builtin "object.__setattr__")))
 (mk_But:PySem.W.makesIn K Bc=true)
 (kp_But:PySem.W.keepIn K (.ref Bc)=true)
 (na_But_kept:PySem.W.findIn K (.ref Bc) "kept"=some none)
 (na_But_made_of:PySem.W.findIn K (.ref Bc) "made_of"=some none)
 (na_But_words:PySem.W.findIn K (.ref Bc) "words"=some none)
 (ca_But:PySem.W.findIn K (.ref Bc) "__class__"=some (some (.builtin "object.__class__")))
 (ob_But:PySem.W.mroIn K Bc (.type "object")=some true)
 (i_But_Rule:PySem.W.kitOne K (.ref Bc) (.ref Az)=some true)
 (n_Unlike:PySem.W.nsIn K mainGlobals "Unlike"=some (some (.ref Ak)))
 (pg_Unlike:PySem.W.plainGet K Ak Str.empty=true)
 (k_Unlike:PySem.W.hasDictIn K Ak=true)
 (po_Unlike:PySem.W.plainOver K Ak=true)
 (sa_Unlike:PySem.W.findIn K (.ref Ak) "__setattr__"=some (some (.builtin "object.__setattr__")))
 (mk_Unlike:PySem.W.makesIn K Ak=true)
 (kp_Unlike:PySem.W.keepIn K (.ref Ak)=true)
 (na_Unlike_kept:PySem.W.findIn K (.ref Ak) "kept"=some none)
 (na_Unlike_made_of:PySem.W.findIn K (.ref Ak) "made_of"=some none)
 (na_Unlike_words:PySem.W.findIn K (.ref Ak) "words"=some none)
 (ca_Unlike:PySem.W.findIn K (.ref Ak) "__class__"=some (some (.builtin "object.__class__")))
 (ob_Unlike:PySem.W.mroIn K Ak (.type "object")=some true)
 (i_Unlike_Rule:PySem.W.kitOne K (.ref Ak) (.ref Az)=some true)
 (n_Later:PySem.W.nsIn K mainGlobals "Later"=some (some (.ref Aq)))
 (pg_Later:PySem.W.plainGet K Aq Str.empty=true)
 (k_Later:PySem.W.hasDictIn K Aq=true)
 (po_Later:PySem.W.plainOver K Aq=true)
 (sa_Later:PySem.W.findIn K (.ref Aq) "__setattr__"=some (some (.builtin "object.__setattr__")))
 (mk_Later:PySem.W.makesIn K Aq=true)
 (kp_Later:PySem.W.keepIn K (.ref Aq)=true)
 (na_Later_kept:PySem.W.findIn K (.ref Aq) "kept"=some none)
 (na_Later_made_of:PySem.W.findIn K (.ref Aq) "made_of"=some none)
 (na_Later_words:PySem.W.findIn K (.ref Aq) "words"=some none)
 (ca_Later:PySem.W.findIn K (.ref Aq) "__class__"=some (some (.builtin "object.__class__")))
 (ob_Later:PySem.W.mroIn K Aq (.type "object")=some true)
 (i_Later_Rule:PySem.W.kitOne K (.ref Aq) (.ref Az)=some true)
 (n_Kth:PySem.W.nsIn K mainGlobals "Kth"=some (some (.ref Bb)))
 (pg_Kth:PySem.W.plainGet K Bb Str.empty=true)
 (k_Kth:PySem.W.hasDictIn K Bb=true)
 (po_Kth:PySem.W.plainOver K Bb=true)
 (sa_Kth:PySem.W.findIn K (.ref Bb) "__setattr__"=some (some (.builtin "object.__setattr__")))
 (mk_Kth:PySem.W.makesIn K Bb=true)
 (kp_Kth:PySem.W.keepIn K (.ref Bb)=true)
 (na_Kth_kept:PySem.W.findIn K (.ref Bb) "kept"=some none)
 (na_Kth_made_of:PySem.W.findIn K (.ref Bb) "made_of"=some none)
 (na_Kth_words:PySem.W.findIn K (.ref Bb) "words"=some none)
 (ca_Kth:PySem.W.findIn K (.ref Bb) "__class__"=some (some (.builtin "object.__class__")))
 (ob_Kth:PySem.W.mroIn K Bb (.type "object")=some true)
 (i_Kth_Rule:PySem.W.kitOne K (.ref Bb) (.ref Az)=some true)
 (n_Every:PySem.W.nsIn K mainGlobals "Every"=some (some (.ref Ar)))
 (pg_Every:PySem.W.plainGet K Ar Str.empty=true)
 (k_Every:PySem.W.hasDictIn K Ar=true)
 (po_Every:PySem.W.plainOver K Ar=true)
 (sa_Every:PySem.W.findIn K (.ref Ar) "__setattr__"=some (some (.builtin "object.__setattr__")))
 (mk_Every:PySem.W.makesIn K Ar=true)
 (kp_Every:PySem.W.keepIn K (.ref Ar)=true)
 (na_Every_kept:PySem.W.findIn K (.ref Ar) "kept"=some none)
 (na_Every_made_of:PySem.W.findIn K (.ref Ar) "made_of"=some none)
 (na_Every_words:PySem.W.findIn K (.ref Ar) "words"=some none)
 (ca_Every:PySem.W.findIn K (.ref Ar) "__class__"=some (some (.builtin "object.__class__")))
 (ob_Every:PySem.W.mroIn K Ar (.type "object")=some true)
 (i_Every_Rule:PySem.W.kitOne K (.ref Ar) (.ref Az)=some true)
 (bsp_Rule:PySem.W.specialIn K (.ref Az) "__getattribute__"=some (some (.builtin "type.__getattribute__")))
 (brd_Rule:PySem.W.readsIn K Az (.type "type")=true)
 (xsp:PySem.W.specialIn K (.builtin "object.__class__") "__get__"=some (some (.builtin "getset_descriptor.__get__")))
 (xtk:PySem.W.takesIn K (.builtin "object.__class__")=some true)
 (n_All:PySem.W.nsIn K mainGlobals "All"=some (some (.ref CZ)))
 (mk_All:PySem.W.makesIn K CZ=true)
 (kp_All:PySem.W.keepIn K (.ref CZ)=true)
 (n_No:PySem.W.nsIn K mainGlobals "No"=some (some (.ref DP)))
 (mk_No:PySem.W.makesIn K DP=true)
 (kp_No:PySem.W.keepIn K (.ref DP)=true)
 (n_Either:PySem.W.nsIn K mainGlobals "Either"=some (some (.ref Bl)))
 (mk_Either:PySem.W.makesIn K Bl=true)
 (kp_Either:PySem.W.keepIn K (.ref Bl)=true)
 (n_Upon:PySem.W.nsIn K mainGlobals "Upon"=some (some (.ref CJ)))
 (mk_Upon:PySem.W.makesIn K CJ=true)
 (kp_Upon:PySem.W.keepIn K (.ref CJ)=true)
 (n_Until:PySem.W.nsIn K mainGlobals "Until"=some (some (.ref Bq)))
 (mk_Until:PySem.W.makesIn K Bq=true)
 (kp_Until:PySem.W.keepIn K (.ref Bq)=true)
 (n_Near:PySem.W.nsIn K mainGlobals "Near"=some (some (.ref CN)))
 (mk_Near:PySem.W.makesIn K CN=true)
 (kp_Near:PySem.W.keepIn K (.ref CN)=true)
 (n_Till:PySem.W.nsIn K mainGlobals "Till"=some (some (.ref CK)))
 (mk_Till:PySem.W.makesIn K CK=true)
 (kp_Till:PySem.W.keepIn K (.ref CK)=true)
 (a0:PySem.W.findIn K (.ref Ad) "__init__"=some (some (.ref f0)))(l0:K.lookup f0=some ⟨oc0,od0,.func (PySem.W.fnOf "__init__" "TooLong.__init__" (DW Dh) (Cu Dh) (Ao Dh) .none kV0 dc0 pm0 an0 cd0 ct0),sl0⟩)(c0:PySem.W.codeIn K cd0 "TooLong.__init__"=true)(k0:PySem.W.keepIn K (.ref f0)=true)
 (u0:PySem.W.typeIn K (.ref f0)=some (.type "function"))
 (a1:PySem.W.findIn K (.ref An) "__init__"=some (some (.ref f1)))(l1:K.lookup f1=some ⟨oc1,od1,.func (PySem.W.fnOf "__init__" "NoName.__init__" (DW Ds) (Cu Ds) (Ao Ds) .none kV1 dc1 pm1 an1 cd1 ct1),sl1⟩)(c1:PySem.W.codeIn K cd1 "NoName.__init__"=true)(k1:PySem.W.keepIn K (.ref f1)=true)
 (u1:PySem.W.typeIn K (.ref f1)=some (.type "function"))
 (q2:FnG K "refuse_below_one" "refuse_below_one" "refuse_below_one" GP)
 (q3:FnG K "refuse_too_long" "refuse_too_long" "refuse_too_long" Gg)
 (q4:FnG K "equation" "equation" "equation" N7)
 (q5:FnG K "divisor" "divisor" "divisor" Q0)
 (q6:FnG K "common" "common" "common" UG)
 (q7:FnG K "round_by" "round_by" "round_by" Nu)
 (q8:FnG K "full_bits" "full_bits" "full_bits" Li)
 (q9:FnG K "days_in" "days_in" "days_in" Q3)
 (q10:FnG K "bits_by" "bits_by" "bits_by" Q4)
 (q11:FnG K "stretched" "stretched" "stretched" La)
 (q12:FnG K "common_size" "common_size" "common_size" JQ)
 (q13:FnG K "ones_in" "ones_in" "ones_in" Qx)
 (q14:FnG K "days_ahead" "days_ahead" "days_ahead" J5)
 (q15:FnG K "how_many" "how_many" "how_many" N5)
 (q16:FnG K "both" "both" "both" Z2)
 (a17:PySem.W.nsIn K mainGlobals "either"=some (some (.ref f17)))(l17:K.lookup f17=some ⟨oc17,od17,.func (PySem.W.fnOf "either" "either" (DW Jh) (Cu Jh) (Ao Jh) .none kV17 dc17 pm17 an17 cd17 ct17),sl17⟩)(c17:PySem.W.codeIn K cd17 "either"=true)(k17:PySem.W.keepIn K (.ref f17)=true)
 (a18:PySem.W.nsIn K mainGlobals "unlike"=some (some (.ref f18)))(l18:K.lookup f18=some ⟨oc18,od18,.func (PySem.W.fnOf "unlike" "unlike" (DW Jg) (Cu Jg) (Ao Jg) .none kV18 dc18 pm18 an18 cd18 ct18),sl18⟩)(c18:PySem.W.codeIn K cd18 "unlike"=true)(k18:PySem.W.keepIn K (.ref f18)=true)
 (q19:FnG K "unlike" "unlike" "unlike" K8)
 (q20:FnG K "other_days" "other_days" "other_days" J4)
 (q21:FnG K "without" "without" "without" Qv)
 (q22:FnG K "without" "without" "without" J1)
 (q23:FnG K "later" "later" "later" W6)
 (q24:FnG K "gathered" "gathered" "gathered" N6)
 (q25:FnG K "upon" "upon" "upon" Z0)
 (q26:FnG K "until" "until" "until" W5)
 (q27:FnG K "kth" "kth" "kth" iB)
 (q28:FnG K "every" "every" "every" W7)
 (a29:PySem.W.findIn K (.ref Az) "__init__"=some (some (.ref f29)))(l29:K.lookup f29=some ⟨oc29,od29,.func (PySem.W.fnOf "__init__" "Rule.__init__" (DW Ek) (Cu Ek) (Ao Ek) (.ref T29) kV29 dc29 pm29 an29 cd29 ct29),sl29⟩)(c29:PySem.W.codeIn K cd29 "Rule.__init__"=true)(k29:PySem.W.keepIn K (.ref f29)=true)
 (t29:K.lookup T29=some ⟨to29,td29,.seq #[.none,.none,.none] tn29,ts29⟩)
 (bfc29:PySem.W.findCls K (.ref Az) (.type "type") "__init__"=some (.val (.ref f29)))
 (q30_0:FnM K Ax "turn" "turn" "Rule.turn" Dm)
 (q30_1:FnM K Av "turn" "turn" "Rule.turn" Dm)
 (q30_2:FnM K Ba "turn" "turn" "Rule.turn" Dm)
 (q30_3:FnM K Ay "turn" "turn" "Rule.turn" Dm)
 (q30_4:FnM K Bc "turn" "turn" "Rule.turn" Dm)
 (q30_5:FnM K Ak "turn" "turn" "Rule.turn" Dm)
 (q30_6:FnM K Aq "turn" "turn" "Rule.turn" Dm)
 (q30_7:FnM K Bb "turn" "turn" "Rule.turn" Dm)
 (q30_8:FnM K Ar "turn" "turn" "Rule.turn" Dm)
 (q31_0:FnM K Ax "size" "size" "Rule.size" Do)
 (q31_1:FnM K Av "size" "size" "Rule.size" Do)
 (q31_2:FnM K Ba "size" "size" "Rule.size" Do)
 (q31_3:FnM K Ay "size" "size" "Rule.size" Do)
 (q31_4:FnM K Bc "size" "size" "Rule.size" Do)
 (q31_5:FnM K Ak "size" "size" "Rule.size" Do)
 (q31_6:FnM K Aq "size" "size" "Rule.size" Do)
 (q31_7:FnM K Bb "size" "size" "Rule.size" Do)
 (q31_8:FnM K Ar "size" "size" "Rule.size" Do)
 (q32:FnG K "each_text" "each_text" "each_text" Lj)
 (q33:FnM K Ax "__init__" "__init__" "Each.__init__" Ha)
 (q34:FnM K Ay "__init__" "__init__" "Both.__init__" Hb)
 (q35:FnM K Bc "__init__" "__init__" "But.__init__" IW)
 (q36:FnM K Ak "__init__" "__init__" "Unlike.__init__" Gh)
 (q37:FnM K Ba "__init__" "__init__" "Not.__init__" Hx)
 (q38:FnM K Aq "__init__" "__init__" "Later.__init__" G5)
 (q39:FnM K Bb "__init__" "__init__" "Kth.__init__" IK)
 (q40:FnM K Ar "__init__" "__init__" "Every.__init__" G6)
 (q41:FnM K CZ "__init__" "__init__" "All.__init__" Ln)
 (q42:FnM K DP "__init__" "__init__" "No.__init__" NQ)
 (q43:FnM K Bl "__init__" "__init__" "Either.__init__" Iu)
 (q44:FnM K CJ "__init__" "__init__" "Upon.__init__" Kl)
 (q45:FnM K Bq "__init__" "__init__" "Until.__init__" Ji)
 (q46:FnM K CN "__init__" "__init__" "Near.__init__" Ko)
 (q47:FnM K CK "__init__" "__init__" "Till.__init__" Km)
 (q48:FnG K "term_on" "term_on" "term_on" Qw)
 (q49:FnG K "signs_upto" "signs_upto" "signs_upto" J3)
 (q50:FnG K "is_term" "is_term" "is_term" Qy)
 (q51:FnG K "least_length" "least_length" "least_length" Hv)
 (q52:FnG K "refuse_measure" "refuse_measure" "refuse_measure" Gz)
 (q53:FnG K "period_of" "period_of" "period_of" Ld)
 (q54:FnM K Ae "upto" "upto" "Measure.upto" Hy)
 (a55:PySem.W.findIn K (.ref Ae) "__init__"=some (some (.ref f55)))(l55:K.lookup f55=some ⟨oc55,od55,.func (PySem.W.fnOf "__init__" "Measure.__init__" (DW Di) (Cu Di) (Ao Di) (.ref T55) kV55 dc55 pm55 an55 cd55 ct55),sl55⟩)(c55:PySem.W.codeIn K cd55 "Measure.__init__"=true)(k55:PySem.W.keepIn K (.ref f55)=true)
 (t55:K.lookup T55=some ⟨to55,td55,.seq #[.none] tn55,ts55⟩)
 (u55:PySem.W.typeIn K (.ref f55)=some (.type "function"))
 (q56:FnM K Ae "at" "at" "Measure.at" J7)
 (q57:FnM K Ae "period" "period" "Measure.period" G4)
 (q58:FnM K Ae "seek" "seek" "Measure.seek" Hz)
 (q59:FnG K "refuse_months" "refuse_months" "refuse_months" HW)
 (a60:PySem.W.findIn K (.ref BX) "__init__"=some (some (.ref f60)))(l60:K.lookup f60=some ⟨oc60,od60,.func (PySem.W.fnOf "__init__" "Sun.__init__" (DW Ey) (Cu Ey) (Ao Ey) (.ref T60) kV60 dc60 pm60 an60 cd60 ct60),sl60⟩)(c60:PySem.W.codeIn K cd60 "Sun.__init__"=true)(k60:PySem.W.keepIn K (.ref f60)=true)
 (t60:K.lookup T60=some ⟨to60,td60,.seq #[(.int 1 tkd_Sun___init___0),.none] tn60,ts60⟩)
 (u60:PySem.W.typeIn K (.ref f60)=some (.type "function"))
 (q61:FnM K BX "year_start" "year_start" "Sun.year_start" G3)
 (q62:FnM K BX "year_at" "year_at" "Sun.year_at" JR)
 (q63:FnM K BX "lengths" "lengths" "Sun.lengths" JS)
 (q64:FnM K BX "cycle" "cycle" "Sun.cycle" Lk)
 (q65:FnM K BX "date_of" "date_of" "Calendar.date_of" JT)
 (q66:FnM K Am "__init__" "__init__" "Change.__init__" Gj)
 (q67:FnM K Am "cycle" "cycle" "Change.cycle" IV)
 (q68:FnG K "refuse_wanted" "refuse_wanted" "refuse_wanted" HS)
 (q69:FnG K "days_of_month" "days_of_month" "days_of_month" HY)
 (q70:FnG K "days_of_year" "days_of_year" "days_of_year" Hw)
 (a71:PySem.W.nsIn K mainGlobals "dated"=some (some (.ref f71)))(l71:K.lookup f71=some ⟨oc71,od71,.func (PySem.W.fnOf "dated" "dated" (DW Mm) (Cu Mm) (Ao Mm) (.ref T71) kV71 dc71 pm71 an71 cd71 ct71),sl71⟩)(c71:PySem.W.codeIn K cd71 "dated"=true)(k71:PySem.W.keepIn K (.ref f71)=true)
 (t71:K.lookup T71=some ⟨to71,td71,.seq #[.none,.none,(.int 1 tkd_dated_2),(.int 0 tkd_dated_3)] tn71,ts71⟩)
 (q72:FnG K "wanted_text" "wanted_text" "wanted_text" JG)
 (q73:FnG K "dated_text" "dated_text" "dated_text" J6)
 (a74:PySem.W.findIn K (.ref Av) "__init__"=some (some (.ref f74)))(l74:K.lookup f74=some ⟨oc74,od74,.func (PySem.W.fnOf "__init__" "Dated.__init__" (DW EY) (Cu EY) (Ao EY) (.ref T74) kV74 dc74 pm74 an74 cd74 ct74),sl74⟩)(c74:PySem.W.codeIn K cd74 "Dated.__init__"=true)(k74:PySem.W.keepIn K (.ref f74)=true)
 (t74:K.lookup T74=some ⟨to74,td74,.seq #[.none,.none,(.int 1 tkd_Dated___init___2),(.int 0 tkd_Dated___init___3)] tn74,ts74⟩)
 (u74:PySem.W.typeIn K (.ref f74)=some (.type "function"))
 (q75:FnM K Aj "__init__" "__init__" "Reader.__init__" Gi)
 (q76:FnM K Aj "peek" "peek" "Reader.peek" JW)
 (q77:FnM K Aj "take" "take" "Reader.take" JV)
 (q78:FnG K "is_name" "is_name" "is_name" Qz)
 (q79:FnG K "is_readable" "is_readable" "is_readable" JP)
 (q80:FnG K "is_number" "is_number" "is_number" Lh)
 (q81:FnG K "take_word" "take_word" "take_word" K9)
 (q82:FnG K "take_number" "take_number" "take_number" JL)
 (q83:FnG K "take_wanted" "take_wanted" "take_wanted" JK)
 (q84:FnG K "take_each" "take_each" "take_each" LQ)
 (q85:FnG K "take_date" "take_date" "take_date" LR)
 (q86:FnG K "words_of" "words_of" "words_of" Nt)
 (q87:FnG K "take_numbered" "take_numbered" "take_numbered" HR)
 (q88:FnG K "take_every" "take_every" "take_every" J2)
 (q89:FnG K "take_pair" "take_pair" "take_pair" LK)
 (q90:FnG K "take_within" "take_within" "take_within" JH)
 (q91:FnG K "take_plan" "take_plan" "take_plan" LC)
 (q92:FnG K "made_date" "made_date" "made_date" Lg)
 (q93:FnG K "made_pair" "made_pair" "made_pair" Le)
 (q94:FnG K "made" "made" "made" Z1)
 (q95:FnG K "read_rule" "read_rule" "read_rule" Lb)
 (q96:FnG K "_law_cell_at" "_law_cell_at" "_law_cell_at" JN)
 (q97:FnG K "_law_divisor" "_law_divisor" "_law_divisor" JM)
 (q98:FnG K "_law_name" "_law_name" "_law_name" Ny)
 (q99:FnG K "_law_leaf" "_law_leaf" "_law_leaf" Nz)
 (q100:FnG K "_law_whole_due" "_law_whole_due" "_law_whole_due" HX)
 (q101:FnG K "_law_text" "_law_text" "_law_text" Nx)
 (q102:FnG K "_law_told" "_law_told" "_law_told" Nv)
 (a103:PySem.W.nsIn K mainGlobals "law"=some (some (.ref f103)))(l103:K.lookup f103=some ⟨oc103,od103,.func (PySem.W.fnOf "law" "law" (DW Pn) (Cu Pn) (Ao Pn) .none kV103 dc103 pm103 an103 cd103 ct103),sl103⟩)(c103:PySem.W.codeIn K cd103 "law"=true)(k103:PySem.W.keepIn K (.ref f103)=true)
 (z_range:PySem.W.nsIn K mainGlobals "range"=some none)
 (z_len:PySem.W.nsIn K mainGlobals "len"=some none)
 (z_abs:PySem.W.nsIn K mainGlobals "abs"=some none)
 (z_list:PySem.W.nsIn K mainGlobals "list"=some none)
 (z_sum:PySem.W.nsIn K mainGlobals "sum"=some none)
 (z_all:PySem.W.nsIn K mainGlobals "all"=some none)
 (z_tuple:PySem.W.nsIn K mainGlobals "tuple"=some none)
 (z_min:PySem.W.nsIn K mainGlobals "min"=some none)
 (z_max:PySem.W.nsIn K mainGlobals "max"=some none)
 (z_str:PySem.W.nsIn K mainGlobals "str"=some none)
 (z_isinstance:PySem.W.nsIn K mainGlobals "isinstance"=some none)
 (z_int:PySem.W.nsIn K mainGlobals "int"=some none)
 (m_LONGEST:PySem.W.nsIn K mainGlobals "LONGEST"=some (some (.int 150000 tk_LONGEST)))
 (m_PIECE:PySem.W.nsIn K mainGlobals "PIECE"=some (some (.int 256 tk_PIECE)))
 (m_GREATEST_N:PySem.W.nsIn K mainGlobals "GREATEST_N"=some (some (.int 1000 tk_GREATEST_N)))
 (m_GREATEST_BASE:PySem.W.nsIn K mainGlobals "GREATEST_BASE"=some (some (.int 20000 tk_GREATEST_BASE)))
 (m_MOST_TERMS:PySem.W.nsIn K mainGlobals "MOST_TERMS"=some (some (.int 6 tk_MOST_TERMS)))
 (m_MOST_MONTHS:PySem.W.nsIn K mainGlobals "MOST_MONTHS"=some (some (.int 20 tk_MOST_MONTHS)))
 (m_LONGEST_MONTH:PySem.W.nsIn K mainGlobals "LONGEST_MONTH"=some (some (.int 1000 tk_LONGEST_MONTH)))
 (m_MOST_LETTERS:PySem.W.nsIn K mainGlobals "MOST_LETTERS"=some (some (.int 8 tk_MOST_LETTERS)))
 (m_LETTERS:PySem.W.nsIn K mainGlobals "LETTERS"=some (some (.str "abcdefghijklmnopqrstuvwxyz" tk_LETTERS)))
 (m_MOST_SIGNS:PySem.W.nsIn K mainGlobals "MOST_SIGNS"=some (some (.int 4000 tk_MOST_SIGNS)))
 (m_MOST_FIGURES:PySem.W.nsIn K mainGlobals "MOST_FIGURES"=some (some (.int 60 tk_MOST_FIGURES)))
 (m_FIGURES:PySem.W.nsIn K mainGlobals "FIGURES"=some (some (.str "0123456789" tk_FIGURES)))
 (m_MOST_BRACKETS:PySem.W.nsIn K mainGlobals "MOST_BRACKETS"=some (some (.int 40 tk_MOST_BRACKETS)))
 (tt_PAIR_WORDS:K.lookup ta_PAIR_WORDS=some ⟨.type "tuple",to_PAIR_WORDS,.seq #[.str "and" tk_PAIR_WORDS_0,.str "or" tk_PAIR_WORDS_1,.str "but" tk_PAIR_WORDS_2,.str "unlike" tk_PAIR_WORDS_3,.str "upon" tk_PAIR_WORDS_4,.str "until" tk_PAIR_WORDS_5,.str "near" tk_PAIR_WORDS_6,.str "till" tk_PAIR_WORDS_7] tn_PAIR_WORDS,tl_PAIR_WORDS⟩)
 (m_PAIR_WORDS:PySem.W.nsIn K mainGlobals "PAIR_WORDS"=some (some (.ref ta_PAIR_WORDS)))
 :∃fd:FuncData,(∀(s:Shared) (v:Value),BindsTo s fd ⟨[v],[]⟩ [("_law_script",v)])∧∀base:Heap,K.In base→base.Ns mainGlobals mg→Bu l.prog w K mg base CX0 134 fa fd ["_law_script"] (gf K):=by
 have e:=hfa.symm.trans (PySem.W.mg_of X G a103)
 cases e
 have F0:=Om (st:=Dh) l0 c0 k0
 have b0:=F0.binds (ps:=["self","needed"]) fun _ _ _ _ _ _ us hl=>by obtain⟨_,_,rfl⟩:=jd hl;rfl
 have F1:=Om (st:=Ds) l1 c1 k1
 have b1:=F1.binds (ps:=["self","name"]) fun _ _ _ _ _ _ us hl=>by obtain⟨_,_,rfl⟩:=jd hl;rfl
 have F17:=Om (st:=Jh) l17 c17 k17
 have b17:=F17.binds (ps:=["one","other"]) fun _ _ _ _ _ _ us hl=>by obtain⟨_,_,rfl⟩:=jd hl;rfl
 have F18:=Om (st:=Jg) l18 c18 k18
 have b18:=F18.binds (ps:=["one","other"]) fun _ _ _ _ _ _ us hl=>by obtain⟨_,_,rfl⟩:=jd hl;rfl
 have F29:=QS (st:=Ek) l29 c29 k29 t29 rfl
 have b29:=Jq.bindsD (ps:=["self","kept","made_of","words"]) (dv:=[]) 4 rfl F29 fun _ _ _ _ _ _ _ us hl=>by obtain⟨_,_,_,_,rfl⟩:=uy hl;exact⟨_,rfl,rfl⟩
 have F55:=QS (st:=Di) l55 c55 k55 t55 rfl
 have b55:=Jq.bindsD (ps:=["self","base","terms"]) (dv:=[]) 3 rfl F55 fun _ _ _ _ _ _ _ us hl=>by obtain⟨_,_,_,rfl⟩:=rT hl;exact⟨_,rfl,rfl⟩
 have F60:=QS (st:=Ey) l60 c60 k60 t60 rfl
 have b60:=Jq.bindsD (ps:=["self","start","lengths","leap","terms"]) (dv:=[]) 5 rfl F60 fun _ _ _ _ _ _ _ us hl=>by obtain⟨_,_,_,_,_,rfl⟩:=rR hl;exact⟨_,rfl,rfl⟩
 have b60_2:=Jq.bindsD (ps:=["self","start","lengths","leap","terms"]) (dv:=[(.int 1 tkd_Sun___init___0),.none]) 3 rfl F60 fun _ _ _ _ _ _ _ us hl=>by obtain⟨_,_,_,rfl⟩:=rT hl;exact⟨_,rfl,rfl⟩
 have F71:=QS (st:=Mm) l71 c71 k71 t71 rfl
 have b71:=Jq.bindsD (ps:=["calendar","month","day","step","rest"]) (dv:=[]) 5 rfl F71 fun _ _ _ _ _ _ _ us hl=>by obtain⟨_,_,_,_,_,rfl⟩:=rR hl;exact⟨_,rfl,rfl⟩
 have F74:=QS (st:=EY) l74 c74 k74 t74 rfl
 have b74:=Jq.bindsD (ps:=["self","name","calendar","month","day","step","rest"]) (dv:=[]) 7 rfl F74 fun _ _ _ _ _ _ _ us hl=>by obtain⟨_,_,_,_,_,_,_,rfl⟩:=ux hl;exact⟨_,rfl,rfl⟩
 have F103:=Om (st:=Pn) l103 c103 k103
 have y_range:=PySem.W.mg_none_of X G z_range
 have y_len:=PySem.W.mg_none_of X G z_len
 have y_abs:=PySem.W.mg_none_of X G z_abs
 have y_list:=PySem.W.mg_none_of X G z_list
 have y_sum:=PySem.W.mg_none_of X G z_sum
 have y_all:=PySem.W.mg_none_of X G z_all
 have y_tuple:=PySem.W.mg_none_of X G z_tuple
 have y_min:=PySem.W.mg_none_of X G z_min
 have y_max:=PySem.W.mg_none_of X G z_max
 have y_str:=PySem.W.mg_none_of X G z_str
 have y_isinstance:=PySem.W.mg_none_of X G z_isinstance
 have y_int:=PySem.W.mg_none_of X G z_int
 have y_LONGEST:=PySem.W.mg_of X G m_LONGEST
 have y_PIECE:=PySem.W.mg_of X G m_PIECE
 have y_GREATEST_N:=PySem.W.mg_of X G m_GREATEST_N
 have y_GREATEST_BASE:=PySem.W.mg_of X G m_GREATEST_BASE
 have y_MOST_TERMS:=PySem.W.mg_of X G m_MOST_TERMS
 have y_MOST_MONTHS:=PySem.W.mg_of X G m_MOST_MONTHS
 have y_LONGEST_MONTH:=PySem.W.mg_of X G m_LONGEST_MONTH
 have y_MOST_LETTERS:=PySem.W.mg_of X G m_MOST_LETTERS
 have y_LETTERS:=PySem.W.mg_of X G m_LETTERS
 have y_MOST_SIGNS:=PySem.W.mg_of X G m_MOST_SIGNS
 have y_MOST_FIGURES:=PySem.W.mg_of X G m_MOST_FIGURES
 have y_FIGURES:=PySem.W.mg_of X G m_FIGURES
 have y_MOST_BRACKETS:=PySem.W.mg_of X G m_MOST_BRACKETS
 have y_PAIR_WORDS:=PySem.W.mg_of X G m_PAIR_WORDS
 have w_PAIR_WORDS:∀H,SqT K H ta_PAIR_WORDS [.str "and",.str "or",.str "but",.str "unlike",.str "upon",.str "until",.str "near",.str "till"]:=fun H=>.inr ⟨_,_,_,tt_PAIR_WORDS,rfl,rfl,(by show 8≤sizeLine;decide),(.cons ⟨_,rfl⟩ (.cons ⟨_,rfl⟩ (.cons ⟨_,rfl⟩ (.cons ⟨_,rfl⟩ (.cons ⟨_,rfl⟩ (.cons ⟨_,rfl⟩ (.cons ⟨_,rfl⟩ (.cons ⟨_,rfl⟩ .nil))))))))⟩
 refine⟨PySem.W.fnOf "law" "law" (DW Pn) (Cu Pn) (Ao Pn) .none kV103 dc103 pm103 an103 cd103 ct103,fun s v=>.of_eq rfl,fun base _ _=>?_⟩
 have er:Dr K mg Aw Af Ad BW Be Al Ah An Az CZ DP Ax Av Ba Ay Bl Bc Ak Aq CJ Bq CN CK Bb Ar Aj Ae Bf BX Am:=⟨⟨PySem.W.mg_of X G n_NoNumber,t_NoNumber,KR k_NoNumber,b_NoNumber⟩,⟨PySem.W.mg_of X G n_TooLong,t_TooLong,KR k_TooLong,b_TooLong⟩,⟨PySem.W.mg_of X G n_NoCycle,t_NoCycle,KR k_NoCycle,b_NoCycle⟩,⟨PySem.W.mg_of X G n_NoRule,t_NoRule,KR k_NoRule,b_NoRule⟩,⟨PySem.W.mg_of X G n_NoName,t_NoName,KR k_NoName,b_NoName⟩,⟨PySem.W.mg_of X G n_NoRule,e_NoRule⟩,r_NoRule_NoRule,⟨⟨_,_,_,_,_,_,_,o_NoName,om_NoName,od_NoName,oh_NoName⟩,e_FeastError,sa_NoName⟩,⟨PySem.W.mg_of X G n_FeastError,fs_FeastError,fr_FeastError,ff_FeastError⟩,k_NoName,na_NoName_name,⟨ga_NoName,gk_NoName,b_NoName,ob_NoName,ca_NoName,KR k_NoName,xsp,xtk⟩,r_NoName_NoRule,r_NoName_NoName,⟨PySem.W.mg_of X G n_NoNumber,e_NoNumber⟩,r_NoNumber_NoNumber,r_NoNumber_NoRule,r_NoNumber_NoName,⟨⟨_,_,_,_,_,_,_,o_TooLong,om_TooLong,od_TooLong,oh_TooLong⟩,e_FeastError,sa_TooLong⟩,k_TooLong,na_TooLong_needed,⟨ga_TooLong,gk_TooLong,b_TooLong,ob_TooLong,ca_TooLong,KR k_TooLong,xsp,xtk⟩,r_TooLong_NoNumber,r_TooLong_TooLong,r_TooLong_NoCycle,r_TooLong_NoRule,r_TooLong_NoName,⟨PySem.W.mg_of X G n_NoCycle,e_NoCycle⟩,r_NoCycle_NoNumber,r_NoCycle_NoCycle,r_NoCycle_NoRule,r_NoCycle_NoName,⟨pg_Measure,k_Measure,po_Measure,sa_Measure⟩,na_Measure_base,na_Measure_terms,na_Measure_full_count,na_Measure_full_sum,⟨pg_Sun,k_Sun,po_Sun,sa_Sun⟩,na_Sun_start,na_Sun_months,na_Sun_leap,na_Sun_years,⟨pg_Change,k_Change,po_Change,sa_Change⟩,na_Change_old,na_Change_new,na_Change_day,na_Change_last_old,na_Change_first_new,⟨pg_Reader,k_Reader,po_Reader,sa_Reader⟩,na_Reader_words,na_Reader_place,⟨pg_Each,k_Each,po_Each,sa_Each⟩,⟨⟨pg_Each,k_Each,po_Each,sa_Each⟩,na_Each_kept,na_Each_made_of,na_Each_words,ca_Each,ob_Each,i_Each_Rule⟩,⟨pg_Dated,k_Dated,po_Dated,sa_Dated⟩,⟨⟨pg_Dated,k_Dated,po_Dated,sa_Dated⟩,na_Dated_kept,na_Dated_made_of,na_Dated_words,ca_Dated,ob_Dated,i_Dated_Rule⟩,⟨pg_Not,k_Not,po_Not,sa_Not⟩,⟨⟨pg_Not,k_Not,po_Not,sa_Not⟩,na_Not_kept,na_Not_made_of,na_Not_words,ca_Not,ob_Not,i_Not_Rule⟩,⟨pg_Both,k_Both,po_Both,sa_Both⟩,⟨⟨pg_Both,k_Both,po_Both,sa_Both⟩,na_Both_kept,na_Both_made_of,na_Both_words,ca_Both,ob_Both,i_Both_Rule⟩,⟨pg_But,k_But,po_But,sa_But⟩,⟨⟨pg_But,k_But,po_But,sa_But⟩,na_But_kept,na_But_made_of,na_But_words,ca_But,ob_But,i_But_Rule⟩,⟨pg_Unlike,k_Unlike,po_Unlike,sa_Unlike⟩,⟨⟨pg_Unlike,k_Unlike,po_Unlike,sa_Unlike⟩,na_Unlike_kept,na_Unlike_made_of,na_Unlike_words,ca_Unlike,ob_Unlike,i_Unlike_Rule⟩,⟨pg_Later,k_Later,po_Later,sa_Later⟩,⟨⟨pg_Later,k_Later,po_Later,sa_Later⟩,na_Later_kept,na_Later_made_of,na_Later_words,ca_Later,ob_Later,i_Later_Rule⟩,⟨pg_Kth,k_Kth,po_Kth,sa_Kth⟩,⟨⟨pg_Kth,k_Kth,po_Kth,sa_Kth⟩,na_Kth_kept,na_Kth_made_of,na_Kth_words,ca_Kth,ob_Kth,i_Kth_Rule⟩,⟨pg_Every,k_Every,po_Every,sa_Every⟩,⟨⟨pg_Every,k_Every,po_Every,sa_Every⟩,na_Every_kept,na_Every_made_of,na_Every_words,ca_Every,ob_Every,i_Every_Rule⟩⟩
 have C_TooLong___init__:kO l.prog w K mg base 1 "TooLong" Ad Aw ["self","needed"] (Jv Ad "needed" jX):=⟨⟨f0,_,M6 F0 er,b0,⟨er.o_TooLong,PySem.W.mg_of X G n_TooLong,kp_TooLong,a0,u0⟩⟩⟩
 have C_NoName___init__:kO l.prog w K mg base 1 "NoName" An Aw ["self","name"] (Jv An "name" jW):=⟨⟨f1,_,Od F1 er,b1,⟨er.o_NoName,PySem.W.mg_of X G n_NoName,kp_NoName,a1,u1⟩⟩⟩
 have C_refuse_below_one:CQ l.prog w K mg base 1 "refuse_below_one" ["number"] (Gv Af):=Cj X G q2 (by walk_at "b1") fun F=>M3 F er
 have C_refuse_too_long:CQ l.prog w K mg base 3 "refuse_too_long" ["size"] (GK Ad):=Cj X G q3 (by walk_at "b1") fun F=>Oa F er C_TooLong___init__ y_LONGEST
 have C_equation:Cal l.prog w K mg base 1 "equation" ["one","other"] qG:=Cv X G q4 (by walk_at "b2") fun F=>Yo F
 have C_divisor:Cal l.prog w K mg base 2 "divisor" ["one","other"] Qm:=Cv X G q5 (by walk_at "b2") fun F=>aJ F C_equation
 have C_common:CQ l.prog w K mg base 3 "common" ["one","other"] (Jc Af):=Cj X G q6 (by walk_at "b2") fun F=>eN F C_refuse_below_one C_divisor
 have C_round_by:CQ l.prog w K mg base 4 "round_by" ["size","days"] (Hs K Af Ad):=Cj X G q7 (by walk_at "b2") fun F=>Yh F C_refuse_below_one C_refuse_too_long y_range y_len y_PIECE
 have C_full_bits:Cal l.prog w K mg base 1 "full_bits" ["size"] Ku:=Cv X G q8 (by walk_at "b1") fun F=>Xg F
 have C_days_in:Cal l.prog w K mg base 2 "days_in" ["turn"] (Tq K):=Cv X G q9 (by walk_at "b1") fun F=>aK F C_full_bits y_range y_PIECE
 have C_bits_by:Cal l.prog w K mg base 2 "bits_by" ["turn","size"] (GR K):=Cv X G q10 (by walk_at "b2") fun F=>aL F C_full_bits
 have C_stretched:CQ l.prog w K mg base 4 "stretched" ["turn","size"] (Fp K Af Ad):=Cj X G q11 (by walk_at "b2") fun F=>Xa F er C_refuse_below_one C_refuse_too_long C_bits_by
 have C_common_size:CQ l.prog w K mg base 4 "common_size" ["one","other"] (PK K Ad):=Cj X G q12 (by walk_at "b2") fun F=>Us F C_common C_refuse_too_long
 have C_ones_in:Cal l.prog w K mg base 3 "ones_in" ["bits"] Zj:=Cv X G q13 (by walk_at "b1") fun F=>aF F C_bits_by C_full_bits
 have C_days_ahead:Cal l.prog w K mg base 4 "days_ahead" ["turn","day"] (Wv K):=Cv X G q14 (by walk_at "b2") fun F=>Vi F C_full_bits C_ones_in
 have C_how_many:Cal l.prog w K mg base 5 "how_many" ["turn","first","end"] (Zk K):=Cv X G q15 (by walk_at "b3") fun F=>Ym F C_days_ahead
 have C_both:CQ l.prog w K mg base 5 "both" ["one","other"] (Fz K Ad):=Cj X G q16 (by walk_at "b2") fun F=>mY F C_common_size C_bits_by
 have C_either:Cal l.prog w K mg base 5 "either" ["one","other"] (Ec K):=⟨⟨f17,_,eG F17 C_common_size C_bits_by,b17,k17,PySem.W.mg_of X G a17⟩⟩
 have C_unlike:Cal l.prog w K mg base 5 "unlike" ["one","other"] (Ec K):=⟨⟨f18,_,eF F18 C_common_size C_bits_by,b18,k18,PySem.W.mg_of X G a18⟩⟩
 have C_unlike_nE:CQ l.prog w K mg base 5 "unlike" ["one","other"] (Fz K Ad):=Cj X G q19 (by walk_at "b2") fun F=>XM F C_common_size C_bits_by
 have C_other_days:Cal l.prog w K mg base 2 "other_days" ["turn"] (Mi K):=Cv X G q20 (by walk_at "b1") fun F=>Vh F C_full_bits
 have C_without:Cal l.prog w K mg base 6 "without" ["one","other"] (Ec K):=Cv X G q21 (by walk_at "b2") fun F=>aC F C_both C_other_days
 have C_without_nE:CQ l.prog w K mg base 6 "without" ["one","other"] (Fz K Ad):=Cj X G q22 (by walk_at "b2") fun F=>Ve F C_both C_other_days
 have C_later:Cal l.prog w K mg base 2 "later" ["turn","number"] (Ju K):=Cv X G q23 (by walk_at "b2") fun F=>jT F C_full_bits
 have C_gathered:Cal l.prog w K mg base 6 "gathered" ["turn","barred","step","join"] (PB K mg [("either",Ec K),("unlike",Ec K)]):=Cv X G q24 (by walk_at "b4") fun F=>Yn F C_other_days C_both C_later C_either C_unlike y_abs
 have C_upon:CQ l.prog w K mg base 7 "upon" ["R","S"] (Fz K Ad):=Cj X G q25 (by walk_at "b2") fun F=>mW F C_common_size C_stretched C_both C_gathered C_later C_either (PySem.W.mg_of X G a17)
 have C_until:CQ l.prog w K mg base 7 "until" ["R","S"] (Fz K Ad):=Cj X G q26 (by walk_at "b2") fun F=>jR F C_common_size C_stretched C_both C_gathered C_later C_either (PySem.W.mg_of X G a17)
 have C_kth:CQ l.prog w K mg base 8 "kth" ["number","R","S"] (Zn K Af Ad):=Cj X G q27 (by walk_at "b3") fun F=>rO F er C_common_size C_stretched C_later C_both C_gathered C_unlike C_without C_upon C_until y_abs (PySem.W.mg_of X G a18)
 have C_every:CQ l.prog w K mg base 6 "every" ["number","R","day"] (Tn K Af Ad):=Cj X G q28 (by walk_at "b3") fun F=>jU F C_refuse_below_one C_refuse_too_long C_days_in C_how_many C_round_by y_list y_range y_len
 have C_Rule___init__:VM l.prog w K mg base 1 "Rule" ["self","kept","made_of","words"] (Gf K Az):=⟨⟨f29,Az,_,RQ F29 er,b29,⟨PySem.W.mg_of X G n_Rule,bsp_Rule,brd_Rule,bfc29,k29⟩⟩⟩
 have C_Rec_turn:Hm l.prog w K mg base CX0 2 "turn" ["self"] ([Ax,Av,Ba,Ay,Bc,Ak,Aq,Bb,Ar].map fun C=>(C,(spR (Ge K Az [Ax,Av,Ba,Ay,Bc,Ak,Aq,Bb,Ar])) 1)):=UV (k0:=1) (Cs:=[Ax,Av,Ba,Ay,Bc,Ak,Aq,Bb,Ar]) (sp:=(spR (Ge K Az [Ax,Av,Ba,Ay,Bc,Ak,Aq,Bb,Ar]))) (all_cons ⟨er.cl_Each,q30_0⟩ (all_cons ⟨er.cl_Dated,q30_1⟩ (all_cons ⟨er.cl_Not,q30_2⟩ (all_cons ⟨er.cl_Both,q30_3⟩ (all_cons ⟨er.cl_But,q30_4⟩ (all_cons ⟨er.cl_Unlike,q30_5⟩ (all_cons ⟨er.cl_Later,q30_6⟩ (all_cons ⟨er.cl_Kth,q30_7⟩ (all_cons ⟨er.cl_Every,q30_8⟩ all_nil))))))))) (by walk_at "b1") (fun _ _ _ _ h=>YG h) (fun d _ _ CL F=>Xj F er CL (Nat.le_add_right _ _)) 1
 have C_Rec_size:Hm l.prog w K mg base CX0 2 "size" ["self"] ([Ax,Av,Ba,Ay,Bc,Ak,Aq,Bb,Ar].map fun C=>(C,(spR (O6 K Az [Ax,Av,Ba,Ay,Bc,Ak,Aq,Bb,Ar])) 1)):=UV (k0:=1) (Cs:=[Ax,Av,Ba,Ay,Bc,Ak,Aq,Bb,Ar]) (sp:=(spR (O6 K Az [Ax,Av,Ba,Ay,Bc,Ak,Aq,Bb,Ar]))) (all_cons ⟨er.cl_Each,q31_0⟩ (all_cons ⟨er.cl_Dated,q31_1⟩ (all_cons ⟨er.cl_Not,q31_2⟩ (all_cons ⟨er.cl_Both,q31_3⟩ (all_cons ⟨er.cl_But,q31_4⟩ (all_cons ⟨er.cl_Unlike,q31_5⟩ (all_cons ⟨er.cl_Later,q31_6⟩ (all_cons ⟨er.cl_Kth,q31_7⟩ (all_cons ⟨er.cl_Every,q31_8⟩ all_nil))))))))) (by walk_at "b1") (fun _ _ _ _ h=>YG h) (fun d _ _ CL F=>Xk F er CL (Nat.le_add_right _ _)) 1
 have C_each_text:Cal l.prog w K mg base 1 "each_text" ["step","rest"] Mj:=Cv X G q32 (by walk_at "b2") fun F=>Xh F
 have C_Each___init__:Eu l.prog w K mg base (CX1 l.prog w) 5 "Each" Ax ["self","size","rest"] (gn K Az [Ax,Av,Ba,Ay,Bc,Ak,Aq,Bb,Ar] ⟨An,Af,Al,Ah,Ad⟩ Ax):=Ep X G mk_Each kp_Each n_Each q33 (by walk_at "b3") fun F=>RV F er C_round_by C_Rule___init__ C_each_text
 have C_Both___init__:Eu l.prog w K mg base (CX1 l.prog w) 6 "Both" Ay ["self","R","S"] (O9 K Az [Ax,Av,Ba,Ay,Bc,Ak,Aq,Bb,Ar] ⟨An,Af,Al,Ah,Ad⟩ Ay):=Ep X G mk_Both kp_Both n_Both q34 (by walk_at "b3") fun F=>RW F er C_Rule___init__ C_both C_Rec_turn
 have C_But___init__:Eu l.prog w K mg base (CX1 l.prog w) 7 "But" Bc ["self","R","S"] (O9 K Az [Ax,Av,Ba,Ay,Bc,Ak,Aq,Bb,Ar] ⟨An,Af,Al,Ah,Ad⟩ Bc):=Ep X G mk_But kp_But n_But q35 (by walk_at "b3") fun F=>SQ F er C_Rule___init__ C_without_nE C_Rec_turn
 have C_Unlike___init__:Eu l.prog w K mg base (CX1 l.prog w) 6 "Unlike" Ak ["self","R","S"] (O9 K Az [Ax,Av,Ba,Ay,Bc,Ak,Aq,Bb,Ar] ⟨An,Af,Al,Ah,Ad⟩ Ak):=Ep X G mk_Unlike kp_Unlike n_Unlike q36 (by walk_at "b3") fun F=>Ob F er C_Rule___init__ C_unlike_nE C_Rec_turn
 have C_Not___init__:Eu l.prog w K mg base (CX1 l.prog w) 3 "Not" Ba ["self","R"] (gq K Az [Ax,Av,Ba,Ay,Bc,Ak,Aq,Bb,Ar] ⟨An,Af,Al,Ah,Ad⟩ Ba):=Ep X G mk_Not kp_Not n_Not q37 (by walk_at "b2") fun F=>R8 F er C_Rule___init__ C_other_days C_Rec_turn
 have C_Later___init__:Eu l.prog w K mg base (CX1 l.prog w) 3 "Later" Aq ["self","number","R"] (gj K Az [Ax,Av,Ba,Ay,Bc,Ak,Aq,Bb,Ar] ⟨An,Af,Al,Ah,Ad⟩ Aq):=Ep X G mk_Later kp_Later n_Later q38 (by walk_at "b3") fun F=>QJ F er C_Rule___init__ C_later C_Rec_turn
 have C_Kth___init__:Eu l.prog w K mg base (CX1 l.prog w) 9 "Kth" Bb ["self","number","R","S"] (gm K Az [Ax,Av,Ba,Ay,Bc,Ak,Aq,Bb,Ar] ⟨An,Af,Al,Ah,Ad⟩ Bb):=Ep X G mk_Kth kp_Kth n_Kth q39 (by walk_at "b4") fun F=>SM F er C_kth C_Rec_turn C_Rule___init__
 have C_Every___init__:Eu l.prog w K mg base (CX1 l.prog w) 7 "Every" Ar ["self","number","R","day"] (gh K Az [Ax,Av,Ba,Ay,Bc,Ak,Aq,Bb,Ar] ⟨An,Af,Al,Ah,Ad⟩ Ar):=Ep X G mk_Every kp_Every n_Every q40 (by walk_at "b4") fun F=>QK F er C_every C_Rec_turn C_Rule___init__
 have C_All___init__:Eu l.prog w K mg base CX0 1 "All" CZ ["self"] Gx:=Ep X G mk_All kp_All n_All q41 (by walk_at "b1") fun F=>SX F
 have C_No___init__:Eu l.prog w K mg base CX0 1 "No" DP ["self"] Gx:=Ep X G mk_No kp_No n_No q42 (by walk_at "b1") fun F=>Uy F
 have C_Either___init__:Eu l.prog w K mg base CX0 1 "Either" Bl ["self","R","S"] Gx:=Ep X G mk_Either kp_Either n_Either q43 (by walk_at "b3") fun F=>Oe F
 have C_Upon___init__:Eu l.prog w K mg base CX0 1 "Upon" CJ ["self","R","S"] Gx:=Ep X G mk_Upon kp_Upon n_Upon q44 (by walk_at "b3") fun F=>RN F
 have C_Until___init__:Eu l.prog w K mg base CX0 1 "Until" Bq ["self","R","S"] Gx:=Ep X G mk_Until kp_Until n_Until q45 (by walk_at "b3") fun F=>QF F
 have C_Near___init__:Eu l.prog w K mg base CX0 1 "Near" CN ["self","R","S"] Gx:=Ep X G mk_Near kp_Near n_Near q46 (by walk_at "b3") fun F=>RT F
 have C_Till___init__:Eu l.prog w K mg base CX0 1 "Till" CK ["self","R","S"] Gx:=Ep X G mk_Till kp_Till n_Till q47 (by walk_at "b3") fun F=>RP F
 have C_term_on:Cal l.prog w K mg base 1 "term_on" ["term","k"] Gx:=Cv X G q48 (by walk_at "b2") fun F=>aD F
 have C_signs_upto:Cal l.prog w K mg base 1 "signs_upto" ["terms","k"] (Tc K):=Cv X G q49 (by walk_at "b2") fun F=>Vg F y_sum
 have C_is_term:Cal l.prog w K mg base 1 "is_term" ["term"] Gx:=Cv X G q50 (by walk_at "b1") fun F=>aG F y_GREATEST_N
 have C_least_length:Cal l.prog w K mg base 1 "least_length" ["base","terms"] (O7 K):=Cv X G q51 (by walk_at "b2") fun F=>Ry F y_len
 have C_refuse_measure:Cal l.prog w K mg base 2 "refuse_measure" ["base","terms"] (Wj K):=Cv X G q52 (by walk_at "b2") fun F=>QD F C_is_term C_least_length y_len y_all y_GREATEST_BASE y_MOST_TERMS
 have C_period_of:Cal l.prog w K mg base 4 "period_of" ["terms"] (Zi K):=Cv X G q53 (by walk_at "b1") fun F=>Xc F C_common
 have C_Measure_upto:Eb l.prog w K mg base CX0 2 Ae "upto" ["self","k"] (Mh Ae):=GJ q54 (by walk_at "b2") fun F=>R9 F er C_signs_upto
 have C_Measure___init__:Eu l.prog w K mg base CX0 5 "Measure" Ae ["self","base","terms"] (Tj Ae):=⟨⟨f55,_,M7 F55 er C_refuse_measure C_period_of C_Measure_upto y_tuple,b55,⟨mk_Measure,a55,beq_iff_eq.mpr u55,kp_Measure⟩,PySem.W.mg_of X G n_Measure⟩⟩
 have C_Measure_at:Eb l.prog w K mg base CX0 2 Ae "at" ["self","k"] (gr Ae):=GJ q56 (by walk_at "b2") fun F=>Vk F er C_term_on y_sum
 have C_Measure_period:Eb l.prog w K mg base CX0 1 Ae "period" ["self"] (Qi Ae):=GJ q57 (by walk_at "b1") fun F=>QH F er
 have C_Measure_seek:Eb l.prog w K mg base CX0 3 Ae "seek" ["self","total"] (Td Ae):=GJ q58 (by walk_at "b2") fun F=>SJ F er C_Measure_upto
 have C_refuse_months:Cal l.prog w K mg base 1 "refuse_months" ["lengths","leap"] (Te K):=Cv X G q59 (by walk_at "b2") fun F=>RK F y_len y_min y_max y_MOST_MONTHS y_LONGEST_MONTH
 have C_Sun___init__:Eu l.prog w K mg base CX0 7 "Sun" BX ["self","start","lengths","leap","terms"] (O8 BX Ae):=⟨⟨f60,_,Kp F60 er C_refuse_months C_Measure___init__ C_least_length y_tuple y_sum,b60,⟨mk_Sun,a60,beq_iff_eq.mpr u60,kp_Sun⟩,PySem.W.mg_of X G n_Sun⟩⟩
 have C_Sun___init___d2:kW l.prog w K mg base CX0 7 "Sun" BX ["self","start","lengths","leap","terms"] [(.int 1),.non] (O8 BX Ae):=⟨⟨f60,_,_,Kp F60 er C_refuse_months C_Measure___init__ C_least_length y_tuple y_sum,b60_2,(.cons (by first | exact rfl | exact Dw _ _ | trivial) (.cons (by first | exact rfl | exact Dw _ _ | trivial) .nil)),⟨mk_Sun,a60,beq_iff_eq.mpr u60,kp_Sun⟩,PySem.W.mg_of X G n_Sun⟩⟩
 have C_Sun_year_start:Eb l.prog w K mg base CX0 3 BX "year_start" ["self","year"] (bL BX Ae):=GJ q61 (by walk_at "b2") fun F=>QG F er C_Measure_upto
 have C_Sun_year_at:Eb l.prog w K mg base CX0 4 BX "year_at" ["self","day"] (Zh BX Ae):=GJ q62 (by walk_at "b2") fun F=>Ut F er C_Measure_seek
 have C_Sun_lengths:Eb l.prog w K mg base CX0 3 BX "lengths" ["self","year"] (Sg BX Ae):=GJ q63 (by walk_at "b2") fun F=>Uu F er C_Measure_at y_list
 have C_Sun_cycle:Eb l.prog w K mg base CX0 3 BX "cycle" ["self"] (Zt BX Ae):=GJ q64 (by walk_at "b1") fun F=>Xi F er C_Measure_period C_Measure_upto
 have C_Sun_date_of:Eb l.prog w K mg base CX0 5 BX "date_of" ["self","day"] (Tr BX Ae):=GJ q65 (by walk_at "b2") fun F=>Uv F er C_Sun_year_at C_Sun_year_start C_Sun_lengths
 have C_Change___init__:Eu l.prog w K mg base CX0 6 "Change" Am ["self","old","new","day"] (Ql BX Ae Am):=Ep X G mk_Change kp_Change n_Change q66 (by walk_at "b4") fun F=>Og F er C_Sun_date_of
 have C_Change_cycle:Eb l.prog w K mg base (CX1 l.prog w) 1 Am "cycle" ["self"] (Wt Am Al):=GJ q67 (by walk_at "b1") fun F=>SN F er
 have C_refuse_wanted:CQ l.prog w K mg base 2 "refuse_wanted" ["month","day","step"] (Wh Af):=Cj X G q68 (by walk_at "b3") fun F=>RJ F er C_refuse_below_one
 have C_days_of_month:Cal l.prog w K mg base 1 "days_of_month" ["first","length","day"] Wr:=Cv X G q69 (by walk_at "b3") fun F=>RM F y_list y_range
 have C_days_of_year:Cal l.prog w K mg base 4 "days_of_year" ["calendar","year","month","day"] (Wq BX Ae):=Cv X G q70 (by walk_at "b4") fun F=>Rz F er C_Sun_year_start C_Sun_lengths C_days_of_month
 have C_dated:CQ l.prog w K mg base 5 "dated" ["calendar","month","day","step","rest"] (Qn BX Ae Am ⟨An,Af,Al,Ah,Ad⟩):=⟨⟨f71,_,jV F71 er C_refuse_wanted C_Sun_cycle C_Change_cycle C_common C_refuse_too_long C_days_of_year C_round_by y_range,b71,k71,PySem.W.mg_of X G a71⟩⟩
 have C_wanted_text:Cal l.prog w K mg base 1 "wanted_text" ["number"] Wi:=Cv X G q72 (by walk_at "b1") fun F=>Uk F y_str
 have C_dated_text:Cal l.prog w K mg base 2 "dated_text" ["name","month","day","step","rest"] Qo:=Cv X G q73 (by walk_at "b5") fun F=>Vj F C_wanted_text C_each_text
 have C_Dated___init__:Eu l.prog w K mg base (CX1 l.prog w) 6 "Dated" Av ["self","name","calendar","month","day","step","rest"] (Zq K Az [Ax,Av,Ba,Ay,Bc,Ak,Aq,Bb,Ar] ⟨An,Af,Al,Ah,Ad⟩ Av BX Ae Am):=⟨⟨f74,_,QL F74 er C_dated C_Rule___init__ C_dated_text,b74,⟨mk_Dated,a74,beq_iff_eq.mpr u74,kp_Dated⟩,PySem.W.mg_of X G n_Dated⟩⟩
 have C_Reader___init__:Eu l.prog w K mg base CX0 1 "Reader" Aj ["self","words"] (Wo Aj):=Ep X G mk_Reader kp_Reader n_Reader q75 (by walk_at "b2") fun F=>Oc F er y_tuple
 have C_Reader_peek:Eb l.prog w K mg base CX0 1 Aj "peek" ["self"] (Ni Aj):=GJ q76 (by walk_at "b1") fun F=>Ux F er y_len
 have C_Reader_take:Eb l.prog w K mg base CX0 2 Aj "take" ["self"] (JD Aj):=GJ q77 (by walk_at "b1") fun F=>Uw F er C_Reader_peek
 have C_is_name:Cal l.prog w K mg base 1 "is_name" ["text"] Zo:=Cv X G q78 (by walk_at "b1") fun F=>aH F y_len y_all y_MOST_LETTERS y_LETTERS
 have C_is_readable:Cal l.prog w K mg base 1 "is_readable" ["text"] Js:=Cv X G q79 (by walk_at "b1") fun F=>Ur F y_isinstance y_str y_len y_MOST_SIGNS
 have C_is_number:Cal l.prog w K mg base 1 "is_number" ["text"] Sh:=Cv X G q80 (by walk_at "b1") fun F=>Xf F y_len y_all y_MOST_FIGURES y_FIGURES
 have C_take_word:CQ l.prog w K mg base 3 "take_word" ["reader","word"] (Qg Aj Ah):=Cj X G q81 (by walk_at "b2") fun F=>XN F er C_Reader_take
 have C_take_number:CQ l.prog w K mg base 3 "take_number" ["reader"] (Qj Aj Ah):=Cj X G q82 (by walk_at "b1") fun F=>Uo F er C_Reader_take C_is_number y_int
 have C_take_wanted:CQ l.prog w K mg base 4 "take_wanted" ["reader"] (Wg Aj Ah):=Cj X G q83 (by walk_at "b1") fun F=>Um F er C_Reader_peek C_Reader_take C_take_number
 have C_take_each:CQ l.prog w K mg base 4 "take_each" ["reader"] (Su Aj Ah):=Cj X G q84 (by walk_at "b1") fun F=>XS F C_take_number C_take_word
 have C_take_date:CQ l.prog w K mg base 5 "take_date" ["reader"] (Ws Aj Ah):=Cj X G q85 (by walk_at "b1") fun F=>XX F er C_Reader_take C_is_name C_take_wanted C_Reader_peek C_take_each
 have C_words_of:CQ l.prog w K mg base 1 "words_of" ["text"] (Wf Ah):=Cj X G q86 (by walk_at "b1") fun F=>Yg F er y_len y_MOST_BRACKETS
 have C_take_plan:CQ l.prog w K mg base 131 "take_plan" ["reader"] ((Jt Aj Ah) 41):=UW (k0:=8) (J:=3) (sp:=(Jt Aj Ah)) X G q91 (by walk_at "b1") (fun _ _ _ _ h=>YH h) (fun d _ _ R F=>by
  have hk:8≤8+3*d:=Nat.le_add_right _ _
  have C_take_numbered:CQ l.prog w K mg base ((8+3*d)+1) "take_numbered" ["reader"] ((Wm Aj Ah) d):=Cj X G q87 (by walk_at "b1") fun F=>RG F er C_take_number C_Reader_take R C_take_word hk
  have C_take_every:CQ l.prog w K mg base ((8+3*d)+1) "take_every" ["reader"] ((Tp Aj Ah) d):=Cj X G q88 (by walk_at "b1") fun F=>Vf F C_take_number C_take_word R hk
  have C_take_pair:CQ l.prog w K mg base ((8+3*d)+1) "take_pair" ["reader"] ((Wl Aj Ah) d):=Cj X G q89 (by walk_at "b1") fun F=>XR F er R C_Reader_take y_PAIR_WORDS w_PAIR_WORDS hk
  have C_take_within:CQ l.prog w K mg base ((8+3*d)+2) "take_within" ["reader"] ((TV Aj Ah) d):=Cj X G q90 (by walk_at "b1") fun F=>Ul F er C_Reader_peek C_Reader_take R C_take_every C_is_number C_take_numbered C_take_pair hk
  exact XQ F er C_Reader_take C_take_each C_take_date C_take_within C_take_word hk) 41
 have C_made_date:CQ l.prog w K mg base 8 "made_date" ["plan","calendars"] (Qk K Az [Ax,Av,Ba,Ay,Bc,Ak,Aq,Bb,Ar] ⟨An,Af,Al,Ah,Ad⟩ BX Ae Am):=Cj X G q92 (by walk_at "b2") fun F=>Xe F er C_NoName___init__ C_Dated___init__
 have C_made_pair:CQ l.prog w K mg base 9 "made_pair" ["word","one","other"] (Zm K Az [Ax,Av,Ba,Ay,Bc,Ak,Aq,Bb,Ar] ⟨An,Af,Al,Ah,Ad⟩):=Cj X G q93 (by walk_at "b3") fun F=>Xd F er C_Both___init__ C_Either___init__ C_But___init__ C_Unlike___init__ C_Upon___init__ C_Until___init__ C_Near___init__ C_Till___init__
 have C_made:CQ l.prog w K mg base 14 "made" ["plan","calendars"] ((Jb K Az [Ax,Av,Ba,Ay,Bc,Ak,Aq,Bb,Ar] ⟨An,Af,Al,Ah,Ad⟩ BX Ae Am) 2):=UW (k0:=12) (J:=1) (sp:=(Jb K Az [Ax,Av,Ba,Ay,Bc,Ak,Aq,Bb,Ar] ⟨An,Af,Al,Ah,Ad⟩ BX Ae Am)) X G q94 (by walk_at "b2") (fun _ _ _ _ h=>VP h) (fun d _ _ R F=>by
  have hk:12≤12+1*d:=Nat.le_add_right _ _
  exact mX F er C_All___init__ C_No___init__ C_Each___init__ C_made_date C_Not___init__ R C_Later___init__ C_Every___init__ C_Kth___init__ C_made_pair hk) 2
 have C_read_rule:CQ l.prog w K mg base 132 "read_rule" ["text","calendars"] (Tg K Az [Ax,Av,Ba,Ay,Bc,Ak,Aq,Bb,Ar] ⟨An,Af,Al,Ah,Ad⟩ BX Ae Am):=Cj X G q95 (by walk_at "b2") fun F=>Xb F er C_is_readable C_Reader___init__ C_words_of C_take_plan C_Reader_peek C_made
 have C_law_cell_at:Cal l.prog w K mg base 1 "_law_cell_at" ["_law_script","_law_k"] (Wu K):=Cv X G q96 (by walk_at "b2") fun F=>Uq F y_len
 have C_law_divisor:Cal l.prog w K mg base 1 "_law_divisor" ["_law_one","_law_other"] Zr:=Cv X G q97 (by walk_at "b2") fun F=>Up F
 have C_law_name:Cal l.prog w K mg base 1 "_law_name" ["_law_cell"] Th:=Cv X G q98 (by walk_at "b1") fun F=>Yk F y_range
 have C_law_leaf:Cal l.prog w K mg base 2 "_law_leaf" ["_law_cell"] Ti:=Cv X G q99 (by walk_at "b1") fun F=>Yl F C_law_name y_str
 have C_law_whole_due:Cal l.prog w K mg base 2 "_law_whole_due" ["_law_way","_law_number","_law_one","_law_other"] Qh:=Cv X G q100 (by walk_at "b4") fun F=>RL F C_law_divisor
 have C_law_text:Cal l.prog w K mg base 1 "_law_text" ["_law_way","_law_number","_law_one","_law_other"] TY:=Cv X G q101 (by walk_at "b4") fun F=>Yj F y_str
 have C_law_told:Cal l.prog w K mg base 133 "_law_told" ["_law_text_here","_law_calendars"] (TX BX Ae Am):=Cv X G q102 (by walk_at "b2") fun F=>Yi F er C_read_rule C_Rec_size
 exact rN F103 er C_law_cell_at C_law_leaf C_law_text C_law_whole_due C_Sun___init___d2 C_Change___init__ C_law_told
end Fw
open PySem PySem.W PyProof.Rows
local macro_rules | `(tactic| walk_at "g")=> `(tactic| (refine' L2.sX ?_ ?_ ?_ ?_<;>first | k_is | skip))
local macro_rules | `(tactic| walk_at "h")=> `(tactic| (refine' L2.sV ?_ ?_ ?_ ?_ ?_<;>first | k_is | skip))
set_option maxRecDepth 100000 in
set_option maxHeartbeats 0 in
theorem PySem.Challenge.cw_feastwheel_k76_first_refusal_met_holds : PySem.Challenge.rw_feastwheel_k76_first_refusal_met.Holds := by
 refine hd76 ?_
 k_fill
 refine L2.fZ (l:=PySem.Challenge.rw_feastwheel_k76_first_refusal_met) (k:=134) rfl rfl ⟨rfl,by decide,by decide,rfl⟩ (fun w h Y=>PySem.W.kIn_of Y) ?F
 case F=>
  intro w mg fa h KX G hmg
  refine' Fw.tW KX G hmg ?n_FeastError ?n_NoNumber ?t_NoNumber ?k_NoNumber ?b_NoNumber ?n_TooLong ?t_TooLong ?k_TooLong ?b_TooLong ?n_NoMeasure ?n_NoChange ?n_NoCycle ?t_NoCycle ?k_NoCycle ?b_NoCycle ?n_NoRule ?t_NoRule ?k_NoRule ?b_NoRule ?n_NoName ?t_NoName ?k_NoName ?b_NoName ?e_NoRule ?r_NoRule_NoRule ?o_NoName ?om_NoName ?od_NoName ?oh_NoName ?sa_NoName ?kp_NoName ?e_FeastError ?fs_FeastError ?fr_FeastError ?ff_FeastError ?na_NoName_name ?ga_NoName ?gk_NoName ?ob_NoName ?ca_NoName ?r_NoName_NoRule ?r_NoName_NoName ?e_NoNumber ?r_NoNumber_NoNumber ?r_NoNumber_NoRule ?r_NoNumber_NoName ?o_TooLong ?om_TooLong ?od_TooLong ?oh_TooLong ?sa_TooLong ?kp_TooLong ?na_TooLong_needed ?ga_TooLong ?gk_TooLong ?ob_TooLong ?ca_TooLong ?r_TooLong_NoNumber ?r_TooLong_TooLong ?r_TooLong_NoCycle ?r_TooLong_NoRule ?r_TooLong_NoName ?e_NoCycle ?r_NoCycle_NoNumber ?r_NoCycle_NoCycle ?r_NoCycle_NoRule ?r_NoCycle_NoName ?n_Measure ?pg_Measure ?k_Measure ?po_Measure ?sa_Measure ?mk_Measure ?kp_Measure ?na_Measure_base ?na_Measure_terms ?na_Measure_full_count ?na_Measure_full_sum ?n_Sun ?pg_Sun ?k_Sun ?po_Sun ?sa_Sun ?mk_Sun ?kp_Sun ?na_Sun_start ?na_Sun_months ?na_Sun_leap ?na_Sun_years ?n_Change ?pg_Change ?k_Change ?po_Change ?sa_Change ?mk_Change ?kp_Change ?na_Change_old ?na_Change_new ?na_Change_day ?na_Change_last_old ?na_Change_first_new ?n_Calendar ?n_Rule ?n_Reader ?pg_Reader ?k_Reader ?po_Reader ?sa_Reader ?mk_Reader ?kp_Reader ?na_Reader_words ?na_Reader_place ?n_Each ?pg_Each ?k_Each ?po_Each ?sa_Each ?mk_Each ?kp_Each ?na_Each_kept ?na_Each_made_of ?na_Each_words ?ca_Each ?ob_Each ?i_Each_Rule ?n_Dated ?pg_Dated ?k_Dated ?po_Dated ?sa_Dated ?mk_Dated ?kp_Dated ?na_Dated_kept ?na_Dated_made_of ?na_Dated_words ?ca_Dated ?ob_Dated ?i_Dated_Rule ?n_Not ?pg_Not ?k_Not ?po_Not ?sa_Not ?mk_Not ?kp_Not ?na_Not_kept ?na_Not_made_of ?na_Not_words ?ca_Not ?ob_Not ?i_Not_Rule ?n_Both ?pg_Both ?k_Both ?po_Both ?sa_Both ?mk_Both ?kp_Both ?na_Both_kept ?na_Both_made_of ?na_Both_words ?ca_Both ?ob_Both ?i_Both_Rule ?n_But ?pg_But ?k_But ?po_But ?sa_But ?mk_But ?kp_But ?na_But_kept ?na_But_made_of ?na_But_words ?ca_But ?ob_But ?i_But_Rule ?n_Unlike ?pg_Unlike ?k_Unlike ?po_Unlike ?sa_Unlike ?mk_Unlike ?kp_Unlike ?na_Unlike_kept ?na_Unlike_made_of ?na_Unlike_words ?ca_Unlike ?ob_Unlike ?i_Unlike_Rule ?n_Later ?pg_Later ?k_Later ?po_Later ?sa_Later ?mk_Later ?kp_Later ?na_Later_kept ?na_Later_made_of ?na_Later_words ?ca_Later ?ob_Later ?i_Later_Rule ?n_Kth ?pg_Kth ?k_Kth ?po_Kth ?sa_Kth ?mk_Kth ?kp_Kth ?na_Kth_kept ?na_Kth_made_of ?na_Kth_words ?ca_Kth ?ob_Kth ?i_Kth_Rule ?n_Every ?pg_Every ?k_Every ?po_Every ?sa_Every ?mk_Every ?kp_Every ?na_Every_kept ?na_Every_made_of ?na_Every_words ?ca_Every ?ob_Every ?i_Every_Rule ?bsp_Rule ?brd_Rule ?xsp ?xtk ?n_All ?mk_All ?kp_All ?n_No ?mk_No ?kp_No ?n_Either ?mk_Either ?kp_Either ?n_Upon ?mk_Upon ?kp_Upon ?n_Until ?mk_Until ?kp_Until ?n_Near ?mk_Near ?kp_Near ?n_Till ?mk_Till ?kp_Till ?a0 ?l0 ?c0 ?k0 ?u0 ?a1 ?l1 ?c1 ?k1 ?u1 ?q2 ?q3 ?q4 ?q5 ?q6 ?q7 ?q8 ?q9 ?q10 ?q11 ?q12 ?q13 ?q14 ?q15 ?q16 ?a17 ?l17 ?c17 ?k17 ?a18 ?l18 ?c18 ?k18 ?q19 ?q20 ?q21 ?q22 ?q23 ?q24 ?q25 ?q26 ?q27 ?q28 ?a29 ?l29 ?c29 ?k29 ?t29 ?bfc29 ?q30_0 ?q30_1 ?q30_2 ?q30_3 ?q30_4 ?q30_5 ?q30_6 ?q30_7 ?q30_8 ?q31_0 ?q31_1 ?q31_2 ?q31_3 ?q31_4 ?q31_5 ?q31_6 ?q31_7 ?q31_8 ?q32 ?q33 ?q34 ?q35 ?q36 ?q37 ?q38 ?q39 ?q40 ?q41 ?q42 ?q43 ?q44 ?q45 ?q46 ?q47 ?q48 ?q49 ?q50 ?q51 ?q52 ?q53 ?q54 ?a55 ?l55 ?c55 ?k55 ?t55 ?u55 ?q56 ?q57 ?q58 ?q59 ?a60 ?l60 ?c60 ?k60 ?t60 ?u60 ?q61 ?q62 ?q63 ?q64 ?q65 ?q66 ?q67 ?q68 ?q69 ?q70 ?a71 ?l71 ?c71 ?k71 ?t71 ?q72 ?q73 ?a74 ?l74 ?c74 ?k74 ?t74 ?u74 ?q75 ?q76 ?q77 ?q78 ?q79 ?q80 ?q81 ?q82 ?q83 ?q84 ?q85 ?q86 ?q87 ?q88 ?q89 ?q90 ?q91 ?q92 ?q93 ?q94 ?q95 ?q96 ?q97 ?q98 ?q99 ?q100 ?q101 ?q102 ?a103 ?l103 ?c103 ?k103 ?z_range ?z_len ?z_abs ?z_list ?z_sum ?z_all ?z_tuple ?z_min ?z_max ?z_str ?z_isinstance ?z_int ?m_LONGEST ?m_PIECE ?m_GREATEST_N ?m_GREATEST_BASE ?m_MOST_TERMS ?m_MOST_MONTHS ?m_LONGEST_MONTH ?m_MOST_LETTERS ?m_LETTERS ?m_MOST_SIGNS ?m_MOST_FIGURES ?m_FIGURES ?m_MOST_BRACKETS ?tt_PAIR_WORDS ?m_PAIR_WORDS
  (case n_FeastError=>k_is)
  (case n_NoNumber=>k_is)
  (case t_NoNumber=>k_is)
  (case k_NoNumber=>k_is)
  (case b_NoNumber=>k_is)
  (case n_TooLong=>k_is)
  (case t_TooLong=>k_is)
  (case k_TooLong=>k_is)
  (case b_TooLong=>k_is)
  (case n_NoMeasure=>k_is)
  (case n_NoChange=>k_is)
  (case n_NoCycle=>k_is)
  (case t_NoCycle=>k_is)
  (case k_NoCycle=>k_is)
  (case b_NoCycle=>k_is)
  (case n_NoRule=>k_is)
  (case t_NoRule=>k_is)
  (case k_NoRule=>k_is)
  (case b_NoRule=>k_is)
  (case n_NoName=>k_is)
  (case t_NoName=>k_is)
  (case k_NoName=>k_is)
  (case b_NoName=>k_is)
  (case e_NoRule=>k_exc)
  (case r_NoRule_NoRule=>k_is)
  (case o_NoName=>k_is)
  (case om_NoName=>rfl)
  (case od_NoName=>rfl)
  (case oh_NoName=>rfl)
  (case sa_NoName=>k_is)
  (case kp_NoName=>k_is)
  (case e_FeastError=>k_exc)
  (case fs_FeastError=>k_is)
  (case fr_FeastError=>k_is)
  (case ff_FeastError=>k_is)
  (case na_NoName_name=>k_is)
  (case ga_NoName=>k_is)
  (case gk_NoName=>k_is)
  (case ob_NoName=>k_is)
  (case ca_NoName=>k_is)
  (case r_NoName_NoRule=>k_is)
  (case r_NoName_NoName=>k_is)
  (case e_NoNumber=>k_exc)
  (case r_NoNumber_NoNumber=>k_is)
  (case r_NoNumber_NoRule=>k_is)
  (case r_NoNumber_NoName=>k_is)
  (case o_TooLong=>k_is)
  (case om_TooLong=>rfl)
  (case od_TooLong=>rfl)
  (case oh_TooLong=>rfl)
  (case sa_TooLong=>k_is)
  (case kp_TooLong=>k_is)
  (case na_TooLong_needed=>k_is)
  (case ga_TooLong=>k_is)
  (case gk_TooLong=>k_is)
  (case ob_TooLong=>k_is)
  (case ca_TooLong=>k_is)
  (case r_TooLong_NoNumber=>k_is)
  (case r_TooLong_TooLong=>k_is)
  (case r_TooLong_NoCycle=>k_is)
  (case r_TooLong_NoRule=>k_is)
  (case r_TooLong_NoName=>k_is)
  (case e_NoCycle=>k_exc)
  (case r_NoCycle_NoNumber=>k_is)
  (case r_NoCycle_NoCycle=>k_is)
  (case r_NoCycle_NoRule=>k_is)
  (case r_NoCycle_NoName=>k_is)
  (case n_Measure=>k_is)
  (case pg_Measure=>k_is)
  (case k_Measure=>k_is)
  (case po_Measure=>k_is)
  (case sa_Measure=>k_is)
  (case mk_Measure=>k_is)
  (case kp_Measure=>k_is)
  (case na_Measure_base=>k_is)
  (case na_Measure_terms=>k_is)
  (case na_Measure_full_count=>k_is)
  (case na_Measure_full_sum=>k_is)
  (case n_Sun=>k_is)
  (case pg_Sun=>k_is)
  (case k_Sun=>k_is)
  (case po_Sun=>k_is)
  (case sa_Sun=>k_is)
  (case mk_Sun=>k_is)
  (case kp_Sun=>k_is)
  (case na_Sun_start=>k_is)
  (case na_Sun_months=>k_is)
  (case na_Sun_leap=>k_is)
  (case na_Sun_years=>k_is)
  (case n_Change=>k_is)
  (case pg_Change=>k_is)
  (case k_Change=>k_is)
  (case po_Change=>k_is)
  (case sa_Change=>k_is)
  (case mk_Change=>k_is)
  (case kp_Change=>k_is)
  (case na_Change_old=>k_is)
  (case na_Change_new=>k_is)
  (case na_Change_day=>k_is)
  (case na_Change_last_old=>k_is)
  (case na_Change_first_new=>k_is)
  (case n_Calendar=>k_is)
  (case n_Rule=>k_is)
  (case n_Reader=>k_is)
  (case pg_Reader=>k_is)
  (case k_Reader=>k_is)
  (case po_Reader=>k_is)
  (case sa_Reader=>k_is)
  (case mk_Reader=>k_is)
  (case kp_Reader=>k_is)
  (case na_Reader_words=>k_is)
  (case na_Reader_place=>k_is)
  (case n_Each=>k_is)
  (case pg_Each=>k_is)
  (case k_Each=>k_is)
  (case po_Each=>k_is)
  (case sa_Each=>k_is)
  (case mk_Each=>k_is)
  (case kp_Each=>k_is)
  (case na_Each_kept=>k_is)
  (case na_Each_made_of=>k_is)
  (case na_Each_words=>k_is)
  (case ca_Each=>k_is)
  (case ob_Each=>k_is)
  (case i_Each_Rule=>kit_is)
  (case n_Dated=>k_is)
  (case pg_Dated=>k_is)
  (case k_Dated=>k_is)
  (case po_Dated=>k_is)
  (case sa_Dated=>k_is)
  (case mk_Dated=>k_is)
  (case kp_Dated=>k_is)
  (case na_Dated_kept=>k_is)
  (case na_Dated_made_of=>k_is)
  (case na_Dated_words=>k_is)
  (case ca_Dated=>k_is)
  (case ob_Dated=>k_is)
  (case i_Dated_Rule=>kit_is)
  (case n_Not=>k_is)
  (case pg_Not=>k_is)
  (case k_Not=>k_is)
  (case po_Not=>k_is)
  (case sa_Not=>k_is)
  (case mk_Not=>k_is)
  (case kp_Not=>k_is)
  (case na_Not_kept=>k_is)
  (case na_Not_made_of=>k_is)
  (case na_Not_words=>k_is)
  (case ca_Not=>k_is)
  (case ob_Not=>k_is)
  (case i_Not_Rule=>kit_is)
  (case n_Both=>k_is)
  (case pg_Both=>k_is)
  (case k_Both=>k_is)
  (case po_Both=>k_is)
  (case sa_Both=>k_is)
  (case mk_Both=>k_is)
  (case kp_Both=>k_is)
  (case na_Both_kept=>k_is)
  (case na_Both_made_of=>k_is)
  (case na_Both_words=>k_is)
  (case ca_Both=>k_is)
  (case ob_Both=>k_is)
  (case i_Both_Rule=>kit_is)
  (case n_But=>k_is)
  (case pg_But=>k_is)
  (case k_But=>k_is)
  (case po_But=>k_is)
  (case sa_But=>k_is)
  (case mk_But=>k_is)
  (case kp_But=>k_is)
  (case na_But_kept=>k_is)
  (case na_But_made_of=>k_is)
  (case na_But_words=>k_is)
  (case ca_But=>k_is)
  (case ob_But=>k_is)
  (case i_But_Rule=>kit_is)
  (case n_Unlike=>k_is)
  (case pg_Unlike=>k_is)
  (case k_Unlike=>k_is)
  (case po_Unlike=>k_is)
  (case sa_Unlike=>k_is)
  (case mk_Unlike=>k_is)
  (case kp_Unlike=>k_is)
  (case na_Unlike_kept=>k_is)
  (case na_Unlike_made_of=>k_is)
  (case na_Unlike_words=>k_is)
  (case ca_Unlike=>k_is)
  (case ob_Unlike=>k_is)
  (case i_Unlike_Rule=>kit_is)
  (case n_Later=>k_is)
  (case pg_Later=>k_is)
  (case k_Later=>k_is)
  (case po_Later=>k_is)
  (case sa_Later=>k_is)
  (case mk_Later=>k_is)
  (case kp_Later=>k_is)
  (case na_Later_kept=>k_is)
  (case na_Later_made_of=>k_is)
  (case na_Later_words=>k_is)
  (case ca_Later=>k_is)
  (case ob_Later=>k_is)
  (case i_Later_Rule=>kit_is)
  (case n_Kth=>k_is)
  (case pg_Kth=>k_is)
  (case k_Kth=>k_is)
  (case po_Kth=>k_is)
  (case sa_Kth=>k_is)
  (case mk_Kth=>k_is)
  (case kp_Kth=>k_is)
  (case na_Kth_kept=>k_is)
  (case na_Kth_made_of=>k_is)
  (case na_Kth_words=>k_is)
  (case ca_Kth=>k_is)
  (case ob_Kth=>k_is)
  (case i_Kth_Rule=>kit_is)
  (case n_Every=>k_is)
  (case pg_Every=>k_is)
  (case k_Every=>k_is)
  (case po_Every=>k_is)
  (case sa_Every=>k_is)
  (case mk_Every=>k_is)
  (case kp_Every=>k_is)
  (case na_Every_kept=>k_is)
  (case na_Every_made_of=>k_is)
  (case na_Every_words=>k_is)
  (case ca_Every=>k_is)
  (case ob_Every=>k_is)
  (case i_Every_Rule=>kit_is)
  (case bsp_Rule=>k_is)
  (case brd_Rule=>k_is)
  (case xsp=>k_is)
  (case xtk=>k_is)
  (case n_All=>k_is)
  (case mk_All=>k_is)
  (case kp_All=>k_is)
  (case n_No=>k_is)
  (case mk_No=>k_is)
  (case kp_No=>k_is)
  (case n_Either=>k_is)
  (case mk_Either=>k_is)
  (case kp_Either=>k_is)
  (case n_Upon=>k_is)
  (case mk_Upon=>k_is)
  (case kp_Upon=>k_is)
  (case n_Until=>k_is)
  (case mk_Until=>k_is)
  (case kp_Until=>k_is)
  (case n_Near=>k_is)
  (case mk_Near=>k_is)
  (case kp_Near=>k_is)
  (case n_Till=>k_is)
  (case mk_Till=>k_is)
  (case kp_Till=>k_is)
  (case a0=>k_is)
  (case l0=>k_is)
  (case c0=>k_is)
  (case k0=>k_is)
  (case u0=>k_is)
  (case a1=>k_is)
  (case l1=>k_is)
  (case c1=>k_is)
  (case k1=>k_is)
  (case u1=>k_is)
  (case q2=>walk_at "g")
  (case q3=>walk_at "g")
  (case q4=>walk_at "g")
  (case q5=>walk_at "g")
  (case q6=>walk_at "g")
  (case q7=>walk_at "g")
  (case q8=>walk_at "g")
  (case q9=>walk_at "g")
  (case q10=>walk_at "g")
  (case q11=>walk_at "g")
  (case q12=>walk_at "g")
  (case q13=>walk_at "g")
  (case q14=>walk_at "g")
  (case q15=>walk_at "g")
  (case q16=>walk_at "g")
  (case a17=>k_is)
  (case l17=>k_is)
  (case c17=>k_is)
  (case k17=>k_is)
  (case a18=>k_is)
  (case l18=>k_is)
  (case c18=>k_is)
  (case k18=>k_is)
  (case q19=>walk_at "g")
  (case q20=>walk_at "g")
  (case q21=>walk_at "g")
  (case q22=>walk_at "g")
  (case q23=>walk_at "g")
  (case q24=>walk_at "g")
  (case q25=>walk_at "g")
  (case q26=>walk_at "g")
  (case q27=>walk_at "g")
  (case q28=>walk_at "g")
  (case a29=>k_is)
  (case l29=>k_is)
  (case c29=>k_is)
  (case k29=>k_is)
  (case t29=>k_is)
  (case bfc29=>k_is)
  (case q30_0=>walk_at "h")
  (case q30_1=>walk_at "h")
  (case q30_2=>walk_at "h")
  (case q30_3=>walk_at "h")
  (case q30_4=>walk_at "h")
  (case q30_5=>walk_at "h")
  (case q30_6=>walk_at "h")
  (case q30_7=>walk_at "h")
  (case q30_8=>walk_at "h")
  (case q31_0=>walk_at "h")
  (case q31_1=>walk_at "h")
  (case q31_2=>walk_at "h")
  (case q31_3=>walk_at "h")
  (case q31_4=>walk_at "h")
  (case q31_5=>walk_at "h")
  (case q31_6=>walk_at "h")
  (case q31_7=>walk_at "h")
  (case q31_8=>walk_at "h")
  (case q32=>walk_at "g")
  (case q33=>walk_at "h")
  (case q34=>walk_at "h")
  (case q35=>walk_at "h")
  (case q36=>walk_at "h")
  (case q37=>walk_at "h")
  (case q38=>walk_at "h")
  (case q39=>walk_at "h")
  (case q40=>walk_at "h")
  (case q41=>walk_at "h")
  (case q42=>walk_at "h")
  (case q43=>walk_at "h")
  (case q44=>walk_at "h")
  (case q45=>walk_at "h")
  (case q46=>walk_at "h")
  (case q47=>walk_at "h")
  (case q48=>walk_at "g")
  (case q49=>walk_at "g")
  (case q50=>walk_at "g")
  (case q51=>walk_at "g")
  (case q52=>walk_at "g")
  (case q53=>walk_at "g")
  (case q54=>walk_at "h")
  (case a55=>k_is)
  (case l55=>k_is)
  (case c55=>k_is)
  (case k55=>k_is)
  (case t55=>k_is)
  (case u55=>k_is)
  (case q56=>walk_at "h")
  (case q57=>walk_at "h")
  (case q58=>walk_at "h")
  (case q59=>walk_at "g")
  (case a60=>k_is)
  (case l60=>k_is)
  (case c60=>k_is)
  (case k60=>k_is)
  (case t60=>k_is)
  (case u60=>k_is)
  (case q61=>walk_at "h")
  (case q62=>walk_at "h")
  (case q63=>walk_at "h")
  (case q64=>walk_at "h")
  (case q65=>walk_at "h")
  (case q66=>walk_at "h")
  (case q67=>walk_at "h")
  (case q68=>walk_at "g")
  (case q69=>walk_at "g")
  (case q70=>walk_at "g")
  (case a71=>k_is)
  (case l71=>k_is)
  (case c71=>k_is)
  (case k71=>k_is)
  (case t71=>k_is)
  (case q72=>walk_at "g")
  (case q73=>walk_at "g")
  (case a74=>k_is)
  (case l74=>k_is)
  (case c74=>k_is)
  (case k74=>k_is)
  (case t74=>k_is)
  (case u74=>k_is)
  (case q75=>walk_at "h")
  (case q76=>walk_at "h")
  (case q77=>walk_at "h")
  (case q78=>walk_at "g")
  (case q79=>walk_at "g")
  (case q80=>walk_at "g")
  (case q81=>walk_at "g")
  (case q82=>walk_at "g")
  (case q83=>walk_at "g")
  (case q84=>walk_at "g")
  (case q85=>walk_at "g")
  (case q86=>walk_at "g")
  (case q87=>walk_at "g")
  (case q88=>walk_at "g")
  (case q89=>walk_at "g")
  (case q90=>walk_at "g")
  (case q91=>walk_at "g")
  (case q92=>walk_at "g")
  (case q93=>walk_at "g")
  (case q94=>walk_at "g")
  (case q95=>walk_at "g")
  (case q96=>walk_at "g")
  (case q97=>walk_at "g")
  (case q98=>walk_at "g")
  (case q99=>walk_at "g")
  (case q100=>walk_at "g")
  (case q101=>walk_at "g")
  (case q102=>walk_at "g")
  (case a103=>k_is)
  (case l103=>k_is)
  (case c103=>k_is)
  (case k103=>k_is)
  (case z_range=>k_is)
  (case z_len=>k_is)
  (case z_abs=>k_is)
  (case z_list=>k_is)
  (case z_sum=>k_is)
  (case z_all=>k_is)
  (case z_tuple=>k_is)
  (case z_min=>k_is)
  (case z_max=>k_is)
  (case z_str=>k_is)
  (case z_isinstance=>k_is)
  (case z_int=>k_is)
  (case m_LONGEST=>k_is)
  (case m_PIECE=>k_is)
  (case m_GREATEST_N=>k_is)
  (case m_GREATEST_BASE=>k_is)
  (case m_MOST_TERMS=>k_is)
  (case m_MOST_MONTHS=>k_is)
  (case m_LONGEST_MONTH=>k_is)
  (case m_MOST_LETTERS=>k_is)
  (case m_LETTERS=>k_is)
  (case m_MOST_SIGNS=>k_is)
  (case m_MOST_FIGURES=>k_is)
  (case m_FIGURES=>k_is)
  (case m_MOST_BRACKETS=>k_is)
  (case m_PAIR_WORDS=>k_is)
  (case tt_PAIR_WORDS=>k_is)
#print axioms PySem.Challenge.cw_feastwheel_k76_first_refusal_met_holds
