import PyProof.Rows.All
import Wide.All
import KE.KNestM
import KE.RegKIsAll
import OpenK.KOwn
import OpenK.KLine
import Wide.FinOn
import Open.Tops
import Lean
import PyProof.EqAt
import PyProof.EqKinds
import PyProof.TupleCall
import KE.KEqDict
import KE.KDictOf
import KE.KItem
import KE.IntBitsLaws
import KE.KEqSeq
import KE.KIntText
import KE.IntTextLaws
import PySem.Challenge.RW_feastwheel_k85_names_put_again
set_option Elab.async false
set_option linter.all false
set_option compiler.extract_closed false
set_option bootstrap.genMatcherCode false
set_option genSizeOf false
open Lean in
local macro_rules | `(command| #print $s:str) => do
  let mut xs := #[]
  let l := s.getString.splitOn " "
  for i in [0:l.length / 2] do
    let mut n := 0
    for c in l[2 * i + 1]!.toList do
      n := n + c.toNat - 48
      xs := xs.push (mkIdent (.mkSimple s!"tw{hash (Name.mkStr2 "sh" s!"{l[2 * i]!}_{n}")}"))
  MonadRef.withRef .missing do return mkNullNode (<- xs.mapM fun x => `(command| theorem $x:ident : True := ⟨⟩))
open Lean in
local macro_rules | `(tactic| walk_at $s:str) => do
  let k := s.getString
  unless k == "K" || k == "A" do Macro.throwUnsupported
  let mut r := #[]
  let mut e := 0
  let mut d : Int := 0
  for x in "3.1843 11.-1851 62 0.195 0.-195 2.4 63 2.4 611215 2.4 63 2.4 611215 2.4 611215 2.4 63 2.4 63 2.4 63 2.4 63 2.4 611215 2.4 6321231213231212 7.3 121312131212?11213121312131212 14.3 12131212511213121312131212 21.3 1213121312131213121312131212711213121312131212 0.3 1212>1121323121323231212 7.3.2 121323121312131217 9.3 12131214 0.189 0.-189.2 <11212 0.4 621213121312131213121325 2.3 1212 0.4 611213121312132312131215 2.3 23121323121312131212 0.4 611213121312131215 58.3 1213121312141212 0.3 12131212 45.3.2 121312131213121312131214 0.375 0.-375.2 2.4 611215 2.4 611215211212 0.4 6112152112131212 0.4 621215 2.4 611215 2.4 611215 2.4 611215 2.4 611215 2.4 611215 2.4 611215 2.4 611215 2.4 611215 2.4 611215 2.4 611215 2.4 611215 2.4 61121521 7.3 12131213121721121312131212 0.3 121312131213121312131213121312131213121312131212 19.6.18 121212 0.5 12131213121312131213121312131213121312127112131212 0.3 12131213121412131212 0.5 121323121271121327211212 0.3 121312131213121312131213121323121322".splitOn " " do
    let z := x.toList.map fun c => (c.toNat : Int) - 48
    for y in if x.contains '.' then [(x.splitOn ".").map (·.toInt!)] else (List.range (z.length / 2)).map fun i => [z[2 * i]!, 0, z[2 * i + 1]!] do
      e := e + y[0]!.toNat
      d := d + y[1]!
      for _ in [0:(y.getD 2 1).toNat] do
        r := r.push (Syntax.mkNumLit (toString e), mkIdent (.mkSimple s!"o_{e + d}"))
        e := e + 1
  if k == "A" then `(tactic| exact [$(r.map (·.1)),*])
  else `(tactic| exact $(<- r.foldrM (fun p z => `((nat_lit $(p.1), $(p.2) $(mkIdent `P)) :: $z)) (<- `([]))))
namespace PySem.W.Fast
#print "tree 4?@G@GG@@@@GX~lc`i:hYcglGNUHGGGGGGGGGGGHkFNWiu o 121121112111111122111121111112211112112111111111221111211111122111121121111111112211112112111111111221111211111122111121111112211112111111221111211111122111121121111111112211112111111121112111112111211112221111121111121111121111121112111211121111121111121111121111121111222111112111112111112111211111211111211111211111211111211111211112221111121111121111121111121111121111121111121111121111121111121111121111222111112111112111112111112111211111211121112111122111211121111121112111112111112111111111112211121121111121111111111112111211121111221111211121111121111121111121111121111121111111222111122111121121111121111121111121112111112111111111222111211111211121111121111121111221111211211111211111211111211111111112111122211111211111211111211111211111211111211111211111211111211111121111222111112111112111112111112111211111211111211221112111211111211111211111211111211111211111111111221111211211111111122111121121111111111211112211112112111111111121111121111221111211121111111112211112112111111111221111211211111111122111121121111111112211112112111111111221111211211111111122111121121111111112211112112111111111221111211211111111122111121121111111112211112112111111111221111211211111111122111121121111111111221112112111112111112111111111111211111211111211112221111121111121111121111121111121111121111121111121111121111121111121111222111112111112112211111111111111111111211114221111121111121111121111121111121111121111121111121111121111121111121111121111222111112111112111111211111211114221111121112111111112112111112111111111121111222111112111112111112111112111112111112111112111211111211 sts 4A@G@GG@@@@GX~lc`i:hYcglGNUHGGGGGGGGGGGHkFPYg env 1"
def tw9904345304468027102:PySem.Program:=PySem.Challenge.pw_feastwheel_k85_names_put_again
theorem te9904345304468027102:PySem.Challenge.pw_feastwheel_k85_names_put_again=tw9904345304468027102:=rfl
end PySem.W.Fast
open PySem PySem.W PyProof.Rows in
set_option maxRecDepth 100000 in
set_option maxHeartbeats 0 in
open_shared sh for PySem.Challenge.pw_feastwheel_k85_names_put_again leaving 0
namespace Hd
open PySem PySem.W PySem.Calls PyProof.Rows sh
set_option maxRecDepth 100000
set_option maxHeartbeats 0
theorem ws(h:PySem.Challenge.rw_feastwheel_k85_names_put_again.row.wellSaid=true->PySem.Challenge.rw_feastwheel_k85_names_put_again.row.Holds):PySem.Challenge.rw_feastwheel_k85_names_put_again.Holds:=by
  w_on; o_law; exact h (by assumption)
noncomputable abbrev pw:Program:=PySem.Challenge.pw_feastwheel_k85_names_put_again
noncomputable def vw:Program:={pw with main:={pw.main with body:=pw.main.body.drop 204}}
noncomputable def lo:List Str:=(["FeastError","NoNumber","TooLong","NoMeasure","NoDate","InGap","NoChange","NoCycle","NoText","NoRule","NoName","NoRow","FIGURES","MOST_FIGURES","LETTERS","MOST_LETTERS","MOST_SIGNS","is_name","is_readable","is_number","read_number","read_place","read_date","place_text","date_text","MOST_ROWS","widest","names_on","almanac","refuse_below_one","divisor","equation","common","met","ahead","LONGEST","PIECE","refuse_too_long","round_by","days_in","on","on_rounds","full_bits","bits_by","stretched","primes_of","comes_again","least","common_size","both","either","unlike","without","other_days","later","folded","next_day","last_day","ones_in","days_ahead","how_many","place_of_one","nth_day","GREATEST_BASE","MOST_TERMS","GREATEST_N","term_on","signs_upto","is_term","least_length","refuse_measure","period_of","Measure","MOST_MONTHS","LONGEST_MONTH","Calendar","term_text","term_words","refuse_months","Sun","refuse_part","Moon","read_numbers","read_term","read_terms","read_sun","read_moon","read_calendar","Change","moved","MOST_PAIRS","first_parted","same","first_of_pairs","first_met","paper_of","meeting","within","refuse_wanted","days_of_month","days_of_year","dated","gathered","upon","until","till","nearer_ahead","near","kth","every","Rule","All","No","each_text","Each","wanted_text","dated_text","Dated","Not","Both","Either","But","Unlike","Later","Upon","Until","Near","Till","Kth","Every","MOST_BRACKETS","PAIR_WORDS","Reader","words_of","take_word","take_number","take_wanted","take_each","take_date","take_numbered","take_every","take_pair","take_within","take_plan","made_date","made_pair","made","read_rule","told_by_one","parts_in","shorter","FORMS","tell_date","tell_day","tell_move","tell_on","day_or_never","tell_next","tell_last","tell_nth","tell_count","tell_size","tell_same","paper_text","tell_meet","tell_within","tell_shorter","tell_show","tell_almanac","ANSWERS","words_of_row","kept_by","looked_up","named_rules","keep","Desk","_law_cell_at","_law_name","_law_calendar_text","_law_rule_text","_law_day_text","_law_rule_right","_law_dates_right","_law_no_cycle","_law_put","_law_changed"]:List String).map Str.ofString
noncomputable def bd:List Stmt:=behindTheImports pw
noncomputable def cd:Code:=.body bd sh.env_1
noncomputable def S0(w:World)(os:OsState):Shared:=⟨boot_heap w.params,Array.mk [],boot_drawn,boot_toks,os⟩
noncomputable def tB(w:World)(os:OsState):SharedT:=⟨sh.tree_4 w.params,15,{},Array.mk [],{},187,os⟩
noncomputable def tK(w:World)(os:OsState):SharedT:=⟨sh.tree_1913 w.params,1741,{},Array.mk [],{},2636,os⟩
noncomputable abbrev hK(w:World)(os:OsState):Shared:=(tK w os).abs
noncomputable def xt(s:Shared):Bool:=xlAt vw [] s&&recOk (RowW.records PySem.Challenge.rw_feastwheel_k85_names_put_again.row.toRowW) s
section
variable(w:World)(os:OsState)
theorem pre:topGo treeTable pw w 11 (some (.ref 6)) 12 (S0 w os) (topStub pw)=some ((tB w os).abs,⟨denote treeTable cd,cd,⟨0,0,0,0⟩,[topFrame ⟨0,0,0,0⟩]⟩):=by kernel_rfl
theorem block:segRun treeTable pw w 11 (some (.ref 6)) 1 1 (tB w os).abs (blockOf bd sh.env_1 cd ⟨0,0,0,0⟩ [topFrame ⟨0,0,0,0⟩])=some (.next,(tB w os).abs,cd,⟨0,0,0,0⟩):=by kernel_rfl
theorem fin:topRun treeTable pw w 11 (some (.ref 6)) 2 (tK w os).abs (restOf [] sh.env_1 cd ⟨1096,0,1125,92⟩ [topFrame ⟨0,0,0,0⟩])=some (tK w os).abs:=by kernel_rfl
theorem run:topRun treeTable pw w 11 (some (.ref 6)) 14315 (S0 w os) (topStub pw)=some (tK w os).abs:=go_top (n:=12) (N:=14303) (pre w os) (piece_block (n:=1) (N:=14302) (block w os) (sh.chain pw bd w os [] 2 _ (fin w os)))
theorem siz:((boot_heap w.params).isNs mainGlobals&&(Array.mk []:Array GenState).size==0,(boot_heap w.params).objs.size,(boot_heap w.params).nsMap mainGlobals "__annotations__")=(true,11,some (.ref 6)):=by kernel_rfl
theorem l1:namesBound pw (hK w os).heap=true:=by kernel_rfl
theorem l2:gensDone (hK w os)=true:=by kernel_rfl
theorem l3:laidKept (boot_heap w.params) (hK w os).heap=true:=by kernel_rfl
theorem l0:staticsOk (importedModules pw.main.body) (boot_heap w.params) (hK w os).heap=true:=by kernel_rfl
theorem s1:seen ((recsOf vw).map (·.name)) (ownsOf vw) [] {hK w os with gens:=#[]}=expectedOf vw:=by kernel_rfl
theorem s2:(hK w os).heap.bltView=bltViewBooted:=by kernel_rfl
theorem s3:(hK w os).heap.keysOk (looseW vw lo) ((recsOf vw).map (·.name)) ((litsOf vw).map (·.1)) ((clssOf vw (looseW vw lo)).map (·.name))=true:=by kernel_rfl
theorem s4:(hK w os).heap.accountedOkI (importedModules pw.main.body)=true:=by kernel_rfl
theorem s5:(hK w os).heap.isNs mainGlobals=true:=by kernel_rfl
theorem s6:(hK w os).heap.isNs builtinsNs=true:=by kernel_rfl
theorem s7:tablesOk vw (hK w os).heap=true:=by kernel_rfl
theorem s8:xt (hK w os)=true:=by kernel_rfl
theorem s9:tabsOk vw (hK w os)=true:=by kernel_rfl
theorem t1:pinSeenD vw (drecsOf vw) (hK w os)=pinGoodD (drecsOf vw):=by kernel_rfl
theorem t2:plainSeenE vw (looseW vw lo) (hK w os)=plainGoodE vw (looseW vw lo):=by kernel_rfl
theorem t3:plainSeenD vw lo (hK w os)=plainGoodD vw lo:=by kernel_rfl
theorem t4:wideSeen vw (hK w os)=wideGood vw:=by kernel_rfl
theorem t5:clsSeenW vw lo (hK w os)=clsGoodW vw lo:=by kernel_rfl
end
noncomputable def K(P:Params):Frag:=(nat_lit 2,boot_o_2 P)::(by walk_at"K")
noncomputable def as:List Addr:=2::(by walk_at"A")
theorem mapT{t:BT}{n:Nat}{l:Life}{as:List Addr}(h:(as.all fun a=>Nat.blt a n&&(t.get a).isSome)=true):as.map (absHeap t n l).get?=as.map fun a=>(t.get a).bind alive:=
  List.map_congr_left fun a ha=>by
    have e:=Bool.and_eq_true_iff.mp (List.all_eq_true.mp h a ha);obtain ⟨o,ho⟩:=Option.isSome_iff_exists.mp e.2;rw [abs_get (of_decide_eq_true (by simpa [Nat.blt_eq] using e.1)) ho,ho]; rfl
theorem hy(w:World)(os:OsState):as.map (hK w os).heap.get?=(K w.params).map fun p=>some p.2:=(mapT (t:=sh.tree_1913 w.params) (n:=1741) (l:={}) (by kernel_rfl)).trans (by kernel_rfl)
noncomputable def hk:Hook:=kHook K as (fun _=>by kernel_rfl)
theorem left:LeftO PySem.Challenge.rw_feastwheel_k85_names_put_again.row.prog vw lo xt hk.obs hk.val 99999:=by
  refine LeftO.of_pieces (H₀:=boot_heap) (H₁:=fun P=>absHeap (sh.tree_1913 P) 1741 {}) (gs₀:=Array.mk []) (gs₁:=Array.mk []) (d₀:=boot_drawn) (d₁:={}) (k₀:=boot_toks) (k₁:=2636) (M:=14315) (boot_open (by kernel_rfl) (by kernel_rfl) fun s=>by kernel_rfl) siz run (by kernel_rfl) fun w=>funext fun os=>Prod.ext ?_ (Prod.ext ?_ (hy w os))
  · exact look_both (look_both (look_both (l0 w os) (l1 w os)) (l2 w os)) (l3 w os)
  · show openSeen vw lo (importedModules pw.main.body) xt true (hK w os)=openGood vw lo
    unfold openSeen openGood;rw [s1 w os,s2 w os,s3 w os,s4 w os,s5 w os,s6 w os,s7 w os,s8 w os,s9 w os,t1 w os,t2 w os,t3 w os,t4 w os,t5 w os];rfl
def op(said:PySem.Challenge.rw_feastwheel_k85_names_put_again.row.wellSaid=true):=fun hc=>holds_open (q:=vw) (loose:=lo) (Xt:=xt) (XP:=XL vw []) (Yf:=hk.obs) (Ya:=hk.val) (YP:=hk.says) (N:=99999) left hk.of hk.keeps (fun s e=>xl_of s (Bool.and_eq_true_iff.mp e).1) XL.keeps (by rfl) (by rfl) (by rfl) (fun s e=>recFacts_of (Bool.and_eq_true_iff.mp e).2) (by rfl) said (by decide +kernel) ⟨rfl,rfl,rfl,rfl,rfl,by decide +kernel⟩ (by w_witness2) hc
end Hd
theorem zz(h:1=1:=by rfl):1=1:=h
local macro_rules | `(‹$T›)=>`(autoParam $T zz._auto_1)
local macro_rules | `(tactic| ac_rfl)=> `(tactic| decide +kernel)
local macro_rules | `(⋯)=> `(by lia)
local macro_rules | `(nofun)=> `(by decide)
local macro_rules | `(∅)=> `(by ac_rfl)
local macro_rules | `(tactic| walk_at"o")=> `(tactic| first | exact Or.inl rfl | exact Or.inr rfl)
local macro_rules | `(tactic| walk_at"s")=> `(tactic| exact ⟨rfl,rfl,rfl,by ac_rfl,rfl,by ac_rfl,by ac_rfl⟩)
set_option maxRecDepth 100000
noncomputable abbrev Fr:=PySem.W.Frag
def jp:=@PySem.wpAny_bind
def js:=@List.length_map
def jv:=@PySem.Heap.get?_push_of_some
def qc:=@List.mem_cons_self
def qf:=@List.mem_cons_of_mem
def qg:=@Nat.le_refl
def qh:=@List.mem_cons
def qm:=@List.length_cons
def qo:=@List.map_cons
def qq:=@List.length_append
def qr:=@PyProof.Rows.boot_str
def qv:=@Bool.false_ne_true
def zd:=@List.getElem?_eq_some_iff
def ze:=@PySem.wpAny_pure
def zh:=@List.getElem?_eq_getElem
def zi:=@PySem.Heap.get?_push_size
def zk:=@Nat.lt_of_lt_of_le
def zn:=@Nat.le_trans
def zo:=@PySem.Heap.lt_size
def zt:=@List.size_toArray
def zv:=@List.mem_singleton
def xa:=@List.getElem?_map
def xb:=@Int.emod_lt_of_pos
def xc:=@Int.toNat_natCast
def xh:=@PySem.boot_len
def xi:=@List.mem_of_getElem?
def xk:=@Int.emod_nonneg
def xo:=@if_pos
def xp:=@if_neg
def xy:=@List.append_nil
def xz:=@Option.some.inj
def yi:=@congrArg
def yk:=@PySem.Heap.get?_update_other
def yv:=@List.getD_eq_getElem?_getD
def yy:=@List.sum_cons
def uu:=@Option.map_eq_some_iff
def va:=@Nat.lt_of_le_of_lt
def vb:=@Nat.pow_le_pow_right
def vc:=@PySem.F.plainAttrs_list
def ve:=@PySem.F.plainAttrs_str
def vi:=@List.mem_map
def vj:=@Nat.zero_le
def vk:=@List.map_map
def vt:=@List.mem_append_right
def vv:=@Nat.ne_of_lt
def vx:=@PySem.W.mg_none_of
def ka:=@Array.length_toList
def kc:=@List.drop_of_length_le
def ke:=@List.take_of_length_le
def kg:=@Nat.eq_of_testBit_eq
def ki:=@List.append_assoc
def ko:=@List.mem_append
def kq:=@Nat.two_pow_pos
def kt:=@Int.mul_le_mul_of_nonneg_right
def ku:=@Bool.and_eq_true
def kx:=@List.all_eq_true
def ky:=@List.not_mem_nil
def kz:=@List.drop_eq_getElem_cons
def Jn:=@Nat.shiftRight_eq_div_pow
def Qb:=@PySem.wpAny_mono
def Qr:=@Int.le_of_lt
def Zl:=@PySem.wpAny_field
def Zp:=@PySem.W.callWith_K
def Zs:=@List.length_replicate
def Xs:=@List.replicate_succ
def ja0:=@PyProof.Rows.callWith_type1
def ja1:=@Int.mul_le_mul
def ja2:=@Nat.le_add_right
def ja3:=@List.takeWhile_append_dropWhile
def ja4:=@List.take_add_one
def ja5:=@Int.mul_one
def ja6:=@PySem.wpAny_Call_Name_kw
def ja7:=@beq_iff_eq
def ja8:=@Bool.eq_iff_iff
def ja9:=@Nat.testBit_and
def jb0:=@PySem.W.kia_one
def jb1:=@List.dropWhile_cons
def jb2:=@PySem.Heap.get?_update_self
def jb3:=@List.flatten_cons
def jb4:=@List.length_range
def jb5:=@PySem.W.methodCall_KW
def jb6:=@List.length_eq_zero_iff
def jb7:=@List.map_append
def jb8:=@List.length_drop
def jb9:=@Array.getElem?_eq_some_iff
def jc0:=@List.getElem?_append_right
def jc1:=@Classical.epsilon_spec
def jc2:=@Int.ediv_eq_zero_of_lt
def jc3:=@Int.mul_add
def jc4:=@PySem.wpAny_newObj_type
def jc5:=@Nat.testBit_or
def jc6:=@Option.toList_some
def jc7:=@PySem.F.slot_list_extend
def jc8:=@PySem.F.type_list_extend
def jc9:=@List.take_length
def jd0:=@Nat.testBit_succ
def jd1:=@Nat.lt_irrefl
def jd2:=@PySem.wpAny_callSpecial?_slot
def jd3:=@PySem.wpAny_seqItems
def jd4:=@List.flatMap_cons
def jd5:=@List.filter_eq_self
def jd6:=@Nat.testBit_lt_two_pow
def jd7:=@PySem.F.slot_str_split
def jd8:=@PySem.F.type_str_split
def jd9:=@Array.toList_inj
def je0:=@Int.mul_comm
def je1:=@List.count_cons_of_ne
def je2:=@PySem.W.mg_of
def je3:=@PySem.codeAny_mono
def je4:=@PySem.wpAny_setField_rec
def je5:=@List.getElem?_append_left
def je6:=@Int.lt_trichotomy
def je7:=@Int.mul_left_comm
def je8:=@Int.natCast_pow
def je9:=@List.forIn_cons
def jf0:=@List.length_nil
def jf1:=@Option.isSome_iff_exists
def jf2:=@PyProof.Rows.slot_tuple_getitem
def jf3:=@PySem.F.slot_list_append
def jf4:=@PySem.F.type_list_append
def jf5:=@PySem.wpAny_passesOwn
def jf6:=@PySem.wpAny_pyIter_list
def jf7:=@PySem.wpAny_truthy_bool
def jf8:=@Int.mul_le_mul_of_nonpos_right
def jf9:=@Array.toList_append
def jg0:=@Int.toNat_of_nonneg
def jg1:=@List.flatMap_append
def jg2:=@Nat.mul_le_mul_left
def jg3:=@Nat.testBit_mod_two_pow
def jg4:=@PySem.mem_of_lookup
def jg5:=@Int.mul_le_mul_of_nonneg_left
def jg6:=@List.cons_append
def jg7:=@List.filter_cons
def jg8:=@Nat.mod_eq_of_lt
def jg9:=@Nat.zero_testBit
def jh0:=@PySem.Heap.size_push
def jh1:=@Nat.testBit_shiftRight
def jh2:=@PyProof.Rows.boot_isinstance
def jh3:=@PySem.wpAny_pyIter_tuple
def jh4:=@Array.getElem?_setIfInBounds_self_of_lt
def jh5:=@Int.add_zero
def jh6:=@Int.one_mul
def jh7:=@Int.zero_add
def jh8:=@List.find?_cons
def jh9:=@List.getElem?_eq_none
def ji0:=@List.nil_append
def ji1:=@Nat.testBit_two_pow_sub_one
def ji2:=@PySem.F.slot_int_bit_length
def ji3:=@PySem.F.type_int_bit_length
def ji4:=@List.mem_append_left
def ji5:=@Nat.mul_le_mul_right
def ji6:=@Int.mul_nonneg
def ji7:=@List.forIn_nil
def ji8:=@Int.ediv_le_self
def ji9:=@List.getElem_mem
def jj0:=@List.length_take
def jj1:=@Nat.lt_of_not_le
def jj2:=@Nat.testBit_zero
def jj3:=@PySem.wpAny_call_entry
def jj4:=@Int.le_refl
def jj5:=@List.filterMap_cons
def jj6:=@List.length_reverse
def jj7:=@Nat.add_le_add_left
def jj8:=@Nat.one_pos
def jj9:=@Nat.testBit_two_pow
def jk0:=@PySem.W.callWith_K0
def jk1:=@Int.lt_or_le
def jk2:=@Int.mul_ediv_cancel_left
def jk3:=@PySem.wpAny_comprehension_free
def jk4:=@Bool.false_eq_true
def jk5:=@Int.ediv_nonneg
def jk6:=@Int.mul_assoc
def jk7:=@Int.natCast_add
def jk8:=@Int.natCast_nonneg
def jk9:=@List.any_cons
def jl0:=@List.mem_filterMap
def jl1:=@PyProof.Rows.boot_tuple
def jl2:=@PySem.wpAny_execs_nil
def jl3:=@Int.fmod_nonneg_of_pos
def jl4:=@List.dropWhile_sublist
def jl5:=@PySem.F.plainAttrs_int
def jl6:=@Int.add_mul
def jl7:=@Int.emod_eq_of_lt
def jl8:=@Nat.mul_left_comm
def jl9:=@Int.natAbs_mul
def jm0:=@List.mem_range
def jm1:=@PySem.wpAny_setField
def jm2:=@Int.add_mul_ediv_left
def jm3:=@Int.fmod_add_fdiv_mul
def jm4:=@Int.le_trans
def jm5:=@Int.mul_add_ediv_left
def jm6:=@Int.mul_ediv_add_emod
def jm7:=@List.map_nil
def jm8:=@Nat.lt_trans
def jm9:=@Nat.testBit_shiftLeft
def jn0:=@PyProof.Rows.boot_all
def jn1:=@PyProof.Rows.boot_int
def jn2:=@PyProof.Rows.boot_sum
def jn3:=@Nat.div_eq_of_lt
def jn4:=@Nat.lt_succ_self
def jn5:=@Int.le_of_dvd
def jn6:=@PySem.wpAny_holding
def jn7:=@PySem.wpAny_call
def jn8:=@Int.natCast_mul
def jn9:=@List.getElem?_range
def jo0:=@List.map_congr_left
def jo1:=@List.nodup_cons
def jo2:=@Nat.lt_two_pow_self
def jo3:=@Nat.pow_add
def jo4:=@Nat.toList_repr
def jo5:=@Option.map_some
def jo6:=@PySem.W.hideAll_get
def jo7:=@PySem.W.plainGet_of
def jo8:=@Nat.mul_zero
def jo9:=@Nat.ne_of_gt
def jp0:=@List.drop_zero
def jp1:=@List.take_zero
namespace L2
open PySem PySem.Spec PyProof.Rows
noncomputable abbrev Key:=Sum Int Str
noncomputable def V8:Key->Value->Bool
 | .inl k,v=>Value.isInt k v
 | .inr x,v=>Value.isStrOf x v
noncomputable def ADc(w:World):Key->Int
 | .inl k=>hashInt k
 | .inr x=>hashStr w x
theorem El:∀{k:Key} {v:Value},V8 k v=true->(∃i t,k=Sum.inl i/\v=Value.int i t)\/(∃x t,k=Sum.inr x/\v=Value.str x t)
 | .inl i,v,h=>by
  obtain⟨t,e⟩:=Value.isInt_shape (k:=i) (v:=v) h;exact .inl ⟨i,t,rfl,e⟩
 | .inr x,v,h=>by
  obtain⟨t,e⟩:=Value.isStrOf_shape (x:=x) (v:=v) h;exact .inr ⟨x,t,rfl,e⟩
theorem jj(i:Int)(t:Tok):V8 (.inl i) (.int i t)=true:=by simp[V8,Value.isInt]
theorem ji(x:Str)(t:Tok):V8 (.inr x) (.str x t)=true:=by simp[V8,Value.isStrOf]
theorem AAT(a b:Int):decide ((Sum.inl a:Key)=Sum.inl b)=(a==b):=by
 by_cases e:a=b
 ·subst e;simp
 ·have h:¬(Sum.inl a:Key)=Sum.inl b:=fun q=>e (Sum.inl.inj q);rw[decide_eq_false h];exact(beq_eq_false_iff_ne.mpr e).symm
theorem AAQ(a b:Str):decide ((Sum.inr a:Key)=Sum.inr b)=decide (a=b):=by
 by_cases e:a=b
 ·subst e;simp
 ·have h:¬(Sum.inr a:Key)=Sum.inr b:=fun q=>e (Sum.inr.inj q);rw[decide_eq_false h,decide_eq_false e]
theorem AAS(a:Int)(b:Str):decide ((Sum.inl a:Key)=Sum.inr b)=false:=decide_eq_false (fun q=>nomatch q)
theorem AAR(a:Str)(b:Int):decide ((Sum.inr a:Key)=Sum.inl b)=false:=decide_eq_false (fun q=>nomatch q)
noncomputable def Ek(prog:Program)(w:World):PySem.KeyKind prog w Key where
 is:=V8
 hash:=ADc w
 inj:=fun v a b ha hb=>by
  rcases El ha with ⟨i,t,rfl,rfl⟩ | ⟨x,t,rfl,rfl⟩
  ·rcases El hb with ⟨j,u,rfl,e⟩ | ⟨y,u,rfl,e⟩
   ·injection e with e1 _;rw[e1]
   ·exact nomatch e
  ·rcases El hb with ⟨j,u,rfl,e⟩ | ⟨y,u,rfl,e⟩
   ·exact nomatch e
   ·injection e with e1 _;rw[e1]
 byValue:=fun k v h=>by
  rcases El h with ⟨i,t,rfl,rfl⟩ | ⟨x,t,rfl,rfl⟩<;>rfl
 pyHash:=fun hv h=>by
  rcases El hv with ⟨i,t,rfl,rfl⟩ | ⟨x,t,rfl,rfl⟩
  ·exact wpAny_pyHash_int h
  ·exact wpAny_pyHash_str h
 eqBool:=fun hu hv h=>by
  rcases El hu with ⟨i,t,rfl,rfl⟩ | ⟨x,t,rfl,rfl⟩
  ·rcases El hv with ⟨j,u,rfl,rfl⟩ | ⟨y,u,rfl,rfl⟩
   ·rw[AAT] at h;exact wpAny_eqBool_int h
   ·rw[AAS] at h;exact SeqAt.EqAt.int_str i t y u _ _ _ _ h
  ·rcases El hv with ⟨j,u,rfl,rfl⟩ | ⟨y,u,rfl,rfl⟩
   ·rw[AAR] at h;exact SeqAt.EqAt.str_int x t j u _ _ _ _ h
   ·rw[AAQ] at h;exact wpAny_eqBool_str h
 «strs»:=fun k x t v h=>by
  rcases El h with ⟨i,u,rfl,e⟩ | ⟨y,u,rfl,e⟩
  ·exact nomatch e
  ·injection e with e1 _;subst e1;cases v<;>rfl
theorem Zr(prog:Program)(w:World)(i:Int)(t:Tok):(Ek prog w).is (.inl i) (.int i t)=true:=jj i t
theorem Kh(prog:Program)(w:World)(x:Str)(t:Tok):(Ek prog w).is (.inr x) (.str x t)=true:=ji x t
inductive V where
 | non | bl (b:Bool) | int (i:Int) | str (x:Str) | byt (b:Array UInt8) | flt (b:UInt64) | ref (a:Addr) | ty (n:String)
 deriving DecidableEq
def RelV:V->Value->Prop
 | .non,u=>u=Value.none
 | .bl b,u=>u=Value.bool b
 | .int i,u=>∃t,u=Value.int i t
 | .str x,u=>∃t,u=Value.str x t
 | .byt b,u=>∃t,u=Value.bytes b t
 | .flt b,u=>∃t,u=Value.float b t
 | .ref a,u=>u=Value.ref a
 | .ty n,u=>u=Value.type n
abbrev Vals:List V->List Value->Prop:=Paired RelV
variable{us:List Value}
theorem Vals.length{xs:List V}(r:Vals xs us):xs.length=us.length:=Paired.length r
theorem Vals.get:∀{xs:List V} {us:List Value} {i:Nat} {x:V},Vals xs us->xs[i]?=some x->∃u,us[i]?=some u/\RelV x u
 | _,_,_,_,.nil,e=>by simp at e
 | _,_,0,_,.cons r _,e=>by simp at e;subst e;exact⟨_,rfl,r⟩
 | _,_,i+1,x,.cons _ t,e=>by
  obtain⟨u,h1,h2⟩:=Vals.get (i:=i) (x:=x) t (by simpa using e);exact⟨u,by simpa using h1,h2⟩
variable{u:Value}
theorem Vals.set{x:V}(r:RelV x u):∀{xs:List V} {us:List Value} (i:Nat),Vals xs us->Vals (xs.set i x) (us.set i u)
 | _,_,_,.nil=>.nil
 | _,_,0,.cons _ t=>.cons r t
 | _,_,i+1,.cons q t=>.cons q (Vals.set r i t)
theorem Vals.append:∀{xs ys:List V} {us ws:List Value},Vals xs us->Vals ys ws->Vals (xs++ys) (us++ws)
 | _,_,_,_,.nil,s=>s
 | _,_,_,_,.cons r t,s=>.cons r (Vals.append t s)
theorem Vals.take:∀{xs:List V} {us:List Value} (n:Nat),Vals xs us->Vals (xs.take n) (us.take n)
 | _,_,0,_=>.nil
 | _,_,_+1,.nil=>.nil
 | _,_,n+1,.cons r t=>.cons r (Vals.take n t)
theorem Vals.drop:∀{xs:List V} {us:List Value} (n:Nat),Vals xs us->Vals (xs.drop n) (us.drop n)
 | _,_,0,r=>r
 | _,_,_+1,.nil=>.nil
 | _,_,n+1,.cons _ t=>Vals.drop n t
def Jz:Option V->Option Value->Prop
 | some v,some u=>RelV v u
 | none,none=>True
 | _,_=>False
def KV{κ:Type}:List (κ×V)->List (κ×Value)->Prop:=Paired fun(p:κ×V) (q:κ×Value)=>p.1=q.1/\RelV p.2 q.2
noncomputable def kV:Key->V
 | .inl i=>.int i
 | .inr x=>.str x
inductive HO where
 | lst (xs:List V)
 | tup (xs:List V)
 | dK (kvs:List (Key×V)) | dT (kvs:List (List Key×V))
 | set (S:Int->Bool) (n:Nat)
 | ins (C dx:Addr) (fs:List (Str×V))
 | own (x:Addr)
 | xd (fs:List (Str×V))
 | met (f x:Addr)
 | rng (lo hi:Int)
 | frz (o:Obj) (u:HO)
 | tbl (ps:Array Value)
 | ext (φ:Heap->Prop)
noncomputable abbrev Hp:=Addr->Option HO
noncomputable def upd(H:Hp)(a:Addr)(o:HO):Hp:=fun b=>if b=a then some o else H b
variable{H:Hp}{a:Addr}
theorem Ai{o:HO}:upd H a o a=some o:=by unfold upd;rw[xo rfl]
theorem Ax{b:Addr}{o:HO}(h:b≠a):upd H a o b=H b:=by unfold upd;rw[xp h]
theorem rR{o u:HO}:upd (upd H a o) a u=upd H a u:=by
 funext b;unfold upd;split<;>rfl
theorem Eu{b:Addr}{o u:HO}(h:H a=some o)(h':H b=some u)(d:o≠u):a≠b:=by
 intro e;subst e;rw[h] at h';exact d (xz h')
theorem BX{b:Addr}{o:HO}(h:H a=some o)(h':H b=none):a≠b:=by
 intro e;subst e;rw[h] at h';cases h'
section
variable(P:Program)(w:World)
def Eh(H:Hp)(h:Heap)(a:Addr):HO->Prop
 | .lst xs=>xs.length<=sizeLine/\∃(its:List Value) (n:Nat),Vals xs its/\h.get? a=some { cls:=.type "list",data:=.seq its.toArray n }
 | .tup xs=>xs.length<=sizeLine/\∃its:List Value,Vals xs its/\IsTup h a its.toArray
 | .dK kvs=>kvs.length<=sizeLine/\(a==sysModules)=false/\∃vs,KV kvs vs/\h.DictOf (Ek P w) a vs
 | .dT kvs=>kvs.length<=sizeLine/\(a==sysModules)=false/\∃xs:List (List Key×Addr×Value),
  Paired (fun (p:List Key×V) (q:List Key×Addr×Value)=>p.1=q.1/\H q.2.1=some (.tup (p.1.map kV))/\RelV p.2 q.2.2) kvs xs/\
  ∃o es ep,h.get? a=some o/\o.ExactDict/\o.data=.dict es ep/\es.toList=xs.map (entryOfKey (tupleKind (Ek P w)))/\(xs.map (·.1)).Nodup
 | .set S n=>h.SetOf (intKind P w) a S n
 | .ins C dx fs=>H dx=some (.own a)/\fs.length<=1000/\dx≠a/\h.get? a=some (PySem.W.instObj C dx)/\
  ∃mA,h.Ns1 dx mA/\(∀f,Jz (fs.lookup f) (mA f))/\PySem.Within mA (fs.map (·.1))
 | .own _=>∃o,h.get? a=some o
 | .xd fs=>∃mA,h.Ns1 a mA/\∀f,Jz (fs.lookup f) (mA f)
 | .rng lo hi=>∃t u v,h.get? a=some { cls:=.type "range",data:=.fields #[.int lo t,.int hi u,.int 1 v] }
 | .frz o u=>h.get? a=some o/\Eh H h a u
 | .tbl ps=>h.get? a=some { cls:=.none,data:=.fields ps }
 | .met f x=>h.get? a=some (PySem.W.methodObj (.ref f) (.ref x))
 | .ext φ=>φ h/\(∃o,h.get? a=some o)/\∀h1 h2:Heap,φ h1->(∀o,h1.get? a=some o->h2.get? a=some o)->φ h2
def HOk(H:Hp)(h:Heap):Prop:=∀a o,H a=some o->Eh P w H h a o
end
section
variable{P:Program}{w:World}{H H':Hp}{h h':Heap}{a:Addr}{o:HO}
theorem Eh.lt(x:Eh P w H h a o):a<h.objs.size:=by
 cases o with
 | lst xs=>obtain⟨_,_,_,_,e⟩:=x;exact zo e
 | tup xs=>obtain⟨_,_,_,p⟩:=x;exact p.lt
 | dK kvs=>obtain⟨_,_,_,_,o,_,_,e,_⟩:=x;exact zo e
 | dT kvs=>obtain⟨_,_,_,_,o,_,_,e,_⟩:=x;exact zo e
 | set S n=>obtain⟨o,_,_,_,e,_⟩:=x;exact zo e
 | ins C dx fs=>obtain⟨_,_,_,e,_⟩:=x;exact zo e
 | own y=>obtain⟨_,e⟩:=x;exact zo e
 | xd fs=>obtain⟨_,⟨_,_,_,e,_⟩,_⟩:=x;exact zo e
 | rng lo hi=>obtain⟨_,_,_,e⟩:=x;exact zo e
 | frz ob u=>obtain⟨e,_⟩:=x;exact zo e
 | tbl ps=>exact zo (show h.get? a=some _ from x)
 | met f y=>exact zo (show h.get? a=some _ from x)
 | ext φ=>obtain⟨_,⟨_,e⟩,_⟩:=x;exact zo e
theorem Paired.mapP{α β:Type}{F G:α->β->Prop}:∀{l₁:List α} {l₂:List β},Paired F l₁ l₂->(∀a b,F a b->G a b)->Paired G l₁ l₂
 | _,_,.nil,_=>.nil
 | _,_,.cons r t,f=>.cons (f _ _ r) (Paired.mapP t f)
theorem Eh.stay(x:Eh P w H h a o)(k:∀b u,(b=a\/H b=some (.own a))->h.get? b=some u->h'.get? b=some u)
 (ho:∀b,H b=some (.own a)->H' b=some (.own a))(ht:∀b xs,H b=some (.tup xs)->H' b=some (.tup xs)):Eh P w H' h' a o:=by
 induction o with
 | lst xs=>obtain⟨z,its,n,r,e⟩:=x;exact⟨z,its,n,r,k _ _ (.inl rfl) e⟩
 | tup xs=>obtain⟨z,its,r,ob,e,c⟩:=x;exact⟨z,its,r,ob,k _ _ (.inl rfl) e,c⟩
 | dK kvs=>obtain⟨z,y,vs,r,ob,es,ep,e,c⟩:=x;exact⟨z,y,vs,r,ob,es,ep,k _ _ (.inl rfl) e,c⟩
 | dT kvs=>
  obtain⟨z,y,xs,r,ob,es,ep,e,c⟩:=x;exact⟨z,y,xs,Paired.mapP r fun p q z=>⟨z.1,ht _ _ z.2.1,z.2.2⟩,ob,es,ep,k _ _ (.inl rfl) e,c⟩
 | set S n=>obtain⟨ob,es,ep,t,e,c⟩:=x;exact⟨ob,es,ep,t,k _ _ (.inl rfl) e,c⟩
 | ins C dx fs=>
  obtain⟨d,z,ne,e,mA,⟨od,es,ep,e2,c⟩,r⟩:=x;exact⟨ho _ d,z,ne,k _ _ (.inl rfl) e,mA,⟨od,es,ep,k _ _ (.inr d) e2,c⟩,r⟩
 | own y=>obtain⟨ob,e⟩:=x;exact⟨ob,k _ _ (.inl rfl) e⟩
 | xd fs=>obtain⟨mA,⟨od,es,ep,e,c⟩,r⟩:=x;exact⟨mA,⟨od,es,ep,k _ _ (.inl rfl) e,c⟩,r⟩
 | rng lo hi=>obtain⟨t,u,v,e⟩:=x;exact⟨t,u,v,k _ _ (.inl rfl) e⟩
 | frz ob u ih=>obtain⟨e,q⟩:=x;exact⟨k _ _ (.inl rfl) e,ih q⟩
 | tbl ps=>
  have e:h.get? a=some { cls:=.none,data:=.fields ps }:=x;show h'.get? a=some { cls:=.none,data:=.fields ps };exact k a _ (.inl rfl) e
 | met f y=>
  have e:h.get? a=some (PySem.W.methodObj (.ref f) (.ref y)):=x;show h'.get? a=some (PySem.W.methodObj (.ref f) (.ref y));exact k a _ (.inl rfl) e
 | ext φ=>obtain⟨p,⟨o,e⟩,st⟩:=x;exact⟨st _ _ p fun o q=>k _ _ (.inl rfl) q,⟨o,k _ _ (.inl rfl) e⟩,st⟩
theorem HOk.lt(x:HOk P w H h)(e:H a=some o):a<h.objs.size:=(x a o e).lt
theorem HOk.fresh(x:HOk P w H h)(e:h.objs.size<=a):H a=none:=by
 cases q:H a with
 | none=>rfl
 | some u=>exact absurd (zk (x.lt q) e) (jd1 _)
theorem HOk.kept(x:HOk P w H h)(k:∀b u,h.get? b=some u->h'.get? b=some u):HOk P w H h':=fun a o e=>
 (x a o e).stay (fun b u _ q=>k b u q) (fun _ q=>q) fun _ _ q=>q
theorem HOk.laid(x:HOk P w H h)(k:∀b u,h.get? b=some u->h'.get? b=some u)(hp:h.objs.size<=a)(new:Eh P w (upd H a o) h' a o):HOk P w (upd H a o) h':=fun b u e=>by
 have hn:=x.fresh hp;by_cases hb:b=a
 ·subst hb;rw[Ai] at e;cases e;exact new
 ·rw[Ax hb] at e;exact(x b u e).stay (fun c v _ q=>k c v q) (fun c q=>by rw[Ax (BX q hn)];exact q) fun c xs q=>by rw[Ax (BX q hn)];exact q
end
def Rd(H:Hp)(a:Addr)(u:HO):Prop:=H a=some u\/∃o,H a=some (.frz o u)
theorem Rd.ok{P:Program}{w:World}{h:Heap}{u:HO}(r:Rd H a u)(x:HOk P w H h):Eh P w H h a u:=by
 rcases r with r | ⟨o,r⟩
 ·exact x a u r
 ·obtain⟨_,q⟩:=x a _ r;exact q
def Mut:Option HO->Prop
 | some (.lst _)=>True
 | some (.dK _)=>True
 | some (.dT _)=>True
 | some (.set _ _)=>True
 | some (.ins _ _ _)=>True
 | some (.ext _)=>True
 | _=>False
section
variable{P:Program}{w:World}{H:Hp}{h h':Heap}{x e:Addr}{o':HO}
theorem HOk.write(ok:HOk P w H h)(mu:Mut (H x))(he:e=x\/H e=some (.own x))(k:∀b u,b≠e->h.get? b=some u->h'.get? b=some u)(heo:∃u,h'.get? e=some u)
 (new:Eh P w (upd H x o') h' x o'):HOk P w (upd H x o') h':=fun b u q=>by
 have nown:∀c y,H c=some (.own y)->c≠x:=fun c y r z=>by subst z;rw[r] at mu;exact mu
 have ntup:∀c xs,H c=some (.tup xs)->c≠x:=fun c xs r z=>by subst z;rw[r] at mu;exact mu
 by_cases hb:b=x
 ·subst hb;rw[Ai] at q;cases q;exact new
 ·rw[Ax hb] at q;by_cases hbe:b=e
  ·have q':H b=some (.own x):=by
    rcases he with z | z
    ·exact absurd (hbe.trans z) hb
    ·rw[hbe];exact z
   rw[q] at q';cases q';obtain⟨v,hv⟩:=heo;exact⟨v,by rw[hbe];exact hv⟩
  ·refine(ok b u q).stay (fun c v hc r=>k c v ?_ r) (fun c r=>by rw[Ax (nown c b r)];exact r) fun c xs r=>by rw[Ax (ntup c xs r)];exact r
   rcases hc with rfl | hc
   ·exact hbe
   ·rintro rfl;rcases he with z | z
    ·exact nown c b hc z
    ·rw[hc] at z;cases z;exact hb rfl
end
structure Un(fs ex:List Addr)(H H':Hp)(h h':Heap):Prop where
 keep:∀b o,h.get? b=some o->H b=none->b∉fs->b∉ex->h'.get? b=some o
 slot:∀b o,h.get? b=some o->H b=none->b∈fs->b∉ex->∃sl,h'.get? b=some { o with slots:=sl }
 free:∀b o,h.get? b=some o->H b=none->b∉ex->H' b=none
 there:∀b o,h.get? b=some o->b∉ex->∃o',h'.get? b=some o'
 tups:∀b xs,H b=some (.tup xs)->H' b=some (.tup xs)
 frzs:∀b o u,H b=some (.frz o u)->H' b=some (.frz o u)
 tbls:∀b ps,H b=some (.tbl ps)->∃more,H' b=some (.tbl (ps++more))
section
variable{fs fs' ex ex':List Addr}{H H1 H2:Hp}{h h1 h2 h':Heap}{a x e:Addr}{o:HO}
theorem Un.any(u:Un fs ex H H1 h h1){b:Addr}{ob:Obj}(q:h.get? b=some ob)(n:H b=none)(hx:b∉ex):∃sl,h1.get? b=some { ob with slots:=sl }:=by
 by_cases hb:b∈fs
 ·exact u.slot b ob q n hb hx
 ·exact⟨ob.slots,u.keep b ob q n hb hx⟩
theorem Un.kept(k:∀b u,h.get? b=some u->h'.get? b=some u):Un fs ex H H h h':=
 ⟨fun b ob q _ _ _=>k b ob q,fun b ob q _ _ _=>⟨ob.slots,k b ob q⟩,fun _ _ _ n _=>n,fun b ob q _=>⟨ob,k b ob q⟩,fun _ _ q=>q,fun _ _ _ q=>q,fun _ ps q=>⟨#[],by rw[q];simp⟩⟩
theorem Un.refl:Un fs ex H H h h:=Un.kept fun _ _ q=>q
theorem Un.laid(k:∀b u,h.get? b=some u->h'.get? b=some u)(hp:h.objs.size<=a)(hn:H a=none):Un fs ex H (upd H a o) h h' where
 keep:=fun b u q _ _ _=>k b u q
 slot:=fun b u q _ _ _=>⟨u.slots,k b u q⟩
 free:=fun b u q n _=>by rw[Ax (vv (zk (zo q) hp))];exact n
 there:=fun b u q _=>⟨u,k b u q⟩
 tups:=fun b xs q=>by rw[Ax (BX q hn)];exact q
 frzs:=fun b u xs q=>by rw[Ax (BX q hn)];exact q
 tbls:=fun b ps q=>⟨#[],by rw[Ax (BX q hn),q];simp⟩
theorem Un.write(mu:Mut (H x))(he:e=x\/H e=some (.own x))(k:∀b u,b≠e->h.get? b=some u->h'.get? b=some u)(heo:∃u,h'.get? e=some u):Un fs ex H (upd H x o) h h':=by
 have hx:∀b,H b=none->b≠x:=fun b n z=>by subst z;rw[n] at mu;exact mu
 have hb:∀b,H b=none->b≠e:=fun b n z=>by
  subst z;rcases he with r | r
  ·exact hx b n r
  ·rw[n] at r;cases r
 have hm:∀b u,H b=some u->¬Mut (some u)->b≠x:=fun b u q nm z=>by subst z;rw[q] at mu;exact nm mu
 refine⟨fun b u q n _ _=>k b u (hb b n) q,fun b u q n _ _=>⟨u.slots,k b u (hb b n) q⟩,fun b u q n _=>by rw[Ax (hx b n)];exact n,fun b u q _=>?_,
  fun b xs q=>by rw[Ax (hm b _ q fun z=>z)];exact q,fun b u xs q=>by rw[Ax (hm b _ q fun z=>z)];exact q,fun b ps q=>⟨#[],by rw[Ax (hm b _ q fun z=>z),q];simp⟩⟩
 by_cases hbe:b=e
 ·subst hbe;exact heo
 ·exact⟨u,k b u hbe q⟩
theorem Un.mono(u:Un fs ex H H1 h h1)(hs:∀b∈fs,b∈fs')(hx:∀b∈ex,b∈ex'):Un fs' ex' H H1 h h1:=
 ⟨fun b ob q n hb he=>u.keep b ob q n (fun z=>hb (hs b z)) fun z=>he (hx b z),fun _ _ q n _ he=>u.any q n fun z=>he (hx _ z),fun b ob q n he=>u.free b ob q n fun z=>he (hx b z),fun b ob q he=>u.there b ob q fun z=>he (hx b z),u.tups,u.frzs,u.tbls⟩
end
noncomputable def trk(h:Heap)(H:Hp):List Addr:=(List.range h.objs.size).filter fun a=>(H a).isSome
noncomputable def Xz(h:Heap)(H:Hp):Heap:=PySem.W.hideAll h (trk h H)
theorem jt(h:Heap)(H:Hp):(Xz h H).objs.size=h.objs.size:=PySem.W.hideAll_size _ _
theorem pX{h:Heap}{b:Addr}{o:Obj}(e:h.get? b=some o)(n:H b=none):(Xz h H).get? b=some o:=
 jo6 _ e fun hm=>by
  have q:(H b).isSome=true:=(List.mem_filter.mp hm).2;rw[n] at q;simp at q
theorem vB{h:Heap}{b:Addr}{o:Obj}(e:(Xz h H).get? b=some o):h.get? b=some o/\H b=none:=by
 have e':h.get? b=some o:=PySem.W.of_hideAll (trk h H) e;refine⟨e',?_⟩;cases q:H b with
 | none=>rfl
 | some x=>
  have hm:b∈trk h H:=List.mem_filter.mpr ⟨jm0.mpr (zo e'),by simp[q]⟩;have z:(Xz h H).get? b=none:=PySem.W.hideAll_none (trk h H) hm;rw[z] at e;cases e
noncomputable def wM(g h:Heap)(L:Addr):List (Addr×Obj):=(List.range h.objs.size).filterMap fun a=>if a=L\/(g.get? a).isSome=true then none else (h.get? a).map fun o=>(a,o)
noncomputable def rest(g h:Heap)(L d:Addr):List (Addr×Obj):=(wM g h L).filter fun p=>decide (p.1≠d)
structure Mod(K:Fr)(mg:Str->Option Value)(base:Heap):Prop where
 kin:K.In base
 glob:base.Ns mainGlobals mg
 blt:∃mb,base.Ns builtinsNs mb/\∀x:Str,x≠"__name__"->mb x=bootBuiltins x
 nolimit:base.NoLimit
structure Cx where
 prog:Program
 w:World
 K:Fr
 mg:Str->Option Value
 base:Heap
 A:Around
 N:List Str
 s₀:Shared
 H₀:Hp
 env:Env
 outer:List Env
 stack:List Env
 ex:List Addr
 fn:Str->Bool
 calm:Bool
 pn:List (Addr×Obj)
 xe:Value->Shared->Prop
noncomputable def frs(l:List Env):List Addr:=l.filterMap (·.frame)
noncomputable abbrev Cx.fs(X:Cx):List Addr:=frs X.outer
def Vis(sc:Scope)(x:Str):Prop:=sc.names.lookup x=some .local\/sc.names.lookup x=some .cell\/sc.names.lookup x=some .free
def Loc(sc:Scope)(x:Str):Prop:=sc.names.lookup x=some .local\/sc.names.lookup x=some .cell
def Look(env:Env)(h:Heap)(m:Str->Option Value)(x:Str)(u:Value):Prop:=
 (env.kindOf x=some .local/\m x=some u)\/((env.kindOf x=some .cell\/env.kindOf x=some .free)/\∃c,env.cells.lookup x=some c/\h.IsCell c (some u))
structure Cx.Ok(X:Cx):Prop where
 mod:Mod X.K X.mg X.base
 kind:X.env.scope.kind=.function
 glob:X.env.globals=mainGlobals
 blt:X.env.builtins=builtinsNs
 above:X.s₀.heap.objs.size<=X.env.locals
 inj:∀x y c,X.env.cells.lookup x=some c->X.env.cells.lookup y=some c->x=y
 has:∀x,(X.env.kindOf x=some .cell\/X.env.kindOf x=some .free)->∃c,X.env.cells.lookup x=some c
 cab:∀x c,X.fn x=true->X.env.cells.lookup x=some c->X.s₀.heap.objs.size<=c
 hd:X.calm=true->X.A.handled=none
 frames:X.A.frames=some X.stack
 stk:X.stack=X.outer\/(X.stack=X.env::X.outer/\X.env.frame=some X.env.locals)
 exf:∀b∈X.ex,b≠X.env.locals/\∀x c,X.env.cells.lookup x=some c->c≠b
 bs:∀b o,X.base.get? b=some o->X.s₀.heap.get? b=some o/\X.H₀ b=none
 bsz:X.base.objs.size<=X.s₀.heap.objs.size
 noex:∀b o,X.base.get? b=some o->b∉X.ex
 exfs:∀b∈X.ex,b∉X.fs
 funs:X.s₀.heap.FunFrames X.base X.outer
 frf:∀b∈X.fs,X.H₀ b=none
structure Inv(X:Cx)(pins:List (Addr×Obj))(Z:List (Option V))(H:Hp)(s:Shared):Prop where
 ok:X.Ok
 os:s.os=X.s₀.os
 bare:AllBare s.gens
 base:Un X.fs X.ex X.H₀ H X.s₀.heap s.heap
 loc:∃m,s.heap.Ns X.env.locals m/\∀(i:Nat) (x:Str) (v:V),X.N[i]?=some x->Z[i]?=some (some v)->Vis X.env.scope x->∃u,RelV v u/\Look X.env s.heap m x u
 cell:∀x c,X.env.cells.lookup x=some c->∃v,s.heap.IsCell c v
 free:H X.env.locals=none
 freeC:∀x c,X.env.cells.lookup x=some c->H c=none
 pin:∀p∈X.pn++pins,s.heap.get? p.1=some p.2/\H p.1=none/\p.1≠X.env.locals/\p.1∉X.fs/\∀v,p.2.data≠.cell v
 hok:HOk X.prog X.w H s.heap
 len:Z.length=X.N.length
variable{x:Str}{t':Nat}{A:Around}
section
variable{X:Cx}{pins:List (Addr×Obj)}{Z:List (Option V)}{H H':Hp}{s:Shared}{h':Heap}
theorem Cx.Ok.nofr(ok:X.Ok){b:Addr}{o:Obj}(e:X.base.get? b=some o):b∉X.fs:=fun hb=>by
 have:=(ok.funs.mem hb).1;rw[e] at this;cases this
theorem Inv.bs(I:Inv X pins Z H s):∀b o,X.base.get? b=some o->s.heap.get? b=some o/\H b=none:=fun b o e=>
 ⟨I.base.keep b o (I.ok.bs b o e).1 (I.ok.bs b o e).2 (I.ok.nofr e) (I.ok.noex b o e),I.base.free b o (I.ok.bs b o e).1 (I.ok.bs b o e).2 (I.ok.noex b o e)⟩
theorem Inv.bk(I:Inv X pins Z H s):∀b o,X.base.get? b=some o->s.heap.get? b=some o:=fun b o e=>(I.bs b o e).1
theorem Inv.mod(I:Inv X pins Z H s):Mod X.K X.mg X.base:=I.ok.mod
theorem Inv.kIn(I:Inv X pins Z H s):X.K.In s.heap:=I.ok.mod.kin.keeps I.bk
theorem Inv.lt(I:Inv X pins Z H s):X.env.locals<s.heap.objs.size:=let ⟨_,hn,_⟩:=I.loc;hn.lt
theorem Inv.sz(I:Inv X pins Z H s):X.s₀.heap.objs.size<=s.heap.objs.size:=zn I.ok.above (Nat.le_of_lt I.lt)
theorem Inv.nofs(I:Inv X pins Z H s){a:Addr}(h:s.heap.objs.size<=a):a∉X.fs:=fun hb=>by
 obtain⟨_,o,ho,_⟩:=I.ok.funs.mem hb;exact absurd (zk (zo ho) (zn I.sz h)) (jd1 _)
theorem Inv.cne(I:Inv X pins Z H s):∀x c,X.env.cells.lookup x=some c->c≠X.env.locals:=fun x c e z=>by
 obtain⟨v,o,ho,hd⟩:=I.cell x c e;obtain⟨m,⟨o',es,ep,ho',hd',_⟩,_⟩:=I.loc;rw[z,ho'] at ho;cases ho;rw[hd'] at hd;cases hd
theorem Inv.funs(I:Inv X pins Z H s):s.heap.FunFrames X.base X.outer:=by
 have all:∀(l:List Env),(∀b∈frs l,b∈X.fs)->X.s₀.heap.FunFrames X.base l->s.heap.FunFrames X.base l:=by
  intro l
  induction l with
  | nil=>intro _ _;trivial
  | cons env r ih=>
   intro hs hl;obtain⟨hk,⟨L,o,hf,hn,ho,hd⟩,hr⟩:=hl;have hL:L∈X.fs:=hs L (by unfold frs;rw[jj5,hf];exact qc);obtain⟨sl,e⟩:=I.base.slot L o ho (I.ok.frf L hL) hL fun z=>I.ok.exfs L z hL;exact⟨hk,⟨L,_,hf,hn,e,hd⟩,ih (fun b hb=>hs b (by unfold frs;rw[jj5,hf];exact qf _ hb)) hr⟩
 exact all X.outer (fun _ hb=>hb) I.ok.funs
theorem Inv.stack(I:Inv X pins Z H s):s.heap.FunFrames X.base X.stack:=by
 rcases I.ok.stk with e | ⟨e,hf⟩
 ·rw[e];exact I.funs
 ·rw[e];obtain⟨m,hn,_⟩:=I.loc;refine .cons (by rw[I.ok.kind];decide) hf hn ?_ I.funs;exact Heap.get?_none_of_le (zn I.ok.bsz I.ok.above)
theorem Inv.stkSub(I:Inv X pins Z H s):∀b∈frs X.stack,b∈X.env.locals::X.fs:=fun b hb=>by
 rcases I.ok.stk with e | ⟨e,hf⟩
 ·rw[e] at hb;exact qf _ hb
 ·rw[e] at hb;unfold frs at hb;rw[jj5,hf] at hb;exact hb
theorem Inv.stkFree(I:Inv X pins Z H s):∀b∈frs X.stack,H b=none:=fun b hb=>by
 rcases qh.mp (I.stkSub b hb) with e | hb
 ·rw[e];exact I.free
 ·obtain⟨_,o,ho,_⟩:=I.ok.funs.mem hb;exact I.base.free b o ho (I.ok.frf b hb) fun z=>I.ok.exfs b z hb
theorem Inv.step{g':Array GenState}{d':Drawn}{ch:List Addr}(I:Inv X pins Z H s)
 (hch:∀b∈ch,(b∈X.ex\/X.s₀.heap.objs.size<=b)/\b≠X.env.locals/\(∀x c,X.env.cells.lookup x=some c->c≠b)/\∀p∈X.pn++pins,p.1≠b)
 (keep:∀b o,b≠X.env.locals->b∉X.fs->b∉ch->s.heap.get? b=some o->H b=none->h'.get? b=some o)
 (slot:∀b o,b≠X.env.locals->b∈X.fs->b∉ch->s.heap.get? b=some o->H b=none->∃sl,h'.get? b=some { o with slots:=sl })(free:∀b o,b∉ch->s.heap.get? b=some o->H b=none->H' b=none)
 (there:∀b o,b∉ch->s.heap.get? b=some o->∃o',h'.get? b=some o')
 (tups:∀b xs,H b=some (.tup xs)->H' b=some (.tup xs))(frzs:∀b o u,H b=some (.frz o u)->H' b=some (.frz o u))(tbls:∀b ps,H b=some (.tbl ps)->∃more,H' b=some (.tbl (ps++more)))
 (ns:∀m,s.heap.Ns X.env.locals m->h'.Ns X.env.locals m)(hok:HOk X.prog X.w H' h')(hg:AllBare g'):
 Inv X pins Z H' { s with heap:=h',gens:=g',drawn:=d',toks:=t' }:=by
 have neL:∀b o,X.s₀.heap.get? b=some o->b≠X.env.locals:=fun b o e=>vv (zk (zo e) I.ok.above);have neC:∀b o,X.s₀.heap.get? b=some o->b∉X.ex->b∉ch:=fun b o e hx hb=>by
  rcases(hch b hb).1 with z | z
  ·exact hx z
  ·exact absurd (zk (zo e) z) (jd1 _)
 have cellK:∀x c,X.env.cells.lookup x=some c->∀v,s.heap.IsCell c v->h'.IsCell c v:=fun x c e v ⟨o,ho,hd⟩=>by
  have nch:c∉ch:=fun z=>(hch c z).2.2.1 x c e rfl;by_cases hc:c∈X.fs
  ·obtain⟨sl,q⟩:=slot c o (I.cne x c e) hc nch ho (I.freeC x c e);exact⟨_,q,hd⟩
  ·exact⟨o,keep c o (I.cne x c e) hc nch ho (I.freeC x c e),hd⟩
 refine⟨I.ok,I.os,hg,⟨fun b o e n hb hx=>?_,fun b o e n hb hx=>?_,fun b o e n hx=>?_,fun b o e hx=>?_,fun b xs e=>tups b xs (I.base.tups b xs e),fun b o xs e=>frzs b o xs (I.base.frzs b o xs e),fun b ps e=>?_⟩,?_,fun x c e=>?_,?_,fun x c e=>?_,fun p hp=>?_,hok,I.len⟩
 ·exact keep b o (neL b o e) hb (neC b o e hx) (I.base.keep b o e n hb hx) (I.base.free b o e n hx)
 ·obtain⟨sl,e1⟩:=I.base.slot b o e n hb hx;obtain⟨sl',e2⟩:=slot b _ (neL b o e) hb (neC b o e hx) e1 (I.base.free b o e n hx);exact⟨sl',e2⟩
 ·obtain⟨o',e1⟩:=I.base.there b o e hx;exact free b o' (neC b o e hx) e1 (I.base.free b o e n hx)
 ·obtain⟨o',e1⟩:=I.base.there b o e hx;exact there b o' (neC b o e hx) e1
 ·obtain⟨m1,e1⟩:=I.base.tbls b ps e;obtain⟨m2,e2⟩:=tbls b _ e1;exact⟨m1++m2,by rw[e2,Array.append_assoc]⟩
 ·obtain⟨m,hn,hl⟩:=I.loc;refine⟨m,ns m hn,fun i x v e1 e2 e3=>?_⟩;obtain⟨u,r,l⟩:=hl i x v e1 e2 e3;refine⟨u,r,?_⟩;rcases l with l | ⟨k,c,e,z⟩
  ·exact .inl l
  ·exact .inr ⟨k,c,e,cellK x c e _ z⟩
 ·obtain⟨v,z⟩:=I.cell x c e;exact⟨v,cellK x c e v z⟩
 ·obtain⟨m,⟨o,_,_,ho,_⟩,_⟩:=I.loc;exact free _ o (fun z=>(hch _ z).2.1 rfl) ho I.free
 ·obtain⟨v,o,ho,hd⟩:=I.cell x c e;exact free c o (fun z=>(hch c z).2.2.1 x c e rfl) ho (I.freeC x c e)
 ·obtain⟨e,n,ne,nf,d⟩:=I.pin p hp;have nch:p.1∉ch:=fun z=>(hch p.1 z).2.2.2 p hp rfl;exact⟨keep p.1 p.2 ne nf nch e n,free p.1 p.2 nch e n,ne,nf,d⟩
theorem Inv.un(I:Inv X pins Z H s)(u:Un X.fs [] H H' s.heap h')(hok:HOk X.prog X.w H' h'):Inv X pins Z H' { s with heap:=h',toks:=t' }:=by
 obtain⟨m,⟨o,es,ep,ho,r⟩,_⟩:=id I.loc;obtain⟨sl,hL⟩:=u.any ho I.free (by simp);exact I.step (g':=s.gens) (d':=s.drawn) (ch:=[]) (fun _ z=>nomatch z) (fun b o _ hb _ e n=>u.keep b o e n hb (by simp)) (fun b o _ hb _ e n=>u.slot b o e n hb (by simp)) (fun b o _ e n=>u.free b o e n (by simp)) (fun b o _ e=>u.there b o e (by simp)) u.tups u.frzs u.tbls (fun m' hm=>by
  obtain⟨o',es',ep',ho',r'⟩:=hm;rw[ho] at ho';cases ho';exact⟨_,es',ep',hL,r'⟩) hok I.bare
theorem Inv.call{g':Array GenState}{d':Drawn}{ch:List Addr}(I:Inv X pins Z H s)(u:Un (frs X.stack) ch H H' s.heap h')(hok:HOk X.prog X.w H' h')(hg:AllBare g')
 (hch:∀b∈ch,(b∈X.ex\/X.s₀.heap.objs.size<=b)/\b≠X.env.locals/\(∀x c,X.env.cells.lookup x=some c->c≠b)/\∀p∈X.pn++pins,p.1≠b):
 Inv X pins Z H' { s with heap:=h',gens:=g',drawn:=d',toks:=t' }:=by
 obtain⟨m,⟨o,es,ep,ho,r⟩,_⟩:=id I.loc;obtain⟨sl,hL⟩:=u.any ho I.free fun z=>(hch _ z).2.1 rfl;exact I.step (ch:=ch) hch (fun b o hL hb hc e n=>u.keep b o e n (fun z=>(qh.mp (I.stkSub b z)).elim hL hb) hc) (fun b o _ _ hc e n=>u.any e n hc) (fun b o hc e n=>u.free b o e n hc) (fun b o hc e=>u.there b o e hc) u.tups u.frzs u.tbls (fun m' hm=>by
  obtain⟨o',es',ep',ho',r'⟩:=hm;rw[ho] at ho';cases ho';exact⟨_,es',ep',hL,r'⟩) hok hg
theorem Inv.turned{it:Addr}(I:Inv X pins Z H s)(k:∀b o,b≠it->s.heap.get? b=some o->h'.get? b=some o)(hn:H it=none)(hL:it≠X.env.locals)
 (h1:it∈X.ex\/X.s₀.heap.objs.size<=it)(h2:∀x c,X.env.cells.lookup x=some c->c≠it)(h3:∀p∈X.pn++pins,p.1≠it):Inv X pins Z H { s with heap:=h',toks:=t' }:=by
 have nit:∀b u,H b=some u->b≠it:=fun b u e z=>by rw[z,hn] at e;cases e
 refine I.step (g':=s.gens) (d':=s.drawn) (ch:=[it]) (fun b hb=>?_) (fun b o _ _ hc e _=>k b o (fun z=>hc (by simp[z])) e) (fun b o _ _ hc e _=>⟨o.slots,k b o (fun z=>hc (by simp[z])) e⟩) (fun _ _ _ _ n=>n)
  (fun b o hc e=>⟨o,k b o (fun z=>hc (by simp[z])) e⟩) (fun _ _ e=>e) (fun _ _ _ e=>e) (fun b ps e=>⟨#[],by rw[e];simp⟩) (fun m hm=>?_) (fun b u e=>?_) I.bare
 ·have e:b=it:=by simpa using hb
  subst e;exact⟨h1,hL,h2,h3⟩
 ·obtain⟨o,es,ep,ho,r⟩:=hm;exact⟨o,es,ep,k _ o (Ne.symm hL) ho,r⟩
 ·refine(I.hok b u e).stay (fun c v hc q=>k c v ?_ q) (fun _ q=>q) fun _ _ q=>q;rcases hc with z | z
  ·rw[z];exact nit b u e
  ·exact nit c _ z
theorem Inv.tok(I:Inv X pins Z H s)(t:Nat):Inv X pins Z H { s with toks:=t }:=I.un (h':=s.heap) (t':=t) Un.refl I.hok
theorem Inv.kept(I:Inv X pins Z H s)(k:∀b u,s.heap.get? b=some u->h'.get? b=some u):Inv X pins Z H { s with heap:=h',toks:=t' }:=I.un (Un.kept k) (I.hok.kept k)
theorem Inv.laid{o:HO}(I:Inv X pins Z H s)(k:∀b u,s.heap.get? b=some u->h'.get? b=some u)(hp:s.heap.objs.size<=a)(new:Eh X.prog X.w (upd H a o) h' a o):
 Inv X pins Z (upd H a o) { s with heap:=h',toks:=t' }:=I.un (Un.laid k hp (I.hok.fresh hp)) (I.hok.laid k hp new)
theorem Inv.write{x e:Addr}{o:HO}(I:Inv X pins Z H s)(mu:Mut (H x))(he:e=x\/H e=some (.own x))(k:∀b u,b≠e->s.heap.get? b=some u->h'.get? b=some u)(heo:∃u,h'.get? e=some u)
 (new:Eh X.prog X.w (upd H x o) h' x o):Inv X pins Z (upd H x o) { s with heap:=h',toks:=t' }:=I.un (Un.write mu he k heo) (I.hok.write mu he k heo new)
theorem Inv.pins_of{pins':List (Addr×Obj)}(I:Inv X pins Z H s)(h:∀p∈pins',s.heap.get? p.1=some p.2/\H p.1=none/\p.1≠X.env.locals/\p.1∉X.fs/\∀v,p.2.data≠.cell v):Inv X pins' Z H s:=
 ⟨I.ok,I.os,I.bare,I.base,I.loc,I.cell,I.free,I.freeC,fun p hp=>(ko.mp hp).elim (fun z=>I.pin p (ji4 _ z)) (h p),I.hok,I.len⟩
theorem Zq{N:List Str}(hN:N.Nodup){i j:Nat}{x:Str}(a:N[i]?=some x)(b:N[j]?=some x):i=j:=by
 obtain⟨h1,e1⟩:=zd.mp a;obtain⟨h2,e2⟩:=zd.mp b;exact(List.getElem_inj hN).mp (e1.trans e2.symm)
theorem Oj{M:Model}{E:Value->Shared->Prop}{i:Nat}{v:V}{Q:Unit->Shared->Prop}(I:Inv X pins Z H s)(hN:X.N.Nodup)(hi:X.N[i]?=some x)(hx:Loc X.env.scope x)(r:RelV v u)
 (h:∀s',Inv X pins (Z.set i (some v)) H s'->(∃a,Heap.SameBut a s.heap s'.heap/\(a=X.env.locals\/X.env.cells.lookup x=some a))->Q () s')(hf:X.fn x=true\/X.env.scope.names.lookup x=some .local:=by first | exact .inl rfl | exact .inr rfl | assumption):wpAny M A (storeName X.env x u) Q E s:=by
 obtain⟨m,hn,hl⟩:=id I.loc;have hcls:(X.env.scope.kind==.class||(X.env.scope.kind==.module&&X.env.locals != X.env.globals))=false:=by rw[I.ok.kind];rfl
 have hiσ:i<Z.length:=by rw[I.len];exact(zd.mp hi).1
 have cne:=I.cne;have tracked:∀{a:Addr} {h':Heap},(∃o,s.heap.get? a=some o/\H a=none)->Heap.SameBut a s.heap h'->HOk X.prog X.w H h':=fun{a h'} ha hs b ob e=>by
  obtain⟨_,_,hfree⟩:=ha;refine(I.hok b ob e).stay (fun c w' hc q=>(hs.2 c ?_).trans q) (fun _ q=>q) fun _ _ q=>q;rintro rfl;rcases hc with rfl | hc
  ·rw[hfree] at e;cases e
  ·rw[hfree] at hc;cases hc
 rcases hx with hk | hk
 ·refine wpAny_storeName_local hk hn (fun h' hn' hs=>?_) hcls;obtain⟨oL,_,_,hoL,_⟩:=id hn;refine h _ ⟨I.ok,I.os,I.bare,⟨fun b o e n hb hx=>?_,fun b o e n hb hx=>?_,I.base.free,fun b o e hx=>?_,I.base.tups,I.base.frzs,I.base.tbls⟩,⟨_,hn',fun j y v' e1 e2 e3=>?_⟩,fun y c e=>?_,I.free,I.freeC,fun p hp=>?_,tracked ⟨oL,hoL,I.free⟩ hs,by simpa using I.len⟩ ⟨_,hs,.inl rfl⟩
  ·exact(hs.2 b (vv (zk (zo e) I.ok.above))).trans (I.base.keep b o e n hb hx)
  ·obtain⟨sl,e1⟩:=I.base.slot b o e n hb hx;exact⟨sl,(hs.2 b (vv (zk (zo e) I.ok.above))).trans e1⟩
  ·obtain⟨o',e1⟩:=I.base.there b o e hx;exact⟨o',(hs.2 b (vv (zk (zo e) I.ok.above))).trans e1⟩
  ·by_cases hj:j=i
   ·subst hj;rw[hi] at e1;cases e1;rw[List.getElem?_set_self hiσ] at e2;cases e2;exact⟨u,r,.inl ⟨hk,by simp⟩⟩
   ·rw[List.getElem?_set_ne (Ne.symm hj)] at e2;obtain⟨u',r',q⟩:=hl j y v' e1 e2 e3;refine⟨u',r',?_⟩;rcases q with ⟨k,e⟩ | ⟨k,c,e,z⟩
    ·refine .inl ⟨k,?_⟩;have:y≠x:=fun e=>hj (Zq hN e1 (e ▸ hi));simp[this,e]
    ·exact .inr ⟨k,c,e,z.sameBut hs (cne y c e)⟩
  ·obtain⟨w',z⟩:=I.cell y c e;exact⟨w',z.sameBut hs (cne y c e)⟩
  ·obtain⟨e,n,ne,nf,d⟩:=I.pin p hp;exact⟨(hs.2 p.1 ne).trans e,n,ne,nf,d⟩
 ·have hfn:X.fn x=true:=by
   rcases hf with z | z
   ·exact z
   ·rw[z] at hk;cases hk
  obtain⟨c,hc⟩:=I.ok.has x (.inl hk);obtain⟨w',z⟩:=I.cell x c hc;refine wpAny_storeName_cell I.ok.kind hk hc z (fun h' hc' hs=>?_);obtain⟨oc,hoc,hocd⟩:=id z;refine h { s with heap:=h' } ⟨I.ok,I.os,I.bare,⟨fun b o e n hb hx=>?_,fun b o e n hb hx=>?_,I.base.free,fun b o e hx=>?_,I.base.tups,I.base.frzs,I.base.tbls⟩,⟨m,hn.sameBut hs (Ne.symm (cne x c hc)),fun j y v' e1 e2 e3=>?_⟩,fun y c' e=>?_,I.free,I.freeC,fun p hp=>?_,tracked ⟨oc,hoc,I.freeC x c hc⟩ hs,by simpa using I.len⟩ ⟨c,hs,.inr hc⟩
  ·exact(hs.2 b (vv (zk (zo e) (I.ok.cab x c hfn hc)))).trans (I.base.keep b o e n hb hx)
  ·obtain⟨sl,e1⟩:=I.base.slot b o e n hb hx;exact⟨sl,(hs.2 b (vv (zk (zo e) (I.ok.cab x c hfn hc)))).trans e1⟩
  ·obtain⟨o',e1⟩:=I.base.there b o e hx;exact⟨o',(hs.2 b (vv (zk (zo e) (I.ok.cab x c hfn hc)))).trans e1⟩
  ·by_cases hj:j=i
   ·subst hj;rw[hi] at e1;cases e1;rw[List.getElem?_set_self hiσ] at e2;cases e2;exact⟨u,r,.inr ⟨.inl hk,c,hc,hc'⟩⟩
   ·rw[List.getElem?_set_ne (Ne.symm hj)] at e2;obtain⟨u',r',q⟩:=hl j y v' e1 e2 e3;refine⟨u',r',?_⟩;rcases q with q | ⟨k,c',e,z'⟩
    ·exact .inl q
    ·refine .inr ⟨k,c',e,z'.sameBut hs ?_⟩;rintro rfl;exact hj (Zq hN e1 (I.ok.inj _ _ _ e hc ▸ hi))
  ·by_cases hcc:c'=c
   ·subst hcc;exact⟨_,hc'⟩
   ·obtain⟨w2,z2⟩:=I.cell y c' e;exact⟨w2,z2.sameBut hs hcc⟩
  ·obtain⟨e,n,ne,nf,d⟩:=I.pin p hp;refine⟨(hs.2 p.1 ?_).trans e,n,ne,nf,d⟩;intro q;rw[q,hoc] at e;have q':oc=p.2:=xz e;exact d w' (by rw[<-q'];exact hocd)
theorem Yq{M:Model}{E:Value->Shared->Prop}{i:Nat}{v:V}{Q:Unit->Shared->Prop}(I:Inv X pins Z H s)(hN:X.N.Nodup)(hi:X.N[i]?=some x)(hx:Loc X.env.scope x)(r:RelV v u)
 (h:∀s',Inv X pins (Z.set i (some v)) H s'->Q () s')(hf:X.fn x=true\/X.env.scope.names.lookup x=some .local:=by first | exact .inl rfl | exact .inr rfl | assumption):wpAny M A (storeName X.env x u) Q E s:=
 Oj I hN hi hx r (fun s' I' _=>h s' I') hf
theorem Inv.call'{s':Shared}{ch:List Addr}(I:Inv X pins Z H s)(ho:s'.os=s.os)(u:Un (frs X.stack) ch H H' s.heap s'.heap)(hok:HOk X.prog X.w H' s'.heap)(hg:AllBare s'.gens)
 (hch:∀b∈ch,(b∈X.ex\/X.s₀.heap.objs.size<=b)/\b≠X.env.locals/\(∀x c,X.env.cells.lookup x=some c->c≠b)/\∀p∈X.pn++pins,p.1≠b):Inv X pins Z H' s':=by
 obtain⟨h',g',d',t',o'⟩:=s';have e:o'=s.os:=ho;subst e;exact I.call (g':=g') (t':=t') (d':=d') u hok hg hch
end
noncomputable abbrev XK:=Value->Option Addr->Hp->Prop
noncomputable abbrev St:=List (Option V)
noncomputable abbrev VK:=V->Hp->Prop
noncomputable abbrev TE:=St->Hp->VK->Prop
noncomputable abbrev TT:=St->Hp->(Bool->Hp->Prop)->Prop
noncomputable abbrev TA:=St->Hp->(List V->Hp->Prop)->Prop
structure Ends where
 nx:St->Hp->Prop
 rt:VK
 bk:St->Hp->Prop:=fun _ _=>False
 ct:St->Hp->Prop:=fun _ _=>False
noncomputable abbrev TS:=Ends->St->Hp->Prop
def EP(X:Cx)(pins:List (Addr×Obj))(Z:St)(Q:VK)(u:Value)(s':Shared):Prop:=∃v H',Inv X pins Z H' s'/\RelV v u/\Q v H'
def TP(X:Cx)(pins:List (Addr×Obj))(Z:St)(Q:Bool->Hp->Prop)(b:Bool)(s':Shared):Prop:=∃H',Inv X pins Z H' s'/\Q b H'
def AP(X:Cx)(pins:List (Addr×Obj))(Z:St)(Q:List V->Hp->Prop)(us:List Value)(s':Shared):Prop:=∃vs H',Inv X pins Z H' s'/\Vals vs us/\Q vs H'
def SP(X:Cx)(pins:List (Addr×Obj))(D:Ends)(f:Flow)(s':Shared):Prop:=
 match f with
 | .next=>∃Z' H',Inv X pins Z' H' s'/\D.nx Z' H'
 | .brk=>∃Z' H',Inv X pins Z' H' s'/\D.bk Z' H'
 | .cont=>∃Z' H',Inv X pins Z' H' s'/\D.ct Z' H'
 | .ret u=>∃v Z' H',Inv X pins Z' H' s'/\RelV v u/\D.rt v H'
def PE(X:Cx)(e:Expr)(t:TE):Prop:=
 ∀ ⦃pins:List (Addr×Obj)⦄ (s:Shared) (Z:St) (H:Hp) (Q:VK),Inv X pins Z H s->t Z H Q->wpAny (model X.prog X.w) X.A (eval e X.env) (EP X pins Z Q) X.xe s
def PT(X:Cx)(e:Expr)(t:TT):Prop:=
 ∀ ⦃pins:List (Addr×Obj)⦄ (s:Shared) (Z:St) (H:Hp) (Q:Bool->Hp->Prop),Inv X pins Z H s->t Z H Q->wpAny (model X.prog X.w) X.A (isTrue e X.env (eval e X.env)) (TP X pins Z Q) X.xe s
def PW(X:Cx)(e:Expr)(t:TT):Prop:=
 ∀ ⦃whole:Sem Value⦄ (pins:List (Addr×Obj)) (s:Shared) (Z:St) (H:Hp) (Q:Bool->Hp->Prop),Inv X pins Z H s->t Z H Q->wpAny (model X.prog X.w) X.A (isTrue e X.env whole) (TP X pins Z Q) X.xe s
theorem PW.pt{X:Cx}{e:Expr}{t:TT}(h:PW X e t):PT X e t:=fun pins=>@h _ pins
def PA(X:Cx)(es:List Expr)(t:TA):Prop:=
 ∀ ⦃pos:Pos⦄ (pins:List (Addr×Obj)) (s:Shared) (Z:St) (H:Hp) (Q:List V->Hp->Prop),Inv X pins Z H s->t Z H Q->wpAny (model X.prog X.w) X.A (spliced (backTo pos (starEach es X.env))) (AP X pins Z Q) X.xe s
def PS(X:Cx)(st:Stmt)(t:TS):Prop:=
 ∀ ⦃pins:List (Addr×Obj)⦄ (s:Shared) (Z:St) (H:Hp) (D:Ends),Inv X pins Z H s->t D Z H->wpAny (model X.prog X.w) X.A (exec st X.env) (SP X pins D) X.xe s
def PSs(X:Cx)(st:List Stmt)(t:TS):Prop:=
 ∀ ⦃pins:List (Addr×Obj)⦄ (s:Shared) (Z:St) (H:Hp) (D:Ends),Inv X pins Z H s->t D Z H->wpAny (model X.prog X.w) X.A (execs st X.env) (SP X pins D) X.xe s
theorem thn{α:Type}{t:Sem α}{Q Q':α->Shared->Prop}{M:Model}{E:Value->Shared->Prop}{s:Shared}(h:wpAny M A t Q E s)(hQ:∀a s,Q a s->Q' a s):wpAny M A t Q' E s:=Qb h hQ fun _ _ x=>x
variable{Z:St}{pos:Pos}{pins:List (Addr×Obj)}
section
variable{X:Cx}
def ADJ:Option (Option V)->(V->Prop)->Prop
 | some (some v),k=>k v
 | _,_=>False
def Iu(i:Nat):TE:=fun Z H Q=>ADJ Z[i]? fun v=>Q v H
theorem rZ{i:Nat}{Q:VK}(h:Iu i Z H Q):∃v,Z[i]?=some (some v)/\Q v H:=by
 unfold Iu at h
 match e:Z[i]?,h with
 | some (some v),h=>exact⟨v,rfl,h⟩
theorem KR{i:Nat}{Q:VK}{v:V}(e:Z[i]?=some (some v))(h:Q v H):Iu i Z H Q:=by
 unfold Iu;rw[e];exact h
noncomputable abbrev Vw(T G:Prop):=(T->G)->T->G
def tC(v:V):TE:=fun _ H Q=>Q v H
theorem oX{i:Nat}(hN:X.N[i]?=some x)(hv:Vis X.env.scope x)(hd:(x==("__debug__":Str))=false:=by decide)(hcd:(x==("__classdict__":Str))=false:=by decide):PE X (.Name x pos) (Iu i):=by
 intro pins s Z H Q I h;obtain⟨v,e,h⟩:=rZ h;obtain⟨m,hn,hl⟩:=I.loc;obtain⟨u,r,l⟩:=hl i x v hN e hv;have fin:EP X pins Z Q u s:=⟨v,H,I,r,h⟩;rcases l with ⟨hk,hm⟩ | ⟨hk,c,hc,hcell⟩
 ·exact wpAny_Name (wpAny_loadName_local I.ok.kind hk hn hm fin) hd
 ·rcases hk with hk | hk
  ·exact wpAny_Name (wpAny_loadName_cell I.ok.kind hk hc hcell fin) hd
  ·exact wpAny_Name (wpAny_loadName_free I.ok.kind hk hc hcell fin hcd) hd
theorem Ag{i j pos}:PE X (.Constant (.int i) j pos) (tC (.int i)):=fun _ _ _ H _ I h=>wpAny_Constant_int ⟨.int i,H,I.tok _,⟨_,rfl⟩,h⟩
theorem Gp{b j pos}:PE X (.Constant (.bool b) j pos) (tC (.bl b)):=fun _ _ _ H _ I h=>Constant_bool ⟨.bl b,H,I,rfl,h⟩
theorem Gw{j pos}:PE X (.Constant .none j pos) (tC .non):=fun _ _ _ H _ I h=>Constant_none ⟨.non,H,I,rfl,h⟩
theorem Al{x j pos}:PE X (.Constant (.str x) j pos) (tC (.str x)):=fun _ _ _ H _ I h=>Calls.Constant_str ⟨.str x,H,I.tok _,⟨_,rfl⟩,h⟩
def Gl(X:Cx)(x:Str):Prop:=X.env.kindOf x=some .globalImplicit
theorem Ih{E:Value->Shared->Prop}{s:Shared}{Q:Value->Shared->Prop}(I:Inv X pins Z H s)(hg:Gl X x)(hm:X.mg x=some u)(h:Q u s)
 (hd:(x==("__debug__":Str))=false:=by decide):wpAny (model X.prog X.w) X.A (eval (.Name x pos) X.env) Q E s:=
 Calls.Name_function_global I.ok.kind hg (Calls.loadGlobal_global (by rw[I.ok.glob];exact I.mod.glob.keeps I.bk) hm h) hd
theorem Kl{E:Value->Shared->Prop}{s:Shared}{Q:Value->Shared->Prop}(I:Inv X pins Z H s)(hg:Gl X x)(hm:X.mg x=none)(hv:bootBuiltins x=some u)(h:Q u s)
 (hn:x≠"__name__":=by decide)(hd:(x==("__debug__":Str))=false:=by decide):wpAny (model X.prog X.w) X.A (eval (.Name x pos) X.env) Q E s:=by
 obtain⟨mb,h1,h2⟩:=I.mod.blt;exact Calls.Name_function_global I.ok.kind hg (Calls.loadGlobal_builtin (by rw[I.ok.glob];exact I.mod.glob.keeps I.bk) hm (by rw[I.ok.blt];exact h1.keeps I.bk) ((h2 x hn).trans hv) h) hd
theorem Cg{v:V}(hg:Gl X x)(hm:X.mg x=some u)(r:RelV v u)(hd:(x==("__debug__":Str))=false:=by decide):PE X (.Name x pos) (tC v):=
 fun _ _ _ H _ I h=>Ih I hg hm ⟨v,H,I,r,h⟩ hd
theorem Xf{v:V}(hg:Gl X x)(hm:X.mg x=none)(hv:bootBuiltins x=some u)(r:RelV v u)(hn:x≠"__name__":=by decide)(hd:(x==("__debug__":Str))=false:=by decide):PE X (.Name x pos) (tC v):=
 fun _ _ _ H _ I h=>Kl I hg hm hv ⟨v,H,I,r,h⟩ hn hd
variable{a b:Expr}{ta tb:TE}{pos:Pos}
def PC(X:Cx)(op:CmpOp)(a b:Expr)(t:TE):Prop:=
 ∀(pins:List (Addr×Obj)) (s:Shared) (Z:St) (H:Hp) (Q:VK),Inv X pins Z H s->t Z H Q->
  wpAny (model X.prog X.w) X.A (eval a X.env) (fun v s₁=>wpAny (model X.prog X.w) X.A (eval b X.env) (fun u s₂=>wpAny (model X.prog X.w) X.A (compareOp op v u) (EP X pins Z Q) X.xe s₂) X.xe s₁) X.xe s
def tB(t:TE):TT:=fun Z H Q=>t Z H fun x H1=>∃c,x=.bl c/\Q c H1
theorem Xa{op:CmpOp}{t:TE}(h:PC X op a b t)(h1:behindInMarks op b=false:=by first | exact nobehind _ nofun nofun | rfl):PT X (.Compare a [op] [b] pos) (tB t):=by
 intro pins s Z H Q I hw;refine wpAny_isTrue_Compare1 (thn (h pins s Z H _ I hw) fun v s1 h1=>thn h1 fun u s2 h2=>thn h2 fun c s3 hZ=>?_) h1;obtain⟨x,H1,I1,r1,q1⟩:=hZ;obtain⟨d,rfl,q⟩:=q1;cases r1;exact jf7 ⟨H1,I1,q⟩
theorem Cz{e:Expr}{t:TE}(h:PE X e t)(he:∀whole,isTrue e X.env whole=(do let v <-whole;standAt e.pos;holding [v] (truthy v)):=by intro _;rfl):PT X e (tB t):=by
 intro pins s Z H Q I hw;refine isTrue_plain (thn (h s Z H _ I hw) fun v s1 hZ=>?_) (he _);obtain⟨x,H1,I1,r1,q1⟩:=hZ;obtain⟨d,rfl,q⟩:=q1;cases r1;exact jf7 ⟨H1,I1,q⟩
variable{tA tB':TT}{rest:List Expr}
def ABh(t u:TT):TT:=fun Z H Q=>t Z H fun c H1=>if c=true then u Z H1 Q else Q false H1
def tOr(t u:TT):TT:=fun Z H Q=>t Z H fun c H1=>if c=true then Q true H1 else u Z H1 Q
def ABb(t:TT):TT:=fun Z H Q=>t Z H fun c H1=>Q (!c) H1
theorem Rh(ha:PT X a tA):PW X (.BoolOp .And [a] pos) tA:=by
 intro wh pins s Z H Q I h;refine isTrue_and (thn (ha s Z H Q I h) fun c s1 e=>?_);cases c with
 | true=>exact isTrue_and_nil e
 | false=>exact e
theorem Fx(ha:PT X a tA):PW X (.BoolOp .Or [a] pos) tA:=by
 intro wh pins s Z H Q I h;refine isTrue_or (thn (ha s Z H Q I h) fun c s1 e=>?_);cases c with
 | false=>exact isTrue_or_nil e
 | true=>exact e
theorem XX(ha:PT X a tA)(hb:PW X (.BoolOp .And (b::rest) pos) tB'):PW X (.BoolOp .And (a::b::rest) pos) (ABh tA tB'):=by
 intro wh pins s Z H Q I h;refine isTrue_and (thn (ha s Z H _ I h) fun c s1 hZ=>?_);obtain⟨H1,I1,q1⟩:=hZ;cases c with
 | true=>exact hb (whole:=wh) pins s1 Z H1 Q I1 q1
 | false=>exact⟨H1,I1,q1⟩
theorem HW(ha:PT X a tA)(hb:PW X (.BoolOp .Or (b::rest) pos) tB'):PW X (.BoolOp .Or (a::b::rest) pos) (tOr tA tB'):=by
 intro wh pins s Z H Q I h;refine isTrue_or (thn (ha s Z H _ I h) fun c s1 hZ=>?_);obtain⟨H1,I1,q1⟩:=hZ;cases c with
 | true=>exact⟨H1,I1,q1⟩
 | false=>exact hb (whole:=wh) pins s1 Z H1 Q I1 q1
theorem Dv(ha:PT X a tA):PT X (.UnaryOp .Not a pos) (ABb tA):=by
 intro pins s Z H Q I h;exact isTrue_not (ha s Z H (fun c H1=>Q (!c) H1) I h)
def ww(ta tb:TE):TE:=fun Z H Q=>ta Z H fun x H1=>∃c,x=.bl c/\if c=true then tb Z H1 Q else Q (.bl false) H1
theorem Xe{op}{t:TE}(h:PE X a t):PE X (.BoolOp op [a] pos) t:=fun pins s Z H Q I hw=>BoolOp_one (h s Z H Q I hw)
theorem Ti(ha:PE X a ta)(hb:PE X (.BoolOp .And (b::rest) pos) tb):PE X (.BoolOp .And (a::b::rest) pos) (ww ta tb):=by
 intro pins s Z H Q I h;refine BoolOp_and (thn (ha s Z H _ I h) fun v s1 hZ=>?_);obtain⟨x,H1,I1,r1,q1⟩:=hZ;obtain⟨c,rfl,q1⟩:=q1;cases r1;refine jf7 ?_;cases c with
 | true=>exact hb s1 Z H1 Q I1 q1
 | false=>exact⟨.bl false,H1,I1,rfl,q1⟩
def tIf(t:TT)(ta tb:TE):TE:=fun Z H Q=>t Z H fun c H1=>if c=true then ta Z H1 Q else tb Z H1 Q
theorem Fy{c:Expr}(hc:PT X c tA)(ha:PE X a ta)(hb:PE X b tb):PE X (.IfExp c a b pos) (tIf tA ta tb):=by
 intro pins s Z H Q I h;refine wpAny_IfExp (thn (hc s Z H _ I h) fun d s1 hZ=>?_);obtain⟨H1,I1,q1⟩:=hZ;cases d with
 | true=>exact ha s1 Z H1 Q I1 q1
 | false=>exact hb s1 Z H1 Q I1 q1
end
def SqL(K:Fr)(H:Hp)(a:Addr)(xs:List V):Prop:=
 Rd H a (.lst xs)\/
  ∃(o:Obj) (its:Array Value) (n:Nat),K.lookup a=some o/\o.cls=.type "list"/\o.dict=none/\o.data=.seq its n/\its.size<=sizeLine/\Vals xs its.toList
def SqT(K:Fr)(H:Hp)(a:Addr)(xs:List V):Prop:=
 Rd H a (.tup xs)\/
  ∃(o:Obj) (its:Array Value) (n:Nat),K.lookup a=some o/\o.cls=.type "tuple"/\o.data=.seq its n/\its.size<=sizeLine/\Vals xs its.toList
noncomputable def ADj:Value->Option V
 | .none=>some .non
 | .bool b=>some (.bl b)
 | .int i _=>some (.int i)
 | .str x _=>some (.str x)
 | .bytes b _=>some (.byt b)
 | .float b _=>some (.flt b)
 | .ref a=>some (.ref a)
 | .type n=>some (.ty n)
 | _=>none
theorem RelV.abs{x:V}(r:RelV x u):ADj u=some x:=by
 cases x with
 | non=>cases r;rfl
 | bl _=>cases r;rfl
 | int _=>obtain⟨t,rfl⟩:=r;rfl
 | str _=>obtain⟨t,rfl⟩:=r;rfl
 | byt _=>obtain⟨t,rfl⟩:=r;rfl
 | flt _=>obtain⟨t,rfl⟩:=r;rfl
 | ref _=>cases r;rfl
 | ty _=>cases r;rfl
theorem RelV.inj{x y:V}(r:RelV x u)(q:RelV y u):x=y:=xz (r.abs.symm.trans q.abs)
theorem Vals.inj:∀{xs ys:List V} {us:List Value},Vals xs us->Vals ys us->xs=ys
 | _,_,_,.nil,.nil=>rfl
 | _,_,_,.cons r t,.cons r' t'=>by rw[r.inj r',Vals.inj t t']
variable{K:Fr}
section
variable{X:Cx}{pins:List (Addr×Obj)}{Z:St}{H:Hp}{s:Shared}{a:Addr}{xs ys:List V}
theorem SqL.of(h:H a=some (.lst xs)):SqL K H a xs:=.inl (.inl h)
theorem SqT.of(h:H a=some (.tup xs)):SqT K H a xs:=.inl (.inl h)
theorem Inv.list(I:Inv X pins Z H s)(h:SqL X.K H a xs):∃its:List Value,Vals xs its/\PlainL s.heap a its.toArray/\xs.length<=sizeLine:=by
 rcases h with h | ⟨o,its,n,hk,hc,hd,hs,hz,r⟩
 ·obtain⟨z,its,n,r,e⟩:=h.ok I.hok;exact⟨its,r,⟨_,n,e,rfl,rfl,rfl⟩,z⟩
 ·refine⟨its.toList,r,⟨o,n,I.kIn a o hk,hc,hd,by simpa using hs⟩,?_⟩;have e:=r.length;simp only[ka] at e;lia
theorem Inv.tuple(I:Inv X pins Z H s)(h:SqT X.K H a xs):∃its:List Value,Vals xs its/\IsTup s.heap a its.toArray/\xs.length<=sizeLine:=by
 rcases h with h | ⟨o,its,n,hk,hc,hs,hz,r⟩
 ·obtain⟨z,its,r,p⟩:=h.ok I.hok;exact⟨its,r,p,z⟩
 ·refine⟨its.toList,r,⟨o,I.kIn a o hk,hc,n,by simpa using hs⟩,?_⟩;have e:=r.length;simp only[ka] at e;lia
theorem Inv.list_inj(I:Inv X pins Z H s)(h:SqL X.K H a xs)(h':SqL X.K H a ys):xs=ys:=by
 obtain⟨its,r,⟨o,n,e,_,_,d⟩,_⟩:=I.list h;obtain⟨its',r',⟨o',n',e',_,_,d'⟩,_⟩:=I.list h';rw[e] at e';cases e';rw[d] at d';injection d' with d1 _;have:its=its':=by simpa using yi Array.toList d1
 subst this;exact r.inj r'
theorem Inv.tuple_inj(I:Inv X pins Z H s)(h:SqT X.K H a xs)(h':SqT X.K H a ys):xs=ys:=by
 obtain⟨its,r,⟨o,e,_,n,d⟩,_⟩:=I.tuple h;obtain⟨its',r',⟨o',e',_,n',d'⟩,_⟩:=I.tuple h';rw[e] at e';cases e';rw[d] at d';injection d' with d1 _;have:its=its':=by simpa using yi Array.toList d1
 subst this;exact r.inj r'
end
noncomputable abbrev Cx.wish(X:Cx)(E:Value->Shared->Prop):Cx:={ X with xe:=E }
noncomputable abbrev Cx.nox(X:Cx):Cx:=X.wish fun _ _=>False
theorem Cx.Ok.wish{X:Cx}(ok:X.Ok)(E:Value->Shared->Prop):(X.wish E).Ok:=
 ⟨ok.mod,ok.kind,ok.glob,ok.blt,ok.above,ok.inj,ok.has,ok.cab,ok.hd,ok.frames,ok.stk,ok.exf,ok.bs,ok.bsz,ok.noex,ok.exfs,ok.funs,ok.frf⟩
theorem Cx.Ok.unwish{X:Cx}{E:Value->Shared->Prop}(ok:(X.wish E).Ok):X.Ok:=
 ⟨ok.mod,ok.kind,ok.glob,ok.blt,ok.above,ok.inj,ok.has,ok.cab,ok.hd,ok.frames,ok.stk,ok.exf,ok.bs,ok.bsz,ok.noex,ok.exfs,ok.funs,ok.frf⟩
section
variable{X:Cx}{pins:List (Addr×Obj)}{Z:St}{H:Hp}{s:Shared}{E:Value->Shared->Prop}
theorem Inv.wish(I:Inv X pins Z H s)(E:Value->Shared->Prop):Inv (X.wish E) pins Z H s:=⟨I.ok.wish E,I.os,I.bare,I.base,I.loc,I.cell,I.free,I.freeC,I.pin,I.hok,I.len⟩
theorem Inv.unwish(I:Inv (X.wish E) pins Z H s):Inv X pins Z H s:=⟨I.ok.unwish,I.os,I.bare,I.base,I.loc,I.cell,I.free,I.freeC,I.pin,I.hok,I.len⟩
theorem SP.unwish{D:Ends}{f:Flow}{s':Shared}(h:SP (X.wish E) pins D f s'):SP X pins D f s':=by
 cases f with
 | next=>obtain⟨Z',H',I,q⟩:=h;exact⟨Z',H',I.unwish,q⟩
 | brk=>obtain⟨Z',H',I,q⟩:=h;exact⟨Z',H',I.unwish,q⟩
 | cont=>obtain⟨Z',H',I,q⟩:=h;exact⟨Z',H',I.unwish,q⟩
 | ret u=>obtain⟨v,Z',H',I,r,q⟩:=h;exact⟨v,Z',H',I.unwish,r,q⟩
theorem PSs.nox{st:List Stmt}{t:TS}(h:PSs X.nox st t):PSs X st t:=fun pins s Z H D I hw=>
 Qb (h s Z H D (I.wish _) hw) (fun _ _ q=>q.unwish) fun _ _ z=>False.elim z
end
section
variable{X:Cx}{st:Stmt}{rest:List Stmt}{t u:TS}{e:Expr}{te:TE}{pos:Pos}
def wg:TS:=fun D Z H=>D.nx Z H
def ABZ(t u:TS):TS:=fun D Z H=>t { D with nx:=u D } Z H
theorem Ao:PSs X [] wg:=fun _ _ Z H _ I h=>jl2 ⟨Z,H,I,h⟩
theorem Ab(h1:PS X st t)(h2:PSs X rest u):PSs X (st::rest) (ABZ t u):=by
 intro pins s Z H D I h;refine wpAny_execs_cons (thn (h1 s Z H { D with nx:=u D } I h) fun f s1 q=>?_);cases f with
 | next=>
  obtain⟨Z',H',I',q⟩:=q;exact h2 s1 Z' H' D I' q
 | ret v=>exact q
 | brk=>exact q
 | cont=>exact q
theorem Ad(h1:PS X st t):PSs X [st] t:=by
 intro pins s Z H D I h;refine wpAny_execs_cons (thn (h1 s Z H D I h) fun f s1 q=>?_);cases f with
 | next=>exact jl2 q
 | ret v=>exact q
 | brk=>exact q
 | cont=>exact q
def mH:TS:=fun D Z H=>D.bk Z H
theorem Ze:PS X (.Break pos) mH:=fun _ _ Z H _ I h=>wpAny_Break ⟨Z,H,I,h⟩
theorem Inv.quiet{s:Shared}(I:Inv X pins Z H s):interactive X.env=false:=by simp[interactive,I.ok.kind]
def lY(te:TE):TS:=fun D Z H=>te Z H fun _ H1=>D.nx Z H1
theorem Bv(he:PE X e te)(hs:‹swapsWith e none pos.line X.env=pure false›):PS X (.Expr e pos) (lY te):=by
 intro pins s Z H D I h;exact wpAny_Expr_any (thn (he s Z H _ I h) fun v s1 ⟨x,H1,I1,r1,q1⟩=>⟨Z,H1,I1,q1⟩) I.quiet hs
def ABa(te:TE):TS:=fun D Z H=>te Z H D.rt
theorem Ak(he:PE X e te):PS X (.Return (some e) pos) (ABa te):=by
 intro pins s Z H D I h;exact wpAny_Return_some (thn (he s Z H _ I h) fun v s1 ⟨x,H1,I1,r1,q1⟩=>⟨x,Z,H1,I1,r1,q1⟩)
def ABd(c:TT)(t u:TS):TS:=fun D Z H=>c Z H fun b H1=>if b=true then t D Z H1 else u D Z H1
theorem BW{c:Expr}{a b:List Stmt}{tc:TT}(hc:PT X c tc)(ha:PSs X a t)(hb:PSs X b u):PS X (.If c a b pos) (ABd tc t u):=by
 intro pins s Z H D I h;refine wpAny_If (thn (hc s Z H _ I h) fun d s1 hZ=>?_);obtain⟨H1,I1,q1⟩:=hZ;cases d with
 | true=>exact ha s1 Z H1 D I1 q1
 | false=>exact hb s1 Z H1 D I1 q1
def yH:TS:=fun _ _ _=>False
theorem Be:PS X st yH:=fun _ _ _ _ _ _ h=>h.elim
end
noncomputable abbrev TG:=V->St->Hp->(St->Hp->Prop)->Prop
noncomputable abbrev TGs:=List V->St->Hp->(St->Hp->Prop)->Prop
def PG(X:Cx)(target:Expr)(t:TG):Prop:=
 ∀ ⦃pins:List (Addr×Obj)⦄ (s:Shared) (Z:St) (H:Hp) (v:V) (u:Value) (Q:St->Hp->Prop),Inv X pins Z H s->RelV v u->t v Z H Q->
  wpAny (model X.prog X.w) X.A (assign target X.env u) (fun _ s'=>∃Z' H',Inv X pins Z' H' s'/\Q Z' H') X.xe s
def PGs(X:Cx)(ts:List Expr)(t:TGs):Prop:=
 ∀ ⦃pins:List (Addr×Obj)⦄ (s:Shared) (Z:St) (H:Hp) (vs:List V) (us:List Value) (Q:St->Hp->Prop),Inv X pins Z H s->Vals vs us->t vs Z H Q->
  wpAny (model X.prog X.w) X.A (assignInOrder ((assignEach ts X.env).map (·.2)) us) (fun _ s'=>∃Z' H',Inv X pins Z' H' s'/\Q Z' H') X.xe s
noncomputable abbrev ABL:=V->V->V->Hp->(Hp->Prop)->Prop
def ACu(X:Cx)(t:ABL):Prop:=
 ∀(pins:List (Addr×Obj)) (s:Shared) (Z:St) (H:Hp) (o i v:V) (ov iv u:Value) (Q:Hp->Prop),Inv X pins Z H s->RelV o ov->RelV i iv->RelV v u->t o i v H Q->
  wpAny (model X.prog X.w) X.A (setItem ov iv u) (fun _ s'=>∃H',Inv X pins Z H' s'/\Q H') X.xe s
section
variable{X:Cx}{pos:Pos}
def Kq(i:Nat):TG:=fun v Z H Q=>Q (Z.set i (some v)) H
theorem FZ{i:Nat}(hN:X.N.Nodup)(hi:X.N[i]?=some x)(hx:Loc X.env.scope x)(hf:X.fn x=true\/X.env.scope.names.lookup x=some .local:=by first | exact .inl rfl | exact .inr rfl | assumption):PG X (.Name x pos) (Kq i):=by
 intro pins s Z H v u Q I r h;exact wpAny_assign_Name (Yq I hN hi hx r (fun s' I'=>⟨_,H,I',h⟩) hf)
def AAa:TGs:=fun vs Z H Q=>vs=[]/\Q Z H
def gZ(t:TG)(u:TGs):TGs:=fun vs Z H Q=>∃v r,vs=v::r/\t v Z H fun Z' H'=>u r Z' H' Q
theorem fu:PGs X [] AAa:=by
 intro pins s Z H vs us Q I r h;obtain⟨e,h⟩:=h;subst e;cases r;exact assignInOrder_nil ⟨Z,H,I,h⟩
theorem NT{e:Expr}{es:List Expr}{t:TG}{u:TGs}(h1:PG X e t)(h2:PGs X es u)
 (hs:‹(assignEach (e::es) X.env).map (·.2)=assign e X.env::(assignEach es X.env).map (·.2)›):PGs X (e::es) (gZ t u):=by
 intro pins s Z H vs us Q I r h;obtain⟨v,vr,e1,h⟩:=h;subst e1;cases r with
 | cons r rr=>
  rw[hs];refine assignInOrder_cons (thn (h1 s Z H _ _ _ I r h) fun _ s1 hZ=>?_);obtain⟨σ1,H1,I1,q1⟩:=hZ;exact h2 s1 σ1 H1 _ _ Q I1 rr q1
def vZ(K:Fr)(n:Nat)(t:TGs):TG:=fun v Z H Q=>∃a xs,v=.ref a/\SqT K H a xs/\xs.length=n/\t xs Z H Q
theorem oW{es:List Expr}{k:Nat}{t:TGs}{n:Nat}(hc:X.calm=true)(h:PGs X es t)
 (hn:‹(assignEach es X.env).length=n›)(hst:‹(assignEach es X.env).findIdx? (·.1)=none›):PG X (.Tuple es k pos) (vZ X.K n t):=by
 intro pins s Z H v u Q I r hw;obtain⟨a,xs,e1,hq,hl,hw⟩:=hw;subst e1;cases r;obtain⟨its,rv,ht,hz⟩:=I.tuple hq;refine assign_Tuple_tuple (I.ok.hd hc) ht (by simp[hn,<-hl,rv.length]) hst fun h' hx=>?_;have I1:Inv X pins Z H { s with heap:=h' }:=I.kept (t':=s.toks) fun b o e=>hx b o (vv (zo e)) e;exact h _ Z H xs _ Q I1 (by simpa using rv) hw
def ACd(to ti:TE)(t:ABL):TG:=fun v Z H Q=>to Z H fun o H1=>ti Z H1 fun i H2=>t o i v H2 fun H3=>Q Z H3
theorem Td{o i:Expr}{to ti:TE}{t:ABL}(ho:PE X o to)(hi:PE X i ti)(hs:ACu X t)
 (ha:∀v,assign (.Subscript o i pos) X.env v=(do
  let ov <-holding [v] (eval o X.env)
  let iv <-holding [v,ov] (eval i X.env)
  standAt pos
  holding [v,ov,iv] (setItem ov iv v)
  release [v,ov,iv] []):=by intro _;rfl):PG X (.Subscript o i pos) (ACd to ti t):=by
 intro pins s Z H v u Q I r h;rw[ha];refine jp (jn6 (thn (ho s Z H _ I h) fun ov s1 hZ=>?_));obtain⟨x,H1,I1,r1,q1⟩:=hZ;refine jp (jn6 (thn (hi s1 Z H1 _ I1 q1) fun iv s2 hZ=>?_));obtain⟨y,H2,I2,r2,q2⟩:=hZ;refine jp (wpAny_standAt (jp (jn6 (thn (hs pins s2 Z H2 x y v ov iv u _ I2 r1 r2 r q2) fun _ s3 hZ=>?_))));obtain⟨H3,I3,q3⟩:=hZ;exact wpAny_release ⟨Z,H3,I3,q3⟩
def mJ(te:TE)(g:TG):TS:=fun D Z H=>te Z H fun x H1=>g x Z H1 D.nx
theorem TX{tg e:Expr}{te:TE}{g:TG}(he:PE X e te)(hg:PG X tg g)(hs:‹swapsWithSole [tg] e pos.line X.env=pure false›)(hw:‹swappedStores [tg] e X.env=pure none›)
 (h1:‹(assignEach [tg] X.env).map (·.2)=[assign tg X.env]›):PS X (.Assign [tg] e pos) (mJ te g):=by
 intro pins s Z H D I h;refine wpAny_Assign_stores (thn (he s Z H _ I h) fun v s1 hZ=>?_) hs hw;obtain⟨x,H1,I1,r1,q1⟩:=hZ;rw[h1];exact thn (hg s1 Z H1 x v _ I1 r1 q1) fun _ s2 q=>q
theorem Aj(i:Nat){x:Str}{e:Expr}{te:TE}{pos':Pos}(he:PE X e te)(hN:X.N.Nodup:=by assumption)(hi:X.N[i]?=some x:=by exact rfl)(hx:Loc X.env.scope x:=by walk_at"o")(hs:‹swapsWith e (some (.Name x pos')) pos.line X.env=pure false›)(hf:X.fn x=true\/X.env.scope.names.lookup x=some .local:=by first | exact .inl rfl | exact .inr rfl | assumption):
 PS X (.Assign [.Name x pos'] e pos) (mJ te (Kq i)):=by
 intro pins s Z H D I h;refine wpAny_Assign_Name (thn (he s Z H _ I h) fun v s1 hZ=>?_) hs;obtain⟨y,H1,I1,r1,q1⟩:=hZ;exact Yq I1 hN hi hx r1 (fun s2 I2=>⟨_,H1,I2,q1⟩) hf
end
section
variable{X:Cx}{pos:Pos}
def yF(c:TT)(tb:TS):TS:=fun D Z H=>∃W:Nat->St->Hp->Prop,(∃m,W m Z H)/\∀m Z H,W m Z H->
 c Z H fun b H1=>if b=true then ∃N:St->Hp->Prop,(∀Z' H',N Z' H'->∃m',m'<m/\W m' Z' H')/\tb { D with nx:=N,ct:=N,bk:=D.nx } Z H1 else D.nx Z H1
theorem KY{c:Expr}{body:List Stmt}{tc:TT}{tb:TS}(hp:PassesOwn (model X.prog X.w) X.A X.env X.xe)(hc:PT X c tc)(hb:PSs X body tb):PS X (.While c body [] pos) (yF tc tb):=by
 intro pins s Z H D I h;obtain⟨W,⟨m0,w0⟩,turn⟩:=h;refine wpAny_While (codeAny_whileLoop (fun n s'=>∃Z' H',Inv X pins Z' H' s'/\W n Z' H') ?_ m0 ⟨Z,H,I,w0⟩);rintro n s1 ⟨σ1,H1,I1,w1⟩;refine jf5 hp (thn (hc s1 σ1 H1 _ I1 (turn n σ1 H1 w1)) fun b s2 hZ=>?_);obtain⟨H2,I2,q2⟩:=hZ;cases b with
 | true=>
  obtain⟨N,hN,q2⟩:=q2;rw[xo rfl];refine jf5 hp (thn (hb s2 σ1 H2 _ I2 q2) fun f s3 q3=>?_);cases f with
  | next=>
   obtain⟨σ3,H3,I3,n3⟩:=q3;obtain⟨m',hm,w3⟩:=hN σ3 H3 n3;exact⟨m',hm,σ3,H3,I3,w3⟩
  | cont=>
   obtain⟨σ3,H3,I3,n3⟩:=q3;obtain⟨m',hm,w3⟩:=hN σ3 H3 n3;exact⟨m',hm,σ3,H3,I3,w3⟩
  | brk=>exact q3
  | ret v=>exact q3
 | false=>
  rw[xp qv];exact jl2 ⟨σ1,H2,I2,q2⟩
end
structure It where
 go:Nat->Hp->Prop
 yld:Nat->Hp->V->Hp->Prop
 stop:Nat->Hp->Prop
def Oc(X:Cx)(pins:List (Addr×Obj))(H:Hp)(b:Addr):Prop:=
 H b=none/\b≠X.env.locals/\b∉X.fs/\(b∈X.ex\/X.s₀.heap.objs.size<=b)/\(∀x c,X.env.cells.lookup x=some c->c≠b)/\∀p∈X.pn++pins,p.1≠b
theorem Inv.fpOk{X:Cx}{H':Hp}{s:Shared}{b:Addr}(I:Inv X pins Z H s)(hb:s.heap.objs.size<=b)(hn:H' b=none):Oc X pins H' b:=by
 refine⟨hn,jo9 (zk I.lt hb),I.nofs hb,.inr (zn I.sz hb),fun x c e z=>?_,fun p hp z=>?_⟩
 ·obtain⟨v,q⟩:=I.cell x c e;exact absurd (zk q.lt (by rw[z];exact hb)) (jd1 _)
 ·exact absurd (zk (zo (I.pin p hp).1) (by rw[z];exact hb)) (jd1 _)
structure Turn(P:Program)(w:World)(K:Fr)(tg:Expr)(J:It)(fp:List Addr)(it:Addr)(tn:Nat->Heap->Prop):Prop where
 mem:it∈fp
 obj:∀i h,tn i h->∀b∈fp,∃o,h.get? b=some o/\∀v,o.data≠.cell v
 keep:∀i h h',tn i h->(∀b∈fp,∀o,h.get? b=some o->h'.get? b=some o)->tn i h'
 item:∀(X:Cx),X.prog=P->X.w=w->X.K=K->X.calm=true->∀(i:Nat) (pins:List (Addr×Obj)) (s:Shared) (Z:St) (H:Hp) (E:Value->Shared->Prop),Inv X pins Z H s->(∀b∈fp,Oc X pins H b)->tn i s.heap->J.go i H->
  wpAny (model P w) X.A (pyNext (.ref it)) (fun r s1=>∃u,r=some u/\
   wpAny (model P w) X.A (letOwnedTupleGo tg (.ref it) u) (fun _ s2=>∃x H',Inv X pins Z H' s2/\RelV x u/\J.yld i H x H'/\tn (i+1) s2.heap/\∀b∈fp,H' b=none) E s1) E s
 done:∀(X:Cx),X.prog=P->X.w=w->X.K=K->X.calm=true->∀(i:Nat) (pins:List (Addr×Obj)) (s:Shared) (Z:St) (H:Hp) (E:Value->Shared->Prop),Inv X pins Z H s->(∀b∈fp,Oc X pins H b)->tn i s.heap->J.stop i H->
  wpAny (model P w) X.A (pyNext (.ref it)) (fun r s1=>r=none/\Inv X pins Z H s1) E s
 self:∀(A:Around) (i:Nat) (s:Shared) (Q:Value->Shared->Prop) (E:Value->Shared->Prop),tn i s.heap->Q (.ref it) s->wpAny (model P w) A (pyIter (.ref it)) Q E s
noncomputable abbrev TI:=St->Hp->(It->Hp->Prop)->Prop
def PIE(X:Cx)(pins:List (Addr×Obj))(Z:St)(tg:Expr)(R:It->Hp->Prop)(itv:Value)(s2:Shared):Prop:=
 ∃(it:Addr) (fp:List Addr) (tn:Nat->Heap->Prop) (J:It) (H':Hp),itv=.ref it/\Inv X pins Z H' s2/\Turn X.prog X.w X.K tg J fp it tn/\tn 0 s2.heap/\(∀b∈fp,Oc X pins H' b)/\R J H'
def PI(X:Cx)(tg iter:Expr)(wi:TI):Prop:=
 ∀ ⦃pins:List (Addr×Obj)⦄ (s:Shared) (Z:St) (H:Hp) (R:It->Hp->Prop),Inv X pins Z H s->wi Z H R->
  wpAny (model X.prog X.w) X.A (eval iter X.env) (fun v s1=>wpAny (model X.prog X.w) X.A (pyIter v) (PIE X pins Z tg R) X.xe s1) X.xe s
theorem Zx{M:Model}{E:Value->Shared->Prop}{s:Shared}{tg:Expr}{it:Addr}{o:Obj}{n:String}{vs:Array Value}{Q:Unit->Shared->Prop}(ho:s.heap.get? it=some o)(hc:o.cls=.type n)(hd:o.data=.fields vs)
 (hn:["enumerate","zip","dict_itemiterator","dict_reverseitemiterator","odict_iterator","itertools.zip_longest","itertools.pairwise"].contains n=false)(hQ:Q () s):wpAny M A (letOwnedTupleGo tg (.ref it) u) Q E s:=by
 unfold letOwnedTupleGo;cases tg<;>first
  | exact ze hQ
  | (cases u<;>first
   | exact ze hQ
   | (refine jp (wpAny_load ho ?_)
      rw[hc,hd];show wpAny M A (if (["enumerate","zip","dict_itemiterator","dict_reverseitemiterator","odict_iterator","itertools.zip_longest","itertools.pairwise"].contains n&&vs[0]?==some (rawInt _))=true then _ else _) Q E s;rw[xp (by intro h;rw[hn,Bool.false_and] at h;cases h)];exact ze hQ))
noncomputable def Itl(K:Fr)(a:Addr):It:=
 ⟨fun i H=>∃xs x,SqL K H a xs/\xs[i]?=some x,fun i H x H'=>H'=H/\∀xs,SqL K H a xs->xs[i]?=some x,fun i H=>∃xs,SqL K H a xs/\xs.length<=i⟩
noncomputable def Itt(K:Fr)(a:Addr):It:=
 ⟨fun i H=>∃xs x,SqT K H a xs/\xs[i]?=some x,fun i H x H'=>H'=H/\∀xs,SqT K H a xs->xs[i]?=some x,fun i H=>∃xs,SqT K H a xs/\xs.length<=i⟩
noncomputable def Itr(lo:Int)(n:Nat):It:=⟨fun i _=>i<n,fun i H x H'=>H'=H/\x=.int (lo+i),fun i _=>n<=i⟩
theorem iZ{P:Program}{w:World}{tg:Expr}(a it:Addr):Turn P w K tg (Itl K a) [it] it (fun i h=>h.IsListIter it a i) where
 mem:=by simp
 obj:=fun i h st b hb=>by
  have e:b=it:=by simpa using hb
  subst e;obtain⟨o,e,c,d⟩:=st;exact⟨o,e,fun v z=>by rw[d] at z;cases z⟩
 keep:=fun i h h' st k=>st.at fun o e=>k it (by simp) o e
 item:=by
  intro X hP hw hK hc i pins s Z H E I hf st hg;subst hP hw hK;obtain⟨xs,x,hq,hx⟩:=hg;obtain⟨its,rv,p,hz⟩:=I.list hq;obtain⟨u,hu,ru⟩:=rv.get hx;obtain⟨f0,f1,f2,f3,f4,f5⟩:=hf it (by simp);refine wpAny_pyNext_list_item st p.isList (x:=u) (by simpa using hu) fun h' st' sb=>?_;have I1:Inv X pins Z H { s with heap:=h' }:=I.turned (t':=s.toks) (fun b o hb e=>(sb.2 b hb).trans e) f0 f1 f3 f4 f5;obtain⟨o,e,c,d⟩:=id st';exact⟨u,rfl,Zx (s:={ s with heap:=h' }) e c d nofun ⟨x,H,I1,ru,⟨rfl,fun ys hy=>by rw[I.list_inj hy hq];exact hx⟩,st',fun b hb=>(hf b hb).1⟩⟩
 done:=by
  intro X hP hw hK hc i pins s Z H E I hf st hg;subst hP hw hK;obtain⟨xs,hq,hx⟩:=hg;obtain⟨its,rv,p,hz⟩:=I.list hq;obtain⟨f0,f1,f2,f3,f4,f5⟩:=hf it (by simp);have hl:=rv.length;exact wpAny_pyNext_list_end (I.ok.hd hc) st p.isList (by simp;lia) fun h' eb=>⟨rfl,I.turned (t':=s.toks) (fun b o hb e=>eb b o hb e) f0 f1 f3 f4 f5⟩
 self:=fun _ _ _ _ _ st h=>wpAny_pyIter_listiter st h
theorem aj{P:Program}{w:World}{tg:Expr}(a it:Addr):Turn P w K tg (Itt K a) [it] it (fun i h=>h.IsTupleIter it a i) where
 mem:=by simp
 obj:=fun i h st b hb=>by
  have e:b=it:=by simpa using hb
  subst e;obtain⟨o,e,c,d⟩:=st;exact⟨o,e,fun v z=>by rw[d] at z;cases z⟩
 keep:=fun i h h' st k=>st.at fun o e=>k it (by simp) o e
 item:=by
  intro X hP hw hK hc i pins s Z H E I hf st hg;subst hP hw hK;obtain⟨xs,x,hq,hx⟩:=hg;obtain⟨its,rv,p,hz⟩:=I.tuple hq;obtain⟨u,hu,ru⟩:=rv.get hx;obtain⟨f0,f1,f2,f3,f4,f5⟩:=hf it (by simp);refine wpAny_pyNext_tuple_item st (show s.heap.IsTuple a its.toArray from p) (x:=u) (by simpa using hu) fun h' st' sb=>?_;have I1:Inv X pins Z H { s with heap:=h' }:=I.turned (t':=s.toks) (fun b o hb e=>(sb.2 b hb).trans e) f0 f1 f3 f4 f5;obtain⟨o,e,c,d⟩:=id st';exact⟨u,rfl,Zx (s:={ s with heap:=h' }) e c d nofun ⟨x,H,I1,ru,⟨rfl,fun ys hy=>by rw[I.tuple_inj hy hq];exact hx⟩,st',fun b hb=>(hf b hb).1⟩⟩
 done:=by
  intro X hP hw hK hc i pins s Z H E I hf st hg;subst hP hw hK;obtain⟨xs,hq,hx⟩:=hg;obtain⟨its,rv,p,hz⟩:=I.tuple hq;obtain⟨f0,f1,f2,f3,f4,f5⟩:=hf it (by simp);have hl:=rv.length;exact wpAny_pyNext_tuple_end (I.ok.hd hc) st (show s.heap.IsTuple a its.toArray from p) (by simp;lia) fun h' eb=>⟨rfl,I.turned (t':=s.toks) (fun b o hb e=>eb b o hb e) f0 f1 f3 f4 f5⟩
 self:=fun _ _ _ _ _ st h=>wpAny_pyIter_tupleiter st h
theorem ak{P:Program}{w:World}{tg:Expr}(it:Addr)(lo:Int)(n:Nat):Turn P w K tg (Itr lo n) [it] it (fun i h=>IsRangeIter h it (lo+(i:Nat)*1) ((n:Int)-(i:Nat)) 1) where
 mem:=by simp
 obj:=fun i h st b hb=>by
  have e:b=it:=by simpa using hb
  subst e;exact⟨_,st,fun v z=>by
   have z':Data.fields _=Data.cell v:=z;cases z'⟩
 keep:=fun i h h' st k=>k it (by simp) _ st
 item:=by
  intro X hP hw hK hc i pins s Z H E I hf st hg;subst hP hw hK;obtain⟨f0,f1,f2,f3,f4,f5⟩:=hf it (by simp);have W:=Walks.range (prog:=X.prog) (w:=X.w) (I.ok.hd hc) it lo 1 n;refine W.item i s _ _ hg st fun v h' tk hv st' kk=>?_;obtain⟨t,rfl⟩:=hv;have I1:Inv X pins Z H { s with heap:=h',toks:=tk }:=I.turned (fun b o hb e=>kk b o (by simpa using hb) e) f0 f1 f3 f4 f5;refine⟨_,rfl,Zx (s:={ s with heap:=h',toks:=tk }) (n:="range_iterator") st' rfl rfl nofun ⟨.int (lo+i),H,I1,⟨t,?_⟩,⟨rfl,rfl⟩,st',fun b hb=>(hf b hb).1⟩⟩;rw[ja5]
 done:=by
  intro X hP hw hK hc i pins s Z H E I hf st hg;subst hP hw hK;obtain⟨f0,f1,f2,f3,f4,f5⟩:=hf it (by simp);exact wpAny_pyNext_range_end (I.ok.hd hc) st (by have:n<=i:=hg;lia) fun h' eb=>⟨rfl,I.turned (t':=s.toks) (fun b o hb e=>eb b o hb e) f0 f1 f3 f4 f5⟩
 self:=fun _ _ _ _ _ st h=>wpAny_pyIter_rangeiter st h
section
variable{X:Cx}{tg:Expr}
def xj(K:Fr)(tl:TE):TI:=fun Z H R=>tl Z H fun x H1=>∃a,x=.ref a/\(∃xs,SqL K H1 a xs)/\R (Itl K a) H1
def vW(K:Fr)(tl:TE):TI:=fun Z H R=>tl Z H fun x H1=>∃a,x=.ref a/\(∃xs,SqT K H1 a xs)/\R (Itt K a) H1
theorem HR{l:Expr}{tl:TE}(hl:PE X l tl):PI X tg l (xj X.K tl):=by
 intro pins s Z H R I h;refine thn (hl s Z H _ I h) fun v s1 hZ=>?_;obtain⟨x,H1,I1,r1,q1⟩:=hZ;obtain⟨a,e,⟨xs,hq⟩,q⟩:=q1;subst e;cases r1;obtain⟨its,rv,p,hz⟩:=I1.list hq;refine jf6 p.isList ?_;refine⟨s1.heap.objs.size,[s1.heap.objs.size],_,_,H1,rfl,I1.kept (t':=s1.toks) fun b o e=>jv _ e,iZ a _,⟨_,zi _ rfl,rfl,rfl⟩,fun b hb=>?_,q⟩;have e:b=s1.heap.objs.size:=by simpa using hb
 subst e;exact I1.fpOk (qg _) (I1.hok.fresh (qg _))
theorem Tc{l:Expr}{tl:TE}(hl:PE X l tl):PI X tg l (vW X.K tl):=by
 intro pins s Z H R I h;refine thn (hl s Z H _ I h) fun v s1 hZ=>?_;obtain⟨x,H1,I1,r1,q1⟩:=hZ;obtain⟨a,e,⟨xs,hq⟩,q⟩:=q1;subst e;cases r1;obtain⟨its,rv,p,hz⟩:=I1.tuple hq;refine jh3 (show s1.heap.IsTuple a its.toArray from p) ?_;refine⟨s1.heap.objs.size,[s1.heap.objs.size],_,_,H1,rfl,I1.kept (t':=s1.toks) fun b o e=>jv _ e,aj a _,⟨_,zi _ rfl,rfl,rfl⟩,fun b hb=>?_,q⟩;have e:b=s1.heap.objs.size:=by simpa using hb
 subst e;exact I1.fpOk (qg _) (I1.hok.fresh (qg _))
theorem oF{s:Shared}{R:It->Hp->Prop}{E:Value->Shared->Prop}{lo hi:Int}{t u v:Tok}{tk:Nat}(I:Inv X pins Z H s)(h1: -(2^62)<=lo)(h2:lo<2^62)(h3: -(2^62)<=hi)(h4:hi<2^62)
 (q:R (Itr lo (hi-lo).toNat) H):wpAny (model X.prog X.w) X.A (pyIter (.ref s.heap.objs.size)) (PIE X pins Z tg R) E { s with heap:=s.heap.push { cls:=.type "range",data:=.fields #[.int lo t,.int hi u,.int 1 v] },toks:=tk }:=by
 refine wpAny_pyIter_range (IsRange.new ..) (small_one h1 h2 h3 h4) ?_;have I1:Inv X pins Z H { s with heap:=s.heap.push { cls:=.type "range",data:=.fields #[.int lo t,.int hi u,.int 1 v] },toks:=tk }:=I.kept fun b o e=>jv _ e;refine⟨(s.heap.push { cls:=.type "range",data:=.fields #[.int lo t,.int hi u,.int 1 v] }).objs.size,[(s.heap.push { cls:=.type "range",data:=.fields #[.int lo t,.int hi u,.int 1 v] }).objs.size],_,_,H,rfl,
  I1.kept (t':=tk) fun b o e=>jv _ e,ak _ lo (hi-lo).toNat,?_,fun b hb=>?_,q⟩
 ·have e1:lo+((0:Nat):Int)*1=lo:=by simp
  have e2:(((hi-lo).toNat:Nat):Int)-((0:Nat):Int)=Builtin.Range.rangeSize lo hi 1:=by rw[rangeSize_one];split<;>lia
  show IsRangeIter _ _ (lo+((0:Nat):Int)*1) ((((hi-lo).toNat:Nat):Int)-((0:Nat):Int)) 1;rw[e1,e2];exact zi _ rfl
 ·have e:b=(s.heap.push { cls:=.type "range",data:=.fields #[.int lo t,.int hi u,.int 1 v] }).objs.size:=by simpa using hb
  subst e;exact I1.fpOk (qg _) (I1.hok.fresh (qg _))
def xg(ta:TA):TI:=fun Z H R=>ta Z H fun vs H1=>∃j:Int,vs=[.int j]/\ -(2^62)<=j/\j<2^62/\R (Itr 0 j.toNat) H1
def ACc(ta:TA):TI:=fun Z H R=>ta Z H fun vs H1=>∃i j:Int,vs=[.int i,.int j]/\(-(2^62)<=i/\i<2^62/\ -(2^62)<=j/\j<2^62)/\R (Itr i (j-i).toNat) H1
theorem JQ{a:Expr}{ta:TA}{p:Pos}(hg:Gl X "range")(hm:X.mg "range"=none)(ha:PA X [a] ta)(hs:‹starEach [a] X.env=[(false,eval a X.env)]›):PI X tg (.Call (.Name "range" p) [a] [] pos) (xg ta):=by
 intro pins s Z H R I h;refine Call_ (Kl I hg hm boot_range (ja0 (thn (ha (pos:=pos) pins s Z H _ I h) fun us s1 hZ=>?_) hs rfl));obtain⟨vs,H1,I1,r1,q1⟩:=hZ;obtain⟨j,e,q1,q2,q⟩:=q1;subst e;cases r1 with
 | cons r rr=>
  cases rr;obtain⟨t,rfl⟩:=r;exact call_range_1 (oF I1 ⋯ ⋯ q1 q2 (by simpa using q))
def ABe(wi:TI)(g:TG)(tb:TS):TS:=fun D Z H=>wi Z H fun J H1=>∃W:Nat->Nat->St->Hp->Prop,(∃m,W 0 m Z H1)/\∀i m Z H,W i m Z H->
 (J.stop i H/\D.nx Z H)\/(J.go i H/\∃N:St->Hp->Prop,(∀Z' H',N Z' H'->∃m',m'<m/\W (i+1) m' Z' H')/\∀x H',J.yld i H x H'->g x Z H' fun σ2 H2=>tb { D with nx:=N,ct:=N,bk:=D.nx } σ2 H2)
noncomputable def TY(fp:List Addr)(h:Heap):List (Addr×Obj):=fp.filterMap fun b=>(h.get? b).map fun o=>(b,o)
theorem Jo{fp:List Addr}{h:Heap}{b:Addr}{o:Obj}(hb:b∈fp)(e:h.get? b=some o):(b,o)∈TY fp h:=jl0.mpr ⟨b,hb,by rw[e];rfl⟩
theorem jW{fp:List Addr}{h:Heap}{p:Addr×Obj}(hp:p∈TY fp h):p.1∈fp/\h.get? p.1=some p.2:=by
 obtain⟨b,hb,e⟩:=jl0.mp hp;cases q:h.get? b with
 | none=>rw[q] at e;cases e
 | some o=>
  rw[q] at e;have e':(b,o)=p:=xz e;subst e';exact⟨hb,q⟩
theorem Inv.pinned{s:Shared}{fp:List Addr}(I:Inv X pins Z H s)(hf:∀b∈fp,Oc X pins H b)(ho:∀b∈fp,∃o,s.heap.get? b=some o/\∀v,o.data≠.cell v):Inv X (pins++TY fp s.heap) Z H s:=
 I.pins_of fun p hp=>(ko.mp hp).elim (fun z=>I.pin p (vt _ z)) fun z=>by
  obtain⟨hb,e⟩:=jW z;obtain⟨f0,f1,f2,_⟩:=hf p.1 hb;obtain⟨o,e',d⟩:=ho p.1 hb;rw[e] at e';cases e';exact⟨e,f0,f1,f2,d⟩
theorem Inv.unpinned{pl:List (Addr×Obj)}{s:Shared}(I:Inv X (pins++pl) Z H s):Inv X pins Z H s:=I.pins_of fun p hp=>I.pin p (vt _ (ji4 _ hp))
theorem Ik{iter:Expr}{body:List Stmt}{wi:TI}{g:TG}{tb:TS}(hp:PassesOwn (model X.prog X.w) X.A X.env X.xe)(hc:X.calm=true)(hi:PI X tg iter wi)(hg:PG X tg g)(hb:PSs X body tb)
 (hs:∀x,foldedSetIterable iter X.env x=pure x:=by intro _;rfl):PS X (.For tg iter body [] pos) (ABe wi g tb):=by
 intro pins s Z H D I h;refine wpAny_For (thn (hi s Z H _ I h) fun v s1 h1=>thn h1 fun itv s2 h2=>?_) hs;obtain⟨it,fp,tn,J,H2,e,I2,T,st2,f2,W,⟨m0,w0⟩,turn⟩:=h2;subst e;have stat:∀{H':Hp},(∀b∈fp,H' b=none)->∀b∈fp,Oc X pins H' b:=fun hn b hb=>⟨hn b hb,(f2 b hb).2⟩;refine codeAny_forLoop_any (fun n s'=>∃i Z' H',Inv X pins Z' H' s'/\tn i s'.heap/\(∀b∈fp,H' b=none)/\W i n Z' H') ?_ m0 ⟨0,Z,H2,I2,st2,fun b hb=>(f2 b hb).1,w0⟩;rintro n s3 ⟨i,σ3,H3,I3,st3,fr3,w3⟩;rcases turn i n σ3 H3 w3 with ⟨stop,qn⟩ | ⟨go,N,hN,step⟩
 ·refine jf5 hp (thn (T.done X rfl rfl rfl hc i pins s3 σ3 H3 X.xe I3 (stat fr3) st3 stop) fun r s4 ⟨hr,I4⟩=>?_);subst hr;exact jl2 ⟨σ3,H3,I4,qn⟩
 ·refine jf5 hp (thn (T.item X rfl rfl rfl hc i pins s3 σ3 H3 X.xe I3 (stat fr3) st3 go) fun r s4 ⟨u,hr,h4⟩=>?_);subst hr;refine jf5 hp (thn h4 fun _ s5 hZ=>?_);obtain⟨x,H5,I5,r5,y5,st5,fr5⟩:=hZ;have I5':=I5.pinned (stat fr5) (T.obj _ _ st5);refine jf5 hp (thn (hg s5 σ3 H5 x u _ I5' r5 (step x H5 y5)) fun _ s6 hZ=>?_);obtain⟨σ6,H6,I6,q6⟩:=hZ;refine jf5 hp (thn (hb s6 σ6 H6 _ I6 q6) fun f s7 q7=>?_);have again:∀{σ7:St} {H7:Hp},Inv X (pins++TY fp s5.heap) σ7 H7 s7->N σ7 H7->∃m,m<n/\∃i Z' H',Inv X pins Z' H' s7/\tn i s7.heap/\(∀b∈fp,H' b=none)/\W i m Z' H':=fun{σ7 H7} I7 n7=>by
   obtain⟨m',hm,w7⟩:=hN σ7 H7 n7;refine⟨m',hm,i+1,σ7,H7,I7.unpinned,T.keep _ _ _ st5 fun b hb o e=>(I7.pin (b,o) (vt _ (vt _ (Jo hb e)))).1,fun b hb=>?_,w7⟩;obtain⟨o,e,d⟩:=T.obj _ _ st5 b hb;exact(I7.pin (b,o) (vt _ (vt _ (Jo hb e)))).2.1
  cases f with
  | next=>obtain⟨σ7,H7,I7,n7⟩:=q7;exact again I7 n7
  | cont=>obtain⟨σ7,H7,I7,n7⟩:=q7;exact again I7 n7
  | brk=>obtain⟨σ7,H7,I7,q7⟩:=q7;exact⟨σ7,H7,I7.unpinned,q7⟩
  | ret v=>obtain⟨x7,σ7,H7,I7,r7,q7⟩:=q7;exact⟨x7,σ7,H7,I7.unpinned,r7,q7⟩
end
theorem Kr{xs:List V}{g:TG}{tb:TS}{D:Ends}(Pv:Nat->St->Hp->Prop)(h0:Pv 0 Z H)(hl:∀i Z H,i<=xs.length->Pv i Z H->SqL K H a xs)
 (hs:∀i x Z H,xs[i]?=some x->Pv i Z H->g x Z H fun σ2 H2=>tb { D with nx:=Pv (i+1),ct:=Pv (i+1),bk:=D.nx } σ2 H2)(hd:∀Z H,Pv xs.length Z H->D.nx Z H):
 ∃W:Nat->Nat->St->Hp->Prop,(∃m,W 0 m Z H)/\∀i m Z H,W i m Z H->
  ((Itl K a).stop i H/\D.nx Z H)\/((Itl K a).go i H/\∃N:St->Hp->Prop,(∀Z' H',N Z' H'->∃m',m'<m/\W (i+1) m' Z' H')/\∀x H',(Itl K a).yld i H x H'->g x Z H' fun σ2 H2=>tb { D with nx:=N,ct:=N,bk:=D.nx } σ2 H2):=by
 refine⟨fun i m Z H=>m=xs.length-i/\i<=xs.length/\Pv i Z H,⟨xs.length,by simp,vj _,h0⟩,?_⟩;rintro i m Z H ⟨rfl,hi,p⟩;have q:=hl i Z H hi p;by_cases hlt:i<xs.length
 ·refine .inr ⟨⟨xs,xs[i],q,by simp[hlt]⟩,Pv (i+1),fun Z' H' p'=>⟨xs.length-(i+1),⋯,rfl,hlt,p'⟩,fun x H' y=>?_⟩;obtain⟨e,y⟩:=y;subst e;exact hs i x Z _ (y xs q) p
 ·have e:i=xs.length:=⋯
  subst e;exact .inl ⟨⟨xs,q,qg _⟩,hd Z H p⟩
theorem vd{xs:List V}{g:TG}{tb:TS}{D:Ends}(Pv:Nat->St->Hp->Prop)(h0:Pv 0 Z H)(hl:∀i Z H,i<=xs.length->Pv i Z H->SqT K H a xs)
 (hs:∀i x Z H,xs[i]?=some x->Pv i Z H->g x Z H fun σ2 H2=>tb { D with nx:=Pv (i+1),ct:=Pv (i+1),bk:=D.nx } σ2 H2)(hd:∀Z H,Pv xs.length Z H->D.nx Z H):
 ∃W:Nat->Nat->St->Hp->Prop,(∃m,W 0 m Z H)/\∀i m Z H,W i m Z H->
  ((Itt K a).stop i H/\D.nx Z H)\/((Itt K a).go i H/\∃N:St->Hp->Prop,(∀Z' H',N Z' H'->∃m',m'<m/\W (i+1) m' Z' H')/\∀x H',(Itt K a).yld i H x H'->g x Z H' fun σ2 H2=>tb { D with nx:=N,ct:=N,bk:=D.nx } σ2 H2):=by
 refine⟨fun i m Z H=>m=xs.length-i/\i<=xs.length/\Pv i Z H,⟨xs.length,by simp,vj _,h0⟩,?_⟩;rintro i m Z H ⟨rfl,hi,p⟩;have q:=hl i Z H hi p;by_cases hlt:i<xs.length
 ·refine .inr ⟨⟨xs,xs[i],q,by simp[hlt]⟩,Pv (i+1),fun Z' H' p'=>⟨xs.length-(i+1),⋯,rfl,hlt,p'⟩,fun x H' y=>?_⟩;obtain⟨e,y⟩:=y;subst e;exact hs i x Z _ (y xs q) p
 ·have e:i=xs.length:=⋯
  subst e;exact .inl ⟨⟨xs,q,qg _⟩,hd Z H p⟩
theorem Pg{lo:Int}{n:Nat}{g:TG}{tb:TS}{D:Ends}(Pv:Nat->St->Hp->Prop)(h0:Pv 0 Z H)
 (hs:∀i Z H,i<n->Pv i Z H->g (.int (lo+i)) Z H fun σ2 H2=>tb { D with nx:=Pv (i+1),ct:=Pv (i+1),bk:=D.nx } σ2 H2)(hd:∀Z H,Pv n Z H->D.nx Z H):
 ∃W:Nat->Nat->St->Hp->Prop,(∃m,W 0 m Z H)/\∀i m Z H,W i m Z H->
  ((Itr lo n).stop i H/\D.nx Z H)\/((Itr lo n).go i H/\∃N:St->Hp->Prop,(∀Z' H',N Z' H'->∃m',m'<m/\W (i+1) m' Z' H')/\∀x H',(Itr lo n).yld i H x H'->g x Z H' fun σ2 H2=>tb { D with nx:=N,ct:=N,bk:=D.nx } σ2 H2):=by
 refine⟨fun i m Z H=>m=n-i/\i<=n/\Pv i Z H,⟨n,by simp,vj _,h0⟩,?_⟩;rintro i m Z H ⟨rfl,hi,p⟩;by_cases hlt:i<n
 ·refine .inr ⟨hlt,Pv (i+1),fun Z' H' p'=>⟨n-(i+1),⋯,rfl,hlt,p'⟩,fun x H' y=>?_⟩;obtain⟨e,y⟩:=y;subst e y;exact hs i Z _ hlt p
 ·have e:i=n:=⋯
  subst e;exact .inl ⟨qg _,hd Z H p⟩
noncomputable abbrev R2:=V->V->Hp->VK->Prop
def OpR(X:Cx)(f:Value->Value->Sem Value)(r:R2):Prop:=
 ∀(pins:List (Addr×Obj)) (s:Shared) (Z:St) (H:Hp) (x y:V) (v u:Value) (Q:VK),Inv X pins Z H s->RelV x v->RelV y u->r x y H Q->
  wpAny (model X.prog X.w) X.A (f v u) (EP X pins Z Q) X.xe s
def UnR(X:Cx)(f:Value->Sem Value)(r:V->Hp->VK->Prop):Prop:=
 ∀(pins:List (Addr×Obj)) (s:Shared) (Z:St) (H:Hp) (x:V) (v:Value) (Q:VK),Inv X pins Z H s->RelV x v->r x H Q->
  wpAny (model X.prog X.w) X.A (f v) (EP X pins Z Q) X.xe s
def Ir(X:Cx)(f:Value)(r:List V->Hp->VK->Prop):Prop:=
 ∀(pins:List (Addr×Obj)) (s:Shared) (Z:St) (H:Hp) (xs:List V) (us:List Value) (Q:VK),Inv X pins Z H s->Vals xs us->r xs H Q->
  wpAny (model X.prog X.w) X.A (call f us) (EP X pins Z Q) X.xe s
def tOp(r:R2)(ta tb:TE):TE:=fun Z H Q=>ta Z H fun x H1=>tb Z H1 fun y H2=>r x y H2 Q
def tUn(r:V->Hp->VK->Prop)(ta:TE):TE:=fun Z H Q=>ta Z H fun x H1=>r x H1 Q
def rI(C:Int->Int->Prop)(g:Int->Int->V):R2:=fun x y H Q=>∃i j,x=.int i/\y=.int j/\C i j/\Q (g i j) H
def rI0(g:Int->Int->V):R2:=fun x y H Q=>∃i j,x=.int i/\y=.int j/\Q (g i j) H
def rU(g:Int->V):V->Hp->VK->Prop:=fun x H Q=>∃i,x=.int i/\Q (g i) H
section
variable{X:Cx}{a b c:Expr}{ta tb tc:TE}{pos:Pos}
theorem AAq(ha:PE X a ta)(hb:PE X b tb){pins:List (Addr×Obj)}{s:Shared}{Z:St}{H:Hp}{R:V->V->Hp->Prop}(I:Inv X pins Z H s)
 (h:ta Z H fun x H1=>tb Z H1 fun y H2=>R x y H2){Q:Value->Shared->Prop}{f:Value->Value->Sem Value}
 (hf:∀v u s2 x y H2,Inv X pins Z H2 s2->RelV x v->RelV y u->R x y H2->wpAny (model X.prog X.w) X.A (f v u) Q X.xe s2):
 wpAny (model X.prog X.w) X.A (eval a X.env) (fun v s₁=>wpAny (model X.prog X.w) X.A (eval b X.env) (fun u s₂=>wpAny (model X.prog X.w) X.A (f v u) Q X.xe s₂) X.xe s₁) X.xe s:=by
 refine thn (ha s Z H _ I h) fun v s1 hZ=>?_;obtain⟨x,H1,I1,r1,q1⟩:=hZ;refine thn (hb s1 Z H1 _ I1 q1) fun u s2 hZ=>?_;obtain⟨y,H2,I2,r2,q2⟩:=hZ;exact hf v u s2 x y H2 I2 r1 r2 q2
theorem Af{op:Operator}{r:R2}(ho:OpR X (binaryOp op) r)(ha:PE X a ta)(hb:PE X b tb):PE X (.BinOp a op b pos) (tOp r ta tb):=by
 intro pins s Z H Q I h;exact wpAny_BinOp (AAq ha hb I h fun v u s2 x y H2 I2 rx ry q=>ho pins s2 Z H2 x y v u Q I2 rx ry q)
theorem Lr{op:UnaryOp}{r:V->Hp->VK->Prop}(ho:UnR X (unaryOp op) r)(ha:PE X a ta):PE X (.UnaryOp op a pos) (tUn r ta):=by
 intro pins s Z H Q I h;exact UnaryOp_ (thn (ha s Z H _ I h) fun v s1 ⟨x,H1,I1,r1,q1⟩=>ho pins s1 Z H1 x v Q I1 r1 q1)
theorem opI{f:Value->Value->Sem Value}{C:Int->Int->Prop}{g:Int->Int->Int}
 (rule:∀(i j:Int) (t u:Tok) (s:Shared) (Q:Value->Shared->Prop) (E:Value->Shared->Prop),C i j->Q (.int (g i j) s.toks) { s with toks:=s.toks+1 }->wpAny (model X.prog X.w) X.A (f (.int i t) (.int j u)) Q E s):
 OpR X f (rI C fun i j=>.int (g i j)):=by
 intro pins s Z H x y v u Q I rx ry h;obtain⟨i,j,rfl,rfl,hc,q⟩:=h;obtain⟨t,rfl⟩:=rx;obtain⟨t',rfl⟩:=ry;exact rule i j t t' s _ _ hc ⟨.int (g i j),H,I.tok _,⟨_,rfl⟩,q⟩
theorem pA{f:Value->Value->Sem Value}{g:Int->Int->Int}
 (rule:∀(i j:Int) (t u:Tok) (s:Shared) (Q:Value->Shared->Prop) (E:Value->Shared->Prop),Q (.int (g i j) s.toks) { s with toks:=s.toks+1 }->wpAny (model X.prog X.w) X.A (f (.int i t) (.int j u)) Q E s):
 OpR X f (rI0 fun i j=>.int (g i j)):=by
 intro pins s Z H x y v u Q I rx ry h;obtain⟨i,j,rfl,rfl,q⟩:=h;obtain⟨t,rfl⟩:=rx;obtain⟨t',rfl⟩:=ry;exact rule i j t t' s _ _ ⟨.int (g i j),H,I.tok _,⟨_,rfl⟩,q⟩
theorem uy{f:Value->Value->Sem Value}{g:Int->Int->Bool}
 (rule:∀(i j:Int) (t u:Tok) (s:Shared) (Q:Value->Shared->Prop) (E:Value->Shared->Prop),Q (.bool (g i j)) s->wpAny (model X.prog X.w) X.A (f (.int i t) (.int j u)) Q E s):
 OpR X f (rI0 fun i j=>.bl (g i j)):=by
 intro pins s Z H x y v u Q I rx ry h;obtain⟨i,j,rfl,rfl,q⟩:=h;obtain⟨t,rfl⟩:=rx;obtain⟨t',rfl⟩:=ry;exact rule i j t t' s _ _ ⟨.bl (g i j),H,I,rfl,q⟩
def ACy(i j:Int):Prop:=0<=j/\j<=1000000/\i.natAbs<2^64
def ABS(i j:Int):Prop:=(-(2^64)<i/\i<2^64)\/(-(2^64)<j/\j<2^64)
theorem ABS.ok{i j:Int}(h:ABS i j):IntMulOk i j:=by
 rcases h with ⟨h1,h2⟩ | ⟨h1,h2⟩
 ·exact .of_left (intBits_le_64 h1 h2)
 ·exact .of_right (intBits_le_64 h1 h2)
theorem aZ(k:Nat):(0:Int)<=2^k:=by
 rw[two_pow_cast];exact jk8 _
theorem Bx:OpR X (binaryOp .Add) (rI0 fun i j=>.int (i+j)):=pA fun _ _ _ _ _ _ _ q=>add_int q
theorem Ci:OpR X (binaryOp .Sub) (rI0 fun i j=>.int (i-j)):=pA fun _ _ _ _ _ _ _ q=>sub_int q
theorem zY:OpR X (binaryOp .Mult) (rI ABS fun i j=>.int (i*j)):=opI fun _ _ _ _ _ _ _ hc q=>mul_int q hc.ok
theorem DN:OpR X (binaryOp .Mod) (rI (fun _ j=>0<j) fun i j=>.int (i%j)):=opI fun i j _ _ _ _ _ hc q=>by
 have h1:(0:Int)<j:=hc;exact mod_int' ⋯ (by rw[Int.fmod_eq_emod_of_nonneg i ⋯];exact q)
theorem Ka:OpR X (binaryOp .Pow) (rI ACy fun i j=>.int (i^j.toNat)):=opI fun _ _ _ _ _ _ _ hc q=>pow_int_small hc.1 hc.2.1 hc.2.2 q
theorem Xh:OpR X (binaryOp .RShift) (rI (fun _ j=>0<=j) fun i j=>.int (i/2^j.toNat)):=opI fun i j _ _ _ _ _ hc q=>
 rshift_int hc (by rw[Int.fdiv_eq_ediv_of_nonneg i (aZ _)];exact q)
theorem Kc:OpR X (binaryOp .BitAnd) (rI0 fun i j=>.int (Builtin.bitAnd i j)):=pA fun _ _ _ _ _ _ _ q=>and_int q
theorem Zk:OpR X (binaryOp .BitOr) (rI0 fun i j=>.int (Builtin.bitOr i j)):=pA fun _ _ _ _ _ _ _ q=>or_int q
theorem zX:OpR X (binaryOp .BitXor) (rI0 fun i j=>.int (Builtin.bitXor i j)):=pA fun _ _ _ _ _ _ _ q=>xor_int q
theorem unI{f:Value->Sem Value}{g:Int->Int}
 (rule:∀(i:Int) (t:Tok) (s:Shared) (Q:Value->Shared->Prop) (E:Value->Shared->Prop),Q (.int (g i) s.toks) { s with toks:=s.toks+1 }->wpAny (model X.prog X.w) X.A (f (.int i t)) Q E s):
 UnR X f (rU fun i=>.int (g i)):=by
 intro pins s Z H x v Q I rx h;obtain⟨i,rfl,q⟩:=h;obtain⟨t,rfl⟩:=rx;exact rule i t s _ _ ⟨.int (g i),H,I.tok _,⟨_,rfl⟩,q⟩
theorem JD:UnR X (unaryOp .USub) (rU fun i=>.int (-i)):=unI fun _ _ _ _ _ q=>neg_int q
end
noncomputable def uD:V->V->Bool
 | .non,.non=>true | .non,.int _=>true | .int _,.non=>true | .non,.bl _=>true | .bl _,.non=>true | .non,.str _=>true | .str _,.non=>true
 | .int _,.int _=>true | .bl _,.bl _=>true | .str _,.str _=>true | .byt _,.byt _=>true
 | .int _,.str _=>true | .str _,.int _=>true | .bl _,.str _=>true | .str _,.bl _=>true
 | _,_=>false
def rEq:R2:=fun x y H Q=>uD x y=true/\Q (.bl (decide (x=y))) H
def rNe:R2:=fun x y H Q=>uD x y=true/\Q (.bl (!decide (x=y))) H
theorem iC{i j:Int}:decide (V.int i=V.int j)=(i==j):=by
 rw[ja8];simp
theorem qQ{i j:Bool}:decide (V.bl i=V.bl j)=(i==j):=by
 rw[ja8];simp
theorem iB{i j:Str}:decide (V.str i=V.str j)=(i==j):=by
 rw[ja8];simp
theorem iD{i j:Array UInt8}:decide (V.byt i=V.byt j)=(i.toList==j.toList):=by
 rw[ja8];cases i;cases j;simp
section
variable{X:Cx}{a b c:Expr}{ta tb tc:TE}{pos:Pos}
theorem Cd{s:Shared}{Q:VK}{k k':Bool}(I:Inv X pins Z H s)(q:Q (.bl k) H)(e:k=k'):EP X pins Z Q (.bool k') s:=by
 subst e;exact⟨.bl k,H,I,rfl,q⟩
theorem CN:OpR X (compareOp .Eq) rEq:=by
 intro pins s Z H x y v u Q I rx ry h;obtain⟨hs,q⟩:=h;cases x with
 | non=>
  cases rx;cases y with
  | non=>cases ry;exact PySem.EqNone.eq_none_none (Cd I q (by simp))
  | bl j=>cases ry;exact PySem.EqNone.eq_none_bool (Cd I q (by simp))
  | int j=>obtain⟨t',rfl⟩:=ry;exact PySem.EqNone.eq_none_int (Cd I q (by simp))
  | str j=>obtain⟨t',rfl⟩:=ry;exact PySem.EqNone.eq_none_str (Cd I q (by simp))
  | _=>exact absurd (show false=true from hs) qv
 | bl i=>
  cases rx;cases y with
  | non=>cases ry;exact PySem.EqNone.eq_bool_none (Cd I q (by simp))
  | bl j=>cases ry;exact eq_bool (Cd I q qQ)
  | str j=>obtain⟨t',rfl⟩:=ry;exact PySem.EqMixed.eq_bool_str (Cd I q (by simp))
  | _=>exact absurd (show false=true from hs) qv
 | int i=>
  obtain⟨t,rfl⟩:=rx;cases y with
  | non=>cases ry;exact PySem.EqNone.eq_int_none (Cd I q (by simp))
  | int j=>obtain⟨t',rfl⟩:=ry;exact eq_int (Cd I q iC)
  | str j=>obtain⟨t',rfl⟩:=ry;exact PySem.EqMixed.eq_int_str (Cd I q (by simp))
  | _=>exact absurd (show false=true from hs) qv
 | str i=>
  obtain⟨t,rfl⟩:=rx;cases y with
  | non=>cases ry;exact PySem.EqNone.eq_str_none (Cd I q (by simp))
  | bl j=>cases ry;exact PySem.EqMixed.eq_str_bool (Cd I q (by simp))
  | int j=>obtain⟨t',rfl⟩:=ry;exact PySem.EqMixed.eq_str_int (Cd I q (by simp))
  | str j=>obtain⟨t',rfl⟩:=ry;exact eq_str (Cd I q iB)
  | _=>exact absurd (show false=true from hs) qv
 | byt i=>
  obtain⟨t,rfl⟩:=rx;cases y with
  | byt j=>obtain⟨t',rfl⟩:=ry;exact PySem.W.eq_bytes (Cd I q iD)
  | _=>exact absurd (show false=true from hs) qv
 | _=>cases y<;>exact absurd (show false=true from hs) qv
theorem G6:OpR X (compareOp .NotEq) rNe:=by
 intro pins s Z H x y v u Q I rx ry h;obtain⟨hs,q⟩:=h;cases x with
 | non=>
  cases rx;cases y with
  | non=>cases ry;exact PySem.EqNone.ne_none_none (Cd I q (by simp))
  | bl j=>cases ry;exact PySem.EqNone.ne_none_bool (Cd I q (by simp))
  | int j=>obtain⟨t',rfl⟩:=ry;exact PySem.EqNone.ne_none_int (Cd I q (by simp))
  | str j=>obtain⟨t',rfl⟩:=ry;exact PySem.EqNone.ne_none_str (Cd I q (by simp))
  | _=>exact absurd (show false=true from hs) qv
 | bl i=>
  cases rx;cases y with
  | non=>cases ry;exact PySem.EqNone.ne_bool_none (Cd I q (by simp))
  | bl j=>cases ry;exact ne_bool (Cd I q (yi not qQ))
  | str j=>obtain⟨t',rfl⟩:=ry;exact PySem.EqMixed.ne_bool_str (Cd I q (by simp))
  | _=>exact absurd (show false=true from hs) qv
 | int i=>
  obtain⟨t,rfl⟩:=rx;cases y with
  | non=>cases ry;exact PySem.EqNone.ne_int_none (Cd I q (by simp))
  | int j=>obtain⟨t',rfl⟩:=ry;exact ne_int (Cd I q (yi not iC))
  | str j=>obtain⟨t',rfl⟩:=ry;exact PySem.EqMixed.ne_int_str (Cd I q (by simp))
  | _=>exact absurd (show false=true from hs) qv
 | str i=>
  obtain⟨t,rfl⟩:=rx;cases y with
  | non=>cases ry;exact PySem.EqNone.ne_str_none (Cd I q (by simp))
  | bl j=>cases ry;exact PySem.EqMixed.ne_str_bool (Cd I q (by simp))
  | int j=>obtain⟨t',rfl⟩:=ry;exact PySem.EqMixed.ne_str_int (Cd I q (by simp))
  | str j=>obtain⟨t',rfl⟩:=ry;exact ne_str (Cd I q (yi not iB))
  | _=>exact absurd (show false=true from hs) qv
 | byt i=>
  obtain⟨t,rfl⟩:=rx;cases y with
  | byt j=>obtain⟨t',rfl⟩:=ry;exact PySem.W.ne_bytes (Cd I q (yi not iD))
  | _=>exact absurd (show false=true from hs) qv
 | _=>cases y<;>exact absurd (show false=true from hs) qv
theorem Fg:OpR X (compareOp .Lt) (rI0 fun i j=>.bl (decide (i<j))):=uy fun _ _ _ _ _ _ _ q=>lt_int q
theorem Nk:OpR X (compareOp .LtE) (rI0 fun i j=>.bl (decide (i<=j))):=uy fun _ _ _ _ _ _ _ q=>le_int q
theorem Iz:OpR X (compareOp .Gt) (rI0 fun i j=>.bl (decide (j<i))):=uy fun _ _ _ _ _ _ _ q=>gt_int q
theorem xQ:OpR X (compareOp .GtE) (rI0 fun i j=>.bl (decide (j<=i))):=uy fun _ _ _ _ _ _ _ q=>ge_int q
theorem V3:OpR X (compareOp .In) (fun x y H Q=>∃i j,x=.str i/\y=.str j/\Q (.bl (!(Builtin.Str.occurrences j i 0 j.length 1).isEmpty)) H):=by
 intro pins s Z H x y v u Q I rx ry h;obtain⟨i,j,rfl,rfl,q⟩:=h;obtain⟨t,rfl⟩:=rx;obtain⟨t',rfl⟩:=ry;exact in_str (Cd I q rfl)
theorem Jm:OpR X (compareOp .Is) (fun x y H Q=>y=.non/\Q (.bl (decide (x=.non))) H):=by
 intro pins s Z H x y v u Q I rx ry h;obtain⟨rfl,q⟩:=h;cases ry;refine is_none_gen (Cd I q ?_);cases x<;>first
  | (cases rx;rfl)
  | (obtain ⟨t,rfl⟩:=rx;rfl)
theorem ux:OpR X (compareOp .IsNot) (fun x y H Q=>y=.non/\Q (.bl (!decide (x=.non))) H):=by
 intro pins s Z H x y v u Q I rx ry h;obtain⟨rfl,q⟩:=h;cases ry;refine isnot_none_gen (Cd I q ?_);cases x<;>first
  | (cases rx;rfl)
  | (obtain ⟨t,rfl⟩:=rx;rfl)
theorem Ar(b:Expr){op:CmpOp}(h:op≠.In:=by decide)(h2:op≠.NotIn:=by decide):behindInMarks op b=false:=by
 have e1:(op==CmpOp.In)=false:=by cases op<;>first | rfl | exact absurd rfl h
 have e2:(op==CmpOp.NotIn)=false:=by cases op<;>first | rfl | exact absurd rfl h2
 cases b<;>simp[behindInMarks,e1,e2]
theorem Iw{op:CmpOp}{r:R2}(ho:OpR X (compareOp op) r)(ha:PE X a ta)(hb:PE X b tb)(hm:behindInMarks op b=false):PE X (.Compare a [op] [b] pos) (tOp r ta tb):=by
 intro pins s Z H Q I h;exact wpAny_Compare1 (AAq ha hb I h fun v u s2 x y H2 I2 rx ry q=>ho pins s2 Z H2 x y v u Q I2 rx ry q) hm
def wX(t:TE):TT:=fun Z H Q=>t Z H fun x H'=>∃k,x=.bl k/\Q k H'
theorem Am{op:CmpOp}{r:R2}(ho:OpR X (compareOp op) r)(ha:PE X a ta)(hb:PE X b tb)(hm:behindInMarks op b=false):PT X (.Compare a [op] [b] pos) (wX (tOp r ta tb)):=by
 intro pins s Z H Q I h;refine wpAny_isTrue_Compare1 (thn (ha s Z H _ I h) fun v s1 ⟨x,H1,I1,r1,q1⟩=>thn (hb s1 Z H1 _ I1 q1) fun u s2 ⟨y,H2,I2,r2,q2⟩=>
  thn (ho pins s2 Z H2 x y v u _ I2 r1 r2 q2) fun c s3 ⟨z,H3,I3,r3,k,e,q3⟩=>?_) hm
 subst e;cases r3;exact jf7 ⟨H3,I3,q3⟩
def mD(r r':R2)(ta tb tc:TE):TE:=fun Z H Q=>ta Z H fun x H1=>tb Z H1 fun y H2=>r x y H2 fun z H3=>∃k,z=.bl k/\
 (if k=true then tc Z H3 fun w' H4=>r' y w' H4 Q else Q (.bl false) H3)
theorem NZ{op op':CmpOp}{r r':R2}(ho:OpR X (compareOp op) r)(ho':OpR X (compareOp op') r')(ha:PE X a ta)(hb:PE X b tb)(hc:PE X c tc)
 (hm:lastMarks [op,op'] [b,c]=false:=by with_unfolding_all rfl):PE X (.Compare a [op,op'] [b,c] pos) (mD r r' ta tb tc):=by
 intro pins s Z H Q I h;refine Compare_chain (thn (ha s Z H _ I h) fun v s1 ⟨x,H1,I1,r1,q1⟩=>chain_link (thn (hb s1 Z H1 _ I1 q1) fun u s2 ⟨y,H2,I2,r2,q2⟩=>
  thn (ho pins s2 Z H2 x y v u _ I2 r1 r2 q2) fun d s3 ⟨z,H3,I3,r3,k,e,q3⟩=>?_)) hm
 subst e;cases r3;refine jf7 ?_;cases k with
 | false=>exact ite_ff ⟨.bl false,H3,I3,rfl,q3⟩
 | true=>exact ite_tt (chain_last (thn (hc s3 Z H3 _ I3 q3) fun w' s4 ⟨z',H4,I4,r4,q4⟩=>ho' pins s4 Z H4 y z' u w' Q I4 r2 r4 q4))
theorem Pa:(sizeLine:Nat)<2^63:=by rw[sizeLine_eq];decide
theorem cR:OpR X (binaryOp .Add) (fun x y H Q=>∃i j,x=.str i/\y=.str j/\i.length+j.length<=sizeLine/\Q (.str (i++j)) H):=by
 intro pins s Z H x y v u Q I rx ry h;obtain⟨i,j,rfl,rfl,hz,q⟩:=h;obtain⟨t,rfl⟩:=rx;obtain⟨t',rfl⟩:=ry;exact add_str (fun t' tk=>⟨.str (i++j),H,I.tok _,⟨_,rfl⟩,q⟩) hz
theorem vals1{x:V}(r:Vals [x] us):∃u,us=[u]/\RelV x u:=by
 cases r with
 | cons r1 r2=>cases r2;exact⟨_,rfl,r1⟩
theorem vals2{x y:V}(r:Vals [x,y] us):∃u w',us=[u,w']/\RelV x u/\RelV y w':=by
 cases r with
 | cons r1 r2=>
  cases r2 with
  | cons r3 r4=>cases r4;exact⟨_,_,rfl,r1,r3⟩
theorem qZ:Ir X (.builtin "abs") (fun xs H Q=>∃i,xs=[.int i]/\Q (.int (if i<0 then -i else i)) H):=by
 intro pins s Z H xs us Q I r h;obtain⟨i,rfl,q⟩:=h;obtain⟨u,rfl,t,rfl⟩:=vals1 r;exact call_abs_int fun u tk=>⟨.int (if i<0 then -i else i),H,I.tok _,⟨_,rfl⟩,q⟩
theorem kI:Ir X (.type "int") (fun xs H Q=>(∃i,xs=[.int i]/\Q (.int i) H)\/∃k,xs=[.bl k]/\Q (.int (if k then 1 else 0)) H):=by
 intro pins s Z H xs us Q I r h;rcases h with ⟨i,rfl,q⟩ | ⟨k,rfl,q⟩
 ·obtain⟨u,rfl,t,rfl⟩:=vals1 r;exact call_int_int ⟨.int i,H,I,⟨_,rfl⟩,q⟩
 ·obtain⟨u,rfl,r1⟩:=vals1 r;cases r1;exact call_int_bool ⟨.int (if k then 1 else 0),H,I.tok _,⟨_,rfl⟩,q⟩
theorem Bf:Ir X (.type "str") (fun xs H Q=>∃i,xs=[.int i]/\i.natAbs.log2<1920/\Q (.str (toString i)) H):=by
 intro pins s Z H xs us Q I r h;obtain⟨i,rfl,hz,q⟩:=h;obtain⟨u,rfl,t,rfl⟩:=vals1 r;exact PySem.P.str_of_int hz ⟨.str _,H,I.tok _,⟨_,rfl⟩,q⟩
end
structure dY(h:Heap)(x dx C:Addr)(mA:Str->Option Value):Prop where
 obj:h.get? x=some (PySem.W.instObj C dx)
 ns:h.Ns1 dx mA
 ne:dx≠x
theorem jh{h:Heap}{dx:Addr}{mA:Str->Option Value}(n:h.Ns1 dx mA):∃od,h.get? dx=some od/\∀name,PySem.W.lookIn name od=some (mA name):=by
 obtain⟨o,es,ep,ho,hd,hk,_,hm⟩:=n;refine⟨o,ho,fun name=>?_⟩;have e:=hm name;unfold nsFind findBy at e;rw[<-Array.find?_toList] at e;unfold PySem.W.lookIn;rw[hd];dsimp only;split
 ·rename_i y q
  rw[q] at e;exact yi some e
 ·rename_i q
  rw[q] at e;have a:es.toList.any (·.refKey)=false:=by
   rw[List.any_eq_false];intro y hy;obtain⟨z,t,hkey⟩:=hk y (Array.mem_toList_iff.mp hy);simp[DictEntry.refKey,hkey]
  have a':¬es.toList.any (·.refKey)=true:=by rw[a];exact qv
  rw[xp a'];exact yi some e
theorem dY.look{h:Heap}{x dx C:Addr}{mA:Str->Option Value}(I:dY h x dx C mA):∃od,PySem.W.InstAt h x (PySem.W.instObj C dx) C (some od)/\∀name,PySem.W.lookIn name od=some (mA name):=
 let ⟨od,ho,hl⟩:=jh I.ns
 ⟨od,⟨I.obj,rfl,rfl,ho⟩,hl⟩
section
variable{prog:Program}{w:World}{A:Around}{E:Value->Shared->Prop}{s:Shared}{K:Fr}{x dx C f:Addr}{mA:Str->Option Value}{name:Str}{v:Value}
theorem vY{expr:Bool}{Q:Value->Shared->Prop}(X:K.In s.heap)(I:dY s.heap x dx C mA)(hg:PySem.W.plainGet K C name=true)(hh:PySem.W.hasDictIn K C=true)
 (ha:PySem.W.findIn K (.ref C) name=some none)(hv:mA name=some v)(hv':PySem.W.handedIn v=true)(h:Q v { s with toks:=s.toks+1 }):
 wpAny (model prog w) A (getAttr (.ref x) name expr) Q E s:=by
 obtain⟨od,J,hl⟩:=I.look;exact PySem.W.get_value X J (jo7 hg).1 (PySem.W.findObj_own hh ha rfl (by rw[hl,hv])) hv' h
theorem pZ{pl:Sem Bool}{Q:Value×List Value->Shared->Prop}(X:K.In s.heap)(I:dY s.heap x dx C mA)(hg:PySem.W.plainGet K C name=true)
 (hf:PySem.W.findIn K (.ref C) name=some (some (.ref f)))(ht:PySem.W.isFn K (.ref f)=true)(hv:mA name=none)(h:Q (.ref f,[.ref x]) s):
 wpAny (model prog w) A (getMethod (.ref x) name pl) Q E s:=by
 obtain⟨od,J,hl⟩:=I.look;exact PySem.W.method_fn X J (jo7 hg).1 (jo7 hg).2 hf (ja7.mp ht) (by show(PySem.W.lookIn name od).map (·.isSome)=some false;rw[hl,hv];rfl) h
theorem uC{ns:List Str}{Q:Unit->Shared->Prop}(X:K.In s.heap)(I:dY s.heap x dx C mA)
 (hs:PySem.W.findIn K (.ref C) "__setattr__"=some (some (.builtin "object.__setattr__")))(hp:PySem.W.plainOver K C=true)(ht:PySem.W.takerIn K C name=some none)(hh:PySem.W.hasDictIn K C=true)
 (hw:PySem.Within mA ns)(hsz:ns.length<=sizeLine)
 (h:∀h',dY h' x dx C (fun y=>if y=name then some v else mA y)->Heap.SameBut dx s.heap h'->Q () { s with heap:=h',toks:=s.toks+2 }):
 wpAny (model prog w) A (setAttr (.ref x) name v) Q E s:=by
 obtain⟨od,J,hl⟩:=I.look;refine PySem.W.set_plain X J hs (PySem.W.osa_open (s:={ s with toks:=s.toks+1 }) (r:=none) X J hp ht fun b=>?_);obtain⟨cd,hc,hd'⟩:=PySem.W.any_some hh;have hx:s.heap.get? x=some ⟨.ref C,some dx,.plain,#[]⟩:=I.obj;refine jp (ze (jp (jp (wpAny_loadPart hx (jp (PySem.W.Looks.here (s:={ s with toks:=s.toks+1 }) (PySem.W.looks_clsIn X hc) ?_))))));rw[hd'];refine ze (a:=some dx) (jp (ze (jp ?_)));refine wpAny_nsSet1 (s:={ s with toks:=s.toks+1 }) I.ns fun h' hn2 hs2=>?_;obtain⟨oD,esD,epD,hoD,hdD,hcD⟩:=hn2.count (PySem.Within.cons name v hw);refine jp (wpAny_lookBehind hoD (by rw[hdD];exact pastItsLine_dict (zn hcD (by rw[qm];lia))) ?_);exact ze (h _ ⟨(hs2.2 _ (Ne.symm I.ne)).trans I.obj,hn2,I.ne⟩ hs2)
theorem Zt{R:Result->Shared->Prop}{vs:List Value}{kw:List (Str×Value)}(X:K.In s.heap)(hm:PySem.W.makesIn K C=true)
 (hi:PySem.W.findIn K (.ref C) "__init__"=some (some (.ref f)))(hf:PySem.W.typeIn K (.ref f)=some (.type "function"))
 (h:codeAny (model prog w) (A.under (.builtin "type.__call__" ⟨.ref C::vs,kw⟩)) (.call (.ref f) ⟨.ref (s.heap.objs.size+1)::vs,kw⟩) (PySem.W.InitBack (s.heap.objs.size+1) R)
  { s with heap:=(s.heap.push PySem.W.emptyDict).push (PySem.W.instObj C s.heap.objs.size) }):
 codeAny (model prog w) A (.call (.ref C) ⟨vs,kw⟩) R s:=by
 obtain⟨hh,g,d,t,os⟩:=s;exact PySem.W.make_core (PySem.W.makes_of X hm) (PySem.W.looks_findIn X hi) (fun self=>PySem.W.bind_fn X self hf) (.inl rfl) h
end
noncomputable def CW(f:Str)(v:V):List (Str×V)->List (Str×V)
 | []=>[(f,v)]
 | (g,x)::r=>if g=f then (g,v)::r else (g,x)::CW f v r
theorem QF(f g:Str)(v:V):∀fs:List (Str×V),(CW f v fs).lookup g=if g=f then some v else fs.lookup g
 | []=>by
  show List.lookup g [(f,v)]=_;by_cases h:g=f
  ·have hb:(g==f)=true:=ja7.mpr h;simp only[List.lookup,hb,xo h]
  ·have hb:(g==f)=false:=beq_eq_false_iff_ne.mpr h;simp only[List.lookup,hb,xp h]
 | (k,x)::r=>by
  have ih:=QF f g v r;rw[show CW f v ((k,x)::r)=(if k=f then (k,v)::r else (k,x)::CW f v r) from rfl];by_cases hk:k=f
  ·rw[xo hk];by_cases h:g=k
   ·have hb:(g==k)=true:=ja7.mpr h;simp only[List.lookup,hb,xo (h.trans hk)]
   ·have hb:(g==k)=false:=beq_eq_false_iff_ne.mpr h;simp only[List.lookup,hb,xp (fun e:g=f=>h (e.trans hk.symm))]
  ·rw[xp hk];by_cases h:g=k
   ·have hb:(g==k)=true:=ja7.mpr h;simp only[List.lookup,hb,xp (fun e:g=f=>hk (h.symm.trans e))]
   ·have hb:(g==k)=false:=beq_eq_false_iff_ne.mpr h;simp only[List.lookup,hb];exact ih
theorem Pb(f:Str)(v:V):∀fs:List (Str×V),f∈(CW f v fs).map (·.1)/\∀g,g∈fs.map (·.1)->g∈(CW f v fs).map (·.1)
 | []=>⟨by simp[CW],fun g h=>by simp at h⟩
 | (k,x)::r=>by
  obtain⟨i1,i2⟩:=Pb f v r;rw[show CW f v ((k,x)::r)=(if k=f then (k,v)::r else (k,x)::CW f v r) from rfl];by_cases hk:k=f
  ·rw[xo hk];subst hk;exact⟨by simp,fun g h=>by simpa using h⟩
  ·rw[xp hk];refine⟨?_,fun g h=>?_⟩
   ·rw[qo];exact qf _ i1
   ·rw[qo] at h ⊢;rcases qh.mp h with e | e
    ·exact qh.mpr (.inl e)
    ·exact qf _ (i2 g e)
theorem QH(f:Str)(v:V):∀fs:List (Str×V),(CW f v fs).length<=fs.length+1
 | []=>by simp[CW]
 | (k,x)::r=>by
  have ih:=QH f v r;rw[show CW f v ((k,x)::r)=(if k=f then (k,v)::r else (k,x)::CW f v r) from rfl];by_cases hk:k=f
  ·rw[xo hk,qm,qm];lia
  ·rw[xp hk,qm,qm];lia
theorem Jz.some_of{v:V}{o:Option Value}(r:Jz (some v) o):∃u,o=some u/\RelV v u:=by
 cases o with
 | none=>exact(show False from r).elim
 | some u=>exact⟨u,rfl,r⟩
theorem Jz.none_of{o:Option Value}(r:Jz none o):o=none:=by
 cases o with
 | none=>rfl
 | some u=>exact(show False from r).elim
theorem ju{v:V}(r:RelV v u):PySem.W.handedIn u=true:=by
 cases v with
 | non=>cases (show u=Value.none from r);rfl
 | bl b=>cases (show u=Value.bool b from r);rfl
 | int i=>obtain⟨t,e⟩:=(show ∃t,u=Value.int i t from r);cases e;rfl
 | str x=>obtain⟨t,e⟩:=(show ∃t,u=Value.str x t from r);cases e;rfl
 | byt b=>obtain⟨t,e⟩:=(show ∃t,u=Value.bytes b t from r);cases e;rfl
 | flt b=>obtain⟨t,e⟩:=(show ∃t,u=Value.float b t from r);cases e;rfl
 | ref a=>cases (show u=Value.ref a from r);rfl
 | ty n=>cases (show u=Value.type n from r);rfl
section
variable{P:Program}{w:World}{H H':Hp}{h h':Heap}{a C dx:Addr}{fs fs':List (Str×V)}
theorem Rm(hok:HOk P w H h)(e:H a=some (.ins C dx fs)):∃mA,dY h a dx C mA/\(∀f,Jz (fs.lookup f) (mA f))/\PySem.Within mA (fs.map (·.1))/\fs.length<=1000/\H dx=some (.own a):=by
 obtain⟨d,z,ne,ob,mA,n,r,q⟩:=(show Eh P w H h a (.ins C dx fs) from hok a _ e);exact⟨mA,⟨ob,n,ne⟩,r,q,z,d⟩
end
structure Cls(K:Fr)(C:Addr):Prop where
 pg:PySem.W.plainGet K C Str.empty=true
 hd:PySem.W.hasDictIn K C=true
 po:PySem.W.plainOver K C=true
 sa:PySem.W.findIn K (.ref C) "__setattr__"=some (some (.builtin "object.__setattr__"))
theorem Cls.get{C:Addr}(c:Cls K C)(f:Str):PySem.W.plainGet K C f=true:=c.pg
def Cp(K:Fr)(C:Addr)(f:Str):Prop:=PySem.W.findIn K (.ref C) f=some none
theorem Cp.taker{C:Addr}{f:Str}(n:Cp K C f):PySem.W.takerIn K C f=some none:=by
 unfold PySem.W.takerIn;rw[show PySem.W.findIn K (.ref C) f=some none from n];rfl
structure Meth(K:Fr)(C:Addr)(m:Str)(f:Addr):Prop where
 at_:PySem.W.findIn K (.ref C) m=some (some (.ref f))
 fn:PySem.W.isFn K (.ref f)=true
 kp:PySem.W.keepIn K (.ref f)=true
section
variable{X:Cx}{pins:List (Addr×Obj)}{Z:St}{H:Hp}{s:Shared}{a C dx:Addr}{fs:List (Str×V)}{f:Str}{v:V}{A:Around}{E:Value->Shared->Prop}
theorem c7{b:Bool}{Q:Value->Shared->Prop}(I:Inv X pins Z H s)(e:H a=some (.ins C dx fs))(c:Cls X.K C)(n:Cp X.K C f)(l:fs.lookup f=some v)
 (h:∀u s',Inv X pins Z H s'->RelV v u->Q u s'):wpAny (model X.prog X.w) A (getAttr (.ref a) f b) Q E s:=by
 obtain⟨mA,O,r,_,_,_⟩:=Rm I.hok e;obtain⟨u,hu,ru⟩:=Jz.some_of (v:=v) (o:=mA f) (by rw[<-l];exact r f);exact vY I.kIn O (c.get f) c.hd n hu (ju ru) (h u _ (I.tok _) ru)
theorem HB{m:Str}{g:Addr}{pl:Sem Bool}{Q:Value×List Value->Shared->Prop}(I:Inv X pins Z H s)(e:H a=some (.ins C dx fs))(c:Cls X.K C)(k:Meth X.K C m g)(l:fs.lookup m=none)
 (h:Q (.ref g,[.ref a]) s):wpAny (model X.prog X.w) A (getMethod (.ref a) m pl) Q E s:=by
 obtain⟨mA,O,r,_,_,_⟩:=Rm I.hok e;have hn:mA m=none:=Jz.none_of (by rw[<-l];exact r m);exact pZ I.kIn O (c.get m) k.at_ k.fn hn h
theorem bJ{y:V}{Q:Unit->Shared->Prop}(I:Inv X pins Z H s)(e:H a=some (.ins C dx fs))(c:Cls X.K C)(n:Cp X.K C f)(hl:fs.length<1000)(ry:RelV y u)
 (h:∀s',Inv X pins Z (upd H a (.ins C dx (CW f y fs))) s'->Q () s'):wpAny (model X.prog X.w) A (setAttr (.ref a) f u) Q E s:=by
 obtain⟨mA,O,r,wi,_,ho⟩:=Rm I.hok e;have hz:(fs.map (·.1)).length<=sizeLine:=by rw[js,sizeLine_eq];lia
 refine uC I.kIn O c.sa c.po n.taker c.hd wi hz fun h' O' sb=>h _ ?_;have hd:∃o,h'.get? dx=some o:=let ⟨o,_,_,e',_⟩:=O'.ns;⟨o,e'⟩;refine I.write (x:=a) (e:=dx) (by rw[e];exact True.intro) (.inr ho) (fun b q hb z=>(sb.2 b hb).trans z) hd ?_;refine⟨by rw[Ax O.ne];exact ho,?_,O.ne,O'.obj,_,O'.ns,fun g=>?_,fun g hg=>?_⟩
 ·have:=QH f y fs;lia
 ·show Jz ((CW f y fs).lookup g) (if g=f then some u else mA g);rw[QF];by_cases q:g=f
  ·rw[xo q,xo q];exact ry
  ·rw[xp q,xp q];exact r g
 ·by_cases q:g=f
  ·rw[q];exact(Pb f y fs).1
  ·refine(Pb f y fs).2 g (wi g fun z=>hg ?_);show(if g=f then some u else mA g)=none;rw[xp q];exact z
theorem Inv.made(I:Inv X pins Z H s):Inv X pins Z (upd (upd H s.heap.objs.size (.own (s.heap.objs.size+1))) (s.heap.objs.size+1) (.ins C s.heap.objs.size []))
 { s with heap:=(s.heap.push PySem.W.emptyDict).push (PySem.W.instObj C s.heap.objs.size) }:=by
 have e1:(s.heap.push PySem.W.emptyDict).get? s.heap.objs.size=some PySem.W.emptyDict:=zi s.heap rfl;have e2:((s.heap.push PySem.W.emptyDict).push (PySem.W.instObj C s.heap.objs.size)).get? (s.heap.objs.size+1)=some (PySem.W.instObj C s.heap.objs.size):=by
  have:=zi (s.heap.push PySem.W.emptyDict) (o:=PySem.W.instObj C s.heap.objs.size) rfl
  rwa [jh0] at this
 have e3:(s.heap.push PySem.W.emptyDict).Ns s.heap.objs.size (fun _=>none):=⟨PySem.W.emptyDict,#[],_,e1,rfl,(fun e he=>absurd he (by simp)),fun _=>rfl⟩;have I1:=I.laid (a:=s.heap.objs.size) (o:=.own (s.heap.objs.size+1)) (h':=s.heap.push PySem.W.emptyDict) (t':=s.toks) (fun b u q=>jv _ q) (qg _) ⟨_,e1⟩;refine I1.laid (a:=s.heap.objs.size+1) (o:=.ins C s.heap.objs.size []) (t':=s.toks) (fun b u q=>jv _ q) (Nat.le_of_eq (jh0 _ _)) ?_;have ne:s.heap.objs.size≠s.heap.objs.size+1:=vv (jn4 _);refine⟨by rw[Ax ne,Ai],vj _,ne,e2,fun _=>none,(Heap.Ns1.of_empty e3).at fun o q=>jv _ q,fun _=>True.intro,fun y hy=>absurd rfl hy⟩
theorem wH{prog:Program}{w:World}{env:Env}{e:Expr}{f:Str}{s:Shared}{Q:Value->Shared->Prop}(hb:attributeBase e f env (eval e env)=eval e env)
 (h:wpAny (model prog w) A (eval e env) (fun o s₁=>wpAny (model prog w) A (getAttr o f true) Q E s₁) E s):wpAny (model prog w) A (eval (.Attribute e f pos) env) Q E s:=
 Attribute_any_ h (by rw[arm_eval_Attribute,hb])
end
def yJ(K:Fr)(ta:TE)(f:Str):TE:=fun Z H Q=>ta Z H fun x H1=>∃a C dx fs v,x=.ref a/\H1 a=some (.ins C dx fs)/\Cls K C/\Cp K C f/\fs.lookup f=some v/\Q v H1
def ABu(K:Fr)(ta tv:TE)(f:Str):TS:=fun D Z H=>tv Z H fun y H1=>ta Z H1 fun x H2=>∃a C dx fs,x=.ref a/\H2 a=some (.ins C dx fs)/\Cls K C/\Cp K C f/\fs.length<1000/\
 D.nx Z (upd H2 a (.ins C dx (CW f y fs)))
section
variable{X:Cx}{o e value:Expr}{f:Str}{pos pos' tpos:Pos}{ta tv:TE}
theorem Bc(he:PE X e ta)(hb:attributeBase e f X.env (eval e X.env)=eval e X.env):PE X (.Attribute e f pos) (yJ X.K ta f):=by
 intro pins s Z H Q I h;refine wH hb (thn (he s Z H _ I h) fun u s1 hZ=>?_);obtain⟨x,H1,I1,rx,a,C,dx,fs,v,ex,ea,c,n,l,q⟩:=hZ;subst ex;obtain rfl:u=Value.ref a:=rx;exact c7 I1 ea c n l fun u' s2 I2 ru=>⟨v,H1,I2,ru,q⟩
theorem Dw(ha:PE X o ta)(hv:PE X value tv)(hs:swapsWith value (some (.Attribute o f pos')) pos.line X.env=pure false):PS X (.Assign [.Attribute o f pos'] value pos) (ABu X.K ta tv f):=by
 intro pins s Z H D I h;refine plainObj_wpAny_Assign_Attribute (thn (hv s Z H _ I h) fun u s1 ⟨y,H1,I1,ry,q⟩=>thn (ha s1 Z H1 _ I1 q) fun ov s2 hZ=>?_) hs;obtain⟨x,H2,I2,rx,a,C,dx,fs,ex,ea,c,n,l,q2⟩:=hZ;subst ex;obtain rfl:ov=Value.ref a:=rx;exact bJ I2 ea c n l ry fun s3 I3=>⟨Z,_,I3,q2⟩
end
section
variable{X:Cx}{pins:List (Addr×Obj)}{Z:St}{H:Hp}{s:Shared}{A:Around}{E:Value->Shared->Prop}{Q:Value->Shared->Prop}{c:Value}{b:Bool}
inductive Oa(K:Fr)(H:Hp):V->Value->Prop where
 | non:Oa K H .non (.type "NoneType")
 | bl (x:Bool):Oa K H (.bl x) (.type "bool")
 | int (i:Int):Oa K H (.int i) (.type "int")
 | str (x:Str):Oa K H (.str x) (.type "str")
 | flt (x:UInt64):Oa K H (.flt x) (.type "float")
 | lst {a:Addr} {xs:List V} (e:H a=some (.lst xs)):Oa K H (.ref a) (.type "list")
 | frz {a:Addr} {o:Obj} {xs:List V} (e:H a=some (.frz o (.lst xs))):Oa K H (.ref a) (.type "list")
 | tup {a:Addr} {xs:List V} (e:H a=some (.tup xs)):Oa K H (.ref a) (.type "tuple")
 | dK {a:Addr} {kvs:List (Key×V)} (e:H a=some (.dK kvs)):Oa K H (.ref a) (.type "dict")
 | dT {a:Addr} {kvs:List (List Key×V)} (e:H a=some (.dT kvs)):Oa K H (.ref a) (.type "dict")
 | ins {a C dx:Addr} {fs:List (Str×V)} (e:H a=some (.ins C dx fs)) (cl:Cls K C) (ha:PySem.W.findIn K (.ref C) "__class__"=some (some (.builtin "object.__class__")))
  (hn:PySem.W.specialIn K (.builtin "object.__class__") "__get__"=some (some (.builtin "getset_descriptor.__get__"))) (htk:PySem.W.takesIn K (.builtin "object.__class__")=some true)
  (hm:PySem.W.mroIn K C (.type "object")=some true):Oa K H (.ref a) (.ref C)
theorem jo{x:V}{t:Value}(I:Inv X pins Z H s)(rx:RelV x u)(ty:Oa X.K H x t)(e:PySem.W.kitOne X.K t c=some b)(h:∀tk,Q (.bool b) { s with toks:=tk }):
 wpAny (model X.prog X.w) A (call (.builtin "isinstance") [u,c]) Q E s:=by
 cases ty with
 | non=>cases (show u=Value.none from rx);exact jb0 PySem.W.kitx_none I.kIn True.intro e (fun z=>nomatch z) h
 | bl y=>cases (show u=Value.bool y from rx);exact jb0 PySem.W.kitx_bool I.kIn True.intro e (fun z=>nomatch z) h
 | int i=>obtain⟨t,q⟩:=(show ∃t,u=Value.int i t from rx);cases q;exact jb0 PySem.W.kitx_int I.kIn True.intro e (fun z=>nomatch z) h
 | str y=>obtain⟨t,q⟩:=(show ∃t,u=Value.str y t from rx);cases q;exact jb0 PySem.W.kitx_str I.kIn True.intro e (fun z=>nomatch z) h
 | flt y=>obtain⟨t,q⟩:=(show ∃t,u=Value.float y t from rx);cases q;exact jb0 PySem.W.kitx_float I.kIn True.intro e (fun z=>nomatch z) h
 | @lst a xs ea=>
  cases (show u=Value.ref a from rx);obtain⟨_,_,n,_,h1⟩:=(show Eh X.prog X.w H s.heap a (.lst xs) from I.hok a _ ea);exact jb0 PySem.W.kitx_list I.kIn ⟨_,h1,rfl⟩ e (fun z=>nomatch z) h
 | @frz a ob xs ea=>
  cases (show u=Value.ref a from rx);obtain⟨_,_,_,n,_,h1⟩:=(show Eh X.prog X.w H s.heap a (.frz ob (.lst xs)) from I.hok a _ ea);exact jb0 PySem.W.kitx_list I.kIn ⟨_,h1,rfl⟩ e (fun z=>nomatch z) h
 | @tup a xs ea=>
  cases (show u=Value.ref a from rx);obtain⟨_,_,_,p⟩:=(show Eh X.prog X.w H s.heap a (.tup xs) from I.hok a _ ea);obtain⟨o,h1,h2,_⟩:=p;exact jb0 PySem.W.kitx_tuple I.kIn ⟨o,h1,h2⟩ e (fun z=>nomatch z) h
 | @dK a kvs ea=>
  cases (show u=Value.ref a from rx);obtain⟨_,_,vs,_,p⟩:=(show Eh X.prog X.w H s.heap a (.dK kvs) from I.hok a _ ea);obtain⟨o,es,ep,h1,h2,_⟩:=p;exact jb0 PySem.W.kitx_dict I.kIn ⟨o,h1,h2.1⟩ e (fun z=>nomatch z) h
 | @dT a kvs ea=>
  cases (show u=Value.ref a from rx);obtain⟨_,_,xs,_,o,es,ep,h1,h2,_⟩:=(show Eh X.prog X.w H s.heap a (.dT kvs) from I.hok a _ ea);exact jb0 PySem.W.kitx_dict I.kIn ⟨o,h1,h2.1⟩ e (fun z=>nomatch z) h
 | @ins a C dx fs ea cl ha hn htk hm=>
  cases (show u=Value.ref a from rx);obtain⟨mA,O,_⟩:=Rm I.hok ea;obtain⟨od,J,_⟩:=O.look;exact jb0 (PySem.W.kitx_own (cl.get _) cl.hd ha hn htk hm) I.kIn J e (fun z=>nomatch z) h
end
structure DW(k:Nat)(A:Around):Prop where
 hd:A.handled=none
 dp:A.depth+3*k+5<recursionLimit
 un:A.units+16*k+200<cLine
 gd:A.guards=some []
theorem DW.mono{j k:Nat}(r:DW k A)(h:j<=k):DW j A:=⟨r.hd,by have:=r.dp;lia,by have:=r.un;lia,r.gd⟩
theorem DW.deeper{k:Nat}(r:DW (k+1) A)(env:Env):DW k (A.deeper env):=
 ⟨r.hd,by have:=r.dp;show A.depth+1+3*k+5<_;lia,by have:=r.un;show A.units+3+16*k+200<_;lia,r.gd⟩
theorem cZ{C:Addr}{kw:List (Str×Value)}:(A.under (.builtin "type.__call__" ⟨.ref C::us,kw⟩)).depth=A.depth+1:=by
 first | rfl | simp[Around.under,Code.weight,Code.isCreation,Code.isGuard,Code.isCaller,Code.frames,Code.isFrame,guardIds]
theorem cY{C:Addr}{kw:List (Str×Value)}:(A.under (.builtin "type.__call__" ⟨.ref C::us,kw⟩)).units=A.units+1:=by
 first | rfl | simp[Around.under,Code.cUnits,Code.frames,Code.isFrame]
theorem Zu{C:Addr}{kw:List (Str×Value)}(h:A.guards=some []):(A.under (.builtin "type.__call__" ⟨.ref C::us,kw⟩)).guards=some []:=by
 have e:(Code.builtin "type.__call__" ⟨.ref C::us,kw⟩).guards=[]:=by
  unfold Code.guards;rw[xp (by show ¬guardIds.contains "type.__call__"=true;decide)]
 have e2:(A.under (.builtin "type.__call__" ⟨.ref C::us,kw⟩)).guards=pushGuards (Code.builtin "type.__call__" ⟨.ref C::us,kw⟩).guards A.guards:=rfl;rw[e2,e,h];rfl
theorem DW.make{k:Nat}(r:DW (k+1) A)(C:Addr)(us:List Value)(kw:List (Str×Value)):DW k (A.under (.builtin "type.__call__" ⟨.ref C::us,kw⟩)):=
 ⟨r.hd,by have:=r.dp;rw[cZ];lia,by have:=r.un;rw[cY];lia,Zu r.gd⟩
theorem DW.depth{k:Nat}(r:DW k A):A.depth<recursionLimit:=by have:=r.dp;lia
theorem DW.units{k:Nat}(r:DW k A):A.units+64<cLine:=by have:=r.un;lia
theorem DW.units0{k:Nat}(r:DW k A):A.units<cLine:=by have:=r.un;lia
def Ma:TA:=fun _ H Q=>Q [] H
def JN(ta:TE)(tr:TA):TA:=fun Z H Q=>ta Z H fun x H1=>tr Z H1 fun xs H2=>Q (x::xs) H2
section
variable{X:Cx}{e:Expr}{es:List Expr}{te:TE}{t:TA}{pos:Pos}
theorem Ac:PA X [] Ma:=fun _ _ _ _ H Q I h=>Calls.spliced_nil ⟨[],H,I,.nil,h⟩
theorem Aa(ha:PE X e te)(hr:PA X es t)(hs:‹starEach (e::es) X.env=(false,eval e X.env)::starEach es X.env›):PA X (e::es) (JN te t):=by
 intro pos pins s Z H Q I h;rw[hs];show wpAny _ _ (spliced ((false,eval e X.env)::backTo pos (starEach es X.env))) _ _ s;refine Calls.spliced_cons (thn (ha s Z H _ I h) fun u s1 hZ=>?_);obtain⟨x,H1,I1,r1,q1⟩:=hZ;exact thn (hr (pos:=pos) pins s1 Z H1 _ I1 q1) fun us s2 ⟨xs,H2,I2,r2,q2⟩=>⟨x::xs,H2,I2,.cons r1 r2,q2⟩
def rm(t:TA):TE:=fun Z H Q=>t Z H fun xs H1=>xs.length<=sizeLine/\∀p,H1 p=none->Q (.ref p) (upd H1 p (.tup xs))
def yI(t:TA):TE:=fun Z H Q=>t Z H fun xs H1=>xs.length<=sizeLine/\∀p,H1 p=none->Q (.ref p) (upd H1 p (.lst xs))
theorem By{x1}(h:PA X es t):PE X (.Tuple es x1 pos) (rm t):=by
 intro pins s Z H Q I hq;refine wpAny_Tuple_spliced (thn (h (pos:=pos) pins s Z H _ I hq) fun us s1 ⟨xs,H1,I1,r,z,q⟩=>⟨by rw[<-r.length];exact z,?_⟩);have hf:H1 s1.heap.objs.size=none:=I1.hok.fresh (qg _);refine⟨.ref s1.heap.objs.size,upd H1 s1.heap.objs.size (.tup xs),I1.laid (t':=s1.toks) (fun b u e=>jv _ e) (qg _) ?_,rfl,q _ hf⟩;exact⟨z,us,r,⟨_,zi _ rfl,rfl,_,rfl⟩⟩
theorem Ea(h:PA X es t):PE X (.List es pos) (yI t):=by
 intro pins s Z H Q I hq;refine wpAny_List_spliced (thn (h (pos:=pos) pins s Z H _ I hq) fun us s1 ⟨xs,H1,I1,r,z,q⟩=>⟨by rw[<-r.length];exact z,?_⟩);have hf:H1 s1.heap.objs.size=none:=I1.hok.fresh (qg _);refine⟨.ref s1.heap.objs.size,upd H1 s1.heap.objs.size (.lst xs),I1.laid (t':=s1.toks) (fun b u e=>jv _ e) (qg _) ?_,rfl,q _ hf⟩;exact⟨z,us,0,r,zi _ rfl⟩
end
noncomputable abbrev Sp:=List V->Hp->VK->XK->Prop
noncomputable abbrev CXT:=List Env->Hp->Shared->XK->Value->Shared->Prop
structure dh(P:Program)(w:World)(K:Fr)(mg:Str->Option Value)(base:Heap)(A:Around)(outer:List Env)(s:Shared)(H:Hp):Prop where
 frames:A.frames=some outer
 mod:Mod K mg base
 bs:∀b o,base.get? b=some o->s.heap.get? b=some o/\H b=none
 bsz:base.objs.size<=s.heap.objs.size
 funs:s.heap.FunFrames base outer
 frf:∀b∈frs outer,H b=none
 hok:HOk P w H s.heap
 bare:AllBare s.gens
def CE(outer:List Env)(P:Program)(w:World)(H:Hp)(s:Shared)(Q:VK)(u:Value)(s':Shared):Prop:=
 ∃v H',s'.os=s.os/\AllBare s'.gens/\Un (frs outer) [] H H' s.heap s'.heap/\HOk P w H' s'.heap/\RelV v u/\Q v H'
def CR(CX:CXT)(outer:List Env)(P:Program)(w:World)(H:Hp)(s:Shared)(Q:VK)(E:XK)(r:Result)(s':Shared):Prop:=
 match r with
 | .ok (.ret u)=>CE outer P w H s Q u s'
 | .ok _=>False
 | .error e=>CX outer H s E e s'
structure Ds(P:Program)(w:World)(K:Fr)(mg:Str->Option Value)(base:Heap)(CX:CXT)(k:Nat)(f:Addr)(fd:FuncData)(ps:List Str)(sp:Sp):Prop where
 len:∀vs H Q E,sp vs H Q E->vs.length=ps.length
 run:∀(A:Around) (outer:List Env) (s:Shared) (H:Hp) (args:Args) (us:List Value) (vs:List V) (Q:VK) (E:XK),DW k A->dh P w K mg base A outer s H->BindsTo s fd args (ps.zip us)->Vals vs us->sp vs H Q E->
  codeAny (model P w) A (.call (.ref f) args) (CR CX outer P w H s Q E) s
theorem Ds.mono{P:Program}{w:World}{mg:Str->Option Value}{base:Heap}{CX:CXT}{j k:Nat}{f:Addr}{fd:FuncData}{ps:List Str}{sp:Sp}(F:Ds P w K mg base CX j f fd ps sp)(h:j<=k):
 Ds P w K mg base CX k f fd ps sp:=⟨F.len,fun A outer s H args us vs Q E hr=>F.run A outer s H args us vs Q E (hr.mono h)⟩
theorem dh.make{P:Program}{w:World}{mg:Str->Option Value}{base:Heap}{outer:List Env}{s:Shared}(e:dh P w K mg base A outer s H)(C:Addr)(us:List Value)(kw:List (Str×Value)):
 dh P w K mg base (A.under (.builtin "type.__call__" ⟨.ref C::us,kw⟩)) outer s H:=⟨by first | exact e.frames | (simpa [Around.under,Code.envs,Code.isFrame,pushEnvs] using e.frames),e.mod,e.bs,e.bsz,e.funs,e.frf,e.hok,e.bare⟩
section
variable{X:Cx}{pins:List (Addr×Obj)}{Z:St}{H:Hp}{s s':Shared}
theorem Inv.env0(I:Inv X pins Z H s):dh X.prog X.w X.K X.mg X.base X.A X.stack s H:=
 ⟨I.ok.frames,I.ok.mod,I.bs,zn I.ok.bsz I.sz,I.stack,I.stkFree,I.hok,I.bare⟩
theorem Inv.after{Q:VK}(I:Inv X pins Z H s)(h:CE X.stack X.prog X.w H s Q u s'):EP X pins Z Q u s':=by
 obtain⟨v,H',os,bare,un,hok,r,q⟩:=h;obtain⟨hh,g,d,t,os'⟩:=s';obtain rfl:os'=s.os:=os;exact⟨v,H',I.call (h':=hh) (g':=g) (d':=d) (t':=t) (ch:=[]) un hok bare (fun b z=>absurd z (by simp)),r,q⟩
end
def Vv(sp:Sp)(dvs:List V)(E:XK)(t:TA):TE:=fun Z H Q=>t Z H fun vs H1=>sp (vs++dvs) H1 Q E
def Yo(C:Addr)(m:Str)(sp:Sp)(dvs:List V)(E:XK)(ta:TE)(t:TA):TE:=fun Z H Q=>ta Z H fun x H1=>∃a dx fs,x=.ref a/\H1 a=some (.ins C dx fs)/\fs.lookup m=none/\
 t Z H1 fun vs H2=>sp (x::(vs++dvs)) H2 Q E
def Vu(C:Addr)(sp:Sp)(dvs:List V)(E:XK)(t:TA):TE:=fun Z H Q=>t Z H fun vs H1=>∀x dx,H1 x=none->H1 dx=none->dx≠x->
 sp (.ref x::(vs++dvs)) (upd (upd H1 dx (.own x)) x (.ins C dx [])) (fun v H2=>v=.non/\Q (.ref x) H2) E
def Binds(K:Fr)(fd:FuncData)(ps:List Str)(ds:List Value):Prop:=
 ∀(s:Shared) (us:List Value),K.In s.heap->(us++ds).length=ps.length->BindsTo s fd ⟨us,[]⟩ (ps.zip (us++ds))
theorem Binds.all{fd:FuncData}{ps:List Str}(h:∀us:List Value,us.length=ps.length->bindArgs fd ⟨us,[]⟩=pure (ps.zip us)):Binds K fd ps []:=fun s us _ hl=>by
 rw[xy] at hl ⊢;exact .of_eq (h us hl)
def K7(CX:CXT)(X:Cx)(E:XK):Prop:=∀(pins:List (Addr×Obj)) (Z:St) (H:Hp) (s:Shared) (e:Value) (s':Shared),Inv X pins Z H s->CX X.stack H s E e s'->X.xe e s'
section
variable{X:Cx}{CX:CXT}{k:Nat}{f C:Addr}{fd:FuncData}{ps:List Str}{sp:Sp}{dvs:List V}{ds:List Value}{E:XK}{x m:Str}{p pos apos:Pos}{e o:Expr}{es:List Expr}{ta:TE}{t:TA}
theorem PB{s:Shared}{Q:VK}{vs:List V}(F:Ds X.prog X.w X.K X.mg X.base CX k f fd ps sp)(hr:DW k X.A)(hb:Binds X.K fd ps ds)(hd:Vals dvs ds)(hx:K7 CX X E)
 (I:Inv X pins Z H s)(r:Vals vs us)(h:sp (vs++dvs) H Q E):wpAny (model X.prog X.w) X.A (call (.ref f) us) (EP X pins Z Q) X.xe s:=by
 have r2:Vals (vs++dvs) (us++ds):=r.append hd;have hl:(us++ds).length=ps.length:=by rw[<-r2.length];exact F.len _ _ _ _ h
 refine jn7 (je3 (F.run X.A X.stack s H ⟨us,[]⟩ (us++ds) (vs++dvs) Q E hr I.env0 (hb s us I.kIn hl) r2 h) fun r s' hq=>?_);cases r with
 | error e=>exact hx pins Z H s e s' I hq
 | ok fl=>
  cases fl with
  | ret u=>exact I.after hq
  | next=>exact False.elim hq
  | brk=>exact False.elim hq
  | cont=>exact False.elim hq
theorem uf(F:Ds X.prog X.w X.K X.mg X.base CX k f fd ps sp)(hr:DW k X.A)(hg:Gl X x)(hm:X.mg x=some (.ref f))(hk:PySem.W.keepIn X.K (.ref f)=true)(hb:Binds X.K fd ps ds)(hd:Vals dvs ds)(hx:K7 CX X E)
 (ha:PA X (e::es) t)(hdb:(x==("__debug__":Str))=false:=by decide)(he:‹starEach (e::es) X.env=(false,eval e X.env)::starEach es X.env›)(hpl:‹(backTo pos (starEach es X.env)).any (·.1)=false›):
 PE X (.Call (.Name x p) (e::es) [] pos) (Vv sp dvs E t):=by
 intro pins s Z H Q I h;refine ja6 (Ih I hg hm ?_ hdb);refine Zp (h₀:=X.base) I.ok.mod.kin hk (thn (ha (pos:=pos) pins s Z H _ I h) fun us s1 ⟨vs,H1,I1,r,q⟩=>⟨I1.kIn,?_⟩) he hpl;exact PB F hr hb hd hx I1 r q
theorem uZ{pl:Sem Bool}(he:PE X o ta)(c:Cls X.K C)(hm:Meth X.K C m f)(F:Ds X.prog X.w X.K X.mg X.base CX k f fd ps sp)(hr:DW k X.A)(hb:Binds X.K fd ps ds)(hd:Vals dvs ds)(hx:K7 CX X E)(ha:PA X (e::es) t)
 (hst:‹starEach (e::es) X.env=(false,eval e X.env)::starEach es X.env›)(hpl:‹(backTo pos (starEach es X.env)).any (·.1)=false›)
 (ht:‹eval (.Call (.Attribute o m apos) (e::es) [] pos) X.env=(do
  let ov <-eval o X.env
  standAt apos.atName
  let (f,first) <-holding [ov] (getMethod ov m pl)
  callWith pos f first (backTo pos (starEach (e::es) X.env)) (backToKw pos (keywordEach [] X.env)))›):
 PE X (.Call (.Attribute o m apos) (e::es) [] pos) (Yo C m sp dvs E ta t):=by
 intro pins s Z H Q I h;refine jb5 (pl:=pl) (thn (he s Z H _ I h) fun u s1 hZ=>?_) ht;obtain⟨x,H1,I1,rx,a,dx,fs,ex,ea,l,q⟩:=hZ;subst ex;obtain rfl:u=Value.ref a:=rx;refine HB I1 ea c hm l ?_;refine Zp (first:=[.ref a]) (h₀:=X.base) I.ok.mod.kin hm.kp (thn (ha (pos:=pos) pins s1 Z H1 _ I1 q) fun us s2 ⟨vs,H2,I2,r,q2⟩=>⟨I2.kIn,?_⟩) hst hpl
 exact PB (us:=.ref a::us) (vs:=.ref a::vs) F hr hb hd hx I2 (.cons rfl r) q2
theorem oY{pl:Sem Bool}(he:PE X o ta)(c:Cls X.K C)(hm:Meth X.K C m f)(F:Ds X.prog X.w X.K X.mg X.base CX k f fd ps sp)(hr:DW k X.A)(hb:Binds X.K fd ps ds)(hd:Vals dvs ds)(hx:K7 CX X E)
 (ht:‹eval (.Call (.Attribute o m apos) [] [] pos) X.env=(do
  let ov <-eval o X.env
  standAt apos.atName
  let (f,first) <-holding [ov] (getMethod ov m pl)
  callWith pos f first (backTo pos (starEach [] X.env)) (backToKw pos (keywordEach [] X.env)))›):
 PE X (.Call (.Attribute o m apos) [] [] pos) (Yo C m sp dvs E ta Ma):=by
 intro pins s Z H Q I h;refine jb5 (pl:=pl) (thn (he s Z H _ I h) fun u s1 hZ=>?_) ht;obtain⟨x,H1,I1,rx,a,dx,fs,ex,ea,l,q⟩:=hZ;subst ex;obtain rfl:u=Value.ref a:=rx;refine HB I1 ea c hm l ?_;exact jk0 (first:=[.ref a]) I1.kIn hm.kp (PB (us:=[.ref a]) (vs:=[.ref a]) F hr hb hd hx I1 (.cons rfl .nil) q)
structure Mk(K:Fr)(C f:Addr):Prop where
 makes:PySem.W.makesIn K C=true
 init:PySem.W.findIn K (.ref C) "__init__"=some (some (.ref f))
 fn:PySem.W.isFn K (.ref f)=true
 kp:PySem.W.keepIn K (.ref C)=true
theorem ZZ{s:Shared}{Q:VK}{vs:List V}(M:Mk X.K C f)(F:Ds X.prog X.w X.K X.mg X.base CX k f fd ps sp)(hr:DW (k+1) X.A)(hb:Binds X.K fd ps ds)(hd:Vals dvs ds)
 (hx:K7 CX X E)(I:Inv X pins Z H s)(r:Vals vs us)
 (h:∀x dx,H x=none->H dx=none->dx≠x->sp (.ref x::(vs++dvs)) (upd (upd H dx (.own x)) x (.ins C dx [])) (fun v H2=>v=.non/\Q (.ref x) H2) E):
 wpAny (model X.prog X.w) X.A (call (.ref C) us) (EP X pins Z Q) X.xe s:=by
 have hq:=h (s.heap.objs.size+1) s.heap.objs.size (I.hok.fresh (Nat.le_succ _)) (I.hok.fresh (qg _)) (vv (jn4 _));have I2:=Inv.made (C:=C) I;have r2:Vals (V.ref (s.heap.objs.size+1)::(vs++dvs)) (Value.ref (s.heap.objs.size+1)::(us++ds)):=.cons rfl (r.append hd);have hl:(Value.ref (s.heap.objs.size+1)::us++ds).length=ps.length:=by
  have e:=r2.length;rw[F.len _ _ _ _ hq] at e;exact e.symm
 refine jn7 (Zt (f:=f) I.kIn M.makes M.init (ja7.mp M.fn) (je3 (F.run _ X.stack _ _ ⟨Value.ref (s.heap.objs.size+1)::us,[]⟩ (Value.ref (s.heap.objs.size+1)::(us++ds)) _ _ E (hr.make C us [])
  (I2.env0.make C us []) (hb _ (Value.ref (s.heap.objs.size+1)::us) I2.kIn hl) r2 hq) fun r s' hq'=>?_))
 cases r with
 | error e=>exact hx pins Z _ _ e s' I2 hq'
 | ok fl=>
  cases fl with
  | ret u=>
   obtain⟨v,H',I3,rv,ev,q3⟩:=I2.after hq';subst ev;exact⟨rv,⟨V.ref (s.heap.objs.size+1),H',I3,rfl,q3⟩⟩
  | next=>exact False.elim hq'
  | brk=>exact False.elim hq'
  | cont=>exact False.elim hq'
theorem f9(M:Mk X.K C f)(F:Ds X.prog X.w X.K X.mg X.base CX k f fd ps sp)(hr:DW (k+1) X.A)(hg:Gl X x)(hm:X.mg x=some (.ref C))(hb:Binds X.K fd ps ds)(hd:Vals dvs ds)(hx:K7 CX X E)
 (ha:PA X (e::es) t)(hdb:(x==("__debug__":Str))=false:=by decide)(he:‹starEach (e::es) X.env=(false,eval e X.env)::starEach es X.env›)(hpl:‹(backTo pos (starEach es X.env)).any (·.1)=false›):
 PE X (.Call (.Name x p) (e::es) [] pos) (Vu C sp dvs E t):=by
 intro pins s Z H Q I h;refine ja6 (Ih I hg hm ?_ hdb);refine Zp (h₀:=X.base) I.ok.mod.kin M.kp (thn (ha (pos:=pos) pins s Z H _ I h) fun us s1 ⟨vs,H1,I1,r,q⟩=>⟨I1.kIn,?_⟩) he hpl;exact ZZ M F hr hb hd hx I1 r q
theorem oZ(M:Mk X.K C f)(F:Ds X.prog X.w X.K X.mg X.base CX k f fd ps sp)(hr:DW (k+1) X.A)(hg:Gl X x)(hm:X.mg x=some (.ref C))(hb:Binds X.K fd ps ds)(hd:Vals dvs ds)(hx:K7 CX X E)
 (hdb:(x==("__debug__":Str))=false:=by decide):PE X (.Call (.Name x p) [] [] pos) (Vu C sp dvs E Ma):=by
 intro pins s Z H Q I h;refine ja6 (Ih I hg hm ?_ hdb);exact jk0 I.kIn M.kp (ZZ (us:=[]) M F hr hb hd hx I .nil h)
end
def PK(X:Cx)(kws:List Keyword)(t:TA):Prop:=
 ∀(pos:Pos) (pins:List (Addr×Obj)) (s:Shared) (Z:St) (H:Hp) (Q:List V->Hp->Prop),Inv X pins Z H s->t Z H Q->wpAny (model X.prog X.w) X.A (evalAll ((backToKw pos (keywordEach kws X.env)).map (·.2))) (AP X pins Z Q) X.xe s
section
variable{X:Cx}{CX:CXT}{k:Nat}{f C:Addr}{fd:FuncData}{ps ks:List Str}{sp:Sp}{E:XK}{x m:Str}{p pos apos kpos:Pos}{e o:Expr}{es:List Expr}{kws:List Keyword}{te ta:TE}{t tk:TA}{nm:Option Str}
variable{g:List Value->List Value->List Value}{gV:List V->List V->List V}
end
structure Cm(N P:List Str)(sc:Scope):Prop where
 kind:sc.kind=.function
 co:sc.isCoroutine=false
 gen:sc.isGenerator=false
 nd:N.Nodup
 pre:N.take P.length=P
 par:∀x∈P,sc.names.lookup x=some .local\/sc.names.lookup x=some .cell
 nofree:∀y∈sc.names,y.2≠.free
theorem Wa{kindOf:Str->Option NameKind}:∀{binds:List (Str×Value)} {m:Str->Option Value},(∀v,(x,v)∉binds)->bindL kindOf binds m x=m x
 | [],_,_=>rfl
 | (n,v)::r,m,h=>by
  unfold bindL;rw[Wa fun w hw=>h w (qf _ hw)];split
  ·have:x≠n:=by rintro rfl;exact h v qc
   simp[this]
  ·rfl
theorem Wc{kindOf:Str->Option NameKind}:∀{binds:List (Str×Value)} {m:Str->Option Value},(∀v,(x,v)∉binds)->bindC kindOf binds m x=m x
 | [],_,_=>rfl
 | (n,v)::r,m,h=>by
  unfold bindC;rw[Wc fun w hw=>h w (qf _ hw)];split
  ·rfl
  ·have:x≠n:=by rintro rfl;exact h v qc
   simp[this]
theorem Wb{kindOf:Str->Option NameKind}{v:Value}:∀{P:List Str} {vs:List Value} {i:Nat} {m:Str->Option Value},P.Nodup->P[i]?=some x->vs[i]?=some v->kindOf x=some .local->
 bindL kindOf (P.zip vs) m x=some v
 | [],_,_,_,_,h,_,_=>by simp at h
 | _::_,[],_,_,_,_,h,_=>by simp at h
 | p::P,w::vs,0,m,nd,h1,h2,hk=>by
  simp at h1 h2;subst h1;subst h2;show bindL kindOf ((p,w)::P.zip vs) m p=_;unfold bindL;rw[Wa fun v hv=>(jo1.mp nd).1 (List.of_mem_zip hv).1,xo hk];simp
 | p::P,w::vs,i+1,m,nd,h1,h2,hk=>by
  show bindL kindOf ((p,w)::P.zip vs) m x=_;unfold bindL;exact Wb (i:=i) (jo1.mp nd).2 (by simpa using h1) (by simpa using h2) hk
theorem We{kindOf:Str->Option NameKind}{v:Value}:∀{P:List Str} {vs:List Value} {i:Nat} {m:Str->Option Value},P.Nodup->P[i]?=some x->vs[i]?=some v->kindOf x≠some .local->
 bindC kindOf (P.zip vs) m x=some v
 | [],_,_,_,_,h,_,_=>by simp at h
 | _::_,[],_,_,_,_,h,_=>by simp at h
 | p::P,w::vs,0,m,nd,h1,h2,hk=>by
  simp at h1 h2;subst h1;subst h2;show bindC kindOf ((p,w)::P.zip vs) m p=_;unfold bindC;rw[Wc fun v hv=>(jo1.mp nd).1 (List.of_mem_zip hv).1,xp hk];simp
 | p::P,w::vs,i+1,m,nd,h1,h2,hk=>by
  show bindC kindOf ((p,w)::P.zip vs) m x=_;unfold bindC;exact We (i:=i) (jo1.mp nd).2 (by simpa using h1) (by simpa using h2) hk
noncomputable def start(N:List Str)(vs:List V):St:=vs.map some++List.replicate (N.length-vs.length) none
noncomputable def JH(CX:CXT)(P:Program)(w:World)(K:Fr)(mg:Str->Option Value)(base:Heap)(N:List Str)(qual:Str)(scope:Scope)(f:Addr)(cd:Value)(A:Around)(outer:List Env)(s:Shared)(H:Hp)(E:XK):Cx where
 prog:=P
 w:=w
 K:=K
 mg:=mg
 base:=base
 A:=A.deeper (envOfC qual scope s.heap.objs.size f cd)
 N:=N
 s₀:=s
 H₀:=H
 env:=envOfC qual scope s.heap.objs.size f cd
 outer:=outer
 stack:=envOfC qual scope s.heap.objs.size f cd::outer
 ex:=[]
 calm:=true
 fn:=fun _=>true
 pn:=[]
 xe:=fun e s'=>wpAny (model P w) (A.deeper (envOfC qual scope s.heap.objs.size f cd)) («leaving» (envOfC qual scope s.heap.objs.size f cd) e) (fun _ s''=>CX outer H s E e s'') (fun e' s''=>CX outer H s E e' s'') s'
theorem Z5{sc:Scope}{n:Nat}(h:sc.names.lookup x=some .cell):∃c,(cellsFrom n sc.names []).lookup x=some c:=by
 have q:=PySem.W.cellsFrom_some sc.names n [] (.inl h);exact jf1.mp q
theorem jq{CX:CXT}{P:Program}{w:World}{mg:Str->Option Value}{base:Heap}{N ps:List Str}{qual:Str}{scope:Scope}{f:Addr}{cd:Value}{outer:List Env}{s s1:Shared}{E:XK}{vs:List V}
 (S:Cm N ps scope)(hd:A.handled=none)(e0:dh P w K mg base A outer s H)(hl:vs.length=ps.length)(r:Vals vs us)
 (x:InCallC s s.heap.objs.size (bindL (envOfC qual scope s.heap.objs.size f cd).kindOf (ps.zip us) fun _=>none) (cellsFrom (s.heap.objs.size+1) scope.names []) (bindC (envOfC qual scope s.heap.objs.size f cd).kindOf (ps.zip us) fun _=>none) s1):
 Inv (JH CX P w K mg base N qual scope f cd A outer s H E) [] (start N vs) H s1:=by
 have hpl:ps.length<=N.length:=by have:=yi List.length S.pre;rw[jj0] at this;lia
 obtain⟨h1,tk,rfl,hk⟩:=x.done;have noA:∀b:Addr,b∉(JH CX P w K mg base N qual scope f cd A outer s H E).ex:=fun b z=>absurd (show b∈([]:List Addr) from z) (by simp);refine⟨⟨e0.mod,S.kind,rfl,rfl,qg _,fun y z c h1 h2=>?_,fun y hy=>?_,fun y c _ h=>?_,fun _=>hd,Around.frames_deeper e0.frames,.inr ⟨rfl,rfl⟩,fun b z=>absurd z (noA b),e0.bs,e0.bsz,fun b _ _=>noA b,fun b z=>absurd z (noA b),e0.funs,e0.frf⟩,
  rfl,e0.bare,Un.kept hk,⟨_,x.toInCall.ns,fun i y v h1 h2 h3=>?_⟩,fun y c h=>⟨_,x.cell y c h⟩,e0.hok.fresh (qg _),fun y c h=>?_,fun p hp=>absurd (show p∈([]:List (Addr×Obj)) from hp) (by simp),e0.hok.kept hk,?_⟩
 ·exact name_of_addr x.apart (jg4 h1) (jg4 h2)
 ·have hy:scope.names.lookup y=some .cell\/scope.names.lookup y=some .free:=hy;rcases hy with hy | hy
  ·exact Z5 hy
  ·exact absurd rfl (S.nofree _ (jg4 hy))
 ·exact Nat.le_of_lt (x.above y c (jg4 h))
 ·have hi:i<vs.length:=by
   unfold start at h2;by_cases hi:i<vs.length
   ·exact hi
   ·rw[jc0 (by simpa using hi)] at h2;rw[List.getElem?_replicate] at h2;split at h2<;>cases h2
  have ha:vs[i]?=some v:=by
   unfold start at h2;rw[je5 (by simpa using hi),xa] at h2;cases e:vs[i]? with
   | none=>rw[e] at h2;cases h2
   | some a=>rw[e] at h2;cases h2;rfl
  obtain⟨u,hu,rv⟩:=r.get ha;have hp:ps[i]?=some y:=by
   rw[<-S.pre,List.getElem?_take_of_lt ⋯];exact h1
  have ndP:ps.Nodup:=by rw[<-S.pre];exact S.nd.sublist (List.take_sublist _ _)
  refine⟨u,rv,?_⟩;rcases S.par y (xi hp) with k | k
  ·exact .inl ⟨k,Wb ndP hp hu k⟩
  ·obtain⟨c,e⟩:=Z5 (n:=s.heap.objs.size+1) k;refine .inr ⟨.inl k,c,e,?_⟩;have q:=x.cell y c e;rw[We ndP hp hu (by show scope.names.lookup y≠_;rw[k];decide)] at q;exact q
 ·exact e0.hok.fresh (Nat.le_of_lt (x.above y c (jg4 h)))
 ·unfold start;show _=N.length;rw[qq,js,Zs];lia
theorem gb{CX:CXT}{P:Program}{w:World}{mg:Str->Option Value}{base:Heap}{k:Nat}{f:Addr}{name qual:Str}{params:Arguments}{body:List Stmt}{scope:Scope}{dV kV doc pm cdv ct oc:Value}{an od:Option Addr}
 {osl:Array (Option Value)}{N ps:List Str}{sp:Sp}(lk:K.lookup f=some ⟨oc,od,.func (PySem.W.fnOf name qual params body scope dV kV doc pm an cdv ct),osl⟩)(hcd:PySem.W.codeIn K cdv qual=true)(S:Cm N ps scope)
 (len:∀vs H Q E,sp vs H Q E->vs.length=ps.length)
 (hbody:∀(A:Around) (outer:List Env) (s:Shared) (H:Hp) (vs:List V) (Q:VK) (E:XK),DW k (A.deeper (envOfC qual scope s.heap.objs.size f cdv))->sp vs H Q E->
  ∃t,PSs (JH CX P w K mg base N qual scope f cdv A outer s H E) body t/\t { nx:=fun _ H'=>Q .non H',rt:=Q } (start N vs) H):
 Ds P w K mg base CX (k+1) f (PySem.W.fnOf name qual params body scope dV kV doc pm an cdv ct) ps sp:=by
 refine⟨len,fun A outer s H args us vs Q E hr e0 hb r hsp=>?_⟩;have hl:=len _ _ _ _ hsp;have KX:K.In s.heap:=e0.mod.kin.keeps fun b o e=>(e0.bs b o e).1;have lim:s.heap.NoLimit:=e0.mod.nolimit.keeps fun b o e=>(e0.bs b o e).1;have hkind:∀y∈ps.zip us,scope.names.lookup y.1=some .local\/(scope.names.lookup y.1=some .cell/\((cellsFrom (s.heap.objs.size+1) scope.names []).lookup y.1).isSome=true):=fun⟨n,v⟩ hy=>by
  rcases S.par n (List.of_mem_zip hy).1 with q | q
  ·exact .inl q
  ·exact .inr ⟨q,PySem.W.cellsFrom_some _ _ _ (.inl q)⟩
 refine codeAny_call_function hr.depth (KX _ _ lk) rfl S.co S.gen rfl (PySem.W.codeRec_of KX hcd) (hb _ _ _ _ ?_);refine wpAny_newFunctionEnv_cells S.kind hkind fun env he s1 x=>?_;subst he;refine⟨lim.keeps x.toInCall.keep,codeAny_func ?_⟩;obtain⟨t,ht,hq⟩:=hbody A outer s H vs Q E (hr.deeper _) hsp;have I:Inv (JH CX P w K mg base N qual scope f cdv A outer s H E) [] (start N vs) H s1:=jq S hr.hd e0 hl r x;refine Qb (ht s1 (start N vs) H _ I hq) (fun fl s' hs=>?_) fun e s' hs=>hs;have fin:∀{Z':St} {H':Hp} {v:V} {u:Value},Inv (JH CX P w K mg base N qual scope f cdv A outer s H E) [] Z' H' s'->RelV v u->Q v H'->CE outer P w H s Q u s':=
  fun{Z' H' v u} J rv q=>⟨v,H',J.os,J.bare,J.base,J.hok,rv,q⟩
 cases fl with
 | ret u=>
  obtain⟨v,Z',H',J,rv,q⟩:=hs;exact fin J rv q
 | next=>
  obtain⟨Z',H',J,q⟩:=hs;exact fin (v:=V.non) (u:=Value.none) J rfl q
 | brk=>
  obtain⟨_,_,_,q⟩:=hs;exact False.elim q
 | cont=>
  obtain⟨_,_,_,q⟩:=hs;exact False.elim q
section
variable{X:Cx}{x:Str}{p pos:Pos}{e:Expr}{es:List Expr}{t:TA}{id T:String}{r:List V->Hp->VK->Prop}
def tCB(r:List V->Hp->VK->Prop)(t:TA):TE:=fun Z H Q=>t Z H fun vs H1=>r vs H1 Q
theorem Bh(hc:Ir X (.builtin id) r)(hg:Gl X x)(hm:X.mg x=none)(hv:bootBuiltins x=some (.builtin id))(ha:PA X (e::es) t)(hn:x≠"__name__":=by decide)(hdb:(x==("__debug__":Str))=false:=by decide)
 (he:‹starEach (e::es) X.env=(false,eval e X.env)::starEach es X.env›)(hpl:‹(backTo pos (starEach es X.env)).any (·.1)=false›):PE X (.Call (.Name x p) (e::es) [] pos) (tCB r t):=by
 intro pins s Z H Q I h;refine ja6 (Kl I hg hm hv ?_ hn hdb);exact PyProof.Rows.callWith_builtin1 (thn (ha (pos:=pos) pins s Z H _ I h) fun us s1 ⟨vs,H1,I1,r1,q1⟩=>hc pins s1 Z H1 vs us Q I1 r1 q1) he hpl
theorem Bm(hc:Ir X (.type T) r)(hg:Gl X x)(hm:X.mg x=none)(hv:bootBuiltins x=some (.type T))(ha:PA X (e::es) t)(hn:x≠"__name__":=by decide)(hdb:(x==("__debug__":Str))=false:=by decide)
 (he:‹starEach (e::es) X.env=(false,eval e X.env)::starEach es X.env›)(hpl:‹(backTo pos (starEach es X.env)).any (·.1)=false›):PE X (.Call (.Name x p) (e::es) [] pos) (tCB r t):=by
 intro pins s Z H Q I h;refine ja6 (Kl I hg hm hv ?_ hn hdb);exact ja0 (thn (ha (pos:=pos) pins s Z H _ I h) fun us s1 ⟨vs,H1,I1,r1,q1⟩=>hc pins s1 Z H1 vs us Q I1 r1 q1) he hpl
end
end L2
namespace HT
open PySem PyProof.Rows
section
open PySem.SeqAt
open PySem.AutoSeq1 (wpAny_loadPart')
open PySem.MeetsSeq PySem.MeetsSeq2 PySem.MeetsSeq3
end
section
variable{prog:Program}{w:World}{A:Around}{E:Value->Shared->Prop}{s:Shared}
noncomputable def sIx(n d:Nat):Option Int->Nat
 | none=>d
 | some v=>if v<0 then (v+(n:Int)).toNat else min v.toNat n
theorem sIx_none(n d:Nat):sIx n d none=d:=rfl
theorem sIx_nat(n d k:Nat):sIx n d (some (k:Int))=min k n:=by
 show(if (k:Int)<0 then ((k:Int)+(n:Int)).toNat else min (k:Int).toNat n)=min k n;rw[xp ⋯,xc]
theorem zG(n d:Nat)(hd:d<=n)(o:Option Int):sIx n d o<=n:=by
 cases o with
 | none=>exact hd
 | some v=>
  show(if v<0 then (v+(n:Int)).toNat else min v.toNat n)<=n;by_cases hv:v<0
  ·rw[xo hv];lia
  ·rw[xp hv];exact Nat.min_le_right _ _
theorem iH(v:Int)(n d:Nat):(if v<0 then max (v+(n:Int)) 0 else min v (n:Int))=((sIx n d (some v):Nat):Int):=by
 show(if v<0 then max (v+(n:Int)) 0 else min v (n:Int))=(((if v<0 then (v+(n:Int)).toNat else min v.toNat n):Nat):Int);by_cases hv:v<0
 ·simp only[xo hv];lia
 ·simp only[xp hv];lia
theorem dW(lo hi:Option Int)(n:Nat):Builtin.Slice.sliceAdjust lo hi 1 (n:Int)=(((sIx n 0 lo:Nat):Int),((sIx n n hi:Nat):Int)):=by
 have h1:¬((1:Int)<0):=⋯;unfold Builtin.Slice.sliceAdjust;simp only[h1,if_false];refine Prod.ext ?_ ?_
 ·cases lo with
  | none=>rfl
  | some v=>exact iH v n 0
 ·cases hi with
  | none=>rfl
  | some v=>exact iH v n n
theorem cG(i j:Nat):Builtin.Slice.slicePlaces (i:Int) (j:Int) 1=j-i:=by
 unfold Builtin.Slice.slicePlaces;have h1:(1:Int)>0:=⋯;simp only[h1,if_true,Int.ediv_one];split<;>lia
theorem Rz{v:Value}{o:Option Int}{Q:Option Int->Shared->Prop}(p:IsPart v o)(h:Q o s):wpAny (model prog w) A (Builtin.Slice.slicePartIndex v) Q E s:=by
 cases p with
 | none=>exact slicePart_none h
 | int i t=>exact slicePart_int h
theorem Oo{sl:Addr}{vl vu:Value}{lo hi:Option Int}{n:Nat}{Q:Int×Int×Nat->Shared->Prop}(hs:s.heap.IsSliceOf sl vl vu .none)(pl:IsPart vl lo)(pu:IsPart vu hi)
 (h:Q (((sIx n 0 lo:Nat):Int),1,sIx n n hi-sIx n 0 lo) s):wpAny (model prog w) A (Builtin.Slice.sliceApplied (.ref sl) (pure (n:Int))) Q E s:=by
 obtain⟨os,hos,hcs,hds⟩:=id hs;unfold Builtin.Slice.sliceApplied Builtin.Slice.sliceFields;refine jp (jp (Zl hos hds (x:=vl) rfl (jp (Zl hos hds (x:=vu) rfl (jp (Zl hos hds (x:=.none) rfl (ze ?_)))))));refine jp (slicePart_none ?_);show wpAny _ _ (if ((1:Int)==0)=true then _ else _) _ _ s;rw[xp nofun];refine jp (Rz pl (jp (Rz pu (jp (ze ?_)))));show wpAny _ _ (match Builtin.Slice.sliceAdjust lo hi 1 (n:Int) with | (lo,hi)=>pure (lo,(1:Int),Builtin.Slice.slicePlaces lo hi 1)) _ _ s
 rw[dW lo hi n];show wpAny _ _ (pure (((sIx n 0 lo:Nat):Int),(1:Int),Builtin.Slice.slicePlaces ((sIx n 0 lo:Nat):Int) ((sIx n n hi:Nat):Int) 1)) _ _ s;rw[cG];exact ze h
theorem oO(xs:Array Value)(i k:Nat):((List.range k).filterMap fun(m:Nat)=>xs[((i:Int)+(m:Int)*1).toNat]?).toArray=((xs.toList.drop i).take k).toArray:=by
 have e:(fun (m:Nat)=>xs[((i:Int)+(m:Int)*1).toNat]?)=fun m=>xs[i+m]?:=by
  funext m
  have:((i:Int)+(m:Int)*1).toNat=i+m:=⋯;rw[this]
 rw[e];have:=pick_run xs i k;rw[List.filterMap_map] at this;have e2:((fun x=>xs[x]?) ∘ fun x=>i+x)=fun m=>xs[i+m]?:=rfl;rw[e2] at this;rw[this]
theorem getItem_tuple_cut{t sl:Addr}{items:Array Value}{vl vu:Value}{lo hi:Option Int}{Q:Value->Shared->Prop}(ht:IsTup s.heap t items)(hs:s.heap.IsSliceOf sl vl vu .none)(pl:IsPart vl lo)(pu:IsPart vu hi)
 (hw:¬(sIx items.size 0 lo=0/\sIx items.size items.size hi=items.size))
 (h:Q (.ref s.heap.objs.size) { s with heap:=s.heap.push { cls:=.type "tuple",data:=.seq ((items.toList.drop (sIx items.size 0 lo)).take (sIx items.size items.size hi-sIx items.size 0 lo)).toArray } })
 (hsz:items.size<=sizeLine):wpAny (model prog w) A (getItem (.ref t) (.ref sl)) Q E s:=by
 have htake:sizeOk (.seq ((items.toList.drop (sIx items.size 0 lo)).take (sIx items.size items.size hi-sIx items.size 0 lo)).toArray):=by
  show((items.toList.drop (sIx items.size 0 lo)).take (sIx items.size items.size hi-sIx items.size 0 lo)).toArray.size<=sizeLine;rw[zt,jj0,jb8,ka];lia
 have hj:sIx items.size items.size hi<=items.size:=zG _ _ (qg _) hi;obtain⟨os,hos,hcs,hds⟩:=id hs;have hTs:s.TypeIs (.ref sl) "slice":=⟨os,hos,hcs⟩;unfold getItem
 try with_reducible refine jn6 ?_
 first | refine jp (ze ?_) | skip
 refine jp (wpAny_sequenceKey ht.typeIs nofun ?_);refine jp (jd2 (name:=Str.ofString "__getitem__") ht.typeIs jf2
  (jj3 jf2 ht.typeIs entry_tuple_getitem ?_ (args_tuple_getitem _ _)))
 show wpAny _ _ (Builtin.Tuple.tupleItemsOf (.ref t) >>= _) _ _ s;refine jp (tupleItemsOf_ ht ?_);refine jp (wpAny_typeOf hTs ?_);rw[xo nofun];refine jp (Oo hs pl pu ?_);have hno:¬((((sIx items.size 0 lo:Nat):Int)==0&&(1:Int)==1&&(sIx items.size items.size hi-sIx items.size 0 lo)==items.size)=true):=by
  intro q;rw[ku,ku] at q;have q1:((sIx items.size 0 lo:Nat):Int)=0:=eq_of_beq q.1.1;have q2:sIx items.size items.size hi-sIx items.size 0 lo=items.size:=eq_of_beq q.2;exact hw ⟨⋯,⋯⟩
 show wpAny _ _ (if (((sIx items.size 0 lo:Nat):Int)==0&&(1:Int)==1&&(sIx items.size items.size hi-sIx items.size 0 lo)==items.size)=true then _ else _) _ _ s;rw[xp hno,oO]
 first
  | exact jp (m:=Builtin.Tuple.tupleExact _) (jc4 (ze ⟨_,rfl,ze h⟩) htake)
  | exact jp (m:=Builtin.Tuple.tupleExact _) (jc4 (jp (ze (ze ⟨_,rfl,ze h⟩))) htake)
  | exact jp (jp (m:=Builtin.Tuple.tupleExact _) (jc4 (ze (ze ⟨_,rfl,ze h⟩)) htake))
  | exact jp (jp (m:=Builtin.Tuple.tupleExact _) (jc4 (ze ⟨_,rfl,ze h⟩) htake))
end
end HT
namespace L2
open PySem PySem.Spec PyProof.Rows
noncomputable abbrev TO:=St->Hp->(Option Int->Hp->Prop)->Prop
def PO(X:Cx)(e:Option Expr)(t:TO):Prop:=
 ∀ ⦃pins:List (Addr×Obj)⦄ (s:Shared) (Z:St) (H:Hp) (Q:Option Int->Hp->Prop),Inv X pins Z H s->t Z H Q->
  wpAny (model X.prog X.w) X.A (evalPart e X.env) (fun u s'=>∃o H',Inv X pins Z H' s'/\IsPart u o/\Q o H') X.xe s
def dz:TO:=fun _ H Q=>Q none H
def wZ(t:TE):TO:=fun Z H Q=>t Z H fun x H1=>∃i,x=.int i/\Q (some i) H1
theorem intsAre_of{ns:List Int}:∀{us:List Value},Vals (ns.map V.int) us->IntsAre us ns:=by
 induction ns with
 | nil=>intro us r;rw[jm7] at r;cases r;exact .nil
 | cons n ns ih=>
  intro us r;rw[qo] at r;cases r with
  | cons r1 r2=>
   obtain⟨t,e⟩:=r1;subst e;exact .cons n t (ih r2)
section
variable{X:Cx}{e:Expr}{te:TE}{lo hi:Option Expr}{tl th:TO}{pos p2:Pos}
theorem Ef:PO X none dz:=by
 intro pins s Z H Q I h;rw[evalPart_none];exact ze ⟨none,H,I,.none,h⟩
theorem Dm(h:PE X e te):PO X (some e) (wZ te):=by
 intro pins s Z H Q I hw;rw[evalPart_some];refine thn (h s Z H _ I hw) fun u s1 hZ=>?_;obtain⟨x,H1,I1,r1,q1⟩:=hZ;obtain⟨i,rfl,q⟩:=q1;obtain⟨t,rfl⟩:=r1;exact⟨some i,H1,I1,.int i t,q⟩
def SlR(X:Cx)(r:V->Option Int->Option Int->Hp->VK->Prop):Prop:=
 ∀(pins:List (Addr×Obj)) (s:Shared) (Z:St) (H:Hp) (x:V) (v vl vu:Value) (lo hi:Option Int) (sl:Addr) (Q:VK),Inv X pins Z H s->RelV x v->s.heap.IsSliceOf sl vl vu .none->IsPart vl lo->IsPart vu hi->r x lo hi H Q->
  ∃T id,typeLookup (.type T) "__getitem__"=pure (some (.builtin id))/\s.TypeIs v T/\wpAny (model X.prog X.w) X.A (getItem v (.ref sl)) (EP X pins Z Q) X.xe s
def tSl(r:V->Option Int->Option Int->Hp->VK->Prop)(te:TE)(tl th:TO):TE:=fun Z H Q=>te Z H fun x H1=>tl Z H1 fun l H2=>th Z H2 fun u H3=>r x l u H3 Q
theorem Cu{r:V->Option Int->Option Int->Hp->VK->Prop}(hr:SlR X r)(he:PE X e te)(hl:PO X lo tl)(hu:PO X hi th):PE X (.Subscript e (.Slice lo hi none p2) pos) (tSl r te tl th):=by
 intro pins s Z H Q I h;refine Subscript_ (thn (he s Z H _ I h) fun v s1 hZ=>?_);obtain⟨x,H1,I1,r1,q1⟩:=hZ;refine wpAny_Slice (thn (hl s1 Z H1 _ I1 q1) fun vl s2 ⟨l,H2,I2,pl,q2⟩=>thn (hu s2 Z H2 _ I2 q2) fun vu s3 hZ=>?_);obtain⟨u,H3,I3,pu,q3⟩:=hZ;rw[evalPart_none];refine ze ?_;have I4:Inv X pins Z H3 { s3 with heap:=s3.heap.push { cls:=.type "slice",data:=.fields #[vl,vu,.none] } }:=I3.kept (t':=s3.toks) fun b ob q=>jv _ q;obtain⟨T,id,hT,ht,hg⟩:=hr pins { s3 with heap:=s3.heap.push { cls:=.type "slice",data:=.fields #[vl,vu,.none] } } Z H3 x v vl vu l u s3.heap.objs.size Q I4 r1 (Heap.IsSliceOf.new ..) pl pu q3;show wpAny (model X.prog X.w) X.A (subscriptTail e (.Slice lo hi none p2) v (.ref s3.heap.objs.size)) (EP X pins Z Q) X.xe { s3 with heap:=s3.heap.push { cls:=.type "slice",data:=.fields #[vl,vu,.none] } };exact tail_any (ops:=[.ref s3.heap.objs.size,v]) ht hT hg (by with_unfolding_all rfl)
noncomputable def Iv(xs:List V)(lo hi:Option Int):List V:=(xs.drop (HT.sIx xs.length 0 lo)).take (HT.sIx xs.length xs.length hi-HT.sIx xs.length 0 lo)
theorem QM(xs:List V)(lo hi:Option Int):(Iv xs lo hi).length<=xs.length:=by
 unfold Iv;rw[jj0,jb8];lia
def ADT(K:Fr):V->Option Int->Option Int->Hp->VK->Prop:=fun x lo hi H Q=>∃a xs,x=.ref a/\SqT K H a xs/\
 ¬(HT.sIx xs.length 0 lo=0/\HT.sIx xs.length xs.length hi=xs.length)/\∀p,H p=none->Q (.ref p) (upd H p (.tup (Iv xs lo hi)))
theorem yr:SlR X (ADT X.K):=by
 intro pins s Z H x v vl vu lo hi sl Q I rx hs pl pu h;obtain⟨a,xs,rfl,hx,hw,q⟩:=h;cases rx;obtain⟨its,r,ht,hz⟩:=I.tuple hx;have hlen:its.toArray.size=xs.length:=by rw[zt];exact r.length.symm
 refine⟨"tuple",_,jf2.lookup,ht.typeIs,?_⟩;refine HT.getItem_tuple_cut ht hs pl pu (by rw[hlen];exact hw) ?_ (by rw[hlen];exact hz);rw[hlen];refine⟨.ref s.heap.objs.size,_,I.laid (t':=s.toks) (o:=.tup (Iv xs lo hi)) (fun b ob q=>jv _ q) (qg _) ?_,rfl,q _ (I.hok.fresh (qg _))⟩;exact⟨zn (QM xs lo hi) hz,_,(r.drop (HT.sIx xs.length 0 lo)).take (HT.sIx xs.length xs.length hi-HT.sIx xs.length 0 lo),IsTup.new _ _⟩
end
noncomputable def ixN(n:Nat)(i:Int):Option Nat:=if 0<=i then (if i<n then some i.toNat else none) else if -(n:Int)<=i then some (i+n).toNat else none
noncomputable def atI{α:Type}(xs:List α)(i:Int):Option α:=(ixN xs.length i).bind fun j=>xs[j]?
theorem gW{n:Nat}{i:Int}{j:Nat}(h:ixN n i=some j):seqIndex? i n=some j/\j<n/\ -(n:Int)<=i/\i<n:=by
 unfold ixN at h;by_cases h0:0<=i
 ·rw[xo h0] at h;by_cases h1:i<n
  ·rw[xo h1] at h;have e:i.toNat=j:=xz h;exact⟨by rw[seqIndex_of h0 h1,e],⋯,⋯,h1⟩
  ·rw[xp h1] at h;cases h
 ·rw[xp h0] at h;by_cases h1: -(n:Int)<=i
  ·rw[xo h1] at h;have e:(i+n).toNat=j:=xz h;exact⟨by rw[seqIndex_neg ⋯ h1,e],⋯,h1,⋯⟩
  ·rw[xp h1] at h;cases h
theorem YS{α:Type}{xs:List α}{i:Int}{v:α}(h:atI xs i=some v):∃j,seqIndex? i xs.length=some j/\xs[j]?=some v/\j<xs.length/\ -(xs.length:Int)<=i/\i<xs.length:=by
 unfold atI at h;cases e:ixN xs.length i with
 | none=>rw[e] at h;cases h
 | some j=>
  rw[e] at h;obtain⟨h1,h2,h3,h4⟩:=gW e;exact⟨j,h1,h,h2,h3,h4⟩
theorem Dz{α:Type}{xs:List α}{j:Nat}{v:α}(h:xs[j]?=some v):atI xs (j:Int)=some v:=by
 have hj:j<xs.length:=(zd.mp h).1;have e:ixN xs.length (j:Int)=some j:=by
  unfold ixN;rw[xo ⋯,xo ⋯];simp
 unfold atI;rw[e];exact h
def wO(b:Expr):Prop:=∀o i,subscripted b false o i=operate [o,i] (getItem o i)
def IxR(X:Cx)(r:R2):Prop:=
 ∀(value slice:Expr) (pins:List (Addr×Obj)) (s:Shared) (Z:St) (H:Hp) (x y:V) (v u:Value) (Q:VK),Inv X pins Z H s->RelV x v->RelV y u->r x y H Q->
  subscripted slice false v u=operate [v,u] (getItem v u)->wpAny (model X.prog X.w) X.A (subscriptTail value slice v u) (EP X pins Z Q) X.xe s
def MtR(X:Cx)(id:String)(r:V->List V->Hp->VK->Prop):Prop:=
 ∀(pins:List (Addr×Obj)) (s:Shared) (Z:St) (H:Hp) (x:V) (xs:List V) (v:Value) (us:List Value) (Q:VK),Inv X pins Z H s->RelV x v->Vals xs us->r x xs H Q->
  wpAny (model X.prog X.w) X.A (call (.builtin id) (v::us)) (EP X pins Z Q) X.xe s
section
variable{X:Cx}{a b:Expr}{ta tb:TE}{pos:Pos}
theorem Et{r:R2}(hr:IxR X r)(ha:PE X a ta)(hb:PE X b tb)(hs:wO b:=by exact fun _ _=>rfl):PE X (.Subscript a b pos) (tOp r ta tb):=by
 intro pins s Z H Q I h;exact Subscript_ (AAq ha hb I h fun v u s2 x y H2 I2 rx ry q=>hr a b pins s2 Z H2 x y v u Q I2 rx ry q (hs _ _))
def zO(K:Fr):R2:=fun x y H Q=>∃p xs i v,x=.ref p/\y=.int i/\SqL K H p xs/\atI xs i=some v/\Q v H
def uU(K:Fr):R2:=fun x y H Q=>∃p xs i v,x=.ref p/\y=.int i/\SqT K H p xs/\atI xs i=some v/\Q v H
def ADV:R2:=fun x y H Q=>∃z i c,x=.str z/\y=.int i/\z.length<=sizeLine/\atI z.cps.toList i=some c/\Q (.str ⟨#[c]⟩) H
theorem Gx:IxR X (zO X.K):=by
 intro value slice pins s Z H x y v u Q I rx ry h hs;obtain⟨p,xs,i,z,rfl,rfl,hq,he,q⟩:=h;cases rx;obtain⟨t,rfl⟩:=ry;obtain⟨its,r,pl,hz⟩:=I.list hq;obtain⟨j,h1,h2,h3,h4,h5⟩:=YS he;obtain⟨w,ew,rw'⟩:=r.get h2;have hl:=r.length;have hn:=Pa;have fin:EP X pins Z Q w s:=⟨z,H,I,rw',q⟩;by_cases h0:0<=i
 ·have hj:i.toNat=j:=by
   rw[seqIndex_of h0 h5] at h1;exact xz h1
  exact item_listR pl.isList h0 ⋯ (by rw[hj];simpa using ew) fin hs
 ·have hj:(i+(its.toArray.size:Int)).toNat=j:=by
   rw[seqIndex_neg ⋯ h4] at h1;rw[zt,<-hl];exact xz h1
  exact subscriptTail_builtinR (x:=w) pl.isList.typeIs slot_list_getitem.lookup
   (wpAny_getItem_list_neg (Q:=fun r s'=>r=w/\EP X pins Z Q r s') pl.isList ⋯ (by rw[zt]<;>lia) ⋯ (by rw[hj];simpa using ew) ⟨rfl,fin⟩) hs
theorem Km:IxR X (uU X.K):=by
 intro value slice pins s Z H x y v u Q I rx ry h hs;obtain⟨p,xs,i,z,rfl,rfl,hq,he,q⟩:=h;cases rx;obtain⟨t,rfl⟩:=ry;obtain⟨its,r,pl,hz⟩:=I.tuple hq;obtain⟨j,h1,h2,h3,h4,h5⟩:=YS he;obtain⟨w,ew,rw'⟩:=r.get h2;have hl:=r.length;have hn:=Pa;have fin:EP X pins Z Q w s:=⟨z,H,I,rw',q⟩;exact subscriptTail_builtinR (x:=w) pl.typeIs slot_tuple_getitem.lookup
  (getItem_tuple (j:=j) (Q:=fun r s'=>r=w/\EP X pins Z Q r s') pl ⋯ ⋯ (by rw[zt,<-hl];exact h1) (by simpa using ew) ⟨rfl,fin⟩) hs
theorem Xx:IxR X ADV:=by
 intro value slice pins s Z H x y v u Q I rx ry h hs;obtain⟨z,i,c,rfl,rfl,hz,he,q⟩:=h;obtain⟨t,rfl⟩:=rx;obtain⟨t',rfl⟩:=ry;obtain⟨j,h1,h2,h3,h4,h5⟩:=YS he;have hl:z.cps.toList.length=z.length:=by simp[Str.length]
 rw[hl] at h1 h4 h5;have hn:=Pa;exact tail_any (typeIs_str s z t) slot_str_getitem.lookup (getItem_str (c:=c) (by
  have e1:decide (i< -(2^63:Int))=false:=decide_eq_false ⋯;have e2:decide (i>=2^63)=false:=decide_eq_false ⋯;rw[e1,e2,Bool.or_false]) (by rw[h1];simpa using h2) ⟨.str ⟨#[c]⟩,H,I.tok _,⟨_,rfl⟩,q⟩) hs
theorem cX(its:List Value)(n j:Nat)(u:Value):Obj.mapSeq (·.setIfInBounds j u) { cls:=.type "list",data:=.seq its.toArray n }={ cls:=.type "list",data:=.seq (its.set j u).toArray n }:=by
 simp[Obj.mapSeq]
theorem Inv.lst{pins:List (Addr×Obj)}{Z:St}{H:Hp}{s:Shared}{p:Addr}{xs:List V}(I:Inv X pins Z H s)(h:H p=some (.lst xs)):
 ∃(its:List Value) (n:Nat),Vals xs its/\s.heap.get? p=some { cls:=.type "list",data:=.seq its.toArray n }/\xs.length<=sizeLine:=by
 obtain⟨z,its,n,r,e⟩:=I.hok p _ h;exact⟨its,n,r,e,z⟩
theorem Inv.lstUpd{pins:List (Addr×Obj)}{Z:St}{H:Hp}{s:Shared}{p:Addr}{xs ys:List V}{its its':List Value}{n n':Nat}{f:Obj->Obj}(I:Inv X pins Z H s)(h:H p=some (.lst xs))
 (ho:s.heap.get? p=some { cls:=.type "list",data:=.seq its.toArray n })(hf:f { cls:=.type "list",data:=.seq its.toArray n }={ cls:=.type "list",data:=.seq its'.toArray n' })(r:Vals ys its')(hz:ys.length<=sizeLine)(t:Nat):
 Inv X pins Z (upd H p (.lst ys)) { s with heap:=s.heap.update p f,toks:=t }:=by
 have e:(s.heap.update p f).get? p=some { cls:=.type "list",data:=.seq its'.toArray n' }:=by
  rw[jb2 f ho (by rw[hf]<;>rfl),hf]
 refine I.write (x:=p) (e:=p) (by rw[h];trivial) (.inl rfl) (fun b u hb q=>(yk _ _ (Ne.symm hb)).trans q) ⟨_,e⟩ ?_;exact⟨hz,its',n',r,e⟩
def xN:V->V->V->Hp->(Hp->Prop)->Prop:=fun o i v H Q=>∃p xs k j,o=.ref p/\i=.int k/\H p=some (.lst xs)/\ixN xs.length k=some j/\Q (upd H p (.lst (xs.set j v)))
theorem set_list:ACu X xN:=by
 intro pins s Z H o i v ov iv u Q I ro ri rv h;obtain⟨p,xs,k,j,rfl,rfl,hp,hj,q⟩:=h;cases ro;obtain⟨t,rfl⟩:=ri;obtain⟨its,n,r,ho,hz⟩:=I.lst hp;obtain⟨h1,h2,h3,h4⟩:=gW hj;have hl:=r.length;have hn:=Pa;have I':Inv X pins Z (upd H p (.lst (xs.set j v))) { s with heap:=s.heap.update p (Obj.mapSeq (·.setIfInBounds j u)) }:=
  I.lstUpd hp ho (cX its n j u) (r.set rv j) (by rw[List.length_set];exact hz) s.toks
 by_cases h0:0<=k
 ·have hk:k.toNat=j:=by
   rw[seqIndex_of h0 h4] at h1;exact xz h1
  exact PySem.W.ki_setAt ho h0 ⋯ (by rw[zt,<-hl];exact h4) (by rw[hk];exact⟨_,I',q⟩)
 ·have hk:(k+(its.toArray.size:Int)).toNat=j:=by
   rw[seqIndex_neg ⋯ h3] at h1;rw[zt,<-hl];exact xz h1
  exact PySem.W.ki_setBack ho ⋯ (by rw[zt,<-hl];exact h3) ⋯ (by rw[hk];exact⟨_,I',q⟩)
theorem W0(lo hi:Option Int)(n:Nat):(sliceBounds lo hi none n).1=((HT.sIx n 0 lo:Nat):Int)/\(sliceBounds lo hi none n).2.1=((HT.sIx n n hi:Nat):Int)/\(sliceBounds lo hi none n).2.2=1:=by
 refine⟨?_,?_,rfl⟩
 ·cases lo with
  | none=>simp[sliceBounds,HT.sIx]
  | some i=>
   simp only[sliceBounds,HT.sIx,Option.getD_none,show(1:Int)>0 by decide,if_true];by_cases h:i<0
   ·simp only[h,if_true]<;>lia
   ·simp only[h,if_false]<;>lia
 ·cases hi with
  | none=>simp[sliceBounds,HT.sIx]
  | some i=>
   simp only[sliceBounds,HT.sIx,Option.getD_none,show(1:Int)>0 by decide,if_true];by_cases h:i<0
   ·simp only[h,if_true]<;>lia
   ·simp only[h,if_false]<;>lia
theorem VD(its:List Value)(lo hi:Option Int):slicePick its.toArray lo hi none=((its.drop (HT.sIx its.length 0 lo)).take (HT.sIx its.length its.length hi-HT.sIx its.length 0 lo)).toArray:=by
 obtain⟨h1,h2,h3⟩:=W0 lo hi its.toArray.size;unfold slicePick;rw[h1,h2,h3];simp only[sliceRange_one,pick_run,zt]<;>rfl
def ABz(K:Fr):V->Option Int->Option Int->Hp->VK->Prop:=fun x lo hi H Q=>∃a xs,x=.ref a/\SqL K H a xs/\∀p,H p=none->Q (.ref p) (upd H p (.lst (Iv xs lo hi)))
theorem Fp:SlR X (ABz X.K):=by
 intro pins s Z H x v vl vu lo hi sl Q I rx hs pl pu h;obtain⟨a,xs,rfl,hx,q⟩:=h;cases rx;obtain⟨its,r,ht,hz⟩:=I.list hx;have hlen:=r.length;refine⟨"list",_,slot_list_getitem.lookup,ht.isList.typeIs,?_⟩;refine wpAny_getItem_list_slice ht.isList hs pl pu .none (by simp) ?_ (by rw[zt]<;>lia);rw[VD,<-hlen];refine⟨.ref s.heap.objs.size,_,I.laid (t':=s.toks) (o:=.lst (Iv xs lo hi)) (fun b ob q=>jv _ q) (qg _) ?_,rfl,q _ (I.hok.fresh (qg _))⟩;exact⟨zn (QM xs lo hi) hz,_,0,(r.drop (HT.sIx xs.length 0 lo)).take (HT.sIx xs.length xs.length hi-HT.sIx xs.length 0 lo),zi _ rfl⟩
noncomputable def QK:V->Bool
 | .non=>true
 | .bl _=>true
 | .int _=>true
 | .str _=>true
 | _=>false
noncomputable def eqV:V->V->Bool
 | .non,.non=>true
 | .bl a,.bl b=>a==b
 | .bl a,.int b=>(if a then 1 else 0)==b
 | .int a,.bl b=>a==(if b then 1 else 0)
 | .int a,.int b=>a==b
 | .str a,.str b=>a==b
 | _,_=>false
theorem AAd{A:Around}{s:Shared}{y x:V}{u v:Value}(ry:RelV y u)(rx:RelV x v)(fy:QK y=true)(fx:QK x=true):SeqAt.EqAt A s u v (eqV y x):=by
 cases y with
 | non=>
  cases ry;cases x with
  | non=>cases rx;exact SeqAt.EqAt.same _
  | bl b=>cases rx;exact SeqAt.EqAt.none_bool b
  | int b=>obtain⟨t,rfl⟩:=rx;exact SeqAt.EqAt.none_int b t
  | str b=>obtain⟨t,rfl⟩:=rx;exact SeqAt.EqAt.none_str b t
  | _=>exact absurd (show false=true from fx) qv
 | bl a=>
  cases ry;cases x with
  | non=>cases rx;exact SeqAt.EqAt.bool_none a
  | bl b=>cases rx;exact SeqAt.EqAt.bool_bool a b
  | int b=>obtain⟨t,rfl⟩:=rx;exact SeqAt.EqAt.bool_int a b t
  | str b=>obtain⟨t,rfl⟩:=rx;exact SeqAt.EqAt.bool_str a b t
  | _=>exact absurd (show false=true from fx) qv
 | int a=>
  obtain⟨t',rfl⟩:=ry;cases x with
  | non=>cases rx;exact SeqAt.EqAt.int_none a t'
  | bl b=>cases rx;exact SeqAt.EqAt.int_bool a t' b
  | int b=>obtain⟨t,rfl⟩:=rx;exact SeqAt.EqAt.int_int a t' b t
  | str b=>obtain⟨t,rfl⟩:=rx;exact SeqAt.EqAt.int_str a t' b t
  | _=>exact absurd (show false=true from fx) qv
 | str a=>
  obtain⟨t',rfl⟩:=ry;cases x with
  | non=>cases rx;exact SeqAt.EqAt.str_none a t'
  | bl b=>cases rx;exact SeqAt.EqAt.str_bool a t' b
  | int b=>obtain⟨t,rfl⟩:=rx;exact SeqAt.EqAt.str_int a t' b t
  | str b=>obtain⟨t,rfl⟩:=rx;exact SeqAt.EqAt.str_str a t' b t
  | _=>exact absurd (show false=true from fx) qv
 | _=>exact absurd (show false=true from fy) qv
noncomputable def eqU(x:V)(u:Value):Bool:=match u with
 | .none=>eqV .non x
 | .bool b=>eqV (.bl b) x
 | .int i _=>eqV (.int i) x
 | .str z _=>eqV (.str z) x
 | _=>false
theorem qJ{x y:V}{u:Value}(r:RelV y u)(f:QK y=true):eqU x u=eqV y x:=by
 cases y with
 | non=>cases r;rfl
 | bl b=>cases r;rfl
 | int i=>obtain⟨t,rfl⟩:=r;rfl
 | str z=>obtain⟨t,rfl⟩:=r;rfl
 | _=>exact absurd (show false=true from f) qv
theorem YT{x:V}:∀{xs:List V} {us:List Value},Vals xs us->xs.all QK=true->us.any (eqU x)=xs.any fun y=>eqV y x
 | _,_,.nil,_=>rfl
 | y::xs,u::us,.cons r t,f=>by
  rw[List.all_cons,ku] at f;rw[jk9,jk9,qJ r f.1,YT t f.2]
theorem Tu{A:Around}{s:Shared}{x:V}{v:Value}(rx:RelV x v)(fx:QK x=true):∀{xs:List V} {us:List Value},Vals xs us->xs.all QK=true->∀u∈us,SeqAt.EqAt A s u v (eqU x u)
 | _,_,.nil,_=>fun u hu=>by cases hu
 | y::xs,u::us,.cons r t,f=>fun u' hu=>by
  rw[List.all_cons,ku] at f;rcases qh.mp hu with rfl | hu
  ·rw[qJ r f.1];exact AAd r rx f.1 fx
  ·exact Tu rx fx t f.2 u' hu
noncomputable def inV(x:V)(xs:List V):Bool:=xs.any fun y=>eqV y x
def rIn(K:Fr)(neg:Bool):R2:=fun x y H Q=>∃p xs,y=.ref p/\(SqL K H p xs\/SqT K H p xs)/\QK x=true/\xs.all QK=true/\Q (.bl (if neg then !inV x xs else inV x xs)) H
theorem Xi:OpR X (compareOp .NotIn) (rIn X.K true):=by
 intro pins s Z H x y v u Q I rx ry h;obtain⟨p,xs,rfl,hq,fx,fs,q⟩:=h;cases ry;rcases hq with hq | hq
 ·obtain⟨its,r,pl,hz⟩:=I.list hq;refine SeqAt.notIn_listAt (eqU x) pl.isList (fun w hw=>Tu rx fx r fs w (by simpa using hw)) ⟨.bl _,H,I,rfl,?_⟩;rw[show its.toArray.any (eqU x)=its.any (eqU x) by simp,YT r fs];exact q
 ·obtain⟨its,r,pl,hz⟩:=I.tuple hq;refine SeqAt.notIn_tupleAt (eqU x) pl (fun w hw=>Tu rx fx r fs w (by simpa using hw)) ⟨.bl _,H,I,rfl,?_⟩;rw[show its.toArray.any (eqU x)=its.any (eqU x) by simp,YT r fs];exact q
theorem Bs:Ir X (.builtin "len") (fun xs H Q=>∃p ys,xs=[.ref p]/\(SqL X.K H p ys\/SqT X.K H p ys)/\Q (.int ys.length) H):=by
 intro pins s Z H xs us Q I r h;obtain⟨p,ys,rfl,hq,q⟩:=h;obtain⟨u,rfl,rx⟩:=vals1 r;cases rx;have hn:=Pa;rcases hq with hq | hq
 ·obtain⟨its,r',pl,hz⟩:=I.list hq;have hlen:=r'.length;exact Calls.call_len_list pl.isList (by simp only[zt]<;>lia) ⟨.int ys.length,H,I.tok _,⟨s.toks+1,by rw[zt,hlen]⟩,q⟩
 ·obtain⟨its,r',pl,hz⟩:=I.tuple hq;have hlen:=r'.length;exact len_tuple pl (by simp only[zt]<;>lia) ⟨.int ys.length,H,I.tok _,⟨s.toks+1,by rw[zt,hlen]⟩,q⟩
theorem Em:Ir X (.builtin "len") (fun xs H Q=>∃z,xs=[.str z]/\z.length<=sizeLine/\Q (.int z.length) H):=by
 intro pins s Z H xs us Q I r h;obtain⟨z,rfl,hz,q⟩:=h;obtain⟨u,rfl,t,rfl⟩:=vals1 r;have hn:=Pa;exact len_str ⋯ ⟨.int z.length,H,I.tok _,⟨_,rfl⟩,q⟩
theorem YD:Ir X (.type "list") (fun xs H Q=>∃p ys,xs=[.ref p]/\(SqL X.K H p ys\/SqT X.K H p ys)/\∀l,H l=none->Q (.ref l) (upd H l (.lst ys))):=by
 intro pins s Z H xs us Q I r h;obtain⟨p,ys,rfl,hq,q⟩:=h;obtain⟨u,rfl,rx⟩:=vals1 r;cases rx;have fin:∀(its:List Value),Vals ys its->ys.length<=sizeLine->∀(h':Heap) (c':Nat),(∀b o',s.heap.get? b=some o'->h'.get? b=some o')->
  h'.get? s.heap.objs.size=some { cls:=.type "list",dict:=none,data:=.seq its.toArray c',slots:= #[] }->EP X pins Z Q (.ref s.heap.objs.size) { s with heap:=h' }:=fun its r' hz h' c' kp e=>
  ⟨.ref s.heap.objs.size,_,I.laid (t':=s.toks) kp (qg _) (show Eh X.prog X.w _ h' _ (.lst ys) from ⟨hz,its,c',r',e⟩),rfl,q _ (I.hok.fresh (qg _))⟩
 rcases hq with hq | hq
 ·obtain⟨its,r',pl,hz⟩:=I.list hq;have hlen:=r'.length;obtain⟨o,ho,hc,n,hd⟩:=pl.isList;exact call_list_seq p (.inl rfl) ho hc hd (fun h' c' kp e=>fin its r' hz h' c' kp e) (by simp only[zt]<;>lia)
 ·obtain⟨its,r',pl,hz⟩:=I.tuple hq;have hlen:=r'.length;obtain⟨o,ho,hc,n,hd⟩:=pl;exact call_list_seq p (.inr rfl) ho hc hd (fun h' c' kp e=>fin its r' hz h' c' kp e) (by simp only[zt]<;>lia)
theorem JK:Ir X (.type "tuple") (fun xs H Q=>∃p ys,xs=[.ref p]/\((SqL X.K H p ys/\∀l,H l=none->Q (.ref l) (upd H l (.tup ys)))\/(SqT X.K H p ys/\Q (.ref p) H))):=by
 intro pins s Z H xs us Q I r h;obtain⟨p,ys,rfl,h⟩:=h;obtain⟨u,rfl,rx⟩:=vals1 r;cases rx;rcases h with ⟨hq,q⟩ | ⟨hq,q⟩
 ·obtain⟨its,r',pl,hz⟩:=I.list hq;have hlen:=r'.length;refine call_tuple_list pl.isList (fun h' kp=>?_) (by simp only[zt]<;>lia);have I1:Inv X pins Z H { s with heap:=h' }:=I.kept (t':=s.toks) kp;have I2:Inv X pins Z (upd H h'.objs.size (.tup ys)) { s with heap:=h'.push { cls:=.type "tuple",data:=.seq its.toArray } }:=
   I1.laid (t':=s.toks) (fun b o e=>jv _ e) (qg _) (show Eh X.prog X.w _ _ _ (.tup ys) from ⟨hz,its,r',IsTup.new _ _⟩)
  exact⟨.ref h'.objs.size,_,I2,rfl,q _ (I1.hok.fresh (qg _))⟩
 ·obtain⟨its,r',pl,hz⟩:=I.tuple hq;exact call_tuple_same pl ⟨.ref p,H,I,rfl,q⟩
def tyV(K:Fr)(T:String)(x:V)(H:Hp):Prop:=match x with
 | .str _=>T="str"
 | .int _=>T="int"
 | .ref p=>(T="list"/\∃xs,SqL K H p xs)\/(T="tuple"/\∃o,K.lookup p=some o/\o.cls=.type "tuple"/\o.dict=none)\/
  (T="dict"/\((∃kvs,H p=some (.dK kvs))\/∃kvs,H p=some (.dT kvs)))\/(T="set"/\∃S n,H p=some (.set S n))
 | _=>False
theorem lK{pins:List (Addr×Obj)}{Z:St}{H:Hp}{s:Shared}{T:String}{x:V}{v:Value}(I:Inv X pins Z H s)(r:RelV x v)(ty:tyV X.K T x H):
 s.TypeIs v T/\∀a,v=.ref a->∃ob,s.heap.get? a=some ob/\ob.dict=none:=by
 cases x with
 | str z=>
  obtain⟨t,rfl⟩:=r;cases (show T="str" from ty);exact⟨typeIs_str s z t,fun _ e=>nomatch e⟩
 | int i=>
  obtain⟨t,rfl⟩:=r;cases (show T="int" from ty);exact⟨typeIs_int s i t,fun _ e=>nomatch e⟩
 | ref p=>
  cases r;rcases ty with ⟨rfl,xs,hq⟩ | ⟨rfl,o,hk,hc,hd⟩ | ⟨rfl,hk⟩ | ⟨rfl,S,n,hk⟩
  ·obtain⟨its,_,pl,_⟩:=I.list hq;refine⟨pl.isList.typeIs,fun a e=>?_⟩;cases e;obtain⟨o,n,e,c,hd,_⟩:=pl;exact⟨o,e,hd⟩
  ·refine⟨⟨o,I.kIn p o hk,hc⟩,fun a e=>?_⟩;cases e;exact⟨o,I.kIn _ o hk,hd⟩
  ·have z:∃o,s.heap.get? p=some o/\o.ExactDict:=by
    rcases hk with ⟨kvs,hk⟩ | ⟨kvs,hk⟩
    ·obtain⟨_,_,_,_,o,_,_,e,ex,_⟩:=I.hok p _ hk;exact⟨o,e,ex⟩
    ·obtain⟨_,_,_,_,o,_,_,e,ex,_⟩:=I.hok p _ hk;exact⟨o,e,ex⟩
   obtain⟨o,e,ex⟩:=z;refine⟨⟨o,e,ex.1⟩,fun a e2=>?_⟩;cases e2;exact⟨o,e,ex.2.1⟩
  ·obtain⟨o,_,_,_,e,ex,_⟩:=I.hok p _ hk;refine⟨⟨o,e,ex.1⟩,fun a e2=>?_⟩;cases e2;exact⟨o,e,ex.2.1⟩
 | _=>exact False.elim ty
def ABg(K:Fr)(T:String)(r:V->List V->Hp->VK->Prop)(to:TE):TE:=fun Z H Q=>to Z H fun x H1=>tyV K T x H1/\r x [] H1 Q
def tBM(K:Fr)(T:String)(r:V->List V->Hp->VK->Prop)(to:TE)(t:TA):TE:=fun Z H Q=>to Z H fun x H1=>tyV K T x H1/\t Z H1 fun xs H2=>r x xs H2 Q
variable{o e:Expr}{es:List Expr}{to:TE}{t:TA}{name:Str}{apos cpos:Pos}{T id:String}{r:V->List V->Hp->VK->Prop}
theorem cM(pa:PlainAttrs T)(slot:Slot T name id)(hty:typeOf (.builtin id)=pure (.type "method_descriptor"))(hm:MtR X id r)(ho:PE X o to)
 (hbase:‹attributeBase o name X.env (eval o X.env)=eval o X.env›)(hline:‹(apos.endLine==cpos.line)=true›):PE X (.Call (.Attribute o name apos) [] [] cpos) (ABg X.K T r to):=by
 intro pins s Z H Q I h;refine wpAny_Call_method0_late hbase hline (thn (ho s Z H _ I h) fun v s1 hZ=>?_);obtain⟨x,H1,I1,r1,ty,q1⟩:=hZ;obtain⟨h1,h2⟩:=lK I1 r1 ty;exact⟨T,id,pa,slot,hty,h1,h2,Calls.callWith_builtin rfl (PySem.evalArgs_none (hm pins s1 Z H1 x [] v [] Q I1 r1 .nil q1))⟩
theorem GP(pa:PlainAttrs T)(slot:Slot T name id)(hty:typeOf (.builtin id)=pure (.type "method_descriptor"))(hm:MtR X id r)(ho:PE X o to)(ha:PA X (e::es) t)
 (hbase:‹attributeBase o name X.env (eval o X.env)=eval o X.env›)
 (hfew:‹((backTo cpos (starEach (e::es) X.env)).all (fun x=>!x.1)&&(backToKw cpos (keywordEach [] X.env)).all (fun x=>x.1.isSome)
  &&decide ((e::es).length+([]:List Keyword).length+(if ([]:List Keyword).isEmpty then 0 else 1)<30))=true›)
 (hline:‹(apos.endLine==cpos.line)=true›)(hs:‹starEach (e::es) X.env=(false,eval e X.env)::starEach es X.env›)(hplain:‹(backTo cpos (starEach es X.env)).any (·.1)=false›):
 PE X (.Call (.Attribute o name apos) (e::es) [] cpos) (tBM X.K T r to t):=by
 intro pins s Z H Q I h;refine wpAny_Call_method_late hbase hfew hline rfl (thn (ho s Z H _ I h) fun v s1 hZ=>?_);obtain⟨x,H1,I1,r1,ty,q1⟩:=hZ;obtain⟨h1,h2⟩:=lK I1 r1 ty;refine⟨T,id,pa,slot,hty,h1,h2,?_⟩;have hA:=ha (pos:=cpos) pins s1 Z H1 _ I1 q1;rw[hs] at hA ⊢;refine Calls.callWith_builtin (by show(false||(backTo cpos (starEach es X.env)).any (·.1))=false;rw[hplain]<;>rfl) (Calls.evalArgs_plain ?_);exact thn hA fun us s2 ⟨vs,H2,I2,r2,q2⟩=>hm pins s2 Z H2 x vs v us Q I2 r1 r2 q2
end
def MtM(X:Cx)(id:String)(r:V->List V->Hp->VK->Prop):Prop:=
 ∀(pins:List (Addr×Obj)) (s:Shared) (Z:St) (H:Hp) (x:V) (xs:List V) (v:Value) (us:List Value) (Q:VK),Inv X pins Z H s->RelV x v->Vals xs us->r x xs H Q->
  wpAny (model X.prog X.w) X.A (call (.builtin id) (v::us)) (EP X pins Z Q) X.xe s
theorem Vals.one{x:V}{us:List Value}(h:Vals [x] us):∃u,us=[u]/\RelV x u:=by cases h with | cons r h=>cases h;exact⟨_,rfl,r⟩
theorem Vals.zero:∀{us:List Value},Vals [] us->us=[]
 | _,.nil=>rfl
theorem Vals.rep{xs:List V}{us:List Value}(h:Vals xs us):∀k:Nat,Vals (List.replicate k xs).flatten (List.replicate k us).flatten
 | 0=>.nil
 | k+1=>by
  rw[Xs,Xs,jb3,jb3];exact Vals.append h (Vals.rep h k)
theorem foldl_rep(its:List Value):∀(k:Nat) (acc:List Value),
 List.foldl (fun x1 x2=>x1++x2) acc.toArray (List.replicate k its.toArray)=(acc++(List.replicate k its).flatten).toArray
 | 0,acc=>by simp
 | k+1,acc=>by
  have e:acc.toArray++its.toArray=(acc++its).toArray:=by simp
  have e2:(acc++its)++(List.replicate k its).flatten=acc++(List.replicate (k+1) its).flatten:=by
   rw[Xs,jb3,ki]
  rw[<-e2,<-foldl_rep its k (acc++its),<-e,Xs,List.foldl_cons]
section
variable{X:Cx}{pins:List (Addr×Obj)}{Z:St}{H:Hp}{s:Shared}{l b:Addr}{xs ys zs:List V}
theorem Inv.lset{its its':List Value}{n:Nat}{f:Array Value->Array Value}{t':Nat}(I:Inv X pins Z H s)(hH:H l=some (.lst xs))
 (e:s.heap.get? l=some { cls:=.type "list",data:=.seq its.toArray n })(hf:f its.toArray=its'.toArray)(hv:Vals ys its')(hz:ys.length<=sizeLine):
 Inv X pins Z (upd H l (.lst ys)) { s with heap:=s.heap.update l (Obj.mapSeq f),toks:=t' }:=by
 have q:=PySem.IsL.update e f;rw[hf] at q;refine I.write (x:=l) (e:=l) (by rw[hH];exact trivial) (.inl rfl) (fun b' u hb hu=>(yk s.heap (Obj.mapSeq f) (Ne.symm hb)).trans hu) ⟨_,q⟩ ?_;exact⟨hz,its',_,hv,q⟩
theorem Inv.lnew{its:List Value}{t':Nat}(I:Inv X pins Z H s)(hv:Vals ys its)(hz:ys.length<=sizeLine):
 Inv X pins Z (upd H s.heap.objs.size (.lst ys)) { s with heap:=s.heap.push { cls:=.type "list",data:=.seq its.toArray },toks:=t' }:=
 I.laid (fun _ _ q=>jv _ q) (qg _) ⟨hz,its,0,hv,zi _ rfl⟩
theorem Inv.fresh(I:Inv X pins Z H s):H s.heap.objs.size=none:=I.hok.fresh (qg _)
theorem Inv.lstM(I:Inv X pins Z H s)(hH:H l=some (.lst xs)):xs.length<=sizeLine/\∃(its:List Value) (n:Nat),Vals xs its/\xs.length=its.length/\s.heap.get? l=some { cls:=.type "list",data:=.seq its.toArray n }:=by
 obtain⟨z,its,n,r,e⟩:=I.hok l _ hH;exact⟨z,its,n,r,r.length,e⟩
theorem Zo{n:Nat}(h:n<=sizeLine):Builtin.List.listTooLong n=false:=by
 unfold Builtin.List.listTooLong;exact decide_eq_false ⋯
end
section
variable{X:Cx}
def Rg:V->List V->Hp->VK->Prop:=fun x vs H Q=>∃l xs y,x=.ref l/\vs=[y]/\H l=some (.lst xs)/\xs.length<sizeLine/\Q .non (upd H l (.lst (xs++[y])))
theorem JS:MtM X "list.append" Rg:=by
 intro pins s Z H x vs v us Q I rx rv h;obtain⟨l,xs,y,rfl,rfl,hH,hz,q⟩:=h;cases rx;obtain⟨u,rfl,ru⟩:=rv.one;obtain⟨z,its,n,r,hl,e⟩:=I.lstM hH;refine call_meets F.slot_list_append ⟨_,e,rfl⟩ F.entry_list_append (F.args_list_append_2 _ _) (PySem.list_append l its.toArray n u (by rw[zt];lia)) ⟨e,?_⟩;refine⟨.non,_,I.lset (its':=its++[u]) hH e (by simp) (r.append (.cons ru .nil)) ?_,rfl,q⟩;rw[qq,List.length_singleton];lia
def Rf:V->List V->Hp->VK->Prop:=fun x vs H Q=>∃l b xs zs,x=.ref l/\vs=[.ref b]/\H l=some (.lst xs)/\H b=some (.lst zs)/\xs.length+zs.length<=sizeLine/\Q .non (upd H l (.lst (xs++zs)))
theorem JR:MtM X "list.extend" Rf:=by
 intro pins s Z H x vs v us Q I rx rv h;obtain⟨l,b,xs,zs,rfl,rfl,hH,hB,hz,q⟩:=h;cases rx;obtain⟨u,rfl,ru⟩:=rv.one;cases ru;obtain⟨z,its,n,r,hl,e⟩:=I.lstM hH;obtain⟨z2,its2,n2,r2,hl2,e2⟩:=I.lstM hB;have hsz:its.toArray.size+its2.toArray.size<=sizeLine:=by rw[zt,zt];lia
 have hlong:¬(!its.toArray.isEmpty&&Builtin.List.listTooLong (its.toArray.size+its2.toArray.size))=true:=by
  rw[Zo hsz,Bool.and_false];exact qv
 refine call_meets F.slot_list_extend ⟨_,e,rfl⟩ F.entry_list_extend (F.args_list_extend_2 _ _)
  (AutoSeq1.list_extend_list_list_0 l its.toArray n b its2.toArray n2 hlong (by rw[zt];lia) ⋯) ⟨e,e2,?_⟩
 refine⟨.non,_,I.lset (its':=its++its2) hH e (by simp) (r.append r2) ?_,rfl,q⟩;rw[qq];lia
def ACL:R2:=fun x y H Q=>∃l b xs zs,x=.ref l/\y=.ref b/\H l=some (.lst xs)/\H b=some (.lst zs)/\xs.length+zs.length<=sizeLine/\∀p,H p=none->Q (.ref p) (upd H p (.lst (xs++zs)))
theorem cQ:OpR X (binaryOp .Add) ACL:=by
 intro pins s Z H x y v u Q I rx ry h;obtain⟨l,b,xs,zs,rfl,rfl,hH,hB,hz,q⟩:=h;cases rx;cases ry;obtain⟨z,its,n,r,hl,e⟩:=I.lstM hH;obtain⟨z2,its2,n2,r2,hl2,e2⟩:=I.lstM hB;refine PySem.P.add_list e e2 ?_ (by rw[zt,zt];lia);have ea:its.toArray++its2.toArray=(its++its2).toArray:=by simp
 rw[ea];exact⟨.ref _,_,I.lnew (t':=s.toks) (r.append r2) (by rw[qq];lia),rfl,q _ I.fresh⟩
def ACG:R2:=fun x y H Q=>∃l k xs,x=.ref l/\y=.int k/\H l=some (.lst xs)/\ -(2^63)<=k/\k<2^63/\xs.length*k.toNat<=sizeLine/\
 ∀p,H p=none->Q (.ref p) (upd H p (.lst (List.replicate k.toNat xs).flatten))
theorem len_rep{α:Type}(xs:List α)(k:Nat):(List.replicate k xs).flatten.length=k*xs.length:=by
 induction k with
 | zero=>simp
 | succ k ih=>rw[Xs,jb3,qq,ih,Nat.succ_mul,Nat.add_comm]
theorem cP:OpR X (binaryOp .Mult) ACG:=by
 intro pins s Z H x y v u Q I rx ry h;obtain⟨l,k,xs,rfl,rfl,hH,h1,h2,hz,q⟩:=h;cases rx;obtain⟨t,rfl⟩:=ry;obtain⟨z,its,n,r,hl,e⟩:=I.lstM hH;have hlen:its.toArray.size*k.toNat<=sizeLine:=by rw[zt,<-hl];exact hz
 have hcap:¬its.toArray.size*k.toNat>(2^63-1)/8:=by
  have:(sizeLine:Nat)<=(2^63-1)/8:=nofun;lia
 have hfit:¬(!Builtin.List.listFitsIndex k)=true:=by
  rw[fitsIndex_both h1 h2];exact qv
 have hlong:¬Builtin.List.listTooLong (its.toArray.size*k.toNat)=true:=by
  rw[Zo hlen];exact qv
 have hnew:List.foldl (fun x1 x2=>x1++x2) #[] (List.replicate (if its.toArray.isEmpty=true then 0 else k.toNat) its.toArray)=(List.replicate k.toNat its).flatten.toArray:=by
  have f0:∀m:Nat,List.foldl (fun x1 x2=>x1++x2) #[] (List.replicate m its.toArray)=(List.replicate m its).flatten.toArray:=fun m=>by
   have:=foldl_rep its m [];rw[ji0] at this;exact this
  rw[f0];cases its with
  | nil=>simp
  | cons a r'=>rw[xp (by simp)]
 refine wpAny_binaryOp_repeat_ref (T:="list") (U:="int") nofun ⟨_,e,rfl⟩ (fun s'=>typeIs_int s' k t) noFill_list_mul F.fills_int_mul F.slot_int_rmul repeat_list F.slot_int_index.lookup
  (call_meets F.slot_int_rmul (typeIs_int s k t) F.entry_int_rmul (F.args_int_rmul_2 _ _) (int___rmul___int_list k t l its.toArray n)
   ⟨e,rfl,⟨_,e,rfl⟩,call_meets F.slot_list_mul ⟨_,e,rfl⟩ F.entry_list_mul (F.args_list_mul_2 _ _) (AutoListH.list___mul___list_int_3 l its.toArray n k t hfit hcap hlong) ⟨e,?_⟩⟩)
 rw[hnew];exact⟨.ref _,_,I.lnew (t':=s.toks) (r.rep k.toNat) (by rw[len_rep,Nat.mul_comm];exact hz),rfl,q _ I.fresh⟩
end
section
variable{prog:Program}{w:World}{A:Around}{E:Value->Shared->Prop}{s:Shared}
end
section
variable{X:Cx}
end
end L2
namespace Att
open PySem PySem.W PySem.Calls PyProof.Rows
theorem Q5{P:Params}{h:Heap}:∀(ns:List Int) (vs:List Value),WellAll P h vs (ns.map WData.int)->IntsAre vs ns:=by
 intro ns
 induction ns with
 | nil=>
  intro vs w;rw[jm7] at w;cases w;exact .nil
 | cons n ns ih=>
  intro vs w;rw[qo] at w;cases w with
  | cons a b=>
   cases a;exact .cons _ _ (ih _ b)
theorem jE{l:OpenLaw}{n:Nat}(hn:l.most=some n){P:Params}{h:Heap}{args:List WData}{vals:List Value}
 (hpre:l.row.toRowW.claim.pre args=true)(hwl:WellAll P h vals args):
 ∃a vs ns,vals=[Value.ref a]/\args=[WData.list (ns.map WData.int)]/\h.get? a=some { cls:=.type "list",data:=.seq vs.toArray }/\IntsAre vs ns/\ns.length<=n:=by
 have hsh:WShape.hasAll [] args [.list .int]=true:=(pre_splitW hpre).1;have hc:l.pre.holds [] { args:=args }=true:=(pre_splitW hpre).2;obtain⟨d,r,rfl,h1,h2⟩:=hasAllW_cons hsh;obtain rfl:=hasAllW_nil h2;obtain⟨xs,rfl,h3⟩:=hasW_list h1;obtain⟨ns,rfl⟩:=items_int h3;have hlen:ns.length<=n:=by
  unfold OpenLaw.pre at hc;have h4:(WTm.not (.lt (.lit (.int (n:Int))) (.len (.arg 0)))).holds [] { args:=[.list (ns.map .int)] }=true:=by
   have h4:=(holds_andW hc).1;rw[hn] at h4;exact h4
  have h5:=condW_of h4 (w_not (w_lt w_lit (w_len_list (w_arg rfl))));rw[js] at h5;refine Nat.le_of_not_lt fun q=>?_;have q':(n:Int)<((ns.length:Nat):Int):=⋯
  first
   | (rw [decide_eq_true q'] at h5;exact absurd h5 nofun)
   | (simp at h5;lia)
 cases hwl with
 | cons w1 w2=>
  cases w2;cases w1 with
  | list ho hall=>exact⟨_,_,ns,rfl,rfl,ho,Q5 ns _ hall,hlen⟩
theorem jQ(l:OpenLaw)(args:List WData):l.row.toRowW.claim.post args (.bool true) args=true:=
 postW_of (r:=l.row.toRowW) (X:=(true==true))
  (show WShape.has [] (.bool true) .bool=true by first | rfl | decide | simp[WShape.has,WShape.arms,WShape.armsAll])
  (show (WTm.eq .res (.lit (.bool true))).value [] { args:=args,res:=some (.bool true),after:=args }=some (.bool (true==true)) from w_eq_bool (w_res rfl) w_lit) rfl
section
variable{prog:Program}{w:World}{A:Around}{E:Value->Shared->Prop}{s:Shared}{K:Frag}
end
end Att
namespace L2
open PySem PySem.Spec PyProof.Rows
theorem Vs:∀{vs:List Value} {ns:List Int},IntsAre vs ns->Vals (ns.map V.int) vs
 | _,_,.nil=>.nil
 | _,_,.cons n t h=>.cons ⟨t,rfl⟩ (Vs h)
def Only(H:Hp):Prop:=∀b,H b=none\/∃o xs,H b=some (.frz o (.lst xs))
theorem pJ{P:Program}{w:World}{K:Fr}{mg mb:Str->Option Value}{CX:CXT}{k:Nat}{fa a:Addr}{fd:FuncData}{x:Str}{sp:Sp}{s₁:Shared}{vs:List Value}{ns:List Int}
 (KX:K.In s₁.heap)(hns:s₁.heap.Ns mainGlobals mg)(hb:s₁.heap.Ns builtinsNs mb)(hbb:∀x:Str,x≠"__name__"->mb x=bootBuiltins x)(hlim:s₁.heap.NoLimit)(hg:s₁.gens= #[])
 (ha:s₁.heap.get? a=some { cls:=.type "list",data:=.seq vs.toArray })(hi:IntsAre vs ns)(hl:ns.length<=sizeLine)(hr:DW k callerA)
 (F:∀base:Heap,K.In base->base.Ns mainGlobals mg->Ds P w K mg base CX k fa fd [x] sp)(hbind:∀(s:Shared) (u:Value),BindsTo s fd ⟨[u],[]⟩ [(x,u)])
 (hsp:∀H:Hp,Only H->SqL K H a (ns.map V.int)->sp [.ref a] H (fun v _=>v=.bl true) fun _ _ _=>False)
 (hCX:∀H e s',CX [] H s₁ (fun _ _ _=>False) e s'->False):
 codeAny (model P w) callerA (.call (.ref fa) ⟨[.ref a],[]⟩) (fun r s'=>r=.ok (.ret (.bool true))/\OldK s₁.heap s'.heap/\s'.os=s₁.os/\AllBare s'.gens) s₁:=by
 have rv:=Vs hi;have lenV:=hi.length;have core:∀H:Hp,Only H->SqL K H a (ns.map V.int)->HOk P w H s₁.heap->(∀b,H b≠none->b=a)->(H a≠none->K.lookup a=none)->
  codeAny (model P w) callerA (.call (.ref fa) ⟨[.ref a],[]⟩) (fun r s'=>r=.ok (.ret (.bool true))/\OldK s₁.heap s'.heap/\s'.os=s₁.os/\AllBare s'.gens) s₁:=by
  intro H hO hS hok hA hK;have ab:∀{b:Addr} {o:Obj},s₁.heap.get? b=some o->H b=none->(Xz s₁.heap H).get? b=some o:=fun e n=>pX e n;have noA:∀{b:Addr} {o:Obj} {es:Array DictEntry} {ep:Nat},s₁.heap.get? b=some o->o.data=.dict es ep->H b=none:=fun{b o es ep} e d=>by
   cases q:H b with
   | none=>rfl
   | some u=>
    have e':b=a:=hA b (by rw[q];simp);subst e';rw[ha] at e;cases e;have d':Data.seq vs.toArray _=Data.dict es ep:=d;cases d'
  have nsK:∀{b:Addr} {m:Str->Option Value},s₁.heap.Ns b m->(Xz s₁.heap H).Ns b m:=fun{b m} ⟨o,es,ep,e,d,r⟩=>⟨o,es,ep,ab e (noA e d),d,r⟩;have hKb:K.In (Xz s₁.heap H):=fun b o e=>ab (KX b o e) (by
   cases q:H b with
   | none=>rfl
   | some u=>
    have e':b=a:=hA b (by rw[q];simp);subst e';rw[hK (by rw[q];simp)] at e;cases e)
  have hM:Mod K mg (Xz s₁.heap H):=⟨hKb,nsK hns,⟨mb,nsK hb,hbb⟩,let ⟨mc,h1,h2⟩:=hlim;⟨mc,nsK h1,h2⟩⟩;have e0:dh P w K mg (Xz s₁.heap H) callerA [] s₁ H:=⟨rfl,hM,fun b o e=>vB e,Nat.le_of_eq (jt _ _),trivial,fun b hb=>absurd (show b∈([]:List Addr) from hb) (by simp),hok,.of_eq hg⟩;refine je3 ((F _ hKb (nsK hns)).run callerA [] s₁ H ⟨[.ref a],[]⟩ [.ref a] [.ref a] _ _ hr e0 (hbind s₁ (.ref a)) (.cons rfl .nil) (hsp H hO hS)) fun r s' h=>?_;cases r with
  | error e=>exact(hCX H e s' h).elim
  | ok fl=>
   cases fl with
   | next=>exact False.elim h
   | brk=>exact False.elim h
   | cont=>exact False.elim h
   | ret u=>
    obtain⟨v,H',os,bare,un,hok',r',q⟩:=h;have q':v=.bl true:=q;subst q';obtain rfl:u=Value.bool true:=r';refine⟨rfl,OldK.of_keep fun b o e=>?_,os,bare⟩;cases q:H b with
    | none=>exact un.keep b o e q (by intro z;exact absurd (show b∈([]:List Addr) from z) (by simp)) (by simp)
    | some u=>
     rcases hO b with z | ⟨ob,xs,z⟩
     ·rw[q] at z;cases z
     ·have z2:=un.frzs b ob _ z;obtain⟨e1,_⟩:=hok b _ z;obtain⟨e2,_⟩:=hok' b _ z2;rw[e] at e1;cases e1;exact e2
 cases hk:K.lookup a with
 | some o=>
  have e:=KX a o hk;rw[ha] at e;cases e;refine core (fun _=>none) (fun _=>.inl rfl) (.inr ⟨_,vs.toArray,_,hk,rfl,rfl,rfl,by rw[zt,lenV];exact hl,by simpa using rv⟩) (fun b u z=>by have z':(none:Option HO)=some u:=z;cases z') (fun b z=>absurd rfl z) fun z=>absurd rfl z
 | none=>
  refine core (fun b=>if b=a then some (.frz { cls:=.type "list",data:=.seq vs.toArray } (.lst (ns.map V.int))) else none) (fun b=>?_) (.inl (.inr ⟨{ cls:=.type "list",data:=.seq vs.toArray },xo rfl⟩)) (fun b u z=>?_) (fun b z=>?_) fun _=>hk
  ·by_cases hb:b=a
   ·exact .inr ⟨_,_,xo hb⟩
   ·exact .inl (xp hb)
  ·by_cases hb:b=a
   ·have z':=(xo hb).symm.trans z;cases z';subst hb;exact⟨ha,by rw[js];exact hl,vs,_,rv,ha⟩
   ·have z':=(xp hb).symm.trans z;cases z'
  ·by_cases hb:b=a
   ·exact hb
   ·exact absurd (xp hb) z
noncomputable def inClass(s:Stmt)(j:Nat):Stmt:=match s with
 | .ClassDef _ _ _ body _ _ _ _ _ _ _=>body.getD j (.Pass ⟨0,0,0,0⟩)
 | _=>.Pass ⟨0,0,0,0⟩
noncomputable def Fd(s:Stmt):Arguments:=match s with
 | .FunctionDef _ a _ _ _ _ _ _ _ _=>a
 | _=>{ posonlyargs:=[],args:=[],vararg:=none,kwonlyargs:=[],kw_defaults:=[],kwarg:=none,defaults:=[] }
noncomputable def Cq(s:Stmt):List Stmt:=match s with
 | .FunctionDef _ _ b _ _ _ _ _ _ _=>b
 | _=>[]
noncomputable def BK(s:Stmt):Scope:=match s with
 | .FunctionDef _ _ _ _ _ _ sc _ _ _=>sc
 | _=>{ kind:=.function,names:=[],isGenerator:=false,isCoroutine:=false }
abbrev CX0:CXT:=fun _ _ _ _ _ _=>False
abbrev E0:XK:=fun _ _ _=>False
theorem Nh{X:Cx}:K7 CX0 X E0:=fun _ _ _ _ _ _ _ h=>h.elim
structure Fun(K:Fr)(x qual:Str)(st:Stmt)(f:Addr)(fd:FuncData):Prop where
 ex:∃(oc:Value) (od:Option Addr) (kV doc pm:Value) (an:Option Addr) (cdv ct:Value) (osl:Array (Option Value)),
  fd=PySem.W.fnOf x qual (Fd st) (Cq st) (BK st) .none kV doc pm an cdv ct/\K.lookup f=some ⟨oc,od,.func fd,osl⟩/\PySem.W.codeIn K cdv qual=true
 kp:PySem.W.keepIn K (.ref f)=true
section
variable{P:Program}{w:World}{K:Fr}{mg:Str->Option Value}{base:Heap}
theorem Fun.ok{x qual:Str}{st:Stmt}{f:Addr}{fd:FuncData}{N ps:List Str}{k:Nat}{sp:Sp}(F:Fun K x qual st f fd)(S:Cm N ps (BK st))(len:∀{vs H Q E},sp vs H Q E->vs.length=ps.length)
 (hbody:∀{cdv:Value} {A:Around} {outer:List Env} {s:Shared} (nd:N.Nodup) (H:Hp) (vs:List V) (Q:VK) (E:XK),DW k (A.deeper (envOfC qual (BK st) s.heap.objs.size f cdv))->sp vs H Q E->
  ∃t,PSs (JH CX0 P w K mg base N qual (BK st) f cdv A outer s H E).nox (Cq st) t/\t { nx:=fun _ H'=>Q .non H',rt:=Q } (start N vs) H):Ds P w K mg base CX0 (k+1) f fd ps sp:=by
 obtain⟨oc,od,kV,doc,pm,an,cdv,ct,osl,rfl,lk,hcd⟩:=F.ex;refine gb lk hcd S (fun _ _ _ _=>len) fun A outer s H vs Q E hr hsp=>?_;obtain⟨t,h,q⟩:=hbody S.nd H vs Q E hr hsp;exact⟨t,h.nox,q⟩
theorem Fun.binds{x qual:Str}{st:Stmt}{f:Addr}{fd:FuncData}{ps:List Str}(F:Fun K x qual st f fd)
 (h:∀(kV doc pm:Value) (an:Option Addr) (cdv ct:Value) (us:List Value),us.length=ps.length->bindArgs (PySem.W.fnOf x qual (Fd st) (Cq st) (BK st) .none kV doc pm an cdv ct) ⟨us,[]⟩=pure (ps.zip us)):Binds K fd ps []:=by
 obtain⟨oc,od,kV,doc,pm,an,cdv,ct,osl,rfl,lk,hcd⟩:=F.ex;exact .all (h kV doc pm an cdv ct)
theorem qC{x qual:Str}{st:Stmt}{f:Addr}{oc:Value}{od an:Option Addr}{osl:Array (Option Value)}{kV doc pm cdv ct:Value}(l:K.lookup f=some ⟨oc,od,.func (PySem.W.fnOf x qual (Fd st) (Cq st) (BK st) .none kV doc pm an cdv ct),osl⟩)
 (c:PySem.W.codeIn K cdv qual=true)(k:PySem.W.keepIn K (.ref f)=true):Fun K x qual st f (PySem.W.fnOf x qual (Fd st) (Cq st) (BK st) .none kV doc pm an cdv ct):=⟨⟨oc,od,kV,doc,pm,an,cdv,ct,osl,rfl,l,c⟩,k⟩
end
theorem gY{A:Around}{k:Nat}(hr:DW k A):A.units+1<cLine:=va (jj7 (by decide:1<=64) _) hr.units
theorem Ei{n:Nat}(h:n<=1000):n<sizeLine:=va h nofun
section
variable{X:Cx}
theorem pv(i:Nat){x:Str}{pos:Pos}(hN:‹X.N[i]?=some x›)(hv:Vis X.env.scope x:=by first | exact Or.inl rfl | exact Or.inr (Or.inl rfl) | exact Or.inr (Or.inr rfl))(hd:(x==("__debug__":Str))=false:=by decide)
 (hcd:(x==("__classdict__":Str))=false:=by decide):PE X (.Name x pos) (Iu i):=oX hN hv hd hcd
end
theorem Dp{A B:Prop}(h:B):if false=true then A else B:=by
 rw[xp qv];exact h
theorem Gb{A B:Prop}(h:A):if true=true then A else B:=by
 rw[xo rfl];exact h
theorem IW{c A B:Prop}[Decidable c](hc:c)(h:B):if (!decide c)=true then A else B:=by
 rw[decide_eq_true hc];exact Dp h
def BP(H H':Hp):Prop:=∀b o,H b=some o->H' b=some o
theorem BP.refl(H:Hp):BP H H:=fun _ _ h=>h
theorem BP.trans{H H1 H2:Hp}(a:BP H H1)(b:BP H1 H2):BP H H2:=fun c o h=>b c o (a c o h)
theorem BP.free{H H':Hp}(e:BP H H'){l:Addr}(h:H' l=Option.none):H l=Option.none:=by
 cases q:H l with
 | none=>rfl
 | some o=>
  rw[e l o q] at h;cases h
theorem BP.seq{K:Fr}{H H':Hp}{a:Addr}{xs:List V}(e:BP H H')(h:SqL K H a xs):SqL K H' a xs:=by
 rcases h with (h | ⟨o,h⟩) | h
 ·exact .inl (.inl (e _ _ h))
 ·exact .inl (.inr ⟨o,e _ _ h⟩)
 ·exact .inr h
end L2
set_option maxHeartbeats 4000000
namespace L2
open PySem PySem.Spec PyProof.Rows
def Bt(k:Nat)(x:Int):Prop:=x.natAbs<2^k
theorem Bt.bits{k:Nat}{x:Int}(h:Bt k x):Builtin.Int.intBits x<=k:=PySem.intBits_le_iff.mpr h
theorem Bt.mono{k m:Nat}{x:Int}(h:Bt k x)(l:k<=m):Bt m x:=zk h (vb nofun l)
theorem Bt.le{k:Nat}{x y:Int}(h:Bt k y)(l:x.natAbs<=y.natAbs):Bt k x:=va l h
theorem Bt.mul{k m:Nat}{x y:Int}(h:Bt k x)(g:Bt m y):Bt (k+m) (x*y):=by
 unfold Bt at*
 rw[jl9,jo3];exact Nat.mul_lt_mul'' h g
theorem Bt.add{k:Nat}{x y:Int}(h:Bt k x)(g:Bt k y):Bt (k+1) (x+y):=by
 unfold Bt at*
 have:=Int.natAbs_add_le x y;rw[Nat.pow_succ];lia
theorem Bt.neg{k:Nat}{x:Int}(h:Bt k x):Bt k (-x):=by unfold Bt at *;lia
def aW(i j:Int):Prop:=∃n m:Nat,Bt n i/\Bt m j/\n+m<=134217728
theorem aW.ok{i j:Int}(h:aW i j):IntMulOk i j:=by
 obtain⟨n,m,h1,h2,h3⟩:=h;have a:=h1.bits;have b:=h2.bits;have hs:((Builtin.Int.intBits i+Builtin.Int.intBits j:Nat):Int)<=2^27:=by
  have e:(2:Int)^27=134217728:=nofun;rw[e];lia
 have hb:Builtin.Int.intTooBig ((Builtin.Int.intBits i+Builtin.Int.intBits j:Nat):Int)=false:=decide_eq_false (Int.not_lt.mpr hs);unfold IntMulOk
 first
  | (rw [show (((Builtin.Int.intBits i:Nat):Int)+((Builtin.Int.intBits j:Nat):Int))=((Builtin.Int.intBits i+Builtin.Int.intBits j:Nat):Int) by lia,hb];simp)
  | (rw [hb];simp)
  | (intro z;simp only[ku] at z;simp_all)
variable{H:Hp}{Q:VK}
section
variable{X:Cx}{a b c:Expr}{ta tb tc:TE}{pos:Pos}
theorem DY:OpR X (binaryOp .Mult) (rI aW fun i j=>.int (i*j)):=opI fun _ _ _ _ _ _ _ hc q=>mul_int q hc.ok
theorem QG{j:Int}(h:Bt 9000 j):j.natAbs.log2<9000:=by
 by_cases h0:j.natAbs=0
 ·rw[h0];ac_rfl
 ·exact(Nat.log2_lt h0).mpr h
def rN(_ j:Int):Prop:=0<j/\Bt 9000 j
def ACz(_ j:Int):Prop:=j≠0/\Bt 9000 j
theorem Cj:OpR X (binaryOp .FloorDiv) (rI rN fun i j=>.int (i/j)):=opI fun i j _ _ _ _ _ hc q=>by
 have h1:(0:Int)<j:=hc.1;exact floordiv_int ⋯ (by rw[Int.fdiv_eq_ediv_of_nonneg i ⋯];exact q) (.inl (PyProof.noPylong_of_log2 (QG hc.2)))
theorem o9:OpR X (binaryOp .FloorDiv) (rI ACz fun i j=>.int (i.fdiv j)):=opI fun i j _ _ _ _ _ hc q=>
 floordiv_int hc.1 q (.inl (PyProof.noPylong_of_log2 (QG hc.2)))
def ADm(i j:Int):Prop:=0<=j/\∃n:Nat,Bt n i/\(n:Int)+j<=134217728
theorem Nj:OpR X (binaryOp .LShift) (rI ADm fun i j=>.int (i*2^j.toNat)):=opI fun i j _ _ _ _ _ hc q=>by
 obtain⟨h0,n,hn,h1⟩:=hc;have:=hn.bits;refine lshift_int h0 ?_ q;have e:(2:Int)^27=134217728:=nofun;rw[e];lia
def zP(K:Fr):List V->Hp->VK->Prop:=fun xs H Q=>∃x c t b,xs=[x,.ty c]/\Oa K H x t/\PySem.W.kitOne K t (.type c)=some b/\Q (.bl b) H
theorem Ug:Ir X (.builtin "isinstance") (zP X.K):=by
 intro pins s Z H xs us Q I r h;obtain⟨x,c,t,b,rfl,ty,e,q⟩:=h;obtain⟨u,w',rfl,r1,r2⟩:=vals2 r;cases (show w'=Value.type c from r2);exact jo I r1 ty e fun tk=>⟨.bl b,H,I.tok tk,rfl,q⟩
structure Cal(P:Program)(w:World)(K:Fr)(mg:Str->Option Value)(base:Heap)(k:Nat)(x:Str)(ps:List Str)(sp:Sp):Prop where
 ex:∃(f:Addr) (fd:FuncData),Ds P w K mg base CX0 k f fd ps sp/\Binds K fd ps []/\PySem.W.keepIn K (.ref f)=true/\mg x=some (.ref f)
theorem Ah{k:Nat}{x:Str}{ps:List Str}{sp:Sp}{e:Expr}{es:List Expr}{t:TA}{p:Pos}(C:Cal X.prog X.w X.K X.mg X.base k x ps sp)(ha:PA X (e::es) t)(hr:DW k X.A:=by walk_at"hr")(hg:Gl X x:=by exact rfl)
 (hdb:(x==("__debug__":Str))=false:=by decide)(he:‹starEach (e::es) X.env=(false,eval e X.env)::starEach es X.env›)(hpl:‹(backTo pos (starEach es X.env)).any (·.1)=false›):
 PE X (.Call (.Name x p) (e::es) [] pos) (Vv sp [] E0 t):=by
 obtain⟨f,fd,F,b,kp,m⟩:=C.ex;exact uf F hr hg m kp b .nil Nh ha hdb he hpl
def ABf(t:TS):TS:=fun D Z H=>∃J:St->Hp->Prop,t { D with nx:=J } Z H/\∀Z' H',J Z' H'->D.nx Z' H'
theorem JG{st:Stmt}{t:TS}(h:PS X st t):PS X st (ABf t):=by
 intro pins s Z H D I hw;obtain⟨J,h1,h2⟩:=hw;refine thn (h s Z H { D with nx:=J } I h1) fun f s1 q=>?_;cases f with
 | next=>
  obtain⟨Z',H',I',q⟩:=q;exact⟨Z',H',I',h2 _ _ q⟩
 | ret v=>exact q
 | brk=>exact q
 | cont=>exact q
theorem G9{t:TS}{D:Ends}{Z:St}(J:St->Hp->Prop)(h1:t { D with nx:=J } Z H)(h2:∀Z' H',J Z' H'->D.nx Z' H'):ABf t D Z H:=⟨J,h1,h2⟩
theorem ABx{g:Int->Int->V}{i j:Int}(h:Q (g i j) H):rI0 g (.int i) (.int j) H Q:=⟨i,j,rfl,rfl,h⟩
theorem Ep{C:Int->Int->Prop}{g:Int->Int->V}{i j:Int}(c:C i j)(h:Q (g i j) H):rI C g (.int i) (.int j) H Q:=⟨i,j,rfl,rfl,c,h⟩
theorem ADR{g:Int->V}{i:Int}(h:Q (g i) H):rU g (.int i) H Q:=⟨i,rfl,h⟩
theorem ABy{x y:V}(s:uD x y=true)(h:Q (.bl (decide (x=y))) H):rEq x y H Q:=⟨s,h⟩
theorem ABw{x y:V}(s:uD x y=true)(h:Q (.bl (!decide (x=y))) H):rNe x y H Q:=⟨s,h⟩
theorem fX{k:Bool}{Q:Bool->Prop}(h:Q k):∃k',V.bl k=.bl k'/\Q k':=⟨k,rfl,h⟩
theorem bh(n:String):RelV (.ty n) (.type n):=rfl
theorem Du(i:Int)(t:Tok):RelV (.int i) (.int i t):=⟨t,rfl⟩
theorem FW{Z:St}{Q:List V->Hp->Prop}(h:Q [] H):Ma Z H Q:=h
theorem uL{K:Fr}{n:Nat}{t:TGs}{a:Addr}{xs:List V}{Z:St}{Q:St->Hp->Prop}(hs:SqT K H a xs)(hl:xs.length=n)(h:t xs Z H Q):vZ K n t (.ref a) Z H Q:=⟨a,xs,rfl,hs,hl,h⟩
theorem nZ{t:TG}{u:TGs}{v:V}{r:List V}{Z:St}{Q:St->Hp->Prop}(h:t v Z H fun Z' H'=>u r Z' H' Q):gZ t u (v::r) Z H Q:=⟨v,r,rfl,h⟩
theorem uN{Z:St}{Q:St->Hp->Prop}(h:Q Z H):AAa [] Z H Q:=⟨rfl,h⟩
theorem BJ{K:Fr}{p:Addr}{xs:List V}{i:Int}{v:V}(hs:SqT K H p xs)(e:atI xs i=some v)(h:Q v H):uU K (.ref p) (.int i) H Q:=⟨p,xs,i,v,rfl,rfl,hs,e,h⟩
theorem Az{K:Fr}{p:Addr}{xs:List V}{i:Int}{v:V}(hs:SqL K H p xs)(e:atI xs i=some v)(h:Q v H):zO K (.ref p) (.int i) H Q:=⟨p,xs,i,v,rfl,rfl,hs,e,h⟩
theorem TQ{K:Fr}{x:V}{c:String}{t:Value}{b:Bool}(ty:Oa K H x t)(e:PySem.W.kitOne K t (.type c)=some b)(h:Q (.bl b) H):zP K [x,.ty c] H Q:=⟨x,c,t,b,rfl,ty,e,h⟩
theorem IK{c A B:Prop}[Decidable c](hc:c)(h:A):if decide c=true then A else B:=by
 rw[decide_eq_true hc];exact Gb h
theorem CK{c A B:Prop}[Decidable c](hc:¬c)(h:B):if decide c=true then A else B:=by
 rw[decide_eq_false hc];exact Dp h
theorem xX{c A B:Prop}[Decidable c](hc:¬c)(h:A):if (!decide c)=true then A else B:=by
 rw[decide_eq_false hc];exact Gb h
theorem Gd{c A B:Prop}[Decidable c](h1:c->A)(h2:¬c->B):if decide c=true then A else B:=by
 by_cases h:c
 ·exact IK h (h1 h)
 ·exact CK h (h2 h)
theorem BP.tup{K:Fr}{H':Hp}{a:Addr}{xs:List V}(e:BP H H')(h:SqT K H a xs):SqT K H' a xs:=by
 rcases h with (h | ⟨o,h⟩) | h
 ·exact .inl (.inl (e _ _ h))
 ·exact .inl (.inr ⟨o,e _ _ h⟩)
 ·exact .inr h
theorem BR{p:Addr}(h:H p=none)(o:HO):BP H (upd H p o):=fun b u q=>by rw[Ax (BX q h)];exact q
theorem Io{i j:Int}(h0:0<j)(h1:j<18446744073709551616):rN i j:=⟨h0,Bt.mono (k:=64) (by unfold Bt;lia) nofun⟩
theorem oK(k:Nat):(0:Int)<1*2^k:=by
 have e:(1:Int)*2^k=((2^k:Nat):Int):=by rw[je8];simp
 rw[e];have:=kq k;lia
theorem Fe(x y:Nat):Builtin.bitAnd (x:Int) (y:Int)=((x &&& y:Nat):Int):=PyProof.Rows.bitAnd_pp (jk8 x) (jk8 y)
theorem Uz(x:Nat):decide ((0:Int)<=Builtin.bitNot (x:Int))=false:=decide_eq_false (by unfold Builtin.bitNot;lia)
theorem HJ(x y:Nat):Builtin.bitOr (x:Int) (y:Int)=((x ||| y:Nat):Int):=by
 have e:∀z:Int,Builtin.bitNot (Builtin.bitNot z)=z:=fun z=>by unfold Builtin.bitNot;lia
 unfold Builtin.bitOr Builtin.bitAnd;rw[Uz,Uz];dsimp only;rw[e,e,e,xc,xc]
theorem dR(x y:Nat):Builtin.bitXor (x:Int) (y:Int)=((x ^^^ y:Nat):Int):=by
 show Builtin.bitOr (x:Int) (y:Int)-Builtin.bitAnd (x:Int) (y:Int)=_;rw[HJ,Fe];have h:x ||| y=(x ^^^ y)+(x &&& y):=by
  have a:(x ^^^ y) &&& (x &&& y)=0:=by
   refine kg fun i=>?_;rw[ja9,Nat.testBit_xor,ja9,jg9];cases x.testBit i<;>cases y.testBit i<;>rfl
  have b:x ||| y=(x ^^^ y) ||| (x &&& y):=by
   refine kg fun i=>?_;rw[jc5,jc5,Nat.testBit_xor,ja9];cases x.testBit i<;>cases y.testBit i<;>rfl
  have c:=PyProof.Rows.bitOr_and ((x ^^^ y:Nat):Int) ((x &&& y:Nat):Int);rw[HJ,Fe,a,<-b] at c;lia
 lia
end
end L2
namespace Att
open PySem PySem.W PySem.Calls PyProof.Rows
theorem Pz:∀{ns:List Int} {n:Int},n∈ns->Builtin.Int.intBits n<=WData.weightAll (ns.map WData.int)
 | m::ns,n,h=>by
  rw[qo];show _<=WData.weight (.int m)+1+WData.weightAll (ns.map WData.int);rcases qh.mp h with rfl | h
  ·have e:WData.weight (.int n)=Builtin.Int.intBits n:=by first | rfl | (unfold Builtin.Int.intBits;rfl) | simp[WData.weight,Builtin.Int.intBits]
   lia
  ·have:=Pz h;lia
theorem aP{ns:List Int}(h:WData.layableAll [WData.list (ns.map WData.int)]=true):∀n∈ns,L2.Bt 1048576 n:=fun n hn=>by
 have h1:WData.layable (WData.list (ns.map WData.int))=true:=(Bool.and_eq_true_iff.mp h).1;have h2:WData.weight (WData.list (ns.map WData.int))<=2^20:=of_decide_eq_true (Bool.and_eq_true_iff.mp h1).2;have h3:=Pz hn;have e:WData.weight (WData.list (ns.map WData.int))=WData.weightAll (ns.map WData.int):=by first | rfl | simp[WData.weight]
 refine PySem.intBits_le_iff.mp ?_;lia
theorem attach_callB{l:OpenLaw}{n:Nat}{q:Program}{loose:List Str}{XP:(Str->Option Value)->Heap->Prop}{YP:World->Heap->Prop}{d:DefRec}
 (hn:l.most=some n)(hdf:d.params.defaults=[])
 (call:∀(w:World) (s₀ s₁:Shared) (mg mb:Str->Option Value) (fa:Addr) (o:Obj) (pm cd doc:Value) (a:Addr) (vs:List Value) (ns:List Int),
  Ground q loose [] XP w s₀ mg mb s₁.heap->YP w s₁.heap->
  s₁.heap.get? fa=some o->o.data=.func (docDef d.name d.params d.body d.scope pm cd doc)->s₁.heap.CodeRec cd d.name->mg d.name=some (.ref fa)->
  s₁.heap.get? a=some { cls:=.type "list",data:=.seq vs.toArray }->IntsAre vs ns->ns.length<=n->(∀n∈ns,L2.Bt 1048576 n)->s₁.gens= #[]->
  codeAny (model l.prog w) callerA (.call (.ref fa) ⟨[.ref a],[]⟩) (fun r s'=>r=.ok (.ret (.bool true))/\OldK s₁.heap s'.heap/\s'.os=s₁.os/\AllBare s'.gens) s₁):
 WalkO q loose XP YP l.row.toRowW d [] (fun f vs=>PySem.call f vs):=by
 intro w s₀ s₁ mg mb G Y fa o pm cd doc dV kV ho hd hcd hD hmg hg args vals as hpre hlay hrd hwl hlo;obtain rfl:dV=.none:=Dflts.none hD hdf;obtain rfl:kV=.none:=Dflts.noKw hD;obtain⟨a,vs,ns,rfl,rfl,hobj,hints,hlen⟩:=jE hn hpre hwl;refine enter_call (je3 (call w s₀ s₁ mg mb fa o pm cd doc a vs ns G Y ho (fd_plain hd) hcd hmg hobj hints hlen (aP hlay) hg) fun r s' hq=>?_);obtain⟨rfl,h2,h3,h4⟩:=hq;exact⟨.inl ⟨.bool true,.bool true,[],rfl,fun _=>rfl,.bool true,jQ l _,fun _=>⟨List.Pairwise.nil,fun _ hm=>(nomatch hm)⟩⟩,h2,h3,h4⟩
end Att
namespace L2
open PySem PySem.Spec PyProof.Rows
def eZ(K:Fr):Sp:=fun vs H Q _=>∃(a:Addr) (ns:List Int),vs=[.ref a]/\SqL K H a (ns.map V.int)/\ns.length<=63/\(∀n∈ns,Bt 1048576 n)/\∀H',Q (.bl true) H'
theorem lH{l:PySem.W.OpenLaw}{k:Nat}{q:Program}{loose:List Str}{XP:(Str->Option Value)->Heap->Prop}{YP:World->Heap->Prop}{d:DefRec}{K:Params->Fr}
 (hn:l.most=some 63)(hdf:d.params.defaults=[])(hr:DW k callerA)
 (hY:∀(w:World) (h:Heap),YP w h->(K w.params).In h)
 (F:∀(w:World) (mg:Str->Option Value) (fa:Addr) (h:Heap),(K w.params).In h->h.Ns mainGlobals mg->mg d.name=some (.ref fa)->
  ∃fd:FuncData,(∀(s:Shared) (u:Value),BindsTo s fd ⟨[u],[]⟩ [("_law_script",u)])/\
   ∀base:Heap,(K w.params).In base->base.Ns mainGlobals mg->Ds l.prog w (K w.params) mg base CX0 k fa fd ["_law_script"] (eZ (K w.params))):
 PySem.W.WalkO q loose XP YP l.row.toRowW d [] (fun f vs=>PySem.call f vs):=by
 refine Att.attach_callB hn hdf fun w s₀ s₁ mg mb fa o pm cd doc a vs ns G Y ho hd hcd hmg hobj hints hlen hbits hg=>?_;have KX:=hY w _ Y;obtain⟨fd,hb,hF⟩:=F w mg fa _ KX G.T.g hmg;exact pJ KX G.T.g G.T.b G.T.builtins G.T.nolimit hg hobj hints (zn hlen nofun) hr hF hb (fun H hO hS=>⟨a,ns,rfl,hS,hlen,hbits,fun _=>rfl⟩) fun H e s'=>fun z=>z
noncomputable def Mp(X:Cx)(M:List Str)(x:Str)(scope:Scope)(cl:List (Str×Addr))(C:Addr)(s₀:Shared)(H₀:Hp)(fp:List Addr):Cx:=
 { X with N:=x::M,s₀:=s₀,H₀:=H₀,env:=compEnvC scope cl C X.env,outer:=X.stack,ex:=fp,fn:=fun _=>false,pn:=[],xe:=fun _ _=>False }
noncomputable def De(X:Cx)(M:List Str)(xs:List Str)(scope:Scope)(cl:List (Str×Addr))(C:Addr)(s₀:Shared)(H₀:Hp)(fp:List Addr):Cx:=
 { X with N:=xs++M,s₀:=s₀,H₀:=H₀,env:=compEnvC scope cl C X.env,outer:=X.stack,ex:=fp,fn:=fun _=>false,pn:=[],xe:=fun _ _=>False }
structure Oe(X:Cx)(M:List Str)(xs:List Str)(scope:Scope)(cl:List (Str×Addr)):Prop where
 clos:closureFor scope X.env=pure cl
 cell:∀y∈scope.names,y.2≠.cell
 kind:scope.kind=.function
 names:∀y∈scope.names,y.2=.local->scope.names.lookup y.1=some .local
 xl:∀x∈xs,scope.names.lookup x=some .local
 nd:(xs++M).Nodup
 len:M.length=X.N.length
 sub:∀y c,cl.lookup y=some c->X.env.cells.lookup y=some c
 has:∀y,((relabel scope X.env).names.lookup y=some .cell\/(relabel scope X.env).names.lookup y=some .free)->∃c,cl.lookup y=some c
 vis:∀(i:Nat) (y:Str),M[i]?=some y->Vis (relabel scope X.env) y->X.N[i]?=some y/\((relabel scope X.env).names.lookup y=some .cell\/(relabel scope X.env).names.lookup y=some .free)/\(X.env.scope.names.lookup y=some .cell\/X.env.scope.names.lookup y=some .free)
abbrev U6(X:Cx)(M:List Str)(x:Str)(scope:Scope)(cl:List (Str×Addr)):Prop:=Oe X M [x] scope cl
def dX(X:Cx)(ifs:List Expr)(t:TT):Prop:=
 ∀(pins:List (Addr×Obj)) (s:Shared) (Z:St) (H:Hp) (Q:Bool->Hp->Prop),Inv X pins Z H s->t Z H Q->
  wpAny (model X.prog X.w) X.A (forIn ifs true fun c r=>if r=true then do let ok <-isTrue c X.env (eval c X.env);pure (ForInStep.yield ok) else pure (ForInStep.yield r)) (TP X pins Z Q) X.xe s
def lU:TT:=fun _ H Q=>Q true H
variable{K:Fr}{Z:St}{H:Hp}{xs:List V}{scope:Scope}{C:Addr}{elt iter:Expr}{pos:Pos}{tt:TT}{te:TE}{x:Str}{wi:TI}{Q:VK}{ta:TA}
section
variable{X:Cx}
theorem Ff:dX X [] lU:=fun pins s Z H Q I h=>by
 rw[ji7];exact ze ⟨H,I,h⟩
theorem Zh{c:Expr}{t:TT}(hc:PT X c t):dX X [c] t:=fun pins s Z H Q I h=>by
 rw[je9];refine jp ?_;rw[xo rfl];refine jp (thn (hc s Z H Q I h) fun b s1 q=>ze ?_);dsimp only;rw[ji7];exact ze q
def Yp(wi:TI)(tt:TT)(te:TE):TE:=fun Z H Q=>wi Z H fun J H1=>∀D,H1 D=none->∃W:Nat->Nat->List V->Hp->Prop,(∃m,W 0 m [] (upd H1 D (.lst [])))/\
 ∀i m ys H2,W i m ys H2->H2 D=some (.lst ys)/\((J.stop i H2/\Q (.ref D) H2)\/(J.go i H2/\ys.length<sizeLine/\∃m',m'<m/\∀x H3,J.yld i H2 x H3->
  tt (some x::Z) H3 fun b H4=>if b=true then te (some x::Z) H4 fun y H5=>H5 D=some (.lst ys)/\W (i+1) m' (ys++[y]) (upd H5 D (.lst (ys++[y]))) else W (i+1) m' ys H4))
def iR(tt:TT)(te:TE)(Z:St)(Q:VK):It->Hp->Prop:=fun J H1=>∀D,H1 D=none->∃W:Nat->Nat->List V->Hp->Prop,(∃m,W 0 m [] (upd H1 D (.lst [])))/\
 ∀i m ys H2,W i m ys H2->H2 D=some (.lst ys)/\((J.stop i H2/\Q (.ref D) H2)\/(J.go i H2/\ys.length<sizeLine/\∃m',m'<m/\∀x H3,J.yld i H2 x H3->
  tt (some x::Z) H3 fun b H4=>if b=true then te (some x::Z) H4 fun y H5=>H5 D=some (.lst ys)/\W (i+1) m' (ys++[y]) (upd H5 D (.lst (ys++[y]))) else W (i+1) m' ys H4))
theorem qW{M:List Str}{pins:List (Addr×Obj)}{s:Shared}{xs:List Str}{cl:List (Str×Addr)}{fp:List Addr}(I:Inv X pins Z H s)(ok:Oe X M xs scope cl)(hC:s.heap.objs.size<=C)
 (hf:∀b∈fp,Oc X pins H b)(hb:∀b∈fp,b<s.heap.objs.size):(De X M xs scope cl C s H fp).Ok where
 mod:=I.ok.mod
 kind:=ok.kind
 glob:=I.ok.glob
 blt:=I.ok.blt
 above:=hC
 inj:=fun y z c h1 h2=>I.ok.inj y z c (ok.sub y c h1) (ok.sub z c h2)
 has:=ok.has
 cab:=fun y c h=>by cases h
 hd:=I.ok.hd
 frames:=I.ok.frames
 stk:=.inl rfl
 exf:=fun b h=>⟨vv (zk (hb b h) hC),fun y c e=>(hf b h).2.2.2.2.1 y c (ok.sub y c e)⟩
 bs:=I.bs
 bsz:=zn I.ok.bsz I.sz
 noex:=fun b o e h=>by
  rcases(hf b h).2.2.2.1 with z | z
  ·exact I.ok.noex b o e z
  ·exact absurd (zk (zo (I.ok.bs b o e).1) z) (jd1 _)
 exfs:=fun b h z=>by
  rcases qh.mp (I.stkSub b z) with e | e
  ·exact(hf b h).2.1 e
  ·exact(hf b h).2.2.1 e
 funs:=I.stack
 frf:=I.stkFree
def Yb(k:Nat)(g:TG)(tt:TT)(te:TE)(Z:St)(Q:VK):It->Hp->Prop:=fun J H1=>∀D,H1 D=none->∃W:Nat->Nat->List V->Hp->Prop,(∃m,W 0 m [] (upd H1 D (.lst [])))/\
 ∀i m ys H2,W i m ys H2->H2 D=some (.lst ys)/\((J.stop i H2/\Q (.ref D) H2)\/(J.go i H2/\ys.length<sizeLine/\∃m',m'<m/\∀x H3,J.yld i H2 x H3->∀ρ:St,ρ.length=k->
  g x (ρ++Z) H3 fun σ2 H4=>∃ρ2:St,ρ2.length=k/\σ2=ρ2++Z/\tt σ2 H4 fun b H5=>if b=true then te σ2 H5 fun y H6=>H6 D=some (.lst ys)/\W (i+1) m' (ys++[y]) (upd H6 D (.lst (ys++[y]))) else W (i+1) m' ys H5))
def mC(k:Nat)(wi:TI)(g:TG)(tt:TT)(te:TE):TE:=fun Z H Q=>wi Z H (Yb k g tt te Z Q)
section
variable{prog:Program}{w:World}{A:Around}{R:Result->Shared->Prop}
abbrev NB(prog:Program)(w:World)(A:Around)(env:Env)(R:Result->Shared->Prop):Value->Shared->Prop:=notedBy (model prog w) A env fun e s'=>R (.error e) s'
theorem dF{s:Shared}{tg:Expr}{ifs:List Expr}{it acc:Value}{env:Env}(I:Nat->Shared->Prop)
 (turn:∀n s,I n s->wpAny (model prog w) A (pyNext it)
  (fun r s1=>match r with
   | none=>R (.ok .next) s1
   | some v=>wpAny (model prog w) A (letOwnedTupleGo tg it v)
    (fun _ s2=>wpAny (model prog w) A (assign tg env v)
     (fun _ s3=>wpAny (model prog w) A (forIn ifs true fun c r=>if r=true then (isTrue c env (eval c env) >>= fun ok=>pure (ForInStep.yield ok)) else pure (ForInStep.yield r))
      (fun b s4=>if b=true then wpAny (model prog w) A (eval elt env)
       (fun x s5=>wpAny (model prog w) A (call (.builtin "list.append") [acc,x]) (fun _ s6=>∃m,m<n/\I m s6) (NB prog w A env R) s5) (NB prog w A env R) s4
       else ∃m,m<n/\I m s4) (NB prog w A env R) s3) (NB prog w A env R) s2) (NB prog w A env R) s1) (NB prog w A env R) s)
 (n:Nat)(h:I n s):codeAny (model prog w) A (.compLoop (.ListComp elt [⟨tg,iter,ifs,0⟩] scope pos) 0 it acc env) R s:=by
 refine codeAny_loop rfl I (fun n s hI=>?_) n h;refine(show wpAny _ A ((compTurn (.ListComp elt [⟨tg,iter,ifs,0⟩] scope pos) 0 it acc env).onRaise _) _ _ s from wpAny_noted ?_);rw[compTurn_list];refine jp (wpAny_standAt (jp (Qb (turn n s hI) (fun r s1 h1=>?_) fun _ _ z=>z)));cases r with
 | none=>exact ze h1
 | some v=>
  refine jp (Qb h1 (fun _ s2 h2=>?_) fun _ _ z=>z);refine jp (Qb h2 (fun _ s3 h3=>jp (Qb h3 (fun b s4 h4=>?_) fun _ _ z=>z)) fun _ _ z=>z);cases b with
  | false=>exact ze ⟨rfl,h4⟩
  | true=>
   refine jp (jp (Qb h4 (fun x s5 h5=>?_) fun _ _ z=>z));exact jp (Qb h5 (fun _ s6 h6=>ze (ze ⟨rfl,h6⟩)) fun _ _ z=>z)
end
theorem Uc{M:List Str}{tg:Expr}{xs:List Str}{ifs:List Expr}{cl:List (Str×Addr)}{g:TG}(hc:X.calm=true)(ok:Oe X M xs scope cl)
 (ht:∀C s₀ H₀ fp,dX (De X M xs scope cl C s₀ H₀ fp) ifs tt)(hg:∀C s₀ H₀ fp,PG (De X M xs scope cl C s₀ H₀ fp) tg g)(he:∀C s₀ H₀ fp,PE (De X M xs scope cl C s₀ H₀ fp) elt te)
 {pins:List (Addr×Obj)}{Z:St}{H2:Hp}{s2:Shared}{it:Addr}{fp:List Addr}{tn:Nat->Heap->Prop}{J:It}{Q:VK}(I2:Inv X pins Z H2 s2)(T:Turn X.prog X.w X.K tg J fp it tn)(st2:tn 0 s2.heap)(f2:∀b∈fp,Oc X pins H2 b)
 (hW:Yb xs.length g tt te Z Q J H2)(post:Value->Addr->Result->Shared->Prop)
 (fin:∀D C H3 s4,Inv X pins Z H3 s4->(∃m,s4.heap.Ns C m)->Oc X pins H3 C->Q (.ref D) H3->post (.ref D) C (.ok .next) s4):
 wpAny (model X.prog X.w) X.A (newList []) (fun acc s₃=>wpAny (model X.prog X.w) X.A (newFunctionEnv scope X.env.globals cl [] X.env.qual none .none (some X.env)) (fun cenv s₄=>
  codeAny (model X.prog X.w) X.A (.compStart (.ListComp elt [⟨tg,iter,ifs,0⟩] scope pos) 0 (.ref it) acc { cenv with scope:=relabel scope X.env }) (post acc cenv.locals) s₄) X.xe s₃) X.xe s2:=by
 refine jc4 (wpAny_newFunctionEnv ok.cell (by intro y hy;simp at hy) (fun h₁ hns₁ hsb₁=>?_) ok.kind);dsimp only at hns₁ hsb₁ ⊢;generalize hH2:s2.heap.push { cls:=.type "list",dict:=none,data:=.seq ([]:List Value).toArray }=G2 at hns₁ hsb₁ ⊢;have hC:G2.objs.size=s2.heap.objs.size+1:=by rw[<-hH2,jh0]
 have hDC:s2.heap.objs.size≠G2.objs.size:=by rw[hC];exact vv (jn4 _)
 have hCle:s2.heap.objs.size<=G2.objs.size:=by rw[hC];exact Nat.le_succ _
 have below:∀b,b<s2.heap.objs.size->b≠G2.objs.size/\b≠s2.heap.objs.size:=fun b hb=>⟨by rw[hC];exact vv (Nat.lt_succ_of_lt hb),vv hb⟩;have old:∀b o,s2.heap.get? b=some o->h₁.get? b=some o:=fun b o e=>hsb₁.extBut b o (below b (zo e)).1 (jv _ (hH2 ▸ jv _ e));have hacc:h₁.get? s2.heap.objs.size=some { cls:=.type "list",data:=.seq ([]:List Value).toArray }:=hsb₁.extBut _ _ hDC (jv _ (hH2 ▸ zi _ rfl));have fpb:∀b∈fp,b<s2.heap.objs.size:=fun b hb=>by
  obtain⟨o,e,_⟩:=T.obj _ _ st2 b hb;exact zo e
 have hD0:H2 s2.heap.objs.size=none:=I2.hok.fresh (qg _);have hC0:H2 G2.objs.size=none:=I2.hok.fresh hCle;generalize hDD:s2.heap.objs.size=D at*
 generalize hCC:G2.objs.size=C at*
 obtain⟨W,⟨m0,w0⟩,turn⟩:=hW D hD0;have okX:(De X M xs scope cl C s2 H2 fp).Ok:=qW I2 ok (by rw[hDD];exact hCle) f2 (by rw[hDD];exact fpb);have lenN:(List.replicate xs.length none++Z:St).length=(De X M xs scope cl C s2 H2 fp).N.length:=by
  show(List.replicate xs.length none++Z).length=(xs++M).length;rw[qq,qq,Zs,I2.len,ok.len]
 have locs:∀(h':Heap) (m:Str->Option Value),(∀y c,X.env.cells.lookup y=some c->∀v,s2.heap.IsCell c v->h'.IsCell c v)->
  ∀(j:Nat) (y:Str) (v:V),(xs++M)[j]?=some y->(List.replicate xs.length none++Z:St)[j]?=some (some v)->Vis (relabel scope X.env) y->∃u,RelV v u/\Look (compEnvC scope cl C X.env) h' m y u:=by
  intro h' m hcell j y v e1 e2 e3;rcases Nat.lt_or_ge j xs.length with jl | jl
  ·rw[je5 (by rw[Zs];exact jl),List.getElem?_replicate,xo jl] at e2;cases e2
  ·obtain⟨i,rfl⟩:∃i,j=xs.length+i:=⟨j-xs.length,⋯⟩;have e0:M[i]?=some y:=by
    rw[jc0 (ja2 _ _),Nat.add_sub_cancel_left] at e1;exact e1
   have e2':Z[i]?=some (some v):=by
    rw[jc0 (by rw[Zs];exact ja2 _ _),Zs,Nat.add_sub_cancel_left] at e2;exact e2
   obtain⟨e1',k1,k2⟩:=ok.vis i y e0 e3;obtain⟨m2,_,hl⟩:=I2.loc;obtain⟨u,r,l⟩:=hl i y v e1' e2' (k2.elim (fun z=>.inr (.inl z)) fun z=>.inr (.inr z));obtain⟨c',hc'⟩:=ok.has y k1;rcases l with ⟨z,_⟩ | ⟨_,c,hcc,z⟩
   ·have z':X.env.scope.names.lookup y=some .local:=z;rcases k2 with q | q<;>(rw [q] at z';cases z')
   ·have q:=ok.sub y c' hc';rw[hcc] at q;cases q;exact⟨u,r,.inr ⟨k1,c',hc',hcell y c' hcc _ z⟩⟩
 have I0:Inv (De X M xs scope cl C s2 H2 fp) [] (List.replicate xs.length none++Z) (upd H2 D (.lst [])) { s2 with heap:=h₁,toks:=s2.toks+([]:List (Str×Value)).length }:=by
  refine⟨okX,rfl,I2.bare,?_,⟨_,hns₁,locs h₁ _ (fun y c e v z=>?_)⟩,fun y c e=>?_,?_,fun y c e=>?_,fun p hp=>?_,?_,lenN⟩
  ·exact Un.laid old (Nat.le_of_eq hDD) hD0
  ·obtain⟨o,ho,hd⟩:=z;exact⟨o,old c o ho,hd⟩
  ·obtain⟨v,o,ho,hd⟩:=I2.cell y c (ok.sub y c e);exact⟨v,o,old c o ho,hd⟩
  ·show upd H2 D (.lst []) C=none;rw[Ax (Ne.symm hDC)];exact hC0
  ·have hn:=I2.freeC y c (ok.sub y c e);obtain⟨v,o,ho,hd⟩:=I2.cell y c (ok.sub y c e);rw[Ax (fun z=>by have:=zo ho;rw[hDD,z] at this;exact jd1 _ this)];exact hn
  ·exact absurd hp (by show p∉([]++[]:List (Addr×Obj));simp)
  ·refine I2.hok.laid old (Nat.le_of_eq hDD) ⟨vj _,[],_,.nil,hacc⟩
 have fpk:∀{H':Hp},(∀b∈fp,H' b=none)->∀b∈fp,Oc (De X M xs scope cl C s2 H2 fp) [] H' b:=fun hn b hb=>by
  refine⟨hn b hb,(below b (fpb b hb)).1,okX.exfs b hb,.inl hb,fun y c e=>(f2 b hb).2.2.2.2.1 y c (ok.sub y c e),fun p hp=>?_⟩;exact absurd hp (by show p∉([]++[]:List (Addr×Obj));simp)
 have loop:∀s₃:Shared,s₃={ s2 with heap:=h₁,toks:=s2.toks+([]:List (Str×Value)).length }->
  codeAny (model X.prog X.w) X.A (.compLoop (.ListComp elt [⟨tg,iter,ifs,0⟩] scope pos) 0 (.ref it) (.ref D) (compEnvC scope cl C X.env))
   (post (.ref D) C) s₃:=by
  rintro s₃ rfl;refine dF (fun n s'=>∃i ys w' H',w'.length=xs.length/\Inv (De X M xs scope cl C s2 H2 fp) [] (w'++Z) H' s'/\tn i s'.heap/\(∀b∈fp,H' b=none)/\W i n ys H') ?_ m0
   ⟨0,[],List.replicate xs.length none,_,Zs,I0,T.keep _ _ _ st2 (fun b _ o e=>old b o e),fun b hb=>by rw[Ax (below b (fpb b hb)).2];exact(f2 b hb).1,w0⟩
  rintro n s3 ⟨i,ys,w3,H3,l3,I3,st3,fr3,wt⟩;obtain⟨hD3,hh⟩:=turn i n ys H3 wt;rcases hh with ⟨stop,q⟩ | ⟨go,hlen,m',hm,step⟩
  ·refine thn (T.done (De X M xs scope cl C s2 H2 fp) rfl rfl rfl hc i [] s3 (w3++Z) H3 _ I3 (fpk fr3) st3 stop) fun r s4 ⟨hr,I4⟩=>?_;subst hr;obtain⟨m4,hn4,_⟩:=id I4.loc;have hC4:H3 C=none:=I4.free;exact fin D C H3 s4 (I2.call' (ch:=fp) I4.os I4.base I4.hok I4.bare fun b hb=>⟨(f2 b hb).2.2.2.1,(f2 b hb).2.1,(f2 b hb).2.2.2.2.1,(f2 b hb).2.2.2.2.2⟩) ⟨m4,hn4⟩ (I2.fpOk (by rw[hDD];exact hCle) hC4) q
  ·refine Qb (T.item (De X M xs scope cl C s2 H2 fp) rfl rfl rfl hc i [] s3 (w3++Z) H3 (fun _ _=>False) I3 (fpk fr3) st3 go) (fun r s4 h4=>?_) (fun _ _ z=>z.elim);obtain⟨u,hr,h4⟩:=h4;subst hr;refine Qb h4 (fun _ s4 h4=>?_) (fun _ _ z=>z.elim);obtain⟨x',H5,I5,r5,y5,st5,fr5⟩:=h4;have I5':=I5.pinned (fpk fr5) (T.obj _ _ st5);refine Qb (hg C s2 H2 fp s4 _ H5 x' u _ I5' r5 (step x' H5 y5 w3 l3)) (fun _ s6 h6=>?_) (fun _ _ z=>z.elim);obtain⟨σ6,H6,I6,w6,l6,rfl,q6⟩:=h6;have back:∀{s7:Shared} {H7:Hp} {w7:St},Inv (De X M xs scope cl C s2 H2 fp) ([]++TY fp s4.heap) (w7++Z) H7 s7->tn (i+1) s7.heap/\(∀b∈fp,H7 b=none)/\Inv (De X M xs scope cl C s2 H2 fp) [] (w7++Z) H7 s7:=fun{s7 H7 w7} I7=>by
    refine⟨T.keep _ _ _ st5 fun b hb o e=>(I7.pin (b,o) (vt _ (vt _ (Jo hb e)))).1,fun b hb=>?_,I7.unpinned⟩;obtain⟨o,e,d⟩:=T.obj _ _ st5 b hb;exact(I7.pin (b,o) (vt _ (vt _ (Jo hb e)))).2.1
   refine Qb (ht C s2 H2 fp _ s6 _ H6 _ I6 q6) (fun ok' s7 h7=>?_) (fun _ _ z=>z.elim);obtain⟨H7,I7,q7⟩:=h7;cases ok' with
   | false=>
    have q7':W (i+1) m' ys H7:=by simpa using q7
    rw[xp qv];obtain⟨b1,b2,b3⟩:=back I7;exact⟨m',hm,i+1,ys,_,H7,l6,b3,b1,b2,q7'⟩
   | true=>
    rw[xo rfl] at q7 ⊢;refine Qb (he C s2 H2 fp s7 _ H7 _ I7 q7) (fun y s8 h8=>?_) (fun _ _ z=>z.elim);obtain⟨v8,H8,I8,r8,hD8,w8⟩:=h8;refine Qb (JS (X:=De X M xs scope cl C s2 H2 fp) _ s8 _ H8 (.ref D) [v8] (.ref D) [y] (fun _ H9=>H9=upd H8 D (.lst (ys++[v8]))) I8 rfl (.cons r8 .nil) ⟨D,ys,v8,rfl,rfl,hD8,hlen,rfl⟩) (fun _ s9 h9=>?_) (fun _ _ z=>z.elim);obtain⟨v9,H9,I9,_,e9⟩:=h9;subst e9;obtain⟨b1,b2,b3⟩:=back I9;exact⟨m',hm,i+1,_,_,_,l6,b3,b1,b2,w8⟩
 exact codeAny_compStart_list (loop _ rfl) (T.self _ 0 _ _ _ (T.keep _ _ _ st2 (fun b _ o e=>old b o e)) (loop _ rfl))
theorem WQ{M:List Str}{px:Pos}{ifs:List Expr}{cl:List (Str×Addr)}(hc:X.calm=true)(ok:U6 X M x scope cl)
 (ht:∀C s₀ H₀ fp,dX (Mp X M x scope cl C s₀ H₀ fp) ifs tt)(he:∀C s₀ H₀ fp,PE (Mp X M x scope cl C s₀ H₀ fp) elt te)
 {pins:List (Addr×Obj)}{Z:St}{H2:Hp}{s2:Shared}{it:Addr}{fp:List Addr}{tn:Nat->Heap->Prop}{J:It}{Q:VK}(I2:Inv X pins Z H2 s2)(T:Turn X.prog X.w X.K (.Name x px) J fp it tn)(st2:tn 0 s2.heap)(f2:∀b∈fp,Oc X pins H2 b)
 (hW:iR tt te Z Q J H2)(post:Value->Addr->Result->Shared->Prop)
 (fin:∀D C H3 s4,Inv X pins Z H3 s4->(∃m,s4.heap.Ns C m)->Oc X pins H3 C->Q (.ref D) H3->post (.ref D) C (.ok .next) s4):
 wpAny (model X.prog X.w) X.A (newList []) (fun acc s₃=>wpAny (model X.prog X.w) X.A (newFunctionEnv scope X.env.globals cl [] X.env.qual none .none (some X.env)) (fun cenv s₄=>
  codeAny (model X.prog X.w) X.A (.compStart (.ListComp elt [⟨.Name x px,iter,ifs,0⟩] scope pos) 0 (.ref it) acc { cenv with scope:=relabel scope X.env }) (post acc cenv.locals) s₄) X.xe s₃) X.xe s2:=
 Uc (g:=Kq 0) hc ok ht (fun C s₀ H₀ fp=>FZ ok.nd rfl (.inl (lookup_relabel_local (ok.xl _ (.head _)))) (.inr (lookup_relabel_local (ok.xl _ (.head _))))) he I2 T st2 f2 (fun D hD=>by
  obtain⟨W,w0,turn⟩:=hW D hD;refine⟨W,w0,fun i m ys H3 wt=>?_⟩;obtain⟨hD3,hh⟩:=turn i m ys H3 wt;refine⟨hD3,hh.imp id fun h=>?_⟩;obtain⟨go,hlen,m',hm,step⟩:=h;refine⟨go,hlen,m',hm,fun x' H5 y5 ρ hρ=>?_⟩
  match ρ,hρ with
  | [a],_=>exact⟨[some x'],rfl,rfl,step x' H5 y5⟩) post fin
theorem Gf{M:List Str}{px:Pos}{ifs:List Expr}{cl:List (Str×Addr)}(hc:X.calm=true)(ok:U6 X M x scope cl)(hi:PI X (.Name x px) iter wi)
 (ht:∀C s₀ H₀ fp,dX (Mp X M x scope cl C s₀ H₀ fp) ifs tt)(he:∀C s₀ H₀ fp,PE (Mp X M x scope cl C s₀ H₀ fp) elt te)
 (hs:∀x,foldedSetIterable iter X.env x=pure x:=by intro _;rfl):
 PE X (.ListComp elt [⟨.Name x px,iter,ifs,0⟩] scope pos) (Yp wi tt te):=by
 intro pins s Z H Q I h;rw[eval_ListComp];refine jk3 (use:=none) rfl hs ok.clos ok.kind ok.names (thn (hi s Z H _ I h) fun xv s1 h1=>thn h1 fun itv s2 h2=>?_);obtain⟨it,fp,tn,J,H2,e,I2,T,st2,f2,hW⟩:=h2;subst e;refine WQ hc ok ht he I2 T st2 f2 hW (compPost (model X.prog X.w) X.A X.xe none (EP X pins Z Q)) fun D C H3 s4 I4 hm fC q=>?_;obtain⟨m,hn⟩:=hm;exact⟨m,hn,fun h' hsb=>⟨.ref D,H3,I4.turned (t':=s4.toks) (fun b o hb e=>hsb.extBut b o hb e) fC.1 fC.2.1 fC.2.2.2.1 fC.2.2.2.2.1 fC.2.2.2.2.2,rfl,q⟩⟩
theorem cD{M:List Str}{y:Str}{px py spos:Pos}{ifs:List Expr}{cl:List (Str×Addr)}{i:Nat}(hN:X.N.Nodup)(hiy:X.N[i]?=some y)(hy:Loc X.env.scope y)
 (hc:X.calm=true)(ok:U6 X M x scope cl)(hi:PI X (.Name x px) iter wi)
 (ht:∀C s₀ H₀ fp,dX (Mp X M x scope cl C s₀ H₀ fp) ifs tt)(he:∀C s₀ H₀ fp,PE (Mp X M x scope cl C s₀ H₀ fp) elt te)
 (hsw:swapsWith (.ListComp elt [⟨.Name x px,iter,ifs,0⟩] scope pos) (some (.Name y py)) spos.line X.env=pure true:=by with_unfolding_all rfl)
 (hf:X.fn y=true\/X.env.scope.names.lookup y=some .local:=by first | exact .inl rfl | exact .inr rfl | assumption)
 (hs:∀x,foldedSetIterable iter X.env x=pure x:=by intro _;rfl):
 PS X (.Assign [.Name y py] (.ListComp elt [⟨.Name x px,iter,ifs,0⟩] scope pos) spos) (mJ (Yp wi tt te) (Kq i)):=by
 intro pins s Z H D I h;rw[exec_Assign_Name_used _ _ _ _ hsw];refine jp (wpAny_standAt (jp ?_));show wpAny _ X.A (do let _ <-comprehension (.ListComp elt [⟨.Name x px,iter,ifs,0⟩] scope pos) scope X.env _ (newList []) false (eval iter X.env) (some (assign (.Name y py) X.env))) _ _ s;refine jp (Qb (jk3 (use:=some (assign (.Name y py) X.env)) (Q:=fun _ s'=>SP X pins D .next s') rfl hs ok.clos ok.kind ok.names
  (thn (hi s Z H _ I h) fun xv s1 h1=>thn h1 fun itv s2 h2=>?_)) (fun _ s' hq=>ze (ze hq)) fun _ _ e=>e)
 obtain⟨it,fp,tn,J,H2,e,I2,T,st2,f2,hW⟩:=h2;subst e;refine WQ (Q:=fun x H1=>Kq i x Z H1 D.nx) hc ok ht he I2 T st2 f2 hW (compPost (model X.prog X.w) X.A X.xe (some (assign (.Name y py) X.env)) (fun _ s'=>SP X pins D .next s')) fun Dd C H3 s4 I4 hm fC q=>?_
 obtain⟨m,hn⟩:=hm;show wpAny _ X.A (assign (.Name y py) X.env (.ref Dd)) _ _ _;refine wpAny_assign_Name (Oj I4 hN hiy hy (v:=.ref Dd) rfl (fun s5 I5 hsb=>?_) hf);obtain⟨a,sb,ha⟩:=hsb;have hCa:C≠a:=by
  rcases ha with rfl | ha
  ·exact fC.2.1
  ·exact(fC.2.2.2.2.1 _ _ ha).symm
 exact⟨m,hn.sameBut sb hCa,fun h' hsb'=>⟨_,H3,I5.turned (t':=s5.toks) (fun b o hb e=>hsb'.extBut b o hb e) fC.1 fC.2.1 fC.2.2.2.1 fC.2.2.2.2.1 fC.2.2.2.2.2,q⟩⟩
theorem Yh:∀{bs:List Bool} {us:List Value},Vals (bs.map V.bl) us->us=bs.map Value.bool
 | [],_,.nil=>rfl
 | b::bs,u::us,.cons r t=>by
  cases (show u=Value.bool b from r);rw[Yh t];rfl
theorem cB(bs:List Bool):((List.range bs.length).all fun i=>(bs[i]?).getD true)=bs.all id:=by
 induction bs with
 | nil=>rfl
 | cons b bs ih=>
  rw[qm,List.range_succ_eq_map,List.all_cons,List.all_map,List.all_cons,<-ih];rfl
theorem vQ{s:Shared}{h':Heap}{o:Obj}(hk:∀b x,b∉[s.heap.objs.size]->(s.heap.push o).get? b=some x->h'.get? b=some x):∀b x,s.heap.get? b=some x->h'.get? b=some x:=
 fun b x e=>hk b x (fun hm=>by rw[zv.mp hm] at e;exact jd1 _ (zo e)) (jv _ e)
theorem Uh(hc:X.calm=true):Ir X (.builtin "all") (fun xs H Q=>∃(p:Addr) (bs:List Bool),xs=[.ref p]/\SqL X.K H p (bs.map V.bl)/\Q (.bl (bs.all id)) H):=by
 intro pins s Z H xs us Q I r h;obtain⟨p,bs,rfl,hq,q⟩:=h;obtain⟨u,rfl,ru⟩:=vals1 r;cases (show u=Value.ref p from ru);obtain⟨its,rv,pl,_⟩:=I.list hq;obtain rfl:=Yh rv;have hl:=pl.isList;have hlt:p<s.heap.objs.size:=by obtain⟨_,e,_⟩:=id hl;exact zo e
 refine call_all_walk (jf6 hl ?_);refine⟨s.heap.objs.size,[s.heap.objs.size,p],[s.heap.objs.size],(bs.map Value.bool).toArray.size,_,_,fun i=>(bs[i]?).getD true,rfl,Walks.list (A:=X.A.in1) (I.ok.hd hc) _ p (vv hlt) (bs.map Value.bool).toArray,
  ⟨⟨_,zi _ rfl,rfl,rfl⟩,hl.push _⟩,fun i v s' Q' E' hP hQ=>?_,fun h' tk hk=>?_⟩
 ·have hP':(bs.map Value.bool)[i]?=some v:=by simpa using hP
  rw[xa] at hP';cases e:bs[i]? with
  | none=>rw[e] at hP';cases hP'
  | some b=>
   rw[e] at hP';cases hP';simp only[e,Option.getD_some] at hQ;exact jf7 hQ
 ·have e:((List.range (bs.map Value.bool).toArray.size).all fun i=>(bs[i]?).getD true)=bs.all id:=by
   rw[zt,js];exact cB bs
  rw[e];exact⟨.bl _,H,I.kept (vQ hk),rfl,q⟩
theorem lookup_mem{κ β:Type}[BEq κ][LawfulBEq κ]{k:κ}{v:β}:∀{l:List (κ×β)},l.lookup k=some v->(k,v)∈l
 | (a,b)::r,h=>by
  rw[List.lookup_cons] at h;cases e:k==a with
  | true=>
   rw[e] at h;cases h;rw[eq_of_beq e];exact qc
  | false=>
   rw[e] at h;exact qf _ (lookup_mem h)
theorem Vi{env:Env}(h:∀y∈scope.names,y.2≠.free):(relabel scope env).names=scope.names:=
 map_eq_self fun x hx=>by
  obtain⟨n,k⟩:=x;have:(k==NameKind.free)=false:=by simpa using h _ hx
  simp[this]
theorem Gm(N:List Str)(hN:X.N=N)(hf:∀y∈scope.names,y.2≠.free/\y.2≠.cell)(hk:scope.kind=.function)(hn:∀y∈scope.names,y.2=.local->scope.names.lookup y.1=some .local)
 (hx:scope.names.lookup x=some .local)(nd:(x::N).Nodup)(vis:∀y∈N,scope.names.lookup y≠some .local):U6 X N x scope []:=by
 have e:=Vi (env:=X.env) fun y hy=>(hf y hy).1;refine⟨closureFor_none fun y hy=>(hf y hy).1,fun y hy=>(hf y hy).2,hk,hn,fun y h=>zv.mp h ▸ hx,nd,by rw[hN],fun y c h=>(by cases h),fun y h=>?_,fun i y hy h=>?_⟩
 ·rw[e] at h;rcases h with h | h
  ·exact absurd rfl (hf _ (lookup_mem h)).2
  ·exact absurd rfl (hf _ (lookup_mem h)).1
 ·rcases h with h | h | h
  ·rw[e] at h;exact absurd h (vis y (xi hy))
  ·rw[e] at h;exact absurd rfl (hf _ (lookup_mem h)).2
  ·rw[e] at h;exact absurd rfl (hf _ (lookup_mem h)).1
structure Walk(J:It)(ok:Hp->Prop)(xs:List V):Prop where
 go:∀i H,ok H->i<xs.length->J.go i H
 yld:∀i H x H',ok H->J.yld i H x H'->i<xs.length->H'=H/\xs[i]?=some x
 stop:∀i H,ok H->xs.length<=i->J.stop i H
theorem Rq{a:Addr}:Walk (Itl K a) (fun H=>SqL K H a xs) xs:=
 ⟨fun i H h hi=>⟨xs,xs[i],h,by simp[hi]⟩,fun i H x H' h y hi=>⟨y.1,y.2 xs h⟩,fun i H h hi=>⟨xs,h,hi⟩⟩
theorem lF{a:Addr}:Walk (Itt K a) (fun H=>SqT K H a xs) xs:=
 ⟨fun i H h hi=>⟨xs,xs[i],h,by simp[hi]⟩,fun i H x H' h y hi=>⟨y.1,y.2 xs h⟩,fun i H h hi=>⟨xs,h,hi⟩⟩
theorem lG{lo:Int}{n:Nat}:Walk (Itr lo n) (fun _=>True) ((List.range n).map fun i=>V.int (lo+(i:Nat))):=
 ⟨fun i H _ hi=>(by show i<n;simpa using hi),fun i H x H' _ y hi=>⟨y.1,by
  have hi':i<n:=by simpa using hi
  rw[y.2];simp[hi']⟩,fun i H _ hi=>(by show n<=i;simpa using hi)⟩
theorem iG{J:It}{ok:Hp->Prop}(Wk:Walk J ok xs)(hz:xs.length<sizeLine)(hok:∀D ys,H D=none->ok (upd H D (.lst ys)))(p:V->Bool)(f:V->V)
 (ht:∀x∈xs,∀D ys (Q':Bool->Hp->Prop),H D=none->Q' (p x) (upd H D (.lst ys))->tt (some x::Z) (upd H D (.lst ys)) Q')
 (he:∀x∈xs,p x=true->∀D ys (Q':VK),H D=none->Q' (f x) (upd H D (.lst ys))->te (some x::Z) (upd H D (.lst ys)) Q')
 (h:∀D,H D=none->Q (.ref D) (upd H D (.lst ((xs.filter p).map f)))):
 ∀D,H D=none->∃W:Nat->Nat->List V->Hp->Prop,(∃m,W 0 m [] (upd H D (.lst [])))/\
  ∀i m ys H2,W i m ys H2->H2 D=some (.lst ys)/\((J.stop i H2/\Q (.ref D) H2)\/(J.go i H2/\ys.length<sizeLine/\∃m',m'<m/\∀x H3,J.yld i H2 x H3->
   tt (some x::Z) H3 fun b H4=>if b=true then te (some x::Z) H4 fun y H5=>H5 D=some (.lst ys)/\W (i+1) m' (ys++[y]) (upd H5 D (.lst (ys++[y]))) else W (i+1) m' ys H4)):=by
 intro D hD;refine⟨fun i m ys H2=>i<=xs.length/\m=xs.length-i/\ys=((xs.take i).filter p).map f/\H2=upd H D (.lst ys),⟨_,vj _,rfl,by simp,rfl⟩,?_⟩;rintro i m ys H2 ⟨hi,rfl,hys,rfl⟩;refine⟨Ai,?_⟩;by_cases hlt:i<xs.length
 ·have hl:ys.length<=i:=by
   rw[hys,js];exact zn (List.length_filter_le _ _) (by rw[jj0];lia)
  refine .inr ⟨Wk.go i _ (hok D ys hD) hlt,⋯,xs.length-(i+1),⋯,fun x H3 hy=>?_⟩;obtain⟨e3,ex⟩:=Wk.yld i _ x H3 (hok D ys hD) hy hlt;subst e3;have hm:x∈xs:=xi ex;have et:xs.take (i+1)=xs.take i++[x]:=by rw[ja4,ex];rfl
  refine ht x hm D ys _ hD ?_;cases hp:p x with
  | false=>
   rw[xp qv];refine⟨hlt,rfl,?_,rfl⟩;rw[et,List.filter_append,hys];simp[hp]
  | true=>
   rw[xo rfl];refine he x hm hp D ys _ hD ⟨Ai,hlt,rfl,?_,by rw[rR]⟩;rw[et,List.filter_append,hys];simp[hp]
 ·have e:i=xs.length:=⋯
  subst e;refine .inl ⟨Wk.stop _ _ (hok D ys hD) (qg _),?_⟩;rw[hys,jc9];exact h D hD
theorem XR{R:It->Hp->Prop}(h:ta Z H fun vs H1=>∃j:Int,vs=[.int j]/\ -(2^62)<=j/\j<2^62/\R (Itr 0 j.toNat) H1):xg ta Z H R:=h
theorem uJ{R:It->Hp->Prop}(h:ta Z H fun vs H1=>∃i j:Int,vs=[.int i,.int j]/\(-(2^62)<=i/\i<2^62/\ -(2^62)<=j/\j<2^62)/\R (Itr i (j-i).toNat) H1):ACc ta Z H R:=h
theorem Gv(h:wi Z H (iR tt te Z Q)):Yp wi tt te Z H Q:=h
theorem Ld{J:It}{ok:Hp->Prop}(Wk:Walk J ok xs)(hz:xs.length<sizeLine)(hok:∀D ys,H D=none->ok (upd H D (.lst ys)))(p:V->Bool)(f:V->V)
 (ht:∀x∈xs,∀D ys (Q':Bool->Hp->Prop),H D=none->Q' (p x) (upd H D (.lst ys))->tt (some x::Z) (upd H D (.lst ys)) Q')
 (he:∀x∈xs,p x=true->∀D ys (Q':VK),H D=none->Q' (f x) (upd H D (.lst ys))->te (some x::Z) (upd H D (.lst ys)) Q')
 (h:∀D,H D=none->Q (.ref D) (upd H D (.lst ((xs.filter p).map f)))):iR tt te Z Q J H:=iG Wk hz hok p f ht he h
theorem dG{i:Nat}{a:Addr}(ei:Z[i]?=some (some (.ref a)))(hS:SqT K H a xs)(hz:xs.length<sizeLine)(p:V->Bool)(f:V->V)
 (ht:∀x∈xs,∀D ys (Q':Bool->Hp->Prop),H D=none->Q' (p x) (upd H D (.lst ys))->tt (some x::Z) (upd H D (.lst ys)) Q')
 (he:∀x∈xs,p x=true->∀D ys (Q':VK),H D=none->Q' (f x) (upd H D (.lst ys))->te (some x::Z) (upd H D (.lst ys)) Q')
 (h:∀D,H D=none->Q (.ref D) (upd H D (.lst ((xs.filter p).map f)))):Yp (vW K (Iu i)) tt te Z H Q:=
 by unfold Yp vW;exact KR ei ⟨a,rfl,⟨_,hS⟩,iG lF hz (fun D ys hD=>(BR hD _).tup hS) p f ht he h⟩
theorem Jl{Q:Bool->Hp->Prop}(h:Q true H):lU Z H Q:=h
theorem Ly{cl:List (Str×Addr)}(xs M N:List Str)(hl:M.length=N.length)(hN:X.N=N)(clos:closureFor scope X.env=pure cl)(hc:(scope.names.all fun y=>y.2 != .cell)=true)(hk:scope.kind=.function)
 (hn:(scope.names.all fun y=>y.2 != .local||scope.names.lookup y.1==some .local)=true)(hx:(xs.all fun x=>scope.names.lookup x==some .local)=true)(nd:(xs++M).Nodup)
 (hs:∀p∈cl,X.env.cells.lookup p.1=some p.2)
 (hh:((relabel scope X.env).names.all fun p=>(p.2 != .cell&&p.2 != .free)||(cl.lookup p.1).isSome)=true)
 (hv:((M.zip N).all fun q=>match (relabel scope X.env).names.lookup q.1 with
  | some .local=>false
  | some .cell=>q.1==q.2&&(X.env.scope.names.lookup q.1==some .cell||X.env.scope.names.lookup q.1==some .free)
  | some .free=>q.1==q.2&&(X.env.scope.names.lookup q.1==some .cell||X.env.scope.names.lookup q.1==some .free)
  | _=>true)=true):Oe X M xs scope cl:=by
 refine⟨clos,fun y hy=>?_,hk,fun y hy hl=>?_,(fun x hm=>by simpa using kx.mp hx x hm),nd,by rw[hN];exact hl,fun y c h=>hs _ (lookup_mem h),fun y h=>?_,fun i y hy h=>?_⟩
 ·have:=kx.mp hc y hy;simpa using this
 ·have:=kx.mp hn y hy;simpa [hl] using this
 ·rcases h with h | h
  ·have:=kx.mp hh _ (lookup_mem h);exact jf1.mp (by simpa using this)
  ·have:=kx.mp hh _ (lookup_mem h);exact jf1.mp (by simpa using this)
 ·have hi:i<N.length:=by
   have:=(zd.mp hy).1;lia
  have hz:(y,N[i])∈M.zip N:=by
   have:(M.zip N)[i]?=some (y,N[i]):=List.getElem?_zip_eq_some.mpr ⟨hy,by simp[hi]⟩;exact xi this
  have z:=kx.mp hv _ hz;have fin:y=N[i]->X.N[i]?=some y:=fun e=>by rw[hN,e];simp[hi]
  rcases h with h | h | h
  ·dsimp only at z;rw[h] at z;cases z
  ·dsimp only at z;rw[h] at z;simp only[ku,ja7,Bool.or_eq_true] at z;exact⟨fin z.1,.inl h,z.2⟩
  ·dsimp only at z;rw[h] at z;simp only[ku,ja7,Bool.or_eq_true] at z;exact⟨fin z.1,.inr h,z.2⟩
theorem GD{cl:List (Str×Addr)}(M N:List Str)(hl:M.length=N.length)(hN:X.N=N)(clos:closureFor scope X.env=pure cl)(hc:(scope.names.all fun y=>y.2 != .cell)=true)(hk:scope.kind=.function)
 (hn:(scope.names.all fun y=>y.2 != .local||scope.names.lookup y.1==some .local)=true)(hx:scope.names.lookup x=some .local)(nd:(x::M).Nodup)
 (hs:∀p∈cl,X.env.cells.lookup p.1=some p.2)
 (hh:((relabel scope X.env).names.all fun p=>(p.2 != .cell&&p.2 != .free)||(cl.lookup p.1).isSome)=true)
 (hv:((M.zip N).all fun q=>match (relabel scope X.env).names.lookup q.1 with
  | some .local=>false
  | some .cell=>q.1==q.2&&(X.env.scope.names.lookup q.1==some .cell||X.env.scope.names.lookup q.1==some .free)
  | some .free=>q.1==q.2&&(X.env.scope.names.lookup q.1==some .cell||X.env.scope.names.lookup q.1==some .free)
  | _=>true)=true):U6 X M x scope cl:=Ly [x] M N hl hN clos hc hk hn (by simp[hx]) nd hs hh hv
noncomputable def kh(lo c:Int)(n:Nat):It:=⟨fun i _=>i<n,fun i H x H'=>H'=H/\x=.int (lo+i*c),fun i _=>n<=i⟩
theorem Yl{P:Program}{w:World}{tg:Expr}(it:Addr)(lo c:Int)(n:Nat):Turn P w K tg (kh lo c n) [it] it (fun i h=>IsRangeIter h it (lo+(i:Nat)*c) ((n:Int)-(i:Nat)) c) where
 mem:=by simp
 obj:=fun i h st b hb=>by
  have e:b=it:=by simpa using hb
  subst e;exact⟨_,st,fun v z=>by
   have z':Data.fields _=Data.cell v:=z;cases z'⟩
 keep:=fun i h h' st k=>k it (by simp) _ st
 item:=by
  intro X hP hw hK hc i pins s Z H E I hf st hg;subst hP hw hK;obtain⟨f0,f1,f2,f3,f4,f5⟩:=hf it (by simp);have W:=Walks.range (prog:=X.prog) (w:=X.w) (I.ok.hd hc) it lo c n;refine W.item i s _ _ hg st fun v h' tk hv st' kk=>?_;obtain⟨t,rfl⟩:=hv;have I1:Inv X pins Z H { s with heap:=h',toks:=tk }:=I.turned (fun b o hb e=>kk b o (by simpa using hb) e) f0 f1 f3 f4 f5;exact⟨_,rfl,Zx (s:={ s with heap:=h',toks:=tk }) (n:="range_iterator") st' rfl rfl nofun ⟨.int (lo+i*c),H,I1,⟨t,rfl⟩,⟨rfl,rfl⟩,st',fun b hb=>(hf b hb).1⟩⟩
 done:=by
  intro X hP hw hK hc i pins s Z H E I hf st hg;subst hP hw hK;obtain⟨f0,f1,f2,f3,f4,f5⟩:=hf it (by simp);exact wpAny_pyNext_range_end (I.ok.hd hc) st (by have:n<=i:=hg;lia) fun h' eb=>⟨rfl,I.turned (t':=s.toks) (fun b o hb e=>eb b o hb e) f0 f1 f3 f4 f5⟩
 self:=fun _ _ _ _ _ st h=>wpAny_pyIter_rangeiter st h
def xf(ta:TA):TI:=fun Z H R=>ta Z H fun vs H1=>∃i j c:Int,vs=[.int i,.int j,.int c]/\0<c/\c<1073741824/\Builtin.Range.small i j c=true/\∃n:Nat,(n:Int)=Builtin.Range.rangeSize i j c/\R (kh i c n) H1
theorem jU{tg:Expr}{a b d:Expr}{p:Pos}(hg:Gl X "range")(hm:X.mg "range"=none)(ha:PA X [a,b,d] ta)(hs:‹starEach [a,b,d] X.env=(false,eval a X.env)::starEach [b,d] X.env›)
 (hpl:‹(backTo pos (starEach [b,d] X.env)).any (·.1)=false›):PI X tg (.Call (.Name "range" p) [a,b,d] [] pos) (xf ta):=by
 intro pins s Z H R I h;refine Call_ (Kl I hg hm boot_range (ja0 (thn (ha (pos:=pos) pins s Z H _ I h) fun us s1 hZ=>?_) hs hpl));obtain⟨vs,H1,I1,r1,q1⟩:=hZ;obtain⟨lo,hi,c,e,c0,c1,sm,n,hn,q⟩:=q1;subst e;cases r1 with
 | cons r rr=>
  cases rr with
  | cons r' rr=>
   cases rr with
   | cons r'' rr=>
    cases rr;obtain⟨t,rfl⟩:=r;obtain⟨t',rfl⟩:=r';obtain⟨t'',rfl⟩:=r'';refine PySem.call_range_3 ⋯ ?_ (Or.inl (PyProof.noPylong_small ⋯));refine wpAny_pyIter_range (IsRange.new ..) sm ?_;have I2:Inv X pins Z H1 { s1 with heap:=s1.heap.push { cls:=.type "range",data:=.fields #[.int lo t,.int hi t',.int c t''] },toks:=s1.toks }:=I1.kept fun b o e=>jv _ e;refine⟨(s1.heap.push { cls:=.type "range",data:=.fields #[.int lo t,.int hi t',.int c t''] }).objs.size,[(s1.heap.push { cls:=.type "range",data:=.fields #[.int lo t,.int hi t',.int c t''] }).objs.size],_,_,H1,rfl,
     I2.kept (t':=s1.toks) fun b o e=>jv _ e,Yl _ lo c n,?_,fun b hb=>?_,q⟩
    ·have e1:lo+((0:Nat):Int)*c=lo:=by simp
     have e2:(n:Int)-((0:Nat):Int)=Builtin.Range.rangeSize lo hi c:=by rw[<-hn];simp
     show IsRangeIter _ _ (lo+((0:Nat):Int)*c) ((n:Int)-((0:Nat):Int)) c;rw[e1,e2];exact zi _ rfl
    ·have e:b=(s1.heap.push { cls:=.type "range",data:=.fields #[.int lo t,.int hi t',.int c t''] }).objs.size:=by simpa using hb
     subst e;exact I2.fpOk (qg _) (I2.hok.fresh (qg _))
theorem fQ{R:It->Hp->Prop}(h:ta Z H fun vs H1=>∃i j c:Int,vs=[.int i,.int j,.int c]/\0<c/\c<1073741824/\Builtin.Range.small i j c=true/\∃n:Nat,(n:Int)=Builtin.Range.rangeSize i j c/\R (kh i c n) H1):xf ta Z H R:=h
theorem qP{a b:Int}:decide (V.int a=V.int b)=decide (a=b):=by
 rw[ja8];simp
theorem bI{i j c:Int}(i0:0<=i)(i1:i<4294967296)(j0:0<=j)(j1:j<4294967296)(c0:0<c)(c1:c<4294967296):Builtin.Range.small i j c=true:=by
 have e:Builtin.Range.rangeSize i j c=if i<j then (j-i-1)/c+1 else 0:=by
  unfold Builtin.Range.rangeSize;rw[xo c0]
 have b1:∀x:Int,0<=x->x/c<=x:=fun x hx=>ji8 _ hx;have b2:∀x:Int,0<=x->0<=x/c:=fun x hx=>jk5 hx (by omega);unfold Builtin.Range.small;rw[e];simp only[Builtin.Range.rangeFitsLong,ku,Bool.or_eq_true,decide_eq_true_eq,ja7,xo c0];split
 ·have:=b1 (j-i-1) (by omega);have:=b2 (j-i-1) (by omega);omega
 ·omega
theorem PN{i:Nat}{t:TA}{l:Addr}(e:Z[i]?=some (some (.ref l)))(h:H l=some (.lst xs))
 (g:t Z H fun ys H2=>Rg (.ref l) ys H2 Q):tBM K "list" Rg (Iu i) t Z H Q:=by unfold tBM;exact KR e ⟨.inl ⟨rfl,_,SqL.of h⟩,g⟩
theorem bz{l:Addr}{y:V}(h:H l=some (.lst xs))(hz:xs.length<sizeLine)(q:Q .non (upd H l (.lst (xs++[y])))):Rg (.ref l) [y] H Q:=⟨l,xs,y,rfl,rfl,h,hz,q⟩
theorem TV{g:TG}{tb:TS}{D:Ends}(h:wi Z H fun J H1=>∃W:Nat->Nat->St->Hp->Prop,(∃m,W 0 m Z H1)/\∀i m Z H,W i m Z H->
 (J.stop i H/\D.nx Z H)\/(J.go i H/\∃N:St->Hp->Prop,(∀Z' H',N Z' H'->∃m',m'<m/\W (i+1) m' Z' H')/\∀x H',J.yld i H x H'->g x Z H' fun σ2 H2=>tb { D with nx:=N,ct:=N,bk:=D.nx } σ2 H2)):ABe wi g tb D Z H:=h
theorem QD{tl:TE}{R:It->Hp->Prop}(h:tl Z H fun x H1=>∃a,x=.ref a/\(∃xs,SqL K H1 a xs)/\R (Itl K a) H1):xj K tl Z H R:=h
theorem xM{tl:TE}{R:It->Hp->Prop}(h:tl Z H fun x H1=>∃a,x=.ref a/\(∃xs,SqT K H1 a xs)/\R (Itt K a) H1):vW K tl Z H R:=h
theorem Ez{H':Hp}{l:Addr}{o:HO}(h:H l=none)(s:BP H H'):BP H (upd H' l o):=fun b u e=>by
 rw[Ax (BX e h)];exact s b u e
end
def kZ(h:Heap)(e:Addr)(cls:Value)(dd:Option Addr)(head:Value):Prop:=∃vs sl,h.get? e=some ⟨cls,dd,.fields vs,sl⟩/\vs[1]?=some head
def XTr(h base:Heap)(e:Addr)(cls:Value)(dd:Option Addr)(fl:Value):Prop:=∃T,kZ h e cls dd (.ref T)/\base.get? T=none/\T≠e/\∃oT ts,h.get? T=some oT/\oT.data=.fields ts/\ts[3]?=some fl
structure Sea(base:Heap)(l:List Env)(e:Addr)(h:Heap):Prop where
 stays:base.StaysIn h
 new:base.get? e=none
 frames:h.FunFrames base l
section
variable{M:Model}{A:Around}{E:Value->Shared->Prop}{s:Shared}{base:Heap}{env:Env}{outer l:List Env}{L e:Addr}{cls:Value}{dd:Option Addr}
theorem Jq{o:Obj}{vs:Array Value}(hd:o.data=.fields vs)(i:Nat)(x:Value):Obj.mapFields (·.setIfInBounds i x) o=⟨o.cls,o.dict,.fields (vs.setIfInBounds i x),o.slots⟩:=by
 obtain⟨c,d,dt,sl⟩:=o;cases hd;rfl
theorem gj{head:Value}{nx:Bool}{Q:Unit->Shared->Prop}(hfr:A.frames=some (env::outer))(hf:env.frame=some L)(S:Sea base (env::outer) e s.heap){hd0:Value}(O:kZ s.heap e cls dd hd0)
 (k:∀h',Sea base (env::outer) e h'->XTr h' base e cls dd (rawInt L)->s.heap.UpToSlots h'->Q () { s with heap:=h' }):
 wpAny M A (do let a <-frameOf env;let pl <-entryPlaceOf L nx;let b <-EntryCells.newEntry head a .none (rawInt L) .none pl;setField (.ref e) 1 b) Q E s:=by
 obtain⟨vs,sl,he,h1⟩:=O;have nofr:e∉(env::outer).filterMap (·.frame):=fun z=>by
  obtain⟨_,o,ho,hn⟩:=S.frames.mem z;rw[he] at ho;cases ho;exact hn vs rfl
 refine jp (wpAny_frameOf_fun hfr S.frames hf fun g1 so=>jp (wpAny_entryPlaceOf fun pl hpl=>?_));unfold EntryCells.newEntry newFields;refine jp (jc4 ?_ (hpl.sizeOk5 _ _ _ _ _));generalize hob:({ cls:=.type "traceback",dict:=none,data:=.fields ([head,.ref L,.none,rawInt L,.none]++(if pl.isEmpty then List.replicate 6 Value.none else pl)).toArray }:Obj)=tb;have e1:g1.get? e=some ⟨cls,dd,.fields vs,sl⟩:=(so.2.1 e nofr).trans he;have b1:base.StaysIn g1:=fun b o q=>(so.2.1 b fun z=>by rw[(S.frames.mem z).1] at q;cases q).trans (S.stays b o q);have e2:(g1.push tb).get? e=some ⟨cls,dd,.fields vs,sl⟩:=jv _ e1;have ne:g1.objs.size≠e:=jo9 (zo e1);have sz:1<vs.size:=(jb9.mp h1).1;have tbf:tb.isFreed=false:=by rw[<-hob];rfl
 refine jm1 e2 rfl sz (k _ ⟨fun b o q=>?_,S.new,?_⟩ ?_ ?_)
 ·have hbe:b≠e:=fun z=>by rw[z,S.new] at q;cases q
  rw[yk _ _ (Ne.symm hbe)];exact jv _ (b1 b o q)
 ·refine S.frames.of_keeps fun b o q hn=>?_;have hbe:b≠e:=fun z=>by rw[z,he] at q;cases q;exact hn vs rfl
  obtain⟨sl',q'⟩:=so.2.2 b o q;refine⟨{ o with slots:=sl' },?_,rfl⟩;rw[yk _ _ (Ne.symm hbe)];exact jv _ q'
 ·refine⟨g1.objs.size,⟨vs.setIfInBounds 1 (.ref g1.objs.size),sl,?_,?_⟩,b1.fresh,ne,tb,([head,.ref L,.none,rawInt L,.none]++(if pl.isEmpty then List.replicate 6 Value.none else pl)).toArray,?_,by rw[<-hob],?_⟩
  ·rw[jb2 _ e2 (by rw[Jq rfl];rfl),Jq rfl]
  ·rw[jh4 sz]
  ·rw[yk _ _ (Ne.symm ne)];exact zi _ tbf
  ·simp
 ·intro b o q hn;have hbe:b≠e:=fun z=>by rw[z,he] at q;cases q;exact hn vs rfl
  obtain⟨sl',q'⟩:=so.2.2 b o q;refine⟨sl',?_⟩;rw[yk _ _ (Ne.symm hbe)];exact jv _ q'
theorem Zn{Q:Unit->Shared->Prop}(hfr:A.frames=some (env::outer))(hf:env.frame=some L)(S:Sea base (env::outer) e s.heap)(O:kZ s.heap e cls dd .none)
 (k:∀h',Sea base (env::outer) e h'->XTr h' base e cls dd (rawInt L)->s.heap.UpToSlots h'->Q () { s with heap:=h' }):wpAny M A (noteFrame (.ref e) env) Q E s:=by
 obtain⟨vs,sl,he,h1⟩:=id O;unfold noteFrame;simp only[hf];refine jp (Zl he rfl h1 ?_);rw[xp nofun];exact gj hfr hf S O k
theorem gK{Q:Unit->Shared->Prop}(hfr:A.frames=some (env::outer))(hf:env.frame=some L)(S:Sea base (env::outer) e s.heap)(O:XTr s.heap base e cls dd .none)
 (k:∀h',Sea base (env::outer) e h'->XTr h' base e cls dd (rawInt L)->s.heap.UpToSlots h'->Q () { s with heap:=h' }):wpAny M A (noteFrame (.ref e) env) Q E s:=by
 obtain⟨T,⟨vs,sl,he,h1⟩,tb,ne,oT,ts,hT,dT,h3⟩:=O;unfold noteFrame;simp only[hf];refine jp (Zl he rfl h1 ?_);rw[xo (show (Value.ref T != Value.none)=true by simp)];refine jp (Zl hT dT h3 ?_);rw[xp (show ¬((Value.none==rawInt L)=true) by simp[rawInt])];refine jp (jm1 hT dT (jb9.mp h3).1 ?_);have oth:∀b,b≠T->(s.heap.update T (Obj.mapFields (·.setIfInBounds 3 Value.none))).get? b=s.heap.get? b:=fun b hb=>yk _ _ (Ne.symm hb);have nT:∀b o,s.heap.get? b=some o->(∀ws,o.data≠.fields ws)->b≠T:=fun b o q hn z=>by
  rw[z,hT] at q;cases q;exact hn ts dT
 refine gj (hd0:=.ref T) (s:={ s with heap:=s.heap.update T (Obj.mapFields (·.setIfInBounds 3 Value.none)) }) hfr hf ⟨fun b o q=>?_,S.new,?_⟩ ⟨vs,sl,(oth e (Ne.symm ne)).trans he,h1⟩ fun h' a b c=>k h' a b fun x o q hn=>?_
 ·exact(oth b fun z=>by rw[z,tb] at q;cases q).trans (S.stays b o q)
 ·exact S.frames.of_keeps fun b o q hn=>⟨o,(oth b (nT b o q hn)).trans q,rfl⟩
 ·exact c x o ((oth x (nT x o q hn)).trans q) hn
theorem Il{fl:Value}{Q:Unit->Shared->Prop}(S:Sea base l e s.heap)(O:XTr s.heap base e cls dd fl)
 (k:∀h',Sea base l e h'->XTr h' base e cls dd .none->s.heap.UpToSlots h'->Q () { s with heap:=h' }):wpAny M A (setFlight (.ref e) none) Q E s:=by
 obtain⟨T,⟨vs,sl,he,h1⟩,tb,ne,oT,ts,hT,dT,h3⟩:=O;have sz:3<ts.size:=(jb9.mp h3).1;unfold setFlight;refine jp (Zl he rfl h1 ?_);rw[xo (show (Value.ref T != Value.none)=true by simp)];have oth:∀b,b≠T->(s.heap.update T (Obj.mapFields (·.setIfInBounds 3 ((none:Option Addr).elim Value.none fun f=>rawInt f)))).get? b=s.heap.get? b:=fun b hb=>yk _ _ (Ne.symm hb);have nT:∀b o,s.heap.get? b=some o->(∀ws,o.data≠.fields ws)->b≠T:=fun b o q hn z=>by
  rw[z,hT] at q;cases q;exact hn ts dT
 refine jm1 hT dT sz (k _ ⟨fun b o q=>?_,S.new,?_⟩ ⟨T,⟨vs,sl,(oth e (Ne.symm ne)).trans he,h1⟩,tb,ne,_,ts.setIfInBounds 3 .none,jb2 _ hT ?_,?_,?_⟩ fun b o q hn=>⟨o.slots,(oth b (nT b o q hn)).trans q⟩)
 ·exact(oth b fun z=>by rw[z,tb] at q;cases q).trans (S.stays b o q)
 ·exact S.frames.of_keeps fun b o q hn=>⟨o,(oth b (nT b o q hn)).trans q,rfl⟩
 ·rw[Jq dT];rfl
 ·rw[Jq dT];rfl
 ·rw[jh4 sz]
theorem Sea.tail(S:Sea base (env::outer) e s.heap):Sea base outer e s.heap:=⟨S.stays,S.new,S.frames.2.2⟩
theorem leave_new{Q:Unit->Shared->Prop}(hfr:A.frames=some (env::outer))(hf:env.frame=some L)(S:Sea base (env::outer) e s.heap)(O:kZ s.heap e cls dd .none)
 (k:∀h',Sea base outer e h'->XTr h' base e cls dd .none->s.heap.UpToSlots h'->Q () { s with heap:=h' }):wpAny M A («leaving» env (.ref e)) Q E s:=by
 unfold «leaving»;refine jp (Zn hfr hf S O fun h1 S1 O1 u1=>?_);exact Il (s:={ s with heap:=h1 }) S1 O1 fun h2 S2 O2 u2=>k h2 (Sea.tail (s:={ s with heap:=h2 }) S2) O2 (u1.trans u2)
theorem pI{Q:Unit->Shared->Prop}(hfr:A.frames=some (env::outer))(hf:env.frame=some L)(S:Sea base (env::outer) e s.heap)(O:XTr s.heap base e cls dd .none)
 (k:∀h',Sea base outer e h'->XTr h' base e cls dd .none->s.heap.UpToSlots h'->Q () { s with heap:=h' }):wpAny M A («leaving» env (.ref e)) Q E s:=by
 unfold «leaving»;refine jp (gK hfr hf S O fun h1 S1 O1 u1=>?_);exact Il (s:={ s with heap:=h1 }) S1 O1 fun h2 S2 O2 u2=>k h2 (Sea.tail (s:={ s with heap:=h2 }) S2) O2 (u1.trans u2)
end
def Old(fs:List Addr)(H:Hp)(h B:Heap):Prop:=∀b u,h.get? b=some u->b∉fs->∃u',B.get? b=some u'/\(H b=none->u'=u)
def Tra(H:Hp)(h B:Heap):Prop:=∀b o,H b=some o->∃u,h.get? b=some u/\B.get? b=some u
section
variable{P:Program}{w:World}{fs:List Addr}{H H':Hp}{h h1 h2 B:Heap}
theorem Mt(u:Un fs [] H H' h h1)(o:Old fs H h B)(st:B.StaysIn h2)(up:h1.UpToSlots h2)(fr:∀b∈fs,∃ob,h1.get? b=some ob/\∀vs,ob.data≠.fields vs):Un fs [] H H' h h2 where
 keep:=fun b ob q n hb hx=>by
  obtain⟨u',e,z⟩:=o b ob q hb;rw[z n] at e;exact st _ _ e
 slot:=fun b ob q n hb hx=>by
  obtain⟨sl,e⟩:=u.slot b ob q n hb hx;obtain⟨o2,e2,nf⟩:=fr b hb;rw[e] at e2;cases e2;obtain⟨sl',e3⟩:=up b _ e nf;exact⟨sl',e3⟩
 free:=u.free
 there:=fun b ob q hx=>by
  by_cases hb:b∈fs
  ·obtain⟨o2,e2,nf⟩:=fr b hb;obtain⟨sl,e3⟩:=up b _ e2 nf;exact⟨_,e3⟩
  ·obtain⟨u',e,_⟩:=o b ob q hb;exact⟨u',st _ _ e⟩
 tups:=u.tups
 frzs:=u.frzs
 tbls:=u.tbls
theorem LR(ok:HOk P w H' h1)(t:Tra H' h1 B)(st:B.StaysIn h2):HOk P w H' h2:=fun a o e=>by
 refine(ok a o e).stay (fun b u hb q=>?_) (fun _ q=>q) fun _ _ q=>q;have go:∀ob,H' b=some ob->h2.get? b=some u:=fun ob z=>by
  obtain⟨u',e1,e2⟩:=t b ob z;rw[q] at e1;cases e1;exact st _ _ e2
 rcases hb with z | z
 ·exact go o (z ▸ e)
 ·exact go _ z
theorem Tra.later(t:Tra H' h1 B)(st:B.StaysIn h2):Tra H' h2 B:=fun b o e=>by
 obtain⟨u,_,q⟩:=t b o e;exact⟨u,st _ _ q,q⟩
end
def CX1(P:Program)(w:World):CXT:=fun outer H s E e s'=>∃(ea:Addr) (cls:Value) (dx:Option Addr) (B:Heap) (H':Hp),e=.ref ea/\s'.os=s.os/\AllBare s'.gens/\Un (frs outer) [] H H' s.heap s'.heap/\
 HOk P w H' s'.heap/\Sea B outer ea s'.heap/\XTr s'.heap B ea cls dx .none/\Old (frs outer) H s.heap B/\Tra H' s'.heap B/\E cls dx H'
def CXM(P:Program)(w:World):CXT:=fun outer H s E e s'=>∃(ea:Addr) (cls:Value) (dx:Option Addr) (B:Heap) (H':Hp),e=.ref ea/\s'.os=s.os/\AllBare s'.gens/\Un (frs outer) [] H H' s.heap s'.heap/\
 HOk P w H' s'.heap/\Sea B outer ea s'.heap/\kZ s'.heap ea cls dx .none/\Old (frs outer) H s.heap B/\Tra H' s'.heap B/\E cls dx H'
structure Thr(X:Cx)(EE:Value->Option Addr->St->Hp->Prop):Prop where
 call:∀(pins:List (Addr×Obj)) (Z:St) (H:Hp) (s:Shared) (e:Value) (s':Shared),Inv X pins Z H s->CX1 X.prog X.w X.stack H s (fun c d H'=>EE c d Z H') e s'->X.xe e s'
 made:∀(pins:List (Addr×Obj)) (Z:St) (H:Hp) (s:Shared) (e:Value) (s':Shared),Inv X pins Z H s->CXM X.prog X.w X.stack H s (fun c d H'=>EE c d Z H') e s'->X.xe e s'
section
variable{X:Cx}{pins:List (Addr×Obj)}{Z:St}{H H':Hp}{s:Shared}
theorem frames_are(I:Inv X pins Z H s){s':Shared}(u:Un (frs X.stack) [] H H' s.heap s'.heap):∀b∈frs X.stack,∃ob,s'.heap.get? b=some ob/\∀vs,ob.data≠.fields vs:=fun b hb=>by
 obtain⟨_,o,ho,hn⟩:=I.stack.mem hb;obtain⟨sl,e⟩:=u.any ho (I.stkFree b hb) (by simp);exact⟨_,e,hn⟩
theorem lJ{s2:Heap}(I:Inv X pins Z H s)(hx:X.ex=[])(hst:X.stack=X.env::X.outer)(hfr:X.env.frame=some X.env.locals)(u:Un (frs X.stack) [] H H' s.heap s2):Un X.fs [] X.H₀ H' X.s₀.heap s2:=by
 have nl:∀b o,X.s₀.heap.get? b=some o->b≠X.env.locals:=fun b o e=>vv (zk (zo e) I.ok.above);have sub:∀b,b∈frs X.stack->b=X.env.locals\/b∈X.fs:=fun b hb=>qh.mp (I.stkSub b hb);have sup:∀b,b∈X.fs->b∈frs X.stack:=fun b hb=>by
  rw[hst];show b∈(X.env::X.outer).filterMap (·.frame);rw[jj5,hfr];exact qf _ hb
 have ie:∀b,b∉X.ex:=fun b=>by rw[hx];simp
 exact{
  keep:=fun b o e n hb _=>u.keep b o (I.base.keep b o e n hb (ie b)) (I.base.free b o e n (ie b)) (fun z=>(sub b z).elim (nl b o e) hb) (by simp)
  slot:=fun b o e n hb _=>by
   obtain⟨sl,e1⟩:=I.base.slot b o e n hb (ie b);obtain⟨sl',e2⟩:=u.slot b _ e1 (I.base.free b o e n (ie b)) (sup b hb) (by simp);exact⟨sl',e2⟩
  free:=fun b o e n _=>by
   obtain⟨o',e1⟩:=I.base.there b o e (ie b);exact u.free b o' e1 (I.base.free b o e n (ie b)) (by simp)
  there:=fun b o e _=>by
   obtain⟨o',e1⟩:=I.base.there b o e (ie b);exact u.there b o' e1 (by simp)
  tups:=fun b xs e=>u.tups b xs (I.base.tups b xs e)
  frzs:=fun b o xs e=>u.frzs b o xs (I.base.frzs b o xs e)
  tbls:=fun b ps e=>by
   obtain⟨m1,e1⟩:=I.base.tbls b ps e;obtain⟨m2,e2⟩:=u.tbls b _ e1;exact⟨m1++m2,by rw[e2,Array.append_assoc]⟩ }
theorem gH{B:Heap}(I:Inv X pins Z H s)(hx:X.ex=[])(o:Old (frs X.stack) H s.heap B):Old X.fs X.H₀ X.s₀.heap B:=fun b u e hb=>by
 have ie:b∉X.ex:=by rw[hx];simp
 have hs:b∉frs X.stack:=fun z=>(qh.mp (I.stkSub b z)).elim (fun q=>jd1 _ (zk (zo e) (q ▸ I.ok.above))) hb;obtain⟨o',e1⟩:=I.base.there b u e ie;obtain⟨u',e2,z⟩:=o b o' e1 hs;refine⟨u',e2,fun n=>?_⟩;have e3:=I.base.keep b u e n hb ie;rw[e1] at e3;cases e3;exact z (I.base.free b _ e n ie)
end
theorem Eh.obj{P:Program}{w:World}{h:Heap}{a:Addr}{o:HO}(x:Eh P w H h a o):∃u,h.get? a=some u:=by
 cases o with
 | lst xs=>obtain⟨_,_,_,_,e⟩:=x;exact⟨_,e⟩
 | tup xs=>obtain⟨_,_,_,ob,e,_⟩:=x;exact⟨_,e⟩
 | dK kvs=>obtain⟨_,_,_,_,ob,_,_,e,_⟩:=x;exact⟨_,e⟩
 | dT kvs=>obtain⟨_,_,_,_,ob,_,_,e,_⟩:=x;exact⟨_,e⟩
 | set S n=>obtain⟨ob,_,_,_,e,_⟩:=x;exact⟨_,e⟩
 | ins C dx fs=>obtain⟨_,_,_,e,_⟩:=x;exact⟨_,e⟩
 | own y=>exact x
 | xd fs=>obtain⟨_,⟨ob,_,_,e,_⟩,_⟩:=x;exact⟨_,e⟩
 | rng lo hi=>obtain⟨_,_,_,e⟩:=x;exact⟨_,e⟩
 | frz ob u=>exact⟨_,x.1⟩
 | tbl ps=>exact⟨_,x⟩
 | met f y=>exact⟨_,x⟩
 | ext φ=>exact x.2.1
theorem qU{X:Cx}{pins:List (Addr×Obj)}{H':Hp}{s s':Shared}{e:Addr}{cls:Value}{dx:Option Addr}{E:XK}(I:Inv X pins Z H s)(I':Inv X pins Z H' s')(un:Un (frs X.stack) [] H H' s.heap s'.heap)(os:s'.os=s.os)(O:kZ s'.heap e cls dx .none)(hn:s.heap.get? e=none)(hn':H' e=none)
 (q:E cls dx H'):CXM X.prog X.w X.stack H s E (.ref e) s':=by
 refine⟨e,cls,dx,PySem.W.hideAll s'.heap (e::frs X.stack),H',rfl,os,I'.bare,un,I'.hok,⟨fun b o z=>PySem.W.of_hideAll _ z,PySem.W.hideAll_none _ (by simp),?_⟩,O,fun b u z hb=>?_,fun b o z=>?_,q⟩
 ·refine PySem.W.funFrames_hide I'.stack fun env he a ha=>qf _ ?_;exact jl0.mpr ⟨env,he,ha⟩
 ·have ne:b∉e::frs X.stack:=fun hm=>(qh.mp hm).elim (fun r=>by rw[r,hn] at z;cases z) hb;obtain⟨u',e1⟩:=un.there b u z (by simp);refine⟨u',jo6 _ e1 ne,fun n=>?_⟩;have e2:=un.keep b u z n hb (by simp);rw[e1] at e2;cases e2;rfl
 ·obtain⟨u,hu⟩:=(I'.hok b o z).obj;refine⟨u,hu,jo6 _ hu fun hm=>?_⟩;rcases qh.mp hm with r | r
  ·rw[r,hn'] at z;cases z
  ·rw[I'.stkFree b r] at z;cases z
variable{base:Heap}
theorem lR{P:Program}{w:World}{mg:Str->Option Value}{N:List Str}{qual:Str}{f:Addr}{cd:Value}{A:Around}{outer:List Env}{s₀:Shared}{H₀:Hp}{E:XK}:
 Thr (JH (CX1 P w) P w K mg base N qual scope f cd A outer s₀ H₀ E) (fun c d _ H'=>E c d H') where
 call:=by
  rintro pins Z H s e s' I ⟨ea,cls,dx,B,H',rfl,os,bare,un,hok,sea,tr,old,tra,q⟩;refine pI (A:=(JH (CX1 P w) P w K mg base N qual scope f cd A outer s₀ H₀ E).A) (I.ok.frames) rfl sea tr fun h2 S2 O2 u2=>?_;refine⟨ea,cls,dx,B,H',rfl,os.trans I.os,bare,?_,LR hok tra S2.stays,S2,O2,gH I rfl old,tra.later S2.stays,q⟩;exact lJ I rfl rfl rfl (Mt un old S2.stays u2 (frames_are I un))
 made:=by
  rintro pins Z H s e s' I ⟨ea,cls,dx,B,H',rfl,os,bare,un,hok,sea,tr,old,tra,q⟩;refine leave_new (A:=(JH (CX1 P w) P w K mg base N qual scope f cd A outer s₀ H₀ E).A) (I.ok.frames) rfl sea tr fun h2 S2 O2 u2=>?_;refine⟨ea,cls,dx,B,H',rfl,os.trans I.os,bare,?_,LR hok tra S2.stays,S2,O2,gH I rfl old,tra.later S2.stays,q⟩;exact lJ I rfl rfl rfl (Mt un old S2.stays u2 (frames_are I un))
variable{ps:List Str}{sp:Sp}
section
variable{P:Program}{w:World}{K:Fr}{mg:Str->Option Value}{base:Heap}
theorem Fun.okE{qual:Str}{st:Stmt}{f:Addr}{fd:FuncData}{N:List Str}{k:Nat}(F:Fun K x qual st f fd)(S:Cm N ps (BK st))(len:∀{vs H Q E},sp vs H Q E->vs.length=ps.length)
 (hbody:∀{cdv:Value} {A:Around} {outer:List Env} {s:Shared} (nd:N.Nodup) (H:Hp) (vs:List V) (Q:VK) (E:XK),DW k (A.deeper (envOfC qual (BK st) s.heap.objs.size f cdv))->sp vs H Q E->
  Thr (JH (CX1 P w) P w K mg base N qual (BK st) f cdv A outer s H E) (fun c d _ H'=>E c d H')->
  ∃t,PSs (JH (CX1 P w) P w K mg base N qual (BK st) f cdv A outer s H E) (Cq st) t/\t { nx:=fun _ H'=>Q .non H',rt:=Q } (start N vs) H):Ds P w K mg base (CX1 P w) (k+1) f fd ps sp:=by
 obtain⟨oc,od,kV,doc,pm,an,cdv,ct,osl,rfl,lk,hcd⟩:=F.ex;exact gb lk hcd S (fun _ _ _ _=>len) fun A outer s H vs Q E hr hsp=>hbody S.nd H vs Q E hr hsp lR
end
structure rM(P:Program)(w:World)(K:Fr)(mg:Str->Option Value)(base:Heap)(k:Nat)(x:Str)(ps:List Str)(sp:Sp):Prop where
 ex:∃(f:Addr) (fd:FuncData),Ds P w K mg base (CX1 P w) k f fd ps sp/\Binds K fd ps []/\PySem.W.keepIn K (.ref f)=true/\mg x=some (.ref f)
theorem AAg{P:Program}{w:World}{mg:Str->Option Value}{k:Nat}{f:Addr}{fd:FuncData}(F:Ds P w K mg base CX0 k f fd ps sp):Ds P w K mg base (CX1 P w) k f fd ps sp:=
 ⟨F.len,fun A outer s H args us vs Q E hr e0 hb r hs=>je3 (F.run A outer s H args us vs Q E hr e0 hb r hs) fun z s' q=>by
  cases z with
  | error e=>exact q.elim
  | ok fl=>cases fl<;>exact q⟩
def bD(sp:Sp)(EE:Value->Option Addr->St->Hp->Prop)(t:TA):TE:=fun Z H Q=>t Z H fun vs H1=>sp (vs++[]) H1 Q (fun c d H'=>EE c d Z H')
section
variable{X:Cx}{EE:Value->Option Addr->St->Hp->Prop}
theorem Fb{k:Nat}{e:Expr}{es:List Expr}{t:TA}{p:Pos}(T:Thr X EE)(C:rM X.prog X.w X.K X.mg X.base k x ps sp)(hr:DW k X.A)(hg:Gl X x)(ha:PA X (e::es) t)
 (hdb:(x==("__debug__":Str))=false:=by decide)(he:‹starEach (e::es) X.env=(false,eval e X.env)::starEach es X.env›)(hpl:‹(backTo pos (starEach es X.env)).any (·.1)=false›):
 PE X (.Call (.Name x p) (e::es) [] pos) (bD sp EE t):=by
 intro pins s Z H Q I h;obtain⟨f,fd,F,b,kp,m⟩:=C.ex;refine ja6 (Ih I hg m ?_ hdb);refine Zp (h₀:=X.base) I.ok.mod.kin kp (thn (ha (pos:=pos) pins s Z H _ I h) fun us s1 ⟨vs,H1,I1,r,q⟩=>⟨I1.kIn,?_⟩) he hpl;dsimp only at q;rw[xy] at q;have hl:us.length=ps.length:=by rw[<-r.length];exact F.len _ _ _ _ q
 have hb:=b s1 us I1.kIn (by rw[xy];exact hl);rw[xy] at hb;show wpAny _ _ (call (.ref f) us) _ _ _;refine jn7 (je3 (F.run X.A X.stack s1 H1 ⟨us,[]⟩ us vs Q _ hr I1.env0 hb r q) fun z s' hq=>?_);cases z with
 | error e=>exact T.call pins Z H1 s1 e s' I1 hq
 | ok fl=>
  cases fl with
  | ret u=>exact I1.after hq
  | next=>exact False.elim hq
  | brk=>exact False.elim hq
  | cont=>exact False.elim hq
theorem gf{h:Heap}{bmB:List Value}{newId:String}(KX:K.In h)(q:PySem.W.excIn K C bmB newId=true):
 ∃bm N nm qn bs hd sn sub ab col dd k0 k1 k2 k3 k5 mN,h.get? C=some (excClassObj nm qn C N bs bm hd sn sub ab col dd k0 k1 k2 k3 k5 newId)/\h.Ns N mN/\mN "__init__"=none/\OwnTail h bmB bm:=by
 unfold PySem.W.excIn at q;split at q
 ·rename_i dd cd sl ho
  split at q
  ·rename_i C' bm k0 k1 k2 k3 n k5 hm hs
   simp only[ku,ja7,Bool.not_eq_true'] at q;obtain⟨⟨⟨⟨⟨e1,e2⟩,hdel⟩,ht⟩,hok⟩,hni⟩:=q;subst e1 e2;obtain⟨nm,bs,mro,ns,qn,hd,sn,sub,ab,col,del⟩:=cd;dsimp only at hm hdel hok hni;subst hm hdel;obtain⟨l⟩:=sl;dsimp only at hs;subst hs;exact⟨bm,ns,nm,qn,bs,hd,sn,sub,ab,col,dd,k0,k1,k2,k3,k5,_,KX _ _ ho,.of_isNs (PySem.W.isNs_of_in KX hok),PySem.W.nsMap_none_of_in KX hok hni,PySem.W.tail_of_in KX ht⟩
  ·cases q
 ·cases q
abbrev bmV:List Value:=[.type "ValueError",.type "Exception",.type "BaseException",.type "object"]
structure ACo(K:Fr)(mg:Str->Option Value)(x:Str)(C:Addr):Prop where
 bound:mg x=some (.ref C)
 exc:PySem.W.excIn K C bmV "ValueError.__new__"=true
def az(C:Addr)(EE:Value->Option Addr->St->Hp->Prop)(ta:TA):TS:=fun _ Z H=>ta Z H fun vs H1=>vs.length<=sizeLine/\EE (.ref C) none Z H1
theorem oG{e:Expr}{es:List Expr}{t:TA}{np cpos:Pos}(T:Thr X EE)(hc:X.calm=true)(O:ACo X.K X.mg x C)(hg:Gl X x)(ha:PA X (e::es) t)
 (hdb:(x==("__debug__":Str))=false:=by decide)(he:‹starEach (e::es) X.env=(false,eval e X.env)::starEach es X.env›)(hpl:‹(backTo cpos (starEach es X.env)).any (·.1)=false›):
 PS X (.Raise (some (.Call (.Name x np) (e::es) [] cpos)) none pos) (az C EE t):=by
 intro pins s Z H D I h;obtain⟨tl,N,nm,qn,bs,hd,sn,sub,ab,col,dd,k0,k1,k2,k3,k5,mN,hC,hN,hni,TL⟩:=gf I.ok.mod.kin O.exc;have FV:=PySem.F.excBase_ValueError;refine wpAny_Raise_call_subU (C:=C) (nm:=nm) (q:=qn) (N:=N) (bs:=bs) (bm:=tl) (hdct:=hd) (sn:=sn) (sub:=sub) (ab:=ab) (col:=col) (dd:=dd) (k0:=k0) (k1:=k1) (k2:=k2) (k3:=k3) (k5:=k5)
  FV ∅ FV (mN:=mN) (TL.hasType FV.hasBase) (I.ok.hd hc) ?_ hni (Ih I hg O.bound ⟨rfl,?_⟩ hdb)
 ·rw[he];show(false||(backTo cpos (starEach es X.env)).any (·.1))=false;rw[hpl];rfl
 have hh:=thn (ha (pos:=cpos) pins s Z H _ I h) (Q':=fun vs s₂=>vs.length<=sizeLine/\(∀b o,X.base.get? b=some o->s₂.heap.get? b=some o)/\∀h' ea,Heap.MadeExcOf s₂.heap h' ea (.ref C) vs->X.xe (.ref ea) { s₂ with heap:=h' }) fun us s1 ⟨vs,H1,I1,r,hz,q⟩=>by
  refine⟨by rw[<-r.length];exact hz,I1.bk,fun h' ea M=>?_⟩;obtain⟨ta,e1,_,_⟩:=M.there;have I2:Inv X pins Z H1 { s1 with heap:=h' }:=I1.kept (t':=s1.toks) M.keeps;have hn:H1 ea=none:=by
   cases z:H1 ea with
   | none=>rfl
   | some o=>
    obtain⟨u,hu⟩:=(I1.hok ea o z).obj;rw[M.new] at hu;cases hu
  exact T.made pins Z H1 s1 _ _ I1 (qU I1 I2 (Un.kept M.keeps) rfl ⟨_,#[],e1,rfl⟩ M.new hn q)
 rw[he] at hh ⊢;exact Calls.evalArgs_plain (thn hh fun vs s₂ h₂=>⟨rfl,h₂.1,h₂.2.1 _ _ hC,hN.keeps h₂.2.1,TL.keeps h₂.2.1,h₂.2.2⟩)
end
theorem Inv.re{X Y:Cx}{pins pins':List (Addr×Obj)}{s:Shared}(I:Inv X pins Z H s)(ok:Y.Ok)(e1:Y.prog=X.prog)(e2:Y.w=X.w)(e3:Y.s₀=X.s₀)(e4:Y.outer=X.outer)(e5:Y.ex=X.ex)(e6:Y.H₀=X.H₀)(e7:Y.env=X.env)(e8:Y.N=X.N)
 (hp:∀p∈Y.pn++pins',p∈X.pn++pins):Inv Y pins' Z H s:=by
 obtain⟨P,w,K,mg,base,A,N,s₀,H₀,env,outer,stack,ex,fn,calm,pn,xe⟩:=X;obtain⟨P',w',K',mg',base',A',N',s₀',H₀',env',outer',stack',ex',fn',calm',pn',xe'⟩:=Y;dsimp only at e1 e2 e3 e4 e5 e6 e7 e8;subst e1 e2 e3 e4 e5 e6 e7 e8;exact⟨ok,I.os,I.bare,I.base,I.loc,I.cell,I.free,I.freeC,fun p h=>I.pin p (hp p h),I.hok,I.len⟩
noncomputable abbrev Cx.tr(X:Cx)(xe:Value->Shared->Prop)(pn:List (Addr×Obj)):Cx:={ X with xe:=xe,pn:=pn }
noncomputable abbrev Cx.hd(X:Cx)(e:Addr):Cx:={ X with A:=X.A.mark (some (.ref e)),calm:=false,xe:=fun _ _=>False }
theorem Cx.Ok.tr{X:Cx}(ok:X.Ok)(xe:Value->Shared->Prop)(pn:List (Addr×Obj)):(X.tr xe pn).Ok:=
 ⟨ok.mod,ok.kind,ok.glob,ok.blt,ok.above,ok.inj,ok.has,ok.cab,ok.hd,ok.frames,ok.stk,ok.exf,ok.bs,ok.bsz,ok.noex,ok.exfs,ok.funs,ok.frf⟩
theorem Cx.Ok.hdl{X:Cx}(ok:X.Ok)(e:Addr):(X.hd e).Ok:=
 ⟨ok.mod,ok.kind,ok.glob,ok.blt,ok.above,ok.inj,ok.has,ok.cab,(fun h=>nomatch h),ok.frames,ok.stk,ok.exf,ok.bs,ok.bsz,ok.noex,ok.exfs,ok.funs,ok.frf⟩
noncomputable def kj(a:Addr)(cls:Value)(dx:Option Addr):HO:=.ext fun h=>∃vs sl,h.get? a=some ⟨cls,dx,.fields vs,sl⟩
structure Fl(X:Cx)(pins:List (Addr×Obj))(Z:St)(H:Hp)(s':Shared)(ea:Addr)(cls:Value)(dx:Option Addr):Prop where
 ex:∃(s₀:Shared) (H₀:Hp) (B:Heap),Inv X pins Z H₀ s₀/\s'.os=s₀.os/\AllBare s'.gens/\Un (frs X.stack) [] H₀ H s₀.heap s'.heap/\HOk X.prog X.w H s'.heap/\Sea B X.stack ea s'.heap/\XTr s'.heap B ea cls dx .none/\Old (frs X.stack) H₀ s₀.heap B/\Tra H s'.heap B
section
variable{X:Cx}{pins:List (Addr×Obj)}{Z:St}{H:Hp}{s:Shared}{ea:Addr}{cls:Value}{dx:Option Addr}
theorem Fl.inv(F:Fl X pins Z H s ea cls dx):Inv X pins Z H s:=by
 obtain⟨s₀,H₀,B,I,os,bare,un,hok,_⟩:=F.ex;exact I.call' (ch:=[]) os un hok bare (fun b z=>nomatch z)
theorem Fl.obj(F:Fl X pins Z H s ea cls dx):∃vs sl,s.heap.get? ea=some ⟨cls,dx,.fields vs,sl⟩:=by
 obtain⟨s₀,H₀,B,I,os,bare,un,hok,sea,⟨T,⟨vs,sl,e,_⟩,_⟩,_⟩:=F.ex;exact⟨vs,sl,e⟩
theorem Fl.free(F:Fl X pins Z H s ea cls dx):H ea=none:=by
 obtain⟨s₀,H₀,B,I,os,bare,un,hok,sea,_,_,tra⟩:=F.ex;cases z:H ea with
 | none=>rfl
 | some o=>
  obtain⟨u,_,q⟩:=tra ea o z;rw[sea.new] at q;cases q
theorem Fl.land{Q:Unit->Shared->Prop}{A:Around}{E:Value->Shared->Prop}(F:Fl X pins Z H s ea cls dx)(k:∀s',Inv X pins Z (upd H ea (kj ea cls dx)) s'->Q () s'):wpAny (model X.prog X.w) A (setFlight (.ref ea) none) Q E s:=by
 have hn:=F.free;obtain⟨s₀,H₀,B,I,os,bare,un,hok,sea,tr,old,tra⟩:=F.ex;refine Il sea tr fun h2 S2 O2 u2=>k _ ?_;have un2:=Mt un old S2.stays u2 (frames_are I un);have hok2:=LR hok tra S2.stays;obtain⟨T,⟨vs,sl,e,_⟩,_⟩:=O2;have nf:ea∉frs X.stack:=fun z=>by
  obtain⟨_,o,ho,hn⟩:=S2.frames.mem z;rw[e] at ho;cases ho;exact hn vs rfl
 have new0:s₀.heap.get? ea=none:=by
  cases z:s₀.heap.get? ea with
  | none=>rfl
  | some u=>
   obtain⟨u',q,_⟩:=old ea u z nf;rw[S2.new] at q;cases q
 have ne:∀b u,s₀.heap.get? b=some u->b≠ea:=fun b u q z=>by rw[z,new0] at q;cases q
 refine I.call' (ch:=[]) (s':={ s with heap:=h2 }) os ?_ ?_ bare (fun b z=>nomatch z)
 ·exact⟨un2.keep,un2.slot,fun b o q n hx=>by rw[Ax (ne b o q)];exact un2.free b o q n hx,un2.there,fun b xs q=>by rw[Ax (BX (un2.tups b xs q) hn)];exact un2.tups b xs q,
   fun b o u q=>by rw[Ax (BX (un2.frzs b o u q) hn)];exact un2.frzs b o u q,fun b ps q=>by
    obtain⟨more,z⟩:=un2.tbls b ps q;exact⟨more,by rw[Ax (BX z hn)];exact z⟩⟩
 ·intro a o q;by_cases ha:a=ea
  ·subst ha;rw[Ai] at q;cases q;refine⟨⟨vs,sl,e⟩,⟨_,e⟩,?_⟩;rintro h1 h3 ⟨vs',sl',q⟩ kk;exact⟨vs',sl',kk _ q⟩
  ·rw[Ax ha] at q;refine(hok2 a o q).stay (fun b u _ z=>z) (fun b z=>?_) fun b xs z=>?_
   ·rw[Ax (BX z hn)];exact z
   ·rw[Ax (BX z hn)];exact z
structure ABO(K:Fr)(mg:Str->Option Value)(x:Str)(C:Addr):Prop where
 bound:mg x=some (.ref C)
 ty:PySem.W.typeIn K (.ref C)=some (.type "type")
 cls:(PySem.W.clsIn K C).isSome=true
 base:PySem.W.mroIn K C (.type "BaseException")=some true
theorem jz{mg:Str->Option Value}{M:Model}{A:Around}{E:Value->Shared->Prop}{s:Shared}{e C':Addr}{dx:Option Addr}{vs:Array Value}{sl:Array (Option Value)}{b:Bool}{Q:Bool->Shared->Prop}(KX:K.In s.heap)(O:ABO K mg x C)
 (he:s.heap.get? e=some ⟨.ref C',dx,.fields vs,sl⟩)(hm:PySem.W.mroIn K C' (.ref C)=some b)(q:Q b s):wpAny M A (excMatches (.ref e) (.ref C)) Q E s:=by
 have L1:PySem.W.Looks M s.heap (isInstance (.ref C) (.type "tuple")) false:=(PySem.W.looks_typeIn KX O.ty).andThen (.of_pure tc_notTuple);have L2:PySem.W.Looks M s.heap (isType (.ref C)) true:=by
  have hc:=O.cls;unfold PySem.W.clsIn at hc;split at hc
  ·rename_i c' d' cd' sl' ho
   intro A' Q' E' s' k q;unfold isType loadHead;exact jp (wpAny_loadPart (k _ _ (KX _ _ ho)) (ze q))
  ·cases hc
 have L3:=PySem.W.looks_mroIn (M:=M) KX O.base;have L4:PySem.W.Looks M s.heap (typeOf (.ref e)) (.ref C'):=(PySem.W.Looks.ld he).andThen .now;have L5:=PySem.W.looks_mroIn (M:=M) KX hm;unfold excMatches;refine jp (L1.here ?_);simp only[jk4,if_false];refine jp (ze ?_);refine jp ?_;rw[je9];refine jp (jp ?_);unfold isExcClass;refine jp (L2.here ?_);rw[xo rfl];refine L3.here ?_;simp only[Bool.not_true,jk4,if_false];refine ze ?_;dsimp only;rw[ji7];refine ze (jp (L4.here (jp ?_)));rw[je9];refine jp (jp (L5.here ?_));cases b with
 | true=>
  rw[xo rfl];exact ze (ze (ze q))
 | false=>
  rw[xp qv];refine ze ?_;dsimp only;rw[ji7];exact ze (ze q)
end
theorem SP.re{X Y:Cx}{pins pins':List (Addr×Obj)}{D:Ends}{f:Flow}{s:Shared}(h:SP X pins D f s)(k:∀Z H,Inv X pins Z H s->Inv Y pins' Z H s):SP Y pins' D f s:=by
 cases f with
 | next=>obtain⟨Z,H,I,q⟩:=h;exact⟨Z,H,k _ _ I,q⟩
 | brk=>obtain⟨Z,H,I,q⟩:=h;exact⟨Z,H,k _ _ I,q⟩
 | cont=>obtain⟨Z,H,I,q⟩:=h;exact⟨Z,H,k _ _ I,q⟩
 | ret u=>obtain⟨v,Z,H,I,r,q⟩:=h;exact⟨v,Z,H,k _ _ I,r,q⟩
section
variable{X:Cx}{pins:List (Addr×Obj)}{Z:St}{H:Hp}{s:Shared}
theorem Inv.toHd(I:Inv X pins Z H s)(e:Addr):Inv (X.hd e) pins Z H s:=I.re (I.ok.hdl e) rfl rfl rfl rfl rfl rfl rfl rfl fun _ h=>h
theorem Inv.ofHd{e:Addr}(o:X.Ok)(I:Inv (X.hd e) pins Z H s):Inv X pins Z H s:=I.re o rfl rfl rfl rfl rfl rfl rfl rfl fun _ h=>h
theorem Inv.toTr(I:Inv X pins Z H s)(xe:Value->Shared->Prop):Inv (X.tr xe (X.pn++pins)) [] Z H s:=I.re (I.ok.tr _ _) rfl rfl rfl rfl rfl rfl rfl rfl fun p h=>by simpa using h
theorem Inv.ofTr{pins':List (Addr×Obj)}{xe:Value->Shared->Prop}(o:X.Ok)(I:Inv (X.tr xe (X.pn++pins)) pins' Z H s):Inv X pins Z H s:=
 I.re o rfl rfl rfl rfl rfl rfl rfl rfl fun p h=>ji4 _ h
end
noncomputable abbrev TH:=Value->Option Addr->Addr->Ends->St->Hp->Prop
def PHs(X:Cx)(hs:List ExceptHandler)(t:TH):Prop:=∀(pins:List (Addr×Obj)) (s:Shared) (Z:St) (H:Hp) (D:Ends) (ea:Addr) (cls:Value) (dx:Option Addr),Fl X pins Z H s ea cls dx->t cls dx ea D Z H->
 wpAny (model X.prog X.w) X.A (handleBy (.ref ea) X.env hs) (SP X pins D) X.xe s
def sE:TH:=fun _ _ _ _ _ _=>False
def wk(K:Fr)(C:Addr)(ts:Addr->TS)(tr:TH):TH:=fun cls dx ea D Z H=>∃C' b,cls=.ref C'/\PySem.W.mroIn K C' (.ref C)=some b/\if b=true then ts ea D Z (upd H ea (kj ea cls dx)) else tr cls dx ea D Z H
section
variable{X:Cx}
theorem uX:PHs X [] sE:=fun _ _ _ _ _ _ _ _ _ h=>h.elim
theorem oU{b₀:Stmt}{suite:List Stmt}{np:Pos}{rest:List ExceptHandler}{ts:Addr->TS}{tr:TH}(O:ABO X.K X.mg x C)(hg:Gl X x)(hs:∀ea,PSs (X.hd ea) (b₀::suite) (ts ea))(hr:PHs X rest tr)
 (hdb:(x==("__debug__":Str))=false:=by decide):PHs X (.ExceptHandler (some (.Name x np)) none (b₀::suite) pos::rest) (wk X.K C ts tr):=by
 intro pins s Z H D ea cls dx F h;obtain⟨C',b,rfl,hm,q⟩:=h;obtain⟨vs,sl,he⟩:=F.obj;have I:=F.inv;refine wpAny_handleBy_cons (codeAny_handlers_test ?_) (by intro z;cases z);refine Ih (X:=X.hd ea) (I.toHd ea) hg O.bound ?_ hdb;refine jz I.kIn O he hm ?_;cases b with
 | true=>
  rw[xo rfl] at q;refine codeAny_handlers_suite (F.land fun s' I'=>?_);exact Qb (hs ea s' Z _ D (I'.toHd ea) q) (fun f s2 z=>z.re fun _ _ J=>J.ofHd I.ok) (fun _ _ z=>z.elim)
 | false=>
  rw[xp qv] at q;exact hr pins s Z H D ea _ dx F q
noncomputable abbrev XE:=Value->Option Addr->St->Hp->Prop
def yG(tb:XE->TS)(th:TH):TS:=fun D Z H=>tb (fun c d Z' H'=>∀ea,H' ea=none->th c d ea D Z' H') D Z H
theorem zT{body:List Stmt}{h₀:ExceptHandler}{hs:List ExceptHandler}{tb:XE->TS}{th:TH}(hst:X.stack=X.env::X.outer)(hf:X.env.frame=some X.env.locals)
 (hb:∀xe pn EE,Thr (X.tr xe pn) EE->PSs (X.tr xe pn) body (tb EE))(hh:PHs X (h₀::hs) th):PS X (.Try body (h₀::hs) [] [] pos) (yG tb th):=by
 intro pins s Z H D I h;refine wpAny_Try_except ?_;have fr:X.A.frames=some (X.env::X.outer):=by rw[<-hst];exact I.ok.frames
 generalize hxe:(fun (e:Value) (s1:Shared)=>wpAny (model X.prog X.w) X.A (noteFrame e X.env) (fun _ s2=>wpAny (model X.prog X.w) X.A (setFlight e none) (fun _ s3=>wpAny (model X.prog X.w) X.A (handleBy e X.env (h₀::hs)) (SP X pins D) X.xe s3) X.xe s2) X.xe s1)=xe;have fin:∀(pins':List (Addr×Obj)) (Z':St) (H2 H':Hp) (s2 s':Shared) (ea:Addr) (cls:Value) (dx:Option Addr) (B h4:Heap),Inv (X.tr xe (X.pn++pins)) pins' Z' H2 s2->s'.os=s2.os->AllBare s'.gens->Un (frs X.stack) [] H2 H' s2.heap s'.heap->HOk X.prog X.w H' s'.heap->
  Old (frs X.stack) H2 s2.heap B->Tra H' s'.heap B->Sea B X.stack ea h4->XTr h4 B ea cls dx .none->s'.heap.UpToSlots h4->(∀ea,H' ea=none->th cls dx ea D Z' H')->
  wpAny (model X.prog X.w) X.A (handleBy (.ref ea) X.env (h₀::hs)) (SP X pins D) X.xe { s' with heap:=h4 }:=by
  intro pins' Z' H2 H' s2 s' ea cls dx B h4 I2 os bare un hok old tra S4 O4 u4 q;have I3:=I2.ofTr I.ok;refine hh pins _ Z' H' D ea cls dx ⟨s2,H2,B,I3,os,bare,Mt un old S4.stays u4 (frames_are I3 un),LR hok tra S4.stays,S4,O4,old,tra.later S4.stays⟩ (q ea ?_);cases z:H' ea with
  | none=>rfl
  | some o=>
   obtain⟨u,_,e⟩:=tra ea o z;rw[S4.new] at e;cases e
 have T:Thr (X.tr xe (X.pn++pins)) (fun c d Z' H'=>∀ea,H' ea=none->th c d ea D Z' H'):=by
  constructor
  ·rintro pins' Z' H2 s2 e s' I2 ⟨ea,cls,dx,B,H',rfl,os,bare,un,hok,sea,tr,old,tra,q⟩;show xe (.ref ea) s';rw[<-hxe];have sea':Sea B (X.env::X.outer) ea s'.heap:=by rw[<-hst];exact sea
   refine gK fr hf sea' tr fun h3 S3 O3 u3=>Il (s:={ s' with heap:=h3 }) S3 O3 fun h4 S4 O4 u4=>?_;exact fin pins' Z' H2 H' s2 s' ea cls dx B h4 I2 os bare un hok old tra (by rw[hst];exact S4) O4 (u3.trans u4) q
  ·rintro pins' Z' H2 s2 e s' I2 ⟨ea,cls,dx,B,H',rfl,os,bare,un,hok,sea,tr,old,tra,q⟩;show xe (.ref ea) s';rw[<-hxe];have sea':Sea B (X.env::X.outer) ea s'.heap:=by rw[<-hst];exact sea
   refine Zn fr hf sea' tr fun h3 S3 O3 u3=>Il (s:={ s' with heap:=h3 }) S3 O3 fun h4 S4 O4 u4=>?_;exact fin pins' Z' H2 H' s2 s' ea cls dx B h4 I2 os bare un hok old tra (by rw[hst];exact S4) O4 (u3.trans u4) q
 refine Qb (hb xe _ _ T s Z H D (I.toTr xe) h) (fun f s1 z=>?_) (fun e s1 z=>?_)
 ·have z':SP X pins D f s1:=z.re fun _ _ J=>J.ofTr I.ok;cases f with
  | next=>exact jl2 z'
  | brk=>exact z'
  | cont=>exact z'
  | ret u=>exact z'
 ·exact z
end
section
variable{prog:Program}{w:World}{A:Around}{E:Value->Shared->Prop}{s:Shared}{K:Fr}{x D:Addr}{ox:Obj}{odo:Option Obj}{name:Str}
structure AAw(K:Fr)(D:Addr):Prop where
 ga:PySem.W.findIn K (.ref D) "__getattribute__"=some (some (.builtin "BaseException.__getattribute__"))
 gk:PySem.W.findIn K (.ref D) "__getattr__"=some none
 be:PySem.W.mroIn K D (.type "BaseException")=some true
 ob:PySem.W.mroIn K D (.type "object")=some true
 ca:PySem.W.findIn K (.ref D) "__class__"=some (some (.builtin "object.__class__"))
 cl:(PySem.W.clsIn K D).isSome=true
 sp:PySem.W.specialIn K (.builtin "object.__class__") "__get__"=some (some (.builtin "getset_descriptor.__get__"))
 tk:PySem.W.takesIn K (.builtin "object.__class__")=some true
end
section
variable{X:Cx}
end
structure Wg(k:Nat)(A:Around):Prop where
 dp:A.depth+3*k+5<recursionLimit
 un:A.units+16*k+200<cLine
 gd:A.guards=some []
theorem Wg.mono{j k:Nat}{A:Around}(r:Wg k A)(h:j<=k):Wg j A:=⟨by have:=r.dp;lia,by have:=r.un;lia,r.gd⟩
theorem DW.toN{k:Nat}{A:Around}(r:DW k A):Wg k A:=⟨r.dp,r.un,r.gd⟩
section
variable{P:Program}{w:World}{K:Fr}{mg:Str->Option Value}{base:Heap}
end
section
variable{X:Cx}
end
theorem vX(h:PySem.W.hasDictIn K C=true):(PySem.W.clsIn K C).isSome=true:=by
 obtain⟨cd,e,_⟩:=PySem.W.any_some h;rw[e];rfl
theorem Jk(a:Addr):RelV (.ref a) (.ref a):=rfl
theorem uK{C':Addr}{ts:Addr->TS}{tr:TH}{dx:Option Addr}{ea:Addr}{D:Ends}(hm:PySem.W.mroIn K C' (.ref C)=some true)(h:ts ea D Z (upd H ea (kj ea (.ref C') dx))):wk K C ts tr (.ref C') dx ea D Z H:=⟨C',true,rfl,hm,by rw[xo rfl];exact h⟩
section
variable{X:Cx}
end
section
variable{prog:Program}{w:World}{A:Around}{E:Value->Shared->Prop}{h:Heap}{g:Array GenState}{d:Drawn}{t:Nat}{os:OsState}{K:Fr}{f:Addr}
variable{nm q:Str}{C N:Addr}{bs bm:List Value}{hdct:Bool}{sn:List Str}{sub:List Value}{ab:Bool}{col:Option Bool}{dd:Option Addr}{k0 k1 k2 k3 k5:Option Value}
end
section
variable{prog:Program}{w:World}{A:Around}{E:Value->Shared->Prop}{h:Heap}{g:Array GenState}{d:Drawn}{t:Nat}{os:OsState}{K:Fr}{e:Addr}
variable{nm q:Str}{C N:Addr}{bs bm:List Value}{hdct:Bool}{sn:List Str}{sub:List Value}{ab:Bool}{col:Option Bool}{dd:Option Addr}{k0 k1 k2 k3 k5:Option Value}{newId:String}
variable{x CF:Addr}{cd:ClassData}{name:Str}{v:Value}{vs:Array Value}{sl:Array (Option Value)}
end
structure ACn(K:Fr)(C CF:Addr):Prop where
 obj:∃dd cd k0 k1 k2 k3 k5,K.lookup C=some ⟨.type "type",dd,.cls cd,#[k0,k1,k2,k3,some (.builtin "ValueError.__new__"),k5]⟩/\cd.mro=.ref C::.ref CF::bmV/\cd.hasDel=false/\cd.hasDict=true
 base:PySem.W.excIn K CF bmV "ValueError.__new__"=true
 sa:PySem.W.findIn K (.ref C) "__setattr__"=some (some (.builtin "object.__setattr__"))
section
variable{K:Fr}{C CF:Addr}{h:Heap}
end
section
variable{X:Cx}{pins:List (Addr×Obj)}{Z:St}{H:Hp}{s:Shared}{h':Heap}
variable{o value:Expr}{f:Str}{pos pos':Pos}{ta tv:TE}
end
section
variable{M:Model}{A:Around}{E:Value->Shared->Prop}
end
section
variable{X:Cx}{EE:Value->Option Addr->St->Hp->Prop}
end
noncomputable def Cr(i:Int):Str:=Str.ofString (toString i)
noncomputable def shI(is:List Int):Str:=tupleText (is.map Cr)
inductive rH(K:Fr)(H:Hp):V->Str->Prop
 | int {i:Int}:i.natAbs.log2<1920->rH K H (.int i) (Cr i)
 | str {z:Str}:z.length<=sizeLine->rH K H (.str z) z
 | tup {a:Addr} {is:List Int}:SqT K H a (is.map V.int)->(∀i∈is,i.natAbs.log2<1920)->(shI is).length<=sizeLine->rH K H (.ref a) (shI is)
theorem shownAll_ints:∀is:List Int,PyData.shownAll (is.map PyData.int)=is.map Cr
 | []=>by simp[PyData.shownAll]
 | i::is=>by simp only[qo,PyData.shownAll,PyData.shown,shownAll_ints is];rfl
theorem showableAll_ints:∀is:List Int,(∀i∈is,i.natAbs.log2<1920)->PyData.showableAll (is.map PyData.int)=true
 | [],_=>by simp[PyData.showableAll]
 | i::is,h=>by
  simp only[qo,PyData.showableAll,PyData.showable,showableAll_ints is fun j hj=>h j (qf _ hj),Bool.and_true,decide_eq_true_eq];exact h i (qc ..)
theorem J5:∀is:List Int,PyData.hasDictAll (is.map PyData.int)=false
 | []=>by simp[PyData.hasDictAll]
 | i::is=>by simp only[qo,PyData.hasDictAll,PyData.hasDict,J5 is,Bool.or_self]
theorem depthAll_ints:∀is:List Int,PyData.depthAll (is.map PyData.int)<=1
 | []=>by simp[PyData.depthAll]
 | i::is=>by
  have:=depthAll_ints is;simp only[qo,PyData.depthAll,PyData.depth];lia
theorem readsAll_ints{h:Heap}:∀{is:List Int} {us:List Value},Vals (is.map V.int) us->ReadsAll h us (is.map PyData.int) []
 | [],_,.nil=>.nil
 | i::is,_,.cons r t=>by
  obtain⟨tk,rfl⟩:=(show ∃tk,_=Value.int i tk from r);exact .cons (as:=[]) (bs:=[]) (.int i tk) (readsAll_ints t)
section
variable{X:Cx}{pins:List (Addr×Obj)}{Z:St}{H:Hp}{s:Shared}
theorem AAc{k:Nat}{x:V}{u:Value}{y:Str}(hr:Wg k X.A)(I:Inv X pins Z H s)(r:RelV x u)(f:rH X.K H x y)(q:Q (.str y) H):wpAny (model X.prog X.w) X.A (formatField u Str.empty) (EP X pins Z Q) X.xe s:=by
 cases f with
 | int h=>
  obtain⟨t,rfl⟩:=(show ∃t,u=Value.int _ t from r);exact wpAny_formatField_int h ⟨.str (Cr _),H,I.tok _,⟨_,rfl⟩,q⟩
 | str h=>
  obtain⟨t,rfl⟩:=(show ∃t,u=Value.str y t from r);exact wpAny_formatField_str ⟨.str y,H,I,⟨_,rfl⟩,q⟩ ⟨.str y,H,I.tok _,⟨_,rfl⟩,q⟩ h
 | @tup a is hs hi hz=>
  cases (show u=Value.ref a from r);obtain⟨its,vr,⟨o,ho,hc,n,hd⟩,hl⟩:=I.tuple hs;have rd:Reads s.heap (.ref a) (.tuple (is.map PyData.int)) []:=.tuple ho hc hd (readsAll_ints vr);have e:(PyData.tuple (is.map PyData.int)).shown=shI is:=by simp only[PyData.shown,shownAll_ints];rfl
  have hdp:(PyData.tuple (is.map PyData.int)).depth<=3:=by
   have:=depthAll_ints is;simp only[PyData.depth];lia
  refine formatField_of_reads rd (by simp only[PyData.showable];exact showableAll_ints is hi) (PyData.noDict_hsm (by simp only[PyData.hasDict];exact J5 is)) hr.gd (by have:=hr.un;lia) (fun _ _ z=>z) (fun h' u tk hk=>?_) (by rw[e];exact hz);rw[e];exact⟨.str (shI is),H,I.kept hk,⟨_,rfl⟩,q⟩
end
def lX(K:Fr)(tv:TE):TE:=fun Z H Q=>tv Z H fun x H1=>∃y,rH K H1 x y/\Q (.str y) H1
noncomputable abbrev TJ:=Str->St->Hp->VK->Prop
def PJ(X:Cx)(es:List Expr)(t:TJ):Prop:=∀ ⦃pins:List (Addr×Obj)⦄ (s:Shared) (Z:St) (H:Hp) (out:Str) (Q:VK),Inv X pins Z H s->t out Z H Q->wpAny (model X.prog X.w) X.A (joinParts out (evalEach es X.env)) (EP X pins Z Q) X.xe s
def ACZ:TJ:=fun out _ H Q=>out.length<=sizeLine/\Q (.str out) H
def WD(te:TE)(t:TJ):TJ:=fun out Z H Q=>te Z H fun x H1=>∃y,x=.str y/\(out++y).length<=sizeLine/\t (out++y) Z H1 Q
def wj(t:TJ):TE:=fun Z H Q=>t Str.empty Z H Q
section
variable{X:Cx}{k:Nat}{e e₂:Expr}{es:List Expr}{te:TE}{t:TJ}{pos:Pos}
theorem Te(hr:Wg k X.A)(h:PE X e te):PE X (.FormattedValue e (-1) none pos) (lX X.K te):=by
 intro pins s Z H Q I hw;refine FormattedValue_plain (thn (h s Z H _ I hw) fun u s1 hZ=>?_);obtain⟨x,H1,I1,r,y,f,q⟩:=hZ;exact AAc hr I1 r f q
theorem oN:PJ X [] ACZ:=fun pins s Z H out Q I h=>joinParts_nil ⟨.str out,H,I.tok _,⟨_,rfl⟩,h.2⟩ h.1
theorem Ie(h1:PE X e te)(h2:PJ X es t):PJ X (e::es) (WD te t):=by
 intro pins s Z H out Q I h;show wpAny _ _ (joinParts out (eval e X.env::evalEach es X.env)) _ _ _;refine joinParts_cons (thn (h1 s Z H _ I h) fun u s1 hZ=>?_);obtain⟨x,H1,I1,r,y,ex,hz,q⟩:=hZ;subst ex;obtain⟨tk,rfl⟩:=(show ∃tk,u=Value.str y tk from r);exact⟨hz,h2 s1 Z H1 (out++y) Q I1 q⟩
theorem gA(h:PJ X (e::e₂::es) t):PE X (.JoinedStr (e::e₂::es) pos) (wj t):=fun pins s Z H Q I hw=>JoinedStr_many (h s Z H Str.empty Q I hw)
end
def wW(K:Fr)(ta:TE)(f:Str):TE:=fun Z H Q=>ta Z H fun x H1=>∃a C d fs v,x=.ref a/\H1 a=some (kj a (.ref C) (some d))/\H1 d=some (.xd fs)/\AAw K C/\PySem.W.hasDictIn K C=true/\PySem.W.findIn K (.ref C) f=some none/\fs.lookup f=some v/\Q v H1
section
variable{X:Cx}{e:Expr}{f:Str}{pos:Pos}{ta:TE}
end
section
variable{X:Cx}{EE:Value->Option Addr->St->Hp->Prop}
structure Mr(P:Program)(w:World)(K:Fr)(mg:Str->Option Value)(base:Heap)(CX:CXT)(k:Nat)(C:Addr)(m:Str)(ps:List Str)(sp:Sp):Prop where
 ex:∃(f:Addr) (fd:FuncData),Ds P w K mg base CX k f fd ps sp/\Binds K fd ps []/\Meth K C m f
structure aV(P:Program)(w:World)(K:Fr)(mg:Str->Option Value)(base:Heap)(CX:CXT)(k:Nat)(x:Str)(C:Addr)(ps:List Str)(sp:Sp):Prop where
 ex:∃(f:Addr) (fd:FuncData),Ds P w K mg base CX k f fd ps sp/\Binds K fd ps []/\Mk K C f/\mg x=some (.ref C)
variable{C:Addr}{m x:Str}{k:Nat}{ps:List Str}{sp:Sp}{o e:Expr}{es:List Expr}{ta:TE}{t:TA}{apos pos p:Pos}
theorem DX{pl:Sem Bool}(O:Mr X.prog X.w X.K X.mg X.base CX0 k C m ps sp)(c:Cls X.K C)(he:PE X o ta)(ha:PA X (e::es) t)(hr:DW k X.A:=by walk_at"hr")
 (hst:‹starEach (e::es) X.env=(false,eval e X.env)::starEach es X.env›)(hpl:‹(backTo pos (starEach es X.env)).any (·.1)=false›)
 (ht:‹eval (.Call (.Attribute o m apos) (e::es) [] pos) X.env=(do
  let ov <-eval o X.env
  standAt apos.atName
  let (f,first) <-holding [ov] (getMethod ov m pl)
  callWith pos f first (backTo pos (starEach (e::es) X.env)) (backToKw pos (keywordEach [] X.env)))›):
 PE X (.Call (.Attribute o m apos) (e::es) [] pos) (Yo C m sp [] E0 ta t):=by
 obtain⟨f,fd,F,hb,M⟩:=O.ex;exact uZ (pl:=pl) he c M F hr hb .nil Nh ha hst hpl ht
theorem DG{pl:Sem Bool}(O:Mr X.prog X.w X.K X.mg X.base CX0 k C m ps sp)(c:Cls X.K C)(he:PE X o ta)(hr:DW k X.A:=by walk_at"hr")
 (ht:‹eval (.Call (.Attribute o m apos) [] [] pos) X.env=(do
  let ov <-eval o X.env
  standAt apos.atName
  let (f,first) <-holding [ov] (getMethod ov m pl)
  callWith pos f first (backTo pos (starEach [] X.env)) (backToKw pos (keywordEach [] X.env)))›):
 PE X (.Call (.Attribute o m apos) [] [] pos) (Yo C m sp [] E0 ta Ma):=by
 obtain⟨f,fd,F,hb,M⟩:=O.ex;exact oY (pl:=pl) he c M F hr hb .nil Nh ht
theorem GK(O:aV X.prog X.w X.K X.mg X.base CX0 k x C ps sp)(ha:PA X (e::es) t)(hr:DW (k+1) X.A:=by walk_at"hr")(hg:Gl X x:=by exact rfl)
 (hdb:(x==("__debug__":Str))=false:=by decide)(he:‹starEach (e::es) X.env=(false,eval e X.env)::starEach es X.env›)(hpl:‹(backTo pos (starEach es X.env)).any (·.1)=false›):
 PE X (.Call (.Name x p) (e::es) [] pos) (Vu C sp [] E0 t):=by
 obtain⟨f,fd,F,hb,M,hm⟩:=O.ex;exact f9 M F hr hg hm hb .nil Nh ha hdb he hpl
def lV(C:Addr)(m:Str)(sp:Sp)(EE:Value->Option Addr->St->Hp->Prop)(ta:TE)(t:TA):TE:=fun Z H Q=>ta Z H fun x H1=>∃a dx fs,x=.ref a/\H1 a=some (.ins C dx fs)/\fs.lookup m=none/\
 t Z H1 fun vs H2=>sp (x::(vs++[])) H2 Q (fun c d H'=>EE c d Z H')
def lW(C:Addr)(sp:Sp)(EE:Value->Option Addr->St->Hp->Prop)(t:TA):TE:=fun Z H Q=>t Z H fun vs H1=>∀x dx,H1 x=none->H1 dx=none->dx≠x->
 sp (.ref x::(vs++[])) (upd (upd H1 dx (.own x)) x (.ins C dx [])) (fun v H2=>v=.non/\Q (.ref x) H2) (fun c d H'=>EE c d Z H')
theorem fL{pins:List (Addr×Obj)}{s:Shared}{f:Addr}{fd:FuncData}{us:List Value}{vs:List V}(T:Thr X EE)(F:Ds X.prog X.w X.K X.mg X.base (CX1 X.prog X.w) k f fd ps sp)(hr:DW k X.A)(hb:Binds X.K fd ps [])
 (I:Inv X pins Z H s)(r:Vals vs us)(h:sp (vs++[]) H Q (fun c d H'=>EE c d Z H')):wpAny (model X.prog X.w) X.A (call (.ref f) us) (EP X pins Z Q) X.xe s:=by
 have r2:Vals (vs++[]) (us++[]):=r.append .nil;have hl:(us++[]).length=ps.length:=by rw[<-r2.length];exact F.len _ _ _ _ h
 refine jn7 (je3 (F.run X.A X.stack s H ⟨us,[]⟩ (us++[]) (vs++[]) Q _ hr I.env0 (hb s us I.kIn hl) r2 h) fun r s' hq=>?_);cases r with
 | error e=>exact T.call pins Z H s e s' I hq
 | ok fl=>
  cases fl with
  | ret u=>exact I.after hq
  | next=>exact False.elim hq
  | brk=>exact False.elim hq
  | cont=>exact False.elim hq
theorem HX{pl:Sem Bool}(T:Thr X EE)(O:Mr X.prog X.w X.K X.mg X.base (CX1 X.prog X.w) k C m ps sp)(c:Cls X.K C)(hr:DW k X.A)(he:PE X o ta)(ha:PA X (e::es) t)
 (hst:‹starEach (e::es) X.env=(false,eval e X.env)::starEach es X.env›)(hpl:‹(backTo pos (starEach es X.env)).any (·.1)=false›)
 (ht:‹eval (.Call (.Attribute o m apos) (e::es) [] pos) X.env=(do
  let ov <-eval o X.env
  standAt apos.atName
  let (f,first) <-holding [ov] (getMethod ov m pl)
  callWith pos f first (backTo pos (starEach (e::es) X.env)) (backToKw pos (keywordEach [] X.env)))›):
 PE X (.Call (.Attribute o m apos) (e::es) [] pos) (lV C m sp EE ta t):=by
 intro pins s Z H Q I h;obtain⟨f,fd,F,hb,hm⟩:=O.ex;refine jb5 (pl:=pl) (thn (he s Z H _ I h) fun u s1 hZ=>?_) ht;obtain⟨x,H1,I1,rx,a,dx,fs,ex,ea,l,q⟩:=hZ;subst ex;obtain rfl:u=Value.ref a:=rx;refine HB I1 ea c hm l ?_;refine Zp (first:=[.ref a]) (h₀:=X.base) I.ok.mod.kin hm.kp (thn (ha (pos:=pos) pins s1 Z H1 _ I1 q) fun us s2 ⟨vs,H2,I2,r,q2⟩=>⟨I2.kIn,?_⟩) hst hpl
 exact fL (us:=.ref a::us) (vs:=.ref a::vs) T F hr hb I2 (.cons rfl r) q2
theorem zU(T:Thr X EE)(O:aV X.prog X.w X.K X.mg X.base (CX1 X.prog X.w) k x C ps sp)(hr:DW (k+1) X.A)(hg:Gl X x)(ha:PA X (e::es) t)
 (hdb:(x==("__debug__":Str))=false:=by decide)(he:‹starEach (e::es) X.env=(false,eval e X.env)::starEach es X.env›)(hpl:‹(backTo pos (starEach es X.env)).any (·.1)=false›):
 PE X (.Call (.Name x p) (e::es) [] pos) (lW C sp EE t):=by
 intro pins s0 Z H0 Q I0 h0;obtain⟨f,fd,F,hb,M,hm⟩:=O.ex;refine ja6 (Ih I0 hg hm ?_ hdb);refine Zp (h₀:=X.base) I0.ok.mod.kin M.kp (thn (ha (pos:=pos) pins s0 Z H0 _ I0 h0) fun us s ⟨vs,H,I,r,h⟩=>⟨I.kIn,?_⟩) he hpl;have hq:=h (s.heap.objs.size+1) s.heap.objs.size (I.hok.fresh (Nat.le_succ _)) (I.hok.fresh (qg _)) (vv (jn4 _));have I2:=Inv.made (C:=C) I;have r2:Vals (V.ref (s.heap.objs.size+1)::(vs++[])) (Value.ref (s.heap.objs.size+1)::(us++[])):=.cons rfl (r.append .nil);have hl:(Value.ref (s.heap.objs.size+1)::us++[]).length=ps.length:=by
  have e:=r2.length;rw[F.len _ _ _ _ hq] at e;exact e.symm
 have hb2:BindsTo _ fd ⟨Value.ref (s.heap.objs.size+1)::us,[]⟩ (ps.zip (Value.ref (s.heap.objs.size+1)::(us++[]))):=hb _ (Value.ref (s.heap.objs.size+1)::us) I2.kIn hl;show wpAny _ _ (call (.ref C) us) _ _ _;refine jn7 (Zt (f:=f) I.kIn M.makes M.init (ja7.mp M.fn) (je3 (F.run _ X.stack _ _ ⟨Value.ref (s.heap.objs.size+1)::us,[]⟩ (Value.ref (s.heap.objs.size+1)::(us++[])) _ _ _ (hr.make C us [])
  (I2.env0.make C us []) hb2 r2 hq) fun r s' hq'=>?_))
 cases r with
 | error e=>exact T.call pins Z _ _ e s' I2 hq'
 | ok fl=>
  cases fl with
  | ret u=>
   obtain⟨v,H',I3,rv,ev,q3⟩:=I2.after hq';subst ev;exact⟨rv,⟨V.ref (s.heap.objs.size+1),H',I3,rfl,q3⟩⟩
  | next=>exact False.elim hq'
  | brk=>exact False.elim hq'
  | cont=>exact False.elim hq'
end
theorem Ko{i:Int}(h:i.natAbs.log2<1920):(Cr i).length<=1921:=by
 have e:=int_text_length_le (k:=1920) nofun h;unfold Cr;rw[PySem.ofString_length];lia
theorem fits{s:Str}{n:Nat}(h:s.length<=n)(hn:n<=100000):s.length<=sizeLine:=zn h (zn hn nofun)
theorem fU{out:Str}(h:out.length<=sizeLine)(q:Q (.str out) H):ACZ out Z H Q:=⟨h,q⟩
theorem fV{t:TJ}{out:Str}(n:Nat)(hn:out.length<=n)(hz:n+x.length<=100000)(h:(out++x).length<=n+x.length->t (out++x) Z H Q):WD (tC (.str x)) t out Z H Q:=by
 have e:(out++x).length<=n+x.length:=by rw[strLen_append];lia
 exact⟨x,rfl,fits e hz,h e⟩
theorem nU{j:Nat}{i:Int}{t:TJ}{out:Str}(n:Nat)(hn:out.length<=n)(hz:n+1921<=100000)(hv:Z[j]?=some (some (.int i)))(hi:i.natAbs.log2<1920)(h:(out++Cr i).length<=n+1921->t (out++Cr i) Z H Q):
 WD (lX K (Iu j)) t out Z H Q:=by
 have e:(out++Cr i).length<=n+1921:=by have:=Ko hi;rw[strLen_append];lia
 unfold WD lX;exact KR hv ⟨Cr i,.int hi,Cr i,rfl,fits e hz,h e⟩
theorem xK{j:Nat}{z:Str}{t:TJ}{out:Str}(n m:Nat)(hn:out.length<=n)(hm:z.length<=m)(hz:n+m<=100000)(hv:Z[j]?=some (some (.str z)))(h:(out++z).length<=n+m->t (out++z) Z H Q):
 WD (lX K (Iu j)) t out Z H Q:=by
 have e:(out++z).length<=n+m:=by rw[strLen_append];lia
 unfold WD lX;exact KR hv ⟨z,.str (fits hm ⋯),z,rfl,fits e hz,h e⟩
section
variable{X:Cx}
theorem Fj:Thr X (fun _ _ _ _=>False) where
 call:=fun _ _ _ _ _ _ _ h=>by
  obtain⟨_,_,_,_,_,_,_,_,_,_,_,_,_,_,q⟩:=h;exact q.elim
 made:=fun _ _ _ _ _ _ _ h=>by
  obtain⟨_,_,_,_,_,_,_,_,_,_,_,_,_,_,q⟩:=h;exact q.elim
theorem Mi{t:TT}{ta tb:TE}(h:t Z H fun c H1=>if c=true then ta Z H1 Q else tb Z H1 Q):tIf t ta tb Z H Q:=h
def ADS(K:Fr):List V->Hp->VK->Prop:=fun xs H Q=>∃(p:Addr) (ns:List Int),xs=[.ref p]/\SqL K H p (ns.map V.int)/\Q (.int ns.sum) H
theorem Ue(hc:X.calm=true):Ir X (.builtin "sum") (ADS X.K):=by
 intro pins s Z H xs us Q I r h;obtain⟨p,ns,rfl,hq,q⟩:=h;obtain⟨u,rfl,ru⟩:=vals1 r;cases (show u=Value.ref p from ru);obtain⟨its,rv,pl,_⟩:=I.list hq;have hi:=intsAre_of rv;obtain⟨xs,hx⟩:=hi.allInts.items;have hl':s.heap.IsList p (intItems xs):=hx ▸ pl.isList;refine sum_intListG (I.ok.hd hc) hl' fun h' tk t' hk=>?_;have e1:ns=xs.toList.map (·.1):=by
  rw[<-nums_intItems,<-hx];exact(show numsOf its.toArray.toList=ns from hi.numsOf).symm
 have e2:preSum (numAt xs) xs.size=ns.sum:=by
  rw[preSum_eq,ke (by simp),e1]
 rw[e2];exact⟨.int ns.sum,H,I.kept hk,⟨_,rfl⟩,q⟩
def ACH(K:Fr):List V->Hp->VK->Prop:=fun xs H Q=>∃(p:Addr) (ns:List Int),xs=[.ref p]/\SqL K H p (ns.map V.int)/\ns≠[]/\∀m,m∈ns->(∀a∈ns,m<=a)->Q (.int m) H
def ACI(K:Fr):List V->Hp->VK->Prop:=fun xs H Q=>∃(p:Addr) (ns:List Int),xs=[.ref p]/\SqL K H p (ns.map V.int)/\ns≠[]/\∀m,m∈ns->(∀a∈ns,a<=m)->Q (.int m) H
theorem j9(hc:X.calm=true):Ir X (.builtin "min") (ACH X.K):=by
 intro pins s Z H xs us Q I r h;obtain⟨p,ns,rfl,hq,hne,q⟩:=h;obtain⟨u,rfl,ru⟩:=vals1 r;cases (show u=Value.ref p from ru);obtain⟨its,rv,pl,_⟩:=I.list hq;have hi:=intsAre_of rv;obtain⟨xs,e⟩:=hi.allInts.items;have hns:ns=xs.toList.map (·.1):=by
  rw[<-nums_intItems,<-e];exact(show numsOf its.toArray.toList=ns from hi.numsOf).symm
 have hsz:0<xs.size:=by
  have h3:=List.length_pos_iff.mpr hne;rw[hns,js,ka] at h3;exact h3
 have hl':s.heap.IsList p (intItems xs):=e ▸ pl.isList;refine min_intList (I.ok.hd hc) hl' hsz fun v h' tk hv hk=>?_;obtain⟨t,rfl⟩:=intItems_at hv;obtain⟨h1,h2⟩:=argBest_lt (numAt xs) (xs.size-1);refine⟨.int _,H,I.kept hk,⟨_,rfl⟩,q _ ?_ fun a ha=>?_⟩
 ·rw[hns,numAt_eq];exact getD_mem (by rw[js,ka];lia)
 ·rw[hns] at ha;obtain⟨j,hj,rfl⟩:=mem_getD ha;rw[js,ka] at hj;rw[<-numAt_eq];exact h2 j ⋯
theorem kE(hc:X.calm=true):Ir X (.builtin "max") (ACI X.K):=by
 intro pins s Z H xs us Q I r h;obtain⟨p,ns,rfl,hq,hne,q⟩:=h;obtain⟨u,rfl,ru⟩:=vals1 r;cases (show u=Value.ref p from ru);obtain⟨its,rv,pl,_⟩:=I.list hq;have hi:=intsAre_of rv;obtain⟨xs,e⟩:=hi.allInts.items;have hns:ns=xs.toList.map (·.1):=by
  rw[<-nums_intItems,<-e];exact(show numsOf its.toArray.toList=ns from hi.numsOf).symm
 have hsz:0<xs.size:=by
  have h3:=List.length_pos_iff.mpr hne;rw[hns,js,ka] at h3;exact h3
 have hl':s.heap.IsList p (intItems xs):=e ▸ pl.isList;refine max_intList (I.ok.hd hc) hl' hsz fun v h' tk hv hk=>?_;obtain⟨t,rfl⟩:=intItems_at hv;obtain⟨h1,h2⟩:=argBest_gt (numAt xs) (xs.size-1);refine⟨.int _,H,I.kept hk,⟨_,rfl⟩,q _ ?_ fun a ha=>?_⟩
 ·rw[hns,numAt_eq];exact getD_mem (by rw[js,ka];lia)
 ·rw[hns] at ha;obtain⟨j,hj,rfl⟩:=mem_getD ha;rw[js,ka] at hj;rw[<-numAt_eq];exact h2 j ⋯
end
section
variable{X:Cx}{M:List Str}{x:Str}{scope:Scope}{cl:List (Str×Addr)}{C:Addr}{s₀:Shared}{H₀:Hp}{fp:List Addr}
theorem JT:IxR (Mp X M x scope cl C s₀ H₀ fp) (uU X.K):=Km
end
section
variable{X:Cx}{tg:Expr}
def AAZ(ta:TA):TI:=fun Z H R=>ta Z H fun vs H1=>∃i j:Int,vs=[.int i,.int j]/\R (Itr i (j-i).toNat) H1
theorem nQ{R:It->Hp->Prop}(h:ta Z H fun vs H1=>∃i j:Int,vs=[.int i,.int j]/\R (Itr i (j-i).toNat) H1):AAZ ta Z H R:=h
end
section
variable{X:Cx}
def xP:V->List V->Hp->VK->Prop:=fun x vs H Q=>∃n:Int,x=.int n/\vs=[]/\Q (.int ((Builtin.Int.intBits n:Nat):Int)) H
theorem Xn:MtR X "int.bit_length" xP:=by
 intro pins s Z H x vs v us Q I rx rv h;obtain⟨n,rfl,rfl,q⟩:=h;obtain⟨t,rfl⟩:=rx;cases rv.zero;exact call_int_bit_length ⟨.int _,H,I.tok _,⟨_,rfl⟩,q⟩
end
theorem oE{n:Int}(h:Q (.int ((Builtin.Int.intBits n:Nat):Int)) H):tyV K "int" (.int n) H/\xP (.int n) [] H Q:=⟨rfl,n,rfl,rfl,h⟩
theorem J2{T:String}{r:V->List V->Hp->VK->Prop}{to:TE}{t:TA}(h:to Z H fun x H1=>tyV K T x H1/\t Z H1 fun xs H2=>r x xs H2 Q):tBM K T r to t Z H Q:=h
theorem PL{i:Nat}{t:TA}{l:Addr}(e:Z[i]?=some (some (.ref l)))(h:H l=some (.lst xs))
 (g:t Z H fun ys H2=>Rf (.ref l) ys H2 Q):tBM K "list" Rf (Iu i) t Z H Q:=by unfold tBM;exact KR e ⟨.inl ⟨rfl,_,SqL.of h⟩,g⟩
theorem Kp{b:Nat}(h:b≠0):Builtin.Int.intBits (b:Int)=b.log2+1:=by
 unfold Builtin.Int.intBits;rw[xp (by simp;lia),Int.natAbs_natCast]
theorem dU{b:Nat}(h:b≠0):Builtin.bitAnd (b:Int) (-(b:Int))=(b:Int)-((b &&& (b-1):Nat):Int):=by
 unfold Builtin.bitAnd;rw[decide_eq_true (jk8 b),decide_eq_false ⋯];show(b:Int)-(((b:Int).toNat &&& (Builtin.bitNot (-(b:Int))).toNat:Nat):Int)=_;unfold Builtin.bitNot;rw[xc,show(-(-(b:Int))-1).toNat=b-1 by lia]
theorem vV{m k:Nat}(h:k<m):ixN m (k:Int)=some k:=by
 unfold ixN;rw[xo ⋯,xo ⋯,xc]
theorem NQ{p:Addr}{k:Nat}{v:V}{Q:Hp->Prop}(h:H p=some (.lst xs))(hk:k<xs.length)(q:Q (upd H p (.lst (xs.set k v)))):xN (.ref p) (.int (k:Int)) v H Q:=
 ⟨p,xs,k,k,rfl,rfl,h,vV hk,q⟩
theorem bw{l:Addr}{k:Int}(h:H l=some (.lst xs))(h0:0<=k)(h1:k<2^60)(hz:xs.length*k.toNat<=sizeLine)(q:∀p,H p=none->Q (.ref p) (upd H p (.lst (List.replicate k.toNat xs).flatten))):ACG (.ref l) (.int k) H Q:=
 ⟨l,k,xs,rfl,rfl,h,⋯,⋯,hz,q⟩
theorem zL{l b:Addr}{zs:List V}(h:H l=some (.lst xs))(g:H b=some (.lst zs))(hz:xs.length+zs.length<=sizeLine)(q:∀p,H p=none->Q (.ref p) (upd H p (.lst (xs++zs)))):ACL (.ref l) (.ref b) H Q:=
 ⟨l,b,xs,zs,rfl,rfl,h,g,hz,q⟩
theorem dC{lo c:Int}{n:Nat}{g:TG}{tb:TS}{D:Ends}(Pv:Nat->St->Hp->Prop)(h0:Pv 0 Z H)
 (hs:∀i Z H,i<n->Pv i Z H->g (.int (lo+i*c)) Z H fun σ2 H2=>tb { D with nx:=Pv (i+1),ct:=Pv (i+1),bk:=D.nx } σ2 H2)(hd:∀Z H,Pv n Z H->D.nx Z H):
 ∃W:Nat->Nat->St->Hp->Prop,(∃m,W 0 m Z H)/\∀i m Z H,W i m Z H->
  ((kh lo c n).stop i H/\D.nx Z H)\/((kh lo c n).go i H/\∃N:St->Hp->Prop,(∀Z' H',N Z' H'->∃m',m'<m/\W (i+1) m' Z' H')/\∀x H',(kh lo c n).yld i H x H'->g x Z H' fun σ2 H2=>tb { D with nx:=N,ct:=N,bk:=D.nx } σ2 H2):=by
 refine⟨fun i m Z H=>m=n-i/\i<=n/\Pv i Z H,⟨n,by simp,vj _,h0⟩,?_⟩;rintro i m Z H ⟨rfl,hi,p⟩;by_cases hlt:i<n
 ·refine .inr ⟨hlt,Pv (i+1),fun Z' H' p'=>⟨n-(i+1),⋯,rfl,hlt,p'⟩,fun x H' y=>?_⟩;obtain⟨e,y⟩:=y;subst e y;exact hs i Z _ hlt p
 ·have e:i=n:=⋯
  subst e;exact .inl ⟨qg _,hd Z H p⟩
theorem XS{i j c:Int}(c0:0<c):Builtin.Range.rangeSize i j c=if i<j then (j-i-1)/c+1 else 0:=by
 unfold Builtin.Range.rangeSize;rw[xo c0]
theorem uI{i:Int}{Q:Bool->Hp->Prop}(h:Q (i != 0) H):∃j:Int,V.int i=.int j/\Q (j != 0) H:=⟨i,rfl,h⟩
section
variable{X:Cx}{M:List Str}{x:Str}{scope:Scope}{cl:List (Str×Addr)}{C:Addr}{s₀:Shared}{H₀:Hp}{fp:List Addr}
end
theorem Gu{a:Addr}{lo hi:Option Int}(h:SqL K H a xs)(q:∀p,H p=none->Q (.ref p) (upd H p (.lst (Iv xs lo hi)))):ABz K (.ref a) lo hi H Q:=⟨a,xs,rfl,h,q⟩
theorem zK{i:Int}{P:Int->Prop}(h:P i):∃j,V.int i=.int j/\P j:=⟨i,rfl,h⟩
section
variable{X:Cx}
theorem J8{lo c:Int}:∀(acc:List Value) (k:Nat),(∀(j:Nat) (v:Value),acc[j]?=some v->∃t,v=.int (lo+((k+j:Nat):Int)*c) t)->Vals ((List.range' k acc.length).map fun(i:Nat)=>V.int (lo+(i:Int)*c)) acc
 | [],k,_=>.nil
 | v::acc,k,h=>by
  rw[qm,List.range'_succ,qo];refine .cons ?_ (J8 acc (k+1) fun j u hu=>?_)
  ·obtain⟨t,ht⟩:=h 0 v (by simp);exact⟨t,by rw[ht];simp⟩
  ·obtain⟨t,ht⟩:=h (j+1) u (by simpa using hu);exact⟨t,by rw[ht,show k+(j+1)=k+1+j by lia]⟩
end
theorem Kw{J:It}{ok:Hp->Prop}(Wk:Walk J ok xs)(hz:xs.length<sizeLine)(Pv:Addr->Nat->List V->Hp->Prop)
 (h0:∀D,H D=none->Pv D 0 [] (upd H D (.lst [])))
 (hD:∀D i ys H2,H D=none->Pv D i ys H2->H2 D=some (.lst ys)/\ys.length<=i/\ok H2)
 (hs:∀D i x ys H2,H D=none->xs[i]?=some x->Pv D i ys H2->tt (some x::Z) H2 fun b H4=>if b=true then te (some x::Z) H4 fun y H5=>H5 D=some (.lst ys)/\Pv D (i+1) (ys++[y]) (upd H5 D (.lst (ys++[y]))) else Pv D (i+1) ys H4)
 (h:∀D ys H2,H D=none->Pv D xs.length ys H2->Q (.ref D) H2):iR tt te Z Q J H:=by
 intro D hD0;refine⟨fun i m ys H2=>i<=xs.length/\m=xs.length-i/\Pv D i ys H2,⟨_,vj _,rfl,h0 D hD0⟩,?_⟩;rintro i m ys H2 ⟨hi,rfl,p⟩;obtain⟨d1,d2,d3⟩:=hD D i ys H2 hD0 p;refine⟨d1,?_⟩;by_cases hlt:i<xs.length
 ·refine .inr ⟨Wk.go i _ d3 hlt,⋯,xs.length-(i+1),⋯,fun x H3 hy=>?_⟩;obtain⟨e3,ex⟩:=Wk.yld i _ x H3 d3 hy hlt;subst e3;have:=hs D i x ys H3 hD0 ex p;refine cast ?_ this
  congr 1
  funext b H4
  cases b with
  | false=>simp only[jk4,if_false];exact propext ⟨fun z=>⟨hlt,trivial,z⟩,fun z=>z.2.2⟩
  | true=>
   simp only[if_true]
   congr 1
   funext y H5
   exact propext ⟨fun z=>⟨z.1,hlt,trivial,z.2⟩,fun z=>⟨z.1,z.2.2.2⟩⟩
 ·have e:i=xs.length:=⋯
  subst e;exact .inl ⟨Wk.stop _ _ d3 (qg _),h D ys H2 hD0 p⟩
section
variable{X:Cx}
end
theorem ni{k:Nat}{g:TG}(h:wi Z H (Yb k g tt te Z Q)):mC k wi g tt te Z H Q:=h
section
variable{X:Cx}{M xs:List Str}{scope:Scope}{cl:List (Str×Addr)}{C:Addr}{s₀:Shared}{H₀:Hp}{fp:List Addr}
theorem oV{es:List Expr}{k:Nat}{t:TGs}{n:Nat}(hc:X.calm=true)(h:PGs (De X M xs scope cl C s₀ H₀ fp) es t)
 (hn:‹(assignEach es (De X M xs scope cl C s₀ H₀ fp).env).length=n›)(hst:‹(assignEach es (De X M xs scope cl C s₀ H₀ fp).env).findIdx? (·.1)=none›):PG (De X M xs scope cl C s₀ H₀ fp) (.Tuple es k pos) (vZ X.K n t):=
 oW hc h hn hst
end
structure J1(K:Fr)(x qual:Str)(st:Stmt)(f:Addr)(fd:FuncData)(ds:Array Value):Prop where
 ex:∃(oc:Value) (od:Option Addr) (T:Addr) (to:Obj) (tn:Nat) (kV doc pm:Value) (an:Option Addr) (cdv ct:Value) (osl:Array (Option Value)),
  fd=PySem.W.fnOf x qual (Fd st) (Cq st) (BK st) (.ref T) kV doc pm an cdv ct/\K.lookup f=some ⟨oc,od,.func fd,osl⟩/\PySem.W.codeIn K cdv qual=true/\K.lookup T=some to/\to.data=.seq ds tn
 kp:PySem.W.keepIn K (.ref f)=true
section
variable{P:Program}{w:World}{K:Fr}{mg:Str->Option Value}{base:Heap}{x qual:Str}{st:Stmt}{f:Addr}{fd:FuncData}{N ps:List Str}{k:Nat}{sp:Sp}{ds:Array Value}
theorem J1.ok(F:J1 K x qual st f fd ds)(S:Cm N ps (BK st))(len:∀{vs H Q E},sp vs H Q E->vs.length=ps.length)
 (hbody:∀{cdv:Value} {A:Around} {outer:List Env} {s:Shared} (nd:N.Nodup) (H:Hp) (vs:List V) (Q:VK) (E:XK),DW k (A.deeper (envOfC qual (BK st) s.heap.objs.size f cdv))->sp vs H Q E->
  ∃t,PSs (JH CX0 P w K mg base N qual (BK st) f cdv A outer s H E).nox (Cq st) t/\t { nx:=fun _ H'=>Q .non H',rt:=Q } (start N vs) H):Ds P w K mg base CX0 (k+1) f fd ps sp:=by
 obtain⟨oc,od,T,to,tn,kV,doc,pm,an,cdv,ct,osl,rfl,lk,hcd,_⟩:=F.ex;refine gb lk hcd S (fun _ _ _ _=>len) fun A outer s H vs Q E hr hsp=>?_;obtain⟨t,h,q⟩:=hbody S.nd H vs Q E hr hsp;exact⟨t,h.nox,q⟩
theorem J1.okE(F:J1 K x qual st f fd ds)(S:Cm N ps (BK st))(len:∀{vs H Q E},sp vs H Q E->vs.length=ps.length)
 (hbody:∀{cdv:Value} {A:Around} {outer:List Env} {s:Shared} (nd:N.Nodup) (H:Hp) (vs:List V) (Q:VK) (E:XK),DW k (A.deeper (envOfC qual (BK st) s.heap.objs.size f cdv))->sp vs H Q E->
  Thr (JH (CX1 P w) P w K mg base N qual (BK st) f cdv A outer s H E) (fun c d _ H'=>E c d H')->
  ∃t,PSs (JH (CX1 P w) P w K mg base N qual (BK st) f cdv A outer s H E) (Cq st) t/\t { nx:=fun _ H'=>Q .non H',rt:=Q } (start N vs) H):Ds P w K mg base (CX1 P w) (k+1) f fd ps sp:=by
 obtain⟨oc,od,T,to,tn,kV,doc,pm,an,cdv,ct,osl,rfl,lk,hcd,_⟩:=F.ex;exact gb lk hcd S (fun _ _ _ _=>len) fun A outer s H vs Q E hr hsp=>hbody S.nd H vs Q E hr hsp lR
theorem J1.bindsD{dv:List Value}(n:Nat)(hn:n+dv.length=ps.length)(F:J1 K x qual st f fd ds)
 (h:∀(T:Addr) (kV doc pm:Value) (an:Option Addr) (cdv ct:Value) (us:List Value),us.length=n->
  ∃k:Option (Array Value)->Sem (List (Str×Value)),bindArgs (PySem.W.fnOf x qual (Fd st) (Cq st) (BK st) (.ref T) kV doc pm an cdv ct) ⟨us,[]⟩=seqItems? (.ref T) >>= k/\k (some ds)=pure (ps.zip (us++dv))):Binds K fd ps dv:=by
 obtain⟨oc,od,T,to,tn,kV,doc,pm,an,cdv,ct,osl,rfl,lk,hcd,ht,hs⟩:=F.ex;intro s us KX hl;obtain⟨k,h1,h2⟩:=h T kV doc pm an cdv ct us (by rw[qq] at hl;lia);exact PySem.W.binds_K KX rfl ht hs h1 h2
theorem X4{oc:Value}{od an:Option Addr}{osl:Array (Option Value)}{kV doc pm cdv ct:Value}{T:Addr}{to:Obj}{tn:Nat}(l:K.lookup f=some ⟨oc,od,.func (PySem.W.fnOf x qual (Fd st) (Cq st) (BK st) (.ref T) kV doc pm an cdv ct),osl⟩)
 (c:PySem.W.codeIn K cdv qual=true)(k:PySem.W.keepIn K (.ref f)=true)(t:K.lookup T=some to)(d:to.data=.seq ds tn):J1 K x qual st f (PySem.W.fnOf x qual (Fd st) (Cq st) (BK st) (.ref T) kV doc pm an cdv ct) ds:=
 ⟨⟨oc,od,T,to,tn,kV,doc,pm,an,cdv,ct,osl,rfl,l,c,t,d⟩,k⟩
end
structure Bg(P:Program)(w:World)(K:Fr)(mg:Str->Option Value)(base:Heap)(CX:CXT)(k:Nat)(x:Str)(ps:List Str)(dvs:List V)(sp:Sp):Prop where
 ex:∃(f:Addr) (fd:FuncData) (ds:List Value),Ds P w K mg base CX k f fd ps sp/\Binds K fd ps ds/\Vals dvs ds/\PySem.W.keepIn K (.ref f)=true/\mg x=some (.ref f)
structure rK(P:Program)(w:World)(K:Fr)(mg:Str->Option Value)(base:Heap)(CX:CXT)(k:Nat)(x:Str)(C:Addr)(ps:List Str)(dvs:List V)(sp:Sp):Prop where
 ex:∃(f:Addr) (fd:FuncData) (ds:List Value),Ds P w K mg base CX k f fd ps sp/\Binds K fd ps ds/\Vals dvs ds/\Mk K C f/\mg x=some (.ref C)
section
variable{X:Cx}{EE:Value->Option Addr->St->Hp->Prop}{C:Addr}{m x:Str}{k:Nat}{ps:List Str}{dvs:List V}{sp:Sp}{o e:Expr}{es:List Expr}{ta:TE}{t:TA}{apos pos p:Pos}
theorem zV(O:rK X.prog X.w X.K X.mg X.base CX0 k x C ps dvs sp)(hr:DW (k+1) X.A)(hg:Gl X x)(ha:PA X (e::es) t)
 (hdb:(x==("__debug__":Str))=false:=by decide)(he:‹starEach (e::es) X.env=(false,eval e X.env)::starEach es X.env›)(hpl:‹(backTo pos (starEach es X.env)).any (·.1)=false›):
 PE X (.Call (.Name x p) (e::es) [] pos) (Vu C sp dvs E0 t):=by
 obtain⟨f,fd,ds,F,hb,hv,M,hm⟩:=O.ex;exact f9 M F hr hg hm hb hv Nh ha hdb he hpl
end
section
variable{X:Cx}
end
noncomputable def oM:V->Bool
 | .byt _=>false
 | .flt _=>false
 | _=>true
inductive EqV(K:Fr)(H:Hp):Nat->V->V->Prop
 | same {n:Nat} {v:V}:oM v=true->EqV K H n v v
 | lst {n:Nat} {a b:Addr} {xs ys:List V}:SqL K H a xs->SqL K H b ys->xs.length=ys.length->(∀(i:Nat) x y,xs[i]?=some x->ys[i]?=some y->EqV K H n x y)->EqV K H (n+1) (.ref a) (.ref b)
 | tup {n:Nat} {a b:Addr} {xs ys:List V}:SqT K H a xs->SqT K H b ys->xs.length=ys.length->(∀(i:Nat) x y,xs[i]?=some x->ys[i]?=some y->EqV K H n x y)->EqV K H (n+1) (.ref a) (.ref b)
theorem Jg:∀{xs:List V} {us:List Value} {i:Nat} {u:Value},Vals xs us->us[i]?=some u->∃x,xs[i]?=some x/\RelV x u
 | _,_,i,u,.nil,h=>by simp at h
 | _,_,0,u,.cons r _,h=>by
  injection h with h;subst h;exact⟨_,rfl,r⟩
 | _,_,i+1,u,.cons _ rs,h=>Jg (i:=i) rs h
section
variable{X:Cx}{pins:List (Addr×Obj)}{Z:St}{H:Hp}{s:Shared}
theorem EqV.at{n:Nat}{x y:V}(h:EqV X.K H n x y)(I:Inv X pins Z H s):∀{A:Around} {u v:Value},RelV x u->RelV y v->A.units+n<cLine->SeqAt.EqAt A s u v true:=by
 induction h with
 | @same n v hp=>
  intro A u u' r r' _;cases v with
  | non=>cases r;cases r';exact SeqAt.EqAt.same _
  | bl b=>cases r;cases r';exact SeqAt.EqAt.same _
  | int i=>
   obtain⟨t,rfl⟩:=r;obtain⟨t',rfl⟩:=r';have:=SeqAt.EqAt.int_int (A:=A) (s:=s) i t i t'
   rwa [beq_self_eq_true] at this
  | str x=>
   obtain⟨t,rfl⟩:=r;obtain⟨t',rfl⟩:=r';have:=SeqAt.EqAt.str_str (A:=A) (s:=s) x t x t'
   rwa [beq_self_eq_true] at this
  | byt b=>cases hp
  | flt b=>cases hp
  | ref a=>cases r;cases r';exact SeqAt.EqAt.same _
  | ty n=>cases r;cases r';exact SeqAt.EqAt.same _
 | @lst n a b xs ys ha hb hl _ ih=>
  intro A u v r r' hu;cases r;cases r';by_cases e:a=b
  ·subst e;exact SeqAt.EqAt.same _
  obtain⟨its,r,pl,_⟩:=I.list ha;obtain⟨its',r',pl',_⟩:=I.list hb;have l1:=r.length;have l2:=r'.length;have:=SeqAt.RcAt.lists (A:=A) (e:=fun _=>true) pl.isList pl'.isList (by simp;lia) ⋯ fun j k1 k2=>by
   obtain⟨x,hx,rx⟩:=Jg r (i:=j) (u:=its.toArray[j]) (by simp);obtain⟨y,hy,ry⟩:=Jg r' (i:=j) (u:=its'.toArray[j]) (by simp);exact ih j x y hx hy rx ry (by show A.units+1+n<cLine;lia)
  rw[show ((List.range its.toArray.size).all fun _=>true)=true by simp] at this;exact SeqAt.EqAt.of_refs e this
 | @tup n a b xs ys ha hb hl _ ih=>
  intro A u v r r' hu;cases r;cases r';by_cases e:a=b
  ·subst e;exact SeqAt.EqAt.same _
  obtain⟨its,r,pl,_⟩:=I.tuple ha;obtain⟨its',r',pl',_⟩:=I.tuple hb;have l1:=r.length;have l2:=r'.length;have:=SeqAt.RcAt.tuples (A:=A) (e:=fun _=>true) pl pl' ⋯ fun j k1 k2=>by
   obtain⟨x,hx,rx⟩:=Jg r (i:=j) (u:=its.toArray[j]) (by simp);obtain⟨y,hy,ry⟩:=Jg r' (i:=j) (u:=its'.toArray[j]) (by simp);exact ih j x y hx hy rx ry (by show A.units+1+n<cLine;lia)
  rw[show ((List.range (min its.toArray.size its'.toArray.size)).all fun _=>true)=true by simp,Bool.true_and,show(its.toArray.size==its'.toArray.size)=true by simp;lia] at this;exact SeqAt.EqAt.of_refs e this
def ADW(K:Fr):R2:=fun x y H Q=>∃(a b:Addr) (xs ys:List V),x=.ref a/\y=.ref b/\SqL K H a xs/\SqL K H b ys/\xs.length=ys.length/\(∀(i:Nat) x y,xs[i]?=some x->ys[i]?=some y->EqV K H 8 x y)/\Q (.bl true) H
theorem za(hu:X.A.units+64<cLine):OpR X (compareOp .Eq) (ADW X.K):=by
 intro pins s Z H x y v u Q I rx ry h;obtain⟨a,b,xs,ys,rfl,rfl,ha,hb,hl,he,q⟩:=h;cases rx;cases ry;obtain⟨its,r,pl,_⟩:=I.list ha;obtain⟨its',r',pl',_⟩:=I.list hb;have l1:=r.length;have l2:=r'.length;refine SeqAt.RcAt.lists (e:=fun _=>true) pl.isList pl'.isList (by simp;lia) ⋯ (fun j k1 k2=>?_) _ _ _ _ ?_
 ·obtain⟨x,hx,rx⟩:=Jg r (i:=j) (u:=its.toArray[j]) (by simp);obtain⟨y,hy,ry⟩:=Jg r' (i:=j) (u:=its'.toArray[j]) (by simp);exact(he j x y hx hy).at I rx ry (by show X.A.units+1+8<cLine;lia)
 ·rw[show ((List.range its.toArray.size).all fun _=>true)=true by simp];exact⟨.bl _,H,I,rfl,q⟩
end
theorem EqV.selfs{n:Nat}(h:xs.all oM=true):∀(i:Nat) x y,xs[i]?=some x->xs[i]?=some y->EqV K H n x y:=fun i x y hx hy=>by
 rw[hx] at hy;cases hy;exact .same (kx.mp h x (xi hx))
structure Eg(P:Program)(w:World)(K:Fr)(mg:Str->Option Value)(base:Heap)(CX:CXT)(k:Nat)(m:Str)(ps:List Str)(L:List (Addr×Sp)):Prop where
 ex:∀p∈L,Cls K p.1/\∃(f:Addr) (fd:FuncData),Ds P w K mg base CX k f fd ps p.2/\Binds K fd ps []/\Meth K p.1 m f
theorem Eg.nil{P:Program}{w:World}{mg:Str->Option Value}{CX:CXT}{k:Nat}{m:Str}:Eg P w K mg base CX k m ps []:=⟨fun p hp=>(nomatch hp)⟩
theorem Ds.up{P:Program}{w:World}{mg:Str->Option Value}{CX:CXT}{k j:Nat}{f:Addr}{fd:FuncData}(F:Ds P w K mg base CX k f fd ps sp)(h:k<=j):Ds P w K mg base CX j f fd ps sp:=
 ⟨F.len,fun A outer s H args us vs Q E hr e0 hb r hs=>F.run A outer s H args us vs Q E (hr.mono h) e0 hb r hs⟩
theorem Eg.cons{P:Program}{w:World}{mg:Str->Option Value}{CX:CXT}{k j:Nat}{m:Str}{L:List (Addr×Sp)}(c:Cls K C)(O:Mr P w K mg base CX j C m ps sp)(h:j<=k)(r:Eg P w K mg base CX k m ps L):Eg P w K mg base CX k m ps ((C,sp)::L):=by
 refine⟨fun p hp=>?_⟩;rcases qh.mp hp with e | e
 ·subst e;obtain⟨f,fd,F,hb,M⟩:=O.ex;exact⟨c,f,fd,F.up h,hb,M⟩
 ·exact r.ex p e
theorem Mr.toE{P:Program}{w:World}{mg:Str->Option Value}{k:Nat}{m:Str}(O:Mr P w K mg base CX0 k C m ps sp):Mr P w K mg base (CX1 P w) k C m ps sp:=by
 obtain⟨f,fd,F,hb,M⟩:=O.ex;exact⟨⟨f,fd,AAg F,hb,M⟩⟩
def Rv(L:List (Addr×Sp))(m:Str)(ta:TE)(t:TA):TE:=fun Z H Q=>ta Z H fun x H1=>∃a C dx fs sp,(C,sp)∈L/\x=.ref a/\H1 a=some (.ins C dx fs)/\fs.lookup m=none/\
 t Z H1 fun vs H2=>sp (x::(vs++[])) H2 Q E0
def d9(L:List (Addr×Sp))(m:Str)(EE:XE)(ta:TE)(t:TA):TE:=fun Z H Q=>ta Z H fun x H1=>∃a C dx fs sp,(C,sp)∈L/\x=.ref a/\H1 a=some (.ins C dx fs)/\fs.lookup m=none/\
 t Z H1 fun vs H2=>sp (x::(vs++[])) H2 Q (fun c d H'=>EE c d Z H')
section
variable{X:Cx}{EE:Value->Option Addr->St->Hp->Prop}{L:List (Addr×Sp)}{m:Str}{k:Nat}{ps:List Str}{o e:Expr}{es:List Expr}{ta:TE}{t:TA}{apos pos:Pos}
theorem Ga{pl:Sem Bool}(O:Eg X.prog X.w X.K X.mg X.base CX0 k m ps L)(hr:DW k X.A)(he:PE X o ta)(ha:PA X (e::es) t)
 (hst:‹starEach (e::es) X.env=(false,eval e X.env)::starEach es X.env›)(hpl:‹(backTo pos (starEach es X.env)).any (·.1)=false›)
 (ht:‹eval (.Call (.Attribute o m apos) (e::es) [] pos) X.env=(do
  let ov <-eval o X.env
  standAt apos.atName
  let (f,first) <-holding [ov] (getMethod ov m pl)
  callWith pos f first (backTo pos (starEach (e::es) X.env)) (backToKw pos (keywordEach [] X.env)))›):
 PE X (.Call (.Attribute o m apos) (e::es) [] pos) (Rv L m ta t):=by
 intro pins s Z H Q I h;refine jb5 (pl:=pl) (thn (he s Z H _ I h) fun u s1 hZ=>?_) ht;obtain⟨x,H1,I1,rx,a,C,dx,fs,sp,mem,ex,ea,l,q⟩:=hZ;subst ex;obtain rfl:u=Value.ref a:=rx;obtain⟨c,f,fd,F,hb,hm⟩:=O.ex _ mem;refine HB I1 ea c hm l ?_;refine Zp (first:=[.ref a]) (h₀:=X.base) I.ok.mod.kin hm.kp (thn (ha (pos:=pos) pins s1 Z H1 _ I1 q) fun us s2 ⟨vs,H2,I2,r,q2⟩=>⟨I2.kIn,?_⟩) hst hpl
 exact PB (us:=.ref a::us) (vs:=.ref a::vs) F hr hb .nil Nh I2 (.cons rfl r) q2
theorem FJ{pl:Sem Bool}(O:Eg X.prog X.w X.K X.mg X.base CX0 k m ps L)(he:PE X o ta)(hr:DW k X.A:=by walk_at"hr")
 (ht:‹eval (.Call (.Attribute o m apos) [] [] pos) X.env=(do
  let ov <-eval o X.env
  standAt apos.atName
  let (f,first) <-holding [ov] (getMethod ov m pl)
  callWith pos f first (backTo pos (starEach [] X.env)) (backToKw pos (keywordEach [] X.env)))›):
 PE X (.Call (.Attribute o m apos) [] [] pos) (Rv L m ta Ma):=by
 intro pins s Z H Q I h;refine jb5 (pl:=pl) (thn (he s Z H _ I h) fun u s1 hZ=>?_) ht;obtain⟨x,H1,I1,rx,a,C,dx,fs,sp,mem,ex,ea,l,q⟩:=hZ;subst ex;obtain rfl:u=Value.ref a:=rx;obtain⟨c,f,fd,F,hb,hm⟩:=O.ex _ mem;refine HB I1 ea c hm l ?_;exact jk0 (first:=[.ref a]) I1.kIn hm.kp (PB (us:=[.ref a]) (vs:=[.ref a]) F hr hb .nil Nh I1 (.cons rfl .nil) q)
theorem cJ{pl:Sem Bool}(T:Thr X EE)(O:Eg X.prog X.w X.K X.mg X.base (CX1 X.prog X.w) k m ps L)(hr:DW k X.A)(he:PE X o ta)
 (ht:‹eval (.Call (.Attribute o m apos) [] [] pos) X.env=(do
  let ov <-eval o X.env
  standAt apos.atName
  let (f,first) <-holding [ov] (getMethod ov m pl)
  callWith pos f first (backTo pos (starEach [] X.env)) (backToKw pos (keywordEach [] X.env)))›):
 PE X (.Call (.Attribute o m apos) [] [] pos) (d9 L m EE ta Ma):=by
 intro pins s Z H Q I h;refine jb5 (pl:=pl) (thn (he s Z H _ I h) fun u s1 hZ=>?_) ht;obtain⟨x,H1,I1,rx,a,C,dx,fs,sp,mem,ex,ea,l,q⟩:=hZ;subst ex;obtain rfl:u=Value.ref a:=rx;obtain⟨c,f,fd,F,hb,hm⟩:=O.ex _ mem;refine HB I1 ea c hm l ?_;exact jk0 (first:=[.ref a]) I1.kIn hm.kp (fL (us:=[.ref a]) (vs:=[.ref a]) T F hr hb I1 (.cons rfl .nil) q)
end
theorem ADb{α:Type}{us:List α}(h:us.length=1):∃a0,us=[a0]:=by
 match us,h with
 | [a0],_=>exact⟨a0,rfl⟩
theorem ADa{α:Type}{us:List α}(h:us.length=2):∃a0 a1,us=[a0,a1]:=by
 match us,h with
 | [a0,a1],_=>exact⟨a0,a1,rfl⟩
theorem zy{α:Type}{us:List α}(h:us.length=3):∃a0 a1 a2,us=[a0,a1,a2]:=by
 match us,h with
 | [a0,a1,a2],_=>exact⟨a0,a1,a2,rfl⟩
theorem ACW{α:Type}{us:List α}(h:us.length=4):∃a0 a1 a2 a3,us=[a0,a1,a2,a3]:=by
 match us,h with
 | [a0,a1,a2,a3],_=>exact⟨a0,a1,a2,a3,rfl⟩
theorem zx{α:Type}{us:List α}(h:us.length=5):∃a0 a1 a2 a3 a4,us=[a0,a1,a2,a3,a4]:=by
 match us,h with
 | [a0,a1,a2,a3,a4],_=>exact⟨a0,a1,a2,a3,a4,rfl⟩
theorem ADZ{α:Type}{us:List α}(h:us.length=6):∃a0 a1 a2 a3 a4 a5,us=[a0,a1,a2,a3,a4,a5]:=by
 match us,h with
 | [a0,a1,a2,a3,a4,a5],_=>exact⟨a0,a1,a2,a3,a4,a5,rfl⟩
theorem ACV{α:Type}{us:List α}(h:us.length=7):∃a0 a1 a2 a3 a4 a5 a6,us=[a0,a1,a2,a3,a4,a5,a6]:=by
 match us,h with
 | [a0,a1,a2,a3,a4,a5,a6],_=>exact⟨a0,a1,a2,a3,a4,a5,a6,rfl⟩
theorem ADY{α:Type}{us:List α}(h:us.length=8):∃a0 a1 a2 a3 a4 a5 a6 a7,us=[a0,a1,a2,a3,a4,a5,a6,a7]:=by
 match us,h with
 | [a0,a1,a2,a3,a4,a5,a6,a7],_=>exact⟨a0,a1,a2,a3,a4,a5,a6,a7,rfl⟩
section
variable{X:Cx}
end
section
variable{X:Cx}
end
section
variable{X:Cx}
end
section
variable{X:Cx}
end
noncomputable def Vy(c:Nat):V:=.str ⟨#[c]⟩
noncomputable def Its(z:Str):It:=⟨fun i _=>i<z.cps.size,fun i H x H'=>H'=H/\∃c,z.cps[i]?=some c/\x=Vy c,fun i _=>z.cps.size<=i⟩
theorem lL{P:Program}{w:World}{tg:Expr}(z:Str)(t:Tok)(it:Addr):Turn P w K tg (Its z) [it] it (fun i h=>h.IsStrIter it "str_ascii_iterator" z t i) where
 mem:=by simp
 obj:=fun i h st b hb=>by
  have e:b=it:=by simpa using hb
  subst e;obtain⟨o,e,c,d⟩:=st;exact⟨o,e,fun v z=>by rw[d] at z;cases z⟩
 keep:=fun i h h' st k=>by
  obtain⟨o,e,r⟩:=st;exact⟨o,k it (by simp) o e,r⟩
 item:=by
  intro X hP hw hK hc i pins s Z H E I hf st hg;subst hP hw hK;have hg':i<z.cps.size:=hg;obtain⟨f0,f1,f2,f3,f4,f5⟩:=hf it (by simp);refine wpAny_pyNext_ascii_item st (c:=z.cps[i]) (by simp[hg']) fun h' st' sb=>?_;have I1:Inv X pins Z H { s with heap:=h',toks:=s.toks+1 }:=I.turned (t':=s.toks+1) (fun b o hb e=>(sb.2 b hb).trans e) f0 f1 f3 f4 f5;obtain⟨o,e,c,d⟩:=id st';exact⟨_,rfl,Zx (s:={ s with heap:=h',toks:=s.toks+1 }) e c d nofun ⟨Vy z.cps[i],H,I1,⟨_,rfl⟩,⟨rfl,_,by simp[hg'],rfl⟩,st',fun b hb=>(hf b hb).1⟩⟩
 done:=by
  intro X hP hw hK hc i pins s Z H E I hf st hg;subst hP hw hK;have hg':z.cps.size<=i:=hg;obtain⟨f0,f1,f2,f3,f4,f5⟩:=hf it (by simp);exact wpAny_pyNext_ascii_end (I.ok.hd hc) st (by simp[hg']) fun h' eb=>⟨rfl,I.turned (t':=s.toks) (fun b o hb e=>eb b o hb e) f0 f1 f3 f4 f5⟩
 self:=fun _ _ _ _ _ st h=>wpAny_pyIter_striter_ascii st h
noncomputable def asc(z:Str):Bool:=z.cps.all (· <128)
def ACb(tl:TE):TI:=fun Z H R=>tl Z H fun x H1=>∃z,x=.str z/\asc z=true/\R (Its z) H1
section
variable{X:Cx}{tg:Expr}
theorem oR{l:Expr}{tl:TE}(hl:PE X l tl):PI X tg l (ACb tl):=by
 intro pins s Z H R I h;refine thn (hl s Z H _ I h) fun v s1 hZ=>?_;obtain⟨x,H1,I1,r1,q1⟩:=hZ;obtain⟨z,e,ha,q⟩:=q1;subst e;obtain⟨t,rfl⟩:=(show ∃t,v=Value.str z t from r1);refine wpAny_pyIter_ascii ha ?_;refine⟨s1.heap.objs.size,[s1.heap.objs.size],_,_,H1,rfl,I1.kept (t':=s1.toks) fun b o e=>jv _ e,lL z t _,⟨_,zi _ rfl,rfl,rfl⟩,fun b hb=>?_,q⟩;have e:b=s1.heap.objs.size:=by simpa using hb
 subst e;exact I1.fpOk (qg _) (I1.hok.fresh (qg _))
def ADU:V->Option Int->Option Int->Hp->VK->Prop:=fun x lo hi H Q=>∃z,x=.str z/\z.length<=sizeLine/\Q (.str (Txt.slice z lo hi)) H
theorem Zj{v:Value}{o:Option Int}(h:IsPart v o):∃l:Option (Int×Tok),v=partValue l/\l.map (·.1)=o:=by
 cases h with
 | none=>exact⟨none,rfl,rfl⟩
 | int i t=>exact⟨some (i,t),rfl,rfl⟩
theorem W2:SlR X ADU:=by
 intro pins s Z H x v vl vu lo hi sl Q I rx hs pl pu h;obtain⟨z,rfl,hz,q⟩:=h;obtain⟨t,rfl⟩:=(show ∃t,v=Value.str z t from rx);obtain⟨l,rfl,rfl⟩:=Zj pl;obtain⟨u,rfl,rfl⟩:=Zj pu;refine⟨"str",_,F.slot_str_getitem.lookup,typeIs_str _ _ _,wpAny_getItem_str_slice (l:=l) (u:=u) (st:=none) hs rfl ?_⟩;refine post_val_or_str ⟨zn (Txt.slice_le z _ _) hz,fun t' k=>?_⟩;exact⟨.str _,H,I.kept (t':=k) fun b o e=>e,⟨_,rfl⟩,q⟩
theorem Vk:MtR X "str.startswith" (fun x xs H Q=>∃z y,x=.str z/\xs=[.str y]/\Q (.bl (Txt.startswith z y)) H):=by
 intro pins s Z H x xs v us Q I rx rs h;obtain⟨z,y,rfl,rfl,q⟩:=h;obtain⟨t,rfl⟩:=(show ∃t,v=Value.str z t from rx);obtain⟨u,rfl,ru⟩:=vals1 rs;obtain⟨t',rfl⟩:=(show ∃t,u=Value.str y t from ru);exact call_gives F.slot_str_startswith (typeIs_str _ _ _) F.entry_str_startswith (F.args_str_startswith_2 _ _) (gives_str_startswith z y t t') ⟨.bl _,H,I,rfl,q⟩
theorem Lz:Ir X (.type "int") (fun xs H Q=>∃z n,xs=[.str z]/\z.length<=640/\PySem.intText? z=some n/\Q (.int n) H):=by
 intro pins s Z H xs us Q I r h;obtain⟨z,n,rfl,hl,hn,q⟩:=h;obtain⟨u,rfl,ru⟩:=vals1 r;obtain⟨t,rfl⟩:=(show ∃t,u=Value.str z t from ru);exact PySem.W.KIN.call_text hn hl ⟨.int n,H,I.tok _,⟨_,rfl⟩,q⟩
end
theorem aY{z:Str}:Walk (Its z) (fun _=>True) (z.cps.toList.map Vy):=
 ⟨fun i H _ hi=>(by show i<z.cps.size;simpa using hi),fun i H x H' _ y hi=>⟨y.1,by
  obtain⟨c,hc,rfl⟩:=y.2;rw[xa,Array.getElem?_toList,hc];rfl⟩,fun i H _ hi=>(by show z.cps.size<=i;simpa using hi)⟩
theorem nY{tl:TE}{R:It->Hp->Prop}(h:tl Z H fun x H1=>∃z,x=.str z/\asc z=true/\R (Its z) H1):ACb tl Z H R:=h
theorem fM(x:Str)(t:Tok):RelV (.str x) (.str x t):=⟨t,rfl⟩
noncomputable def constStr?:Expr->Option Str
 | .Constant (.str x) _ _=>some x
 | _=>none
def wY(ss:List Str):TA:=fun _ H Q=>Q (ss.map V.str) H
theorem gF{X:Cx}:∀{es:List Expr} {ss:List Str},es.map constStr?=ss.map some->PA X es (wY ss)
 | [],[],_=>Ac
 | [],_::_,h=>nomatch h
 | _::_,[],h=>nomatch h
 | e::es,x::ss,h=>by
  rw[qo,qo] at h;injection h with h1 h2;have ih:=gF (X:=X) (es:=es) (ss:=ss) h2;unfold constStr? at h1;split at h1
  ·injection h1 with h1;subst h1;exact Aa Al ih rfl
  ·cases h1
theorem uY{X:Cx}{es:List Expr}{ss:List Str}(h:es.map constStr?=ss.map some):PE X (.List es pos) (yI (wY ss)):=Ea (gF h)
structure BS(X:Cx)(st:Stmt)(t:TS):Prop where
 out:PS X st t
section
variable{X:Cx}
theorem bs{st:Stmt}{t:TS}(h:PS X st t):BS X st t:=⟨h⟩
end
inductive Ia(P:Program)(w:World)(K:Fr)(mg:Str->Option Value)(base:Heap)(k:Nat):List (Str×Sp)->Prop
 | nil:Ia P w K mg base k []
 | cons {x:Str} {ps:List Str} {sp:Sp} {L:List (Str×Sp)}:Cal P w K mg base k x ps sp->Ia P w K mg base k L->Ia P w K mg base k ((x,sp)::L)
theorem Ia.get{P:Program}{w:World}{mg:Str->Option Value}{k:Nat}{L:List (Str×Sp)}(h:Ia P w K mg base k L){x:Str}{sp:Sp}(hm:(x,sp)∈L):∃ps,Cal P w K mg base k x ps sp:=by
 induction h with
 | nil=>cases hm
 | cons C _ ih=>
  rcases qh.mp hm with e | e
  ·injection e with e1 e2;subst e1;subst e2;exact⟨_,C⟩
  ·exact ih e
def mG(mg:Str->Option Value)(i:Nat)(L:List (Str×Sp))(t:TA):TE:=fun Z H Q=>∃f x sp,Z[i]?=some (some (.ref f))/\(x,sp)∈L/\mg x=some (.ref f)/\t Z H fun vs H1=>sp vs H1 Q E0
section
variable{X:Cx}{pos:Pos}
theorem uo{k i:Nat}{L:List (Str×Sp)}{e:Expr}{es:List Expr}{t:TA}{p:Pos}(CV:Ia X.prog X.w X.K X.mg X.base k L)(hr:DW k X.A)(hN:X.N[i]?=some x)(hv:Vis X.env.scope x)(ha:PA X (e::es) t)
 (hdb:(x==("__debug__":Str))=false:=by decide)(hcd:(x==("__classdict__":Str))=false:=by decide)(he:‹starEach (e::es) X.env=(false,eval e X.env)::starEach es X.env›)(hpl:‹(backTo pos (starEach es X.env)).any (·.1)=false›):
 PE X (.Call (.Name x p) (e::es) [] pos) (mG X.mg i L t):=by
 intro pins s Z H Q I h;obtain⟨f,y,sp,hf,hm,hmg,h⟩:=h;obtain⟨ps,C⟩:=CV.get hm;obtain⟨f',fd,F,b,kp,m⟩:=C.ex;have ef:f'=f:=by
  rw[hmg] at m;injection m with m;injection m with m;exact m.symm
 subst ef;refine ja6 ?_;refine thn (oX hN hv hdb hcd s Z H (fun v H1=>v=.ref f'/\H1=H) I (KR hf ⟨rfl,rfl⟩)) fun v s1 hZ=>?_;obtain⟨y,H1,I1,r1,q1⟩:=hZ;obtain⟨rfl,rfl⟩:=q1;cases r1;refine Zp (h₀:=X.base) I1.ok.mod.kin kp (thn (ha (pos:=pos) pins s1 Z _ _ I1 h) fun us s2 ⟨vs,H2,I2,r,q⟩=>⟨I2.kIn,?_⟩) he hpl;dsimp only at q;have hl:us.length=ps.length:=by rw[<-r.length];exact F.len _ _ _ _ q
 have hb:=b s2 us I2.kIn (by rw[xy];exact hl);rw[xy] at hb;show wpAny _ _ (call (.ref f') us) _ _ _;refine jn7 (je3 (F.run X.A X.stack s2 H2 ⟨us,[]⟩ us vs Q _ hr I2.env0 hb r q) fun z s' hq=>?_);cases z with
 | error e=>exact False.elim hq
 | ok fl=>
  cases fl with
  | ret u=>exact I2.after hq
  | next=>exact False.elim hq
  | brk=>exact False.elim hq
  | cont=>exact False.elim hq
theorem nj{mg:Str->Option Value}{i:Nat}{L:List (Str×Sp)}{t:TA}{f:Addr}(h1:Z[i]?=some (some (.ref f)))(h2:(x,sp)∈L)(h3:mg x=some (.ref f))(h:t Z H fun vs H1=>sp vs H1 Q E0):mG mg i L t Z H Q:=⟨f,x,sp,h1,h2,h3,h⟩
end
section
variable{X:Cx}{pins:List (Addr×Obj)}{Z:St}{H:Hp}{s:Shared}{h':Heap}
theorem Inv.turnedNew{t':Nat}{ch:List Addr}{T:Addr}{o:HO}(I:Inv X pins Z H s)(k:∀b u,b∉ch->s.heap.get? b=some u->h'.get? b=some u)(hf:∀b∈ch,Oc X pins H b)
 (hp:s.heap.objs.size<=T)(new:Eh X.prog X.w (upd H T o) h' T o):Inv X pins Z (upd H T o) { s with heap:=h',toks:=t' }:=by
 have hn:H T=none:=I.hok.fresh hp;have nit:∀b u,H b=some u->b∉ch:=fun b u e z=>by rw[(hf b z).1] at e;cases e
 refine I.step (g':=s.gens) (d':=s.drawn) (ch:=ch) (fun b hb=>⟨(hf b hb).2.2.2.1,(hf b hb).2.1,(hf b hb).2.2.2.2.1,(hf b hb).2.2.2.2.2⟩) (fun b u _ _ hc e _=>k b u hc e) (fun b u _ _ hc e _=>⟨u.slots,k b u hc e⟩)
  (fun b u _ e n=>by rw[Ax (vv (zk (zo e) hp))];exact n)
  (fun b u hc e=>⟨u,k b u hc e⟩) (fun b xs q=>by rw[Ax (BX q hn)];exact q) (fun b u xs q=>by rw[Ax (BX q hn)];exact q) (fun b ps q=>⟨#[],by rw[Ax (BX q hn),q];simp⟩) (fun m hm=>?_) (fun b u e=>?_) I.bare
 ·obtain⟨u,es,ep,ho,r⟩:=hm;exact⟨u,es,ep,k _ u (fun z=>(hf _ z).2.1 rfl) ho,r⟩
 ·by_cases hb:b=T
  ·subst hb;rw[Ai] at e;cases e;exact new
  ·rw[Ax hb] at e;refine(I.hok b u e).stay (fun c v hc q=>k c v ?_ q) (fun c q=>by rw[Ax (BX q hn)];exact q) fun c xs q=>by rw[Ax (BX q hn)];exact q
   rcases hc with z | z
   ·rw[z];exact nit b u e
   ·exact nit c _ z
theorem Inv.turnedL{t':Nat}{ch:List Addr}(I:Inv X pins Z H s)(k:∀b u,b∉ch->s.heap.get? b=some u->h'.get? b=some u)(hf:∀b∈ch,Oc X pins H b):Inv X pins Z H { s with heap:=h',toks:=t' }:=by
 have nit:∀b u,H b=some u->b∉ch:=fun b u e z=>by rw[(hf b z).1] at e;cases e
 refine I.step (g':=s.gens) (d':=s.drawn) (ch:=ch) (fun b hb=>⟨(hf b hb).2.2.2.1,(hf b hb).2.1,(hf b hb).2.2.2.2.1,(hf b hb).2.2.2.2.2⟩) (fun b u _ _ hc e _=>k b u hc e) (fun b u _ _ hc e _=>⟨u.slots,k b u hc e⟩)
  (fun _ _ _ _ n=>n) (fun b u hc e=>⟨u,k b u hc e⟩) (fun b xs q=>q) (fun b u xs q=>q) (fun b ps q=>⟨#[],by rw[q];simp⟩) (fun m hm=>?_) (fun b u e=>?_) I.bare
 ·obtain⟨u,es,ep,ho,r⟩:=hm;exact⟨u,es,ep,k _ u (fun z=>(hf _ z).2.1 rfl) ho,r⟩
 ·refine(I.hok b u e).stay (fun c v hc q=>k c v ?_ q) (fun c q=>q) fun c xs q=>q;rcases hc with z | z
  ·rw[z];exact nit b u e
  ·exact nit c _ z
end
theorem xx{n a b:Nat}(ha:a<n)(hb:b<n):ZipApart (n+4) (n+2) (n+3) n (n+1) a b:=
 ⟨show n+2≠n+4 by lia,show n+3≠n+4 by lia,show n≠n+4 by lia,show n+1≠n+4 by lia,show n+2≠n+3 by lia,show n+2≠n by lia,show n+2≠n+1 by lia,show n+3≠n by lia,show n+3≠n+1 by lia,show n≠n+1 by lia,
  show a≠n+4 by lia,show a≠n+3 by lia,show a≠n by lia,show a≠n+1 by lia,show b≠n+4 by lia,show b≠n+3 by lia,show b≠n by lia,show b≠n+1 by lia⟩
section
variable{X:Cx}
theorem Zd{M:List Str}{tg:Expr}{xs:List Str}{y:Str}{py spos:Pos}{ifs:List Expr}{cl:List (Str×Addr)}{g:TG}{i:Nat}(hN:X.N.Nodup)(hiy:X.N[i]?=some y)(hy:Loc X.env.scope y)
 (hc:X.calm=true)(ok:Oe X M xs scope cl)(hi:PI X tg iter wi)
 (ht:∀C s₀ H₀ fp,dX (De X M xs scope cl C s₀ H₀ fp) ifs tt)(hg:∀C s₀ H₀ fp,PG (De X M xs scope cl C s₀ H₀ fp) tg g)(he:∀C s₀ H₀ fp,PE (De X M xs scope cl C s₀ H₀ fp) elt te)
 (hsw:swapsWith (.ListComp elt [⟨tg,iter,ifs,0⟩] scope pos) (some (.Name y py)) spos.line X.env=pure true:=by with_unfolding_all rfl)
 (hf:X.fn y=true\/X.env.scope.names.lookup y=some .local:=by first | exact .inl rfl | exact .inr rfl | assumption)
 (hs:∀x,foldedSetIterable iter X.env x=pure x:=by intro _;rfl):
 PS X (.Assign [.Name y py] (.ListComp elt [⟨tg,iter,ifs,0⟩] scope pos) spos) (mJ (mC xs.length wi g tt te) (Kq i)):=by
 intro pins s Z H D I h;rw[exec_Assign_Name_used _ _ _ _ hsw];refine jp (wpAny_standAt (jp ?_));show wpAny _ X.A (do let _ <-comprehension (.ListComp elt [⟨tg,iter,ifs,0⟩] scope pos) scope X.env _ (newList []) false (eval iter X.env) (some (assign (.Name y py) X.env))) _ _ s;refine jp (Qb (jk3 (use:=some (assign (.Name y py) X.env)) (Q:=fun _ s'=>SP X pins D .next s') rfl hs ok.clos ok.kind ok.names
  (thn (hi s Z H _ I h) fun xv s1 h1=>thn h1 fun itv s2 h2=>?_)) (fun _ s' hq=>ze (ze hq)) fun _ _ e=>e)
 obtain⟨it,fp,tn,J,H2,e,I2,T,st2,f2,hW⟩:=h2;subst e;refine Uc (Q:=fun x H1=>Kq i x Z H1 D.nx) hc ok ht hg he I2 T st2 f2 hW (compPost (model X.prog X.w) X.A X.xe (some (assign (.Name y py) X.env)) (fun _ s'=>SP X pins D .next s')) fun Dd C H3 s4 I4 hm fC q=>?_
 obtain⟨m,hn⟩:=hm;show wpAny _ X.A (assign (.Name y py) X.env (.ref Dd)) _ _ _;refine wpAny_assign_Name (Oj I4 hN hiy hy (v:=.ref Dd) rfl (fun s5 I5 hsb=>?_) hf);obtain⟨a,sb,ha⟩:=hsb;have hCa:C≠a:=by
  rcases ha with rfl | ha
  ·exact fC.2.1
  ·exact(fC.2.2.2.2.1 _ _ ha).symm
 exact⟨m,hn.sameBut sb hCa,fun h' hsb'=>⟨_,H3,I5.turned (t':=s5.toks) (fun b o hb e=>hsb'.extBut b o hb e) fC.1 fC.2.1 fC.2.2.2.1 fC.2.2.2.2.1 fC.2.2.2.2.2,q⟩⟩
end
structure ADG(K:Fr)(mg:Str->Option Value)(x:Str)(CB f:Addr):Prop where
 bound:mg x=some (.ref CB)
 sp:PySem.W.specialIn K (.ref CB) "__getattribute__"=some (some (.builtin "type.__getattribute__"))
 rd:PySem.W.readsIn K CB (.type "type")=true
 fc:PySem.W.findCls K (.ref CB) (.type "type") "__init__"=some (.val (.ref f))
 kp:PySem.W.keepIn K (.ref f)=true
structure ABR(P:Program)(w:World)(K:Fr)(mg:Str->Option Value)(base:Heap)(k:Nat)(x:Str)(ps:List Str)(sp:Sp):Prop where
 ex:∃(f CB:Addr) (fd:FuncData),Ds P w K mg base CX0 k f fd ps sp/\Binds K fd ps []/\ADG K mg x CB f
section
variable{X:Cx}
theorem KZ{k:Nat}{e:Expr}{es:List Expr}{t:TA}{p apos:Pos}{pl:Sem Bool}(O:ABR X.prog X.w X.K X.mg X.base k x ps sp)(ha:PA X (e::es) t)(hr:DW k X.A:=by walk_at"hr")(hg:Gl X x:=by exact rfl)
 (hdb:(x==("__debug__":Str))=false:=by decide)(hst:‹starEach (e::es) X.env=(false,eval e X.env)::starEach es X.env›)(hpl:‹(backTo pos (starEach es X.env)).any (·.1)=false›)
 (ht:‹eval (.Call (.Attribute (.Name x p) "__init__" apos) (e::es) [] pos) X.env=(do
  let ov <-eval (.Name x p) X.env
  standAt apos.atName
  let (f,first) <-holding [ov] (getMethod ov "__init__" pl)
  callWith pos f first (backTo pos (starEach (e::es) X.env)) (backToKw pos (keywordEach [] X.env)))›):
 PE X (.Call (.Attribute (.Name x p) "__init__" apos) (e::es) [] pos) (Vv sp [] E0 t):=by
 intro pins s Z H Q I h;obtain⟨f,CB,fd,F,hb,N⟩:=O.ex;refine jb5 (pl:=pl) (Ih I hg N.bound ?_ hdb) ht;refine PySem.W.method_cls I.kIn N.sp (PySem.W.cls_value I.kIn N.rd N.fc rfl ?_);have I1:Inv X pins Z H { s with toks:=s.toks+1 }:=I.tok _;refine Zp (first:=[]) (h₀:=X.base) I.ok.mod.kin N.kp (thn (ha pins _ Z H _ I1 h) fun us s2 ⟨vs,H2,I2,r,q2⟩=>⟨I2.kIn,?_⟩) hst hpl
 exact PB (us:=us) (vs:=vs) F hr hb .nil Nh I2 r q2
theorem cI{k:Nat}{p:Pos}(O:aV X.prog X.w X.K X.mg X.base CX0 k x C ps sp)(hr:DW (k+1) X.A)(hg:Gl X x)
 (hdb:(x==("__debug__":Str))=false:=by decide):PE X (.Call (.Name x p) [] [] pos) (Vu C sp [] E0 Ma):=by
 obtain⟨f,fd,F,hb,M,hm⟩:=O.ex;exact oZ M F hr hg hm hb .nil Nh hdb
end
noncomputable def Vl(op:Int->Int->Bool)(z:Bool):List Int->List Int->Bool
 | x::xs,y::ys=>if x=y then Vl op z xs ys else op x y
 | _,_=>z
inductive Prs:List (Value×Value)->List Int->List Int->Prop
 | nil:Prs [] [] []
 | cons {zs:List (Value×Value)} {x y:Int} {t u:Tok} {xs ys:List Int}:Prs zs xs ys->Prs ((.int x t,.int y u)::zs) (x::xs) (y::ys)
abbrev TupAt(h:Heap)(l:Addr)(its:Array Value)(n:Nat)(dd:Option Addr)(sl:Array (Option Value)):Prop:=h.get? l=some ⟨.type "tuple",dd,.seq its n,sl⟩
theorem AAV{prog:Program}{w:World}{A:Around}{E:Value->Shared->Prop}{s:Shared}{Q:Value->Shared->Prop}{a b:Int}{t u:Tok}(h:Q (.bool ((fun i j=>decide (i<=j)) a b)) s):wpAny (model prog w) A (richCompare .LtE (.int a t) (.int b u)) Q E s:=PySem.P.le_int (by simpa using h)
theorem Xu{l b:Addr}{its jts:Array Value}{n m:Nat}{dd de:Option Addr}{sl sm:Array (Option Value)}{xs ys:List Int}(z:Prs (its.toList.zip jts.toList) xs ys)(hsz:its.size=jts.size):
 Meets (Builtin.«tuple.__le__» ⟨[.ref l,.ref b],[]⟩) (fun _ R s=>TupAt s.heap l its n dd sl/\TupAt s.heap b jts m de sm/\R (.ok (.ret (.bool (Vl (fun i j=>decide (i<=j)) true xs ys)))) s):=by
 refine .of_wp fun P W A0 R0 s0 h0=>?_;obtain⟨H0,G0,D0,T0,O0⟩:=s0;obtain⟨el,eb,r0⟩:=h0;have sub:=AutoSeq1.sub_tuple_tuple
 wp_walk using wpAny_loadPart' el,wpAny_loadPart' eb,wpAny_forIn_list _ (fun zs st s1=>st.1=none/\s1=⟨H0,G0,D0,T0,O0⟩/\∃us vs,Prs zs us vs/\R0 (.ok (.ret (.bool (Vl (fun i j=>decide (i<=j)) true us vs)))) ⟨H0,G0,D0,T0,O0⟩) _
 case turn=>
  rintro⟨p,q⟩ zs st s1 ⟨-,rfl,us,vs,pr,r1⟩;cases pr with
  | @cons zs x y t u us vs pr=>
   refine jp (SeqAt.EqAt.int_int x t y u P W _ _ ?_);by_cases c:x=y
   ·subst c;rw[Vl,xo rfl] at r1;rw[beq_self_eq_true]
    wp_walk
    exact⟨rfl,rfl,us,vs,pr,r1⟩
   ·rw[Vl,xp c] at r1;rw[beq_eq_false_iff_ne.mpr c]
    wp_walk using AAV
    exact⟨_,rfl,r1⟩
 case fin=>
  rintro⟨o,un⟩ s1 ⟨e,rfl,us,vs,pr,r1⟩;cases pr;cases e
  wp_walk
  refine⟨_,rfl,?_⟩;simpa [Builtin.Tuple.tupleCompareSizes,hsz,Vl] using r1
 case h=>exact⟨rfl,rfl,xs,ys,z,r0⟩
theorem zM{prog:Program}{w:World}{A:Around}{E:Value->Shared->Prop}{s:Shared}{Q:Value->Shared->Prop}{l b:Addr}{its jts:Array Value}{xs ys:List Int}(hl:s.heap.IsTuple l its)(hb:s.heap.IsTuple b jts)(hu:A.units<cLine)
 (z:Prs (its.toList.zip jts.toList) xs ys)(hsz:its.size=jts.size)(h:Q (.bool (Vl (fun i j=>decide (i<=j)) true xs ys)) s):wpAny (model prog w) A (richCompare .LtE (.ref l) (.ref b)) Q E s:=by
 obtain⟨o1,g1,k1,n1,e1⟩:=hl;obtain⟨o2,g2,k2,n2,e2⟩:=hb;obtain⟨q1,d1,f1,w1⟩:=o1;obtain⟨q2,d2,f2,w2⟩:=o2;cases k1;cases k2;cases e1;cases e2;refine richCompare_meets_room (op:=.LtE) ⟨_,g1,rfl⟩ ⟨_,g2,rfl⟩ F.slot_tuple_le F.entry_tuple_le (F.args_tuple_le_2 _ _) (Xu (n:=n1) (m:=n2) (dd:=d1) (de:=d2) (sl:=w1) (sm:=w2) z hsz) ?_ hu;exact⟨g1,g2,(fun x=>nomatch x),h⟩
def ACJ(K:Fr)(op:Int->Int->Bool)(z:Bool):R2:=fun x y H Q=>∃(a b:Addr) (xs ys:List Int),x=.ref a/\y=.ref b/\SqT K H a (xs.map V.int)/\SqT K H b (ys.map V.int)/\xs.length=ys.length/\Q (.bl (Vl op z xs ys)) H
theorem oH:∀{xs ys:List Int} {us vs:List Value},Vals (xs.map V.int) us->Vals (ys.map V.int) vs->xs.length=ys.length->Prs (us.zip vs) xs ys
 | [],[],_,_,.nil,.nil,_=>.nil
 | x::xs,y::ys,_,_,.cons r rs,.cons q qs,h=>by
  obtain⟨t,rfl⟩:=r;obtain⟨u,rfl⟩:=q;exact .cons (oH rs qs (Nat.succ.inj h))
section
variable{X:Cx}
theorem zZ(hu:X.A.units<cLine):OpR X (compareOp .LtE) (ACJ X.K (fun i j=>decide (i<=j)) true):=by
 intro pins s Z H x y v u Q I rx ry h;obtain⟨a,b,xs,ys,rfl,rfl,ha,hb,hl,q⟩:=h;cases rx;cases ry;obtain⟨its,r,pl,_⟩:=I.tuple ha;obtain⟨its',r',pl',_⟩:=I.tuple hb;have l1:=r.length;have l2:=r'.length;rw[js] at l1 l2;exact zM pl pl' hu (by simpa using oH r r' hl) (by simp;lia) ⟨.bl _,H,I,rfl,q⟩
end
section
variable{X:Cx}
end
end L2
namespace L2
open PySem PySem.Spec PyProof.Rows PySem.Builtin PySem.Builtin.Str
noncomputable def plc(c:Nat):Nat->List Nat->List Nat
 | _,[]=>[]
 | k,a::l=>if a=c then k::plc c (k+1) l else plc c (k+1) l
noncomputable def spl(c:Nat):List Nat->List (List Nat)
 | []=>[[]]
 | a::l=>if a=c then []::spl c l else ((a::(spl c l).headD [])::(spl c l).drop 1)
theorem mQ(c:Nat)(l:List Nat):spl c (c::l)=[]::spl c l:=by
 conv=>lhs;unfold spl
 rw[xo rfl]
theorem Wv{c a:Nat}(l:List Nat)(h:a≠c):spl c (a::l)=(a::(spl c l).headD [])::(spl c l).drop 1:=by
 conv=>lhs;unfold spl
 rw[xp h]
theorem Rx{a b:Str}(h:a.cps=b.cps):a=b:=by
 cases a;cases b;exact yi Str.mk h
theorem yL(c:Nat):∀l,spl c l≠[]
 | []=>fun h=>nomatch h
 | a::l=>by
  unfold spl;split
  ·exact fun h=>nomatch h
  ·exact fun h=>nomatch h
theorem RZ(c:Nat)(l:List Nat):spl c l=(spl c l).headD []::(spl c l).drop 1:=by
 have:=yL c l;cases h:spl c l with
 | nil=>exact absurd h this
 | cons p ps=>rfl
theorem fZ(c:Nat):∀(l:List Nat) (k:Nat),(plc c k l).length+1=(spl c l).length
 | [],_=>rfl
 | a::l,k=>by
  have ih:=fZ c l (k+1);unfold plc spl;split
  ·rw[qm,qm,ih]
  ·rw[ih,RZ c l];rfl
theorem V1(c:Nat):∀(l:List Nat) (k:Nat),(plc c k l).length=l.count c
 | [],_=>rfl
 | a::l,k=>by
  have ih:=V1 c l (k+1);unfold plc;rw[List.count_cons];split
  ·rename_i h
   rw[qm,ih,xo (by simpa using h)]
  ·rename_i h
   rw[ih,xp (by simpa using h)];rfl
theorem Ra(c:Nat):∀(p l:List Nat),c∉p->spl c (p++c::l)=p::spl c l
 | [],l,_=>mQ c l
 | a::p,l,h=>by
  have ih:=Ra c p l fun z=>h (qf _ z);show spl c (a::(p++c::l))=_;rw[Wv _ (fun z=>h (by rw[z];exact qc)),ih];rfl
theorem Wu(c:Nat):∀(p:List Nat),c∉p->spl c p=[p]
 | [],_=>rfl
 | a::p,h=>by
  rw[Wv _ (fun z=>h (by rw[z];exact qc)),Wu c p fun z=>h (qf _ z)];rfl
theorem PP(c:Nat)(L:List Nat):∀(l:List Nat) (k s0:Nat),L.drop k=l->s0<=k->k<=L.length->
 ((s0::(plc c k l).map (· +1)).zip (plc c k l++[L.length])).map (fun (ij:Nat×Nat)=>(L.drop ij.1).take (ij.2-ij.1))=((L.drop s0).take (k-s0)++(spl c l).headD [])::(spl c l).drop 1
 | [],k,s0,h,h1,h2=>by
  have e:k=L.length:=by
   have:=yi List.length h;rw[jb8] at this;simp at this;lia
  subst e;show[(L.drop s0).take (L.length-s0)]=[(L.drop s0).take (L.length-s0)++[]];rw[xy]
 | a::l,k,s0,h,h1,h2=>by
  have kl:k<L.length:=by
   have:=yi List.length h;rw[jb8,qm] at this;lia
  have hd:L.drop (k+1)=l:=by
   rw[<-List.drop_drop,h];rfl
  unfold plc spl;split
  ·have ih:=PP c L l (k+1) (k+1) hd (qg _) kl;rw[qo,jg6,List.zip_cons_cons,qo,ih,Nat.sub_self,jp1,ji0,<-RZ];show _=((L.drop s0).take (k-s0)++[])::spl c l;rw[xy]
  ·have ih:=PP c L l (k+1) s0 hd ⋯ kl;rw[ih];have e:(L.drop s0).take (k+1-s0)=(L.drop s0).take (k-s0)++[a]:=by
    have hk:(L.drop s0)[k-s0]?=some a:=by
     rw[List.getElem?_drop,show s0+(k-s0)=k by lia];have:=yi (fun z=>z[0]?) h;simpa [List.getElem?_drop] using this
    rw[show k+1-s0=(k-s0)+1 by lia,ja4,hk];rfl
   rw[e,ki];rfl
noncomputable def cps(z:Str):List Nat:=z.cps.toList
theorem La(z:Str):(cps z).length=z.length:=ka
theorem Xm(x:Str)(c:Nat):∀(n k free:Nat) (acc:Array Nat),k+n=x.length+1->free<=k->acc.size<=k->
 (forIn (List.range' k n) (acc,free) (StrLaws.occBody x ⟨#[c]⟩ x.length (x.length+1))).run.fst.toList=acc.toList++plc c k ((cps x).drop k)
 | 0,k,free,acc,h,_,_=>by
  rw[kc (by rw[La];lia)];show acc.toList=acc.toList++[];rw[xy]
 | n+1,k,free,acc,h,hf,ha=>by
  rw[List.range'_succ,je9];have one:(⟨#[c]⟩:Str).length=1:=rfl;by_cases z:(cps x)[k]?=some c
  ·have kl:k<(cps x).length:=(zd.mp z).1;have hs:=(StrLaws.subAt_one x c k).mpr z;have ed:(cps x).drop k=c::(cps x).drop (k+1):=by
    rw[kz kl,(zd.mp z).2]
   have ih:=Xm x c n (k+1) (k+1) (acc.push k) ⋯ (qg _) (by rw[Array.size_push];lia);unfold StrLaws.occBody;rw[xo ⟨⟨⟨by show acc.size<x.length+1;lia,hf⟩,hs.1⟩,hs.2⟩,ed];unfold plc;rw[xo rfl];have e2:acc.toList++k::plc c (k+1) ((cps x).drop (k+1))=(acc.push k).toList++plc c (k+1) ((cps x).drop (k+1)):=by
    rw[Array.toList_push,ki];rfl
   rw[e2];exact ih
  ·have hs:¬(k+(⟨#[c]⟩:Str).length<=x.length/\subAt x ⟨#[c]⟩ k=true):=fun y=>z ((StrLaws.subAt_one x c k).mp y);have ih:=Xm x c n (k+1) free acc ⋯ ⋯ ⋯;have ep:plc c k ((cps x).drop k)=plc c (k+1) ((cps x).drop (k+1)):=by
    by_cases kl:k<(cps x).length
    ·rw[kz kl];have:(cps x)[k]≠c:=fun y=>z (by rw[zh kl,y]);show(if (cps x)[k]=c then _ else _)=_;rw[xp this]
    ·rw[kc ⋯,kc ⋯];rfl
   unfold StrLaws.occBody;rw[xp fun y=>hs ⟨y.1.2,y.2⟩,ep];exact ih
theorem gJ(x:Str)(c:Nat):occurrences x ⟨#[c]⟩ 0 x.length (x.length+1)=plc c 0 (cps x):=by
 rw[StrLaws.occ_eq];have:=Xm x c (x.length+1) 0 0 #[] ⋯ (qg _) (qg _);simpa using this
theorem Zi(x:Str)(c:Nat):partsBetween x (plc c 0 (cps x)) 1=(spl c (cps x)).map fun p=>(⟨p.toArray⟩:Str):=by
 have h:=PP c (cps x) (cps x) 0 0 rfl (qg _) (vj _);rw[jp1,ji0,<-RZ] at h;rw[<-h,vk];unfold partsBetween;rw[<-La];refine jo0 fun ij _=>?_;refine Rx (jd9.mp ?_);rw[StrLaws.strSub_toList];rfl
section
variable{X:Cx}
theorem Ws:∀(ps:List Str) (tk:Nat),Vals (ps.map V.str) (strsFrom tk ps)
 | [],_=>.nil
 | p::ps,tk=>.cons ⟨tk,rfl⟩ (Ws ps (tk+1))
theorem Rw:∀{zs:List Str} {us:List Value},Vals (zs.map V.str) us->StrsAre us zs
 | [],_,.nil=>.nil
 | z::zs,_,.cons r rs=>by
  obtain⟨t,rfl⟩:=(show ∃t,_=Value.str z t from r);exact .cons z t (Rw rs)
noncomputable def Mf(c:Nat)(z:Str):List Str:=(spl c (cps z)).map fun p=>(⟨p.toArray⟩:Str)
theorem Yr(c:Nat)(z:Str):(Mf c z).length<=z.length+1:=by
 unfold Mf;rw[js,<-fZ c (cps z) 0,V1,<-La];exact Nat.succ_le_succ List.count_le_length
theorem QB{c:Nat}{z:Str}(h:plc c 0 (cps z)=[]):Mf c z=[z]:=by
 have e:=Zi z c;rw[h] at e;unfold Mf;rw[<-e];show[strSub z 0 z.length]=[z];refine yi (fun y=>[y]) (Rx (jd9.mp ?_));rw[StrLaws.strSub_toList,jp0,Nat.sub_zero];exact ke (by show z.cps.toList.length<=z.cps.size;rw[ka];exact qg _)
def zN:V->List V->Hp->VK->Prop:=fun x xs H Q=>∃z c,x=.str z/\xs=[.str ⟨#[c]⟩]/\c<256/\z.length<=1000000/\∀l,H l=none->Q (.ref l) (upd H l (.lst ((Mf c z).map V.str)))
theorem Nq:MtR X "str.split" zN:=by
 intro pins s Z H x xs v us Q I rx rs h;obtain⟨z,c,rfl,rfl,hc,hz,q⟩:=h;obtain⟨t,rfl⟩:=(show ∃t,v=Value.str z t from rx);obtain⟨u,rfl,ru⟩:=vals1 rs;obtain⟨t',rfl⟩:=(show ∃t,u=Value.str ⟨#[c]⟩ t from ru);have sl:z.length+1<=sizeLine:=zn (Nat.succ_le_succ hz) nofun;have one:(⟨#[c]⟩:Str).length=1:=rfl;have itself:Mf c z=[z]->EP X pins Z Q (.ref s.heap.objs.size) { s with heap:=s.heap.push { cls:=.type "list",data:=.seq [Value.str z t].toArray } }:=fun e=>by
  refine⟨.ref _,_,I.laid (a:=s.heap.objs.size) (o:=.lst ((Mf c z).map V.str)) (fun _ _ e=>jv _ e) (qg _) ⟨by rw[e];show 1<=sizeLine;decide,[Value.str z t],0,by rw[e];exact .cons ⟨t,rfl⟩ .nil,zi _ rfl⟩,rfl,q _ I.fresh⟩
 by_cases h1:(decide (z.length<(⟨#[c]⟩:Str).length)||decide (PySem.Builtin.Str.strKind z<PySem.Builtin.Str.strKind ⟨#[c]⟩))=true
 ·have e:Mf c z=[z]:=by
   have k1:PySem.Builtin.Str.strKind (⟨#[c]⟩:Str)=1:=by
    unfold PySem.Builtin.Str.strKind;simp[hc]
   have k0:1<=PySem.Builtin.Str.strKind z:=by
    unfold PySem.Builtin.Str.strKind
    repeat' split
    all_goals lia
   rw[k1,one,decide_eq_false (show ¬PySem.Builtin.Str.strKind z<1 by lia),Bool.or_false,decide_eq_true_eq] at h1;refine QB ?_;have:cps z=[]:=jb6.mp (by rw[La];lia);rw[this];rfl
  exact call_meets F.slot_str_split (typeIs_str _ _ _) F.entry_str_split (F.args_str_split_2 _ _) (meets_str_split_cannot_occur z ⟨#[c]⟩ t t' h1) (itself e)
 ·have h1':=(Bool.not_eq_true _).mp h1;by_cases h2:(occurrences z ⟨#[c]⟩ 0 z.length (z.length+1)).isEmpty=true
  ·have e:Mf c z=[z]:=by
    rw[gJ,List.isEmpty_iff] at h2;exact QB h2
   exact call_meets F.slot_str_split (typeIs_str _ _ _) F.entry_str_split (F.args_str_split_2 _ _) (meets_str_split_not_found z ⟨#[c]⟩ t t' h1' rfl h2) (itself e)
  ·have h2':=(Bool.not_eq_true _).mp h2;have ep:partsBetween z (occurrences z ⟨#[c]⟩ 0 z.length (z.length+1)) (⟨#[c]⟩:Str).length=Mf c z:=by rw[gJ];exact Zi z c
   refine call_meets F.slot_str_split (typeIs_str _ _ _) F.entry_str_split (F.args_str_split_2 _ _) (meets_str_split_sep z ⟨#[c]⟩ t t' h1' rfl h2' ⋯ (by rw[ep];exact zn (Yr c z) sl)) ?_;rw[ep];exact⟨.ref _,_,I.laid (a:=s.heap.objs.size) (o:=.lst ((Mf c z).map V.str)) (fun _ _ e=>jv _ e) (qg _) ⟨by rw[js];exact zn (Yr c z) sl,strsFrom s.toks (Mf c z),0,Ws _ _,zi _ rfl⟩,rfl,q _ I.fresh⟩
def rJoin(K:Fr):V->List V->Hp->VK->Prop:=fun x xs H Q=>∃z l zs,x=.str z/\xs=[.ref l]/\SqL K H l (zs.map V.str)/\(zs.map (·.length)).sum+zs.length*z.length<=16777216/\Q (.str (Txt.join z zs)) H
theorem gO:MtR X "str.join" (rJoin X.K):=by
 intro pins s Z H x xs v us Q I rx rs h;obtain⟨z,l,zs,rfl,rfl,hl,hz,q⟩:=h;obtain⟨t,rfl⟩:=(show ∃t,v=Value.str z t from rx);obtain⟨u,rfl,ru⟩:=vals1 rs;obtain rfl:u=Value.ref l:=ru;obtain⟨its,r,pl,_⟩:=I.list hl;exact join_list pl.isList (by simpa using Rw r) hz fun t' k=>⟨.str _,H,I.tok _,⟨_,rfl⟩,q⟩
theorem pD:MtR X "str.zfill" (fun x xs H Q=>∃z n,x=.str z/\xs=[.int n]/\0<=n/\n<=1000/\(¬n<=(z.length:Int)->(zfilled z (n.toNat-z.length)).length<=sizeLine)/\Q (.str (if n<=(z.length:Int) then z else zfilled z (n.toNat-z.length))) H):=by
 intro pins s Z H x xs v us Q I rx rs h;obtain⟨z,n,rfl,rfl,n0,n1,hz,q⟩:=h;obtain⟨t,rfl⟩:=(show ∃t,v=Value.str z t from rx);obtain⟨u,rfl,ru⟩:=vals1 rs;obtain⟨t',rfl⟩:=(show ∃t,u=Value.int n t from ru);have hr:(decide (n< -(2^63:Int))||decide (n>=2^63))=false:=by
  rw[Bool.or_eq_false_iff];exact⟨decide_eq_false ⋯,decide_eq_false ⋯⟩
 have hl:tooLong n.toNat=false:=by
  have:(1000:Nat)<sizeLine:=nofun;unfold tooLong;exact decide_eq_false ⋯
 refine call_gives F.slot_str_zfill (typeIs_str _ _ _) F.entry_str_zfill (F.args_str_zfill_2 _ _) (gives_str_zfill z n t t' hr hl) ?_;by_cases c:n<=(z.length:Int)
 ·rw[xo c] at q ⊢;exact⟨.str _,H,I,⟨_,rfl⟩,q⟩
 ·rw[xp c] at q ⊢;exact⟨hz c,.str _,H,I.tok _,⟨_,rfl⟩,q⟩
end
end L2
namespace L2
open PySem PySem.Spec PyProof.Rows
section
variable{s:Shared}{A:Around}{w:World}{prog:Program}
theorem zq{R:Result->Shared->Prop}{g:Addr}{x y d:Int}{t1 t2 t3:Tok}{k:Nat}(ha:A.handled=none)(hg:IsRange s.heap g x y d t1 t2 t3)(big:Builtin.Range.small x y d=false)(ek:Builtin.Range.rangeSize x y d=k)(fits:k<=2^24)(L:Addr)(res:Value)(m0:Nat)
 (hL:s.heap.get? L=some { cls:=.type "list",data:=.seq #[] m0 })
 (fin:∀hp tk ys m,(∀e o,e≠L->s.heap.get? e=some o->hp.get? e=some o)->hp.get? L=some { cls:=.type "list",dict:=none,data:=.seq ys m,slots:= #[] }->ItemsOf (fun i v=>∃t,v=.int (x+i*d) t) ys k->R (.ok (.ret res)) { s with heap:=hp,toks:=tk }):
 wpAny (model prog w) A.in1 (Builtin.List.listExtendWith (.ref L) (.ref g) res)
  (fun z s'=>match z with | .done f=>R (.ok f) s' | .again m=>m.quiet=true/\codeAny (model prog w) A m R s') (fun e s'=>R (.error e) s') s:=by
 have Lg:L≠g:=fun z=>by rw[z,hg] at hL;simp at hL
 have Ll:L<s.heap.objs.size:=zo hL;have Ln:L≠s.heap.objs.size:=vv Ll;have Lm:L∉[s.heap.objs.size]:=fun z=>Ln (zv.mp z);have Wl:=(Walks.longrange (prog:=prog) (w:=w) (A:=A.in1) ha s.heap.objs.size x d k).toS;have loop:∀(hp:Heap) (m tk:Nat),IsLongIter hp s.heap.objs.size (x+((0:Nat):Int)*d) ((k:Int)-((0:Nat):Int)) d->(∀e o,e≠L->s.heap.get? e=some o->hp.get? e=some o)->hp.get? L=some { cls:=.type "list",data:=.seq #[] m }->
  codeAny (model prog w) A (.builtin "list.extend.loop" ⟨[.ref L,.ref s.heap.objs.size,res],[]⟩) R { s with heap:=hp,toks:=tk }:=fun hp m tk it keep hL1=>by
  refine codeAny_extend_loopS Wl (by rw[sizeLine_eq];lia) L Lm res k 0 _ #[] m rfl (vj _) it hL1 (ItemsOf.nil _) fun s2 ys m2 mv hL2 hy=>?_;rw[Moved.eq_with mv];refine fin s2.heap s2.toks ys m2 (fun e o ne he=>mv.heap e o (fun z=>?_) (keep e o ne he)) hL2 hy;have el:=zo he;rcases qh.mp z with z1 | z1
  ·exact ne z1
  ·exact absurd el (by rw[zv.mp z1];exact jd1 _)
 unfold Builtin.List.listExtendWith;refine jp (wpAny_typeOf (T:="range") ⟨_,hg,rfl⟩ ?_);have q1:Builtin.List.listSameRef (.ref L) (.ref g)=false:=by unfold Builtin.List.listSameRef;simp[Lg]
 simp only[q1,show(Value.type "range"==Value.type "list")=false by decide,show(Value.type "range"==Value.type "tuple")=false by decide,Bool.or_false,jk4,if_false];refine jp (wpAny_pyIter_longrange hg big ?_);refine jp (jn6 (wpAny_hint_range (n:=k) (jv _ hg) ek fits ?_));have it1:IsLongIter (s.heap.push { cls:=.type "longrange_iterator",data:=.fields #[rawInt x,rawInt (Builtin.Range.rangeSize x y d),rawInt d] }) s.heap.objs.size (x+((0:Nat):Int)*d) ((k:Int)-((0:Nat):Int)) d:=by
  rw[ek];show Heap.get? _ _=_;simpa using zi s.heap rfl
 have L1:=jv { cls:=.type "longrange_iterator",data:=.fields #[rawInt x,rawInt (Builtin.Range.rangeSize x y d),rawInt d] } hL;refine wpAny_ite_split (fun _=>?_) (fun _=>ze ⟨plainId_quiet F.plain_extend_loop _,loop _ m0 _ it1 (fun e o _ he=>jv _ he) L1⟩);refine jp (wpAny_rule (jp ?_));show wpAny _ _ (updateSeq L (·.push .none) >>= fun _=>updateSeq L (·.pop)) _ _ _;refine jp (wpAny_updateSeq L1 rfl ?_);have L2':=jb2 (Obj.mapSeq (·.push Value.none)) L1 rfl;refine wpAny_updateSeq (hz:=by seq_fits) L2' rfl ?_;have L3:=jb2 (Obj.mapSeq (·.pop)) L2' rfl;refine ze ⟨plainId_quiet F.plain_extend_loop _,loop _ _ _ ?_ (fun e o ne he=>?_) L3⟩
 ·exact(yk _ _ Ln).trans ((yk _ _ Ln).trans it1)
 ·rw[yk _ _ (Ne.symm ne),yk _ _ (Ne.symm ne)];exact jv _ he
theorem vL{R:Result->Shared->Prop}{g:Addr}{x y d:Int}{t1 t2 t3:Tok}{k:Nat}(ha:A.handled=none)(hg:IsRange s.heap g x y d t1 t2 t3)(big:Builtin.Range.small x y d=false)(ek:Builtin.Range.rangeSize x y d=k)(fits:k<=2^24)(L:Addr)
 (hL:s.heap.get? L=some { cls:=.type "list",data:=.seq #[] })
 (fin:∀hp tk ys m,(∀e o,e≠L->s.heap.get? e=some o->hp.get? e=some o)->hp.get? L=some { cls:=.type "list",dict:=none,data:=.seq ys m,slots:= #[] }->ItemsOf (fun i v=>∃t,v=.int (x+i*d) t) ys k->R (.ok (.ret .none)) { s with heap:=hp,toks:=tk }):
 wpAny (model prog w) A.in1 (Builtin.«list.__init__» ⟨[.ref L,.ref g],[]⟩)
  (fun z s'=>match z with | .done f=>R (.ok f) s' | .again m=>m.quiet=true/\codeAny (model prog w) A m R s') (fun e s'=>R (.error e) s') s:=by
 have Lg:L≠g:=fun z=>by rw[z,hg] at hL;simp at hL
 show wpAny _ _ (Builtin.List.listItems (.ref L) >>= fun old=>Builtin.List.listUpdate (.ref L) (fun _=> #[]) >>= fun _=>letGo old.toList.reverse >>= fun _=>Builtin.List.listExtendWith (.ref L) (.ref g) .none) _ _ s;refine jp ?_;unfold Builtin.List.listItems;refine jp (jd3 hL rfl (ze ?_));show wpAny _ _ (updateSeq L (fun _=> #[]) >>= fun _=>letGo (#[]:Array Value).toList.reverse >>= fun _=>Builtin.List.listExtendWith (.ref L) (.ref g) .none) _ _ s;refine jp (wpAny_updateSeq hL rfl ?_);have L1:=jb2 (Obj.mapSeq (fun _=>(#[]:Array Value))) hL rfl;have keep:∀e o,e≠L->s.heap.get? e=some o->(s.heap.update L (Obj.mapSeq (fun _=>(#[]:Array Value)))).get? e=some o:=fun e o ne he=>by
  rw[yk _ _ (Ne.symm ne)];exact he
 refine jp (wpAny_letGo (zq ha (keep g _ (Ne.symm Lg) hg) big ek fits L .none _ L1 fun hp tk ys m k1 k2 k3=>?_));exact fin hp tk ys m (fun e o ne he=>k1 e o ne (keep e o ne he)) k2 k3
theorem vM{E:Value->Shared->Prop}{Q:Value->Shared->Prop}{g:Addr}{x y d:Int}{t1 t2 t3:Tok}{k:Nat}(ha:A.handled=none)(hg:IsRange s.heap g x y d t1 t2 t3)(ek:Builtin.Range.rangeSize x y d=k)(fits:k<=2^24)
 (fin:∀hp tk ys m,(∀e o,s.heap.get? e=some o->hp.get? e=some o)->hp.get? s.heap.objs.size=some { cls:=.type "list",dict:=none,data:=.seq ys m,slots:= #[] }->ItemsOf (fun i v=>∃t,v=.int (x+i*d) t) ys k->Q (.ref s.heap.objs.size) { s with heap:=hp,toks:=tk }):
 wpAny (model prog w) A (call (.type "list") [.ref g]) Q E s:=by
 by_cases sm:Builtin.Range.small x y d=true
 ·exact call_list_range ha hg sm ek fits fin
 have big:Builtin.Range.small x y d=false:=by simpa using sm
 refine callType_codes (Q₁:=fun u s2=>u=.ref s.heap.objs.size/\s2={ s with heap:=s.heap.push { cls:=.type "list",data:=.seq #[] } }) F.called_list (F.typeCall_list_1 _) F.entry_list_init (code_list_new _ ⟨rfl,rfl⟩) fun u s2 z=>?_;obtain⟨rfl,rfl⟩:=z;have L0:(s.heap.push { cls:=.type "list",data:=.seq #[] }).get? s.heap.objs.size=some { cls:=.type "list",data:=.seq #[] }:=zi _ rfl;refine⟨⟨_,L0,rfl⟩,F.args_list_init_2 _ _,vL (A:=A.in1) ha (jv _ hg) big ek fits _ L0 fun hp tk ys m k1 k2 k3=>⟨rfl,?_⟩⟩;refine fin hp tk ys m (fun e o he=>k1 e o ?_ (jv _ he)) k2 k3;exact vv (zo he)
end
section
variable{X:Cx}
def ABc(ta:TA):TE:=fun Z H Q=>ta Z H fun vs H1=>∃(i j:Int),vs=[.int i,.int j]/\i<=j/\j-i<=1000000/\
 ∀l,H1 l=none->Q (.ref l) (upd H1 l (.lst ((List.range (j-i).toNat).map fun(k:Nat)=>V.int (i+(k:Int)))))
theorem cL{a b:Expr}{ta:TA}{p p2 pos pos2:Pos}(hc:X.calm=true)(hgl:Gl X "list")(hml:X.mg "list"=none)(hgr:Gl X "range")(hmr:X.mg "range"=none)(ha:PA X [a,b] ta)
 (hs:‹starEach [a,b] X.env=(false,eval a X.env)::starEach [b] X.env›)(hpl:‹(backTo pos2 (starEach [b] X.env)).any (·.1)=false›)
 (hs1:‹starEach [.Call (.Name "range" p2) [a,b] [] pos2] X.env=(false,eval (.Call (.Name "range" p2) [a,b] [] pos2) X.env)::starEach [] X.env›):
 PE X (.Call (.Name "list" p) [.Call (.Name "range" p2) [a,b] [] pos2] [] pos) (ABc ta):=by
 intro pins s Z H Q I h;refine ja6 (Kl I hgl hml boot_list ?_ nofun nofun);refine ja0 ?_ hs1 rfl;rw[hs1];show wpAny _ _ (spliced ((false,eval _ X.env)::backTo pos (starEach [] X.env))) _ _ s;refine Calls.spliced_cons ?_;refine Call_ (Kl I hgr hmr boot_range (ja0 (thn (ha (pos:=pos2) pins s Z H _ I h) fun us s1 hZ=>?_) hs hpl));obtain⟨vs,H1,I1,r1,q1⟩:=hZ;obtain⟨i,j,rfl,ij,hz,q⟩:=q1;cases r1 with
 | cons r rr=>
  cases rr with
  | cons r' rr=>
   cases rr;obtain⟨t,rfl⟩:=r;obtain⟨t',rfl⟩:=r';refine call_range_2 (Calls.spliced_nil ?_);have I2:Inv X pins Z H1 { s1 with heap:=s1.heap.push { cls:=.type "range",data:=.fields #[.int i t,.int j t',.int 1 s1.toks] },toks:=s1.toks+1 }:=I1.kept fun b o e=>jv _ e;have en:Builtin.Range.rangeSize i j 1=(((j-i).toNat:Nat):Int):=by rw[rangeSize_one];split<;>lia
   refine vM (I2.ok.hd hc) (IsRange.new ..) en ⋯ fun h' tk acc' c' hk hS' hacc=>?_;have hl:acc'.toList.length=(j-i).toNat:=by simpa using hacc.1
   have ef:(fun (k:Nat)=>V.int (i+(k:Int)))=fun(k:Nat)=>V.int (i+(k:Int)*1):=by funext k;rw[ja5]
   rw[ef] at q;refine⟨.ref _,_,I2.laid (o:=.lst ((List.range (j-i).toNat).map fun(k:Nat)=>V.int (i+(k:Int)*1))) hk (qg _) ⟨?_,acc'.toList,c',?_,by simpa using hS'⟩,rfl,q _ I2.fresh⟩
   ·rw[js,jb4,sizeLine_eq];lia
   ·have:=J8 (lo:=i) (c:=1) acc'.toList 0 fun j v hv=>by rw[Nat.zero_add];exact hacc.2 j v (by simpa using hv)
    rw[hl,<-List.range_eq_range'] at this;exact this
end
section
variable{X:Cx}
noncomputable def isZ(z:Str)(v:Value):Bool:=match v with | .str y _=>y==z | _=>false
theorem PlainL.at'{h:Heap}{a:Addr}{its:Array Value}(p:PlainL h a its):∃n dd sl,h.get? a=some { cls:=.type "list",dict:=dd,data:=.seq its n,slots:=sl }:=by
 obtain⟨⟨cl,di,da,sl⟩,n,e,e1,e2,e3⟩:=p;cases e1;cases e3;exact⟨n,di,sl,e⟩
theorem Rt:∀{zs:List Str} {us:List Value},Vals (zs.map V.str) us->us.length=zs.length/\∀(j:Nat) (z:Str),zs[j]?=some z->∃t,us[j]?=some (Value.str z t)
 | [],_,.nil=>⟨rfl,fun j z h=>by simp at h⟩
 | y::zs,_,.cons r rs=>by
  obtain⟨t,rfl⟩:=(show ∃t,_=Value.str y t from r);obtain⟨l,h⟩:=Rt rs;refine⟨by rw[qm,qm,l],fun j z hj=>?_⟩;cases j with
  | zero=>
   simp at hj;exact⟨t,by rw[hj];rfl⟩
  | succ j=>exact h j z (by simpa using hj)
theorem Vr{zs:List Str}{us:List Value}(r:Vals (zs.map V.str) us){v:Value}(h:v∈us):∃z t,v=Value.str z t:=by
 obtain⟨l,g⟩:=Rt r;obtain⟨j,hj,rfl⟩:=List.getElem_of_mem h;obtain⟨t,ht⟩:=g j (zs[j]'⋯) (zh _);rw[zh hj] at ht;exact⟨_,t,xz ht⟩
theorem WP(z:Str):∀{zs:List Str} {us:List Value},Vals (zs.map V.str) us->us.countP (isZ z)=zs.count z
 | [],_,.nil=>rfl
 | y::zs,_,.cons r rs=>by
  obtain⟨t,rfl⟩:=(show ∃t,_=Value.str y t from r);rw[List.countP_cons,WP z rs,List.count_cons];rfl
def uR(K:Fr):V->List V->Hp->VK->Prop:=fun x xs H Q=>∃(l:Addr) (zs:List Str) (z:Str),x=.ref l/\xs=[.str z]/\SqL K H l (zs.map V.str)/\Q (.int ((zs.count z:Nat):Int)) H
theorem jd:MtR X "list.count" (uR X.K):=by
 intro pins s Z H x xs v us Q I rx rs h;obtain⟨l,zs,z,rfl,rfl,hl,q⟩:=h;obtain rfl:v=Value.ref l:=rx;obtain⟨u,rfl,ru⟩:=vals1 rs;obtain⟨t',rfl⟩:=(show ∃t,u=Value.str z t from ru);obtain⟨its,r,pl,_⟩:=I.list hl;obtain⟨c0,dd,sl,at0⟩:=PlainL.at' pl;have eq:∀y∈its.toArray,SeqAt.EqAt X.A.in1 s y (Value.str z t') (isZ z y):=fun y hy=>by
  obtain⟨a,t,rfl⟩:=Vr r (by simpa using hy);exact SeqAt.EqAt.str_str a t z t'
 refine call_meets F.slot_list_count pl.isList.typeIs F.entry_list_count (F.args_list_count_2 _ _) (SeqAt.list_countAt l its.toArray _ _ _ (Value.str z t') (isZ z)) ⟨at0,eq,?_⟩;have ec:its.toArray.toList.countP (isZ z)=zs.count z:=WP z r;rw[ec];exact⟨.int _,H,I.tok _,⟨_,rfl⟩,q⟩
def uQ(K:Fr):V->List V->Hp->VK->Prop:=fun x xs H Q=>∃(l:Addr) (zs:List Str) (z:Str) (j:Nat),x=.ref l/\xs=[.str z]/\SqL K H l (zs.map V.str)/\zs[j]?=some z/\(∀m,m<j->zs[m]?≠some z)/\Q (.int ((j:Nat):Int)) H
theorem jc:MtR X "list.index" (uQ X.K):=by
 intro pins s Z H x xs v us Q I rx rs h;obtain⟨l,zs,z,j,rfl,rfl,hl,hj,hno,q⟩:=h;obtain rfl:v=Value.ref l:=rx;obtain⟨u,rfl,ru⟩:=vals1 rs;obtain⟨t',rfl⟩:=(show ∃t,u=Value.str z t from ru);obtain⟨its,r,pl,lim⟩:=I.list hl;obtain⟨c0,dd,sl,at0⟩:=PlainL.at' pl;obtain⟨il,ig⟩:=Rt r;have jl:j<zs.length:=(zd.mp hj).1;rw[js,sizeLine_eq] at lim;have eq:∀y∈its.toArray,SeqAt.EqAt X.A.in1 s y (Value.str z t') (isZ z y):=fun y hy=>by
  obtain⟨a,t,rfl⟩:=Vr r (by simpa using hy);exact SeqAt.EqAt.str_str a t z t'
 have at_:∀m (hm:m<its.toArray.size),∃a t,zs[m]?=some a/\its.toArray[m]=Value.str a t:=fun m hm=>by
  have hm':m<its.length:=by simpa using hm
  obtain⟨t,ht⟩:=ig m (zs[m]'⋯) (zh _);refine⟨_,t,zh ⋯,?_⟩;rw[zh hm'] at ht;simpa using xz ht
 refine call_meets F.slot_list_index pl.isList.typeIs F.entry_list_index (F.args_list_index_2 _ _) (SeqAt.list_indexAt l its.toArray _ _ _ (Value.str z t') (isZ z) j (by simpa using (show j<its.length by lia)) ⋯ ?_ fun m hm lt=>?_) ⟨at0,eq,?_⟩
 ·obtain⟨a,t,ha,e⟩:=at_ j (by simpa using (show j<its.length by lia));rw[e];rw[hj] at ha;cases ha;show(z==z)=true;simp
 ·obtain⟨a,t,ha,e⟩:=at_ m hm;rw[e];show(a==z)=false;have:a≠z:=fun y=>hno m lt (by rw[ha,y]);simpa using this
 ·exact⟨.int _,H,I.tok _,⟨_,rfl⟩,q⟩
end
section
variable{M:Model}{A:Around}{E:Value->Shared->Prop}{s:Shared}{base:Heap}{env:Env}{outer l:List Env}{L e:Addr}{cls:Value}{dd:Option Addr}{fl:Value}
end
section
variable{X:Cx}{pins:List (Addr×Obj)}{Z:St}{H H':Hp}{s:Shared}{C ea:Addr}{cls:Value}{dx:Option Addr}{B h1 h2 h3:Heap}{fl:Value}
end
section
variable{X:Cx}{pins:List (Addr×Obj)}{Z:St}{H2:Hp}{s2:Shared}{M:List Str}{x:Str}{scope:Scope}{cl:List (Str×Addr)}{C:Addr}{fp:List Addr}{E:XK}{Qe:Value->Shared->Prop}{acc:Value}
end
section
variable{X:Cx}
end
end L2
namespace L2
open PySem PySem.Spec PyProof.Rows Builtin.Str
section
variable{X:Cx}
theorem jZ:MtR X "str.rstrip" (fun x xs H Q=>∃z y,x=.str z/\xs=[.str y]/\z.length<=sizeLine/\Q (.str (if stripSame y.cps.contains false true z then z else stripped y.cps.contains false true z)) H):=by
 intro pins s Z H x xs v us Q I rx rs h;obtain⟨z,y,rfl,rfl,hz,q⟩:=h;obtain⟨t,rfl⟩:=(show ∃t,v=Value.str z t from rx);obtain⟨u,rfl,ru⟩:=vals1 rs;obtain⟨t',rfl⟩:=(show ∃t,u=Value.str y t from ru);refine call_gives F.slot_str_rstrip (typeIs_str _ _ _) F.entry_str_rstrip (F.args_str_rstrip_2 _ _) (gives_str_rstrip_chars z y t t') ?_;by_cases c:stripSame y.cps.contains false true z=true
 ·rw[xo c] at q ⊢;exact⟨.str _,H,I,⟨_,rfl⟩,q⟩
 ·rw[xp c] at q ⊢;exact⟨fits_stripped _ _ _ hz,.str _,H,I.tok _,⟨_,rfl⟩,q⟩
end
end L2
namespace L2
open PySem PySem.Spec PyProof.Rows
section
variable{prog:Program}{w:World}{A:Around}{R:Result->Shared->Prop}{I:Addr}{fp wr:List Addr}{n:Nat}{P:Nat->Value->Prop}{St:Nat->Heap->Prop}
end
section
variable{prog:Program}{w:World}{A:Around}{E:Value->Shared->Prop}{s:Shared}
end
section
variable{X:Cx}
end
end L2
namespace L2
open PySem
@[elab_as_elim] theorem fresh{P:Hp->Prop}{H:Hp}{l:Addr}{o:HO}(h:H l=none)(q:∀H',BP H H'->H' l=some o->P H'):P (upd H l o):=q _ (BR h o) Ai
example {Q:V->Hp->Prop} {H:Hp} (q:∀l H',BP H H'->H' l=some (.lst [.int 1])->Q (.ref l) H'):∀l,H l=none->Q (.ref l) (upd H l (.lst [.int 1])):=fun l hl=>by
 refine fresh hl fun H1 s1 t1=>?_;exact q l H1 s1 t1
end L2
namespace L2
open PySem PySem.Spec PyProof.Rows
section
variable{X:Cx}
end
section
variable{X:Cx}{M:List Str}{x:Str}{scope:Scope}{cl:List (Str×Addr)}{C:Addr}{s₀:Shared}{H₀:Hp}{fp:List Addr}
end
def FnG(K:Fr)(g n q:Str)(st:Stmt):Prop:=∃f fd,PySem.W.nsIn K mainGlobals g=some (some (.ref f))/\Fun K n q st f fd
def FnM(K:Fr)(C:Addr)(x n q:Str)(st:Stmt):Prop:=∃f fd,PySem.W.findIn K (.ref C) x=some (some (.ref f))/\Fun K n q st f fd/\PySem.W.typeIn K (.ref f)=some (.type "function")
def GZ(n q:Str)(st:Stmt)(ps:List Str):Prop:=∀(kV doc pm:Value) (an:Option Addr) (cdv ct:Value) (us:List Value),us.length=ps.length->bindArgs (PySem.W.fnOf n q (Fd st) (Cq st) (BK st) .none kV doc pm an cdv ct) ⟨us,[]⟩=pure (ps.zip us)
theorem qG{K:Fr}{g n q:Str}{st:Stmt}{f:Addr}{oc:Value}{od an:Option Addr}{osl:Array (Option Value)}{kV doc pm cdv ct:Value}(a:PySem.W.nsIn K mainGlobals g=some (some (.ref f)))(l:K.lookup f=some ⟨oc,od,.func (PySem.W.fnOf n q (Fd st) (Cq st) (BK st) .none kV doc pm an cdv ct),osl⟩)
 (c:PySem.W.codeIn K cdv q=true)(k:PySem.W.keepIn K (.ref f)=true):FnG K g n q st:=⟨f,_,a,qC l c k⟩
theorem AAb{K:Fr}{C:Addr}{x n q:Str}{st:Stmt}{f:Addr}{oc:Value}{od an:Option Addr}{osl:Array (Option Value)}{kV doc pm cdv ct:Value}(a:PySem.W.findIn K (.ref C) x=some (some (.ref f)))(l:K.lookup f=some ⟨oc,od,.func (PySem.W.fnOf n q (Fd st) (Cq st) (BK st) .none kV doc pm an cdv ct),osl⟩)
 (c:PySem.W.codeIn K cdv q=true)(k:PySem.W.keepIn K (.ref f)=true)(u:PySem.W.typeIn K (.ref f)=some (.type "function")):FnM K C x n q st:=⟨f,_,a,qC l c k,u⟩
section
variable{P:Program}{w:World}{K:Fr}{h:Heap}{mg:Str->Option Value}{base:Heap}{g n q:Str}{st:Stmt}{ps:List Str}{k:Nat}{sp:Sp}
theorem dH(X:K.In h)(G:h.Ns mainGlobals mg)(Q:FnG K g n q st)(b:GZ n q st ps)(ok:∀{f:Addr} {fd:FuncData},Fun K n q st f fd->Ds P w K mg base CX0 k f fd ps sp):Cal P w K mg base k g ps sp:=by
 obtain⟨f,fd,a,F⟩:=Q;exact⟨⟨f,fd,ok F,F.binds b,F.kp,je2 X G a⟩⟩
theorem YF(X:K.In h)(G:h.Ns mainGlobals mg)(Q:FnG K g n q st)(b:GZ n q st ps)(ok:∀{f:Addr} {fd:FuncData},Fun K n q st f fd->Ds P w K mg base (CX1 P w) k f fd ps sp):rM P w K mg base k g ps sp:=by
 obtain⟨f,fd,a,F⟩:=Q;exact⟨⟨f,fd,ok F,F.binds b,F.kp,je2 X G a⟩⟩
theorem vz{CX:CXT}{C:Addr}(Q:FnM K C g n q st)(b:GZ n q st ps)(ok:∀{f:Addr} {fd:FuncData},Fun K n q st f fd->Ds P w K mg base CX k f fd ps sp):Mr P w K mg base CX k C g ps sp:=by
 obtain⟨f,fd,a,F,u⟩:=Q;exact⟨⟨f,fd,ok F,F.binds b,⟨a,ja7.mpr u,F.kp⟩⟩⟩
theorem wA{CX:CXT}{x:Str}{C:Addr}(X:K.In h)(G:h.Ns mainGlobals mg)(mk:PySem.W.makesIn K C=true)(kp:PySem.W.keepIn K (.ref C)=true)(nC:PySem.W.nsIn K mainGlobals x=some (some (.ref C)))(Q:FnM K C "__init__" n q st)(b:GZ n q st ps)(ok:∀{f:Addr} {fd:FuncData},Fun K n q st f fd->Ds P w K mg base CX k f fd ps sp):aV P w K mg base CX k x C ps sp:=by
 obtain⟨f,fd,a,F,u⟩:=Q;exact⟨⟨f,fd,ok F,F.binds b,⟨mk,a,ja7.mpr u,kp⟩,je2 X G nC⟩⟩
end
theorem NP{P:Program}{w:World}{K:Fr}{mg:Str->Option Value}{base:Heap}{CX:CXT}{k0:Nat}{m n q:Str}{st:Stmt}{ps:List Str}{Cs:List Addr}{sp:Nat->Sp}
 (hC:∀C∈Cs,Cls K C/\FnM K C m n q st)(b:GZ n q st ps)(z:∀vs H Q E,¬sp 0 vs H Q E)
 (step:∀(d:Nat) {f:Addr} {fd:FuncData},Eg P w K mg base CX (k0+d) m ps (Cs.map fun C=>(C,sp d))->Fun K n q st f fd->Ds P w K mg base CX (k0+d+1) f fd ps (sp (d+1))):
 ∀d,Eg P w K mg base CX (k0+d) m ps (Cs.map fun C=>(C,sp d))
 | 0=>⟨fun p hp=>by
  obtain⟨C,hC',rfl⟩:=vi.mp hp;obtain⟨c,f,fd,a,F,u⟩:=hC C hC';exact⟨c,f,fd,⟨fun vs H Q E h=>absurd h (z vs H Q E),fun A outer s H args us vs Q E _ _ _ _ h=>absurd h (z vs H Q E)⟩,F.binds b,⟨a,ja7.mpr u,F.kp⟩⟩⟩
 | d+1=>⟨fun p hp=>by
  have R:=NP hC b z step d;obtain⟨C,hC',rfl⟩:=vi.mp hp;obtain⟨c,f,fd,a,F,u⟩:=hC C hC';exact⟨c,f,fd,step d R F,F.binds b,⟨a,ja7.mpr u,F.kp⟩⟩⟩
theorem all_nil{α:Type}{p:α->Prop}:∀x∈([]:List α),p x:=fun _ h=>(nomatch h)
theorem all_cons{α:Type}{p:α->Prop}{a:α}{l:List α}(h:p a)(t:∀x∈l,p x):∀x∈a::l,p x:=fun x hx=>by
 rcases qh.mp hx with e | e
 ·exact e ▸ h
 ·exact t x e
section
variable{X:Cx}{k:Nat}{q:Addr}{fd:FuncData}{p:Str}{sp:Sp}{xs:List V}{kf:Nat->Int}{J:Hp->Prop}{l:Addr}{pins:List (Addr×Obj)}{Z:St}
end
section
variable{prog:Program}{w:World}{A:Around}{E:Value->Shared->Prop}{s:Shared}
theorem cV{it t:Addr}{i:Nat}{items:Array Value}{x:Value}{Q:Value->Shared->Prop}(hit:s.heap.IsTupleIter it t i)(ht:s.heap.IsTuple t items)(hx:items[i]?=some x)
 (hQ:∀h',h'.IsTupleIter it t (i+1)->Heap.SameBut it s.heap h'->Q x { s with heap:=h' }):wpAny (model prog w) A (Builtin.SmallTypes.nextOf (.ref it)) Q E s:=by
 obtain⟨o,ho,hc,hd⟩:=id hit;obtain⟨ol,hol,_,nl,hdl⟩:=ht;unfold Builtin.SmallTypes.nextOf;refine jp (jd2 (name:=Str.ofString "__next__") hit.typeIs F.slot_tuple_iterator_next (jj3 F.slot_tuple_iterator_next hit.typeIs F.entry_tuple_iterator_next ?_ (F.args_tuple_iterator_next_1 _)));show wpAny _ _ (field (.ref it) 0 >>= _) _ _ s;refine jp (Zl ho hd (x:=.ref t) rfl ?_);show wpAny _ _ (if (Value.ref t==Value.none)=true then _ else _) _ _ s;rw[xp (show ¬((Value.ref t==Value.none)=true) from qv)];show wpAny _ _ (field (.ref it) 1 >>= _) _ _ s;refine jp (Zl ho hd (x:=.int i 0) rfl ?_);show wpAny _ _ (seqItems? (.ref t) >>= _) _ _ s;refine jp (jd3 hol hdl ?_);simp only[xc,hx];refine jp (jm1 ho hd (by simp) (ze ⟨x,rfl,ze (hQ _ ?_ (Heap.SameBut.update ..))⟩));exact⟨_,jb2 _ ho (Obj.isFreed_of_fields (Obj.data_mapFields hd _)),(Obj.cls_mapFields ..).trans hc,by rw[Obj.data_mapFields hd];simp[rawInt]⟩
theorem jX{it t:Addr}{i:Nat}{items:Array Value}{Q:Value->Shared->Prop}(hh:A.handled=none)(hit:s.heap.IsTupleIter it t i)(ht:s.heap.IsTuple t items)(hx:items[i]?=none)
 (hE:∀h' e,Heap.ExtBut it s.heap h'->(∃o,h'.get? e=some o/\o.cls=.type "StopIteration")->E (.ref e) { s with heap:=h' }):wpAny (model prog w) A (Builtin.SmallTypes.nextOf (.ref it)) Q E s:=by
 obtain⟨o,ho,hc,hd⟩:=id hit;obtain⟨ol,hol,_,nl,hdl⟩:=ht;unfold Builtin.SmallTypes.nextOf;refine jp (jd2 (name:=Str.ofString "__next__") hit.typeIs F.slot_tuple_iterator_next (jj3 F.slot_tuple_iterator_next hit.typeIs F.entry_tuple_iterator_next ?_ (F.args_tuple_iterator_next_1 _)));show wpAny _ _ (field (.ref it) 0 >>= _) _ _ s;refine jp (Zl ho hd (x:=.ref t) rfl ?_);show wpAny _ _ (if (Value.ref t==Value.none)=true then _ else _) _ _ s;rw[xp (show ¬((Value.ref t==Value.none)=true) from qv)];show wpAny _ _ (field (.ref it) 1 >>= _) _ _ s;refine jp (Zl ho hd (x:=.int i 0) rfl ?_);show wpAny _ _ (seqItems? (.ref t) >>= _) _ _ s;refine jp (jd3 hol hdl ?_);simp only[xc,hx];refine jp (wpAny_rule (jp (jm1 ho hd (by simp) ?_)));show wpAny _ _ (newExc (.type "StopIteration") [] >>= _) _ _ _;refine jp ?_;simp only[newExc,newTuple];refine jp (jc4 ?_ (by size_fits));refine jp (m:=firstArgMember _ _) (wpAny_of_eq (a:=Value.none) (by first | rfl | (simp only[firstArgMember];rfl)) ?_)
 refine jc4 ?_ (by size_fits);simp only[raiseNew];refine jp (wpAny_handled ?_)
 first | rw[show A.in1.handled=none from hh] | rw[hh]
 refine jp (ze (wpAny_throw ?_));exact hE _ _ (((Heap.SameBut.update ..).extBut.push _).push _) ⟨_,zi _ rfl,rfl⟩
end
theorem AAe{prog:Program}{w:World}{A:Around}(hh:A.handled=none)(it t:Addr)(hne:t≠it)(items:Array Value):
 Draws prog w A it [it,t] items.size (fun i v=>items[i]?=some v) (fun i h=>h.IsTupleIter it t i/\h.IsTuple t items) where
 live:=fun i h st=>let ⟨o,e,_⟩:=st.1;⟨o,e⟩
 frame:=fun i h h' st k=>⟨let ⟨o,e,r⟩:=st.1;⟨o,k it (by simp) o e,r⟩,let ⟨o,e,r⟩:=st.2;⟨o,k t (by simp) o e,r⟩⟩
 item:=fun i s Q E hi st hQ=>cV st.1 st.2 (x:=items[i]) (by simp[hi]) fun h' hit hs=>hQ _ h' s.toks (by simp[hi]) ⟨hit,st.2.extBut hs.extBut hne⟩ hs
 done:=fun s Q E st hE=>jX hh st.1 st.2 (by simp) hE
structure dq(z TI TO i1 i2:Addr)(f1 f2:List Addr):Prop where
 zTO:TO≠z
 zTI:TI≠z
 tt:TI≠TO
 t1:TI≠i1
 t2:TI≠i2
 m1:i1∈f1
 m2:i2∈f2
 z1:z∉f1
 z2:z∉f2
 o1:TO∉f1
 o2:TO∉f2
 n1:i2∉f1
 n2:i1∉f2
theorem Draws.sb{prog:Program}{w:World}{A:Around}{it c:Addr}{fp:List Addr}{n i:Nat}{P:Nat->Value->Prop}{St:Nat->Heap->Prop}{h h':Heap}(D:Draws prog w A it fp n P St)(st:St i h)(k:Heap.SameBut c h h')(nc:c∉fp):St i h':=
 D.frame i h h' st fun b hb o e=>k.extBut b o (fun z=>nc (z ▸ hb)) e
section
variable{prog:Program}{w:World}{A:Around}{E:Value->Shared->Prop}{s:Shared}{z TI TO i1 i2:Addr}{f1 f2:List Addr}{n1 n2 k:Nat}{P1 P2:Nat->Value->Prop}{S1 S2:Nat->Heap->Prop}{a b:Value}
theorem iV{Q:Value->Shared->Prop}(D:dq z TI TO i1 i2 f1 f2)(D1:Draws prog w A i1 f1 n1 P1 S1)(D2:Draws prog w A i2 f2 n2 P2 S2)
 (hz:IsZip s.heap z TI TO .none)(hTI:IsPair s.heap TI (.ref i1) (.ref i2))(hTO:IsPair s.heap TO a b)(h1:S1 k s.heap)(h2:S2 k s.heap)(l1:k<n1)(l2:k<n2)
 (hQ:∀x y h' tk,P1 k x->P2 k y->IsZip h' z TI TO (rawInt s.heap.objs.size)->IsPair h' TO x y->S1 (k+1) h'->S2 (k+1) h'->IsPair h' s.heap.objs.size x y->
  (∀c o,c≠z->c≠TO->c≠i1->c≠i2->s.heap.get? c=some o->h'.get? c=some o)->Q (.ref s.heap.objs.size) { s with heap:=h',toks:=tk }):
 wpAny (model prog w) A (Builtin.«zip.__next__» ⟨[.ref z],[]⟩) (fun fin s'=>∃v,fin=.done (.ret v)/\Q v s') E s:=by
 have zi1:z≠i1:=fun e=>D.z1 (e ▸ D.m1);have zi2:z≠i2:=fun e=>D.z2 (e ▸ D.m2);have oi1:TO≠i1:=fun e=>D.o1 (e ▸ D.m1);have oi2:TO≠i2:=fun e=>D.o2 (e ▸ D.m2);show wpAny _ _ (field (.ref z) 2 >>= _) _ _ _;refine jp (Zl hz rfl (x:=.bool false) rfl ?_);show wpAny _ _ (field (.ref z) 3 >>= _) _ _ _;refine jp (Zl hz rfl (x:=.ref TI) rfl ?_);refine jp (jd3 hTI rfl ?_);show wpAny _ _ (Builtin.SmallTypes.ownedTupleIsFree (.ref z) >>= _) _ _ _;refine jp ?_;unfold Builtin.SmallTypes.ownedTupleIsFree;refine jp (Zl hz rfl (x:=.none) rfl (ze ?_));simp only[if_true];refine jp (wpAny_rule (jp (Zl hz rfl (x:=.ref TO) rfl ?_)));refine jp (je4 hz (by simp) fun g1 hz1 q1=>jp ?_);replace hz1:IsZip g1 z TI TO .ellipsis:=hz1;simp only[List.zipIdx_cons,List.zipIdx_nil,je9,ji7];refine jp (jp (wpAny_onRaise ?_));show wpAny _ _ (Builtin.SmallTypes.nextOf (.ref i1) >>= _) _ _ _;refine(jp (D1.item k _ _ _ l1 (Draws.sb D1 h1 q1 D.z1) fun x g2 tk2 px s2 q2=>ze ?_));have p2:IsPair g2 TO a b:=q2.extBut _ _ oi1 (q1.extBut _ _ D.zTO hTO);refine jp (jd3 p2 rfl (jp (wpAny_updateSeq_pair p2 fun g3 p3 q3=>jp (wpAny_letGo (ze ?_)))));replace p3:IsPair g3 TO x b:=p3;refine jp (jp (wpAny_onRaise ?_));show wpAny _ _ (Builtin.SmallTypes.nextOf (.ref i2) >>= _) _ _ _;refine(jp (D2.item k _ _ _ l2 (Draws.sb D2 (Draws.sb D2 (Draws.sb D2 h2 q1 D.z2) q2 D.n2) q3 D.o2) fun y g4 tk4 py s4 q4=>ze ?_));have p4:IsPair g4 TO x b:=q4.extBut _ _ oi2 p3;refine jp (jd3 p4 rfl (jp (wpAny_updateSeq_pair p4 fun g5 p5 q5=>jp (wpAny_letGo (ze (ze ?_))))));replace p5:IsPair g5 TO x y:=p5;refine jp (jd3 p5 rfl (jp (wpAny_newTuple ?_)));have hsz:g5.objs.size=s.heap.objs.size:=by rw[q5.1,q4.1,q3.1,q2.1,q1.1]
 have z5:IsZip g5 z TI TO .ellipsis:=q5.extBut _ _ D.zTO.symm (q4.extBut _ _ zi2 (q3.extBut _ _ D.zTO.symm (q2.extBut _ _ zi1 hz1)));have zlt:z<g5.objs.size:=zo z5;have e1:S1 (k+1) g5:=Draws.sb D1 (Draws.sb D1 (Draws.sb D1 s2 q3 D.o1) q4 D.n1) q5 D.o1;have e2:S2 (k+1) g5:=Draws.sb D2 s4 q5 D.o2;show wpAny _ _ (Builtin.SmallTypes.ownedTupleHandOut (.ref z) (.ref g5.objs.size) >>= _) _ _ _;refine jp ?_;unfold Builtin.SmallTypes.ownedTupleHandOut;have z6:IsZip (g5.push { cls:=.type "tuple",data:=.seq #[x,y] }) z TI TO .ellipsis:=jv _ z5;refine jp (je4 z6 (by simp) fun g7 z7 q7=>?_);replace z7:IsZip g7 z TI TO (rawInt g5.objs.size):=z7;refine je4 z7 (by simp) fun g8 z8 q8=>?_;replace z8:IsZip g8 z TI TO (rawInt g5.objs.size):=z8;have up:∀c o,c≠z->g5.get? c=some o->g8.get? c=some o:=fun c o n e=>q8.extBut _ _ n (q7.extBut _ _ n (jv _ e));have t8:IsPair g8 g5.objs.size x y:=q8.extBut _ _ (jo9 zlt) (q7.extBut _ _ (jo9 zlt) (zi _ rfl));rw[hsz] at z8 t8;refine ze ⟨_,rfl,?_⟩;show Q (.ref g5.objs.size) _;rw[hsz];exact hQ x y g8 tk4 px py z8 (up _ _ D.zTO p5) (D1.frame _ _ _ e1 fun c hc o e=>up c o (fun q=>D.z1 (q ▸ hc)) e) (D2.frame _ _ _ e2 fun c hc o e=>up c o (fun q=>D.z2 (q ▸ hc)) e) t8
  fun c o c1 c2 c3 c4 e=>up c o c1 (q5.extBut _ _ c2 (q4.extBut _ _ c4 (q3.extBut _ _ c2 (q2.extBut _ _ c3 (q1.extBut _ _ c1 e)))))
theorem km{Q:PySem.Fin->Shared->Prop}(D:dq z TI TO i1 i2 f1 f2)(D1:Draws prog w A i1 f1 n1 P1 S1)(D2:Draws prog w A i2 f2 n2 P2 S2)
 (hz:IsZip s.heap z TI TO .none)(hTI:IsPair s.heap TI (.ref i1) (.ref i2))(hTO:IsPair s.heap TO a b)(h1:S1 k s.heap)(h2:S2 k s.heap)(hk:k=n1\/k<n1/\k=n2)
 (hE:∀h' tk e,(∀c o,c≠z->c≠TO->c≠i1->c≠i2->s.heap.get? c=some o->h'.get? c=some o)->(∃o,h'.get? e=some o/\o.cls=.type "StopIteration")->E (.ref e) { s with heap:=h',toks:=tk }):
 wpAny (model prog w) A (Builtin.«zip.__next__» ⟨[.ref z],[]⟩) Q E s:=by
 have zi1:z≠i1:=fun e=>D.z1 (e ▸ D.m1);have zi2:z≠i2:=fun e=>D.z2 (e ▸ D.m2);have oi1:TO≠i1:=fun e=>D.o1 (e ▸ D.m1);have oi2:TO≠i2:=fun e=>D.o2 (e ▸ D.m2);show wpAny _ _ (field (.ref z) 2 >>= _) _ _ _;refine jp (Zl hz rfl (x:=.bool false) rfl ?_);show wpAny _ _ (field (.ref z) 3 >>= _) _ _ _;refine jp (Zl hz rfl (x:=.ref TI) rfl ?_);refine jp (jd3 hTI rfl ?_);show wpAny _ _ (Builtin.SmallTypes.ownedTupleIsFree (.ref z) >>= _) _ _ _;refine jp ?_;unfold Builtin.SmallTypes.ownedTupleIsFree;refine jp (Zl hz rfl (x:=.none) rfl (ze ?_));simp only[if_true];refine jp (wpAny_rule (jp (Zl hz rfl (x:=.ref TO) rfl ?_)));refine jp (je4 hz (by simp) fun g1 hz1 q1=>jp ?_);replace hz1:IsZip g1 z TI TO .ellipsis:=hz1;simp only[List.zipIdx_cons,List.zipIdx_nil,je9,ji7];refine jp (jp (wpAny_onRaise ?_));show wpAny _ _ (Builtin.SmallTypes.nextOf (.ref i1) >>= _) _ _ _;rcases hk with e | ⟨l1,e⟩
 ·subst e;refine jp (D1.done _ _ _ (Draws.sb D1 h1 q1 D.z1) fun g2 e q2 hZ=>?_);obtain⟨oe,hoe,hce⟩:=hZ;have z2:IsZip g2 z TI TO .ellipsis:=q2 _ _ zi1 hz1;have ez:e≠z:=fun x=>by subst x;rw[z2] at hoe;cases hoe;simp at hce
  exact je4 z2 (by simp) fun g3 _ q3=>hE g3 s.toks e (fun c o c1 _ c3 _ x=>q3.extBut _ _ c1 (q2 _ _ c3 (q1.extBut _ _ c1 x))) ⟨oe,q3.extBut _ _ ez hoe,hce⟩
 ·subst e;refine jp (D1.item k _ _ _ l1 (Draws.sb D1 h1 q1 D.z1) fun x g2 tk2 px s2 q2=>ze ?_);have p2:IsPair g2 TO a b:=q2.extBut _ _ oi1 (q1.extBut _ _ D.zTO hTO);refine jp (jd3 p2 rfl (jp (wpAny_updateSeq_pair p2 fun g3 p3 q3=>jp (wpAny_letGo (ze ?_)))));refine jp (jp (wpAny_onRaise ?_));show wpAny _ _ (Builtin.SmallTypes.nextOf (.ref i2) >>= _) _ _ _;refine jp (D2.done _ _ _ (Draws.sb D2 (Draws.sb D2 (Draws.sb D2 h2 q1 D.z2) q2 D.n2) q3 D.o2) fun g4 e q4 hZ=>?_);obtain⟨oe,hoe,hce⟩:=hZ;have z4:IsZip g4 z TI TO .ellipsis:=q4 _ _ zi2 (q3.extBut _ _ D.zTO.symm (q2.extBut _ _ zi1 hz1));have ez:e≠z:=fun x=>by subst x;rw[z4] at hoe;cases hoe;simp at hce
  exact je4 z4 (by simp) fun g5 _ q5=>hE g5 tk2 e (fun c o c1 c2 c3 c4 x=>q5.extBut _ _ c1 (q4 _ _ c4 (q3.extBut _ _ c2 (q2.extBut _ _ c3 (q1.extBut _ _ c1 x))))) ⟨oe,q5.extBut _ _ ez hoe,hce⟩
end
section
variable{prog:Program}{w:World}{A:Around}{E:Value->Shared->Prop}{s:Shared}{z TI TO i1 i2 l1 l2:Addr}{k:Nat}{xs ys:Array Value}{a b:Value}
theorem apart2(D:ZipApart z TI TO i1 i2 l1 l2):dq z TI TO i1 i2 [i1,l1] [i2,l2]:=
 ⟨D.TOz,D.TIz,D.TITO,D.TIi1,D.TIi2,by simp,by simp,by simp[D.i1z.symm,D.l1z.symm],by simp[D.i2z.symm,D.l2z.symm],by simp[D.TOi1,D.l1TO.symm],by simp[D.TOi2,D.l2TO.symm],by simp[D.i12.symm,D.l1i2.symm],by simp[D.i12,D.l2i1.symm]⟩
end
section
variable{X:Cx}
end
section
variable{P:Program}{w:World}{K:Fr}{h:Heap}{mg:Str->Option Value}{base:Heap}{k0 J:Nat}{g n q:Str}{st:Stmt}{ps:List Str}{sp:Nat->Sp}
theorem fO(X:K.In h)(G:h.Ns mainGlobals mg)(F:FnG K g n q st)(b:GZ n q st ps)(z:∀vs H Q E,¬sp 0 vs H Q E)
 (step:∀(d:Nat) {f:Addr} {fd:FuncData},Cal P w K mg base (k0+J*d) g ps (sp d)->Fun K n q st f fd->Ds P w K mg base CX0 (k0+J*d+J) f fd ps (sp (d+1))):
 ∀d,Cal P w K mg base (k0+J*d) g ps (sp d)
 | 0=>dH X G F b fun _=>⟨fun vs H Q E h=>absurd h (z vs H Q E),fun A outer s H args us vs Q E _ _ _ _ h=>absurd h (z vs H Q E)⟩
 | d+1=>by
  have R:=fO X G F b z step d;rw[show k0+J*(d+1)=k0+J*d+J by rw[Nat.mul_succ,Nat.add_assoc]];exact dH X G F b fun F'=>step d R F'
theorem Za(X:K.In h)(G:h.Ns mainGlobals mg)(F:FnG K g n q st)(b:GZ n q st ps)(z:∀vs H Q E,¬sp 0 vs H Q E)
 (step:∀(d:Nat) {f:Addr} {fd:FuncData},rM P w K mg base (k0+J*d) g ps (sp d)->Fun K n q st f fd->Ds P w K mg base (CX1 P w) (k0+J*d+J) f fd ps (sp (d+1))):
 ∀d,rM P w K mg base (k0+J*d) g ps (sp d)
 | 0=>YF X G F b fun _=>⟨fun vs H Q E h=>absurd h (z vs H Q E),fun A outer s H args us vs Q E _ _ _ _ h=>absurd h (z vs H Q E)⟩
 | d+1=>by
  have R:=Za X G F b z step d;rw[show k0+J*(d+1)=k0+J*d+J by rw[Nat.mul_succ,Nat.add_assoc]];exact YF X G F b fun F'=>step d R F'
end
end L2
namespace L2
open PySem PySem.Spec PyProof.Rows Builtin.Str
section
variable{X:Cx}
theorem jb:MtR X "str.lstrip" (fun x xs H Q=>∃z y,x=.str z/\xs=[.str y]/\z.length<=sizeLine/\Q (.str (if stripSame y.cps.contains true false z then z else stripped y.cps.contains true false z)) H):=by
 intro pins s Z H x xs v us Q I rx rs h;obtain⟨z,y,rfl,rfl,hz,q⟩:=h;obtain⟨t,rfl⟩:=(show ∃t,v=Value.str z t from rx);obtain⟨u,rfl,ru⟩:=vals1 rs;obtain⟨t',rfl⟩:=(show ∃t,u=Value.str y t from ru);refine call_gives F.slot_str_lstrip (typeIs_str _ _ _) F.entry_str_lstrip (F.args_str_lstrip_2 _ _) (gives_str_lstrip_chars z y t t') ?_;by_cases c:stripSame y.cps.contains true false z=true
 ·rw[xo c] at q ⊢;exact⟨.str _,H,I,⟨_,rfl⟩,q⟩
 ·rw[xp c] at q ⊢;exact⟨fits_stripped _ _ _ hz,.str _,H,I.tok _,⟨_,rfl⟩,q⟩
end
end L2
namespace L2
open PySem PySem.W PySem.Spec PyProof.Rows
section
variable{κ:Type}[DecidableEq κ]
noncomputable def Ew(kvs:List (κ×V))(k:κ):Option V:=(kvs.find? fun kv=>decide (kv.1=k)).map (·.2)
noncomputable def putK(kvs:List (κ×V))(k:κ)(v:V):List (κ×V):=
 if (kvs.any fun kv=>decide (kv.1=k))=true then kvs.map (fun kv=>if kv.1=k then (kv.1,v) else kv) else kvs++[(k,v)]
theorem Ft{p:κ×V}{r:List (κ×V)}{k:κ}(e:p.1=k):Ew (p::r) k=some p.2:=by simp[Ew,jh8,e]
theorem Fv{p:κ×V}{r:List (κ×V)}{k:κ}(e:¬p.1=k):Ew (p::r) k=Ew r k:=by simp[Ew,jh8,e]
theorem Ms(k:κ):∀kvs:List (κ×V),(kvs.any fun kv=>decide (kv.1=k))=(Ew kvs k).isSome
 | []=>rfl
 | p::r=>by
  rw[jk9];by_cases e:p.1=k
  ·simp only[Ft e,decide_eq_true e,Bool.true_or,Option.isSome_some]
  ·rw[Fv e,decide_eq_false e,Bool.false_or];exact Ms k r
theorem Yj(k j:κ)(y:V):∀kvs:List (κ×V),Ew (kvs.map fun kv=>if kv.1=k then (kv.1,y) else kv) j=(Ew kvs j).map fun x=>if j=k then y else x
 | []=>rfl
 | p::r=>by
  have ih:=Yj k j y r;rw[qo];by_cases h:p.1=k
  ·rw[xo h];by_cases e:p.1=j
   ·rw[Ft (p:=(p.1,y)) e,Ft e,jo5,xo (e.symm.trans h)]
   ·rw[Fv (p:=(p.1,y)) e,Fv e,ih]
  ·rw[xp h];by_cases e:p.1=j
   ·rw[Ft (p:=p) e,Ft e,jo5,xp (fun z=>h (e.trans z))]
   ·rw[Fv (p:=p) e,Fv e,ih]
theorem Vt(k j:κ)(y:V):∀kvs:List (κ×V),Ew kvs k=none->Ew (kvs++[(k,y)]) j=if j=k then some y else Ew kvs j
 | [],_=>by
  by_cases e:k=j
  ·rw[xo e.symm];exact Ft (p:=(k,y)) e
  ·rw[xp (fun z=>e z.symm)];exact Fv (p:=(k,y)) e
 | p::r,hn=>by
  rw[jg6];have hk:¬p.1=k:=fun z=>by rw[Ft z] at hn;cases hn
  rw[Fv hk] at hn;have ih:=Vt k j y r hn;by_cases e:p.1=j
  ·rw[Ft e,Ft e,xp (fun z=>hk (e.trans z))]
  ·rw[Fv e,Fv e,ih]
theorem Yi(kvs:List (κ×V))(k j:κ)(y:V):Ew (putK kvs k y) j=if j=k then some y else Ew kvs j:=by
 unfold putK;by_cases a:(kvs.any fun kv=>decide (kv.1=k))=true
 ·rw[xo a,Yj];rw[Ms] at a;by_cases e:j=k
  ·obtain⟨x,hx⟩:=jf1.mp a;rw[xo e,e,hx,jo5,xo rfl]
  ·rw[xp e];cases Ew kvs j with
   | none=>rfl
   | some x=>rw[jo5,xp e]
 ·rw[xp a];refine Vt k j y kvs ?_;rw[Ms] at a;cases q:Ew kvs k with
  | none=>rfl
  | some x=>rw[q] at a;exact(a rfl).elim
theorem HY(kvs:List (κ×V))(k:κ)(v:V):(putK kvs k v).length<=kvs.length+1:=by
 unfold putK;split
 ·rw[js];lia
 ·rw[qq,qm,jf0];lia
theorem Jz.isSome_eq{o:Option V}{u:Option Value}(r:Jz o u):o.isSome=u.isSome:=by
 cases o with
 | none=>cases u with
  | none=>rfl
  | some _=>exact(show False from r).elim
 | some _=>cases u with
  | none=>exact(show False from r).elim
  | some _=>rfl
theorem KV.val{kvs:List (κ×V)}{vs:List (κ×Value)}(r:KV kvs vs)(k:κ):Jz (Ew kvs k) (valueAt vs k):=by
 unfold KV at r
 induction r with
 | nil=>exact True.intro
 | @cons p q ps qs h t ih=>
  obtain⟨h1,h2⟩:=h;by_cases e:p.1=k
  ·have e':q.1=k:=h1.symm.trans e;have b:valueAt (q::qs) k=some q.2:=by simp[valueAt,jh8,e']
   rw[Ft e,b];exact h2
  ·have e':¬q.1=k:=fun z=>e (h1.trans z);have b:valueAt (q::qs) k=valueAt qs k:=by simp[valueAt,jh8,e']
   rw[Fv e,b];exact ih
theorem KV.any{kvs:List (κ×V)}{vs:List (κ×Value)}(r:KV kvs vs)(k:κ):(kvs.any fun kv=>decide (kv.1=k))=vs.any fun kv=>decide (kv.1=k):=by
 unfold KV at r
 induction r with
 | nil=>rfl
 | cons h t ih=>rw[jk9,jk9,ih,h.1]
theorem KV.repl{kvs:List (κ×V)}{vs:List (κ×Value)}(r:KV kvs vs)(k:κ){y:V}{u:Value}(ry:RelV y u):
 KV (kvs.map fun kv=>if kv.1=k then (kv.1,y) else kv) (vs.map fun kv=>if kv.1=k then (kv.1,u) else kv):=by
 unfold KV at r ⊢
 induction r with
 | nil=>exact .nil
 | @cons p q ps qs h t ih=>
  rw[qo,qo];refine .cons ?_ ih;obtain⟨h1,h2⟩:=h;by_cases e:p.1=k
  ·rw[xo e,xo (h1.symm.trans e)];exact⟨h1,ry⟩
  ·rw[xp e,xp (fun z=>e (h1.trans z))];exact⟨h1,h2⟩
theorem KV.put{kvs:List (κ×V)}{vs:List (κ×Value)}(r:KV kvs vs)(k:κ){y:V}{u:Value}(ry:RelV y u):KV (putK kvs k y) (stored vs k u):=by
 unfold putK stored;rw[r.any k];by_cases e:(vs.any fun kv=>decide (kv.1=k))=true
 ·rw[xo e,xo e];exact r.repl k ry
 ·rw[xp e,xp e];exact Paired.snoc r ⟨rfl,ry⟩
theorem KV.length{kvs:List (κ×V)}{vs:List (κ×Value)}(r:KV kvs vs):kvs.length=vs.length:=Paired.length r
end
theorem QJ{P:Program}{w:World}{k:Key}{u:Value}(r:RelV (kV k) u):(Ek P w).is k u=true:=by
 cases k with
 | inl i=>obtain⟨t,e⟩:=(show ∃t,u=Value.int i t from r);subst e;exact Zr P w i t
 | inr x=>obtain⟨t,e⟩:=(show ∃t,u=Value.str x t from r);subst e;exact Kh P w x t
theorem WF{P:Program}{w:World}:∀{ks:List Key} {us:List Value},Vals (ks.map kV) us->ItemsAre (Ek P w) ks us
 | [],_,r=>by rw[jm7] at r;cases r;exact .nil
 | k::ks,_,r=>by
  rw[qo] at r;cases r with
  | cons h t=>exact .cons (QJ h) (WF t)
abbrev KT(H:Hp):List (List Key×V)->List (List Key×Addr×Value)->Prop:=Paired fun p q=>p.1=q.1/\H q.2.1=some (.tup (p.1.map kV))/\RelV p.2 q.2.2
variable{H:Hp}
theorem KT.val{kvs:List (List Key×V)}{xs:List (List Key×Addr×Value)}(r:KT H kvs xs)(k:List Key):Jz (Ew kvs k) ((atKey xs k).map (·.2)):=by
 induction r with
 | nil=>exact True.intro
 | @cons p q ps qs h t ih=>
  obtain⟨h1,_,h2⟩:=h;by_cases e:p.1=k
  ·have e':q.1=k:=h1.symm.trans e;have b:atKey (q::qs) k=some q.2:=by simp[atKey,jh8,e']
   rw[Ft e,b];exact h2
  ·have e':¬q.1=k:=fun z=>e (h1.trans z);have b:atKey (q::qs) k=atKey qs k:=by simp[atKey,jh8,e']
   rw[Fv e,b];exact ih
theorem KT.repl{kvs:List (List Key×V)}{xs:List (List Key×Addr×Value)}(r:KT H kvs xs)(k:List Key){y:V}{u:Value}(ry:RelV y u):
 KT H (kvs.map fun kv=>if kv.1=k then (kv.1,y) else kv) (xs.map (putAt k u)):=by
 induction r with
 | nil=>exact .nil
 | @cons p q ps qs h t ih=>
  rw[qo,qo];refine .cons ?_ ih;obtain⟨h1,h2,h3⟩:=h;unfold putAt;by_cases e:p.1=k
  ·rw[xo e,xo (h1.symm.trans e)];exact⟨h1,h2,ry⟩
  ·rw[xp e,xp (fun z=>e (h1.trans z))];exact⟨h1,h2,h3⟩
theorem KT.put{kvs:List (List Key×V)}{xs:List (List Key×Addr×Value)}(r:KT H kvs xs)(k:List Key){b:Addr}{y:V}{u:Value}(hb:H b=some (.tup (k.map kV)))(ry:RelV y u):
 KT H (putK kvs k y) (storedH xs k b u):=by
 have e:(kvs.any fun kv=>decide (kv.1=k))=(atKey xs k).isSome:=by
  rw[Ms,(r.val k).isSome_eq,Option.isSome_map]
 unfold putK storedH;rw[e];by_cases q:(atKey xs k).isSome=true
 ·rw[xo q,xo q];exact r.repl k ry
 ·rw[xp q,xp q];exact Paired.snoc r ⟨rfl,hb,ry⟩
theorem KT.keeps{H':Hp}{kvs:List (List Key×V)}{xs:List (List Key×Addr×Value)}(r:KT H kvs xs)(ht:∀b ys,H b=some (.tup ys)->H' b=some (.tup ys)):KT H' kvs xs:=
 Paired.mapP r fun _ _ z=>⟨z.1,ht _ _ z.2.1,z.2.2⟩
section
variable{P:Program}{w:World}{H:Hp}{h:Heap}{a:Addr}
theorem xJ{u:HO}(ok:HOk P w H h)(e:Rd H a u):Eh P w H h a u:=e.ok ok
theorem gw{kvs:List (Key×V)}(ok:HOk P w H h)(e:Rd H a (.dK kvs)):kvs.length<=sizeLine/\(a==sysModules)=false/\∃vs,KV kvs vs/\h.DictOf (Ek P w) a vs:=
 show Eh P w H h a (.dK kvs) from xJ ok e
theorem xn{kvs:List (Key×V)}(ok:HOk P w H h)(e:H a=some (.dK kvs)):kvs.length<=sizeLine/\(a==sysModules)=false/\∃vs,KV kvs vs/\h.DictOf (Ek P w) a vs:=gw ok (.inl e)
theorem Xv{ks:List Key}(ok:HOk P w H h)(e:H a=some (.tup (ks.map kV))):(tupleKind (Ek P w)).is h ks a:=by
 obtain⟨_,its,r,o,h1,h2,n,h3⟩:=(show Eh P w H h a (.tup (ks.map kV)) from ok a _ e);exact⟨o,its.toArray,n,h1,h2,h3,by simpa using WF r⟩
theorem gn{kvs:List (List Key×V)}(ok:HOk P w H h)(e:Rd H a (.dT kvs)):kvs.length<=sizeLine/\(a==sysModules)=false/\
 ∃xs,KT H kvs xs/\h.DictOfH (tupleKind (Ek P w)) a xs:=by
 obtain⟨z,y,xs,r,o,es,ep,h1,h2,h3,h4,h5⟩:=(show Eh P w H h a (.dT kvs) from xJ ok e);refine⟨z,y,xs,r,o,es,ep,h1,h2,h3,h4,fun x hx=>?_,h5⟩;have all:∀{l:List (List Key×V)} {m:List (List Key×Addr×Value)},KT H l m->∀x∈m,(tupleKind (Ek P w)).is h x.1 x.2.1:=by
  intro l m q
  induction q with
  | nil=>intro x hx;exact nomatch hx
  | @cons p q ps qs hq t ih=>
   intro x hx;rcases qh.mp hx with e | hx
   ·subst e;exact Xv ok (by rw[<-hq.1];exact hq.2.1)
   ·exact ih x hx
 exact all r x hx
theorem ACe{kvs:List (List Key×V)}(ok:HOk P w H h)(e:H a=some (.dT kvs)):kvs.length<=sizeLine/\(a==sysModules)=false/\
 ∃xs,KT H kvs xs/\h.DictOfH (tupleKind (Ek P w)) a xs:=gn ok (.inl e)
end
def RX(H:Hp)(a:Addr)(y:V)(r:Option V):Prop:=
 (∃kvs k,Rd H a (.dK kvs)/\y=kV k/\r=Ew kvs k)\/∃kvs k b,Rd H a (.dT kvs)/\y=.ref b/\H b=some (.tup (k.map kV))/\r=Ew kvs k
def dj(H:Hp)(a:Addr)(y v:V)(H':Hp):Prop:=
 (∃kvs k,H a=some (.dK kvs)/\y=kV k/\kvs.length<sizeLine/\H'=upd H a (.dK (putK kvs k v)))\/
 ∃kvs k b,H a=some (.dT kvs)/\y=.ref b/\H b=some (.tup (k.map kV))/\kvs.length<sizeLine/\H'=upd H a (.dT (putK kvs k v))
theorem RX.k{a:Addr}{kvs:List (Key×V)}{k:Key}(e:H a=some (.dK kvs)):RX H a (kV k) (Ew kvs k):=.inl ⟨kvs,k,.inl e,rfl,rfl⟩
theorem dj.k{a:Addr}{kvs:List (Key×V)}{k:Key}{v:V}(e:H a=some (.dK kvs))(hl:kvs.length<sizeLine):dj H a (kV k) v (upd H a (.dK (putK kvs k v))):=.inl ⟨kvs,k,e,rfl,hl,rfl⟩
section
variable{X:Cx}{pins:List (Addr×Obj)}{Z:St}{H:Hp}{s:Shared}{a:Addr}{y v:V}{u r:Value}{o:Option V}{A:Around}{E:Value->Shared->Prop}
theorem Inv.big(I:Inv X pins Z H s):sysModules<s.heap.objs.size:=by
 have h:mainGlobals<s.heap.objs.size:=(I.mod.glob.keeps I.bk).lt;exact jm8 nofun h
theorem j5{Q:Value->Shared->Prop}(hu:A.units+1<cLine)(I:Inv X pins Z H s)(g:RX H a y (some v))(ry:RelV y u)(h:∀w' s',Inv X pins Z H s'->RelV v w'->Q w' s'):
 wpAny (model X.prog X.w) A (getItem (.ref a) u) Q E s:=by
 rcases g with ⟨kvs,k,e,ey,l⟩ | ⟨kvs,k,b,e,ey,eb,l⟩
 ·subst ey;obtain⟨z,hd,vs,rel,dd⟩:=gw I.hok e;obtain⟨w',hw,rw'⟩:=Jz.some_of (v:=v) (o:=valueAt vs k) (by rw[l];exact rel.val k);exact wpAny_getItem_of (QJ ry) dd.mapOf hw (h w' _ (I.tok _) rw')
 ·subst ey;cases (show u=Value.ref b from ry);obtain⟨z,hd,xs,rel,dd⟩:=gn I.hok e;obtain⟨w',hw,rw'⟩:=Jz.some_of (v:=v) (o:=(atKey xs k).map (·.2)) (by rw[l];exact rel.val k);obtain⟨p,hp,hp2⟩:=uu.mp hw;refine wpAny_getItem_heap (tupleKind_room_in1 hu) (Xv I.hok eb) dd hp ?_;rw[hp2];exact h w' _ (I.tok _) rw'
theorem vp{Q:Value->Shared->Prop}(hu:A.units+1<cLine)(I:Inv X pins Z H s)(g:RX H a y o)(ry:RelV y u)(h:∀s',Inv X pins Z H s'->Q (.bool (!o.isSome)) s'):
 wpAny (model X.prog X.w) A (compareOp .NotIn u (.ref a)) Q E s:=by
 rcases g with ⟨kvs,k,e,ey,l⟩ | ⟨kvs,k,b,e,ey,eb,l⟩
 ·subst ey;obtain⟨z,hd,vs,rel,dd⟩:=gw I.hok e;refine wpAny_notIn_of (QJ ry) hd dd.mapOf ?_;rw[<-(rel.val k).isSome_eq,<-l];exact h _ (I.tok _)
 ·subst ey;cases (show u=Value.ref b from ry);obtain⟨z,hd,xs,rel,dd⟩:=gn I.hok e;refine wpAny_notIn_heap (tupleKind_room_in1 hu) (Xv I.hok eb) hd dd ?_;have q:=(rel.val k).isSome_eq;rw[Option.isSome_map] at q;rw[<-q,<-l];exact h _ (I.tok _)
theorem YC{h':Heap}{t':Nat}{ob:HO}(I:Inv X pins Z H s)(mu:Mut (H a))(hs:Heap.SameBut a s.heap h')(he:∃q,h'.get? a=some q)(new:Eh X.prog X.w (upd H a ob) h' a ob):
 Inv X pins Z (upd H a ob) { s with heap:=h',toks:=t' }:=
 I.write (x:=a) (e:=a) mu (.inl rfl) (fun b q hb z=>(hs.2 b hb).trans z) he new
theorem qO{P:Program}{w:World}{H':Hp}{h':Heap}{kvs:List (Key×V)}{vs:List (Key×Value)}(z:kvs.length<=sizeLine)(hd:(a==sysModules)=false)(rel:KV kvs vs)(dd:h'.DictOf (Ek P w) a vs):
 Eh P w H' h' a (.dK kvs):=⟨z,hd,vs,rel,dd⟩
theorem j4{H':Hp}{Q:Unit->Shared->Prop}(hu:A.units+1<cLine)(I:Inv X pins Z H s)(g:dj H a y v H')(ry:RelV y u)(rv:RelV v r)(h:∀s',Inv X pins Z H' s'->Q () s'):
 wpAny (model X.prog X.w) A (setItem (.ref a) u r) Q E s:=by
 rcases g with ⟨kvs,k,e,ey,l,eH⟩ | ⟨kvs,k,b,e,ey,eb,l,eH⟩
 ·subst ey eH;obtain⟨z,hd,vs,rel,dd⟩:=xn I.hok e;have hz:vs.length<=sizeLine:=by rw[<-rel.length];exact z
  have hl:(putK kvs k v).length<=sizeLine:=by have:=HY kvs k v;lia
  refine wpAny_setItem_pairs (hsz:=hz) (QJ ry) dd fun h' dd' hs=>h _ ?_;have he:∃q,h'.get? a=some q:=let ⟨q,_,_,hq,_⟩:=dd';⟨q,hq⟩;exact YC I (by rw[e];exact True.intro) hs he (qO hl hd (rel.put k rv) dd')
 ·subst ey eH;cases (show u=Value.ref b from ry);obtain⟨z,hd,xs,rel,dd⟩:=ACe I.hok e;have hz:xs.length<=sizeLine:=by rw[<-Paired.length rel];exact z
  have hl:(putK kvs k v).length<=sizeLine:=by have:=HY kvs k v;lia
  refine wpAny_setItem_heap (hsz:=hz) (tupleKind_room_in1 hu) (Xv I.hok eb) dd fun h' dd' hs=>h _ ?_;obtain⟨q,es,ep,hq,h2,h3,h4,_,h5⟩:=dd';refine YC I (by rw[e];exact True.intro) hs ⟨q,hq⟩ ⟨hl,hd,_,(rel.put k eb rv).keeps fun c ys ec=>?_,q,es,ep,hq,h2,h3,h4,h5⟩;rw[Ax (Eu ec e (fun z=>nomatch z))];exact ec
end
section
variable{X:Cx}{pins:List (Addr×Obj)}{Z:St}{H:Hp}{s:Shared}{a:Addr}{kvs:List (Key×V)}{k:Key}{u:Value}{A:Around}{E:Value->Shared->Prop}
end
def ABN(i:Expr):Prop:=∀ov iv,subscripted i false ov iv=operate [ov,iv] (getItem ov iv)
theorem eF{prog:Program}{w:World}{A:Around}{E:Value->Shared->Prop}{s:Shared}{env:Env}{value slice:Expr}{pos:Pos}{T id:String}{Q:Value->Shared->Prop}
 (hl:typeLookup (.type T) "__getitem__"=pure (some (.builtin id)))(hs:ABN slice)
 (h:wpAny (model prog w) A (eval value env) (fun o s₁=>wpAny (model prog w) A (eval slice env) (fun i s₂=>s₂.TypeIs o T/\wpAny (model prog w) A (getItem o i) Q E s₂) E s₁) E s):
 wpAny (model prog w) A (eval (.Subscript value slice pos) env) Q E s:=by
 refine Subscript_ (Qb h (fun o s₁ h₁=>Qb h₁ (fun i s₂ h₂=>?_) fun _ _ x=>x) fun _ _ x=>x);obtain⟨hT,h₂⟩:=h₂;unfold subscriptTail;refine jp ?_;rw[getitemInPython_of_ne hT.not_modules];refine jp (wpAny_specialOf hT hl ?_);have fin:wpAny (model prog w) A (subscripted slice false o i) (fun r s₃=>wpAny (model prog w) A (letTemporaryGo value o r >>= fun _=>pure r) Q E s₃) E s₂:=by
  rw[hs o i];exact wpAny_operating (Qb h₂ (fun r s₃ h₃=>jp (wpAny_letTemporaryGo (ze h₃))) fun _ _ x=>x)
 first
  | exact ze (jp fin)
  | exact jp (ze (jp fin))
  | exact jp fin
theorem Z1{X:Cx}{pins:List (Addr×Obj)}{Z:St}{s:Shared}{a:Addr}{y:V}{o:Option V}(I:Inv X pins Z H s)(g:RX H a y o):s.TypeIs (.ref a) "dict":=by
 rcases g with ⟨kvs,k,e,_,_⟩ | ⟨kvs,k,b,e,_,_,_⟩
 ·obtain⟨_,_,vs,_,dd⟩:=gw I.hok e;exact dd.typeIs
 ·obtain⟨_,_,xs,_,dd⟩:=gn I.hok e;exact dd.typeIs
def lZ(td ty:TE):TE:=fun Z H Q=>td Z H fun x H1=>ty Z H1 fun y H2=>∃a v,x=.ref a/\RX H2 a y (some v)/\Q v H2
def Wo(ty td:TE):TE:=fun Z H Q=>ty Z H fun y H1=>td Z H1 fun x H2=>∃a o,x=.ref a/\RX H2 a y o/\Q (.bl (!o.isSome)) H2
def fK(td ty tv:TE):TS:=fun D Z H=>tv Z H fun v H1=>td Z H1 fun x H2=>ty Z H2 fun y H3=>∃a H4,x=.ref a/\dj H3 a y v H4/\D.nx Z H4
section
variable{X:Cx}{o i e value:Expr}{pos pos' tpos:Pos}{td ty tv:TE}
theorem gC(hu:X.A.units+1<cLine)(ho:PE X o td)(hi:PE X i ty)(hs:ABN i):PE X (.Subscript o i pos) (lZ td ty):=by
 intro pins s Z H Q I h;refine eF PySem.F.slot_dict_getitem.lookup hs (thn (ho s Z H _ I h) fun u s1 ⟨x,H1,I1,rx,q1⟩=>thn (hi s1 Z H1 _ I1 q1) fun iv s2 hZ=>?_);obtain⟨y,H2,I2,ry,a,v,ex,g,q2⟩:=hZ;subst ex;obtain rfl:u=Value.ref a:=rx;exact⟨Z1 I2 g,j5 hu I2 g ry fun w' s3 I3 rw'=>⟨v,H2,I3,rw',q2⟩⟩
theorem V2(hu:X.A.units+1<cLine)(hi:PE X i ty)(ho:PE X o td):PC X .NotIn i o (Wo ty td):=by
 intro pins s Z H Q I h;refine thn (hi s Z H _ I h) fun iv s1 ⟨y,H1,I1,ry,q1⟩=>thn (ho s1 Z H1 _ I1 q1) fun u s2 hZ=>?_;obtain⟨x,H2,I2,rx,a,ov,ex,g,q2⟩:=hZ;subst ex;obtain rfl:u=Value.ref a:=rx;exact vp hu I2 g ry fun s3 I3=>⟨.bl (!ov.isSome),H2,I3,rfl,q2⟩
theorem Xb(hu:X.A.units+1<cLine)(ho:PE X o td)(hi:PE X i ty)(hv:PE X value tv)(hs:swapsWith value (some (.Subscript o i pos')) pos.line X.env=pure false):
 PS X (.Assign [.Subscript o i pos'] value pos) (fK td ty tv):=by
 intro pins s Z H D I h;refine wpAny_Assign_Subscript (thn (hv s Z H _ I h) fun r s1 ⟨v,H1,I1,rv,q1⟩=>thn (ho s1 Z H1 _ I1 q1) fun u s2 ⟨x,H2,I2,rx,q2⟩=>thn (hi s2 Z H2 _ I2 q2) fun iv s3 hZ=>?_) hs;obtain⟨y,H3,I3,ry,a,H4,ex,g,q3⟩:=hZ;subst ex;obtain rfl:u=Value.ref a:=rx;exact j4 hu I3 g ry rv fun s4 I4=>⟨Z,H4,I4,q3⟩
end
theorem Zz{P:Program}{w:World}(h:Heap)(hb:sysModules<h.objs.size):Eh P w H (h.push { cls:=.type "dict",data:=.dict #[] }) h.objs.size (.dK []):=
 ⟨vj _,beq_eq_false_iff_ne.mpr (Ne.symm (vv hb)),[],.nil,Heap.DictOf.new h⟩
def yK:TE:=fun _ H Q=>∀p,H p=none->Q (.ref p) (upd H p (.dK []))
section
variable{X:Cx}{pos:Pos}
theorem Tg:PE X (.Dict [] [] pos) yK:=fun pins s Z H Q I h=>
 wpAny_Dict_empty ⟨.ref s.heap.objs.size,_,I.laid (a:=s.heap.objs.size) (o:=.dK []) (t':=s.toks) (fun _ _ q=>jv _ q) (qg _) (Zz s.heap I.big),rfl,h _ (I.hok.fresh (qg _))⟩
end
def MT:List (TE×TE)->St->Hp->(List (V×V)->Hp->Prop)->Prop
 | [],_,H,Q=>Q [] H
 | (tk,tv)::r,Z,H,Q=>tk Z H fun x H1=>tv Z H1 fun y H2=>MT r Z H2 fun ps H3=>Q ((x,y)::ps) H3
abbrev VV:List (V×V)->List (Value×Value)->Prop:=Paired fun p q=>RelV p.1 q.1/\RelV p.2 q.2
def PPs(X:Cx)(pos:Pos)(keys:List (Option Expr))(values:List Expr)(trs:List (TE×TE)):Prop:=
 ∀(pins:List (Addr×Obj)) (s:Shared) (Z:St) (H:Hp) (Q:List (V×V)->Hp->Prop),Inv X pins Z H s->MT trs Z H Q->
  wpAny (model X.prog X.w) X.A (evalPairs (pairTrees keys values X.env pos)) (fun vs s'=>∃ps H',Inv X pins Z H' s'/\VV ps vs/\Q ps H') X.xe s
theorem fY{X:Cx}{pos:Pos}:PPs X pos [] [] []:=fun pins s Z H Q I h=>pairTrees_nil_walk ⟨[],H,I,.nil,h⟩
theorem Zf{X:Cx}{pos:Pos}{k v:Expr}{ks:List (Option Expr)}{vs:List Expr}{tk tv:TE}{trs:List (TE×TE)}(hk:PE X k tk)(hv:PE X v tv)(hr:PPs X pos ks vs trs):
 PPs X pos (some k::ks) (v::vs) ((tk,tv)::trs):=fun pins s Z H Q I h=>
 pairTrees_cons_walk (thn (hk s Z H _ I h) fun u s1 ⟨x,H1,I1,rx,q1⟩=>thn (hv s1 Z H1 _ I1 q1) fun w2 s2 ⟨y,H2,I2,ry,q2⟩=>
  thn (hr pins s2 Z H2 _ I2 q2) fun ws s3 ⟨ps,H3,I3,rel,q3⟩=>⟨(x,y)::ps,H3,I3,.cons ⟨rx,ry⟩ rel,q3⟩)
noncomputable def GX(kvs more:List (Key×V)):List (Key×V):=more.foldl (fun acc kv=>putK acc kv.1 kv.2) kvs
theorem KV.merge:∀{more:List (Key×V)} {rs:List (Key×Value)} {kvs:List (Key×V)} {vs:List (Key×Value)},KV more rs->KV kvs vs->KV (GX kvs more) (merged vs rs):=by
 intro more rs kvs vs r;unfold KV at r
 induction r generalizing kvs vs with
 | nil=>intro q;exact q
 | @cons p q ps qs h t ih=>
  intro r0;have e:KV (putK kvs p.1 p.2) (stored vs q.1 q.2):=by
   have:=r0.put p.1 h.2;rw[<-h.1];exact this
  exact ih e
theorem Lw:∀(more kvs:List (Key×V)),(GX kvs more).length<=kvs.length+more.length
 | [],kvs=>by show kvs.length<=kvs.length+0;lia
 | p::r,kvs=>by
  have h1:=Lw r (putK kvs p.1 p.2);have h2:=HY kvs p.1 p.2;show(GX (putK kvs p.1 p.2) r).length<=_;rw[qm];lia
theorem Ud{P:Program}{w:World}:∀{kvs:List (Key×V)} {ws:List (Value×Value)},VV (kvs.map fun kv=>(kV kv.1,kv.2)) ws->∃rs,Carries (Ek P w) ws rs/\KV kvs rs
 | [],_,r=>by rw[jm7] at r;cases r;exact⟨[],True.intro,.nil⟩
 | p::kvs,_,r=>by
  rw[qo] at r;cases r with
  | @cons a b as bs h t=>
   obtain⟨rs,c,q⟩:=Ud (P:=P) (w:=w) t;obtain⟨b1,b2⟩:=b;exact⟨(p.1,b2)::rs,⟨QJ h.1,rfl,c⟩,.cons ⟨rfl,h.2⟩ q⟩
def wu(trs:List (TE×TE)):TE:=fun Z H Q=>∀p,H p=none->MT trs Z (upd H p (.dK [])) fun ps H2=>H2 p=some (.dK [])/\∃kvs:List (Key×V),ps=kvs.map (fun kv=>(kV kv.1,kv.2))/\kvs.length<=15/\Q (.ref p) (upd H2 p (.dK (GX [] kvs)))
theorem gB{X:Cx}{pos:Pos}{keys:List (Option Expr)}{values:List Expr}{trs:List (TE×TE)}(h:PPs X pos keys values trs)(hall:keys.all (·.isSome)=true)(hl:keys.length=values.length)(h0:keys≠[])
 (h15:keys.length<=15):PE X (.Dict keys values pos) (wu trs):=by
 intro pins s Z H Q I q;have hn:=I.hok.fresh (qg s.heap.objs.size);have I1:=I.laid (a:=s.heap.objs.size) (o:=.dK []) (h':=s.heap.push { cls:=.type "dict",data:=.dict #[] }) (t':=s.toks) (fun _ _ q=>jv _ q) (qg _) (Zz s.heap I.big);refine wpAny_Dict_walk (knd:=Ek X.prog X.w) hall hl h0 h15 (thn (h pins _ Z _ _ I1 (q _ hn)) fun ws s2 hZ=>?_);obtain⟨ps,H2,I2,rel,e,kvs,ep,lk,q2⟩:=hZ;subst ep;obtain⟨rs,c,rk⟩:=Ud (P:=X.prog) (w:=X.w) rel;obtain⟨z,hd,vs0,r0,dd⟩:=xn I2.hok e;cases r0;refine⟨rs,c,dd,fun h' dd' hs=>⟨.ref s.heap.objs.size,_,?_,rfl,q2⟩⟩;have hz:(GX [] kvs).length<=sizeLine:=by
  have h1:=Lw kvs [];rw[jf0] at h1;rw[sizeLine_eq];lia
 have he:∃q,h'.get? s.heap.objs.size=some q:=let ⟨q,_,_,hq,_⟩:=dd';⟨q,hq⟩;exact YC I2 (by rw[e];exact True.intro) hs he (qO hz hd (rk.merge .nil) dd')
end L2
namespace L2
open PySem PySem.Spec PyProof.Rows
section
variable{X:Cx}{pins:List (Addr×Obj)}{Z:St}{H2:Hp}{s2:Shared}{M xs:List Str}{scope:Scope}{cl:List (Str×Addr)}{C:Addr}{fp:List Addr}{E:XK}{Qe:Value->Shared->Prop}{acc:Value}
end
section
variable{X:Cx}
end
def SqA(K:Fr)(H:Hp)(a:Addr)(xs:List V):Bool->Prop | true=>SqT K H a xs | false=>SqL K H a xs
def ItA(h:Heap)(i a:Addr)(k:Nat):Bool->Prop | true=>h.IsTupleIter i a k | false=>h.IsListIter i a k
def IsA(h:Heap)(a:Addr)(us:Array Value):Bool->Prop | true=>h.IsTuple a us | false=>h.IsList a us
theorem ItA.get{h:Heap}{i a:Addr}{k:Nat}{c:Bool}(x:ItA h i a k c):∃o,h.get? i=some o/\∀v,o.data≠.cell v:=by
 cases c<;>(obtain ⟨o,e,_,d⟩:=x;exact⟨o,e,fun v z=>by rw[d] at z;cases z⟩)
theorem ItA.at{h h':Heap}{i a:Addr}{k:Nat}{c:Bool}(x:ItA h i a k c)(q:∀o,h.get? i=some o->h'.get? i=some o):ItA h' i a k c:=by
 cases c<;>exact let ⟨o,e,r⟩:=x;⟨o,q o e,r⟩
theorem IsA.lt{h:Heap}{a:Addr}{us:Array Value}{c:Bool}(x:IsA h a us c):a<h.objs.size:=by
 cases c<;>(obtain ⟨o,e,_⟩:=x;exact zo e)
section
variable{X:Cx}{pins:List (Addr×Obj)}{Z:St}{H:Hp}{s:Shared}{a:Addr}{xs ys:List V}{c:Bool}
theorem Inv.seqA(I:Inv X pins Z H s)(h:SqA X.K H a xs c):∃us:List Value,Vals xs us/\IsA s.heap a us.toArray c:=by
 cases c
 ·obtain⟨us,r,p,_⟩:=I.list h;exact⟨us,r,p.isList⟩
 ·obtain⟨us,r,p,_⟩:=I.tuple h;exact⟨us,r,p⟩
theorem Inv.injA(I:Inv X pins Z H s)(h:SqA X.K H a xs c)(h':SqA X.K H a ys c):xs=ys:=by
 cases c
 ·exact I.list_inj h h'
 ·exact I.tuple_inj h h'
end
theorem X8{prog:Program}{w:World}{A:Around}{c:Bool}(hh:A.handled=none)(it l:Addr)(hne:l≠it)(us:Array Value):Draws prog w A it [it,l] us.size (fun i v=>us[i]?=some v) (fun i h=>ItA h it l i c/\IsA h l us c):=by
 cases c
 ·exact Draws.list hh it l hne us
 ·exact AAe hh it l hne us
section
variable{prog:Program}{w:World}{A:Around}{E:Value->Shared->Prop}{s:Shared}{z TI TO i1 i2 l1 l2:Addr}{k:Nat}{xs ys:Array Value}{a b:Value}{c:Bool}
end
section
variable{X:Cx}
end
def KD(P:Program)(w:World)(K:Fr)(a:Addr)(kvs:List (Key×V)):Prop:=
 (a==sysModules)=false/\∀h:Heap,K.In h->∃vs,KV kvs vs/\h.DictOf (Ek P w) a vs
noncomputable def esK(p:Params)(l:List (Str×Tok×Addr)):List DictEntry:=l.map fun x=>⟨PyData.keyHash p x.1,.str x.1 x.2.1,.ref x.2.2⟩
theorem gD(P:Program)(w:World)(p:Params):∀l:List (Str×Tok×Addr),Pairs (Ek P w) (esK p l) (l.map fun x=>(Sum.inr x.1,Value.ref x.2.2))
 | []=>.nil
 | x::l=>.cons (Kh P w x.1 x.2.1) rfl (gD P w p l)
theorem ACX:∀l:List (Str×Tok×Addr),KV (κ:=Key) (l.map fun x=>(Sum.inr x.1,V.ref x.2.2)) (l.map fun x=>(Sum.inr x.1,Value.ref x.2.2))
 | []=>.nil
 | x::l=>.cons ⟨rfl,rfl⟩ (ACX l)
theorem xU{P:Program}{w:World}{K:Fr}{a:Addr}{n:Nat}(l:List (Str×Tok×Addr))(e:K.lookup a=some ⟨.type "dict",none,.dict (esK w.params l).toArray n,#[]⟩)(nd:(l.map (·.1)).Nodup)(hs:(a==sysModules)=false):
 KD P w K a (l.map fun x=>(Sum.inr x.1,V.ref x.2.2)):=
 ⟨hs,fun h X=>⟨_,ACX l,_,_,_,X _ _ e,⟨rfl,rfl,rfl⟩,rfl,fun d hd=>by
  have hd:d∈esK w.params l:=by simpa using hd
  obtain⟨x,hx,rfl⟩:=vi.mp hd;exact⟨.inr x.1,Kh P w x.1 x.2.1,rfl⟩,by simpa using gD P w w.params l,by
   rw[vk];exact List.pairwise_map.mpr ((List.pairwise_map.mp nd).imp fun h z=>h (Sum.inr.inj z))⟩⟩
def bC(P:Program)(w:World)(K:Fr)(td ty:TE):TE:=fun Z H Q=>td Z H fun x H1=>ty Z H1 fun y H2=>∃a kvs k v,x=.ref a/\KD P w K a kvs/\y=kV k/\Ew kvs k=some v/\Q v H2
def eE(neg:Bool)(P:Program)(w:World)(K:Fr)(ty td:TE):TE:=fun Z H Q=>ty Z H fun y H1=>td Z H1 fun x H2=>∃a kvs k,x=.ref a/\KD P w K a kvs/\y=kV k/\Q (.bl (if neg then !(Ew kvs k).isSome else (Ew kvs k).isSome)) H2
section
variable{X:Cx}{o i e:Expr}{pos:Pos}{td ty tf:TE}
theorem Th(ho:PE X o td)(hi:PE X i ty)(hs:ABN i):PE X (.Subscript o i pos) (bC X.prog X.w X.K td ty):=by
 intro pins s Z H Q I h;refine eF PySem.F.slot_dict_getitem.lookup hs (thn (ho s Z H _ I h) fun u s1 ⟨x,H1,I1,rx,q1⟩=>thn (hi s1 Z H1 _ I1 q1) fun iv s2 hZ=>?_);obtain⟨y,H2,I2,ry,a,kvs,k,v,ex,kd,ey,l,q2⟩:=hZ;subst ex ey;obtain rfl:u=Value.ref a:=rx;obtain⟨vs,rel,dd⟩:=kd.2 _ I2.kIn;obtain⟨w',hw,rw'⟩:=Jz.some_of (v:=v) (o:=valueAt vs k) (by rw[<-l];exact rel.val k);exact⟨dd.typeIs,wpAny_getItem_of (QJ ry) dd.mapOf hw ⟨v,H2,I2.tok _,rw',q2⟩⟩
theorem uw(hi:PE X i ty)(ho:PE X o td):PC X .In i o (eE false X.prog X.w X.K ty td):=by
 intro pins s Z H Q I h;refine thn (hi s Z H _ I h) fun iv s1 ⟨y,H1,I1,ry,q1⟩=>thn (ho s1 Z H1 _ I1 q1) fun u s2 hZ=>?_;obtain⟨x,H2,I2,rx,a,kvs,k,ex,kd,ey,q2⟩:=hZ;subst ex ey;obtain rfl:u=Value.ref a:=rx;obtain⟨vs,rel,dd⟩:=kd.2 _ I2.kIn;refine wpAny_in_of (QJ ry) kd.1 dd.mapOf ?_;rw[<-(rel.val k).isSome_eq];exact⟨.bl _,H2,I2.tok _,rfl,q2⟩
theorem cO(hi:PE X i ty)(ho:PE X o td):PC X .NotIn i o (eE true X.prog X.w X.K ty td):=by
 intro pins s Z H Q I h;refine thn (hi s Z H _ I h) fun iv s1 ⟨y,H1,I1,ry,q1⟩=>thn (ho s1 Z H1 _ I1 q1) fun u s2 hZ=>?_;obtain⟨x,H2,I2,rx,a,kvs,k,ex,kd,ey,q2⟩:=hZ;subst ex ey;obtain rfl:u=Value.ref a:=rx;obtain⟨vs,rel,dd⟩:=kd.2 _ I2.kIn;refine wpAny_notIn_of (QJ ry) kd.1 dd.mapOf ?_;rw[<-(rel.val k).isSome_eq];exact⟨.bl _,H2,I2.tok _,rfl,q2⟩
theorem ACO:PE X e (fun _ _ _=>False):=fun _ _ _ _ _ _ h=>h.elim
end
section
variable{prog:Program}{w:World}{A:Around}{E:Value->Shared->Prop}{s:Shared}
end
section
open PySem.Builtin PySem.Builtin.Str
theorem Np(x:Str)(c L:Nat):∀(n k free:Nat) (acc:Array Nat),k+n=x.length+1->free<=k->acc.size<=L->
 (forIn (List.range' k n) (acc,free) (StrLaws.occBody x ⟨#[c]⟩ x.length L)).run.fst.toList=acc.toList++(plc c k ((cps x).drop k)).take (L-acc.size)
 | 0,k,free,acc,h,_,_=>by
  rw[kc (by rw[La];lia)];show acc.toList=acc.toList++List.take _ [];rw[List.take_nil,xy]
 | n+1,k,free,acc,h,hf,ha=>by
  rw[List.range'_succ,je9];have one:(⟨#[c]⟩:Str).length=1:=rfl;by_cases full:acc.size=L
  ·have ih:=Np x c L n (k+1) free acc ⋯ ⋯ ha;unfold StrLaws.occBody;rw[xp fun y=>by have:acc.size<L:=y.1.1.1;lia,show L-acc.size=0 by lia,jp1,xy];rw[show L-acc.size=0 by lia,jp1,xy] at ih;exact ih
  by_cases z:(cps x)[k]?=some c
  ·have kl:k<(cps x).length:=(zd.mp z).1;have hs:=(StrLaws.subAt_one x c k).mpr z;have ed:(cps x).drop k=c::(cps x).drop (k+1):=by
    rw[kz kl,(zd.mp z).2]
   have ih:=Np x c L n (k+1) (k+1) (acc.push k) ⋯ (qg _) (by rw[Array.size_push];lia);unfold StrLaws.occBody;rw[xo ⟨⟨⟨by show acc.size<L;lia,hf⟩,hs.1⟩,hs.2⟩,ed];unfold plc;rw[xo rfl,show L-acc.size=(L-(acc.push k).size)+1 by rw[Array.size_push];lia,List.take_succ_cons];have e2:acc.toList++k::(plc c (k+1) ((cps x).drop (k+1))).take (L-(acc.push k).size)=(acc.push k).toList++(plc c (k+1) ((cps x).drop (k+1))).take (L-(acc.push k).size):=by
    rw[Array.toList_push,ki];rfl
   rw[e2];exact ih
  ·have hs:¬(k+(⟨#[c]⟩:Str).length<=x.length/\subAt x ⟨#[c]⟩ k=true):=fun y=>z ((StrLaws.subAt_one x c k).mp y);have ih:=Np x c L n (k+1) free acc ⋯ ⋯ ha;have ep:plc c k ((cps x).drop k)=plc c (k+1) ((cps x).drop (k+1)):=by
    by_cases kl:k<(cps x).length
    ·rw[kz kl];have:(cps x)[k]≠c:=fun y=>z (by rw[zh kl,y]);show(if (cps x)[k]=c then _ else _)=_;rw[xp this]
    ·rw[kc ⋯,kc ⋯];rfl
   unfold StrLaws.occBody;rw[xp fun y=>hs ⟨y.1.2,y.2⟩,ep];exact ih
theorem Xc(c:Nat):∀(p l:List Nat) (k:Nat),c∉p->plc c k (p++c::l)=(k+p.length)::plc c (k+p.length+1) l
 | [],l,k,_=>by show(if c=c then _ else _)=_;rw[xo rfl];rfl
 | a::p,l,k,h=>by
  have ne:a≠c:=fun z=>h (by rw[z];exact qc);show(if a=c then _ else plc c (k+1) (p++c::l))=_;rw[xp ne,Xc c p l (k+1) fun z=>h (qf _ z),qm];rw[show k+1+p.length=k+(p.length+1) by lia]
def uP:V->List V->Hp->VK->Prop:=fun x xs H Q=>∃(z:Str) (c:Nat) (A B C:List Nat),x=.str z/\xs=[.str ⟨#[c]⟩,.int 2]/\c<256/\cps z=A++c::(B++c::C)/\c∉A/\c∉B/\z.length<=1000000/\∀l,H l=none->Q (.ref l) (upd H l (.lst [.str ⟨A.toArray⟩,.str ⟨B.toArray⟩,.str ⟨C.toArray⟩]))
theorem jY{X:Cx}:MtR X "str.split" uP:=by
 intro pins s Z H x xs v us Q I rx rs h;obtain⟨z,c,A,B,C,rfl,rfl,hc,ez,hA,hB,hz,q⟩:=h;obtain⟨t,rfl⟩:=(show ∃t,v=Value.str z t from rx);cases rs with
 | cons ru rs=>
  obtain⟨t',rfl⟩:=(show ∃t,_=Value.str ⟨#[c]⟩ t from ru);obtain⟨u,rfl,ru2⟩:=vals1 rs;obtain⟨t2,rfl⟩:=(show ∃t,u=Value.int 2 t from ru2);have zl:z.length=A.length+(B.length+(C.length+1)+1):=by rw[<-La,ez];simp
  have sl:z.length<=sizeLine:=zn hz nofun;have k1:PySem.Builtin.Str.strKind (⟨#[c]⟩:Str)=1:=by
   unfold PySem.Builtin.Str.strKind;simp[hc]
  have k0:1<=PySem.Builtin.Str.strKind z:=by
   unfold PySem.Builtin.Str.strKind
   repeat' split
   all_goals lia
  have h1:(decide (z.length<(⟨#[c]⟩:Str).length)||decide (PySem.Builtin.Str.strKind z<PySem.Builtin.Str.strKind ⟨#[c]⟩))=false:=by
   rw[k1,Bool.or_eq_false_iff];exact⟨decide_eq_false (by show ¬z.length<1;lia),decide_eq_false ⋯⟩
  have eo:occurrences z ⟨#[c]⟩ 0 z.length (limitOf z 2)=[A.length,A.length+1+B.length]:=by
   rw[show limitOf z 2=2 from rfl,StrLaws.occ_eq];have:=Np z c 2 (z.length+1) 0 0 #[] ⋯ (qg _) (vj _);rw[jp0,ez,Xc c A _ 0 hA,Xc c B _ _ hB] at this;simpa using this
  have ep:partsBetween z (occurrences z ⟨#[c]⟩ 0 z.length (limitOf z 2)) (⟨#[c]⟩:Str).length=[⟨A.toArray⟩,⟨B.toArray⟩,⟨C.toArray⟩]:=by
   rw[eo];show[strSub z 0 A.length,strSub z (A.length+1) (A.length+1+B.length),strSub z (A.length+1+B.length+1) z.length]=_;have e1:strSub z 0 A.length=⟨A.toArray⟩:=Rx (jd9.mp (by
    rw[StrLaws.strSub_toList,show z.cps.toList=_ from ez,jp0,Nat.sub_zero,List.take_left'];rfl))
   have e2:strSub z (A.length+1) (A.length+1+B.length)=⟨B.toArray⟩:=Rx (jd9.mp (by
    rw[StrLaws.strSub_toList,show z.cps.toList=_ from ez,show A++c::(B++c::C)=(A++[c])++(B++c::C) by simp,List.drop_left' (by simp),show A.length+1+B.length-(A.length+1)=B.length by lia,List.take_left'];rfl))
   have e3:strSub z (A.length+1+B.length+1) z.length=⟨C.toArray⟩:=Rx (jd9.mp (by
    rw[StrLaws.strSub_toList,show z.cps.toList=_ from ez,show A++c::(B++c::C)=(A++c::(B++[c]))++C by simp,List.drop_left' (by simp;lia),ke ⋯]))
   rw[e1,e2,e3]
  refine call_meets F.slot_str_split (typeIs_str _ _ _) F.entry_str_split (F.args_str_split_3 _ _ _) (meets_str_split_sep_max z ⟨#[c]⟩ 2 t t' t2 nofun h1 rfl (by rw[eo];rfl) sl (by rw[ep];show 3<=sizeLine;decide)) ?_;rw[ep];exact⟨.ref _,_,I.laid (a:=s.heap.objs.size) (o:=.lst [.str ⟨A.toArray⟩,.str ⟨B.toArray⟩,.str ⟨C.toArray⟩]) (fun _ _ e=>jv _ e) (qg _) ⟨by show 3<=sizeLine;decide,strsFrom s.toks [⟨A.toArray⟩,⟨B.toArray⟩,⟨C.toArray⟩],0,Ws [⟨A.toArray⟩,⟨B.toArray⟩,⟨C.toArray⟩] _,zi _ rfl⟩,rfl,q _ I.fresh⟩
end
end L2
namespace L2
open PySem PySem.Spec PyProof.Rows PySem.W
section
variable{X:Cx}{o:Expr}{to:TE}{apos cpos:Pos}
end
end L2
namespace L2
open PySem PySem.Spec PyProof.Rows
def Ji(mg:Str->Option Value)(L:List (Str×Sp))(tf:TE)(t:TA):TE:=fun Z H Q=>tf Z H fun v H1=>∃f x sp,v=.ref f/\(x,sp)∈L/\mg x=some (.ref f)/\t Z H1 fun vs H2=>sp vs H2 Q E0
section
variable{X:Cx}{o i e:Expr}{pos:Pos}{tf:TE}
theorem oh{k:Nat}{L:List (Str×Sp)}{es:List Expr}{t:TA}{p:Pos}(CV:Ia X.prog X.w X.K X.mg X.base k L)(hr:DW k X.A)(hf:PE X (.Subscript o i p) tf)(ha:PA X (e::es) t)
 (he:‹starEach (e::es) X.env=(false,eval e X.env)::starEach es X.env›)(hpl:‹(backTo pos (starEach es X.env)).any (·.1)=false›):
 PE X (.Call (.Subscript o i p) (e::es) [] pos) (Ji X.mg L tf t):=by
 intro pins s Z H Q I h;show wpAny _ _ (do callWith pos (<-eval (.Subscript o i p) X.env) [] (backTo pos (starEach (e::es) X.env)) (backToKw pos (keywordEach [] X.env))) _ _ _;refine jp (thn (hf s Z H _ I h) fun u s1 hZ=>?_);obtain⟨v,H1,I1,rv,f,y,sp,ev,hm,hmg,q1⟩:=hZ;subst ev;obtain rfl:u=Value.ref f:=rv;obtain⟨ps,C⟩:=CV.get hm;obtain⟨f',fd,F,b,kp,m⟩:=C.ex;have ef:f'=f:=by
  rw[hmg] at m;injection m with m;injection m with m;exact m.symm
 subst ef;refine Zp (h₀:=X.base) I1.ok.mod.kin kp (thn (ha (pos:=pos) pins s1 Z _ _ I1 q1) fun us s2 ⟨vs,H2,I2,r,q⟩=>⟨I2.kIn,?_⟩) he hpl;dsimp only at q;have hl:us.length=ps.length:=by rw[<-r.length];exact F.len _ _ _ _ q
 have hb:=b s2 us I2.kIn (by rw[xy];exact hl);rw[xy] at hb;show wpAny _ _ (call (.ref f') us) _ _ _;refine jn7 (je3 (F.run X.A X.stack s2 H2 ⟨us,[]⟩ us vs Q _ hr I2.env0 hb r q) fun z s' hq=>?_);cases z with
 | error e=>exact False.elim hq
 | ok fl=>
  cases fl with
  | ret u=>exact I2.after hq
  | next=>exact False.elim hq
  | brk=>exact False.elim hq
  | cont=>exact False.elim hq
end
def ACv(K:Fr)(g n q:Str)(st:Stmt)(ds:Array Value):Prop:=∃f fd,PySem.W.nsIn K mainGlobals g=some (some (.ref f))/\J1 K n q st f fd ds
def ABP(K:Fr)(C:Addr)(x n q:Str)(st:Stmt)(ds:Array Value):Prop:=∃f fd,PySem.W.findIn K (.ref C) x=some (some (.ref f))/\J1 K n q st f fd ds/\PySem.W.typeIn K (.ref f)=some (.type "function")
def ACw(K:Fr)(C:Addr)(x n q:Str)(st:Stmt)(ds:Array Value):Prop:=∃f fd,PySem.W.findCls K (.ref C) (.type "type") x=some (.val (.ref f))/\J1 K n q st f fd ds
abbrev Yc(n q:Str)(st:Stmt)(ps:List Str)(dv:List Value)(ds:Array Value)(m:Nat):Prop:=∀(T:Addr) (kV doc pm:Value) (an:Option Addr) (cdv ct:Value) (us:List Value),us.length=m->
 ∃k:Option (Array Value)->Sem (List (Str×Value)),bindArgs (PySem.W.fnOf n q (Fd st) (Cq st) (BK st) (.ref T) kV doc pm an cdv ct) ⟨us,[]⟩=seqItems? (.ref T) >>= k/\k (some ds)=pure (ps.zip (us++dv))
section
variable{K:Fr}{g n q:Str}{C f T:Addr}{st:Stmt}{oc to:Value}{od an td:Option Addr}{osl ts:Array (Option Value)}{kV doc pm cdv ct:Value}{ds:Array Value}{tn:Nat}
theorem vg(a:PySem.W.nsIn K mainGlobals g=some (some (.ref f)))(l:K.lookup f=some ⟨oc,od,.func (PySem.W.fnOf n q (Fd st) (Cq st) (BK st) (.ref T) kV doc pm an cdv ct),osl⟩)
 (c:PySem.W.codeIn K cdv q=true)(k:PySem.W.keepIn K (.ref f)=true)(t:K.lookup T=some ⟨to,td,.seq ds tn,ts⟩):ACv K g n q st ds:=⟨f,_,a,X4 l c k t rfl⟩
theorem vf(a:PySem.W.findIn K (.ref C) g=some (some (.ref f)))(l:K.lookup f=some ⟨oc,od,.func (PySem.W.fnOf n q (Fd st) (Cq st) (BK st) (.ref T) kV doc pm an cdv ct),osl⟩)
 (c:PySem.W.codeIn K cdv q=true)(k:PySem.W.keepIn K (.ref f)=true)(t:K.lookup T=some ⟨to,td,.seq ds tn,ts⟩)(u:PySem.W.typeIn K (.ref f)=some (.type "function")):ABP K C g n q st ds:=⟨f,_,a,X4 l c k t rfl,u⟩
theorem vh(a:PySem.W.findCls K (.ref C) (.type "type") g=some (.val (.ref f)))(l:K.lookup f=some ⟨oc,od,.func (PySem.W.fnOf n q (Fd st) (Cq st) (BK st) (.ref T) kV doc pm an cdv ct),osl⟩)
 (c:PySem.W.codeIn K cdv q=true)(k:PySem.W.keepIn K (.ref f)=true)(t:K.lookup T=some ⟨to,td,.seq ds tn,ts⟩):ACw K C g n q st ds:=⟨f,_,a,X4 l c k t rfl⟩
end
section
variable{P:Program}{w:World}{K:Fr}{h:Heap}{mg:Str->Option Value}{base:Heap}{g n q:Str}{C:Addr}{st:Stmt}{ps:List Str}{k:Nat}{sp:Sp}{ds:Array Value}{CX:CXT}{x:Str}
theorem Ui(X:K.In h)(G:h.Ns mainGlobals mg)(mk:PySem.W.makesIn K C=true)(kp:PySem.W.keepIn K (.ref C)=true)(nC:PySem.W.nsIn K mainGlobals x=some (some (.ref C)))(Q:ABP K C "__init__" n q st ds)(b:Yc n q st ps [] ds ps.length)
 (ok:∀{f:Addr} {fd:FuncData} {ds:Array Value},J1 K n q st f fd ds->Ds P w K mg base CX k f fd ps sp):aV P w K mg base CX k x C ps sp:=by
 obtain⟨f,fd,a,F,u⟩:=Q;exact⟨⟨f,fd,ok F,F.bindsD _ rfl b,⟨mk,a,ja7.mpr u,kp⟩,je2 X G nC⟩⟩
theorem kJ{dv:List Value}{dvs:List V}(m:Nat)(hm:m+dv.length=ps.length)(X:K.In h)(G:h.Ns mainGlobals mg)(mk:PySem.W.makesIn K C=true)(kp:PySem.W.keepIn K (.ref C)=true)(nC:PySem.W.nsIn K mainGlobals x=some (some (.ref C)))(Q:ABP K C "__init__" n q st ds)(b:Yc n q st ps dv ds m)
 (r:Vals dvs dv)(ok:∀{f:Addr} {fd:FuncData} {ds:Array Value},J1 K n q st f fd ds->Ds P w K mg base CX k f fd ps sp):rK P w K mg base CX k x C ps dvs sp:=by
 obtain⟨f,fd,a,F,u⟩:=Q;exact⟨⟨f,fd,_,ok F,F.bindsD _ hm b,r,⟨mk,a,ja7.mpr u,kp⟩,je2 X G nC⟩⟩
theorem qd(X:K.In h)(G:h.Ns mainGlobals mg)(nC:PySem.W.nsIn K mainGlobals x=some (some (.ref C)))(bsp:PySem.W.specialIn K (.ref C) "__getattribute__"=some (some (.builtin "type.__getattribute__")))(brd:PySem.W.readsIn K C (.type "type")=true)(Q:ACw K C "__init__" n q st ds)(b:Yc n q st ps [] ds ps.length)
 (ok:∀{f:Addr} {fd:FuncData} {ds:Array Value},J1 K n q st f fd ds->Ds P w K mg base CX0 k f fd ps sp):ABR P w K mg base k x ps sp:=by
 obtain⟨f,fd,a,F⟩:=Q;exact⟨⟨f,C,fd,ok F,F.bindsD _ rfl b,⟨je2 X G nC,bsp,brd,a,F.kp⟩⟩⟩
end
variable{X:Cx}{x:Str}{p q pos:Pos}{j:Int}{kd:Nat}
theorem pxT(i:Nat)(hN:‹X.N[i]?=some x›)(hv:Vis X.env.scope x:=by first | exact Or.inl rfl | exact Or.inr (Or.inl rfl) | exact Or.inr (Or.inr rfl))(hd:(x==("__debug__":Str))=false:=by decide)
 (hcd:(x==("__classdict__":Str))=false:=by decide):PE X (.Subscript (.Name x p) (.Constant (.int j) kd q) pos) (tOp (uU X.K) (Iu i) (tC (.int j))):=Et Km (pv i hN hv hd hcd) Ag (fun _ _=>rfl)
theorem pxL(i:Nat)(hN:‹X.N[i]?=some x›)(hv:Vis X.env.scope x:=by first | exact Or.inl rfl | exact Or.inr (Or.inl rfl) | exact Or.inr (Or.inr rfl))(hd:(x==("__debug__":Str))=false:=by decide)
 (hcd:(x==("__classdict__":Str))=false:=by decide):PE X (.Subscript (.Name x p) (.Constant (.int j) kd q) pos) (tOp (zO X.K) (Iu i) (tC (.int j))):=Et Gx (pv i hN hv hd hcd) Ag (fun _ _=>rfl)
end L2
namespace L2
open PySem PySem.W PySem.Spec PyProof.Rows
class Stp (G:Prop) (T:outParam Prop):Prop where
 go:T->G
instance:Stp (ABZ t u D Z H) (t { D with nx:=u D } Z H):=⟨id⟩
instance:Stp (ABa te D Z H) (te Z H D.rt):=⟨id⟩
instance:Stp (mJ te g D Z H) (te Z H fun x H1=>g x Z H1 D.nx):=⟨id⟩
instance:Stp (ABd c t u D Z H) (c Z H fun b H1=>if b=true then t D Z H1 else u D Z H1):=⟨id⟩
instance:Stp (wg D Z H) (D.nx Z H):=⟨id⟩
instance:Stp (lY te D Z H) (te Z H fun _ H1=>D.nx Z H1):=⟨id⟩
instance:Stp (tOp r ta tb Z H Q) (ta Z H fun x H1=>tb Z H1 fun y H2=>r x y H2 Q):=⟨id⟩
instance:Stp (tC v Z H Q) (Q v H):=⟨id⟩
instance:Stp (tUn r ta Z H Q) (ta Z H fun x H1=>r x H1 Q):=⟨id⟩
instance:Stp (wX t Z H Q) (t Z H fun x H'=>∃k,x=.bl k/\Q k H'):=⟨id⟩
instance:Stp (L2.tB t Z H Q) (t Z H fun x H'=>∃k,x=.bl k/\Q k H'):=⟨id⟩
instance:Stp (ABb t Z H Q) (t Z H fun c H1=>Q (!c) H1):=⟨id⟩
instance:Stp (ABh t u Z H Q) (t Z H fun c H1=>if c=true then u Z H1 Q else Q false H1):=⟨id⟩
instance:Stp (tOr t u Z H Q) (t Z H fun c H1=>if c=true then Q true H1 else u Z H1 Q):=⟨id⟩
instance:Stp (ww ta tb Z H Q) (ta Z H fun x H1=>∃c,x=.bl c/\if c=true then tb Z H1 Q else Q (.bl false) H1):=⟨id⟩
instance:Stp (mD r r' ta tb tc Z H Q) (ta Z H fun x H1=>tb Z H1 fun y H2=>r x y H2 fun z H3=>∃k,z=.bl k/\(if k=true then tc Z H3 fun w' H4=>r' y w' H4 Q else Q (.bl false) H3)):=⟨id⟩
instance:Stp (Vv sp dvs E t Z H Q) (t Z H fun vs H1=>sp (vs++dvs) H1 Q E):=⟨id⟩
instance:Stp (tCB r t Z H Q) (t Z H fun vs H1=>r vs H1 Q):=⟨id⟩
instance:Stp (Ma Z H Q) (Q [] H):=⟨id⟩
instance:Stp (JN ta tr Z H Q) (ta Z H fun x H1=>tr Z H1 fun xs H2=>Q (x::xs) H2):=⟨id⟩
instance:Stp (rm t Z H Q) (t Z H fun xs H1=>xs.length<=sizeLine/\∀p,H1 p=none->Q (.ref p) (upd H1 p (.tup xs))):=⟨id⟩
instance:Stp (yI t Z H Q) (t Z H fun xs H1=>xs.length<=sizeLine/\∀p,H1 p=none->Q (.ref p) (upd H1 p (.lst xs))):=⟨id⟩
instance {K:Fr}:Stp (ABg K T r to Z H Q) (to Z H fun x H1=>tyV K T x H1/\r x [] H1 Q):=⟨id⟩
instance:Stp (Vu C sp dvs E0 t Z H Q) (t Z H fun vs H1=>∀x dx,H1 x=none->H1 dx=none->dx≠x->sp (.ref x::(vs++dvs)) (upd (upd H1 dx (.own x)) x (.ins C dx [])) (fun v H2=>v=.non/\Q (.ref x) H2) E0):=⟨id⟩
instance {K:Fr}:Stp (yJ K ta f Z H Q) (ta Z H fun x H1=>∃a C dx fs v,x=.ref a/\H1 a=some (.ins C dx fs)/\Cls K C/\Cp K C f/\fs.lookup f=some v/\Q v H1):=⟨id⟩
instance {K:Fr}:Stp (ABu K ta tv f D Z H) (tv Z H fun y H1=>ta Z H1 fun x H2=>∃a C dx fs,x=.ref a/\H2 a=some (.ins C dx fs)/\Cls K C/\Cp K C f/\fs.length<1000/\D.nx Z (upd H2 a (.ins C dx (CW f y fs)))):=⟨id⟩
instance:Stp (Yo C m sp [] E0 ta t Z H Q) (ta Z H fun x H1=>∃a dx fs,x=.ref a/\H1 a=some (.ins C dx fs)/\fs.lookup m=none/\t Z H1 fun vs H2=>sp (x::(vs++[])) H2 Q E0):=⟨id⟩
instance:Stp (Rv L m ta t Z H Q) (ta Z H fun x H1=>∃a C dx fs sp,(C,sp)∈L/\x=.ref a/\H1 a=some (.ins C dx fs)/\fs.lookup m=none/\t Z H1 fun vs H2=>sp (x::(vs++[])) H2 Q E0):=⟨id⟩
instance:Stp (ABc ta Z H Q) (ta Z H fun vs H1=>∃(i j:Int),vs=[.int i,.int j]/\i<=j/\j-i<=1000000/\
 ∀l,H1 l=none->Q (.ref l) (upd H1 l (.lst ((List.range (j-i).toNat).map fun(k:Nat)=>V.int (i+(k:Int)))))):=⟨id⟩
instance:Stp (tSl r te tl th Z H Q) (te Z H fun x H1=>tl Z H1 fun l H2=>th Z H2 fun u H3=>r x l u H3 Q):=⟨id⟩
instance:Stp (wZ t Z H Q) (t Z H fun x H1=>∃i,x=.int i/\Q (some i) H1):=⟨id⟩
instance:Stp (dz Z H Q) (Q none H):=⟨id⟩
instance:Stp (ACd to ti t v Z H Q) (to Z H fun o H1=>ti Z H1 fun i H2=>t o i v H2 fun H3=>Q Z H3):=⟨id⟩
class StL (N:List Str) (vs:List V) (τ:outParam St):Prop where
 e:start N vs=τ
instance i_st0:StL [] [] []:=⟨rfl⟩
instance i_st1{n:Str}{N:List Str}{v:V}{vs:List V}{τ:St}[h:StL N vs τ]:StL (n::N) (v::vs) (some v::τ):=⟨by
 rw[<-h.e];unfold start;rw[qm,qm,Nat.add_sub_add_right];rfl⟩
instance i_st2{n:Str}{N:List Str}{τ:St}[h:StL N [] τ]:StL (n::N) [] (none::τ):=⟨by
 rw[<-h.e];rfl⟩
class SeL (Z:St) (i:Nat) (v:Option V) (τ:outParam St):Prop where
 e:Z.set i v=τ
instance i_se0{Z:St}{x v:Option V}:SeL (x::Z) 0 v (v::Z):=⟨rfl⟩
instance i_se1{Z τ:St}{x v:Option V}{i:Nat}[h:SeL Z i v τ]:SeL (x::Z) (i+1) v (x::τ):=⟨yi (x:: ·) h.e⟩
class NoL (Z:St) (τ:outParam St):Prop where
 e:Z=τ
instance i_no0:NoL [] []:=⟨rfl⟩
instance i_no1{Z:St}{x:Option V}:NoL (x::Z) (x::Z):=⟨rfl⟩
instance i_no2{N:List Str}{vs:List V}{τ:St}[h:StL N vs τ]:NoL (start N vs) τ:=⟨h.e⟩
instance i_no3{Z τ ρ:St}{v:Option V}{i:Nat}[h:NoL Z τ][g:SeL τ i v ρ]:NoL (Z.set i v) ρ:=⟨by rw[h.e,g.e]⟩
class LoL (Z:St) (i:Nat) (v:outParam V):Prop where
 e:Z[i]?=some (some v)
instance i_lo0{Z:St}{v:V}:LoL (some v::Z) 0 v:=⟨rfl⟩
instance i_lo1{Z:St}{x:Option V}{i:Nat}{v:V}[h:LoL Z i v]:LoL (x::Z) (i+1) v:=⟨h.e⟩
instance i_gname0{i:Nat}{v:V}{Z:St}{H:Hp}{Q:St->Hp->Prop}:Stp (Kq i v Z H Q) (Q (Z.set i (some v)) H):=⟨id⟩
instance i_gname{i:Nat}{v:V}{Z τ ρ:St}{H:Hp}{Q:St->Hp->Prop}[h:NoL Z τ][g:SeL τ i (some v) ρ]:Stp (Kq i v Z H Q) (Q ρ H):=⟨fun z=>by
 show Q (Z.set i (some v)) H
 rwa [h.e,g.e]⟩
instance i_var{i:Nat}{Z τ:St}{H:Hp}{Q:VK}{v:V}[h:NoL Z τ][g:LoL τ i v]:Stp (Iu i Z H Q) (Q v H):=⟨fun z=>KR (h.e ▸ g.e) z⟩
instance:Stp (bD sp EE t Z H Q) (t Z H fun vs H1=>sp (vs++[]) H1 Q (fun c d H'=>EE c d Z H')):=⟨id⟩
instance:Stp (lW C sp EE t Z H Q) (t Z H fun vs H1=>∀x dx,H1 x=none->H1 dx=none->dx≠x->sp (.ref x::(vs++[])) (upd (upd H1 dx (.own x)) x (.ins C dx [])) (fun v H2=>v=.non/\Q (.ref x) H2) (fun c d H'=>EE c d Z H')):=⟨id⟩
instance:Stp (lV C m sp EE ta t Z H Q) (ta Z H fun x H1=>∃a dx fs,x=.ref a/\H1 a=some (.ins C dx fs)/\fs.lookup m=none/\t Z H1 fun vs H2=>sp (x::(vs++[])) H2 Q (fun c d H'=>EE c d Z H')):=⟨id⟩
instance:Stp (d9 L m EE ta t Z H Q) (ta Z H fun x H1=>∃a C dx fs sp,(C,sp)∈L/\x=.ref a/\H1 a=some (.ins C dx fs)/\fs.lookup m=none/\t Z H1 fun vs H2=>sp (x::(vs++[])) H2 Q (fun c d H'=>EE c d Z H')):=⟨id⟩
instance:Stp (az C EE ta D Z H) (ta Z H fun vs H1=>vs.length<=sizeLine/\EE (.ref C) none Z H1):=⟨id⟩
instance:Stp (yG tb th D Z H) (tb (fun c d Z' H'=>∀ea,H' ea=none->th c d ea D Z' H') D Z H):=⟨id⟩
instance:Stp (wj t Z H Q) (t Str.empty Z H Q):=⟨id⟩
instance {K:Fr}:Stp (wW K ta f Z H Q) (ta Z H fun x H1=>∃a C d fs v,x=.ref a/\H1 a=some (kj a (.ref C) (some d))/\H1 d=some (.xd fs)/\AAw K C/\PySem.W.hasDictIn K C=true/\PySem.W.findIn K (.ref C) f=some none/\fs.lookup f=some v/\Q v H1):=⟨id⟩
instance:Stp (tIf t ta tb Z H Q) (t Z H fun c H1=>if c=true then ta Z H1 Q else tb Z H1 Q):=⟨id⟩
end L2
namespace L2
open PySem PySem.Spec PyProof.Rows
section
variable{prog:Program}{w:World}{A:Around}{E:Value->Shared->Prop}{s:Shared}{z TI TO i1 i2 l1 l2:Addr}{k:Nat}{xs ys:Array Value}{a b:Value}{c d:Bool}
theorem zp{Q:Option Value->Shared->Prop}(hh:A.handled=none)(D:ZipApart z TI TO i1 i2 l1 l2){x y:Value}(hz:IsZip s.heap z TI TO .none)(hTI:IsPair s.heap TI (.ref i1) (.ref i2))(hTO:IsPair s.heap TO a b)
 (h1:ItA s.heap i1 l1 k c)(h2:ItA s.heap i2 l2 k d)(t1:IsA s.heap l1 xs c)(t2:IsA s.heap l2 ys d)(hx:xs[k]?=some x)(hy:ys[k]?=some y)
 (hQ:∀h' tk,IsZip h' z TI TO (rawInt s.heap.objs.size)->IsPair h' TO x y->ItA h' i1 l1 (k+1) c->ItA h' i2 l2 (k+1) d->IsPair h' s.heap.objs.size x y->
  (∀y o,y≠z->y≠TO->y≠i1->y≠i2->s.heap.get? y=some o->h'.get? y=some o)->Q (some (.ref s.heap.objs.size)) { s with heap:=h',toks:=tk }):wpAny (model prog w) A (pyNext (.ref z)) Q E s:=by
 have hT:s.TypeIs (.ref z) "zip":=⟨_,hz,rfl⟩;have lx:k<xs.size:=(jb9.mp hx).1;have ly:k<ys.size:=(jb9.mp hy).1;have D1:=X8 (c:=c) (prog:=prog) (w:=w) (A:=A.in1) hh i1 l1 D.l1i1 xs;have D2:=X8 (c:=d) (prog:=prog) (w:=w) (A:=A.in1) hh i2 l2 D.l2i2 ys;unfold pyNext;refine jp (wpAny_attempt (jd2 (name:=Str.ofString "__next__") hT F.slot_zip_next (jj3 F.slot_zip_next hT F.entry_zip_next
  (iV (apart2 D) D1 D2 hz hTI hTO ⟨h1,t1⟩ ⟨h2,t2⟩ lx ly fun x' y' h' tk p1 p2 a1 a2 a3 a4 a5 a6=>?_) (F.args_zip_next_1 _))))
 rw[hx] at p1;rw[hy] at p2;cases p1;cases p2;exact ze (hQ h' tk a1 a2 a3.1 a4.1 a5 a6)
theorem AAf{Q:Option Value->Shared->Prop}(hh:A.handled=none)(D:ZipApart z TI TO i1 i2 l1 l2)(hz:IsZip s.heap z TI TO .none)(hTI:IsPair s.heap TI (.ref i1) (.ref i2))(hTO:IsPair s.heap TO a b)
 (h1:ItA s.heap i1 l1 k c)(h2:ItA s.heap i2 l2 k d)(t1:IsA s.heap l1 xs c)(t2:IsA s.heap l2 ys d)(hk:k=xs.size\/k<xs.size/\k=ys.size)
 (hQ:∀h' tk,(∀y o,y≠z->y≠TO->y≠i1->y≠i2->s.heap.get? y=some o->h'.get? y=some o)->Q none { s with heap:=h',toks:=tk }):wpAny (model prog w) A (pyNext (.ref z)) Q E s:=by
 have hT:s.TypeIs (.ref z) "zip":=⟨_,hz,rfl⟩;have D1:=X8 (c:=c) (prog:=prog) (w:=w) (A:=A.in1) hh i1 l1 D.l1i1 xs;have D2:=X8 (c:=d) (prog:=prog) (w:=w) (A:=A.in1) hh i2 l2 D.l2i2 ys;unfold pyNext;refine jp (wpAny_attempt (jd2 (name:=Str.ofString "__next__") hT F.slot_zip_next (jj3 F.slot_zip_next hT F.entry_zip_next
  (km (apart2 D) D1 D2 hz hTI hTO ⟨h1,t1⟩ ⟨h2,t2⟩ hk fun h' tk e q ⟨o,ho,hc⟩=>?_) (F.args_zip_next_1 _))))
 refine jp (wpAny_isInstance (T:="StopIteration") (b:=true) ⟨o,ho,hc⟩ isSubtype_stop ?_);exact ze (hQ _ _ q)
end
noncomputable def dZ(K:Fr)(a b:Addr)(c d:Bool):It:=
 ⟨fun i H=>∃xs ys x y,SqA K H a xs c/\SqA K H b ys d/\xs[i]?=some x/\ys[i]?=some y,
  fun i H v H'=>∃T x y,H T=none/\v=.ref T/\H'=upd H T (.tup [x,y])/\∀xs ys,SqA K H a xs c->SqA K H b ys d->xs[i]?=some x/\ys[i]?=some y,
  fun i H=>∃xs ys,SqA K H a xs c/\SqA K H b ys d/\i=min xs.length ys.length⟩
def AAv(c d:Bool)(z TI TO i1 i2 a b:Addr)(i:Nat)(h:Heap):Prop:=
 IsZip h z TI TO .none/\IsPair h TI (.ref i1) (.ref i2)/\(∃p q,IsPair h TO p q)/\ItA h i1 a i c/\ItA h i2 b i d
theorem iY{P:Program}{w:World}{K:Fr}{es:List Expr}{kk:Nat}{pos:Pos}{c d:Bool}(z TI TO i1 i2 a b:Addr)(D:ZipApart z TI TO i1 i2 a b):
 Turn P w K (.Tuple es kk pos) (dZ K a b c d) [z,TI,TO,i1,i2] z (AAv c d z TI TO i1 i2 a b) where
 mem:=by simp
 obj:=fun i h st c hc=>by
  obtain⟨h1,h2,⟨p,q,h3⟩,h4,h5⟩:=st;simp only[qh,ky,or_false] at hc;rcases hc with rfl | rfl | rfl | rfl | rfl
  ·exact⟨_,h1,fun v z=>by cases z⟩
  ·exact⟨_,h2,fun v z=>by cases z⟩
  ·exact⟨_,h3,fun v z=>by cases z⟩
  ·exact h4.get
  ·exact h5.get
 keep:=fun i h h' st k=>by
  obtain⟨h1,h2,⟨p,q,h3⟩,h4,h5⟩:=st;exact⟨k z (by simp) _ h1,k TI (by simp) _ h2,⟨p,q,k TO (by simp) _ h3⟩,h4.at fun o e=>k i1 (by simp) o e,h5.at fun o e=>k i2 (by simp) o e⟩
 item:=by
  intro X hP hw hK hc i pins s Z H E I hf st hg;subst hP hw hK;obtain⟨xs,ys,x,y,qa,qb,ex,ey⟩:=hg;obtain⟨us,ra,pa⟩:=I.seqA qa;obtain⟨ws,rb,pb⟩:=I.seqA qb;obtain⟨u,hu,ru⟩:=ra.get ex;obtain⟨v,hv,rv⟩:=rb.get ey;obtain⟨h1,h2,⟨p,q,h3⟩,h4,h5⟩:=st;refine zp (xs:=us.toArray) (ys:=ws.toArray) (I.ok.hd hc) D h1 h2 h3 h4 h5 pa pb (by simpa using hu) (by simpa using hv) fun h' tk a1 a2 a3 a4 a5 a6=>?_;have lt:∀{c o},s.heap.get? c=some o->s.heap.objs.size≠c:=fun e=>jo9 (zo e);refine⟨.ref s.heap.objs.size,rfl,wpAny_letOwnedTupleGo_zip a1 fun g2 z2 k2=>?_⟩;have hn:H s.heap.objs.size=none:=I.hok.fresh (qg _);have k3:∀c o,c∉[z,TO,i1,i2]->s.heap.get? c=some o->g2.get? c=some o:=fun c o hc e=>by
   simp only[qh,ky,or_false,not_or] at hc;exact k2.extBut c o hc.1 (a6 c o hc.1 hc.2.1 hc.2.2.1 hc.2.2.2 e)
  refine⟨.ref s.heap.objs.size,upd H s.heap.objs.size (.tup [x,y]),I.turnedNew (ch:=[z,TO,i1,i2]) k3 (fun c hc=>hf c ?_) (qg _) ⟨?_,[u,v],.cons ru (.cons rv .nil),⟨_,k2.extBut _ _ (lt h1) a5,rfl,_,rfl⟩⟩,rfl,⟨_,x,y,hn,rfl,rfl,fun xs' ys' qa' qb'=>?_⟩,?_,fun c hc=>?_⟩
  ·simp only[qh,ky,or_false] at hc ⊢;rcases hc with h | h | h | h
   ·exact .inl h
   ·exact .inr (.inr (.inl h))
   ·exact .inr (.inr (.inr (.inl h)))
   ·exact .inr (.inr (.inr (.inr h)))
  ·show 2<=sizeLine;rw[sizeLine_eq];decide
  ·rw[I.injA qa' qa,I.injA qb' qb];exact⟨ex,ey⟩
  ·exact⟨z2,k3 _ _ (by simp[D.TIz,D.TITO,D.TIi1,D.TIi2]) h2,⟨_,_,k2.extBut _ _ D.TOz a2⟩,a3.at fun o e=>k2.extBut _ _ D.i1z e,a4.at fun o e=>k2.extBut _ _ D.i2z e⟩
  ·have hlt:s.heap.objs.size≠c:=by
    simp only[qh,ky,or_false] at hc;obtain⟨o4,e4,_⟩:=h4.get;obtain⟨o5,e5,_⟩:=h5.get;rcases hc with rfl | rfl | rfl | rfl | rfl
    ·exact lt h1
    ·exact lt h2
    ·exact lt h3
    ·exact lt e4
    ·exact lt e5
   rw[Ax hlt.symm];exact(hf c hc).1
 done:=by
  intro X hP hw hK hc i pins s Z H E I hf st hg;subst hP hw hK;obtain⟨xs,ys,qa,qb,e⟩:=hg;obtain⟨us,ra,pa⟩:=I.seqA qa;obtain⟨ws,rb,pb⟩:=I.seqA qb;have la:=ra.length;have lb:=rb.length;obtain⟨h1,h2,⟨p,q,h3⟩,h4,h5⟩:=st;refine AAf (xs:=us.toArray) (ys:=ws.toArray) (I.ok.hd hc) D h1 h2 h3 h4 h5 pa pb (by simp;lia) fun h' tk k=>⟨rfl,I.turnedL (ch:=[z,TO,i1,i2]) (fun c o hc e=>?_) fun c hc=>hf c ?_⟩
  ·simp only[qh,ky,or_false,not_or] at hc;exact k c o hc.1 hc.2.1 hc.2.2.1 hc.2.2.2 e
  simp only[qh,ky,or_false] at hc ⊢;rcases hc with h | h | h | h
  ·exact .inl h
  ·exact .inr (.inr (.inl h))
  ·exact .inr (.inr (.inr (.inl h)))
  ·exact .inr (.inr (.inr (.inr h)))
 self:=fun _ _ _ _ _ st h=>wpAny_pyIter_zip st.1 h
noncomputable abbrev zI(c:Bool)(h:Heap)(a:Addr):Heap:=h.push { cls:=.type (if c=true then "tuple_iterator" else "list_iterator"),data:=.fields #[.ref a,.int 0 0] }
noncomputable abbrev zU2(c d:Bool)(h:Heap)(a b:Addr):Heap:=zI d (zI c h a) b
noncomputable abbrev zU3(c d:Bool)(h:Heap)(a b:Addr):Heap:=(zU2 c d h a b).push { cls:=.type "tuple",data:=.seq #[.ref h.objs.size,.ref (zI c h a).objs.size] }
noncomputable abbrev zU4(c d:Bool)(h:Heap)(a b:Addr):Heap:=(zU3 c d h a b).push { cls:=.type "tuple",data:=.seq #[.none,.none] }
noncomputable abbrev zU5(c d:Bool)(h:Heap)(a b:Addr):Heap:=(zU4 c d h a b).push { cls:=.type "zip",data:=.fields #[.none,.bool false,.bool false,.ref (zU2 c d h a b).objs.size,.ref (zU3 c d h a b).objs.size] }
theorem IsA.push{h:Heap}{l:Addr}{ys:Array Value}{d:Bool}(t:IsA h l ys d)(o:Obj):IsA (h.push o) l ys d:=by
 cases d
 ·exact Heap.IsList.at t fun o e=>jv _ e
 ·exact Heap.IsTuple.push t _
theorem cW(c d:Bool)(l1 l2:Addr)(xs ys:Array Value):
 Meets (Builtin.«zip.__new__» ⟨[.type "zip",.ref l1,.ref l2],[]⟩) (fun _ R s=>IsA s.heap l1 xs c/\IsA s.heap l2 ys d/\R (.ok (.ret (.ref (zU4 c d s.heap l1 l2).objs.size))) { s with heap:=zU5 c d s.heap l1 l2 }):=
 .of_wp fun prog w A R s h=>by
  obtain⟨hp,g,dd,tk,os⟩:=s;obtain⟨t1,t2,h⟩:=h;have hsub:=sub_zip;have hL1:IsA (Shared.heap ⟨hp,g,dd,tk,os⟩) l1 xs c:=t1;have hL2:IsA (Shared.heap ⟨zI c hp l1,g,dd,tk,os⟩) l2 ys d:=t2.push _;cases c<;>cases d
  ·have a1:Heap.IsList (Shared.heap ⟨hp,g,dd,tk,os⟩) l1 xs:=hL1;have a2:Heap.IsList (Shared.heap ⟨hp.push { cls:=.type "list_iterator",data:=.fields #[.ref l1,.int 0 0] },g,dd,tk,os⟩) l2 ys:=hL2
   wp_walk using jf6 a1,jf6 a2
   exact⟨_,rfl,h⟩
  ·have a1:Heap.IsList (Shared.heap ⟨hp,g,dd,tk,os⟩) l1 xs:=hL1;have a2:Heap.IsTuple (Shared.heap ⟨hp.push { cls:=.type "list_iterator",data:=.fields #[.ref l1,.int 0 0] },g,dd,tk,os⟩) l2 ys:=hL2
   wp_walk using jf6 a1,jh3 a2
   exact⟨_,rfl,h⟩
  ·have a1:Heap.IsTuple (Shared.heap ⟨hp,g,dd,tk,os⟩) l1 xs:=hL1;have a2:Heap.IsList (Shared.heap ⟨hp.push { cls:=.type "tuple_iterator",data:=.fields #[.ref l1,.int 0 0] },g,dd,tk,os⟩) l2 ys:=hL2
   wp_walk using jh3 a1,jf6 a2
   exact⟨_,rfl,h⟩
  ·have a1:Heap.IsTuple (Shared.heap ⟨hp,g,dd,tk,os⟩) l1 xs:=hL1;have a2:Heap.IsTuple (Shared.heap ⟨hp.push { cls:=.type "tuple_iterator",data:=.fields #[.ref l1,.int 0 0] },g,dd,tk,os⟩) l2 ys:=hL2
   wp_walk using jh3 a1,jh3 a2
   exact⟨_,rfl,h⟩
theorem ItA.new{h:Heap}{i a:Addr}{c:Bool}(e:h.get? i=some { cls:=.type (if c=true then "tuple_iterator" else "list_iterator"),data:=.fields #[.ref a,.int 0 0] }):ItA h i a 0 c:=by
 cases c<;>exact⟨_,e,rfl,rfl⟩
theorem j8{prog:Program}{w:World}{A:Around}{E:Value->Shared->Prop}{s:Shared}{l1 l2:Addr}{xs ys:Array Value}{c d:Bool}{Q:Value->Shared->Prop}(t1:IsA s.heap l1 xs c)(t2:IsA s.heap l2 ys d)
 (h:∀h',IsZip h' (s.heap.objs.size+4) (s.heap.objs.size+2) (s.heap.objs.size+3) .none->IsPair h' (s.heap.objs.size+2) (.ref s.heap.objs.size) (.ref (s.heap.objs.size+1))->IsPair h' (s.heap.objs.size+3) .none .none->
  ItA h' s.heap.objs.size l1 0 c->ItA h' (s.heap.objs.size+1) l2 0 d->(∀y o,s.heap.get? y=some o->h'.get? y=some o)->Q (.ref (s.heap.objs.size+4)) { s with heap:=h' }):
 wpAny (model prog w) A (call (.type "zip") [.ref l1,.ref l2]) Q E s:=by
 refine callType_new F.called_zip nofun (F.typeCall_zip_2 _ _) (F.newCall_zip_2 _ _) (fun obj=>F.args_object_init_3 obj _ _) F.entry_zip_new (cW c d l1 l2 xs ys) ⟨t1,t2,?_⟩;have z1:(zI c s.heap l1).objs.size=s.heap.objs.size+1:=jh0 ..;have z2:(zU2 c d s.heap l1 l2).objs.size=s.heap.objs.size+2:=by rw[jh0,z1]
 have z3:(zU3 c d s.heap l1 l2).objs.size=s.heap.objs.size+3:=by rw[jh0,z2]
 have z4:(zU4 c d s.heap l1 l2).objs.size=s.heap.objs.size+4:=by rw[jh0,z3]
 have p1:∀y o,(zU4 c d s.heap l1 l2).get? y=some o->(zU5 c d s.heap l1 l2).get? y=some o:=fun y o e=>jv _ e;have p2:∀y o,(zU3 c d s.heap l1 l2).get? y=some o->(zU5 c d s.heap l1 l2).get? y=some o:=fun y o e=>p1 y o (jv _ e);have p3:∀y o,(zU2 c d s.heap l1 l2).get? y=some o->(zU5 c d s.heap l1 l2).get? y=some o:=fun y o e=>p2 y o (jv _ e);have p4:∀y o,(zI c s.heap l1).get? y=some o->(zU5 c d s.heap l1 l2).get? y=some o:=fun y o e=>p3 y o (jv _ e);have g5:(zU5 c d s.heap l1 l2).get? (zU4 c d s.heap l1 l2).objs.size=some _:=zi _ rfl;have g4:(zU5 c d s.heap l1 l2).get? (zU3 c d s.heap l1 l2).objs.size=some _:=p1 _ _ (zi _ rfl);have g3:(zU5 c d s.heap l1 l2).get? (zU2 c d s.heap l1 l2).objs.size=some _:=p2 _ _ (zi _ rfl);have g2:(zU5 c d s.heap l1 l2).get? (zI c s.heap l1).objs.size=some _:=p3 _ _ (zi _ rfl);have g1:(zU5 c d s.heap l1 l2).get? s.heap.objs.size=some _:=p4 _ _ (zi _ rfl);show _/\_;rw[z2,z3,z4] at g5;rw[z1,z2] at g3;rw[z3] at g4;rw[z1] at g2;rw[z4];exact⟨⟨_,g5,rfl⟩,h _ g5 g3 g4 (.new g1) (.new g2) fun y o x=>p4 y o (jv _ x)⟩
def xZ(c d:Bool)(K:Fr)(ta:TA):TI:=fun Z H R=>ta Z H fun vs H1=>∃a b,vs=[.ref a,.ref b]/\(∃xs ys,SqA K H1 a xs c/\SqA K H1 b ys d)/\R (dZ K a b c d) H1
section
variable{X:Cx}
theorem fj{c d:Bool}{a b:Expr}{ta:TA}{p pos:Pos}{es:List Expr}{kk:Nat}{tp:Pos}(hg:Gl X "zip")(hm:X.mg "zip"=none)(ha:PA X [a,b] ta)(hs:‹starEach [a,b] X.env=[(false,eval a X.env),(false,eval b X.env)]›)(hs2:‹starEach [b] X.env=[(false,eval b X.env)]›):
 PI X (.Tuple es kk tp) (.Call (.Name "zip" p) [a,b] [] pos) (xZ c d X.K ta):=by
 intro pins s Z H R I h;refine Call_ (Kl I hg hm boot_zip (ja0 (thn (ha (pos:=pos) pins s Z H _ I h) fun us s1 ⟨vs,H1,I1,r1,q1⟩=>?_) (by rw[hs,hs2]) (by rw[hs2];rfl)));obtain⟨x,y,e,⟨xs,ys,qa,qb⟩,q⟩:=q1;subst e;obtain⟨ia,ra,pa⟩:=I1.seqA qa;obtain⟨ib,rb,pb⟩:=I1.seqA qb;cases r1 with
 | cons r rr=>
  cases rr with
  | cons r' rr=>
   cases rr;cases (show _=Value.ref x from r);cases (show _=Value.ref y from r');refine j8 pa pb fun h' hz hTI hTO hi1 hi2 hk=>?_;refine wpAny_pyIter_zip hz ?_;refine⟨_,_,_,_,H1,rfl,I1.kept (t':=s1.toks) fun c o e=>hk c o e,iY _ _ _ _ _ x y (xx pa.lt pb.lt),⟨hz,hTI,⟨_,_,hTO⟩,hi1,hi2⟩,fun c hc=>?_,q⟩;have hcs:s1.heap.objs.size<=c:=by
    simp only[qh,ky,or_false] at hc;rcases hc with rfl | rfl | rfl | rfl | rfl
    ·exact ja2 _ _
    ·exact ja2 _ _
    ·exact ja2 _ _
    ·exact qg _
    ·exact ja2 _ _
   exact I1.fpOk hcs (I1.hok.fresh hcs)
end
theorem fP{K:Fr}{ta:TA}{Z:St}{H:Hp}{R:It->Hp->Prop}{c d:Bool}(h:ta Z H fun vs H1=>∃a b,vs=[.ref a,.ref b]/\(∃xs ys,SqA K H1 a xs c/\SqA K H1 b ys d)/\R (dZ K a b c d) H1):xZ c d K ta Z H R:=h
theorem qF{K:Fr}{a b:Addr}{c d:Bool}{xs ys:List V}{g:TG}{tb:TS}{D:Ends}{Z:St}{H:Hp}(Pv:Nat->St->Hp->Prop)(h0:Pv 0 Z H)(hl:∀i Z H,i<=min xs.length ys.length->Pv i Z H->SqA K H a xs c/\SqA K H b ys d)
 (hs:∀i x y T Z H,xs[i]?=some x->ys[i]?=some y->H T=none->Pv i Z H->g (.ref T) Z (upd H T (.tup [x,y])) fun σ2 H2=>tb { D with nx:=Pv (i+1),ct:=Pv (i+1),bk:=D.nx } σ2 H2)(hd:∀Z H,Pv (min xs.length ys.length) Z H->D.nx Z H):
 ∃W:Nat->Nat->St->Hp->Prop,(∃m,W 0 m Z H)/\∀i m Z H,W i m Z H->
  ((dZ K a b c d).stop i H/\D.nx Z H)\/((dZ K a b c d).go i H/\∃N:St->Hp->Prop,(∀Z' H',N Z' H'->∃m',m'<m/\W (i+1) m' Z' H')/\∀x H',(dZ K a b c d).yld i H x H'->g x Z H' fun σ2 H2=>tb { D with nx:=N,ct:=N,bk:=D.nx } σ2 H2):=by
 refine⟨fun i m Z H=>m=min xs.length ys.length-i/\i<=min xs.length ys.length/\Pv i Z H,⟨_,rfl,vj _,h0⟩,?_⟩;rintro i m Z H ⟨rfl,hi,p⟩;obtain⟨qa,qb⟩:=hl i Z H hi p;by_cases hlt:i<min xs.length ys.length
 ·have lx:i<xs.length:=⋯
  have ly:i<ys.length:=⋯;refine .inr ⟨⟨xs,ys,xs[i],ys[i],qa,qb,by simp[lx],by simp[ly]⟩,Pv (i+1),fun Z' H' p'=>⟨min xs.length ys.length-(i+1),⋯,rfl,hlt,p'⟩,fun v H' y=>?_⟩;obtain⟨T,x,y,hT,e1,e2,h⟩:=y;subst e1 e2;obtain⟨ex,ey⟩:=h xs ys qa qb;exact hs i x y T Z H ex ey hT p
 ·have e:i=min xs.length ys.length:=⋯
  subst e;exact .inl ⟨⟨xs,ys,qa,qb,rfl⟩,hd Z H p⟩
end L2
local macro_rules | `(tactic| fail "l")=> `(tactic| (intro _ _ _ _ h;(repeat (cases h;rename_i h));subst_vars;rfl))
local macro_rules | `(tactic| fail "v")=> `(tactic| ((with_reducible refine' L2.KR ?ev ?_);(case ev=>exact rfl)))
local macro_rules | `(tactic| fail "d")=> `(tactic| (refine' (?fw:L2.Vw _ _) ?pw ?xw;(case pw=>intro h;(repeat1' (first | with_reducible refine L2.Stp.go ?_ | fail "v"));exact h);(case fw=>exact fun _ x=>x)))
local macro_rules | `(tactic| fail"r")=> `(tactic| first | fail"d" | (with_reducible first | refine L2.ABx ?_ | refine L2.ADR ?_) | ((with_reducible refine' L2.ABy ?es ?_);(case es=>exact rfl)) | ((with_reducible refine' L2.ABw ?es ?_);(case es=>exact rfl)) | (with_reducible first | refine L2.fX ?_ | refine L2.zK ?_ | refine L2.uI ?_ | refine L2.oE ?_ | refine L2.nZ ?_ | refine L2.uN ?_) | ((with_reducible refine' L2.Ep ?ec ?_);(case ec=>first | ((with_reducible show L2.ACy _ _);exact⟨by decide,by decide,by decide⟩) | ((with_reducible show L2.rN _ _);exact L2.Io (by decide) (by decide)) | (show (0:Int)<_;first | decide | lia | exact L2.oK _))))
local macro_rules | `(tactic| symm)=> `(tactic| repeat fail "r")
local macro_rules | `(tactic| walk_at"fm")=> `(tactic| (repeat (first | exact List.forall_mem_nil _ | refine List.forall_mem_cons.mpr ⟨by with_unfolding_all rfl,?_⟩)))
local macro_rules | `(tactic| walk_at"f")=> `(tactic| ((with_reducible refine L2.TV ?_);(with_reducible first | refine L2.QD ?_ | refine L2.xM ?_ | refine L2.XR ?_ | refine L2.uJ ?_ | refine L2.fQ ?_ | refine L2.nQ ?_)))
namespace Fw
inductive Ex2{T0 T1:Type}(p:T0->T1->Prop):Prop where
 | i (x0:T0) (x1:T1) (h:p x0 x1):Ex2 p
inductive Ex3{T0 T1 T2:Type}(p:T0->T1->T2->Prop):Prop where
 | i (x0:T0) (x1:T1) (x2:T2) (h:p x0 x1 x2):Ex3 p
inductive Ex4{T0 T1 T2 T3:Type}(p:T0->T1->T2->T3->Prop):Prop where
 | i (x0:T0) (x1:T1) (x2:T2) (x3:T3) (h:p x0 x1 x2 x3):Ex4 p
inductive Ex5{T0 T1 T2 T3 T4:Type}(p:T0->T1->T2->T3->T4->Prop):Prop where
 | i (x0:T0) (x1:T1) (x2:T2) (x3:T3) (x4:T4) (h:p x0 x1 x2 x3 x4):Ex5 p
inductive Ex6{T0 T1 T2 T3 T4 T5:Type}(p:T0->T1->T2->T3->T4->T5->Prop):Prop where
 | i (x0:T0) (x1:T1) (x2:T2) (x3:T3) (x4:T4) (x5:T5) (h:p x0 x1 x2 x3 x4 x5):Ex6 p
inductive Ex7{T0 T1 T2 T3 T4 T5 T6:Type}(p:T0->T1->T2->T3->T4->T5->T6->Prop):Prop where
 | i (x0:T0) (x1:T1) (x2:T2) (x3:T3) (x4:T4) (x5:T5) (x6:T6) (h:p x0 x1 x2 x3 x4 x5 x6):Ex7 p
inductive Ex8{T0 T1 T2 T3 T4 T5 T6 T7:Type}(p:T0->T1->T2->T3->T4->T5->T6->T7->Prop):Prop where
 | i (x0:T0) (x1:T1) (x2:T2) (x3:T3) (x4:T4) (x5:T5) (x6:T6) (x7:T7) (h:p x0 x1 x2 x3 x4 x5 x6 x7):Ex8 p
inductive Ex9{T0 T1 T2 T3 T4 T5 T6 T7 T8:Type}(p:T0->T1->T2->T3->T4->T5->T6->T7->T8->Prop):Prop where
 | i (x0:T0) (x1:T1) (x2:T2) (x3:T3) (x4:T4) (x5:T5) (x6:T6) (x7:T7) (x8:T8) (h:p x0 x1 x2 x3 x4 x5 x6 x7 x8):Ex9 p
inductive ACx{T0 T1 T2 T3 T4 T5 T6 T7 T8 T9:Type}(p:T0->T1->T2->T3->T4->T5->T6->T7->T8->T9->Prop):Prop where
 | i (x0:T0) (x1:T1) (x2:T2) (x3:T3) (x4:T4) (x5:T5) (x6:T6) (x7:T7) (x8:T8) (x9:T9) (h:p x0 x1 x2 x3 x4 x5 x6 x7 x8 x9):ACx p
inductive An3(p0 p1 p2:Prop):Prop where
 | i (h0:p0) (h1:p1) (h2:p2):An3 p0 p1 p2
inductive An4(p0 p1 p2 p3:Prop):Prop where
 | i (h0:p0) (h1:p1) (h2:p2) (h3:p3):An4 p0 p1 p2 p3
inductive An5(p0 p1 p2 p3 p4:Prop):Prop where
 | i (h0:p0) (h1:p1) (h2:p2) (h3:p3) (h4:p4):An5 p0 p1 p2 p3 p4
inductive An6(p0 p1 p2 p3 p4 p5:Prop):Prop where
 | i (h0:p0) (h1:p1) (h2:p2) (h3:p3) (h4:p4) (h5:p5):An6 p0 p1 p2 p3 p4 p5
inductive An7(p0 p1 p2 p3 p4 p5 p6:Prop):Prop where
 | i (h0:p0) (h1:p1) (h2:p2) (h3:p3) (h4:p4) (h5:p5) (h6:p6):An7 p0 p1 p2 p3 p4 p5 p6
inductive An8(p0 p1 p2 p3 p4 p5 p6 p7:Prop):Prop where
 | i (h0:p0) (h1:p1) (h2:p2) (h3:p3) (h4:p4) (h5:p5) (h6:p6) (h7:p7):An8 p0 p1 p2 p3 p4 p5 p6 p7
inductive An9(p0 p1 p2 p3 p4 p5 p6 p7 p8:Prop):Prop where
 | i (h0:p0) (h1:p1) (h2:p2) (h3:p3) (h4:p4) (h5:p5) (h6:p6) (h7:p7) (h8:p8):An9 p0 p1 p2 p3 p4 p5 p6 p7 p8
inductive ABV(p0 p1 p2 p3 p4 p5 p6 p7 p8 p9:Prop):Prop where
 | i (h0:p0) (h1:p1) (h2:p2) (h3:p3) (h4:p4) (h5:p5) (h6:p6) (h7:p7) (h8:p8) (h9:p9):ABV p0 p1 p2 p3 p4 p5 p6 p7 p8 p9
inductive ADH(p0 p1 p2 p3 p4 p5 p6 p7 p8 p9 p10:Prop):Prop where
 | i (h0:p0) (h1:p1) (h2:p2) (h3:p3) (h4:p4) (h5:p5) (h6:p6) (h7:p7) (h8:p8) (h9:p9) (h10:p10):ADH p0 p1 p2 p3 p4 p5 p6 p7 p8 p9 p10
inductive ABU(p0 p1 p2 p3 p4 p5 p6 p7 p8 p9 p10 p11:Prop):Prop where
 | i (h0:p0) (h1:p1) (h2:p2) (h3:p3) (h4:p4) (h5:p5) (h6:p6) (h7:p7) (h8:p8) (h9:p9) (h10:p10) (h11:p11):ABU p0 p1 p2 p3 p4 p5 p6 p7 p8 p9 p10 p11
theorem Mj(r d:Int)(hd:d≠0):0<=r.fmod d*d/\(r.fmod d).natAbs<d.natAbs:=by
 rcases(by omega:0<d\/d<0) with h | h
 ·have a:=jl3 r h;have b:=Int.fmod_lt_of_pos r h;exact⟨ji6 a (Qr h),by omega⟩
 ·have e:r.fmod d= -((-r).fmod (-d)):=by
   rw[Int.fmod_def,Int.fmod_def,Int.neg_fdiv_neg,Int.neg_mul];omega
  have a:=jl3 (-r) (b:= -d) (by omega);have b:=Int.fmod_lt_of_pos (-r) (b:= -d) (by omega);rw[e];generalize (-r).fmod (-d)=z at*
  refine⟨?_,by omega⟩;have:=ji6 a (show 0<= -d by omega);rw[Int.neg_mul];rw[Int.mul_neg] at this;omega
structure EqI(a b u v r u' v' r':Int):Prop where
 e1:u*a+v*b=r
 e2:u'*a+v'*b=r'
 g:Int.gcd r r'=Int.gcd a b
 ph:(u=1/\v=0/\r=a/\u'=0/\v'=1/\r'=b)\/
  (b≠0/\r≠0/\0<=r'*r/\r.natAbs<=b.natAbs/\r'.natAbs<=b.natAbs/\u'.natAbs*r.natAbs+u.natAbs*r'.natAbs<=b.natAbs/\u.natAbs<=b.natAbs+1)
theorem EqI.start(a b:Int):EqI a b 1 0 a 0 1 b:=⟨⋯,⋯,rfl,.inl ⟨rfl,rfl,rfl,rfl,rfl,rfl⟩⟩
theorem Kg(u q x:Int):(u-q*x).natAbs<=u.natAbs+q.natAbs*x.natAbs:=by
 have h:=Int.natAbs_sub_le u (q*x);rw[jl9] at h;exact h
variable{r d:Int}
theorem R9(hd:d≠0)(hs:0<=d*r):(r-r.fdiv d*d).natAbs+(r.fdiv d).natAbs*d.natAbs=r.natAbs:=by
 have e:r.fmod d+r.fdiv d*d=r:=jm3 r d;have e2:r-r.fdiv d*d=r.fmod d:=by omega
 rw[e2,<-jl9];have fs:=Mj r d hd;rcases(by omega:0<d\/d<0) with h | h
 ·have r0:0<=r:=by
   rcases(by omega:0<=r\/r<0) with z | z
   ·exact z
   ·have:=Int.mul_neg_of_pos_of_neg h z;omega
  have q0:0<=r.fdiv d:=Int.fdiv_nonneg r0 (Qr h);have a:=jl3 r h;have p:=ji6 q0 (Qr h);omega
 ·have r0:r<=0:=by
   rcases(by omega:r<=0\/0<r) with z | z
   ·exact z
   ·have:=Int.mul_neg_of_neg_of_pos h z;omega
  have q0:0<=r.fdiv d:=Int.fdiv_nonneg_of_nonpos_of_nonpos r0 (Qr h);have a:r.fmod d<=0:=by
   rcases(by omega:r.fmod d<=0\/0<r.fmod d) with z | z
   ·exact z
   ·have:=Int.mul_neg_of_pos_of_neg z h;omega
  have p:=ji6 q0 (show 0<= -d by omega);rw[Int.mul_neg] at p;omega
variable{a:Int}
theorem EqI.step{b u v u' v' r':Int}(I:EqI a b u v r u' v' r')(h:r'≠0):
 EqI a b u' v' r' (u-r.fdiv r'*u') (v-r.fdiv r'*v') (r-r.fdiv r'*r')/\(r-r.fdiv r'*r').natAbs<r'.natAbs:=by
 have e:r.fmod r'+r.fdiv r'*r'=r:=jm3 r r';have e2:r-r.fdiv r'*r'=r.fmod r':=⋯;have fs:=Mj r r' h;refine⟨⟨I.e2,?_,?_,?_⟩,by rw[e2];exact fs.2⟩
 ·have:=I.e1;have:=I.e2
  grind
 ·rw[Int.gcd_sub_mul_right_right,Int.gcd_comm];exact I.g
 ·right;rcases I.ph with ⟨h1,h2,h3,h4,h5,h6⟩ | ⟨hb,hr,hs,l1,l2,l3,l4⟩
  ·subst h1 h2 h3 h4 h5 h6;refine⟨h,h,by rw[e2];exact fs.1,qg _,by rw[e2];lia,?_,by simp⟩;simp
  ·have q:=R9 h hs;refine⟨hb,h,by rw[e2];exact fs.1,l2,by rw[e2];lia,?_,?_⟩
   ·have m:=Kg u (r.fdiv r') u';generalize (r-r.fdiv r'*r').natAbs=A at*
    generalize (u-r.fdiv r'*u').natAbs=B at*
    generalize (r.fdiv r').natAbs=C at*
    have k1:B*r'.natAbs<=(u.natAbs+C*u'.natAbs)*r'.natAbs:=ji5 _ m;have k2:(u.natAbs+C*u'.natAbs)*r'.natAbs+u'.natAbs*A=u.natAbs*r'.natAbs+u'.natAbs*(A+C*r'.natAbs):=by grind
    rw[q] at k2;lia
   ·have:u'.natAbs*1<=u'.natAbs*r.natAbs:=jg2 _ ⋯;lia
theorem v_bound{b u v:Int}(hb:b≠0)(e:u*a+v*b=r)(l1:r.natAbs<=b.natAbs)(l4:u.natAbs<=b.natAbs+1):v.natAbs<=1+2*a.natAbs:=by
 have e1:v*b=r-u*a:=⋯;have h:=Kg r u a;rw[<-e1,jl9] at h;have hb':0<b.natAbs:=⋯;have k:u.natAbs*a.natAbs<=(b.natAbs+1)*a.natAbs:=ji5 _ l4;have k2:a.natAbs*1<=a.natAbs*b.natAbs:=jg2 _ hb';have k3:v.natAbs*b.natAbs<=(1+2*a.natAbs)*b.natAbs:=by grind
 exact Nat.le_of_mul_le_mul_right k3 hb'
theorem EqI.bounds{b u v u' v' r':Int}(I:EqI a b u v r u' v' r'):
 u.natAbs<=b.natAbs+1/\v.natAbs<=1+2*a.natAbs/\u'.natAbs<=b.natAbs+1/\v'.natAbs<=1+2*a.natAbs/\r.natAbs<=a.natAbs+b.natAbs/\r'.natAbs<=b.natAbs:=by
 rcases I.ph with ⟨h1,h2,h3,h4,h5,h6⟩ | ⟨hb,hr,hs,l1,l2,l3,l4⟩
 ·subst h1 h2 h3 h4 h5 h6;refine⟨by simp,by simp,by simp,by simp,⋯,⋯⟩
 ·have:u'.natAbs*1<=u'.natAbs*r.natAbs:=jg2 _ ⋯;have lu:u'.natAbs<=b.natAbs+1:=⋯
  exact⟨l4,v_bound hb I.e1 l1 l4,lu,v_bound hb I.e2 l2 lu,⋯,l2⟩
theorem cC(hd:d≠0):(r.fdiv d).natAbs<=r.natAbs+1:=by
 have e:r.fmod d+r.fdiv d*d=r:=jm3 r d;have fs:=(Mj r d hd).2;have h:(r.fdiv d*d).natAbs<=r.natAbs+(r.fmod d).natAbs:=by omega
 rw[jl9] at h;have d1:1<=d.natAbs:=by omega
 generalize (r.fdiv d).natAbs=x at*
 generalize d.natAbs=y at*
 generalize r.natAbs=z at*
 rcases(by omega:x<=1\/2<=x) with c | c
 ·omega
 ·obtain⟨k,rfl⟩:∃k,x=k+1:=⟨x-1,by omega⟩;have:(k+1)*y=k*y+y:=Nat.succ_mul k y;have:k*1<=k*y:=jg2 k d1;omega
structure Eqn(a b u v g:Int):Prop where
 eq:u*a+v*b=g
 gd:g=(Int.gcd a b:Int)
 bu:u.natAbs<=b.natAbs+1
 bv:v.natAbs<=1+2*a.natAbs
theorem EqI.done{b u v u' v':Int}(I:EqI a b u v r u' v' 0):(r<0->Eqn a b (-u) (-v) (-r))/\(¬r<0->Eqn a b u v r):=by
 have g:=I.g;rw[Int.gcd_zero_right] at g;have B:=I.bounds;refine⟨fun h=>⟨?_,⋯,⋯,⋯⟩,fun h=>⟨I.e1,⋯,B.1,B.2.1⟩⟩;have:=I.e1;rw[Int.neg_mul,Int.neg_mul];lia
theorem Nu{b:Int}(ha:0<a):0<(Int.gcd a b:Int):=by
 have:Int.gcd a b≠0:=fun z=>by
  have:=Int.eq_zero_of_gcd_eq_zero_left z;lia
 lia
theorem pq{b:Int}(ha:0<a):(Int.gcd a b:Int)<=a:=jn5 ha (Int.gcd_dvd_left ..)
noncomputable def Eb(a b:Int):Int:=a/(Int.gcd a b:Int)*b
theorem DP{b:Int}(ha:0<a)(hb:0<b):
 0<Eb a b/\a∣Eb a b/\b∣Eb a b/\Eb a b*(Int.gcd a b:Int)=a*b/\(∀t,a∣t->b∣t->Eb a b∣t)/\Eb a b=(Int.lcm a b:Int):=by
 have gp:=Nu (b:=b) ha;obtain⟨x,hx⟩:(Int.gcd a b:Int)∣a:=Int.gcd_dvd_left ..;obtain⟨y,hy⟩:(Int.gcd a b:Int)∣b:=Int.gcd_dvd_right ..;have e1:a/(Int.gcd a b:Int)=x:=by
  have gne:(Int.gcd a b:Int)≠0:=⋯;generalize hg:(Int.gcd a b:Int)=g at*
  rw[hx];exact jk2 x gne
 have e:Eb a b=x*b:=by unfold Eb;rw[e1]
 have pr:Eb a b*(Int.gcd a b:Int)=a*b:=by rw[e];conv=>rhs;rw[hx]
                                          grind
 have pl:(Int.lcm a b:Int)*(Int.gcd a b:Int)=a*b:=by
  have h:=Int.gcd_mul_lcm a b;have h2:((Int.gcd a b*Int.lcm a b:Nat):Int)=((a.natAbs*b.natAbs:Nat):Int):=by rw[h]
  rw[jn8,jn8,Int.natAbs_of_nonneg (Qr ha),Int.natAbs_of_nonneg (Qr hb)] at h2;rw[je0];exact h2
 have el:Eb a b=(Int.lcm a b:Int):=Int.eq_of_mul_eq_mul_right (by lia:(Int.gcd a b:Int)≠0) (pr.trans pl.symm);refine⟨?_,?_,?_,pr,?_,el⟩
 ·have:0<Eb a b*(Int.gcd a b:Int):=by rw[pr];exact Int.mul_pos ha hb
  exact Int.pos_of_mul_pos_left this gp
 ·rw[el];exact Int.dvd_lcm_left ..
 ·rw[el];exact Int.dvd_lcm_right ..
 ·intro t h1 h2;rw[el];exact Int.coe_lcm_dvd h1 h2
theorem V7{b:Int}(ha:0<a)(hb:0<b):Eb a b=Eb b a:=by
 rw[(DP ha hb).2.2.2.2.2,(DP hb ha).2.2.2.2.2,Int.lcm_comm]
theorem vN{b:Int}(ha:0<a)(hb:0<b):Eb a b<=a*b:=by
 have f:=DP ha hb;have gp:=Nu (b:=b) ha;have h:Eb a b*1<=Eb a b*(Int.gcd a b:Int):=jg5 ⋯ (Qr f.1);rw[f.2.2.2.1] at h;lia
noncomputable def On(n:Int)(b:Nat)(d:Int):Bool:=b.testBit (d%n).toNat
theorem ACQ(b k:Nat):decide (((b:Nat):Int)/2^k%2=1)=b.testBit k:=by
 rw[Nat.testBit_eq_decide_div_mod_eq];have e:((b:Nat):Int)/2^k%2=((b/2^k%2:Nat):Int):=by
  rw[Int.natCast_emod,Int.natCast_ediv,je8];rfl
 rw[e,ja8];simp only[decide_eq_true_eq];lia
theorem KH(b k:Nat):((b:Nat):Int)/2^k=((b >>> k:Nat):Int):=by
 rw[Jn,Int.natCast_ediv,je8];rfl
theorem R7(b k:Nat):((b:Nat):Int)*2^k=((b <<< k:Nat):Int):=by
 rw[Nat.shiftLeft_eq,jn8,je8];rfl
theorem jy(k:Nat):(1:Int)*2^k-1=((2^k-1:Nat):Int):=by
 have:0<2^k:=kq k;rw[Int.natCast_sub ⋯,je8];simp
theorem oJ(k:Nat):(1:Int)*2^k=((2^k:Nat):Int):=by
 rw[je8];simp
variable{b:Nat}
theorem OD{w c:Nat}(hb:b<2^w)(hc:c<2^w)(h:∀i,i<w->b.testBit i=c.testBit i):b=c:=by
 refine kg fun i=>?_;by_cases hi:i<w
 ·exact h i hi
 ·have p:2^w<=2^i:=vb nofun ⋯;rw[jd6 ⋯,jd6 ⋯]
theorem high{n i:Nat}(hb:b<2^n)(h:n<=i):b.testBit i=false:=by
 have p:2^n<=2^i:=vb nofun h;exact jd6 ⋯
theorem K6(c w:Nat):c &&& (2^w-1)<2^w:=by
 rw[Nat.and_two_pow_sub_one_eq_mod];exact Nat.mod_lt _ (kq w)
theorem Jx(c w i:Nat)(h:i<w):(c &&& (2^w-1)).testBit i=c.testBit i:=by
 rw[ja9,ji1];simp[h]
noncomputable def lat(n b s:Nat):Nat:=((b <<< s) ||| (b >>> (n-s))) &&& (2^n-1)
theorem Tz(n b s:Nat):lat n b s<2^n:=K6 _ _
theorem vO{n s i:Nat}(hb:b<2^n)(hs:s<n)(hi:i<n):(lat n b s).testBit i=b.testBit ((i+n-s)%n):=by
 unfold lat;rw[Jx _ _ _ hi,jc5,jm9,jh1];by_cases h:s<=i
 ·have e:(i+n-s)%n=i-s:=by
   have:i+n-s=i-s+n:=⋯;rw[this,Nat.add_mod_right,jg8 ⋯]
  rw[e,high hb (show n<=n-s+i by lia)];simp[h]
 ·have e:(i+n-s)%n=n-s+i:=by
   rw[jg8 ⋯];lia
  rw[e];simp[h]
theorem idx{n num:Int}(hn:0<n):(((d%n).toNat+n.toNat-(num%n).toNat)%n.toNat)=((d-num)%n).toNat:=by
 have h1:=xk d (show n≠0 by lia);have h2:=xb d hn;have h3:=xk num (show n≠0 by lia);have h4:=xb num hn;have e:(d-num)%n=(d%n+n-num%n)%n:=by
  rw[Int.sub_emod,Int.sub_emod (d%n+n),Int.add_emod_right,Int.emod_emod,Int.emod_emod]
 have h5:=xk (d%n+n-num%n) (show n≠0 by lia);rw[e];have k:(((d%n).toNat+n.toNat-(num%n).toNat:Nat):Int)=d%n+n-num%n:=⋯;have k2:(n.toNat:Int)=n:=⋯;have:((((d%n).toNat+n.toNat-(num%n).toNat)%n.toNat:Nat):Int)=(d%n+n-num%n)%n:=by
  rw[Int.natCast_emod,k,k2]
 lia
theorem pK{n:Int}{num:Int}(hn:0<n)(hb:b<2^n.toNat):On n (lat n.toNat b (num%n).toNat) d=On n b (d-num):=by
 unfold On;have h1:=xk d (show n≠0 by lia);have h2:=xb d hn;have h3:=xk num (show n≠0 by lia);have h4:=xb num hn;rw[vO hb ⋯ ⋯,idx hn]
structure Jc(n b w c:Nat):Prop where
 lt:c<2^w
 bit:∀i,i<w->c.testBit i=b.testBit (i%n)
theorem Jc.start{n:Nat}(h:b<2^n):Jc n b n b:=⟨h,fun i hi=>by rw[jg8 hi]⟩
theorem Jc.dbl{n w c:Nat}(S:Jc n b w c)(hd:n∣w):Jc n b (w*2) (c ||| (c <<< w)):=by
 have e:2^(w*2)=2^w*2^w:=by rw[Nat.mul_two,jo3]
 refine⟨?_,fun i hi=>?_⟩
 ·refine Nat.or_lt_two_pow (zk S.lt (vb nofun ⋯)) ?_;rw[Nat.shiftLeft_eq,e];exact Nat.mul_lt_mul_of_pos_right S.lt (kq w)
 ·rw[jc5,jm9];by_cases h:i<w
  ·rw[S.bit i h];simp[Nat.not_le.mpr h]
  ·rw[high S.lt ⋯,S.bit (i-w) ⋯];obtain⟨k,rfl⟩:=hd;have e2:i=(i-n*k)+n*k:=⋯
   have e3:i%n=(i-n*k)%n:=by conv=>lhs;rw[e2,Nat.add_mul_mod_self_left]
   rw[e3];simp;intro z;lia
theorem Jc.cut{n w c z:Nat}(S:Jc n b w c)(h:z<=w):Jc n b z (c &&& (2^z-1)):=
 ⟨K6 _ _,fun i hi=>by rw[Jx _ _ _ hi,S.bit i ⋯]⟩
theorem Jc.uniq{n w c c':Nat}(S:Jc n b w c)(S':Jc n b w c'):c=c':=OD S.lt S'.lt fun i hi=>by rw[S.bit i hi,S'.bit i hi]
noncomputable def hit(n:Int)(ds:List Int)(d:Int):Bool:=ds.any fun x=>decide ((d-x)%n=0)
structure RB(n:Int)(ds:List Int)(b:Nat):Prop where
 lt:b<2^n.toNat
 bit:∀d,On n b d=hit n ds d
theorem RB.nil(n:Int):RB n [] 0:=⟨kq _,fun d=>by unfold On hit;simp⟩
theorem Wr{n x:Int}(hn:0<n):(d-x)%n=0<->d%n=x%n:=by
 rw[Int.sub_emod];have h1:=xk d (show n≠0 by lia);have h2:=xb d hn;have h3:=xk x (show n≠0 by lia);have h4:=xb x hn;constructor
 ·intro h;have:=Int.dvd_of_emod_eq_zero h;obtain⟨k,hk⟩:=this;have:k=0:=by
   rcases je6 k 0 with z | z | z
   ·have:n*k<=n*(-1):=jg5 ⋯ ⋯;lia
   ·exact z
   ·have:n*1<=n*k:=jg5 ⋯ ⋯;lia
  subst this;lia
 ·intro h;rw[h];simp
theorem RB.snoc{n:Int}{ds:List Int}{x:Int}(hn:0<n)(h:RB n ds b):RB n (ds++[x]) (b ||| 2^(x%n).toNat):=by
 have h3:=xk x (show n≠0 by lia);have h4:=xb x hn;refine⟨Nat.or_lt_two_pow h.lt (Nat.pow_lt_pow_right nofun ⋯),fun d=>?_⟩;have h1:=xk d (show n≠0 by lia);have hb:=h.bit d;unfold On hit at*
 rw[jc5,hb,List.any_append,jj9]
 congr 1
 rw[jk9,List.any_nil,Bool.or_false,ja8,decide_eq_true_eq,decide_eq_true_eq,Wr hn];lia
def Prm(r:Nat):Prop:=2<=r/\∀d,d∣r->d=1\/d=r
structure PI0(n:Nat)(ps:List Nat)(l f:Nat):Prop where
 l0:0<l
 ln:l<=n
 f2:2<=f
 low:∀q,2<=q->q∣l->f<=q
 all:∀r,Prm r->r∣n->r∈ps\/r∣l
 mem:∀p∈ps,2<=p/\p<=n
structure ACt(n:Nat)(ps:List Nat):Prop where
 all:∀r,Prm r->r∣n->r∈ps
 mem:∀p∈ps,2<=p/\p<=n
theorem PI0.one{n:Nat}{ps:List Nat}{l f:Nat}(h:PI0 n ps l f)(e:¬1<l):ACt n ps:=
 ⟨fun r hr hd=>by
  rcases h.all r hr hd with z | z
  ·exact z
  ·have:=Nat.le_of_dvd h.l0 z;have:=hr.1;lia,h.mem⟩
noncomputable def cnt(b:Nat):Nat->Nat
 | 0=>0
 | k+1=>cnt b k+(if b.testBit k then 1 else 0)
theorem Z3(b:Nat):∀k,cnt b (k+1)=b%2+cnt (b/2) k
 | 0=>by
  simp only[cnt,jj2];have:=Nat.mod_two_eq_zero_or_one b;rcases this with h | h<;>simp[h]
 | k+1=>by
  have ih:=Z3 b k;rw[cnt,ih];show b%2+cnt (b/2) k+_=b%2+(cnt (b/2) k+_);rw[jd0];lia
noncomputable def CC(n:Int)(b:Nat)(d:Int):Int:=d/n*(cnt b n.toNat:Int)+(cnt b (d%n).toNat:Int)
theorem iT{n:Int}(hn:0<n)(d:Int):CC n b (d+1)=CC n b d+(if On n b d then 1 else 0):=by
 have h1:=xk d (show n≠0 by lia);have h2:=xb d hn;have h3:=jm6 d n;unfold CC On;by_cases hl:d%n=n-1
 ·have hd:d+1=n*(d/n+1):=by rw[jc3,ja5];lia
  have e1:(d+1)/n=d/n+1:=by rw[hd];exact jk2 _ ⋯
  have e2:(d+1)%n=0:=by rw[hd];exact Int.mul_emod_right _ _
  have e3:n.toNat=(d%n).toNat+1:=⋯;rw[e1,e2];show(d/n+1)*(cnt b n.toNat:Int)+((cnt b 0:Nat):Int)=_;have e4:(cnt b n.toNat:Int)=(cnt b (d%n).toNat:Int)+(if b.testBit (d%n).toNat then 1 else 0):=by
   rw[e3,cnt];split<;>simp
  have e5:((cnt b 0:Nat):Int)=0:=rfl;rw[jl6,jh6,e5];lia
 ·have e1:(d+1)/n=d/n:=by
   have:d+1=n*(d/n)+(d%n+1):=⋯;rw[this,jm5 _ _ ⋯,jc2 (a:=d%n+1) (b:=n) ⋯ ⋯,jh5]
  have e2:(d+1)%n=d%n+1:=by
   have:d+1=n*(d/n)+(d%n+1):=⋯;rw[this,Int.mul_add_emod_self_left];exact jl7 ⋯ ⋯
  rw[e1,e2];have e3:(d%n+1).toNat=(d%n).toNat+1:=⋯;rw[e3,cnt];split<;>simp<;>lia
theorem QX{n:Int}{b:Nat}(hn:0<n)(d:Int):∀k:Nat,CC n b d<=CC n b (d+(k:Int))
 | 0=>by simp
 | k+1=>by
  have ih:=QX (b:=b) hn d k;have e:=iT (b:=b) hn (d+(k:Int));have:d+((k+1:Nat):Int)=d+(k:Int)+1:=⋯;rw[this,e];split<;>lia
theorem wU{n:Int}(hn:0<n){d e:Int}(h:d<=e):CC n b d<=CC n b e:=by
 have:=QX (b:=b) hn d (e-d).toNat
 rwa [show d+((e-d).toNat:Int)=e by lia] at this
theorem qI(c d:Nat):(2*c) &&& (2*d+1)=2*(c &&& d):=by
 refine kg fun i=>?_;cases i with
 | zero=>rw[ja9];simp[jj2]
 | succ i=>
  rw[ja9,jd0,jd0,jd0,show 2*c/2=c by lia,show(2*d+1)/2=d by lia,show 2*(c &&& d)/2=c &&& d by lia,ja9]
theorem vC(c:Nat):(2*c+1) &&& (2*c)=2*c:=by
 refine kg fun i=>?_;cases i with
 | zero=>rw[ja9];simp[jj2]
 | succ i=>
  rw[ja9,jd0,jd0,show 2*c/2=c by lia,show(2*c+1)/2=c by lia,Bool.and_self]
theorem gQ:∀(k b:Nat),b.testBit k=true->(∀i,i<k->b.testBit i=false)->(b &&& (b-1))+2^k=b
 | 0,b,h,_=>by
  rw[jj2,decide_eq_true_eq] at h;obtain⟨c,rfl⟩:∃c,b=2*c+1:=⟨b/2,⋯⟩;rw[show 2*c+1-1=2*c by lia,vC]
 | k+1,b,h,g=>by
  have g0:=g 0 ⋯;rw[jj2,decide_eq_false_iff_not] at g0;obtain⟨c,rfl⟩:∃c,b=2*c:=⟨b/2,⋯⟩;rw[jd0,show 2*c/2=c by lia] at h;have c0:c≠0:=by
   rintro rfl;rw[jg9] at h;exact Bool.noConfusion h
  have ih:=gQ k c h fun i hi=>by
   have:=g (i+1) ⋯
   rwa [jd0,show 2*c/2=c by lia] at this
  rw[show 2*c-1=2*(c-1)+1 by lia,qI,Nat.pow_succ];lia
theorem zr(h:b≠0):∃k,b.testBit k=true/\∀i,i<k->b.testBit i=false:=by
 obtain⟨j,hj⟩:=Nat.exists_testBit_of_ne_zero h;have:∀n j,j<=n->b.testBit j=true->∃k,b.testBit k=true/\∀i,i<k->b.testBit i=false:=by
  intro n
  induction n with
  | zero=>
   intro j hj hb;exact⟨j,hb,fun i hi=>⋯⟩
  | succ n ih=>
   intro j hj hb;by_cases c:∃i,i<j/\b.testBit i=true
   ·obtain⟨i,hi,hb'⟩:=c;exact ih i ⋯ hb'
   ·exact⟨j,hb,fun i hi=>by
     cases e:b.testBit i with
     | false=>rfl
     | true=>exact absurd ⟨i,hi,e⟩ c⟩
 exact this j j (qg _) hj
theorem pG(k:Nat):(2^k).log2=k:=by
 have h0:(2:Nat)^k≠0:=by have:=kq k;lia
 exact Nat.log2_two_pow
theorem pW(h:b≠0):b.testBit b.log2=true/\∀i,b.log2<i->b.testBit i=false:=by
 have h1:=Nat.log2_self_le h;have h2:b<2^(b.log2+1):=Nat.lt_log2_self;constructor
 ·rw[Nat.testBit_eq_decide_div_mod_eq,decide_eq_true_eq];have p:=kq b.log2;have e:b/2^b.log2=1:=by
   rw[Nat.pow_succ] at h2;generalize 2^b.log2=w at*
   have a1:1<=b/w:=(Nat.le_div_iff_mul_le p).mpr ⋯;have a2:b/w<2:=(Nat.div_lt_iff_lt_mul p).mpr ⋯;lia
  rw[e]
 ·intro i hi;exact jd6 (zk h2 (vb nofun hi))
noncomputable def Lp(w:Nat):List Nat->Nat
 | []=>0
 | a::l=>a+2^w*Lp w l
noncomputable def fsum:List Nat->Nat
 | []=>0
 | a::l=>a+fsum l
def Dg(w f s:Nat):Prop:=∃l:List Nat,(∀a∈l,a<=w)/\f=Lp w l/\s=fsum l
theorem Dg.nil{w:Nat}:Dg w 0 0:=⟨[],(fun _ h=>nomatch h),rfl,rfl⟩
theorem Dg.cons{w a f s:Nat}(h:a<=w)(g:Dg w f s):Dg w (a+2^w*f) (a+s):=by
 obtain⟨l,h1,rfl,rfl⟩:=g;exact⟨a::l,fun x hx=>(qh.mp hx).elim (fun e=>e ▸ h) (h1 x),rfl,rfl⟩
def Ev(w f e:Nat):Prop:=∀i,e.testBit i=(f.testBit i&&decide (i%(2*w)<w))
theorem WM{w:Nat}:∀l:List Nat,Lp w l=0->fsum l=0
 | [],_=>rfl
 | a::l,e=>by
  have e:a+2^w*Lp w l=0:=e;have e1:a=0:=⋯;have e2:2^w*Lp w l=0:=⋯;have p:=kq w;rcases Nat.mul_eq_zero.mp e2 with z | z
  ·lia
  ·show a+fsum l=0;rw[e1,WM l z]
theorem Dg.last{w f s:Nat}(h:Dg w f s)(hl:f<2^w):f=s:=by
 obtain⟨l,_,rfl,rfl⟩:=h;cases l with
 | nil=>rfl
 | cons a l=>
  have hl:a+2^w*Lp w l<2^w:=hl;have z:Lp w l=0:=by
   rcases Nat.eq_zero_or_pos (Lp w l) with z | z
   ·exact z
   ·have:=Nat.le_mul_of_pos_right (2^w) z;lia
  show a+2^w*Lp w l=a+fsum l;rw[WM l z,z];simp
theorem WY{w a h:Nat}(ha:a<2^w)(i:Nat):(a+2^w*h).testBit i=if i<w then a.testBit i else h.testBit (i-w):=by
 rw[Nat.add_comm,Nat.testBit_two_pow_mul_add h ha]
theorem Ev.peel{w a h e:Nat}(w0:0<w)(ha:a<2^w)(H:Ev w (a+2^w*h) e):e=a+2^(2*w)*(e/2^(2*w))/\Ev w (h/2^w) (e/2^(2*w)):=by
 have e1:e%2^(2*w)=a:=by
  refine kg fun i=>?_;rw[jg3,H i,WY ha];by_cases c:i<w
  ·rw[xo c,jg8 ⋯];simp[c,show i<2*w by lia]
  ·rw[xp c];have:a.testBit i=false:=jd6 (zk ha (vb nofun ⋯));rw[this];by_cases c2:i<2*w
   ·rw[jg8 c2];simp[c]
   ·simp[c2]
 refine⟨?_,fun i=>?_⟩
 ·have:=Nat.mod_add_div e (2^(2*w));rw[e1] at this;exact this.symm
 ·rw[<-Jn,<-Jn,jh1,jh1,H,WY ha,xp ⋯,show 2*w+i-w=w+i by lia,Nat.add_mod_left]
theorem xm{w:Nat}(w0:0<w):∀l:List Nat,(∀a∈l,a<=w)->∀e1 e2,Ev w (Lp w l) e1->Ev w (Lp w l/2^w) e2->Dg (2*w) (e1+e2) (fsum l)/\e1+e2<=Lp w l
 | [],_,e1,e2,h1,h2=>by
  have z:∀e,Ev w 0 e->e=0:=fun e he=>kg fun i=>by rw[he i,jg9];rfl
  have h2:Ev w (0/2^w) e2:=h2;rw[Nat.zero_div] at h2;rw[z e1 h1,z e2 h2];exact⟨.nil,qg _⟩
 | [a],ha,e1,e2,h1,h2=>by
  have ha:=ha a qc;have h1:Ev w (a+2^w*0) e1:=h1;have h2:Ev w ((a+2^w*0)/2^w) e2:=h2;show Dg (2*w) (e1+e2) (a+0)/\e1+e2<=a+2^w*0;have al:a<2^w:=va ha jo2;have z:∀e,Ev w 0 e->e=0:=fun e he=>kg fun i=>by rw[he i,jg9];rfl
  obtain⟨p1,p2⟩:=h1.peel w0 al;rw[Nat.zero_div] at p2;have p3:=z _ p2;rw[jo8,Nat.add_zero,jn3 al] at h2;have p4:=z _ h2;rw[p3,jo8,Nat.add_zero] at p1;rw[p1,p4,jo8];refine⟨?_,⋯⟩;have:=Dg.cons (w:=2*w) (a:=a) ⋯ (.nil)
  rwa [jo8] at this
 | a::b::l,hl,e1,e2,h1,h2=>by
  have ha:=hl a qc;have hb:=hl b (qf _ qc);have hg:∀x∈l,x<=w:=fun x hx=>hl x (qf _ (qf _ hx));have h1:Ev w (a+2^w*(b+2^w*Lp w l)) e1:=h1;have h2:Ev w ((a+2^w*(b+2^w*Lp w l))/2^w) e2:=h2;have ih:=xm w0 l hg;show Dg (2*w) (e1+e2) (a+(b+fsum l))/\e1+e2<=a+2^w*(b+2^w*Lp w l);generalize Lp w l=g at*
  generalize fsum l=s at*
  have al:a<2^w:=va ha jo2;have bl:b<2^w:=va hb jo2;have p:=kq w;have d1:(a+2^w*(b+2^w*g))/2^w=b+2^w*g:=by rw[Nat.add_mul_div_left _ _ p,jn3 al,Nat.zero_add]
  have d2:(b+2^w*g)/2^w=g:=by rw[Nat.add_mul_div_left _ _ p,jn3 bl,Nat.zero_add]
  rw[d1] at h2;obtain⟨p1,p2⟩:=h1.peel w0 al;obtain⟨p3,p4⟩:=h2.peel w0 bl;rw[d2] at p2;obtain⟨i1,i2⟩:=ih _ _ p2 p4;have:=Dg.cons (w:=2*w) (a:=a+b) ⋯ i1;refine⟨?_,?_⟩
  ·rw[p1,p3];rw[Nat.mul_add] at this;have e:a+2^(2*w)*(e1/2^(2*w))+(b+2^(2*w)*(e2/2^(2*w)))=a+b+(2^(2*w)*(e1/2^(2*w))+2^(2*w)*(e2/2^(2*w))):=⋯
   rw[e,<-Nat.add_assoc a b s];exact this
  ·have m:=jg2 (2^(2*w)) i2;rw[Nat.mul_add] at m;have q1:b<=2^w*b:=Nat.le_mul_of_pos_left b p;have q2:2^w*(2^w*g)=2^(2*w)*g:=by rw[<-Nat.mul_assoc,<-jo3,Nat.two_mul]
   rw[Nat.mul_add,q2];lia
theorem Dg.pair{w f s:Nat}(w0:0<w)(h:Dg w f s){e1 e2:Nat}(h1:Ev w f e1)(h2:Ev w (f/2^w) e2):Dg (2*w) (e1+e2) s/\e1+e2<=f:=by
 obtain⟨l,hl,rfl,rfl⟩:=h;exact xm w0 l hl e1 e2 h1 h2
theorem Dg.start:∀(n b:Nat),b<2^n->Dg 1 b (cnt b n)
 | 0,b,h=>by
  have:b=0:=by simp at h;exact h
  subst this;exact .nil
 | n+1,b,h=>by
  have:=Dg.cons (w:=1) (a:=b%2) ⋯ (Dg.start n (b/2) (by rw[Nat.pow_succ] at h;lia));rw[Z3]
  rwa [Nat.pow_one,Nat.mod_add_div] at this
theorem Z4{c:Nat}:∀{k:Nat},(∀i,i<k->b.testBit i=c.testBit i)->cnt b k=cnt c k
 | 0,_=>rfl
 | k+1,h=>by
  rw[cnt,cnt,Z4 (fun i hi=>h i ⋯),h k ⋯]
theorem qX(b:Nat):∀k,cnt b k<=k
 | 0=>qg _
 | k+1=>by
  have:=qX b k;rw[cnt];split<;>lia
noncomputable def pc(b j:Nat):Nat:=b/2^(256*j)%2^256
theorem Tn(b j i:Nat):(pc b j).testBit i=(decide (i<256)&&b.testBit (256*j+i)):=by
 unfold pc;rw[jg3,<-Jn,jh1]
theorem ACP(b j:Nat):pc b j<2^256:=Nat.mod_lt _ (kq _)
theorem o7(b p:Nat):pc (b ||| 2^p) (p/256)=pc b (p/256) ||| 2^(p%256):=by
 refine kg fun i=>?_;rw[Tn,jc5,jc5,Tn,jj9,jj9];by_cases c:i<256
 ·have:(p=256*(p/256)+i)=(p%256=i):=propext ⟨fun h=>⋯,fun h=>⋯⟩;simp[c,this]
 ·have:¬p%256=i:=⋯
  simp[c,this]
theorem o6{p j:Nat}(h:j≠p/256):pc (b ||| 2^p) j=pc b j:=by
 refine kg fun i=>?_;rw[Tn,jc5,Tn,jj9];by_cases c:i<256
 ·have:¬p=256*j+i:=⋯
  simp[c,this]
 ·simp[c]
theorem uv(b m:Nat):b%2^(256*m) ||| (pc b m <<< (256*m))=b%2^(256*(m+1)):=by
 refine kg fun i=>?_;rw[jc5,jm9,jg3,jg3,Tn];by_cases c:i<256*m
 ·simp[c,show ¬256*m<=i by lia,show i<256*(m+1) by lia]
 ·by_cases c2:i<256*(m+1)
  ·simp[c,c2,show 256*m<=i by lia,show i-256*m<256 by lia,show 256*m+(i-256*m)=i by lia]
  ·simp[c,c2,show ¬i-256*m<256 by lia]
theorem qz{n m:Int}(hd:n∣m)(d k:Int):On n b (d+m*k)=On n b d:=by
 unfold On;obtain⟨c,rfl⟩:=hd;rw[jk6,Int.add_mul_emod_self_left]
structure Nb(on:Int->Bool)(a d c:Int):Prop where
 oa:on a=true
 ad:a<=d
 na:∀r,a<r->r<=d->on r=false
 oc:on c=true
 dc:d<=c
 nc:∀r,d<=r->r<c->on r=false
def ABQ(on:Int->Bool)(s x:Int):Prop:=on x=true/\s<=x/\∀r,s<=r->r<x->on r=false
def wQ(on:Int->Bool)(s x:Int):Prop:=on x=true/\x<=s/\∀r,x<r->r<=s->on r=false
def wR(on:Int->Bool)(s x:Int):Prop:=on x=true/\∀r,on r=true->(x<r->(x-s).natAbs<=(r-s).natAbs)/\(r<x->(x-s).natAbs<(r-s).natAbs)
theorem ABQ.un{on:Int->Bool}(s x y:Int)(h:ABQ on s x)(g:ABQ on s y):x=y:=by
 rcases je6 x y with c | c | c
 ·have:=g.2.2 x h.2.1 c;rw[h.1] at this;cases this
 ·exact c
 ·have:=h.2.2 y g.2.1 c;rw[g.1] at this;cases this
theorem wQ.un{on:Int->Bool}(s x y:Int)(h:wQ on s x)(g:wQ on s y):x=y:=by
 rcases je6 x y with c | c | c
 ·have:=h.2.2 y c g.2.1;rw[g.1] at this;cases this
 ·exact c
 ·have:=g.2.2 x c h.2.1;rw[h.1] at this;cases this
theorem wR.un{on:Int->Bool}(s x y:Int)(h:wR on s x)(g:wR on s y):x=y:=by
 have a:=h.2 y g.1;have b:=g.2 x h.1;rcases je6 x y with c | c | c
 ·have:=a.1 c;have:=b.2 c;lia
 ·exact c
 ·have:=a.2 c;have:=b.1 c;lia
theorem Nb.un{on:Int->Bool}{c:Int}(h:Nb on a d c):wQ on d a:=⟨h.oa,h.ad,h.na⟩
theorem Nb.nr{on:Int->Bool}{c:Int}(h:Nb on a d c):wR on d (if d-a<=c-d then a else c):=by
 have h1:=h.ad;have h2:=h.dc;have off:∀r,on r=true->r<=a\/c<=r:=fun r hr=>by
  rcases jk1 a r with x | x
  ·right;refine Int.not_lt.mp fun y=>?_;rcases jk1 d r with u | u
   ·have:=h.nc r ⋯ y;rw[hr] at this;cases this
   ·have:=h.na r x u;rw[hr] at this;cases this
  ·exact .inl x
 by_cases c1:d-a<=c-d
 ·rw[xo c1];refine⟨h.oa,fun r hr=>?_⟩;rcases off r hr with x | x
  ·exact⟨fun _=>⋯,fun _=>⋯⟩
  ·exact⟨fun _=>⋯,fun _=>⋯⟩
 ·rw[xp c1];refine⟨h.oc,fun r hr=>?_⟩;rcases off r hr with x | x
  ·exact⟨fun _=>⋯,fun _=>⋯⟩
  ·exact⟨fun _=>⋯,fun _=>⋯⟩
structure Rs(on:Int->Bool)(row:List Int)(lo hi:Int):Prop where
 srt:row.Pairwise (· < ·)
 mem:∀r,r∈row<->lo<=r/\r<hi/\on r=true
def Kth(n1:Int)(b1:Nat)(n2:Int)(b2:Nat)(k d:Int):Prop:=On n1 b1 d=true/\∃b e,On n2 b2 b=true/\On n2 b2 e=true/\b<=d/\d<e/\(∀r,b<r->r<e->On n2 b2 r=false)/\(0<k->CC n1 b1 (d+1)-CC n1 b1 b=k)/\(k<0->CC n1 b1 e-CC n1 b1 d= -k)
section
variable{o1 o2 p1 p2:Int->Bool}{t:Int}
end
section
variable{o1 o2:Int->Bool}{d r1 r2 p q:Int}
def RW(o:Int->Bool)(d r:Int):Prop:=r<=d/\o r=true/\∀e,r<e->e<=d->o e=false
def RV(o:Int->Bool)(d r:Int):Prop:=d<=r/\o r=true/\∀e,d<=e->e<r->o e=false
end
theorem V5{n:Int}(hn:0<n)(h:RW (On n b) d r):d-n<r:=by
 refine Int.not_le.mp fun z=>?_;have:=h.2.2 (r+n) ⋯ ⋯;have e:=qz (b:=b) (Int.dvd_refl n) r 1;rw[ja5,h.2.1] at e;rw[e] at this;cases this
theorem V4{n:Int}(hn:0<n)(h:RV (On n b) d r):r<d+n:=by
 refine Int.not_le.mp fun z=>?_;have:=h.2.2 (r-n) ⋯ ⋯;have e:=qz (b:=b) (Int.dvd_refl n) (r-n) 1;rw[ja5,show r-n+n=r by lia,h.2.1] at e;rw[<-e] at this;cases this
noncomputable abbrev Tm:=Int×Int×Int×Int
structure OkT(t:Tm):Prop where
 sg:t.1=1\/t.1= -1
 n0:1<=t.2.2.2
 n1:t.2.2.2<=1000
 a0:0<=t.2.1
 a1:t.2.1<=t.2.2.2
 b0:0<=t.2.2.1
 b1:t.2.2.1<t.2.2.2
noncomputable def onT(t:Tm)(k:Int):Bool:=decide (t.2.2.2<=(t.2.1*k+t.2.2.1)%t.2.2.2+t.2.1)
noncomputable def ctT(t:Tm)(k:Int):Int:=(t.2.1*k+t.2.2.1)/t.2.2.2
noncomputable def SU(ts:List Tm)(k:Int):Int:=(ts.map fun t=>t.1*ctT t k).sum
noncomputable def UP(base:Int)(ts:List Tm)(k:Int):Int:=base*k+SU ts k
noncomputable def ONS(ts:List Tm)(k:Int):Int:=((ts.filter fun t=>onT t k).map fun t=>t.1).sum
noncomputable def AT(base:Int)(ts:List Tm)(k:Int):Int:=base+ONS ts k
noncomputable def falls(ts:List Tm):Int:=((ts.filter fun t=>decide (t.1= -1)).length:Int)
theorem vy{t:Tm}(h:OkT t)(k:Int):ctT t (k+1)=ctT t k+(if onT t k=true then 1 else 0):=by
 unfold ctT onT;obtain⟨s,a,b,n⟩:=t;have n0:=h.n0;have a0:=h.a0;have a1:=h.a1;dsimp only at n0 a0 a1 ⊢;have e:a*(k+1)+b=a*k+b+a:=by rw[jc3,ja5];lia
 rw[e];generalize a*k+b=y;have q:=jm6 y n;have r0:=xk y (show n≠0 by lia);have r1:=xb y (show 0<n by lia);by_cases c:n<=y%n+a
 ·rw[decide_eq_true c,xo rfl];have h:y+a=n*(y/n+1)+(y%n+a-n):=by rw[jc3,ja5];lia
  conv=>lhs;rw[h]
  rw[jm5 _ _ ⋯,jc2 (a:=y%n+a-n) (b:=n) ⋯ ⋯];lia
 ·rw[decide_eq_false c,xp qv];have h:y+a=n*(y/n)+(y%n+a):=⋯
  conv=>lhs;rw[h]
  rw[jm5 _ _ ⋯,jc2 (a:=y%n+a) (b:=n) ⋯ ⋯]
theorem vq{t:Tm}(h:OkT t):ctT t 0=0:=by
 unfold ctT;rw[Int.mul_zero,jh7];exact jc2 h.b0 h.b1
theorem iQ:∀{ts:List Tm} (_:∀t∈ts,OkT t) (k:Int),SU ts (k+1)=SU ts k+ONS ts k
 | [],_,k=>rfl
 | t::ts,h,k=>by
  have ih:=iQ (ts:=ts) (fun x hx=>h x (qf _ hx)) k;have s:=vy (h t qc) k;unfold SU ONS at*
  rw[qo,qo,yy,yy,ih,s,jg7];by_cases c:onT t k=true
  ·rw[xo c,xo c,qo,yy,jc3,ja5];lia
  ·rw[xp c,xp c,jh5];lia
theorem iM:∀{ts:List Tm} (_:∀t∈ts,OkT t),SU ts 0=0
 | [],_=>rfl
 | t::ts,h=>by
  have ih:=iM (ts:=ts) (fun x hx=>h x (qf _ hx));unfold SU at*
  rw[qo,yy,ih,vq (h t qc)];simp
theorem Ro:∀{ts:List Tm} (_:∀t∈ts,OkT t) (k:Int),-falls ts<=ONS ts k
 | [],_,k=>by show(-((0:Nat):Int))<=0;lia
 | t::ts,h,k=>by
  have ih:=Ro (ts:=ts) (fun x hx=>h x (qf _ hx)) k;have sg:=(h t qc).sg;unfold falls ONS at*
  rw[jg7,jg7];by_cases c:onT t k=true
  ·rw[xo c,qo,yy];rcases sg with z | z
   ·rw[xp (by rw[decide_eq_true_eq];lia)];lia
   ·rw[xo (decide_eq_true z),qm];lia
  ·rw[xp c];split
   ·rw[qm];lia
   ·lia
variable{base:Int}{ts:List Tm}
theorem OJ(h:∀t∈ts,OkT t)(k:Int):UP base ts (k+1)=UP base ts k+AT base ts k:=by
 unfold UP AT;rw[iQ h,jc3,ja5];lia
theorem Le(h:∀t∈ts,OkT t):UP base ts 0=0:=by
 unfold UP;rw[iM h,Int.mul_zero];rfl
theorem Jy(h:∀t∈ts,OkT t)(hf:falls ts<=base){j k:Int}(jk:j<=k):UP base ts j<=UP base ts k:=by
 have:∀m:Nat,UP base ts j<=UP base ts (j+(m:Int)):=by
  intro m
  induction m with
  | zero=>simp
  | succ m ih=>
   have e:=OJ (base:=base) h (j+(m:Int));have l:=Ro h (j+(m:Int));unfold AT at e;rw[show j+((m+1:Nat):Int)=j+(m:Int)+1 by lia,e];lia
 have:=this (k-j).toNat
 rwa [show j+((k-j).toNat:Int)=k by lia] at this
theorem AAh{t:Tm}(h:OkT t){P:Int}(hd:t.2.2.2∣P)(k q:Int):ctT t (k+P*q)=ctT t k+q*ctT t P:=by
 have n0:=h.n0;obtain⟨c,rfl⟩:=hd;unfold ctT;obtain⟨s,a,b,n⟩:=t;dsimp only at n0 ⊢;have b0:=h.b0;have b1:=h.b1;dsimp only at b0 b1;have e1:a*(k+n*c*q)+b=a*k+b+n*(a*(c*q)):=by
  rw[jc3,show a*(n*c*q)=n*(a*(c*q)) by rw[jk6,je7]];lia
 have e2:a*(n*c)+b=b+n*(a*c):=by rw[je7];lia
 rw[e1,e2,jm2 _ _ ⋯,jm2 _ _ ⋯,jc2 b0 b1,jh7]
 congr 1
 rw[je7 q a c,je0 q c]
theorem qw:∀{ts:List Tm} (_:∀t∈ts,OkT t) {P:Int} (_:∀t∈ts,t.2.2.2∣P) (k q:Int),SU ts (k+P*q)=SU ts k+q*SU ts P
 | [],_,P,_,k,q=>by unfold SU;simp
 | t::ts,h,P,hd,k,q=>by
  have ih:=qw (ts:=ts) (fun x hx=>h x (qf _ hx)) (P:=P) (fun x hx=>hd x (qf _ hx)) k q;have s:=AAh (h t qc) (hd t qc) k q;unfold SU at*
  rw[qo,qo,qo,yy,yy,yy,ih,s,jc3,jc3,je7 t.1 q];lia
theorem AAx(h:∀t∈ts,OkT t){P:Int}(hd:∀t∈ts,t.2.2.2∣P)(k q:Int):UP base ts (k+P*q)=UP base ts k+q*UP base ts P:=by
 unfold UP;rw[qw h hd,jc3,jc3,show base*(P*q)=q*(base*P) by rw[<-jk6,je0]];lia
theorem ACh{t:Tm}(h:OkT t){k:Int}(k0:0<=k):0<=ctT t k/\ctT t k<=k:=by
 have n0:=h.n0;have a0:=h.a0;have b0:=h.b0;have b1:=h.b1;have p0:0<=t.2.1*k:=ji6 a0 k0;have p1:t.2.1*k<=t.2.2.2*k:=kt h.a1 k0;unfold ctT;refine⟨jk5 ⋯ ⋯,?_⟩;have:(t.2.1*k+t.2.2.1)/t.2.2.2<k+1:=by
  rw[Int.ediv_lt_iff_lt_mul ⋯,jl6,jh6,je0 k];lia
 lia
theorem qy:∀{ts:List Tm} (_:∀t∈ts,OkT t) {k:Int} (_:0<=k),-((ts.length:Int)*k)<=SU ts k/\SU ts k<=(ts.length:Int)*k
 | [],_,k,_=>by unfold SU;simp
 | t::ts,h,k,k0=>by
  have ih:=qy (ts:=ts) (fun x hx=>h x (qf _ hx)) k0;have c:=ACh (h t qc) k0;have sg:=(h t qc).sg;unfold SU at*
  rw[qo,yy,qm,jk7,jl6];have e1:((1:Nat):Int)*k=k:=by simp
  rcases sg with z | z
  ·rw[z,jh6];lia
  ·rw[z,show(-1:Int)*ctT t k= -ctT t k by lia];lia
noncomputable def PER(ts:List Tm):Int:=ts.foldl (fun p t=>Eb p t.2.2.2) 1
theorem YW(h:∀t∈ts,OkT t)(hf:falls ts<base){P:Int}(P0:0<P):0<UP base ts P:=by
 have m:=Jy h (jj4 (falls ts)) (show (0:Int)<=P by lia);rw[Le h] at m;unfold UP at*
 have:(falls ts+1)*P<=base*P:=kt ⋯ ⋯;rw[jl6,jh6] at this;lia
theorem AAi{t:Tm}(h:OkT t){k:Int}(k0:k<=0):k<=ctT t k/\ctT t k<=0:=by
 have n0:=h.n0;have a0:=h.a0;have b0:=h.b0;have b1:=h.b1;have p0:t.2.1*k<=0:=Int.mul_nonpos_of_nonneg_of_nonpos a0 k0;have p1:t.2.2.2*k<=t.2.1*k:=jf8 h.a1 k0;unfold ctT;constructor
 ·rw[Int.le_ediv_iff_mul_le ⋯,je0];lia
 ·have:(t.2.1*k+t.2.2.1)/t.2.2.2<1:=by
   rw[Int.ediv_lt_iff_lt_mul ⋯,jh6];lia
  lia
theorem qx:∀{ts:List Tm} (_:∀t∈ts,OkT t) {k:Int} (_:k<=0),(ts.length:Int)*k<=SU ts k/\SU ts k<= -((ts.length:Int)*k)
 | [],_,k,_=>by unfold SU;simp
 | t::ts,h,k,k0=>by
  have ih:=qx (ts:=ts) (fun x hx=>h x (qf _ hx)) k0;have c:=AAi (h t qc) k0;have sg:=(h t qc).sg;unfold SU at*
  rw[qo,yy,qm,jk7,jl6];have e1:((1:Nat):Int)*k=k:=by simp
  rcases sg with z | z
  ·rw[z,jh6];omega
  ·rw[z,show(-1:Int)*ctT t k= -ctT t k by omega];omega
theorem qu{b:Int}(h:∀t∈ts,OkT t)(b0:0<=b)(b1:b<=20000)(few:ts.length<=6){k K:Int}(h0: -K<=k)(h1:k<=K): -(20006*K)<=UP b ts k/\UP b ts k<=20006*K:=by
 unfold UP;rcases jk1 k 0 with c | c
 ·obtain⟨s1,s2⟩:=qx h (show k<=0 by lia);have m1:20000*k<=b*k:=jf8 b1 ⋯;have m2:b*k<=0:=Int.mul_nonpos_of_nonneg_of_nonpos b0 ⋯;have m3:6*k<=(ts.length:Int)*k:=jf8 ⋯ ⋯;lia
 ·obtain⟨s1,s2⟩:=qy h c;have m1:b*k<=20000*k:=kt b1 c;have m2:0<=b*k:=ji6 b0 c;have m3:(ts.length:Int)*k<=6*k:=kt ⋯ c;lia
theorem iU(h:∀t∈ts,OkT t)(k:Int):ONS ts k<=(ts.length:Int):=by
 unfold ONS
 induction ts with
 | nil=>exact jj4 0
 | cons t ts ih=>
  have i:=ih fun x hx=>h x (qf _ hx);have sg:=(h t qc).sg;rw[jg7,qm];split
  ·rw[qo,yy];lia
  ·lia
theorem mK:∀{ls:List Int},(∀n∈ls,0<=n/\n<=1000)->0<=ls.sum/\ls.sum<=1000*(ls.length:Int)
 | [],_=>by simp
 | a::ls,h=>by
  have i:=mK (ls:=ls) fun n hn=>h n (qf _ hn);have:=h a qc;rw[yy,qm];lia
theorem sum_set:∀{ls:List Int} {i:Nat} {e:Int},i<ls.length->(ls.set i (ls.getD i 0+e)).sum=ls.sum+e
 | [],i,e,h=>by simp at h
 | a::ls,0,e,_=>by
  show(a+e)+ls.sum=(a::ls).sum+e;rw[yy];lia
 | a::ls,i+1,e,h=>by
  have ih:=sum_set (ls:=ls) (i:=i) (e:=e) (by simpa using h);show a+(ls.set i (ls.getD i 0+e)).sum=(a::ls).sum+e;rw[ih,yy];lia
noncomputable def Py(ls:List Int)(lp:Int)(ts:List Tm)(y:Int):List Int:=ls.set (lp-1).toNat (ls.getD (lp-1).toNat 0+ONS ts y)
structure G5(ls:List Int)(lp:Int)(ts:List Tm):Prop where
 l0:1<=ls.length
 l1:ls.length<=20
 m:∀n∈ls,0<=n/\n<=1000
 p0:1<=lp
 p1:lp<=(ls.length:Int)
 f0:falls ts<=ls.getD (lp-1).toNat 0
 f1:falls ts<ls.sum
 ok:∀t∈ts,OkT t
 few:ts.length<=6
theorem G5.sum{ls:List Int}{lp:Int}(g:G5 ls lp ts):0<=ls.sum/\ls.sum<=20000:=by
 have:=mK g.m;have:=g.l1;lia
theorem rC{ls:List Int}{lp:Int}(g:G5 ls lp ts)(y:Int):(Py ls lp ts y).sum=AT ls.sum ts y:=by
 have p0:=g.p0;have p1:=g.p1;unfold Py AT;exact sum_set ⋯
theorem getD_mem'{ls:List Int}{i:Nat}(h:i<ls.length):ls.getD i 0∈ls:=by
 rw[yv,zh h];exact ji9 h
theorem rD{ls:List Int}{lp:Int}(g:G5 ls lp ts)(y:Int):∀n∈Py ls lp ts y,0<=n/\n<=1006:=by
 intro n hn;have p0:=g.p0;have p1:=g.p1;unfold Py at hn;rcases List.mem_or_eq_of_mem_set hn with z | z
 ·have:=g.m n z;omega
 ·have:=g.m _ (getD_mem' (ls:=ls) (i:=(lp-1).toNat) (by omega));have l:=Ro g.ok y;have u:=iU g.ok y;have:=g.few;have:=g.f0;omega
theorem rE{ls:List Int}{lp:Int}{y:Int}:(Py ls lp ts y).length=ls.length:=by
 unfold Py;rw[List.length_set]
theorem YX{b:Int}{k:Int}:UP b ts k=UP (b-1) ts k+k:=by
 unfold UP;rw[Int.sub_mul,jh6];lia
theorem qt{b:Int}(h:∀t∈ts,OkT t)(hf:falls ts<b){j k:Int}(jk:j<k):UP b ts j<UP b ts k:=by
 have:=Jy h (show falls ts<=b-1 by lia) (Qr jk);rw[YX (b:=b),YX (b:=b) (k:=k)];lia
theorem Mg{b:Int}(h:∀t∈ts,OkT t)(hf:falls ts<b){n k:Int}(u1:UP b ts k<=n)(u2:n<UP b ts (k+1)):k.natAbs<=n.natAbs:=by
 have z:=Le (base:=b-1) h;rw[YX] at u1 u2;rcases jk1 k 0 with c | c
 ·have:=Jy h (show falls ts<=b-1 by lia) (show k+1<=0 by lia);lia
 ·have:=Jy h (show falls ts<=b-1 by lia) c;lia
structure HN(bd:Int)(td:List Tm)(bm:Int)(tm:List Tm):Prop where
 fd:falls td<bd
 gd:bd<=1000
 fm:falls tm<bm
 gm:bm<=20
 okd:∀t∈td,OkT t
 okm:∀t∈tm,OkT t
 fwd:td.length<=6
 fwm:tm.length<=6
noncomputable def MYS(s bd:Int)(td:List Tm)(bm:Int)(tm:List Tm)(y:Int):Int:=s+UP bd td (UP bm tm y)
noncomputable def Vq(bd:Int)(td:List Tm)(bm:Int)(tm:List Tm)(y:Int):List Int:=(List.range (AT bm tm y).toNat).map fun i:Nat=>AT bd td (UP bm tm y+(i:Int))
theorem qj{b:Int}(h:∀t∈ts,OkT t)(f:Int):∀n:Nat,((List.range n).map fun i:Nat=>AT b ts (f+(i:Int))).sum=UP b ts (f+(n:Int))-UP b ts f
 | 0=>by simp
 | n+1=>by
  have s:=OJ (base:=b) h (f+(n:Int));rw[List.range_succ,jb7,List.sum_append,qj h f n,show f+((n+1:Nat):Int)=f+(n:Int)+1 by lia,s];simp;lia
theorem qH:0<=falls ts:=by
 unfold falls;lia
theorem Yd{b:Int}(h:∀t∈ts,OkT t)(hf:falls ts<b)(k:Int):1<=AT b ts k:=by
 have:=Ro h k;unfold AT;lia
theorem rP{b:Int}(h:∀t∈ts,OkT t)(few:ts.length<=6)(k:Int):AT b ts k<=b+6:=by
 have:=iU h k;unfold AT;lia
theorem q9{s bd:Int}{td:List Tm}{bm:Int}{tm:List Tm}(g:HN bd td bm tm)(y:Int):(Vq bd td bm tm y).sum=MYS s bd td bm tm (y+1)-MYS s bd td bm tm y:=by
 unfold Vq MYS;have p:=Yd g.okm g.fm y;rw[qj g.okd,show((AT bm tm y).toNat:Int)=AT bm tm y by lia,<-OJ g.okm];lia
theorem rA{bd:Int}{td:List Tm}{bm:Int}{tm:List Tm}(g:HN bd td bm tm)(y:Int):∀n∈Vq bd td bm tm y,0<=n/\n<=1006:=by
 intro n hn;unfold Vq at hn;obtain⟨i,_,rfl⟩:=vi.mp hn;have:=Yd g.okd g.fd (UP bm tm y+(i:Int));have:=rP g.okd g.fwd (b:=bd) (UP bm tm y+(i:Int));have:=g.gd;lia
theorem rB{bd:Int}{td:List Tm}{bm:Int}{tm:List Tm}(g:HN bd td bm tm)(y:Int):1<=(Vq bd td bm tm y).length/\(Vq bd td bm tm y).length<=26:=by
 unfold Vq;rw[js,jb4];have:=Yd g.okm g.fm y;have:=rP g.okm g.fwm (b:=bm) y;have:=g.gm;lia
inductive Bg where
 | sun (s:Int) (ls:List Int) (lp:Int) (ts:List Tm)
 | moon (s bd:Int) (td:List Tm) (bm:Int) (tm:List Tm)
noncomputable def Bg.Y:Bg->Int->Int
 | .sun s ls _ ts,y=>s+UP ls.sum ts y
 | .moon s bd td bm tm,y=>MYS s bd td bm tm y
noncomputable def Bg.L:Bg->Int->List Int
 | .sun _ ls lp ts,y=>Py ls lp ts y
 | .moon _ bd td bm tm,y=>Vq bd td bm tm y
def Bg.good:Bg->Prop
 | .sun _ ls lp ts=>G5 ls lp ts
 | .moon _ bd td bm tm=>HN bd td bm tm
noncomputable def Bg.st:Bg->Int
 | .sun s _ _ _=>s
 | .moon s _ _ _ _=>s
noncomputable def PS(l:List Int)(j:Nat):Int:=(l.take j).sum
theorem Lf{l:List Int}:PS l 0=0:=rfl
theorem J0{l:List Int}{j:Nat}(h:j<l.length):PS l (j+1)=PS l j+l.getD j 0:=by
 unfold PS;rw[ja4,yv,zh h,List.sum_append];simp
theorem Lh{l:List Int}(h:∀n∈l,0<=n){i:Nat}:∀{j:Nat},i<=j->j<=l.length->PS l i<=PS l j
 | 0,hij,_=>by
  have:i=0:=⋯;subst this;exact jj4 _
 | j+1,hij,hj=>by
  rcases Nat.lt_or_eq_of_le hij with c | c
  ·have:=Lh (i:=i) h (show i<=j by lia) ⋯;have e:=J0 (l:=l) (j:=j) ⋯;have:=h _ (getD_mem' (ls:=l) (i:=j) ⋯);lia
  ·subst c;exact jj4 _
theorem YZ{l:List Int}:PS l l.length=l.sum:=by
 unfold PS;rw[jc9]
theorem Bg.step{d:Bg}(g:d.good)(y:Int):d.Y (y+1)=d.Y y+(d.L y).sum:=by
 cases d with
 | sun s ls lp ts=>
  show s+UP ls.sum ts (y+1)=s+UP ls.sum ts y+(Py ls lp ts y).sum;rw[rC g y,OJ (G5.ok g)];lia
 | moon s bd td bm tm=>
  show MYS s bd td bm tm (y+1)=MYS s bd td bm tm y+(Vq bd td bm tm y).sum;rw[q9 (s:=s) g y];lia
theorem Bg.mem{d:Bg}(g:d.good)(y:Int):∀n∈d.L y,0<=n/\n<=1006:=by
 cases d with
 | sun s ls lp ts=>exact rD g y
 | moon s bd td bm tm=>exact rA g y
theorem Bg.len{d:Bg}(g:d.good)(y:Int):1<=(d.L y).length/\(d.L y).length<=26:=by
 cases d with
 | sun s ls lp ts=>
  show 1<=(Py ls lp ts y).length/\(Py ls lp ts y).length<=26;rw[rE];have:=G5.l0 g;have:=G5.l1 g;lia
 | moon s bd td bm tm=>exact rB g y
theorem Bg.lt{d:Bg}(g:d.good){j k:Int}(h:j<k):d.Y j<d.Y k:=by
 cases d with
 | sun s ls lp ts=>
  have:=qt (G5.ok g) (G5.f1 g) h;show s+UP ls.sum ts j<s+UP ls.sum ts k;lia
 | moon s bd td bm tm=>
  have:=qt (HN.okd g) (HN.fd g) (qt (HN.okm g) (HN.fm g) h);show s+UP bd td (UP bm tm j)<s+UP bd td (UP bm tm k);lia
theorem Bg.uniq{d:Bg}(g:d.good){n j k:Int}(h1:d.Y j<=n)(h2:n<d.Y (j+1))(h3:d.Y k<=n)(h4:n<d.Y (k+1)):j=k:=by
 rcases je6 j k with c | c | c
 ·rcases Int.lt_or_eq_of_le (show j+1<=k by lia) with z | z
  ·have:=Bg.lt g z;lia
  ·rw[z] at h2;lia
 ·exact c
 ·rcases Int.lt_or_eq_of_le (show k+1<=j by lia) with z | z
  ·have:=Bg.lt g z;lia
  ·rw[z] at h4;lia
theorem Bg.zero{d:Bg}(g:d.good):d.Y 0=d.st:=by
 cases d with
 | sun s ls lp ts=>
  show s+UP ls.sum ts 0=s;rw[Le (G5.ok g),jh5]
 | moon s bd td bm tm=>
  show s+UP bd td (UP bm tm 0)=s;rw[Le (HN.okm g),Le (HN.okd g),jh5]
structure IsD(d:Bg)(y m r:Int):Prop where
 m0:1<=m
 m1:m<=((d.L y).length:Int)
 r0:1<=r
 r1:r<=(d.L y).getD (m-1).toNat 0
noncomputable def J7(d:Bg)(y m r:Int):Int:=d.Y y+PS (d.L y) (m-1).toNat+r-1
theorem IsD.year{d:Bg}(g:d.good){y m r:Int}(h:IsD d y m r):d.Y y<=J7 d y m r/\J7 d y m r<d.Y (y+1):=by
 have m0:=h.m0;have m1:=h.m1;have r0:=h.r0;have r1:=h.r1;have nn:∀n∈d.L y,0<=n:=fun n hn=>(Bg.mem g y n hn).1;have a:=Lh nn (i:=0) (j:=(m-1).toNat) ⋯ ⋯;have b:=J0 (l:=d.L y) (j:=(m-1).toNat) ⋯;have c:=Lh nn (i:=(m-1).toNat+1) (j:=(d.L y).length) ⋯ (qg _);rw[YZ] at c;rw[Lf] at a;rw[Bg.step g];unfold J7;lia
theorem IsD.uniq{d:Bg}(g:d.good){y m r y' m' r':Int}(h:IsD d y m r)(h':IsD d y' m' r')(e:J7 d y m r=J7 d y' m' r'):y=y'/\m=m'/\r=r':=by
 have e1:=h.year g;have e2:=h'.year g;rw[<-e] at e2;have ey:=Bg.uniq g e1.1 e1.2 e2.1 e2.2;subst ey;have m0:=h.m0;have m1:=h.m1;have r0:=h.r0;have r1:=h.r1;have m0':=h'.m0;have m1':=h'.m1;have r0':=h'.r0;have r1':=h'.r1;have nn:∀n∈d.L y,0<=n:=fun n hn=>(Bg.mem g y n hn).1;have b:=J0 (l:=d.L y) (j:=(m-1).toNat) ⋯;have b':=J0 (l:=d.L y) (j:=(m'-1).toNat) ⋯;unfold J7 at e;have em:m=m':=by
  rcases je6 m m' with c | c | c
  ·have:=Lh nn (i:=(m-1).toNat+1) (j:=(m'-1).toNat) ⋯ ⋯;lia
  ·exact c
  ·have:=Lh nn (i:=(m'-1).toNat+1) (j:=(m-1).toNat) ⋯ ⋯;lia
 subst em;exact⟨rfl,rfl,⋯⟩
noncomputable def moT(td:List Tm)(bm:Int)(tm:List Tm):Int:=PER td/(Int.gcd (PER td) (UP bm tm (PER tm)):Int)
noncomputable def Bg.cy:Bg->Int×Int
 | .sun _ ls _ ts=>(PER ts,UP ls.sum ts (PER ts))
 | .moon _ bd td bm tm=>(PER tm*moT td bm tm,UP bd td (UP bm tm (PER tm)*moT td bm tm))
def Gt(T B:Int->Bool)(e:Int)(k:Nat)(d:Int):Prop:=∃j:Nat,j<k/\T (d-e*(j:Int))=true/\∀i:Nat,i<j->B (d-e*(i:Int))=false
def Fre(B:Int->Bool)(e:Int)(k:Nat)(d:Int):Prop:=∀i:Nat,i<k->B (d-e*(i:Int))=false
theorem Gt.one{T B:Int->Bool}{e:Int}:Gt T B e 1 d<->T d=true:=by
 constructor
 ·rintro⟨j,hj,ht,_⟩;have:j=0:=⋯
  subst this;simpa using ht
 ·intro h;exact⟨0,⋯,by simpa using h,fun i hi=>⋯⟩
theorem Fre.one{B:Int->Bool}{e:Int}:Fre B e 1 d<->B d=false:=by
 constructor
 ·intro h;have:=h 0 ⋯;simpa using this
 ·intro h i hi;have:i=0:=⋯
  subst this;simpa using h
theorem lcm_self{n:Int}(h:0<n):Eb n n=n:=by
 unfold Eb;have e:((Int.gcd n n:Nat):Int)=n:=by
  rw[Int.gcd_self];lia
 rw[e,Int.ediv_self ⋯,jh6]
structure Nx(on:Int->Bool)(r r':Int):Prop where
 o1:on r=true
 o2:on r'=true
 lt:r<r'
 no:∀x,r<x->x<r'->on x=false
theorem Nx.ge{on:Int->Bool}{r' x:Int}(h:Nx on r r')(hx:on x=true)(l:r<x):r'<=x:=by
 by_cases c:r'<=x
 ·exact c
 ·have:=h.no x l ⋯;rw[hx] at this;cases this
theorem Nx.le{on:Int->Bool}{r' x:Int}(h:Nx on r r')(hx:on x=true)(l:x<r'):x<=r:=by
 by_cases c:x<=r
 ·exact c
 ·have:=h.no x ⋯ l;rw[hx] at this;cases this
theorem Nx.un{on:Int->Bool}{r' u u' s:Int}(h:Nx on r r')(g:Nx on u u')(h1:r<=s)(h2:s<r')(g1:u<=s)(g2:s<u'):r=u/\r'=u':=by
 have a1:=h.le g.o1 ⋯;have a2:=g.le h.o1 ⋯;have b1:=h.ge g.o2 ⋯;have b2:=g.ge h.o2 ⋯;lia
theorem Bg.far{d:Bg}(g:d.good)(k:Nat):d.Y 0+(k:Int)<=d.Y (k:Int)/\d.Y (-(k:Int))<=d.Y 0-(k:Int):=by
 induction k with
 | zero=>exact⟨by simp,by simp⟩
 | succ k ih=>
  have a:=Bg.lt g (show (k:Int)<((k+1:Nat):Int) by lia);have b:=Bg.lt g (show -((k+1:Nat):Int)< -(k:Int) by lia);lia
theorem Bg.yb{d:Bg}(g:d.good){n y:Int}(h1:d.Y y<=n)(h2:n<d.Y (y+1)):y.natAbs<=(n-d.st).natAbs+1:=by
 rw[<-Bg.zero g];rcases Int.le_total 0 y with c | c
 ·have a:=(Bg.far g y.toNat).1;rw[show ((y.toNat:Nat):Int)=y by lia] at a;lia
 ·by_cases z:y=0
  ·subst z;lia
  ·have a:=(Bg.far g (-(y+1)).toNat).2;rw[show -(((-(y+1)).toNat:Nat):Int)=y+1 by lia] at a;lia
noncomputable abbrev Wd:=List Nat
noncomputable def kL:Wd:=[40]
noncomputable def kR:Wd:=[41]
noncomputable def opd(p:Wd):Wd:=p.dropWhile (· ==40)
noncomputable def core(p:Wd):Wd:=((opd p).reverse.dropWhile (· ==41)).reverse
noncomputable def Ib(p:Wd):List Wd:=List.replicate (p.length-(opd p).length) kL++[core p]++List.replicate ((opd p).length-(core p).length) kR
theorem PQ(p:Wd):(opd p).length<=p.length:=(jl4 _).length_le
theorem Rn(p:Wd):(core p).length<=(opd p).length:=by
 unfold core;rw[jj6];have:=(jl4 (· ==41) (l:=(opd p).reverse)).length_le
 rwa [jj6] at this
noncomputable def jn:List Wd->Wd
 | []=>[]
 | [w]=>w
 | w::y::r=>w++32::jn (y::r)
noncomputable def bA:List Wd->List Wd
 | []=>[]
 | p::r=>(40::p)::r
noncomputable def bB:List Wd->List Wd
 | []=>[]
 | [p]=>[p++[41]]
 | p::q::r=>p::bB (q::r)
theorem Jp{w:Wd}{r:List Wd}(h:r≠[]):jn (w::r)=w++32::jn r:=by
 cases r with
 | nil=>exact absurd rfl h
 | cons y r=>rfl
theorem pP:∀{ps qs:List Wd},ps≠[]->qs≠[]->jn (ps++qs)=jn ps++32::jn qs
 | [],_,h,_=>absurd rfl h
 | [w],qs,_,h=>by rw[List.singleton_append,Jp h];rfl
 | w::y::r,qs,_,h=>by
  rw[jg6,Jp (by simp),pP (by simp) h];show _=(w++32::jn (y::r))++_;simp
theorem ACY{ps:List Wd}(h:ps≠[]):jn (bA ps)=40::jn ps:=by
 match ps,h with
 | [w],_=>rfl
 | w::y::r,_=>rfl
theorem xW:∀{ps:List Wd},ps≠[]->jn (bB ps)=jn ps++[41]
 | [],h=>absurd rfl h
 | [w],_=>rfl
 | w::y::r,_=>by
  have ih:=xW (ps:=y::r) (by simp);have ne:bB (y::r)≠[]:=by cases r<;>simp[bB]
  show jn (w::bB (y::r))=_;rw[Jp ne,ih];show _=(w++32::jn (y::r))++[41];simp
theorem mO:∀{w:Wd} {ws:List Wd},(∀p∈w::ws,32∉p)->L2.spl 32 (jn (w::ws))=w::ws
 | w,[],h=>L2.Wu 32 w (h w qc)
 | w,y::r,h=>by
  show L2.spl 32 (w++32::jn (y::r))=_;rw[L2.Ra 32 w _ (h w qc),mO fun p hp=>h p (qf _ hp)]
theorem aQ{ps:List Wd}(h:ps≠[]):bA ps≠[]:=by cases ps<;>simp_all [bA]
theorem xr{ps:List Wd}(h:ps≠[]):bB ps≠[]:=by
 match ps,h with
 | [w],_=>simp[bB]
 | w::y::r,_=>simp[bB]
theorem qi:∀(ps:List Wd) {qs:List Wd},qs≠[]->bB (ps++qs)=ps++bB qs
 | [],_,_=>rfl
 | [p],q::r,_=>rfl
 | p::y::r,qs,h=>by
  have:=qi (y::r) h;rw[jg6] at this ⊢;show bB (p::y::(r++qs))=_;show p::bB (y::(r++qs))=_;rw[this];rfl
theorem Ni(p:Wd):opd (40::p)=opd p:=by simp[opd,jb1]
theorem HH(p:Wd):core (40::p)=core p:=by unfold core;rw[Ni]
theorem Xg{p q:Wd}(h:opd p≠[]):opd (p++q)=opd p++q:=by
 unfold opd at*
 induction p with
 | nil=>exact absurd rfl h
 | cons a p ih=>
  by_cases e:a=40
  ·subst e;simp only[jg6,jb1,beq_self_eq_true,if_true] at*
   exact ih h
  ·simp[jb1,e]
theorem Lb{p:Wd}(h:opd p≠[]):core (p++[41])=core p:=by
 unfold core;rw[Xg h,List.reverse_append];simp[jb1]
theorem Kv{p:Wd}(h:core p≠[]):opd p≠[]:=fun e=>h (by unfold core;rw[e];rfl)
theorem V0(p:Wd):Ib (40::p)=kL::Ib p:=by
 have:=PQ p;unfold Ib;rw[Ni,HH,qm,Nat.succ_sub this,Xs];rfl
theorem Vz{p:Wd}(h:core p≠[]):Ib (p++[41])=Ib p++[kR]:=by
 have h2:=Kv h;have:=Rn p;unfold Ib;rw[Lb h2,Xg h2,qq,qq,show p.length+[41].length-((opd p).length+[41].length)=p.length-(opd p).length by simp,show(opd p).length+[41].length-(core p).length=(opd p).length-(core p).length+1 by simp;lia,List.replicate_succ'];simp
theorem Pj{p:Wd}(h1:p.head?≠some 40)(h2:p.getLast?≠some 41):core p=p:=by
 have e1:opd p=p:=by
  cases p with
  | nil=>rfl
  | cons a r=>
   have:a≠40:=fun e=>h1 (by rw[e];rfl);simp[opd,jb1,this]
 unfold core;rw[e1];cases e:p.reverse with
 | nil=>rw[List.dropWhile_nil];rw[List.reverse_eq_nil_iff.mp e];rfl
 | cons a r=>
  have:a≠41:=fun z=>h2 (by rw[List.getLast?_eq_head?_reverse,e,z];rfl);have e2:(a::r).dropWhile (· ==41)=a::r:=by simp[jb1,this]
  rw[e2,<-e,List.reverse_reverse]
theorem jP{p:Wd}(h1:p.head?≠some 40)(h2:p.getLast?≠some 41):Ib p=[p]:=by
 have e1:opd p=p:=by
  cases p with
  | nil=>rfl
  | cons a r=>
   have:a≠40:=fun e=>h1 (by rw[e];rfl);simp[opd,jb1,this]
 unfold Ib;rw[Pj h1 h2,e1];simp
theorem gM{ps:List Wd}(h:ps≠[]):∃l p,ps=l++[p]:=⟨ps.dropLast,ps.getLast h,(List.dropLast_concat_getLast h).symm⟩
theorem iJ{l:List Wd}{p:Wd}:bB (l++[p])=l++[p++[41]]:=qi l (by simp)
noncomputable def tks(ps:List Wd):List Wd:=ps.flatMap Ib
theorem lO{w:Wd}{ps:List Wd}(h:Ib w=[w]):tks (w::ps)=w::tks ps:=by
 unfold tks;rw[jd4,h];rfl
theorem rW(ps qs:List Wd):tks (ps++qs)=tks ps++tks qs:=jg1
theorem lM{ps:List Wd}(ne:ps≠[])(co:∀p∈ps,core p≠[]):tks (bB (bA ps))=kL::(tks ps++[kR]):=by
 match ps,ne with
 | [f],_=>
  show Ib ((40::f)++[41])++[]=kL::((Ib f++[])++[kR]);rw[Vz (by rw[HH];exact co f qc),V0];simp
 | f::y::r,_=>
  obtain⟨l,p,e⟩:=gM (ps:=y::r) (by simp);have E:bB (bA (f::y::r))=(40::f)::(l++[p++[41]]):=by
   show(40::f)::bB (y::r)=_;rw[e,iJ]
  rw[E,e];unfold tks;rw[jd4,jg1,jd4,List.flatMap_nil,jd4,jg1,jd4,List.flatMap_nil,V0,Vz (co p (by rw[e];simp))];simp
theorem bG{ps:List Wd}(ne:ps≠[])(bl:∀p∈ps,32∉p):L2.spl 32 (jn ps)=ps:=by
 cases ps with
 | nil=>exact absurd rfl ne
 | cons w ws=>exact mO bl
theorem Yg{ws:List Wd}{q:Wd}(h:q∈bB (bA ws))(ne:ws≠[]):∃w∈ws,q=w\/q=40::w\/q=w++[41]\/q=40::w++[41]:=by
 have A:∀q∈bA ws,∃w∈ws,q=w\/q=40::w:=fun q hq=>by
  cases ws with
  | nil=>exact absurd rfl ne
  | cons f r=>
   rcases qh.mp hq with z | z
   ·exact⟨f,qc,.inr z⟩
   ·exact⟨q,qf _ z,.inl rfl⟩
 obtain⟨l,p,e⟩:=gM (aQ ne);rw[e] at A;rw[e,iJ] at h;rcases ko.mp h with z | z
 ·obtain⟨w,hw,h⟩:=A q (ji4 _ z);exact⟨w,hw,h.elim .inl fun h=>.inr (.inl h)⟩
 ·obtain⟨w,hw,h⟩:=A p (vt _ qc);rw[zv.mp z];rcases h with h | h
  ·exact⟨w,hw,.inr (.inr (.inl (by rw[h])))⟩
  ·exact⟨w,hw,.inr (.inr (.inr (by rw[h])))⟩
theorem Xw{c:Nat}(h:c≠32):∀{ws:List Wd},c∈jn ws->∃w∈ws,c∈w
 | [],m=>(nomatch m)
 | [w],m=>⟨w,qc,m⟩
 | w::x::r,m=>by
  rw[Jp (by simp)] at m;rcases ko.mp m with m | m
  ·exact⟨w,qc,m⟩
  ·rcases qh.mp m with m | m
   ·exact absurd m h
   ·obtain⟨y,hy,z⟩:=Xw h m;exact⟨y,qf _ hy,z⟩
end Fw
namespace Fw
open PySem L2 PyProof.Rows
noncomputable def top(i:Nat):Stmt:=PySem.Challenge.pw_feastwheel_k85_names_put_again.main.body.getD i (.Pass ⟨0,0,0,0⟩)
noncomputable abbrev jM:Stmt:=top 19
noncomputable abbrev Va:Stmt:=top 20
noncomputable abbrev ZR:Stmt:=top 21
noncomputable abbrev VM:Stmt:=top 22
noncomputable abbrev ZK:Stmt:=top 24
noncomputable abbrev XC:Stmt:=top 25
noncomputable abbrev ZW:Stmt:=top 26
noncomputable abbrev Mh:Stmt:=top 33
noncomputable abbrev jN:Stmt:=top 34
noncomputable abbrev bZ:Stmt:=top 35
noncomputable abbrev nP:Stmt:=top 36
noncomputable abbrev My:Stmt:=top 42
noncomputable abbrev bN:Stmt:=top 43
noncomputable abbrev yz:Stmt:=top 45
noncomputable abbrev ZS:Stmt:=top 47
noncomputable abbrev jO:Stmt:=top 48
noncomputable abbrev ZD:Stmt:=top 49
noncomputable abbrev Vb:Stmt:=top 53
noncomputable abbrev zF:Stmt:=top 54
noncomputable abbrev nO:Stmt:=top 55
noncomputable abbrev XD:Stmt:=top 58
noncomputable abbrev uF:Stmt:=top 59
noncomputable abbrev bQ:Stmt:=top 62
noncomputable abbrev bV:Stmt:=top 63
noncomputable abbrev jH:Stmt:=top 64
noncomputable abbrev XF:Stmt:=top 65
noncomputable abbrev bW:Stmt:=top 66
noncomputable abbrev jF:Stmt:=top 73
noncomputable abbrev W8:Stmt:=top 74
noncomputable abbrev jL:Stmt:=top 75
noncomputable abbrev SN:Stmt:=top 76
noncomputable abbrev Ot:Stmt:=top 77
noncomputable abbrev ZL:Stmt:=top 78
noncomputable abbrev Gj:Stmt:=inClass (top 79) 0
noncomputable abbrev XQ:Stmt:=inClass (top 79) 1
noncomputable abbrev Sx:Stmt:=inClass (top 79) 2
noncomputable abbrev Oz:Stmt:=inClass (top 79) 3
noncomputable abbrev Sy:Stmt:=inClass (top 79) 4
noncomputable abbrev Qo:Stmt:=top 86
noncomputable abbrev Gs:Stmt:=inClass (top 87) 0
noncomputable abbrev Ow:Stmt:=inClass (top 87) 1
noncomputable abbrev Vc:Stmt:=inClass (top 87) 2
noncomputable abbrev Vd:Stmt:=inClass (top 87) 3
noncomputable abbrev ZX:Stmt:=inClass (top 87) 4
noncomputable abbrev VL:Stmt:=top 88
noncomputable abbrev Qw:Stmt:=inClass (top 89) 0
noncomputable abbrev M7:Stmt:=inClass (top 89) 1
noncomputable abbrev Su:Stmt:=inClass (top 89) 2
noncomputable abbrev Sv:Stmt:=inClass (top 89) 3
noncomputable abbrev XN:Stmt:=inClass (top 89) 4
noncomputable abbrev SM:Stmt:=top 91
noncomputable abbrev ZF:Stmt:=top 92
noncomputable abbrev W9:Stmt:=top 93
noncomputable abbrev bO:Stmt:=top 94
noncomputable abbrev ZJ:Stmt:=top 95
noncomputable abbrev Qp:Stmt:=top 96
noncomputable abbrev NK:Stmt:=inClass (top 98) 0
noncomputable abbrev O8:Stmt:=inClass (top 98) 1
noncomputable abbrev S7:Stmt:=inClass (top 98) 3
noncomputable abbrev Qn:Stmt:=top 110
noncomputable abbrev Qs:Stmt:=top 111
noncomputable abbrev Sg:Stmt:=top 112
noncomputable abbrev XJ:Stmt:=top 113
noncomputable abbrev bY:Stmt:=top 115
noncomputable abbrev yw:Stmt:=top 116
noncomputable abbrev Hz:Stmt:=inClass (top 124) 0
noncomputable abbrev Ox:Stmt:=inClass (top 124) 1
noncomputable abbrev KQ:Stmt:=inClass (top 124) 3
noncomputable abbrev Jj:Stmt:=inClass (top 124) 4
noncomputable abbrev S9:Stmt:=inClass (top 125) 0
noncomputable abbrev Vh:Stmt:=inClass (top 126) 0
noncomputable abbrev ZV:Stmt:=top 127
noncomputable abbrev Qx:Stmt:=inClass (top 128) 0
noncomputable abbrev VG:Stmt:=top 129
noncomputable abbrev XH:Stmt:=top 130
noncomputable abbrev G8:Stmt:=inClass (top 131) 0
noncomputable abbrev Sq:Stmt:=inClass (top 132) 0
noncomputable abbrev Qz:Stmt:=inClass (top 133) 0
noncomputable abbrev M8:Stmt:=inClass (top 134) 0
noncomputable abbrev S8:Stmt:=inClass (top 135) 0
noncomputable abbrev M3:Stmt:=inClass (top 136) 0
noncomputable abbrev O6:Stmt:=inClass (top 137) 0
noncomputable abbrev Qt:Stmt:=inClass (top 138) 0
noncomputable abbrev Ov:Stmt:=inClass (top 139) 0
noncomputable abbrev Qv:Stmt:=inClass (top 140) 0
noncomputable abbrev Qu:Stmt:=inClass (top 141) 0
noncomputable abbrev S5:Stmt:=inClass (top 142) 0
noncomputable abbrev O7:Stmt:=inClass (top 143) 0
noncomputable abbrev M6:Stmt:=inClass (top 147) 0
noncomputable abbrev Vg:Stmt:=inClass (top 147) 1
noncomputable abbrev Vf:Stmt:=inClass (top 147) 2
noncomputable abbrev bL:Stmt:=top 148
noncomputable abbrev Y8:Stmt:=top 149
noncomputable abbrev VJ:Stmt:=top 150
noncomputable abbrev VH:Stmt:=top 151
noncomputable abbrev Y9:Stmt:=top 152
noncomputable abbrev ZC:Stmt:=top 153
noncomputable abbrev Qm:Stmt:=top 154
noncomputable abbrev W7:Stmt:=top 155
noncomputable abbrev KN:Stmt:=top 156
noncomputable abbrev JF:Stmt:=top 157
noncomputable abbrev KJ:Stmt:=top 158
noncomputable abbrev ZP:Stmt:=top 159
noncomputable abbrev ZM:Stmt:=top 160
noncomputable abbrev bR:Stmt:=top 161
noncomputable abbrev ZG:Stmt:=top 162
noncomputable abbrev Y7:Stmt:=top 169
noncomputable abbrev jG:Stmt:=top 172
noncomputable abbrev Sh:Stmt:=top 173
noncomputable abbrev Y5:Stmt:=top 174
noncomputable abbrev Y6:Stmt:=top 175
noncomputable abbrev W6:Stmt:=top 177
noncomputable abbrev Y4:Stmt:=top 184
noncomputable abbrev SJ:Stmt:=top 187
noncomputable abbrev jK:Stmt:=top 188
noncomputable abbrev ZQ:Stmt:=top 189
noncomputable abbrev VN:Stmt:=top 190
noncomputable abbrev zA:Stmt:=top 191
noncomputable abbrev Qy:Stmt:=inClass (top 192) 0
noncomputable abbrev bc:Stmt:=inClass (top 192) 1
noncomputable abbrev VR:Stmt:=top 194
noncomputable abbrev bU:Stmt:=top 195
noncomputable abbrev Lj:Stmt:=top 196
noncomputable abbrev Qq:Stmt:=top 197
noncomputable abbrev Sd:Stmt:=top 198
noncomputable abbrev Ou:Stmt:=top 199
noncomputable abbrev Mz:Stmt:=top 200
noncomputable abbrev SX:Stmt:=top 201
noncomputable abbrev jJ:Stmt:=top 202
noncomputable abbrev VP:Stmt:=top 203
noncomputable abbrev fJ:Stmt:=top 204
noncomputable abbrev Ve:Stmt:=inClass (top 83) 0
noncomputable abbrev Sw:Stmt:=inClass (top 83) 0
def nG(K:Fr):Sp:=fun vs H Q _=>Ex3 fun(a:Addr) (ns:List Int) (k:Int)=>An5 (vs=[.ref a,.int k]) (SqL K H a (ns.map V.int)) (0<=k) (ns.length<=63) (Q (.int (ns.getD k.toNat 0)) H)
def sI:Sp:=fun vs H Q _=>∃i:Int,vs=[.int i]/\Q (.bl true) H
variable{K:Fr}{H:Hp}{Q:VK}{E:XK}
theorem fW{a:Addr}{ns:List Int}{k:Int}(hS:SqL K H a (ns.map V.int))(hl:ns.length<=63)(hk:0<=k)(h:Q (.int (ns.getD k.toNat 0)) H):nG K ([.ref a,.int k]++[]) H Q E:=⟨a,ns,k,rfl,hS,hk,hl,h⟩
variable{i:Int}
theorem Zb(h:Q (.bl true) H):sI ([.int i]++[]) H Q E:=⟨i,rfl,h⟩
theorem wI{ns:List Int}{k:Int}(h0:0<=k)(h:k<(ns.length:Int)):atI (ns.map V.int) k=some (.int (ns.getD k.toNat 0)):=by
 have hk:k.toNat<ns.length:=⋯;have ek:k=((k.toNat:Nat):Int):=⋯;have q:atI (ns.map V.int) ((k.toNat:Nat):Int)=some (.int ns[k.toNat]):=Dz (by rw[xa,zh hk]<;>rfl);rw[<-ek] at q;rw[q];simp[List.getD,hk]
theorem bt_of{x:Int}(h1: -1000000000000000000000000000000000000000000000000000000000000<=x)(h2:x<=1000000000000000000000000000000000000000000000000000000000000):Bt 200 x:=by
 unfold Bt;have:(2:Nat)^200=1606938044258990275541962092341162602522202993782792835301376:=nofun;lia
theorem Wn{a b:V}:([a,b]:List V).length<=sizeLine:=by show 2<=sizeLine;decide
variable{y:V}
theorem at0{x:V}:atI [x,y] 0=some x:=rfl
theorem at1{x:V}:atI [x,y] 1=some y:=rfl
local macro_rules | `(tactic| symm)=> `(tactic| (repeat (first | fail "r" | ((with_reducible refine' Fw.fW ?hc1 ?hc2 ?hc3 ?_);(case hc1=>assumption);(case hc2=>assumption);(case hc3=>decide)) | with_reducible refine Fw.Zb ?_)))
local macro_rules | `(tactic| exists $e)=> `(tactic| (refine $e;symm))
def mX:Sp:=fun vs H Q _=>∃n:Int,An3 (vs=[.int n]) (1<=n) (Q .non H)
def ADL:Sp:=fun vs H Q _=>Ex2 fun(a b:Int)=>An4 (vs=[.int a,.int b]) (Bt 500 a) (Bt 500 b) (∀(p:Addr) (u v g:Int) (H':Hp),BP H H'->H' p=some (.tup [.int u,.int v,.int g])->Eqn a b u v g->Q (.ref p) H')
def jA:Sp:=fun vs H Q _=>Ex2 fun(a b:Int)=>An4 (vs=[.int a,.int b]) (Bt 500 a) (Bt 500 b) (∀H',BP H H'->Q (.int (Int.gcd a b:Int)) H')
def nF:Sp:=fun vs H Q _=>Ex2 fun(a b:Int)=>An6 (vs=[.int a,.int b]) (0<a) (0<b) (Bt 500 a) (Bt 500 b) (∀H',BP H H'->Q (.int (Eb a b)) H')
theorem AAt{x z:V}:atI [x,y,z] 0=some x:=rfl
theorem AAs{x z:V}:atI [x,y,z] 1=some y:=rfl
theorem aU{x z:V}:atI [x,y,z] 2=some z:=rfl
theorem three{a b c:V}:([a,b,c]:List V).length<=sizeLine:=by show 3<=sizeLine;decide
theorem two{a b:V}:([a,b]:List V).length<=sizeLine:=by show 2<=sizeLine;decide
theorem iI{k m:Nat}{x y:Int}(h:Bt k y)(l:x.natAbs<=4*y.natAbs+4)(hk:k+4<=m):Bt m x:=by
 unfold Bt at*
 have p:2^(k+4)<=2^m:=vb nofun hk;have e:2^(k+4)=2^k*16:=by rw[jo3]
 lia
theorem AAp{k m:Nat}{x y z:Int}(h:Bt k y)(h':Bt k z)(l:x.natAbs<=y.natAbs+z.natAbs+4)(hk:k+4<=m):Bt m x:=by
 unfold Bt at*
 have p:2^(k+4)<=2^m:=vb nofun hk;have e:2^(k+4)=2^k*16:=by rw[jo3]
 lia
theorem CJ{k:Nat}{x:Int}(h0:0<=x)(h1:x<18446744073709551616)(hk:64<=k):Bt k x:=Bt.mono (k:=64) (by unfold Bt;lia) hk
def yj:Sp:=fun vs H Q _=>∃n:Int,An4 (vs=[.int n]) (0<=n) (n<=1000000) (Q (.int ((2^n.toNat-1:Nat):Int)) H)
def ABo(K:Fr):Sp:=fun vs H Q _=>Ex4 fun(a:Addr) (n d:Int) (b:Nat)=>An4 (vs=[.ref a,.int d]) (SqT K H a [.int n,.int (b:Int)]) (0<n) (Q (.bl (On n b d)) H)
variable{b:Nat}
theorem Jw{n:Nat}(h:b<2^n):Bt n (b:Int):=by unfold Bt;rw[Int.natAbs_natCast];exact h
theorem zb(b k:Nat):decide (V.int (((b:Nat):Int)/2^k%2)=V.int 1)=b.testBit k:=by
 rw[<-ACQ,ja8];simp
theorem bt1:Bt 1 1:=by unfold Bt;decide
variable{d:Int}
theorem YQ{k:Nat}{n:Int}(h:Bt k d)(hn:0<n):Bt k (d/n):=by
 refine h.le ?_;rcases jk1 d 0 with c | c
 ·have h1:d/n<0:=Int.ediv_neg_of_neg_of_pos c hn;have h2:d<=d/n:=(Int.le_ediv_iff_mul_le hn).mpr (by
   have:=Int.mul_le_mul_of_nonpos_left (show d<=0 by lia) (show 1<=n by lia);lia)
  lia
 ·have h1:0<=d/n:=jk5 c ⋯;have h2:d/n<=d:=ji8 n c;lia
theorem _root_.L2.Bt.sub{k:Nat}{x y:Int}(h:Bt k x)(g:Bt k y):Bt (k+1) (x-y):=by
 have:=h.add g.neg
 rwa [<-Int.sub_eq_add_neg] at this
theorem zJ{f:Int->Int->V}{j:Int}(h:Q (f i j) H)(a:0<=i:=by lia)(b:i<18446744073709551616:=by lia)(c:0<=j:=by lia)(d:j<18446744073709551616:=by lia):rI aW f (.int i) (.int j) H Q:=Ep ⟨64,64,CJ a b nofun,CJ c d nofun,nofun⟩ h
def ir:Sp:=fun vs H Q _=>∃n:Int,An3 (vs=[.int n]) (n<=150000) (Q .non H)
def jB(K:Fr):Sp:=fun vs H Q _=>Ex4 fun(a:Addr) (n z:Int) (b:Nat)=>An8 (vs=[.ref a,.int z]) (SqT K H a [.int n,.int (b:Int)]) (0<n) (n<=300000) (b<2^n.toNat) (0<z) (z<=150000) (∀c:Nat,Jc n.toNat b z.toNat c->Q (.int (c:Int)) H)
theorem wL(b k:Nat):decide (V.int (Builtin.bitAnd ((b:Int)/2^k) 1)=V.int 1)=b.testBit k:=by
 rw[KH,show(1:Int)=((1:Nat):Int) from rfl,Fe,Nat.and_one_is_mod,<-zb]
 congr 1
 rw[KH];have e:(((b >>> k:Nat):Int)%2)=((b >>> k%2:Nat):Int):=⋯;rw[e];rfl
noncomputable def Tj(b k:Nat):List V:=(List.range k).map fun j=>V.int ((pc b j:Nat):Int)
theorem Nf(b k:Nat):(Tj b k).length=k:=by unfold Tj;simp
theorem Ng{k j:Nat}(h:j<k):(Tj b k)[j]?=some (V.int ((pc b j:Nat):Int)):=by
 unfold Tj;rw[xa,jn9 h];rfl
theorem jV(k:Nat):(List.replicate k [V.int 0]).flatten=Tj 0 k:=by
 unfold Tj;have:(fun j=>V.int ((pc 0 j:Nat):Int))=fun _=>V.int 0:=by
  funext j
  unfold pc;simp
 rw[this,List.map_const',jb4]
 induction k with
 | zero=>rfl
 | succ k ih=>rw[Xs,jb3,ih,Xs];rfl
theorem ou{k p:Nat}(h:p/256<k):(Tj b k).set (p/256) (V.int ((pc b (p/256) ||| 2^(p%256):Nat):Int))=Tj (b ||| 2^p) k:=by
 refine List.ext_getElem? fun j=>?_;rw[List.getElem?_set];by_cases hj:j<k
 ·rw[Ng hj];by_cases c:p/256=j
  ·rw[xo c,xo (by rw[Nf];lia)];subst c;rw[Ng hj,o7]
  ·rw[xp c,Ng hj,o6 (Ne.symm c)]
 ·have e:∀b,(Tj b k)[j]?=none:=fun b=>jh9 (by rw[Nf];lia);rw[xp ⋯,e,e]
def iu(K:Fr):Sp:=fun vs H Q _=>Ex3 fun(a:Addr) (ds:List Int) (n:Int)=>An5 (vs=[.int n,.ref a]) (SqL K H a (ds.map V.int)) (0<n) (n<=150000) (∀(p:Addr) (b:Nat) (H':Hp),BP H H'->H' p=some (.tup [.int n,.int (b:Int)])->RB n ds b->Q (.ref p) H')
theorem uO{n:Int}(hn:0<n)(hb:b<2^n.toNat):b%2^(256*((n/256+1).toNat))=b:=
 jg8 (zk hb (vb nofun ⋯))
structure Bo(f:Bool->Bool->Bool)(n1:Int)(b1:Nat)(n2:Int)(b2:Nat)(z:Int)(c:Nat):Prop where
 lt:c<2^z.toNat
 bit:∀i,i<z.toNat->c.testBit i=f (b1.testBit (i%n1.toNat)) (b2.testBit (i%n2.toNat))
def sZ(K:Fr):Sp:=fun vs H Q _=>Ex3 fun(a:Addr) (n:Int) (b:Nat)=>An6 (vs=[.ref a]) (SqT K H a [.int n,.int (b:Int)]) (0<n) (n<=150000) (b<2^n.toNat) (∀(p:Addr) (c:Nat),H p=none->c<2^n.toNat->(∀i,i<n.toNat->c.testBit i=!b.testBit i)->Q (.ref p) (upd H p (.tup [.int n,.int (c:Int)])))
noncomputable def dl(b m:Nat):List Nat:=(List.range m).filter fun i=>b.testBit i
def yc(K:Fr):Sp:=fun vs H Q _=>Ex5 fun(a:Addr) (n f e:Int) (b:Nat)=>An8 (vs=[.ref a,.int f,.int e]) (SqT K H a [.int n,.int (b:Int)]) (0<n) (n<=150000) (b<2^n.toNat) (Bt 250 f) (Bt 250 e) (∀H',BP H H'->Q (.int (CC n b e-CC n b f)) H')
def yW:Sp:=fun vs H Q _=>Ex2 fun(b n:Nat)=>An4 (vs=[.int (b:Int)]) (b<2^n) (n<=150000) (∀H',BP H H'->Q (.int ((cnt b n:Nat):Int)) H')
def uB(K:Fr):Sp:=fun vs H Q _=>Ex4 fun(a:Addr) (n d:Int) (b:Nat)=>An7 (vs=[.ref a,.int d]) (SqT K H a [.int n,.int (b:Int)]) (0<n) (n<=150000) (b<2^n.toNat) (Bt 260 d) (∀H',BP H H'->Q (.int (CC n b d)) H')
variable{c:Nat}
theorem gh{w z f:Nat}(w0:0<w)(hf:f<2^z)(S:Jc (2*w) (2^w-1) z c)(k:Nat):Ev w (f/2^k) ((f/2^k) &&& c):=fun i=>by
 rw[ja9];have fl:f/2^k<2^z:=va (Nat.div_le_self _ _) hf;by_cases h:i<z
 ·rw[S.bit i h,ji1]
 ·rw[high fl ⋯];rfl
structure RC(K:Fr)(CR C:Addr):Prop where
 cl:Cls K C
 k:Cp K C "kept"
 m:Cp K C "made_of"
 w:Cp K C "words"
 ca:PySem.W.findIn K (.ref C) "__class__"=some (some (.builtin "object.__class__"))
 ob:PySem.W.mroIn K C (.type "object")=some true
 isr:PySem.W.kitOne K (.ref C) (.ref CR)=some true
noncomputable def rF(p pm pw:Addr):List (Str×V):=[("kept",.ref p),("made_of",.ref pm),("words",.ref pw)]
structure Jd(K:Fr)(CR:Addr)(CL:List Addr)(H:Hp)(x:Addr)(n:Int)(b:Nat):Prop where
 ex:∃C dx p pm pw,C∈CL/\RC K CR C/\H x=some (.ins C dx (rF p pm pw))/\H p=some (.tup [.int n,.int (b:Int)])
 n0:0<n
 n1:n<=150000
 lt:b<2^n.toNat
variable{x:Addr}{H':Hp}
theorem Jd.same{CR:Addr}{CL:List Addr}{n:Int}(R:Jd K CR CL H x n b)(s:BP H H'):Jd K CR CL H' x n b:=by
 obtain⟨C,dx,p,pm,pw,h1,h2,h3,h4⟩:=R.ex;exact⟨⟨C,dx,p,pm,pw,h1,h2,s _ _ h3,s _ _ h4⟩,R.n0,R.n1,R.lt⟩
def KB(x:Addr)(H H':Hp):Prop:=∀y o,y≠x->H y=some o->H' y=some o
variable{H1:Hp}
theorem KB.pre(s:BP H H1)(k:KB x H1 H'):KB x H H':=fun y o h e=>k y o h (s _ _ e)
variable{o:HO}
theorem V6{dx:Addr}{o':HO}(hx:H1 x=none)(hd:H1 dx=none)(ne:dx≠x)(k:KB x (upd (upd H1 dx o) x o') H'):BP H1 H':=fun y u e=>by
 have y1:y≠x:=BX e hx;have y2:y≠dx:=BX e hd;exact k y u y1 (by rw[Ax y1,Ax y2];exact e)
def Wy(K:Fr)(CR:Addr):Sp:=fun vs H Q _=>Ex6 fun(x p pm pw C dx:Addr)=>An4 (vs=[.ref x,.ref p,.ref pm,.ref pw]) (H x=some (.ins C dx [])) (RC K CR C) (∀H',KB x H H'->H' x=some (.ins C dx (rF p pm pw))->Q .non H')
def K8(K:Fr)(CR:Addr)(CL:List Addr):Sp:=fun vs H Q _=>Ex3 fun(x:Addr) (n:Int) (b:Nat)=>An3 (vs=[.ref x]) (Jd K CR CL H x n b) (∀p,H p=some (.tup [.int n,.int (b:Int)])->Q (.ref p) H)
def eQ(K:Fr)(CR:Addr)(CL:List Addr):Sp:=fun vs H Q _=>Ex4 fun(x:Addr) (n d:Int) (b:Nat)=>An3 (vs=[.ref x,.int d]) (Jd K CR CL H x n b) (Q (.bl (On n b d)) H)
structure ACp(K:Fr)(H:Hp)(a1 a2:Addr)(n1 n2:Int)(b1 b2:Nat):Prop where
 s1:SqT K H a1 [.int n1,.int (b1:Int)]
 s2:SqT K H a2 [.int n2,.int (b2:Int)]
 p1:0<n1
 p2:0<n2
 l1:n1<=150000
 l2:n2<=150000
 k1:b1<2^n1.toNat
 k2:b2<2^n2.toNat
def ADM(K:Fr):Sp:=fun vs H Q _=>Ex6 fun(a1 a2:Addr) (n1 n2:Int) (b1 b2:Nat)=>An9 (vs=[.ref a1,.ref a2]) (SqT K H a1 [.int n1,.int (b1:Int)]) (SqT K H a2 [.int n2,.int (b2:Int)]) (0<n1) (0<n2) (n1<=150000) (n2<=150000) (Eb n1 n2<=150000) (∀H',BP H H'->Q (.int (Eb n1 n2)) H')
def Ys(K:Fr):Sp:=fun vs H Q _=>Ex4 fun(a:Addr) (n z:Int) (b:Nat)=>An9 (vs=[.ref a,.int z]) (SqT K H a [.int n,.int (b:Int)]) (0<n) (n<=150000) (b<2^n.toNat) (0<z) (z<=150000) (n∣z) (∀(p:Addr) (c:Nat),H p=none->Jc n.toNat b z.toNat c->Q (.ref p) (upd H p (.tup [.int z,.int (c:Int)])))
def tO(K:Fr):Sp:=fun vs H Q _=>Ex4 fun(a:Addr) (n num:Int) (b:Nat)=>An6 (vs=[.ref a,.int num]) (SqT K H a [.int n,.int (b:Int)]) (0<n) (n<=150000) (b<2^n.toNat) (∀p,H p=none->Q (.ref p) (upd H p (.tup [.int n,.int ((lat n.toNat b (num%n).toNat:Nat):Int)])))
theorem gU{n z:Int}(n0:0<n)(z0:0<z)(h:n∣z):Eb n z=z:=by
 have f:=DP n0 z0;have h1:Eb n z∣z:=f.2.2.2.2.1 _ h (Int.dvd_refl _);exact Int.dvd_antisymm ⋯ ⋯ h1 f.2.2.1
theorem Jd.one{CR CE:Addr}{n:Int}(R:Jd K CR [CE] H x n b):∃dx fs,H x=some (.ins CE dx fs)/\fs.lookup (Str.ofString "turn")=none:=by
 obtain⟨C,dx,p,pm,pw,h1,h2,h3,h4⟩:=R.ex;rw[zv.mp h1] at h3;exact⟨dx,_,h3,rfl⟩
noncomputable abbrev Rel:=Int->Nat->Int->Nat->Int->Nat->Prop
theorem Bo.uniq{f:Bool->Bool->Bool}{n1 n2 z:Int}{b1 b2 c':Nat}(B:Bo f n1 b1 n2 b2 z c)(B':Bo f n1 b1 n2 b2 z c'):c=c':=OD B.lt B'.lt fun i hi=>by rw[B.bit i hi,B'.bit i hi]
theorem RB.uniq{n:Int}{ds:List Int}{b':Nat}(n0:0<n)(B:RB n ds b)(B':RB n ds b'):b=b':=OD B.lt B'.lt fun i hi=>by
 have e:=(B.bit (i:Int)).trans (B'.bit (i:Int)).symm;unfold On at e
 rwa [jl7 ⋯ ⋯,xc] at e
def OtR(n:Int)(b c:Nat):Prop:=c<2^n.toNat/\∀i,i<n.toNat->c.testBit i=!b.testBit i
theorem OtR.uniq{n:Int}{c':Nat}(h:OtR n b c)(g:OtR n b c'):c=c':=OD h.1 g.1 fun i hi=>by rw[h.2 i hi,g.2 i hi]
noncomputable def ltr(n:Int)(b:Nat)(s:Int):Nat:=lat n.toNat b (s%n).toNat
inductive U5(J:Bool->Bool->Bool)(n:Int):Nat->Nat->Int->Nat->Prop
 | stop {t f:Nat} {s:Int}:n<=(s.natAbs:Int)->U5 J n t f s t
 | step {t f x y z r:Nat} {s:Int}:(s.natAbs:Int)<n->Bo and n (ltr n t s) n f n x->Bo J n t n x n y->Bo and n f n (ltr n f s) n z->U5 J n y z (2*s) r->U5 J n t f s r
theorem U5.uniq{J:Bool->Bool->Bool}{n:Int}{t f:Nat}{s:Int}{r r':Nat}(h:U5 J n t f s r):U5 J n t f s r'->r=r':=by
 induction h with
 | stop a=>
  intro g;cases g with
  | stop=>rfl
  | step b=>lia
 | step a B1 B2 B3 _ ih=>
  intro g;cases g with
  | stop b=>lia
  | step _ C1 C2 C3 h=>
   cases B1.uniq C1;cases B2.uniq C2;cases B3.uniq C3;exact ih h
def GR(J:Bool->Bool->Bool)(n:Int)(b c:Nat)(e:Int)(g:Nat):Prop:=∃o,OtR n c o/\U5 J n b o e g
theorem GR.uniq{J:Bool->Bool->Bool}{n e:Int}{g g':Nat}:GR J n b c e g->GR J n b c e g'->g=g':=fun⟨_,h1,h2⟩ ⟨_,g1,g2⟩=>by
 cases h1.uniq g1;exact h2.uniq g2
def UpR(e:Int):Rel:=fun n1 b1 n2 b2 z c=>∃r s g,Jc n1.toNat b1 z.toNat r/\Jc n2.toNat b2 z.toNat s/\GR or z s (ltr z r e) e g/\Bo and z r z g z c
theorem UpR.uniq{e n1 n2 z:Int}{b1 b2 c':Nat}:UpR e n1 b1 n2 b2 z c->UpR e n1 b1 n2 b2 z c'->c=c':=fun⟨_,_,_,h1,h2,h3,h4⟩ ⟨_,_,_,g1,g2,g3,g4⟩=>by
 cases h1.uniq g1;cases h2.uniq g2;cases h3.uniq g3;exact h4.uniq g4
noncomputable def bn(a b:Bool):Bool:=a&&!b
section
variable(K:Fr)
def spJ(R:Rel):Sp:=fun vs H Q _=>Ex6 fun(a1 a2:Addr) (n1 n2:Int) (b1 b2:Nat)=>An4 (vs=[.ref a1,.ref a2]) (ACp K H a1 a2 n1 n2 b1 b2) (Eb n1 n2<=150000) (∀(p:Addr) (c:Nat) (H':Hp),BP H H'->H' p=some (.tup [.int (Eb n1 n2),.int (c:Int)])->c<2^(Eb n1 n2).toNat->R n1 b1 n2 b2 (Eb n1 n2) c->Q (.ref p) H')
def ADK(mg:Str->Option Value)(L:List (Str×Sp)):Sp:=fun vs H Q _=>Ex9 fun(a1 a2 f:Addr) (n e:Int) (b c:Nat) (x:Str) (J:Bool->Bool->Bool)=>ADH (vs=[.ref a1,.ref a2,.int e,.ref f]) ((x,spJ K (Bo J))∈L) (mg x=some (.ref f)) (H a1=some (.tup [.int n,.int (b:Int)])) (SqT K H a2 [.int n,.int (c:Int)]) (0<n) (n<=150000) (b<2^n.toNat) (c<2^n.toNat) (e=1\/e= -1) (∀(p:Addr) (g:Nat) (H':Hp),BP H H'->H' p=some (.tup [.int n,.int (g:Int)])->g<2^n.toNat->GR J n b c e g->Q (.ref p) H')
end
noncomputable def tmV(t:Tm):List V:=[.int t.1,.int t.2.1,.int t.2.2.1,.int t.2.2.2]
inductive Tms(H:Hp):List V->List Tm->Prop
 | nil:Tms H [] []
 | cons {p:Addr} {t:Tm} {vs:List V} {ts:List Tm}:H p=some (.tup (tmV t))->Tms H vs ts->Tms H (.ref p::vs) (t::ts)
theorem Tms.same(s:BP H H'):∀{vs:List V} {ts:List Tm},Tms H vs ts->Tms H' vs ts
 | _,_,.nil=>.nil
 | _,_,.cons h t=>.cons (s _ _ h) (Tms.same s t)
theorem Tms.len:∀{vs:List V} {ts:List Tm},Tms H vs ts->vs.length=ts.length
 | _,_,.nil=>rfl
 | _,_,.cons _ t=>by rw[qm,qm,Tms.len t]
theorem Tms.mem{x:V}:∀{vs:List V} {ts:List Tm},Tms H vs ts->x∈vs->∃p t,x=.ref p/\t∈ts/\H p=some (.tup (tmV t))
 | _,_,.nil,h=>nomatch h
 | _,_,.cons g r,h=>by
  rcases qh.mp h with e | e
  ·exact⟨_,_,e,qc,g⟩
  ·obtain⟨p,t,e1,e2,e3⟩:=Tms.mem r e;exact⟨p,t,e1,qf _ e2,e3⟩
theorem Tms.at:∀{vs:List V} {ts:List Tm},Tms H vs ts->∀{i:Nat} {x:V},vs[i]?=some x->∃p t,x=.ref p/\ts[i]?=some t/\H p=some (.tup (tmV t))
 | _,_,.nil,i,x,h=>by simp at h
 | _,_,.cons g r,0,x,h=>by
  injection h with h;exact⟨_,_,h.symm,rfl,g⟩
 | _,_,.cons g r,i+1,x,h=>Tms.at r (i:=i) h
noncomputable def U7(H:Hp)(v:V):Option Tm:=match v with
 | .ref p=>match H p with
  | some (.tup [.int s,.int a,.int b,.int n])=>some (s,a,b,n)
  | _=>none
 | _=>none
theorem Jh{p:Addr}{t:Tm}(h:H p=some (.tup (tmV t))):U7 H (.ref p)=some t:=by
 unfold U7 tmV at*
 simp only[h]
theorem Tms.fm(g:Tm->Bool)(f:Tm->V):∀{vs:List V} {ts:List Tm},Tms H vs ts->(vs.filter fun v=>((U7 H v).map g).getD false).map (fun v=>((U7 H v).map f).getD .non)=(ts.filter g).map f
 | _,_,.nil=>rfl
 | _,_,.cons (p:=p) (t:=t) h r=>by
  rw[jg7,jg7,Jh h];show(if g t=true then _ else _:List V).map _=_;by_cases c:g t=true
  ·rw[xo c,xo c,qo,qo,Tms.fm g f r,Jh h];rfl
  ·rw[xp c,xp c,Tms.fm g f r]
theorem qp{t:Tm}:atI (tmV t) 0=some (V.int t.1):=rfl
theorem ql{t:Tm}:atI (tmV t) 1=some (V.int t.2.1):=rfl
theorem wK{t:Tm}:atI (tmV t) 2=some (V.int t.2.2.1):=rfl
theorem Vp{t:Tm}:atI (tmV t) 3=some (V.int t.2.2.2):=rfl
structure TmT(K:Fr)(H:Hp)(p:Addr)(ts:List Tm):Prop where
 ex:∃vs,SqT K H p vs/\Tms H vs ts
 ok:∀t∈ts,OkT t
 few:ts.length<=6
variable{ts:List Tm}
theorem TmT.same{p:Addr}(T:TmT K H p ts)(s:BP H H'):TmT K H' p ts:=by
 obtain⟨vs,h1,h2⟩:=T.ex;exact⟨⟨vs,s.tup h1,h2.same s⟩,T.ok,T.few⟩
def mR:Sp:=fun vs H Q _=>Ex3 fun(p:Addr) (k:Int) (t:Tm)=>An5 (vs=[.ref p,.int k]) (H p=some (.tup (tmV t))) (OkT t) (Bt 400 k) (Q (.bl (onT t k)) H)
def sV(K:Fr):Sp:=fun vs H Q _=>Ex3 fun(p:Addr) (k:Int) (ts:List Tm)=>An4 (vs=[.ref p,.int k]) (TmT K H p ts) (Bt 400 k) (∀H',BP H H'->Q (.int (SU ts k)) H')
def m8:Sp:=fun vs H Q _=>Ex2 fun(p:Addr) (t:Tm)=>An4 (vs=[.ref p]) (H p=some (.tup (tmV t))) (OkT t) (Q (.bl true) H)
def tM(K:Fr):Sp:=fun vs H Q _=>Ex3 fun(p:Addr) (b:Int) (ts:List Tm)=>An3 (vs=[.int b,.ref p]) (TmT K H p ts) (∀H',BP H H'->Q (.int (b-falls ts)) H')
structure Wi(b:Int)(ts:List Tm):Prop where
 b0:0<=b
 b1:b<=20000
 fl:falls ts<=b
def iw(K:Fr):Sp:=fun vs H Q _=>Ex3 fun(p:Addr) (b:Int) (ts:List Tm)=>An4 (vs=[.int b,.ref p]) (TmT K H p ts) (Wi b ts) (∀H',BP H H'->Q .non H')
def my(K:Fr):Sp:=fun vs H Q _=>Ex2 fun(p:Addr) (ts:List Tm)=>An3 (vs=[.ref p]) (TmT K H p ts) (∀H',BP H H'->Q (.int (PER ts)) H')
theorem LK(h:∀t∈ts,OkT t):∀(i:Nat),i<=6->0<PER (ts.take i)/\PER (ts.take i)<=1000^i
 | 0,_=>⟨(show (0:Int)<1 by decide),(show (1:Int)<=1 by decide)⟩
 | i+1,hi=>by
  obtain⟨h1,h2⟩:=LK h i ⋯;rw[ja4];cases e:ts[i]? with
  | none=>
   simp only[Option.toList_none,xy];refine⟨h1,jm4 h2 ?_⟩;rw[Int.pow_succ];have:(0:Int)<1000^i:=Int.pow_pos nofun;lia
  | some t=>
   have ok:=h t (xi e);have e2:PER (ts.take i++(some t).toList)=Eb (PER (ts.take i)) t.2.2.2:=by
    unfold PER;rw[jc6,List.foldl_append];rfl
   rw[e2];have n0:=ok.n0;refine⟨(DP h1 ⋯).1,jm4 (vN h1 ⋯) ?_⟩;rw[Int.pow_succ];exact ja1 h2 ok.n1 ⋯ (Qr (Int.pow_pos nofun))
theorem uW{i:Nat}(h:i<=6):(1000:Int)^i<=1000000000000000000:=by
 have:=vb (n:=1000) nofun h;rw[show(1000:Int)^i=((1000^i:Nat):Int) from(je8 1000 i).symm];lia
theorem Xd(h:∀t∈ts,OkT t):∀(i:Nat),i<=6->∀t∈ts.take i,t.2.2.2∣PER (ts.take i)
 | 0,_=>fun t ht=>by simp at ht
 | i+1,hi=>by
  obtain⟨h1,_⟩:=LK h i ⋯;have ih:=Xd h i ⋯;rw[ja4];cases e:ts[i]? with
  | none=>
   simp only[Option.toList_none,xy];exact ih
  | some u=>
   have ok:=h u (xi e);have e2:PER (ts.take i++(some u).toList)=Eb (PER (ts.take i)) u.2.2.2:=by
    unfold PER;rw[jc6,List.foldl_append];rfl
   have n0:=ok.n0;have f:=DP h1 (show 0<u.2.2.2 by lia);rw[e2];intro t ht;rcases ko.mp ht with z | z
   ·exact Int.dvd_trans (ih t z) f.2.1
   ·rw[jc6,zv] at z;subst z;exact f.2.2.1
noncomputable def mF(b:Int)(p:Addr)(c s:Int):List (Str×V):=[("base",.int b),("terms",.ref p),("full_count",.int c),("full_sum",.int s)]
structure Me(K:Fr)(C:Addr)(H:Hp)(x:Addr)(b:Int)(ts:List Tm):Prop where
 ex:∃dx p,H x=some (.ins C dx (mF b p (PER ts) (UP b ts (PER ts))))/\TmT K H p ts
 gd:Wi b ts
 po:0<UP b ts (PER ts)
def yN(K:Fr)(C:Addr):Sp:=fun vs H Q _=>Ex7 fun(x p dx:Addr) (k b:Int) (ts:List Tm) (fs:List (Str×V))=>An9 (vs=[.ref x,.int k]) (H x=some (.ins C dx fs)) (fs.lookup (Str.ofString "base")=some (V.int b)) (fs.lookup (Str.ofString "terms")=some (V.ref p)) (TmT K H p ts) (0<=b) (b<=20000) (Bt 400 k) (∀H',BP H H'->Q (.int (UP b ts k)) H')
def yQ(K:Fr)(C:Addr):Sp:=fun vs H Q _=>Ex4 fun(x:Addr) (n b:Int) (ts:List Tm)=>An4 (vs=[.ref x,.int n]) (Me K C H x b ts) (Bt 300 n) (∀(k:Int) H',BP H H'->UP b ts k<=n->n<UP b ts (k+1)->Bt 370 k->Q (.int k) H')
def Wz(K:Fr)(C:Addr):Sp:=fun vs H Q _=>Ex6 fun(x dx:Addr) (b:Int) (v:V) (us:List V) (ts:List Tm)=>An9 (vs=[.ref x,.int b,v]) (H x=some (.ins C dx [])) (Tms H us ts) (( v=.non/\us=[])\/∃l,v=.ref l/\H l=some (.lst us)) (∀t∈ts,OkT t) (ts.length<=6) (Wi b ts) (0<UP b ts (PER ts)) (∀H',(∀y o,y≠x->H y=some o->H' y=some o)->Me K C H' x b ts->Q .non H')
theorem Me.same{C:Addr}{b:Int}(M:Me K C H x b ts)(s:BP H H'):Me K C H' x b ts:=by
 obtain⟨dx,p,e,T⟩:=M.ex;exact⟨⟨dx,p,s _ _ e,T.same s⟩,M.gd,M.po⟩
theorem Me.meth{C:Addr}{b:Int}(M:Me K C H x b ts):∃dx fs,H x=some (.ins C dx fs)/\fs.lookup (Str.ofString "seek")=none/\fs.lookup (Str.ofString "at")=none/\fs.lookup (Str.ofString "upto")=none/\fs.lookup (Str.ofString "period")=none:=by
 obtain⟨dx,p,e,T⟩:=M.ex;exact⟨dx,_,e,rfl,rfl,rfl,rfl⟩
def ADN(K:Fr)(C:Addr):Sp:=fun vs H Q _=>Ex4 fun(x:Addr) (k b:Int) (ts:List Tm)=>An4 (vs=[.ref x,.int k]) (Me K C H x b ts) (Bt 400 k) (∀H',BP H H'->Q (.int (AT b ts k)) H')
def ABn(K:Fr)(C:Addr):Sp:=fun vs H Q _=>Ex3 fun(x:Addr) (b:Int) (ts:List Tm)=>An3 (vs=[.ref x]) (Me K C H x b ts) (Q (.int (PER ts)) H)
theorem Xy{C:Addr}{dx:Addr}{b:Int}{v:V}{us:List V}(hx:H1 x=none)(hdx:H1 dx=none)(ne:dx≠x)(hT:Tms H1 us ts)(hv:(v=.non/\us=[])\/∃l,v=.ref l/\H1 l=some (.lst us))(ok:∀t∈ts,OkT t)(few:ts.length<=6)(g:Wi b ts)(po:0<UP b ts (PER ts))
 (q:∀H',BP H1 H'->Me K C H' x b ts->Q .non H'):Wz K C [.ref x,.int b,v] (upd (upd H1 dx (.own x)) x (.ins C dx [])) Q E:=by
 have k4:BP H1 (upd (upd H1 dx (.own x)) x (.ins C dx [])):=(BR hdx _).trans (BR (by rw[Ax (Ne.symm ne)];exact hx) _);have x4:upd (upd H1 dx (.own x)) x (.ins C dx []) x=some (.ins C dx []):=Ai;refine⟨x,dx,b,v,us,ts,rfl,x4,hT.same k4,?_,ok,few,g,po,fun H5 k5 M=>q _ (fun y o h=>k5 y o (fun e=>by subst e;rw[hx] at h;cases h) (k4 y o h)) M⟩;rcases hv with z | ⟨l,z,e⟩
 ·exact .inl z
 ·exact .inr ⟨l,z,k4 _ _ e⟩
def But(l:Addr)(H H':Hp):Prop:=∀y o,y≠l->H y=some o->H' y=some o
variable{l:Addr}
theorem But.upd:But l H (L2.upd H l o):=fun y o hy h=>by rw[Ax hy];exact h
structure NoT(o:HO):Prop where
 t:∀vs,o≠.tup vs
 f:∀ob u,o≠.frz ob u
variable{xs:List V}
theorem NoT.lst:NoT (.lst xs):=⟨fun _ z=>(nomatch z),fun _ _ z=>(nomatch z)⟩
theorem NoT.ins{C d:Addr}{fs:List (Str×V)}:NoT (.ins C d fs):=⟨fun _ z=>(nomatch z),fun _ _ z=>(nomatch z)⟩
theorem Tms.but(hl:H l=some o)(no:NoT o)(k:But l H H'):∀{vs:List V} {ts:List Tm},Tms H vs ts->Tms H' vs ts
 | _,_,.nil=>.nil
 | _,_,.cons g r=>.cons (k _ _ (Eu g hl (Ne.symm (no.t _))) g) (Tms.but hl no k r)
variable{vs:List V}
theorem eO{p:Addr}(hl:H l=some o)(no:NoT o)(k:But l H H')(h:SqT K H p vs):SqT K H' p vs:=by
 rcases h with (h | ⟨o,h⟩) | h
 ·exact .inl (.inl (k _ _ (Eu h hl (Ne.symm (no.t _))) h))
 ·exact .inl (.inr ⟨o,k _ _ (Eu h hl (Ne.symm (no.f _ _))) h⟩)
 ·exact .inr h
theorem TmT.but{p:Addr}(hl:H l=some o)(no:NoT o)(k:But l H H')(T:TmT K H p ts):TmT K H' p ts:=by
 obtain⟨vs,h1,h2⟩:=T.ex;exact⟨⟨vs,eO hl no k h1,h2.but hl no k⟩,T.ok,T.few⟩
theorem Me.butX{C:Addr}{b:Int}(M:Me K C H x b ts)(hl:H l=some o)(no:NoT o)(ne:x≠l)(k:But l H H'):Me K C H' x b ts:=by
 obtain⟨dx,p,e,T⟩:=M.ex;exact⟨⟨dx,p,k _ _ ne e,T.but hl no k⟩,M.gd,M.po⟩
theorem Me.but{C:Addr}{b:Int}(M:Me K C H x b ts)(hl:H l=some (.lst xs))(k:But l H H'):Me K C H' x b ts:=by
 obtain⟨dx,p,e,T⟩:=M.ex;exact M.butX hl .lst (Eu e hl (by intro z;cases z)) k
theorem G5.gm{ls:List Int}{lp:Int}(g:G5 ls lp ts):Wi ls.sum ts:=⟨g.sum.1,g.sum.2,Qr g.f1⟩
theorem Ri(ok:∀t∈ts,OkT t)(few:ts.length<=6):0<PER ts/\PER ts<=1000000000000000000/\∀t∈ts,t.2.2.2∣PER ts:=by
 obtain⟨h1,h2⟩:=LK ok 6 nofun;have hd:=Xd ok 6 nofun;rw[ke few] at h1 h2 hd;exact⟨h1,jm4 h2 (uW nofun),hd⟩
theorem G5.po{ls:List Int}{lp:Int}(g:G5 ls lp ts):0<UP ls.sum ts (PER ts):=YW g.ok g.f1 (Ri g.ok g.few).1
noncomputable def sF(s lp:Int)(p y:Addr):List (Str×V):=[("start",.int s),("months",.ref p),("leap",.int lp),("years",.ref y)]
structure G4(K:Fr)(CS CM:Addr)(H:Hp)(x:Addr)(s:Int)(ls:List Int)(lp:Int)(ts:List Tm):Prop where
 ex:∃dx p y,H x=some (.ins CS dx (sF s lp p y))/\SqT K H p (ls.map V.int)/\Me K CM H y ls.sum ts
 gd:G5 ls lp ts
 bs:Bt 290 s
section
variable{K:Fr}{CS CM:Addr}{H H':Hp}{x:Addr}{s:Int}{ls:List Int}{lp:Int}{ts:List Tm}
theorem G4.same(S:G4 K CS CM H x s ls lp ts)(e:BP H H'):G4 K CS CM H' x s ls lp ts:=by
 obtain⟨dx,p,y,h1,h2,h3⟩:=S.ex;exact⟨⟨dx,p,y,e _ _ h1,e.tup h2,h3.same e⟩,S.gd,S.bs⟩
theorem G4.but(S:G4 K CS CM H x s ls lp ts)(hl:H l=some (.lst xs))(k:But l H H'):G4 K CS CM H' x s ls lp ts:=by
 obtain⟨dx,p,y,h1,h2,h3⟩:=S.ex;exact⟨⟨dx,p,y,k _ _ (Eu h1 hl (by intro z;cases z)) h1,eO hl .lst k h2,h3.but hl k⟩,S.gd,S.bs⟩
theorem G4.meth(S:G4 K CS CM H x s ls lp ts):∃dx fs,H x=some (.ins CS dx fs)/\fs.lookup (Str.ofString "year_start")=none/\fs.lookup (Str.ofString "year_at")=none/\fs.lookup (Str.ofString "lengths")=none/\fs.lookup (Str.ofString "cycle")=none/\fs.lookup (Str.ofString "date_of")=none/\fs.lookup (Str.ofString "day_of")=none:=by
 obtain⟨dx,p,y,e,_⟩:=S.ex;exact⟨dx,_,e,rfl,rfl,rfl,rfl,rfl,rfl⟩
end
def sY(K:Fr):Sp:=fun vs H Q _=>Ex4 fun(l:Addr) (lp:Int) (ls:List Int) (ts:List Tm)=>An4 (vs=[.ref l,.int lp]) (SqL K H l (ls.map V.int)) (G5 ls lp ts) (Q .non H)
def Rb(K:Fr)(CS CM:Addr):Sp:=fun vs H Q _=>Ex9 fun(x dx ll:Addr) (s lp:Int) (v:V) (us:List V) (ls:List Int) (ts:List Tm)=>An8 (vs=[.ref x,.int s,.ref ll,.int lp,v]) (H x=some (.ins CS dx [])) (H ll=some (.lst (ls.map V.int))) (Tms H us ts) (( v=.non/\us=[])\/∃l,v=.ref l/\H l=some (.lst us)) (G5 ls lp ts) (Bt 290 s) (∀H',(∀y o,y≠x->H y=some o->H' y=some o)->G4 K CS CM H' x s ls lp ts->Q .non H')
theorem pR{CS CM:Addr}{dx ll:Addr}{s lp:Int}{v:V}{us:List V}{ls:List Int}(hx:H1 x=none)(hdx:H1 dx=none)(ne:dx≠x)(hl:H1 ll=some (.lst (ls.map V.int)))(hT:Tms H1 us ts)(hv:(v=.non/\us=[])\/∃l,v=.ref l/\H1 l=some (.lst us))(g:G5 ls lp ts)(bs:Bt 290 s)
 (q:∀H',BP H1 H'->G4 K CS CM H' x s ls lp ts->Q .non H'):Rb K CS CM [.ref x,.int s,.ref ll,.int lp,v] (upd (upd H1 dx (.own x)) x (.ins CS dx [])) Q E:=by
 have k4:BP H1 (upd (upd H1 dx (.own x)) x (.ins CS dx [])):=(BR hdx _).trans (BR (by rw[Ax (Ne.symm ne)];exact hx) _);have x4:upd (upd H1 dx (.own x)) x (.ins CS dx []) x=some (.ins CS dx []):=Ai;refine⟨x,dx,ll,s,lp,v,us,ls,ts,rfl,x4,k4 _ _ hl,hT.same k4,?_,g,bs,fun H5 k5 M=>q _ (fun y o h=>k5 y o (fun e=>by subst e;rw[hx] at h;cases h) (k4 y o h)) M⟩;rcases hv with z | ⟨l,z,e⟩
 ·exact .inl z
 ·exact .inr ⟨l,z,k4 _ _ e⟩
def ABi(K:Fr)(CS CM:Addr):Sp:=fun vs H Q _=>Ex6 fun(x:Addr) (n s:Int) (ls:List Int) (lp:Int) (ts:List Tm)=>An4 (vs=[.ref x,.int n]) (G4 K CS CM H x s ls lp ts) (Bt 390 n) (∀H',BP H H'->Q (.int (s+UP ls.sum ts n)) H')
def ABj(K:Fr)(CS CM:Addr):Sp:=fun vs H Q _=>Ex6 fun(x:Addr) (n s:Int) (ls:List Int) (lp:Int) (ts:List Tm)=>An4 (vs=[.ref x,.int n]) (G4 K CS CM H x s ls lp ts) (Bt 290 n) (∀(k:Int) H',BP H H'->s+UP ls.sum ts k<=n->n<s+UP ls.sum ts (k+1)->Bt 300 k->Q (.int k) H')
def mz(K:Fr)(CS CM:Addr):Sp:=fun vs H Q _=>Ex6 fun(x:Addr) (n s:Int) (ls:List Int) (lp:Int) (ts:List Tm)=>An4 (vs=[.ref x,.int n]) (G4 K CS CM H x s ls lp ts) (Bt 390 n) (∀(p:Addr) H',H p=none->BP H H'->H' p=some (.lst ((Py ls lp ts n).map V.int))->Q (.ref p) H')
def nD(K:Fr)(CS CM:Addr):Sp:=fun vs H Q _=>Ex5 fun(x:Addr) (s:Int) (ls:List Int) (lp:Int) (ts:List Tm)=>An3 (vs=[.ref x]) (G4 K CS CM H x s ls lp ts) (∀(p:Addr) H',BP H H'->H' p=some (.tup [.int (PER ts),.int (UP ls.sum ts (PER ts))])->Q (.ref p) H')
theorem xq{n:Nat}{b:Int}(h:∀t∈ts,OkT t)(b0:0<=b)(b1:b<=20000)(few:ts.length<=6){k:Int}(bk:Bt n k):Bt (n+16) (UP b ts k):=by
 have:=qu h b0 b1 few (k:=k) (K:=(k.natAbs:Int)) ⋯ ⋯;unfold Bt at*
 rw[jo3];lia
noncomputable def moF(s:Int)(d m:Addr):List (Str×V):=[("start",.int s),("days",.ref d),("many",.ref m)]
structure Eo(K:Fr)(CO CM:Addr)(H:Hp)(x:Addr)(s bd:Int)(td:List Tm)(bm:Int)(tm:List Tm):Prop where
 ex:∃dx d m,H x=some (.ins CO dx (moF s d m))/\Me K CM H d bd td/\Me K CM H m bm tm
 gd:HN bd td bm tm
 bs:Bt 290 s
section
variable{K:Fr}{CO CM:Addr}{H H':Hp}{x:Addr}{s bd:Int}{td:List Tm}{bm:Int}{tm:List Tm}
theorem Eo.same(S:Eo K CO CM H x s bd td bm tm)(e:BP H H'):Eo K CO CM H' x s bd td bm tm:=by
 obtain⟨dx,d,m,h1,h2,h3⟩:=S.ex;exact⟨⟨dx,d,m,e _ _ h1,h2.same e,h3.same e⟩,S.gd,S.bs⟩
theorem Eo.but(S:Eo K CO CM H x s bd td bm tm)(hl:H l=some (.lst xs))(k:But l H H'):Eo K CO CM H' x s bd td bm tm:=by
 obtain⟨dx,d,m,h1,h2,h3⟩:=S.ex;exact⟨⟨dx,d,m,k _ _ (Eu h1 hl (by intro z;cases z)) h1,h2.but hl k,h3.but hl k⟩,S.gd,S.bs⟩
theorem Eo.meth(S:Eo K CO CM H x s bd td bm tm):∃dx fs,H x=some (.ins CO dx fs)/\fs.lookup (Str.ofString "year_start")=none/\fs.lookup (Str.ofString "year_at")=none/\fs.lookup (Str.ofString "lengths")=none/\fs.lookup (Str.ofString "cycle")=none/\fs.lookup (Str.ofString "date_of")=none/\fs.lookup (Str.ofString "day_of")=none:=by
 obtain⟨dx,d,m,e,_⟩:=S.ex;exact⟨dx,_,e,rfl,rfl,rfl,rfl,rfl,rfl⟩
end
def sX(K:Fr)(C:Addr):Sp:=fun vs H Q _=>Ex4 fun(y:Addr) (b g:Int) (ts:List Tm)=>An5 (vs=[.ref y,.int g]) (Me K C H y b ts) (falls ts<b) (b<=g) (∀H',BP H H'->Q .non H')
def Yx(K:Fr)(CO CM:Addr):Sp:=fun vs H Q _=>Ex9 fun(x dx d m:Addr) (s bd bm:Int) (td tm:List Tm)=>An7 (vs=[.ref x,.int s,.ref d,.ref m]) (H x=some (.ins CO dx [])) (Me K CM H d bd td) (Me K CM H m bm tm) (HN bd td bm tm) (Bt 290 s) (∀H',(∀y o,y≠x->H y=some o->H' y=some o)->Eo K CO CM H' x s bd td bm tm->Q .non H')
theorem jr{CO CM:Addr}{dx d m:Addr}{s bd bm:Int}{td tm:List Tm}(hx:H1 x=none)(hdx:H1 dx=none)(ne:dx≠x)(hd:Me K CM H1 d bd td)(hm:Me K CM H1 m bm tm)(g:HN bd td bm tm)(bs:Bt 290 s)
 (q:∀H',BP H1 H'->Eo K CO CM H' x s bd td bm tm->Q .non H'):Yx K CO CM [.ref x,.int s,.ref d,.ref m] (upd (upd H1 dx (.own x)) x (.ins CO dx [])) Q E:=by
 have k4:BP H1 (upd (upd H1 dx (.own x)) x (.ins CO dx [])):=(BR hdx _).trans (BR (by rw[Ax (Ne.symm ne)];exact hx) _);have x4:upd (upd H1 dx (.own x)) x (.ins CO dx []) x=some (.ins CO dx []):=Ai;exact⟨x,dx,d,m,s,bd,bm,td,tm,rfl,x4,hd.same k4,hm.same k4,g,bs,fun H5 k5 M=>q _ (fun y o h=>k5 y o (fun e=>by subst e;rw[hx] at h;cases h) (k4 y o h)) M⟩
def wz(K:Fr)(CO CM:Addr):Sp:=fun vs H Q _=>Ex7 fun(x:Addr) (n s bd bm:Int) (td tm:List Tm)=>An4 (vs=[.ref x,.int n]) (Eo K CO CM H x s bd td bm tm) (Bt 370 n) (∀H',BP H H'->Q (.int (MYS s bd td bm tm n)) H')
def xF(K:Fr)(CO CM:Addr):Sp:=fun vs H Q _=>Ex7 fun(x:Addr) (n s bd bm:Int) (td tm:List Tm)=>An4 (vs=[.ref x,.int n]) (Eo K CO CM H x s bd td bm tm) (Bt 290 n) (∀(k:Int) H',BP H H'->MYS s bd td bm tm k<=n->n<MYS s bd td bm tm (k+1)->Bt 300 k->Q (.int k) H')
def eX(K:Fr)(CO CM:Addr):Sp:=fun vs H Q _=>Ex7 fun(x:Addr) (n s bd bm:Int) (td tm:List Tm)=>An4 (vs=[.ref x,.int n]) (Eo K CO CM H x s bd td bm tm) (Bt 370 n) (∀(p:Addr) H',H p=none->BP H H'->H' p=some (.lst ((Vq bd td bm tm n).map V.int))->Q (.ref p) H')
theorem oA{D:Ends}{Z:L2.St}(h:D.bk Z H):mH D Z H:=h
def Bw(K:Fr)(CS CO CM:Addr)(H:Hp)(x:Addr):Bg->Prop
 | .sun s ls lp ts=>G4 K CS CM H x s ls lp ts
 | .moon s bd td bm tm=>Eo K CO CM H x s bd td bm tm
noncomputable def xY:Bg->Bool
 | .sun .. =>true
 | .moon .. =>false
section
variable{K:Fr}{CS CO CM:Addr}{H H':Hp}{x:Addr}{d:Bg}
theorem Bw.same(S:Bw K CS CO CM H x d)(e:BP H H'):Bw K CS CO CM H' x d:=by
 cases d with
 | sun s ls lp ts=>exact G4.same S e
 | moon s bd td bm tm=>exact Eo.same S e
theorem Bw.but(S:Bw K CS CO CM H x d)(hl:H l=some (.lst xs))(k:But l H H'):Bw K CS CO CM H' x d:=by
 cases d with
 | sun s ls lp ts=>exact G4.but S hl k
 | moon s bd td bm tm=>exact Eo.but S hl k
theorem Bw.good(S:Bw K CS CO CM H x d):d.good:=by
 cases d with
 | sun s ls lp ts=>exact G4.gd S
 | moon s bd td bm tm=>exact Eo.gd S
theorem Bw.bs(S:Bw K CS CO CM H x d):Bt 290 d.st:=by
 cases d with
 | sun s ls lp ts=>exact G4.bs S
 | moon s bd td bm tm=>exact Eo.bs S
theorem Bw.ys(S:Bw K CS CO CM H x d):∃C dx fs sp,(C,sp)∈[(CS,ABi K CS CM),(CO,wz K CO CM)]/\H x=some (.ins C dx fs)/\fs.lookup (Str.ofString "year_start")=none/\
 ∀{H2:Hp} {n:Int} {Q:VK} {E:XK},Bw K CS CO CM H2 x d->Bt 370 n->(∀H',BP H2 H'->Q (.int (d.Y n)) H')->sp [.ref x,.int n] H2 Q E:=by
 cases d with
 | sun s ls lp ts=>
  obtain⟨dx,fs,e,m⟩:=G4.meth S;exact⟨CS,dx,fs,_,qc,e,m.1,fun S2 bn q=>⟨x,_,s,ls,lp,ts,rfl,S2,bn.mono nofun,q⟩⟩
 | moon s bd td bm tm=>
  obtain⟨dx,fs,e,m⟩:=Eo.meth S;exact⟨CO,dx,fs,_,qf _ qc,e,m.1,fun S2 bn q=>⟨x,_,s,bd,bm,td,tm,rfl,S2,bn,q⟩⟩
theorem Bw.ya(S:Bw K CS CO CM H x d):∃C dx fs sp,(C,sp)∈[(CS,ABj K CS CM),(CO,xF K CO CM)]/\H x=some (.ins C dx fs)/\fs.lookup (Str.ofString "year_at")=none/\
 ∀{H2:Hp} {n:Int} {Q:VK} {E:XK},Bw K CS CO CM H2 x d->Bt 290 n->(∀(k:Int) H',BP H2 H'->d.Y k<=n->n<d.Y (k+1)->Bt 300 k->Q (.int k) H')->sp [.ref x,.int n] H2 Q E:=by
 cases d with
 | sun s ls lp ts=>
  obtain⟨dx,fs,e,m⟩:=G4.meth S;exact⟨CS,dx,fs,_,qc,e,m.2.1,fun S2 bn q=>⟨x,_,s,ls,lp,ts,rfl,S2,bn,q⟩⟩
 | moon s bd td bm tm=>
  obtain⟨dx,fs,e,m⟩:=Eo.meth S;exact⟨CO,dx,fs,_,qf _ qc,e,m.2.1,fun S2 bn q=>⟨x,_,s,bd,bm,td,tm,rfl,S2,bn,q⟩⟩
theorem Bw.le(S:Bw K CS CO CM H x d):∃C dx fs sp,(C,sp)∈[(CS,mz K CS CM),(CO,eX K CO CM)]/\H x=some (.ins C dx fs)/\fs.lookup (Str.ofString "lengths")=none/\
 ∀{H2:Hp} {n:Int} {Q:VK} {E:XK},Bw K CS CO CM H2 x d->Bt 370 n->(∀(p:Addr) H',H2 p=none->BP H2 H'->H' p=some (.lst ((d.L n).map V.int))->Q (.ref p) H')->sp [.ref x,.int n] H2 Q E:=by
 cases d with
 | sun s ls lp ts=>
  obtain⟨dx,fs,e,m⟩:=G4.meth S;exact⟨CS,dx,fs,_,qc,e,m.2.2.1,fun S2 bn q=>⟨x,_,s,ls,lp,ts,rfl,S2,bn.mono nofun,q⟩⟩
 | moon s bd td bm tm=>
  obtain⟨dx,fs,e,m⟩:=Eo.meth S;exact⟨CO,dx,fs,_,qf _ qc,e,m.2.2.1,fun S2 bn q=>⟨x,_,s,bd,bm,td,tm,rfl,S2,bn,q⟩⟩
end
def Om(K:Fr)(CS CO CM:Addr)(b:Bool):Sp:=fun vs H Q _=>Ex3 fun(x:Addr) (n:Int) (d:Bg)=>An5 (vs=[.ref x,.int n]) (xY d=b) (Bw K CS CO CM H x d) (Bt 290 n) (∀(p:Addr) (y m r:Int) H',BP H H'->H' p=some (.tup [.int y,.int m,.int r])->IsD d y m r->J7 d y m r=n->Bt 300 y->Q (.ref p) H')
section
variable{K:Fr}{CS CO CM:Addr}{H H':Hp}{x:Addr}{d:Bg}
theorem Bw.dt(S:Bw K CS CO CM H x d):∃C dx fs sp,(C,sp)∈[(CS,Om K CS CO CM true),(CO,Om K CS CO CM false)]/\H x=some (.ins C dx fs)/\fs.lookup (Str.ofString "date_of")=none/\
 ∀{H2:Hp} {n:Int} {Q:VK} {E:XK},Bw K CS CO CM H2 x d->Bt 290 n->(∀(p:Addr) (y m r:Int) H',BP H2 H'->H' p=some (.tup [.int y,.int m,.int r])->IsD d y m r->J7 d y m r=n->Bt 300 y->Q (.ref p) H')->sp [.ref x,.int n] H2 Q E:=by
 cases d with
 | sun s ls lp ts=>
  obtain⟨dx,fs,e,m⟩:=G4.meth S;exact⟨CS,dx,fs,_,qc,e,m.2.2.2.2.1,fun S2 bn q=>⟨x,_,_,rfl,rfl,S2,bn,q⟩⟩
 | moon s bd td bm tm=>
  obtain⟨dx,fs,e,m⟩:=Eo.meth S;exact⟨CO,dx,fs,_,qf _ qc,e,m.2.2.2.2.1,fun S2 bn q=>⟨x,_,_,rfl,rfl,S2,bn,q⟩⟩
end
def Mw:Sp:=fun _ _ _ _=>False
noncomputable def oI(o:Option Int):V:=match o with | none=>.non | some i=>.int i
def okM(m:Option Int):Prop:=∀i,m=some i->1<=i
def bH(K:Fr)(CO CM:Addr):Sp:=fun vs H Q _=>Ex6 fun(x:Addr) (s bd bm:Int) (td tm:List Tm)=>An3 (vs=[.ref x]) (Eo K CO CM H x s bd td bm tm) (∀(p:Addr) H',BP H H'->H' p=some (.tup [.int (PER tm*moT td bm tm),.int (UP bd td (UP bm tm (PER tm)*moT td bm tm))])->Q (.ref p) H')
theorem Bw.cyc{CS CO CM:Addr}{d:Bg}(S:Bw K CS CO CM H x d):∃C dx fs sp,(C,sp)∈[(CS,nD K CS CM),(CO,bH K CO CM)]/\H x=some (.ins C dx fs)/\fs.lookup (Str.ofString "cycle")=none/\
 ∀{H2:Hp} {Q:VK} {E:XK},Bw K CS CO CM H2 x d->(∀(p:Addr) H',BP H2 H'->H' p=some (.tup [.int d.cy.1,.int d.cy.2])->Q (.ref p) H')->sp [.ref x] H2 Q E:=by
 cases d with
 | sun s ls lp ts=>
  obtain⟨dx,fs,e,m⟩:=G4.meth S;exact⟨CS,dx,fs,_,qc,e,m.2.2.2.1,fun S2 q=>⟨x,s,ls,lp,ts,rfl,S2,q⟩⟩
 | moon s bd td bm tm=>
  obtain⟨dx,fs,e,m⟩:=Eo.meth S;exact⟨CO,dx,fs,_,qf _ qc,e,m.2.2.2.1,fun S2 q=>⟨x,s,bd,bm,td,tm,rfl,S2,q⟩⟩
noncomputable def plD(n i:Int):Int:=if 0<i then i-1 else n+i
noncomputable def YB(f n:Int)(d:Option Int):List Int:=match d with
 | none=>(List.range n.toNat).map fun i:Nat=>f+(i:Int)
 | some i=>if plD n i<0\/n<=plD n i then [] else [f+plD n i]
noncomputable def yrL:List Int->Int->Int->Option Int->Option Int->List Int
 | [],_,_,_,_=>[]
 | n::ls,f,k,m,i=>(if m=none\/m=some k then YB f n i else [])++yrL ls (f+n) (k+1) m i
theorem Wq{M:Int}:∀{ls:List Int},(∀n∈ls,0<=n/\n<=M)->0<=ls.sum/\ls.sum<=M*(ls.length:Int)
 | [],_=>⟨jj4 _,by simp⟩
 | a::ls,h=>by
  have:=Wq (ls:=ls) fun n hn=>h n (qf _ hn);have:=h a qc;have e:M*((a::ls).length:Int)=M*(ls.length:Int)+M:=by
   rw[qm,show((ls.length+1:Nat):Int)=(ls.length:Int)+1 by lia,jc3,ja5]
  rw[yy,e];lia
theorem Rp:∀(l1 l2:List Int) (f k:Int) (m i:Option Int),yrL (l1++l2) f k m i=yrL l1 f k m i++yrL l2 (f+l1.sum) (k+(l1.length:Int)) m i
 | [],l2,f,k,m,i=>by
  show yrL l2 f k m i=[]++yrL l2 (f+0) (k+0) m i;rw[ji0,jh5,jh5]
 | n::l1,l2,f,k,m,i=>by
  show _++yrL (l1++l2) (f+n) (k+1) m i=(_++yrL l1 (f+n) (k+1) m i)++_;rw[Rp l1 l2,ki,yy,qm,show f+(n+l1.sum)=f+n+l1.sum by lia,show k+((l1.length+1:Nat):Int)=k+1+(l1.length:Int) by lia]
theorem lE{ls:List Int}{j:Nat}{n:Int}(h:ls[j]?=some n)(f:Int)(m i:Option Int):yrL (ls.take (j+1)) f 1 m i=yrL (ls.take j) f 1 m i++(if m=none\/m=some (1+(j:Int)) then YB (f+PS ls j) n i else []):=by
 have hj:=(zd.mp h).1;rw[ja4,h,jc6,Rp,jj0,Nat.min_eq_left ⋯];show _++(_++[])=_;rw[xy];rfl
theorem gr{f n:Int}(n0:0<=n)(i:Option Int):((YB f n i).length:Int)<=n:=by
 unfold YB;cases i with
 | none=>
  simp only[js,jb4];lia
 | some i=>
  simp only[];generalize plD n i=pl;split<;>simp<;>lia
theorem aX:∀(ls:List Int) (f k:Int) (m i:Option Int),(∀n∈ls,0<=n)->((yrL ls f k m i).length:Int)<=ls.sum
 | [],f,k,m,i,_=>jj4 _
 | n::ls,f,k,m,i,h=>by
  have a:=aX ls (f+n) (k+1) m i fun x hx=>h x (qf _ hx);have n0:=h n qc;have b:=gr (f:=f) n0 i;show(((if m=none\/m=some k then YB f n i else [])++yrL ls (f+n) (k+1) m i).length:Int)<=(n::ls).sum;rw[qq,yy];split
  ·lia
  ·rw[jf0];lia
def sO:Sp:=fun vs H Q _=>Ex3 fun(m d:Option Int) (st:Int)=>An5 (vs=[oI m,oI d,.int st]) (okM m) (d≠some 0) (1<=st) (Q .non H)
def tY:Sp:=fun vs H Q _=>Ex3 fun(f n:Int) (d:Option Int)=>An4 (vs=[.int f,.int n,oI d]) (0<=n) (n<=10000) (∀(l:Addr) (H':Hp),H l=none->BP H H'->H' l=some (.lst ((YB f n d).map V.int))->Q (.ref l) H')
def tX(K:Fr)(CS CO CM:Addr):Sp:=fun vs H Q _=>Ex5 fun(x:Addr) (d:Bg) (y:Int) (m i:Option Int)=>An4 (vs=[.ref x,.int y,oI m,oI i]) (Bw K CS CO CM H x d) (Bt 370 y) (∀(l:Addr) (H':Hp),H l=none->BP H H'->H' l=some (.lst ((yrL (d.L y) (d.Y y) 1 m i).map V.int))->Q (.ref l) H')
noncomputable def dtL(g:Bg)(m i:Option Int):Nat->List Int
 | 0=>[]
 | k+1=>dtL g m i k++yrL (g.L (k:Int)) (g.Y (k:Int)) 1 m i
structure SmC(g:Bg):Prop where
 y0:1<=g.cy.1
 y1:g.cy.1<=10
 d0:1<=g.cy.2
 d1:g.cy.2<=128
structure Cs where
 (D S O M C R Y:Addr) (L:List Addr)
inductive CT | one(d:Bg) | chg(a b:Bg)(k:Int)
def Dty(d:Bg)(n y m r:Int):Prop:=IsD d y m r/\J7 d y m r=n
def CT.D:CT->Int->Int->Int->Int->Prop
 | .one d,n,y,m,r=>Dty d n y m r
 | .chg a b k,n,y,m,r=>n<k/\Dty a n y m r\/k<=n/\Dty b n y m r
noncomputable def cF(o n:Addr)(k:Int)(lo fn:Addr):List (Str×V):=[("old",.ref o),("new",.ref n),("day",.int k),("last_old",.ref lo),("first_new",.ref fn)]
def EY(K:Fr)(cs:Cs)(H:Hp)(x:Addr):CT->Prop
 | .one d=>Bw K cs.S cs.O cs.M H x d
 | .chg a b k=>∃dx o n lo fn:Addr,H x=some (.ins cs.C dx (cF o n k lo fn))/\Bw K cs.S cs.O cs.M H o a/\Bw K cs.S cs.O cs.M H n b
variable{cs:Cs}
theorem EY.same:∀{c:CT} {x:Addr},EY K cs H x c->BP H H'->EY K cs H' x c
 | .one _,_,S,e=>Bw.same S e
 | .chg ..,_,⟨dx,o,n,lo,fn,h1,h2,h3⟩,e=>⟨dx,o,n,lo,fn,e _ _ h1,Bw.same h2 e,Bw.same h3 e⟩
def DtQ(c:CT)(n:Int)(H:Hp)(Q:VK):Prop:=∀(p:Addr) (y m r:Int) H',BP H H'->H' p=some (.tup [.int y,.int m,.int r])->c.D n y m r->Bt 300 y->m<=26->r<=1006->1<=m->1<=r->Q (.ref p) H'
def rJ(d:Bg)(n:Int)(H:Hp)(Q:VK):Prop:=∀(p:Addr) (y m r:Int) H',BP H H'->H' p=some (.tup [.int y,.int m,.int r])->IsD d y m r->J7 d y m r=n->Bt 300 y->Q (.ref p) H'
theorem IsD.few{d:Bg}(g:d.good){y m r:Int}(h:IsD d y m r):m<=26/\r<=1006:=by
 have m0:=h.m0;have m1:=h.m1;have i:=ji9 (l:=d.L y) (n:=(m-1).toNat) ⋯;have e:(d.L y).getD (m-1).toNat 0=(d.L y)[(m-1).toNat]'⋯:=by rw[yv,zh ⋯];rfl
 have r1:=h.r1;rw[e] at r1;have:=(Bg.mem g y _ i).2;have:=(Bg.len g y).2;exact⟨⋯,⋯⟩
theorem rJ.of{d:Bg}{n:Int}(g:d.good)(q:DtQ (.one d) n H Q):rJ d n H Q:=fun p y m r H' s t h e b=>q p y m r H' s t ⟨h,e⟩ b (h.few g).1 (h.few g).2 h.m0 h.r0
def fB(K:Fr)(cs:Cs):Sp:=fun vs H Q _=>Ex5 fun(x:Addr) (n k:Int) (a b:Bg)=>An4 (vs=[.ref x,.int n]) (EY K cs H x (.chg a b k)) (Bt 290 n) (DtQ (.chg a b k) n H Q)
theorem EY.dt{c:CT}(S:EY K cs H x c):∃C dx fs sp,(C,sp)∈[(cs.S,Om K cs.S cs.O cs.M true),(cs.O,Om K cs.S cs.O cs.M false),(cs.C,fB K cs)]/\H x=some (.ins C dx fs)/\fs.lookup (Str.ofString "date_of")=none/\
 ∀{H2:Hp} {n:Int} {Q:VK} {E:XK},EY K cs H2 x c->Bt 290 n->DtQ c n H2 Q->sp [.ref x,.int n] H2 Q E:=by
 cases c with
 | one d=>
  obtain⟨C,dx,fs,sp,mem,e,lk,use⟩:=Bw.dt S;refine⟨C,dx,fs,sp,?_,e,lk,fun S2 bn q=>use S2 bn (rJ.of (Bw.good S) q)⟩;rcases qh.mp mem with z | z
  ·exact z ▸ .head _
  ·exact zv.mp z ▸ .tail _ (.head _)
 | chg a b k=>
  obtain⟨dx,o,n,lo,fn,h1,_⟩:=id S;exact⟨cs.C,dx,_,_,.tail _ (.tail _ (.head _)),h1,rfl,fun S2 bn q=>⟨x,_,k,a,b,rfl,S2,bn,q⟩⟩
theorem zu{a b c a' b' c':Int}(h:a<a'):Vl (fun i j=>decide (i<=j)) true [a',b',c'] [a,b,c]=false:=by
 simp only[Vl];rw[xp ⋯];exact decide_eq_false ⋯
def Lat(a b:Bg)(k:Int):Prop:=∀y m r y' m' r',Dty a (k-1) y m r->Dty b k y' m' r'->y<y'
theorem vI{dx:Addr}{o':HO}(hx:H1 x=none)(hd:H1 dx=none):BP H1 (upd (upd H1 dx o) x o'):=fun y u e=>by
 rw[Ax (BX e hx),Ax (BX e hd)];exact e
def tU(K:Fr)(cs:Cs):Sp:=fun vs H Q _=>Ex8 fun(H0:Hp) (x dx o nw:Addr) (a b:Bg) (k:Int)=>ABV (vs=[.ref x,.ref o,.ref nw,.int k]) (H0 x=none) (H0 dx=none) (dx≠x) (H=upd (upd H0 dx (.own x)) x (.ins cs.C dx [])) (Bw K cs.S cs.O cs.M H0 o a) (Bw K cs.S cs.O cs.M H0 nw b) (Bt 288 k) (Lat a b k) (∀H',BP H0 H'->EY K cs H' x (.chg a b k)->Q .non H')
def fD(CC cN:Addr):Sp:=fun vs H _ E=>∃x:Addr,vs=[.ref x]/\E (.ref cN) none H
def EC(Y:Addr)(H:Hp)(E:XK):Prop:=∀H',BP H H'->E (.ref Y) none H'
theorem EC.on{Y:Addr}(e:EC Y H E)(s:BP H H1):EC Y H1 E:=fun H' s'=>e H' (s.trans s')
def Yy(K:Fr)(cs:Cs):Sp:=fun vs H Q E=>Ex3 fun(x:Addr) (m i:Option Int)=>An4 (vs=[.ref x,oI m,oI i,.int 1,.int 0]) (okM m) (i≠some 0) ((∃g,An3 (Bw K cs.S cs.O cs.M H x g) (SmC g) (∀(p:Addr) (c:Nat) (H':Hp),BP H H'->H' p=some (.tup [.int g.cy.2,.int (c:Int)])->RB g.cy.2 (dtL g m i g.cy.1.toNat) c->Q (.ref p) H'))\/(Ex3 fun a b k=>EY K cs H x (.chg a b k))/\EC cs.Y H E)
noncomputable def cpl(z:Str):List Nat:=z.cps.toList
variable{z:Str}
theorem Gr{y:Str}(h:cpl y=cpl z):y=z:=by
 cases y;cases z;simp only[cpl] at h;exact yi Str.mk (jd9.mp h)
noncomputable def Hw(cs:List Nat):List Nat:=if cs.head?=some 45 then cs.drop 1 else cs
structure U4(cs:List Nat):Prop where
 lo:1<=(Hw cs).length
 hi:(Hw cs).length<=60
 dg:∀c∈Hw cs,48<=c/\c<=57
 z0:(Hw cs).head?=some 48->cs=[48]
noncomputable def Kf(cs:List Nat):Int:=if cs.head?=some 45 then -((PySem.NumText.digitsVal (Hw cs):Nat):Int) else ((PySem.NumText.digitsVal (Hw cs):Nat):Int)
theorem Dn(z:Str):(cpl z).length=z.length:=ka
theorem WK(h:U4 (cpl z)):PySem.intText? z=some (Kf (cpl z)):=by
 have hl:z.length<=4300:=by
  have:=h.hi;rw[<-Dn];unfold Hw at this;split at this
  ·rw[jb8] at this;lia
  ·lia
 unfold Kf;by_cases e:(cpl z).head?=some 45
 ·rw[xo e];have ef:Hw (cpl z)=(cpl z).drop 1:=by unfold Hw;rw[xo e]
  have hz:z.cps.toList=45::(cpl z).drop 1:=by
   show cpl z=_;generalize cpl z=cs at e;cases cs with
   | nil=>cases e
   | cons a r=>
    injection e with e;rw[e];rfl
  rw[ef];refine PySem.intText_neg hz (fun c hc=>h.dg c (by rw[ef];exact hc)) (fun z0=>?_) hl;have:=h.lo;rw[ef,z0] at this;simp at this
 ·rw[xp e];have ef:Hw (cpl z)=cpl z:=by unfold Hw;rw[xp e]
  rw[ef];refine PySem.intText_digits (fun c hc=>h.dg c (by rw[ef];exact hc)) (fun z0=>?_) hl;have:=h.lo;rw[ef] at this;have z1:cpl z=[]:=z0;rw[z1] at this;simp at this
theorem QC(h:1<=z.length):cpl (Txt.slice z (some 1) none)=(cpl z).drop 1:=by
 rw[slice_from_eq (b:=(z.length:Int)) nofun (by omega) rfl];show((List.drop 1 z.cps.toList).take ((z.length:Int)-1).toNat)=_;rw[ke]
 ·rfl
 ·rw[jb8];have:z.cps.toList.length=z.length:=Dn z;omega
theorem jC(z:Str):cpl (Txt.slice z none (some 1))=(cpl z).take 1:=by
 by_cases h:1<=z.length
 ·have e:=slice_closes_toL (x:=z) (j:=1) nofun ⋯;rw[eq_of_beq e];rfl
 ·have e0:(cpl z).length=0:=by rw[Dn];lia
  have e1:(cpl (Txt.slice z none (some 1))).length=0:=by
   have:=Txt.slice_le z none (some 1);rw[Dn];lia
  rw[jb6.mp e0,jb6.mp e1];rfl
theorem jD{lo hi:Option Int}(h:c∈cpl (Txt.slice z lo hi)):c∈cpl z:=by
 unfold Txt.slice at h;split at h
 ·exact h
 ·simp only[cpl] at h;obtain⟨i,_,hi⟩:=jl0.mp h;have hi':z.cps.toList[i]?=some c:=by rw[Array.getElem?_toList];exact hi
  exact xi hi'
theorem GJ:asc z=true<->∀c∈cpl z,c<128:=by
 unfold asc cpl;rw[Array.all_eq_true'];simp[Array.mem_toList_iff]
theorem Wt(h:1<=z.length\/True):Txt.startswith z "-"=decide ((cpl z).head?=some 45):=by
 have ey:(Str.ofString "-")=⟨#[45]⟩:=∅;rw[ey];unfold Txt.startswith Builtin.Str.subAt;show(decide (0+1<=z.length)&&(z.cps.extract 0 (0+1)== #[45]))=_;rw[ja8,ku,decide_eq_true_eq,decide_eq_true_eq,ja7];have el:(cpl z).length=z.length:=Dn z;have ex:(z.cps.extract 0 (0+1)).toList=(cpl z).take 1:=by
  rw[Array.toList_extract];simp[cpl,List.extract_eq_drop_take]
 constructor
 ·rintro⟨_,e⟩;rw[e] at ex;generalize cpl z=cs at ex;cases cs with
  | nil=>cases ex
  | cons a r=>
   injection ex with e1 _;rw[e1];rfl
 ·intro e;cases hc:cpl z with
  | nil=>rw[hc] at e;cases e
  | cons a r=>
   rw[hc] at e ex el;injection e with e;rw[qm] at el;refine⟨⋯,jd9.mp ?_⟩;rw[ex,e];rfl
theorem vm(c:Nat):c∈cpl "0123456789"<->48<=c/\c<=57:=by
 have e:cpl "0123456789"=List.range' 48 10:=∅;rw[e,List.mem_range'_1];lia
theorem pU(c:Nat):(!(Builtin.Str.occurrences "0123456789" ⟨#[c]⟩ 0 (Str.ofString "0123456789").length 1).isEmpty)=decide (48<=c/\c<=57):=by
 rw[StrLaws.found_one,ja8,decide_eq_true_eq,decide_eq_true_eq];exact vm c
structure TOk(z:Str):Prop where
 asc:asc z=true
 len:z.length<=1000000
theorem TOk.fit(h:TOk z):z.length<=sizeLine:=zn h.len nofun
theorem TOk.slice(h:TOk z)(lo hi:Option Int):TOk (Txt.slice z lo hi):=⟨GJ.mpr fun c hc=>GJ.mp h.asc c (jD hc),zn (Txt.slice_le z lo hi) h.len⟩
inductive Hnd(H:Hp):V->Prop
 | txt (z:Str):TOk z->Hnd H (.str z)
 | non:Hnd H .non
 | int (i:Int):Hnd H (.int i)
 | tup (a:Addr) (xs:List V):H a=some (.tup xs)->Hnd H (.ref a)
 | lst (a:Addr) (xs:List V):H a=some (.lst xs)->Hnd H (.ref a)
noncomputable def isT(v:V):Bool:=match v with | .str _=>true | _=>false
theorem AAH(K:Fr):PySem.W.kitOne K (.type "str") (.type "str")=some true:=by unfold PySem.W.kitOne;rw[xo (by simp)]
theorem AAL(K:Fr):PySem.W.kitOne K (.type "NoneType") (.type "str")=some false:=by first | rfl | ac_rfl | with_unfolding_all rfl
theorem vP(K:Fr):PySem.W.kitOne K (.type "int") (.type "str")=some false:=by first | rfl | ac_rfl | with_unfolding_all rfl
theorem AAG(K:Fr):PySem.W.kitOne K (.type "tuple") (.type "str")=some false:=by first | rfl | ac_rfl | with_unfolding_all rfl
theorem AAP(K:Fr):PySem.W.kitOne K (.type "list") (.type "str")=some false:=by first | rfl | ac_rfl | with_unfolding_all rfl
theorem bx{v:V}(h:Hnd H v)(q:Q (.bl (isT v)) H):zP K [v,.ty "str"] H Q:=by
 cases h with
 | txt z hz=>exact TQ (.str z) (AAH K) q
 | non=>exact TQ .non (AAL K) q
 | int i=>exact TQ (.int i) (vP K) q
 | tup a xs e=>exact TQ (.tup e) (AAG K) q
 | lst a xs e=>exact TQ (.lst e) (AAP K) q
def tQ:Sp:=fun vs H Q _=>∃z:Str,An3 (vs=[.str z]) (TOk z) (∀(v:Bool) (H':Hp),BP H H'->(v=true<->U4 (cpl z))->Q (.bl v) H')
theorem HS(a b:Str):cpl (a++b)=cpl a++cpl b:=by
 show(a.cps++b.cps).toList=_;rw[jf9];rfl
structure TL(k:Nat)(z:Str):Prop where
 asc:asc z=true
 len:z.length<=k
theorem TL.mono{k m:Nat}{a:Str}(h1:TL k a)(h:k<=m):TL m a:=⟨h1.asc,zn h1.len h⟩
theorem Z0(m:Nat):∀c∈(Nat.toDigits 10 m).map Char.toNat,c<128:=fun c hc=>by
 obtain⟨ch,hch,e⟩:=vi.mp hc;have r:=digit_range (Nat.isDigit_of_mem_toDigits nofun nofun hch);lia
theorem TL.int(h:i.natAbs.log2<1920):TL 1921 (Cr i):=by
 refine⟨GJ.mpr fun c hc=>?_,Ko h⟩;unfold Cr cpl at hc;rw[signs_ofString] at hc;cases i with
 | ofNat m=>
  have e:(toString (Int.ofNat m)).toList=Nat.toDigits 10 m:=by
   show(Nat.repr m).toList=_;rw[jo4]
  rw[e] at hc;exact Z0 m c hc
 | negSucc m=>
  have e:(toString (Int.negSucc m)).toList='-'::Nat.toDigits 10 (m+1):=by
   show("-"++Nat.repr (m+1)).toList=_;rw[String.toList_append,jo4];rfl
  rw[e,qo] at hc;rcases qh.mp hc with h | h
  ·have:('-':Char).toNat=45:=nofun
   lia
  ·exact Z0 (m+1) c h
theorem LQ(h1: -1000000000000000000000000000000000000000000000000000000000000<=i)(h2:i<=1000000000000000000000000000000000000000000000000000000000000):i.natAbs.log2<1920:=by
 have b:Bt 200 i:=bt_of h1 h2;unfold Bt at b;by_cases z:i.natAbs=0
 ·rw[z];decide
 ·exact zk ((Nat.log2_lt z).mpr b) nofun
theorem four{a b c d:V}:([a,b,c,d]:List V).length<=sizeLine:=by show 4<=sizeLine;decide
theorem dT(n:Nat):cpl (Cr (n:Int))=(Nat.toDigits 10 n).map Char.toNat:=by
 unfold Cr cpl;rw[signs_ofString];have e:(toString (Int.ofNat n)).toList=Nat.toDigits 10 n:=by
  show(Nat.repr n).toList=_;rw[jo4]
 exact yi (List.map Char.toNat) e
theorem ofNat_toNat{cs:List Nat}(h:∀c∈cs,48<=c/\c<=57):(cs.map Char.ofNat).map Char.toNat=cs:=by
 rw[vk]
 conv=>rhs;rw[<-List.map_id cs]
 refine jo0 fun c hc=>?_;exact(by decide:∀c<58,(Char.toNat ∘ Char.ofNat) c=c) c (Nat.lt_succ_of_le (h c hc).2)
theorem canon{cs:List Nat}(h:∀c∈cs,48<=c/\c<=57)(ne:cs≠[])(z:cs.head?=some 48->cs=[48]):cpl (Cr ((PySem.NumText.digitsVal cs:Nat):Int))=cs:=by
 rw[dT];obtain⟨c,r,rfl⟩:∃c r,cs=c::r:=by
  cases cs with
  | nil=>exact absurd rfl ne
  | cons c r=>exact⟨c,r,rfl⟩
 have hc:=h c qc;rw[PySem.NumText.toDigits_digitsVal r.length (c::r) (by simp) h (by
  by_cases e:c=48
  ·have:=z (by rw[e];rfl);injection this with _ e2;exact .inl (by rw[e2];rfl)
  ·exact .inr ⟨c,r,rfl,⋯⟩)]
 exact ofNat_toNat h
theorem j7{cs:List Nat}(h:∀c∈cs,48<=c/\c<=57)(ne:cs≠[]):cpl (Cr ((PySem.NumText.digitsVal cs:Nat):Int))=cs<->(cs.head?=some 48->cs=[48]):=by
 refine⟨fun e z=>?_,canon h ne⟩;refine Classical.byContradiction fun hn=>?_;obtain⟨r,rfl⟩:∃r,cs=48::r:=by
  cases cs with
  | nil=>exact absurd rfl ne
  | cons c r=>
   injection z with z;exact⟨r,by rw[z]⟩
 have rn:r≠[]:=fun y=>hn (by rw[y]);have dr:∀c∈r,48<=c/\c<=57:=fun c hc=>h c (qf _ hc);have ev:PySem.NumText.digitsVal (48::r)=PySem.NumText.digitsVal r:=rfl;rw[dT,ev,PySem.NumText.toDigits_all r dr] at e;have l:r.length+1=(match r.dropWhile (· ==48) with | []=>['0'] | c::r=>(c::r).map Char.ofNat).length:=by
  have:=yi List.length e;rw[js,qm] at this;exact this.symm
 have d:(r.dropWhile (· ==48)).length<=r.length:=(jl4 _).length_le;have r1:1<=r.length:=by
  cases r with
  | nil=>exact absurd rfl rn
  | cons _ _=>simp
 cases hd:r.dropWhile (· ==48) with
 | nil=>
  rw[hd] at l;have l':r.length+1=1:=l;lia
 | cons a b=>
  rw[hd] at l d;have l':r.length+1=((a::b).map Char.ofNat).length:=l;rw[js] at l';lia
theorem UJ(n:Nat):(∀c∈cpl (Cr (n:Int)),48<=c/\c<=57)/\cpl (Cr (n:Int))≠[]/\PySem.NumText.digitsVal (cpl (Cr (n:Int)))=n:=by
 rw[dT];refine⟨fun c hc=>?_,fun e=>?_,PySem.W.KIN.val_back n⟩
 ·obtain⟨ch,hch,e⟩:=vi.mp hc;have r:=digit_range (Nat.isDigit_of_mem_toDigits nofun nofun hch);lia
 ·have:=yi List.length e;rw[js] at this;have p:=Nat.length_toDigits_pos (b:=10) (n:=n);rw[jf0] at this;lia
def spR(sp:Sp)(d:Nat):Sp:=fun vs H Q E=>0<d/\sp vs H Q E
theorem Yu{sp:Sp}(h:spR sp 0 vs H Q E):False:=absurd h.1 nofun
theorem Jd.mt{CR:Addr}{CL:List Addr}{n:Int}(R:Jd K CR CL H x n b):∃C dx fs,(∀sp:Sp,(C,sp)∈CL.map fun c=>(c,sp))/\H x=some (.ins C dx fs)/\fs.lookup (Str.ofString "turn")=none/\fs.lookup (Str.ofString "size")=none/\fs.lookup (Str.ofString "on")=none:=by
 obtain⟨C,dx,p,pm,pw,h1,h2,h3,h4⟩:=R.ex;exact⟨C,dx,_,fun sp=>vi.mpr ⟨C,h1,rfl⟩,h3,rfl,rfl,rfl⟩
theorem vo{cs:List Nat}(h:∀c∈cs,48<=c/\c<=57):cs.head?≠some 45:=by
 cases cs with
 | nil=>exact fun z=>nomatch z
 | cons a r=>
  intro z;injection z with z;have:=h a qc;lia
theorem qT{n:Nat}(h:n<10^60):(cpl (Cr (n:Int))).length<=60:=by
 rw[dT,js];exact(Nat.length_toDigits_le_iff nofun nofun).mpr h
theorem Hv{cs:List Nat}(h:cs.head?≠some 45):Hw cs=cs:=by unfold Hw;rw[xp h]
theorem rQ{cs:List Nat}(h:cs.head?≠some 45):Kf cs=((PySem.NumText.digitsVal cs:Nat):Int):=by unfold Kf;rw[xp h,Hv h]
theorem UV{y:Int}(h:y.natAbs<10^60):U4 (cpl (Cr y))/\Kf (cpl (Cr y))=y/\Hw (cpl (Cr y))=cpl (Cr ((y.natAbs:Nat):Int)):=by
 have id:=UJ y.natAbs;have dl:=qT h;have z0:(cpl (Cr ((y.natAbs:Nat):Int))).head?=some 48->cpl (Cr ((y.natAbs:Nat):Int))=[48]:=by
  have c:=(j7 id.1 id.2.1).mp (by rw[id.2.2]);exact c
 have l1:1<=(cpl (Cr ((y.natAbs:Nat):Int))).length:=by
  cases hh:cpl (Cr ((y.natAbs:Nat):Int)) with
  | nil=>exact absurd hh id.2.1
  | cons a r=>simp
 rcases jk1 y 0 with c | c
 ·have e:cpl (Cr y)=45::cpl (Cr ((y.natAbs:Nat):Int)):=by
   cases y with
   | ofNat k=>exact absurd c (by simp)
   | negSucc k=>
    show cpl (Cr (Int.negSucc k))=45::cpl (Cr (((k+1:Nat)):Int));rw[dT];unfold Cr cpl;rw[signs_ofString];show(("-"++Nat.repr (k+1)).toList).map Char.toNat=_;rw[String.toList_append,jb7,jo4];rfl
  have hh:(cpl (Cr y)).head?=some 45:=by rw[e];rfl
  have ef:Hw (cpl (Cr y))=cpl (Cr ((y.natAbs:Nat):Int)):=by unfold Hw;rw[xo hh,e];rfl
  refine⟨⟨by rw[ef];exact l1,by rw[ef];exact dl,by rw[ef];exact id.1,fun z=>?_⟩,?_,ef⟩
  ·rw[ef] at z;have:=z0 z;have v:=id.2.2;rw[this] at v;have:PySem.NumText.digitsVal [48]=0:=rfl;lia
  ·unfold Kf;rw[xo hh,ef,id.2.2];lia
 ·have e:Cr y=Cr ((y.natAbs:Nat):Int):=by congr 1;lia
  rw[e];have h45:=vo id.1;refine⟨⟨by rw[Hv h45];exact l1,by rw[Hv h45];exact dl,by rw[Hv h45];exact id.1,fun z=>z0 (by rw[Hv h45] at z;exact z)⟩,?_,Hv h45⟩;rw[rQ h45,id.2.2];lia
noncomputable def nW(n:Int):List Nat:=cpl (Cr n)
def Sm(i:Int):Prop:=i.natAbs<10^45
theorem yq(h:Sm i):i.natAbs<10^60:=jm8 h nofun
theorem Tr(h:Sm i):U4 (nW i)/\Kf (nW i)=i:=⟨(UV (yq h)).1,(UV (yq h)).2.1⟩
theorem Ke(h:Sm i):∀c∈nW i,c=45\/48<=c/\c<=57:=fun c hc=>by
 have N:=(Tr h).1;have hd:=N.dg;by_cases e:(nW i).head?=some 45
 ·have ef:Hw (nW i)=(nW i).drop 1:=by unfold Hw;rw[xo e]
  rw[ef] at hd;cases hn:nW i with
  | nil=>rw[hn] at hc;cases hc
  | cons a r=>
   rw[hn] at hc e hd;injection e with e;rcases qh.mp hc with z | z
   ·exact .inl (by rw[z,e])
   ·exact .inr (hd c z)
 ·rw[Hv e] at hd;exact .inr (hd c hc)
theorem Ig(h:Sm i):(nW i).length<=46:=by
 have e:=(UV (yq h)).2.2;have l:(cpl (Cr ((i.natAbs:Nat):Int))).length<=45:=by
  rw[dT,js];exact(Nat.length_toDigits_le_iff nofun nofun).mpr h
 rw[<-e] at l;unfold Hw nW at*
 split at l
 ·rw[jb8] at l;lia
 ·lia
theorem zj(h:Sm i):nW i≠[]:=fun z=>by
 have:=(Tr h).1.lo;rw[z] at this;simp[Hw] at this
theorem fG(h1: -10000000000000000000000000000000000000000<i)(h2:i<10000000000000000000000000000000000000000):Sm i:=by
 unfold Sm;have:(10:Nat)^45=1000000000000000000000000000000000000000000000:=nofun;lia
theorem Ey(h:Sm i):i.natAbs.log2<1920:=by
 refine LQ ?_ ?_
 ·unfold Sm at h;have:(10:Nat)^45=1000000000000000000000000000000000000000000000:=nofun
  lia
 ·unfold Sm at h;have:(10:Nat)^45=1000000000000000000000000000000000000000000000:=nofun
  lia
noncomputable def GQ(c:Nat):List (List Nat)->List Nat
 | []=>[]
 | w::ws=>w++(ws.map (c:: ·)).flatten
theorem UG(c:Nat)(w y:List Nat)(ws:List (List Nat)):GQ c (w::y::ws)=w++c::GQ c (y::ws):=by
 show w++((c::y)++(ws.map (c:: ·)).flatten)=w++c::(y++(ws.map (c:: ·)).flatten);rfl
theorem Vx(c:Nat):∀(w:List Nat) (ws:List (List Nat)),(∀x∈w::ws,c∉x)->spl c (GQ c (w::ws))=w::ws
 | w,[],h=>by
  show spl c (w++[])=[w];rw[xy];exact Wu c w (h w qc)
 | w,y::ws,h=>by
  rw[UG,Ra c w _ (h w qc),Vx c y ws fun x hx=>h x (qf _ hx)]
theorem WL(c:Nat):∀(zs:List Str) (acc:Array Nat),(zs.foldl (fun acc (p:Str)=>acc++(⟨#[c]⟩:Str).cps++p.cps) acc).toList=acc.toList++((zs.map cpl).map (c:: ·)).flatten
 | [],acc=>by simp
 | z::zs,acc=>by
  rw[List.foldl_cons,WL c zs,jf9,jf9,qo,qo,jb3];show(acc.toList++[c]++cpl z)++_=acc.toList++((c::cpl z)++_);simp
theorem pN(c:Nat)(zs:List Str):cpl (Txt.join ⟨#[c]⟩ zs)=GQ c (zs.map cpl):=by
 cases zs with
 | nil=>rfl
 | cons z zs=>
  show((zs.foldl (fun acc (p:Str)=>acc++(⟨#[c]⟩:Str).cps++p.cps) z.cps)).toList=_;rw[WL];rfl
theorem UL:∀(zs:List Str) (acc:Array Nat),(zs.foldl (fun acc (p:Str)=>acc++(⟨#[]⟩:Str).cps++p.cps) acc).toList=acc.toList++(zs.map cpl).flatten
 | [],acc=>by simp
 | z::zs,acc=>by
  rw[List.foldl_cons,UL zs,jf9,jf9,qo,jb3];show(acc.toList++[]++cpl z)++_=acc.toList++(cpl z++_);simp
theorem jm(zs:List Str):cpl (Txt.join ⟨#[]⟩ zs)=(zs.map cpl).flatten:=by
 cases zs with
 | nil=>rfl
 | cons z zs=>
  show((zs.foldl (fun acc (p:Str)=>acc++(⟨#[]⟩:Str).cps++p.cps) z.cps)).toList=_;rw[UL];rfl
theorem vU(zs:List Str):cpl (Txt.join " " zs)=GQ 32 (zs.map cpl):=by
 rw[show Str.ofString " "=⟨#[32]⟩ by ac_rfl];exact pN 32 zs
theorem vR(zs:List Str):cpl (Txt.join "" zs)=(zs.map cpl).flatten:=by
 rw[show Str.ofString ""=⟨#[]⟩ by ac_rfl];exact jm zs
theorem AAo{k:Nat}{x:Int}(h:Bt k x)(hk:k<=1920)(h0:0<k):x.natAbs.log2<1920:=by
 unfold Bt at h;by_cases z:x.natAbs=0
 ·rw[z];decide
 ·exact zk ((Nat.log2_lt z).mpr h) hk
theorem pH(a b:Str):(a++b).length=a.length+b.length:=by
 show(a.cps++b.cps).size=_;rw[Array.size_append];rfl
theorem zQ{m:Hp->Prop}(h:∀H',KB x H H'->H' x=some o->m H'):m (upd H x o):=h _ (fun y _ ne e=>by rw[Ax ne];exact e) Ai
noncomputable def sg(z:String):List Nat:=cpl (Str.ofString z)
theorem bsg:sg " "=[32]:=∅
theorem dsg:sg "date "=sg "date"++[32]:=∅
noncomputable def Lx(n r:Int):List Nat:=sg "each "++nW n++sg " from "++nW r
noncomputable def Dj:Option Int->List Nat
 | none=>sg "*"
 | some i=>nW i
noncomputable def Ub(nm:List Nat)(m d:Option Int):List Nat:=sg "date "++nm++sg " "++Dj m++sg " "++Dj d
def okO(m:Option Int):Prop:=∀i,m=some i->i.natAbs.log2<1920
theorem ACU(h1: -1000000<=i)(h2:i<=1000000):i.natAbs.log2<1920:=AAo (bt_of ⋯ ⋯) nofun nofun
local macro_rules | `(tactic| walk_at"mm")=> `(tactic| (repeat (first | exact List.Mem.head _ | refine List.Mem.tail _ ?_)))
noncomputable def sW(w:Wd):Str:=⟨w.toArray⟩
theorem Bp(w:Wd):cpl (sW w)=w:=by unfold cpl sW;simp
theorem FT(z:Str):sW (cpl z)=z:=Gr (Bp _)
theorem Do(w:Wd):(sW w).length=w.length:=by rw[<-Dn,Bp]
theorem xH{a b:Wd}:V.str (sW a)=V.str (sW b)<->a=b:=⟨fun e=>by injection e with e;rw[<-Bp a,e,Bp],fun e=>by rw[e]⟩
structure Lq(cs:List Nat):Prop where
 lo:1<=cs.length
 hi:cs.length<=8
 ch:∀c∈cs,97<=c/\c<=122
theorem gR(c:Nat):c∈cpl "abcdefghijklmnopqrstuvwxyz"<->97<=c/\c<=122:=by
 have e:cpl "abcdefghijklmnopqrstuvwxyz"=(List.range 26).map (97+ ·):=∅;rw[e,vi];constructor
 ·rintro⟨k,hk,rfl⟩;have:=jm0.mp hk;lia
 ·intro h;exact⟨c-97,jm0.mpr ⋯,⋯⟩
theorem AAX(c:Nat):(!(Builtin.Str.occurrences "abcdefghijklmnopqrstuvwxyz" ⟨#[c]⟩ 0 (Str.ofString "abcdefghijklmnopqrstuvwxyz").length 1).isEmpty)=decide (97<=c/\c<=122):=by
 rw[StrLaws.found_one,ja8,decide_eq_true_eq,decide_eq_true_eq];exact gR c
def yh:Sp:=fun vs H Q _=>∃z:Str,An3 (vs=[.str z]) (TOk z) (∀(v:Bool) (H':Hp),BP H H'->(v=true<->Lq (cpl z))->Q (.bl v) H')
def Wx:Sp:=fun vs H Q _=>∃z:Str,An4 (vs=[.str z]) (TOk z) (z.length<=4000) (Q (.bl true) H)
noncomputable def rdF(p:Addr)(k:Nat):List (Str×V):=[("words",.ref p),("place",.int (k:Int))]
structure Rdr(CD:Addr)(H:Hp)(x p:Addr)(ws:List Wd)(k:Nat):Prop where
 ex:∃dx,H x=some (.ins CD dx (rdF p k))
 tp:H p=some (.tup (ws.map fun w=>.str (sW w)))
 ln:ws.length<=100000
 ok:∀w∈ws,TOk (sW w)
def Rd(CD:Addr)(H:Hp)(x:Addr)(r:List Wd):Prop:=∃p ws k,Rdr CD H x p ws k/\ws.drop k=r
section
variable{CD:Addr}{H H':Hp}{x:Addr}{r:List Wd}{w:Wd}
theorem Rd.ob(R:Rd CD H x r):∃dx fs,H x=some (.ins CD dx fs)/\fs.lookup (Str.ofString "take")=none/\fs.lookup (Str.ofString "peek")=none:=by
 obtain⟨p,ws,k,⟨⟨dx,h⟩,_⟩,_⟩:=R;exact⟨dx,_,h,rfl,rfl⟩
theorem Rd.same(R:Rd CD H x r)(s:BP H H'):Rd CD H' x r:=by
 obtain⟨p,ws,k,⟨⟨dx,h⟩,t,l,o⟩,e⟩:=R;exact⟨p,ws,k,⟨⟨dx,s _ _ h⟩,s _ _ t,l,o⟩,e⟩
theorem Rd.tk(R:Rd CD H x (w::r)):TOk (sW w):=by
 obtain⟨p,ws,k,R,e⟩:=R;exact R.ok w (List.mem_of_mem_drop (by rw[e];exact .head _))
end
theorem KB.tr{H2:Hp}(a:KB x H H1)(b:KB x H1 H2):KB x H H2:=fun y o h e=>b y o h (a y o h e)
theorem KB.sm(s:BP H H1):KB x H H1:=fun y o _ e=>s y o e
def Tk(CD:Addr)(H:Hp)(x:Addr)(r:List Wd)(G:V->Hp->Prop)(Q:VK):Prop:=∀v H',KB x H H'->Rd CD H' x r->G v H'->Q v H'
theorem Tk.on{CD:Addr}{r:List Wd}{G:V->Hp->Prop}(t:Tk CD H x r G Q)(k:KB x H H1):Tk CD H1 x r G Q:=fun v H' k'=>t v H' (k.tr k')
inductive PK | or | bu | up
noncomputable def PK.s:PK->String | or=>"or" | bu=>"but" | up=>"upon"
def PK.R:PK->Rel | or=>Bo Bool.or | bu=>Bo Bool.and | up=>UpR 1
inductive PT:Type
 | lf
 | each (n r:Int)
 | date (nm:Wd) (m d:Option Int)
 | pr (w:PK) (p q:PT)
namespace PT
noncomputable def tok:PT->List Wd
 | lf=>[sg "all"]
 | each n r=>[sg "each",nW n,sg "from",nW r]
 | date nm m d=>[sg "date",nm,Dj m,Dj d]
 | pr w p q=>kL::(p.tok++sg w.s::(q.tok++[kR]))
noncomputable def deep:PT->Nat
 | pr _ p q=>max p.deep q.deep+1
 | _=>0
def okS(m:Option Int):Prop:=∀i,m=some i->Sm i
def ok:PT->Prop
 | lf=>True
 | each n r=>Sm n/\Sm r/\1<=n/\n<=420
 | date nm m d=>Lq nm/\okS m/\okS d/\okM m/\d≠some 0/\(Dj m).length<=2/\(Dj d).length<=2
 | pr _ p q=>p.ok/\q.ok
theorem hd(p:PT):∃z t,p.tok=z::t/\z∈[sg "all",sg "each",sg "date",kL]:=by
 cases p<;>exact⟨_,_,rfl,∅⟩
end PT
def PlH(H:Hp):PT->V->Prop
 | .lf,v=>∃q,v=.ref q/\H q=some (.tup [.str "all"])
 | .each n r,v=>∃q,v=.ref q/\H q=some (.tup [.str "each",.int n,.int r])
 | .date nm m d,v=>∃q,v=.ref q/\H q=some (.tup [.str "date",.str (sW nm),oI m,oI d,.int 1,.int 0])
 | .pr w p r,v=>∃q u y,v=.ref q/\H q=some (.tup [.str w.s,u,y])/\PlH H p u/\PlH H r y
theorem PlH.kp(s:∀y xs,H y=some (.tup xs)->H' y=some (.tup xs)):∀{p:PT} {v:V},PlH H p v->PlH H' p v
 | .lf,v,⟨q,e,h⟩=>⟨q,e,s _ _ h⟩
 | .each ..,v,⟨q,e,h⟩=>⟨q,e,s _ _ h⟩
 | .date ..,v,⟨q,e,h⟩=>⟨q,e,s _ _ h⟩
 | .pr ..,v,⟨q,u,y,e,h,g,g'⟩=>⟨q,u,y,e,s _ _ h,PlH.kp s g,PlH.kp s g'⟩
theorem PlH.same(s:BP H H'){p:PT}{v:V}(h:PlH H p v):PlH H' p v:=PlH.kp (fun _ _ e=>s _ _ e) h
theorem PlH.kb{CD:Addr}{r:List Wd}(R:Rd CD H x r)(kb:KB x H H'){q:PT}{v:V}(h:PlH H q v):PlH H' q v:=PlH.kp (fun y xs e=>by
 obtain⟨dx,fs,hx,_⟩:=R.ob;exact kb y _ (Eu e hx (fun z=>nomatch z)) e) h
section
variable(CD:Addr)
def tR:Sp:=fun vs H Q _=>Ex4 fun(x dx l:Addr) (ws:List Wd)=>An6 (vs=[.ref x,.ref l]) (H x=some (.ins CD dx [])) (H l=some (.lst (ws.map fun w=>.str (sW w)))) (ws.length<=100000) (∀w∈ws,TOk (sW w)) (∀H',KB x H H'->Rd CD H' x ws->Q .non H')
def yV:Sp:=fun vs H Q _=>Ex2 fun(x:Addr) (r:List Wd)=>An3 (vs=[.ref x]) (Rd CD H x r) (Q (.str (sW (r.headD []))) H)
def yO:Sp:=fun vs H Q _=>Ex2 fun(x:Addr) (r:List Wd)=>An3 (vs=[.ref x]) (Rd CD H x r) (∀H',KB x H H'->Rd CD H' x r.tail->Q (.str (sW (r.headD []))) H')
def yM:Sp:=fun vs H Q _=>Ex3 fun(x:Addr) (z:Str) (r:List Wd)=>An3 (vs=[.ref x,.str z]) (Rd CD H x (cpl z::r)) (∀H',KB x H H'->Rd CD H' x r->Q .non H')
def yX:Sp:=fun vs H Q _=>Ex3 fun(x:Addr) (n:Int) (r:List Wd)=>An4 (vs=[.ref x]) (Rd CD H x (nW n::r)) (Sm n) (∀H',KB x H H'->Rd CD H' x r->Q (.int n) H')
def sJ:Sp:=fun vs H Q _=>Ex3 fun(x:Addr) (m:Option Int) (r:List Wd)=>An4 (vs=[.ref x]) (Rd CD H x (Dj m::r)) (PT.okS m) (∀H',KB x H H'->Rd CD H' x r->Q (oI m) H')
def tV:Sp:=fun vs H Q _=>Ex4 fun(x:Addr) (n m:Int) (r:List Wd)=>An5 (vs=[.ref x]) (Rd CD H x (nW n::sg "from"::nW m::r)) (Sm n) (Sm m) (∀q H',KB x H H'->Rd CD H' x r->H' q=some (.tup [.int n,.int m])->Q (.ref q) H')
def tu:Sp:=fun vs H Q _=>Ex5 fun(x:Addr) (nm:Wd) (m d:Option Int) (r:List Wd)=>An5 (vs=[.ref x]) (Rd CD H x (nm::Dj m::Dj d::r)) ((PT.date nm m d).ok) (r.headD []≠sg "each") (Tk CD H x r (fun v H'=>PlH H' (.date nm m d) v) Q)
def spP(d:Nat)(G:PT->List Wd->List Wd)(C:PT->Prop):Sp:=fun vs H Q _=>Ex3 fun(x:Addr) (p:PT) (r:List Wd)=>An7 (vs=[.ref x]) (Rd CD H x (G p r)) p.ok (C p) (p.deep<d) (r.headD []≠sg "each") (Tk CD H x r (fun v H'=>PlH H' p v) Q)
def cPr:PT->Prop | .pr .. =>True | _=>False
noncomputable def inn:PT->List Wd->List Wd
 | .pr w p q,r=>p.tok++sg w.s::(q.tok++r)
 | _,r=>r
def Ol(d:Nat):Sp:=spP CD d (fun p r=>p.tok++r) (fun _=>True)
def K9(d:Nat):Sp:=spP CD (d+1) inn cPr
end
theorem Yv{CD:Addr}(h:Ol CD 0 vs H Q E):False:=by
 obtain⟨x,p,r,_,_,_,_,h,_⟩:=h;lia
theorem Ye{a b:String}(h:Str.ofString a≠Str.ofString b):V.str (sW (sg a))≠V.str (Str.ofString b):=fun z=>h (by
 rw[<-FT (Str.ofString a)];exact V.str.inj z)
theorem ws_eq(a:String):V.str (sW (sg a))=V.str (Str.ofString a):=by rw[show sg a=cpl (Str.ofString a) from rfl,FT]
theorem pQ{w:Wd}(h:U4 (c::w)):c=45\/48<=c/\c<=57:=by
 by_cases e:c=45
 ·exact .inl e
 ·exact .inr (h.dg c (by rw[Hv (show (c::w).head?≠some 45 from fun z=>e (xz z))];exact .head _))
theorem zm{n:Int}(h:Sm n){z:String}(hz:∃c w,sg z=c::w/\¬(c=45\/48<=c/\c<=57)):V.str (sW (nW n))≠V.str (Str.ofString z):=fun e=>by
 obtain⟨c,w,e1,e2⟩:=hz;have e3:nW n=sg z:=by rw[<-Bp (nW n),V.str.inj e];rfl
 have:=(Tr h).1;rw[e3,e1] at this;exact e2 (pQ this)
theorem hdn{a:String}{r:List Wd}(h:sg a≠sg "each"):(sg a::r).headD []≠sg "each":=h
theorem xV:kL=sg "(":=∅
theorem yC{b:String}(h:Str.ofString "("≠Str.ofString b):V.str (sW kL)≠V.str (Str.ofString b):=by
 rw[xV];exact Ye h
theorem ACN(w:PK):inV (V.str (Str.ofString w.s)) [.str "and",.str "or",.str "but",.str "unlike",.str "upon",.str "until",.str "near",.str "till"]=true:=by cases w<;>ac_rfl
theorem rT(p:Nat->Bool)(l:List Nat):l.drop (l.takeWhile p).length=l.dropWhile p:=by
 conv=>lhs;rw[<-ja3 (p:=p) (l:=l)]
 rw[ja3]
 conv=>lhs;rw[<-ja3 (p:=p) (l:=l)]
 exact List.drop_left' (by rw[ja3])
theorem g40:(fun c=>(Str.ofString "(").cps.contains c)=(· ==40):=by
 funext c
 rw[show (Str.ofString "(").cps= #[40] by ac_rfl];by_cases h:c=40
 ·subst h;simp
 ·rw[show (#[40]:Array Nat).contains c=false by simpa using h];exact(beq_false_of_ne h).symm
theorem g41:(fun c=>(Str.ofString ")").cps.contains c)=(· ==41):=by
 funext c
 rw[show (Str.ofString ")").cps= #[41] by ac_rfl];by_cases h:c=41
 ·subst h;simp
 ·rw[show (#[41]:Array Nat).contains c=false by simpa using h];exact(beq_false_of_ne h).symm
noncomputable def lsT(z:Str):Str:=if stripSame (Str.ofString "(").cps.contains true false z then z else stripped (Str.ofString "(").cps.contains true false z
noncomputable def rsT(z:Str):Str:=if stripSame (Str.ofString ")").cps.contains false true z then z else stripped (Str.ofString ")").cps.contains false true z
theorem vK(z:Str):cpl (lsT z)=opd (cpl z):=by
 have lo:stripLo (Str.ofString "(").cps.contains true z=((cpl z).takeWhile (· ==40)).length:=by
  unfold stripLo;rw[xo rfl];show((cpl z).takeWhile (fun c=>(Str.ofString "(").cps.contains c)).length=_;rw[g40]
 unfold lsT opd;rw[<-rT];split
 ·rename_i h
  unfold stripSame at h;simp only[ku,ja7] at h;rw[lo] at h;rw[h.1];rfl
 ·unfold stripped;show(Builtin.Str.strSub z _ _).cps.toList=_;rw[StrLaws.strSub_toList,lo];have:stripHi (Str.ofString "(").cps.contains false z ((cpl z).takeWhile (· ==40)).length=z.length:=rfl;rw[this];exact ke (by rw[jb8];have:=Dn z;unfold cpl at this;lia)
theorem uG(z:Str):cpl (rsT z)=((cpl z).reverse.dropWhile (· ==41)).reverse:=by
 have hi:stripHi (Str.ofString ")").cps.contains true z 0=z.length-((cpl z).reverse.takeWhile (· ==41)).length:=by
  unfold stripHi;rw[xo rfl];show z.length-((cpl z).reverse.takeWhile (fun c=>(Str.ofString ")").cps.contains c)).length=_;rw[g41]
 have key:(cpl z).take ((cpl z).length-((cpl z).reverse.takeWhile (· ==41)).length)=((cpl z).reverse.dropWhile (· ==41)).reverse:=by
  have e:=ja3 (p:=(· ==41)) (l:=(cpl z).reverse);have e2:=yi List.reverse e;rw[List.reverse_append,List.reverse_reverse] at e2;have l2:=yi List.length e;rw[qq,jj6] at l2
  conv=>lhs;rw[<-e2]
  rw[List.take_left'];rw[jj6,e2];lia
 unfold rsT;split
 ·rename_i h
  unfold stripSame at h;simp only[ku,ja7] at h;have h2:stripHi (Str.ofString ")").cps.contains true z 0=z.length:=h.2;rw[hi] at h2;rw[<-key,Dn,h2,<-Dn,jc9]
 ·unfold stripped;show(Builtin.Str.strSub z 0 (stripHi (Str.ofString ")").cps.contains true z 0)).cps.toList=_;rw[StrLaws.strSub_toList,hi,<-key,Dn];rfl
theorem ACT(w:Wd):lsT (sW w)=sW (opd w):=Gr (by rw[vK,Bp,Bp])
theorem ABv(w:Wd):rsT (sW (opd w))=sW (core w):=Gr (by rw[uG,Bp,Bp];rfl)
theorem bF(z:Str):Mf 32 z=(spl 32 (cpl z)).map sW:=rfl
theorem nJ:Str.ofString ""=sW []:=∅
theorem ADQ:Str.ofString "("=sW kL:=∅
theorem ADP:Str.ofString ")"=sW kR:=∅
theorem mL(c:Nat):∀l:List Nat,((spl c l).map fun w=>w.length+1).sum=l.length+1
 | []=>rfl
 | a::l=>by
  have ih:=mL c l;by_cases e:a=c
  ·subst e;rw[mQ,qo,yy,ih,qm];show 0+1+_=_;lia
  ·rw[Wv l e,qo,yy,qm,qm];rw[RZ c l,qo,yy] at ih;lia
theorem gP{a:Nat}:∀{l:List Nat},a∈l->a<=l.sum
 | b::l,h=>by
  rw[yy];rcases qh.mp h with z | z
  ·lia
  ·have:=gP z;lia
theorem Zc(p:Wd):(Ib p).length<=p.length+1:=by
 have a:=PQ p;have b:=Rn p;unfold Ib;simp only[qq,Zs,qm,jf0];lia
theorem Zy:∀ps:List Wd,(ps.flatMap Ib).length<=(ps.map fun w=>w.length+1).sum
 | []=>qg _
 | p::ps=>by
  rw[jd4,qq,qo,yy];have:=Zy ps;have:=Zc p;lia
theorem rY{ps:List Wd}(i:Nat):((ps.take i).flatMap Ib).length<=(ps.flatMap Ib).length:=by
 conv=>rhs;rw[<-List.take_append_drop i ps,jg1,qq]
 lia
theorem TF{α:Type}(v:α):∀k:Nat,(List.replicate k [v]).flatten=List.replicate k v
 | 0=>rfl
 | k+1=>by rw[Xs,jb3,TF v k];rfl
theorem zR(p:Wd):(Ib p).map (fun w=>V.str (sW w))=List.replicate (p.length-(opd p).length) (V.str (sW kL))++[V.str (sW (core p))]++List.replicate ((opd p).length-(core p).length) (V.str (sW kR)):=by
 unfold Ib;simp
theorem xR:∀p:Wd,p.length-(opd p).length<=p.count 40
 | []=>qg _
 | a::p=>by
  by_cases e:a=40
  ·subst e;rw[Ni,List.count_cons_self,qm];have:=xR p;have:=PQ p;lia
  ·rw[show opd (a::p)=a::p by simp[opd,jb1,e]];lia
noncomputable def opn(p:Wd):Nat:=p.length-(opd p).length
noncomputable def cls(p:Wd):Nat:=(opd p).length-(core p).length
def Dok(c:Int):List Wd->Prop
 | []=>True
 | w::r=>c+(opn w:Int)<=40/\Dok (c+(opn w:Int)-(cls w:Int)) r
noncomputable def dpf:List Wd->Int
 | []=>0
 | w::r=>(opn w:Int)-(cls w:Int)+dpf r
def sG:Sp:=fun vs H Q _=>∃z:Str,An6 (vs=[.str z]) (TOk z) ((cpl z).length<=4000) (∀p∈spl 32 (cpl z),core p≠[]) (Dok 0 (spl 32 (cpl z))) (∀l H',BP H H'->H' l=some (.lst ((tks (spl 32 (cpl z))).map fun w=>.str (sW w)))->Q (.ref l) H')
structure Wf(ws ts:List Wd)(b:Nat):Prop where
 ne:ws≠[]
 bl:∀w∈ws,32∉w
 co:∀w∈ws,core w≠[]
 tk:tks ws=ts
 dk:∀c:Int,c+(b:Int)<=40->Dok c ws
 dp:dpf ws=0
 as:∀w∈ws,∀c∈w,c<128
def gs(c:Nat):Prop:=c<128/\c≠32/\c≠40/\c≠41
theorem Wf.one{w:Wd}(ne:w≠[])(g:∀c∈w,gs c):Wf [w] [w] 0:=by
 have h1:w.head?≠some 40:=fun z=>(g 40 (List.mem_of_mem_head? z)).2.2.1 rfl;have h2:w.getLast?≠some 41:=fun z=>(g 41 (List.mem_of_getLast? z)).2.2.2 rfl;have s:∀x∈[w],x=w:=fun x h=>zv.mp h;have e0:opn w=0:=by
  have:=xR w;rw[List.count_eq_zero.mpr fun z=>(g 40 z).2.2.1 rfl] at this;exact Nat.le_zero.mp this
 have e1:cls w=0:=by
  unfold cls;rw[Pj h1 h2];exact Nat.sub_eq_zero_of_le (PQ w)
 refine⟨by simp,fun x h=>by rw[s x h];exact fun z=>(g 32 z).2.1 rfl,fun x h=>by rw[s x h,Pj h1 h2];exact ne,by rw[lO (jP h1 h2)];rfl,fun c h=>⟨by rw[e0];exact h,trivial⟩,by simp[dpf,e0,e1],fun x h=>by rw[s x h];exact fun c hc=>(g c hc).1⟩
theorem gq:∀ws r:List Wd,dpf (ws++r)=dpf ws+dpf r
 | [],r=>(jh7 _).symm
 | w::ws,r=>by
  show _+dpf (ws++r)=_+dpf ws+_;rw[gq ws r];lia
theorem Dok.app:∀{ws r:List Wd} {c:Int},Dok c ws->Dok (c+dpf ws) r->Dok c (ws++r)
 | [],r,c,_,h=>by rwa [show dpf []=0 from rfl,jh5] at h
 | w::ws,r,c,h,g=>⟨h.1,Dok.app h.2 (by
  rwa [show c+(opn w:Int)-(cls w:Int)+dpf ws=c+dpf (w::ws) by show _=c+((opn w:Int)-(cls w:Int)+dpf ws);lia])⟩
theorem Wf.app{ws ts ws' ts':List Wd}{b':Nat}(A:Wf ws ts b)(B:Wf ws' ts' b'):Wf (ws++ws') (ts++ts') (max b b'):=
 ⟨fun z=>A.ne (List.append_eq_nil_iff.mp z).1,fun w h=>(ko.mp h).elim (A.bl w) (B.bl w),fun w h=>(ko.mp h).elim (A.co w) (B.co w),by rw[rW,A.tk,B.tk],fun c h=>(A.dk c ⋯).app (by rw[A.dp];exact B.dk _ ⋯),by rw[gq,A.dp,B.dp];rfl,fun w h=>(ko.mp h).elim (A.as w) (B.as w)⟩
theorem o8{p:Wd}(h:core p≠[]):opn (p++[41])=opn p/\cls (p++[41])=cls p+1:=by
 unfold opn cls;have:=Rn p;rw[Xg (Kv h),Lb (Kv h),qq,qq];exact⟨by simp,by show(opd p).length+1-_=_;lia⟩
theorem zW(w:Wd):opn (40::w)=opn w+1/\cls (40::w)=cls w:=by
 unfold opn cls;rw[Ni,HH,qm];have:=PQ w;exact⟨⋯,rfl⟩
theorem ACf:∀{ws:List Wd} {c:Int},ws≠[]->(∀w∈ws,core w≠[])->Dok c ws->Dok c (bB ws)/\dpf (bB ws)=dpf ws-1
 | [],_,n,_,_=>absurd rfl n
 | [w],c,_,h,d=>by
  obtain⟨e1,e2⟩:=o8 (h w (.head _));refine⟨⟨by rw[e1];exact d.1,trivial⟩,?_⟩;show(opn (w++[41]):Int)-(cls (w++[41]):Int)+0=(opn w:Int)-(cls w:Int)+0-1;rw[e1,e2];lia
 | w::y::r,c,_,h,d=>by
  obtain⟨a,b⟩:=ACf (ws:=y::r) (by simp) (fun x hx=>h x (.tail _ hx)) d.2;refine⟨⟨d.1,a⟩,?_⟩;show _+dpf (bB (y::r))=_+dpf (y::r)-1;rw[b];lia
theorem ADd{ws:List Wd}{c:Int}(n:ws≠[])(d:Dok (c+1) ws):Dok c (bA ws)/\dpf (bA ws)=dpf ws+1:=by
 cases ws with
 | nil=>exact absurd rfl n
 | cons w r=>
  obtain⟨e1,e2⟩:=zW w;refine⟨⟨by rw[e1];have:=d.1;lia,?_⟩,?_⟩
  ·have:=d.2;rw[e1,e2]
   rwa [show c+((opn w+1:Nat):Int)-(cls w:Int)=c+1+(opn w:Int)-(cls w:Int) by lia]
  ·show(opn (40::w):Int)-(cls (40::w):Int)+dpf r=(opn w:Int)-(cls w:Int)+dpf r+1;rw[e1,e2];lia
theorem Wf.wrap{ws ts:List Wd}(A:Wf ws ts b):Wf (bB (bA ws)) (kL::(ts++[kR])) (b+1):=by
 have cA:∀w∈bA ws,core w≠[]:=by
  have:=A.co;cases ws with
  | nil=>exact fun _ h=>nomatch h
  | cons w r=>
   intro x hx;rcases qh.mp hx with z | z
   ·rw[z,HH];exact this w (.head _)
   ·exact this x (.tail _ z)
 have mem:∀{P:Nat->Prop},P 40->P 41->(∀w∈ws,∀c∈w,P c)->∀w∈bB (bA ws),∀c∈w,P c:=fun{P} p0 p1 h w hw c hc=>by
  obtain⟨x,hx,e⟩:=Yg hw A.ne;have:=h x hx;rcases e with e | e | e | e<;>subst e
  ·exact this c hc
  ·rcases qh.mp hc with z | z
   ·exact z ▸ p0
   ·exact this c z
  ·rcases ko.mp hc with z | z
   ·exact this c z
   ·exact(zv.mp z) ▸ p1
  ·rcases qh.mp hc with z | z
   ·exact z ▸ p0
   ·rcases ko.mp z with z | z
    ·exact this c z
    ·exact(zv.mp z) ▸ p1
 have dA:∀c:Int,c+((b+1:Nat):Int)<=40->Dok c (bB (bA ws))/\dpf (bB (bA ws))=0:=fun c h=>by
  obtain⟨a,e⟩:=ADd (c:=c) A.ne (A.dk (c+1) ⋯);obtain⟨a,f⟩:=ACf (aQ A.ne) cA a;exact⟨a,by rw[f,e,A.dp];rfl⟩
 refine⟨xr (aQ A.ne),fun w hw z=>mem (P:=(· ≠32)) nofun nofun (fun w h c hc e=>A.bl w h (e ▸ hc)) w hw 32 z rfl,fun w hw=>?_,by rw[lM A.ne A.co,A.tk],fun c h=>(dA c h).1,(dA (-(b:Int)) ⋯).2,mem nofun nofun A.as⟩;obtain⟨x,hx,e⟩:=Yg hw A.ne;have c:=A.co x hx;rcases e with e | e | e | e<;>subst e
 ·exact c
 ·rw[HH];exact c
 ·rw[Lb (Kv c)];exact c
 ·rw[Lb (Kv (by rw[HH];exact c)),HH];exact c
theorem pC{n:Int}(h:Sm n):Wf [nW n] [nW n] 0:=.one (zj h) fun c hc=>by
 have:=Ke h c hc;unfold gs;lia
theorem eG{m:Option Int}(h:PT.okS m):Wf [Dj m] [Dj m] 0:=by
 cases m with
 | none=>exact .one ∅ (by unfold gs;ac_rfl)
 | some i=>exact pC (h i rfl)
namespace PT
noncomputable def wd:PT->List Wd
 | lf=>[sg "all"]
 | each n r=>[sg "each",nW n,sg "from",nW r]
 | date nm m d=>[sg "date"]++([nm]++([Dj m]++[Dj d]))
 | pr w p q=>bB (bA (p.wd++([sg w.s]++q.wd)))
noncomputable def br:PT->Nat
 | pr _ p q=>p.br+q.br+1
 | _=>0
noncomputable def lv:PT->Nat
 | pr _ p q=>p.lv+q.lv
 | _=>1
theorem pM{z:String}(ne:sg z≠[]:=by ac_rfl)(h:∀c∈sg z,gs c:=by unfold gs;ac_rfl):Wf [sg z] [sg z] 0:=.one ne h
theorem wf:∀{p:PT},p.ok->Wf p.wd p.tok p.deep
 | lf,_=>pM
 | each n r,h=>((pM (z:="each")).app ((pC h.1).app ((pM (z:="from")).app (pC h.2.1))))
 | date nm m d,h=>by
  have a:Wf [nm] [nm] 0:=.one (fun z=>by have:=h.1.lo;rw[z] at this;exact absurd this nofun) fun c hc=>by
   have:=h.1.ch c hc;unfold gs;lia
  exact(pM (z:="date")).app (a.app ((eG h.2.1).app (eG h.2.2.1)))
 | pr w p q,h=>by
  have k:Wf [sg w.s] [sg w.s] 0:=by cases w<;>exact pM
  have:=((wf h.1).app (k.app (wf h.2))).wrap;simpa [tok,wd,deep] using this
noncomputable def tx(p:PT):Wd:=jn p.wd
end PT
variable{p:PT}
namespace PT
theorem wd_ne:∀p:PT,p.wd≠[]
 | lf=>by simp[wd]
 | each .. =>by simp[wd]
 | date .. =>by simp[wd]
 | pr .. =>xr (aQ (by simp))
theorem jw{ps:List Wd}(h:ps≠[]):jn (bB (bA ps))=sg "("++jn ps++sg ")":=by
 rw[xW (aQ h),ACY h,show sg "("=[40] by ac_rfl,show sg ")"=[41] by ac_rfl];rfl
theorem j1{w:Wd}{ps:List Wd}(h:ps≠[]):jn ([w]++ps)=w++sg " "++jn ps:=by
 rw[List.singleton_append,Jp h,bsg];simp
theorem ja(p:PT){ps:List Wd}(h:ps≠[]):jn (p.wd++ps)=p.tx++sg " "++jn ps:=by
 rw[pP p.wd_ne h,bsg];simp[tx]
theorem zE:sg "each "=sg "each"++sg " ":=∅
theorem zB:sg " from "=sg " "++sg "from"++sg " ":=∅
theorem tx_each(n r:Int):tx (each n r)=Lx n r:=by
 unfold Lx;rw[zE,zB,bsg];simp[tx,wd,jn]
theorem tx_date0(nm:Wd)(m d:Option Int):tx (date nm m d)=Ub nm m d:=by
 unfold Ub;rw[dsg,bsg];simp[tx,wd,jn]
noncomputable def _root_.Fw.PK.t:PK->String | .or=>" or " | .bu=>" but " | .up=>" upon "
theorem ADX(w:PK):sg w.t=sg " "++sg w.s++sg " ":=by cases w<;>ac_rfl
theorem tx_pr(w:PK)(p q:PT):tx (pr w p q)=sg "("++p.tx++sg w.t++q.tx++sg ")":=by
 show jn _=_;rw[wd,jw (by simp[wd_ne]),ja p (by simp),j1 q.wd_ne,ADX];simp[tx]
theorem lv_br:∀p:PT,p.lv<=p.br+1/\1<=p.lv/\p.deep<=p.br
 | lf=>by simp[lv,br,deep]
 | each .. =>by simp[lv,br,deep]
 | date .. =>by simp[lv,br,deep]
 | pr _ p q=>by have:=lv_br p;have:=lv_br q;simp only[lv,br,deep];lia
noncomputable def nrm:PT->PT
 | each n r=>each n (r%n)
 | pr w p q=>pr w p.nrm q.nrm
 | p=>p
theorem yp{r n:Int}(h1:1<=n)(h2:n<=420):Sm (r%n):=by
 have:=xk r (show n≠0 by lia);have:=xb r (show 0<n by lia);exact fG ⋯ ⋯
theorem nrm_ok:∀{p:PT},p.ok->p.nrm.ok
 | lf,_=>trivial
 | each ..,h=>⟨h.1,yp h.2.2.1 h.2.2.2,h.2.2⟩
 | date ..,h=>h
 | pr ..,h=>⟨nrm_ok h.1,nrm_ok h.2⟩
theorem nrm_same:∀p:PT,p.nrm.deep=p.deep/\p.nrm.br=p.br/\p.nrm.lv=p.lv
 | lf=>⟨rfl,rfl,rfl⟩
 | each .. =>⟨rfl,rfl,rfl⟩
 | date .. =>⟨rfl,rfl,rfl⟩
 | pr _ p q=>by have:=nrm_same p;have:=nrm_same q;simp only[*,nrm,deep,br,lv,and_self]
theorem zg{n:Int}(h0:0<=n)(h1:n<=420):(nW n).length<=3:=by
 have:=(by ac_rfl:∀i<421,(nW ((i:Nat):Int)).length<=3) n.toNat ⋯
 rwa [jg0 h0] at this
theorem qK{n r:Int}(h0:0<=n)(h1:n<=420)(hr:Sm r):(Lx n r).length<=60:=by
 unfold Lx;have:=zg h0 h1;have:=Ig hr;have e1:(sg "each ").length=5:=∅;have e2:(sg " from ").length=6:=∅;simp only[qq];lia
theorem tx_len:∀{p:PT},p.ok->p.tx.length<=80*(p.lv+p.br)
 | lf,_=>∅
 | each n r,h=>by
  rw[tx_each];have:=qK (by have:=h.2.2.1;lia) h.2.2.2 h.2.1;simp only[lv,br];lia
 | date nm m d,h=>by
  have l1:=h.1.hi;have l2:=h.2.2.2.2.2.1;have l3:=h.2.2.2.2.2.2;have e1:(sg "date ").length=5:=∅;have e2:(sg " ").length=1:=∅;rw[tx_date0];simp only[Ub,qq,lv,br];lia
 | pr w p q,h=>by
  have:=tx_len h.1;have:=tx_len h.2;have e1:(sg "(").length=1:=∅
  have e2:(sg ")").length=1:=∅
  have e3:(sg w.t).length<=8:=by cases w<;>ac_rfl
  rw[tx_pr];simp only[qq,lv,br];lia
theorem rdy(h:p.ok)(hl:p.tx.length<=4000)(hd:p.deep<=40):spl 32 p.tx=p.wd/\TOk (sW p.tx)/\Dok 0 p.wd/\∀q∈p.wd,core q≠[]:=by
 have W:=wf h;refine⟨bG W.ne W.bl,⟨GJ.mpr fun c hc=>?_,by rw[Do];lia⟩,W.dk 0 ⋯,W.co⟩;rw[Bp] at hc;by_cases e:c=32
 ·lia
 ·obtain⟨w,hw,m⟩:=Xw e hc;exact W.as w hw c m
section
variable(g:Bg)
noncomputable def sz:PT->Int
 | lf=>1
 | each n _=>n
 | date .. =>g.cy.2
 | pr _ p q=>Eb p.sz q.sz
noncomputable def bt:PT->Nat
 | lf=>1
 | each n r=>Classical.epsilon fun c=>RB n [r] c
 | date _ m i=>Classical.epsilon fun c=>RB g.cy.2 (dtL g m i g.cy.1.toNat) c
 | pr w p q=>Classical.epsilon fun c=>w.R (p.sz g) (bt p) (q.sz g) (bt q) (Eb (p.sz g) (q.sz g)) c
def r0:PT->Nat->Prop
 | lf,c=>c=1
 | each n r,c=>RB n [r] c
 | date _ m i,c=>RB g.cy.2 (dtL g m i g.cy.1.toNat) c
 | pr w p q,c=>w.R (p.sz g) (p.bt g) (q.sz g) (q.bt g) (Eb (p.sz g) (q.sz g)) c
end
variable{g:Bg}
theorem uV{c':Nat}:∀{p:PT},0<p.sz g->p.r0 g c->p.r0 g c'->c=c'
 | lf,_,h,h'=>h.trans h'.symm
 | each ..,z,h,h'=>RB.uniq z h h'
 | date ..,z,h,h'=>RB.uniq z h h'
 | pr w _ _,_,h,h'=>by
  cases w with
  | up=>exact UpR.uniq h h'
  | _=>exact Bo.uniq h h'
theorem bt_of(z:0<p.sz g)(h:p.r0 g c):p.bt g=c:=by
 cases p with
 | lf=>exact(show c=1 from h).symm
 | _=>exact uV z (jc1 (p:=PT.r0 g _) ⟨c,h⟩) h
theorem sz_nrm(g:Bg):∀p:PT,p.nrm.sz g=p.sz g
 | lf=>rfl
 | each .. =>rfl
 | date .. =>rfl
 | pr _ p q=>by simp only[nrm,sz,sz_nrm g p,sz_nrm g q]
noncomputable def kids:PT->List PT
 | pr _ p q=>[p,q]
 | _=>[]
noncomputable def ws:PT->List Wd
 | pr w _ _=>[sg "(",sg w.t,sg ")"]
 | p=>[p.tx]
theorem kid_deep{q:PT}(h:q∈p.kids):q.deep<p.deep:=by
 cases p<;>simp only[kids,qh,ky,or_false] at h;rcases h with rfl | rfl<;>simp only[deep]<;>lia
noncomputable def told(p:PT)(w0:Wd)(vs:List Wd)(i:Nat):List Wd:=w0::((p.kids.zip vs).take i).flatMap fun k=>[k.1.tx,k.2]
theorem told_succ{q:PT}{w0 w:Wd}{vs:List Wd}{i:Nat}(h1:p.kids[i]?=some q)(h2:vs[i]?=some w):p.told w0 vs (i+1)=p.told w0 vs i++[q.tx,w]:=by
 have h:(p.kids.zip vs)[i]?=some (q,w):=by rw[List.getElem?_zip_eq_some];exact⟨h1,h2⟩
 unfold told;rw[List.take_succ,h];simp
theorem ws_eq(p:PT):∃w0 vs,p.ws=w0::vs/\vs.length=p.kids.length/\(p.told w0 vs p.kids.length).flatten=p.tx:=by
 cases p with
 | pr w p q=>exact⟨_,_,rfl,rfl,by rw[tx_pr];simp[told,kids]⟩
 | _=>exact⟨_,_,rfl,rfl,by simp[told,kids]⟩
theorem kid_tx{q:PT}(h:q∈p.kids):q.tx.length<=p.tx.length:=by
 cases p<;>simp only[kids,qh,ky,or_false] at h;rw[tx_pr];simp only[qq];rcases h with rfl | rfl<;>lia
theorem told_len(p:PT)(w0:Wd)(vs:List Wd)(i:Nat):(p.told w0 vs i).length<=5:=by
 cases p<;>rcases vs with _ | ⟨a,_ | ⟨b,r⟩⟩<;>rcases i with _ | _ | i<;>simp[told,kids]
end PT
section
variable(M:Wd->CT->Prop)
def PT.kn(g:Bg):PT->Prop
 | .date nm _ _=>M nm (.one g)/\SmC g
 | .pr w p q=>w≠.bu/\p.kn g/\q.kn g
 | _=>True
def PT.bad:PT->Prop
 | .date nm _ _=>∃a b k,M nm (.chg a b k)
 | .pr _ p q=>p=.lf/\q.bad
 | _=>False
def Dc(K:Fr)(cs:Cs)(H:Hp)(a:Addr):Prop:=∃kv,H a=some (.dK kv)/\∀nm c,M nm c->∃y,Ew kv (.inr (sW nm))=some (.ref y)/\EY K cs H y c
end
theorem Dc.same{M:Wd->CT->Prop}{a:Addr}(d:Dc M K cs H a)(s:BP H H'):Dc M K cs H' a:=by
 obtain⟨kv,h,e⟩:=d;refine⟨kv,s _ _ h,fun nm c m=>?_⟩;obtain⟨y,e,C⟩:=e nm c m;exact⟨y,e,C.same s⟩
theorem PT.szp{M:Wd->CT->Prop}:∀{p:PT},p.ok->p.kn M g->0<p.sz g
 | .lf,_,_=>by simp only[sz];decide
 | .each ..,h,_=>by have:=h.2.2.1;simp only[sz];lia
 | .date ..,_,k=>by have:=k.2.d0;simp only[sz];lia
 | .pr _ p q,h,k=>(DP (PT.szp h.1 k.2.1) (PT.szp h.2 k.2.2)).1
structure Nod(K:Fr)(CR:Addr)(CL:List Addr)(H:Hp)(a:Addr)(n:Int)(b:Nat)(ks:List Addr)(ws:List Wd):Prop where
 ex:∃C dx p pm pw,C∈CL/\RC K CR C/\H a=some (.ins C dx (rF p pm pw))/\H p=some (.tup [.int n,.int (b:Int)])/\H pm=some (.tup (ks.map .ref))/\H pw=some (.tup (ws.map fun w=>.str (sW w)))
 n0:0<n
 n1:n<=150000
 lt:b<2^n.toNat
inductive TrH(K:Fr)(CR:Addr)(CL:List Addr)(g:Bg)(H:Hp):Addr->PT->Prop
 | mk {x:Addr} {p:PT} {ks:List (Addr×PT)}:Nod K CR CL H x (p.sz g) (p.bt g) (ks.map Prod.fst) p.ws->p.r0 g (p.bt g)->ks.map Prod.snd=p.kids->(∀k∈ks,TrH K CR CL g H k.1 k.2)->TrH K CR CL g H x p
section
variable{K:Fr}{CR:Addr}{CL:List Addr}{g:Bg}{H H':Hp}{x:Addr}{p:PT}
theorem TrH.on(st:∀{y C dx p pm pw},H y=some (.ins C dx (rF p pm pw))->H' y=some (.ins C dx (rF p pm pw)))(su:∀{y xs},H y=some (.tup xs)->H' y=some (.tup xs))(h:TrH K CR CL g H x p):TrH K CR CL g H' x p:=by
 induction h with
 | mk N r e _ i=>
  obtain⟨C,dx,p,pm,pw,c,rc,e1,e2,e3,e4⟩:=N.ex;exact .mk ⟨⟨C,dx,p,pm,pw,c,rc,st e1,su e2,su e3,su e4⟩,N.n0,N.n1,N.lt⟩ r e i
theorem TrH.same(h:TrH K CR CL g H x p)(s:BP H H'):TrH K CR CL g H' x p:=h.on (s _ _) (s _ _)
theorem TrH.rule(h:TrH K CR CL g H x p):Jd K CR CL H x (p.sz g) (p.bt g):=by
 cases h with
 | mk N=>
  obtain⟨C,dx,p,pm,pw,c,rc,e1,e2,_⟩:=N.ex;exact⟨⟨C,dx,p,pm,pw,c,rc,e1,e2⟩,N.n0,N.n1,N.lt⟩
theorem TrH.r0(h:TrH K CR CL g H x p):p.r0 g (p.bt g):=by cases h;assumption
theorem TrH.node(h:TrH K CR CL g H x p):∃(C dx q pm pw:Addr) (ks:List (Addr×PT)),C∈CL/\RC K CR C/\H x=some (.ins C dx (rF q pm pw))/\H pm=some (.tup (ks.map fun k=>.ref k.1))/\H pw=some (.tup (p.ws.map fun w=>.str (sW w)))/\ks.map Prod.snd=p.kids/\∀k∈ks,TrH K CR CL g H k.1 k.2:=by
 cases h with
 | mk N r e h=>
  obtain⟨C,dx,p,pm,pw,c,rc,e1,e2,e3,e4⟩:=N.ex;rw[vk] at e3;exact⟨C,dx,p,pm,pw,_,c,rc,e1,e3,e4,e,h⟩
end
section
variable(K:Fr)(CR:Addr)(CL:List Addr)(C:Addr)
def Wh(g:Bg)(H:Hp)(x:Addr)(Q:VK)(p:PT):Prop:=(∃dx,H x=some (.ins C dx []))/\∀H',KB x H H'->TrH K CR CL g H' x p->Q .non H'
def ABq:Sp:=fun vs H Q _=>Ex2 fun(x:Addr) (g:Bg)=>vs=[.ref x]/\Wh K CR CL C g H x Q .lf
def ABp:Sp:=fun vs H Q _=>Ex4 fun(x:Addr) (n r:Int) (g:Bg)=>An4 (vs=[.ref x,.int n,.int r]) (1<=n) (n<=1000) (Wh K CR CL C g H x Q (.each n (r%n)))
def m9(w:PK):Sp:=fun vs H Q _=>Ex6 fun(x r t:Addr) (p q:PT) (g:Bg)=>An5 (vs=[.ref x,.ref r,.ref t]) (TrH K CR CL g H r p) (TrH K CR CL g H t q) (Eb (p.sz g) (q.sz g)<=150000) (Wh K CR CL C g H x Q (.pr w p q))
end
def ABr:Sp:=fun vs H Q _=>Ex2 fun(n r:Int)=>An4 (vs=[.int n,.int r]) (1<=n) (n<=1000) ((Lx n (r%n)).length<=3900->Q (.str (sW (Lx n (r%n)))) H)
def ABk:Sp:=fun vs H Q _=>∃m:Option Int,An3 (vs=[oI m]) (okO m) ((Dj m).length<=1921->Q (.str (sW (Dj m))) H)
def ABs:Sp:=fun vs H Q _=>Ex3 fun(nm:Wd) (m d:Option Int)=>An5 (vs=[.str (sW nm),oI m,oI d,.int 1,.int 0]) (nm.length<=100) (okO m) (okO d) (∀(H':Hp),BP H H'->Q (.str (sW (PT.tx (.date nm m d)))) H')
section
variable(K:Fr)(cs:Cs)
def xG(C:Addr):Sp:=fun vs H Q E=>Ex5 fun(x y:Addr) (nm:Wd) (m d:Option Int)=>An7 (vs=[.ref x,.str (sW nm),.ref y,oI m,oI d,.int 1,.int 0]) (nm.length<=100) (okM m) (okO m) (d≠some 0) (okO d) ((∃g,An3 (Bw K cs.S cs.O cs.M H y g) (SmC g) (Wh K cs.R cs.L C g H x Q (.date nm m d)))\/(Ex3 fun a b k=>EY K cs H y (.chg a b k))/\EC cs.Y H E)
def Tl(g:Bg)(p:PT)(H:Hp)(Q:VK):Prop:=∀x H',BP H H'->TrH K cs.R cs.L g H' x p.nrm->Q (.ref x) H'
structure Fit(M:Wd->CT->Prop)(p:PT)(H:Hp)(Q:VK)(E:XK):Prop where
 o:(∃g,p.kn M g/\p.sz g<=150000/\Tl K cs g p H Q)\/p.bad M/\EC cs.Y H E
variable{K cs}in
theorem Fit.on{M:Wd->CT->Prop}(f:Fit K cs M p H Q E)(s:BP H H1):Fit K cs M p H1 Q E:=by
 rcases f.o with ⟨g,a,b,q⟩ | ⟨b,e⟩
 ·exact⟨.inl ⟨g,a,b,fun x H' s'=>q x H' (s.trans s')⟩⟩
 ·exact⟨.inr ⟨b,e.on s⟩⟩
def tL:Sp:=fun vs H Q E=>Ex6 fun(v:V) (a:Addr) (nm:Wd) (m d:Option Int) (M:Wd->CT->Prop)=>An5 (vs=[v,.ref a]) (PlH H (.date nm m d) v) ((PT.date nm m d).ok) (Fit K cs M (.date nm m d) H Q E) (Dc M K cs H a)
def tK:Sp:=fun vs H Q _=>Ex6 fun(w:PK) (x y:Addr) (p q:PT) (g:Bg)=>An6 (vs=[.str w.s,.ref x,.ref y]) (w≠.bu) (TrH K cs.R cs.L g H x p) (TrH K cs.R cs.L g H y q) (Eb (p.sz g) (q.sz g)<=150000) (∀z H',BP H H'->TrH K cs.R cs.L g H' z (.pr w p q)->Q (.ref z) H')
def Ry(d:Nat):Sp:=fun vs H Q E=>Ex4 fun(v:V) (a:Addr) (p:PT) (M:Wd->CT->Prop)=>An6 (vs=[v,.ref a]) (PlH H p v) p.ok (p.deep<d) (Fit K cs M p H Q E) (Dc M K cs H a)
def yS:Sp:=fun vs H Q E=>Ex3 fun(a:Addr) (p:PT) (M:Wd->CT->Prop)=>An5 (vs=[.str (sW p.tx),.ref a]) p.ok (p.lv+p.br<=40) (Fit K cs M p H Q E) (Dc M K cs H a)
def Mv(d:Nat):Sp:=fun vs H Q _=>Ex3 fun(x:Addr) (p:PT) (g:Bg)=>An5 (vs=[.ref x]) (TrH K cs.R cs.L g H x p) (p.deep<d) (p.tx.length<=4000) (∀H',BP H H'->Q (.str (sW p.tx)) H')
end
theorem Yw(h:Ry K cs 0 vs H Q E):False:=by
 obtain⟨v,a,p,M,_,_,_,h,_⟩:=h;lia
theorem Ww(h:Mv K cs 0 vs H Q E):False:=by
 obtain⟨_,_,_,_,_,h,_⟩:=h;lia
section
variable{K:Fr}{CR:Addr}{CL:List Addr}{C:Addr}{g:Bg}{H H2 H':Hp}{x y dx dy q pm pw:Addr}{p p':PT}{Q:VK}{E:XK}
theorem Nr(hy:H y=none)(hdy:H dy=none)(ne:dy≠y):BP H (upd (upd H dy (.own y)) y o):=(BR hdy _).trans (BR (by rw[Ax (Ne.symm ne)];exact hy) _)
theorem Wh.go(hy:H y=none)(hdy:H dy=none)(ne:dy≠y)(q:∀H',BP H H'->TrH K CR CL g H' y p->Q .non H'):Wh K CR CL C g (upd (upd H dy (.own y)) y (.ins C dy [])) y Q p:=
 ⟨⟨dy,Ai⟩,fun H' k N=>q H' (V6 hy hdy ne k) N⟩
theorem ACS{w:PK}{r t:Addr}(R1:TrH K CR CL g H r p)(R2:TrH K CR CL g H t p')(lz:Eb (p.sz g) (p'.sz g)<=150000)(hy:H y=none)(hdy:H dy=none)(ne:dy≠y)(q:∀H',BP H H'->TrH K CR CL g H' y (.pr w p p')->Q .non H'):m9 K CR CL C w [.ref y,.ref r,.ref t] (upd (upd H dy (.own y)) y (.ins C dy [])) Q E:=
 ⟨y,r,t,p,p',g,rfl,R1.same (Nr hy hdy ne),R2.same (Nr hy hdy ne),lz,.go hy hdy ne q⟩
theorem Rj(ks:List (Addr×PT))(hC:C∈CL)(R:RC K CR C)(hx:H2 x=some (.ins C dx []))(hq:H2 q=some (.tup [.int (p.sz g),.int (b:Int)]))(hm:H2 pm=some (.tup (ks.map fun k=>.ref k.1)))(hw:H2 pw=some (.tup (p.ws.map fun w=>.str (sW w))))(k:KB x H2 H')(e:H' x=some (.ins C dx (rF q pm pw)))(n0:0<p.sz g)(n1:p.sz g<=150000)(lt:b<2^(p.sz g).toNat)(r:p.r0 g b)(ek:ks.map Prod.snd=p.kids)(h:∀k∈ks,TrH K CR CL g H2 k.1 k.2):TrH K CR CL g H' x p:=by
 have eb:=PT.bt_of n0 r;subst eb;refine .mk (ks:=ks) ⟨⟨C,dx,q,pm,pw,hC,R,e,k _ _ (Eu hq hx (fun z=>nomatch z)) hq,?_,k _ _ (Eu hw hx (fun z=>nomatch z)) hw⟩,n0,n1,lt⟩ r ek fun y hy=>(h y hy).on (fun z=>k _ _ (Eu z hx (fun w=>nomatch w)) z) fun z=>k _ _ (Eu z hx (fun w=>nomatch w)) z;rw[vk];exact k _ _ (Eu hm hx (fun z=>nomatch z)) hm
end
theorem sgS(a:String):V.str (Str.ofString a)=V.str (sW (sg a)):=yi V.str (FT _).symm
theorem yE{CR:Addr}{CL:List Addr}{r t:Addr}{p':PT}(T1:TrH K CR CL g H r p)(T2:TrH K CR CL g H t p'):∀k∈[(r,p),(t,p')],TrH K CR CL g H k.1 k.2:=fun _ z=>by
 rcases qh.mp z with e | e
 ·rw[e];exact T1
 ·rw[zv.mp e];exact T2
theorem in2{CR C r t dx:Addr}{CL:List Addr}{p':PT}{w:PK}(cm:C∈CL):TrH K CR CL g H r p->TrH K CR CL g H t p'->Eb (p.sz g) (p'.sz g)<=150000->(∀H',KB x H H'->TrH K CR CL g H' x (.pr w p p')->Q V.non H')->H x=some (.ins C dx [])->RC K CR C->lY (Vv (Wy K CR) [] E0 (JN (Iu 0) (JN (Vv (spJ K w.R) [] E0 (JN (Rv (CL.map fun C=>(C,spR (K8 K CR CL) 1)) "turn" (Iu 1) Ma) (JN (Rv (CL.map fun C=>(C,spR (K8 K CR CL) 1)) "turn" (Iu 2) Ma) Ma))) (JN (rm (JN (Iu 1) (JN (Iu 2) Ma))) (JN (rm (JN (tC (.str "(")) (JN (tC (.str w.t)) (JN (tC (.str ")")) Ma)))) Ma))))) { nx:=fun _ H'=>Q V.non H',rt:=Q } (L2.start ["self","R","S"] [.ref x,.ref r,.ref t]) H:=by
 intro T1 T2 lz q hx rc;have R1:=T1.rule;have R2:=T2.rule;have fl:=DP R1.n0 R2.n0;symm;obtain⟨C,dr,fs,m,hr,l1,_⟩:=R1.mt;exists⟨_,C,dr,fs,_,m _,rfl,hr,l1,?_⟩;exists⟨jj8,_,_,_,rfl,R1,fun pt hp=>?_⟩;obtain⟨C',dr',fs',m',hr',l1',_⟩:=R2.mt;exists⟨_,C',dr',fs',_,m' _,rfl,hr',l1',?_⟩;exists⟨jj8,_,_,_,rfl,R2,fun pu hp'=>?_⟩;exists⟨pt,pu,_,_,_,_,rfl,⟨SqT.of hp,SqT.of hp',R1.n0,R2.n0,R1.n1,R2.n1,R1.lt,R2.lt⟩,lz,fun p2 c H1 s1 t1 lt Rr=>?_⟩;refine⟨Wn,fun pm hpm=>?_⟩;exists fresh hpm fun H2 s2 t2=>?_;refine⟨(by show 3<=sizeLine;decide),fun pw hpw=>?_⟩;refine fresh hpw fun H3 s3 t3=>?_;have t3:H3 pw=some (.tup ((PT.pr w p p').ws.map fun w=>.str (sW w))):=by rw[t3,sgS,sgS,sgS];rfl
 have s23:=s2.trans s3;have hx3:=(s1.trans s23) _ _ hx;symm;exact⟨_,p2,pm,pw,_,_,rfl,hx3,rc,fun H' k e=>q H' (k.pre (s1.trans s23)) (Rj [(r,p),(t,p')] cm rc hx3 (s23 _ _ t1) (s3 _ _ t2) t3 k e fl.1 lz lt Rr rfl (yE (T1.same (s1.trans s23)) (T2.same (s1.trans s23))))⟩
theorem ACM(w:PK):∀z∈["all","none","each","date","not","later","every","of"],Str.ofString w.s≠Str.ofString z:=by cases w<;>ac_rfl
theorem z9{a b:Int}(h1:0<a)(h2:0<b):a<=Eb a b/\b<=Eb a b:=by
 have f:=DP h1 h2;exact⟨jn5 f.1 f.2.1,jn5 f.1 f.2.2.1⟩
namespace PT
theorem tok_len:∀p:PT,p.tok.length<=10*(p.lv+p.br)
 | lf=>by simp[tok,lv,br]
 | each .. =>by simp[tok,lv,br]
 | date .. =>by simp[tok,lv,br]
 | pr _ p q=>by have:=tok_len p;have:=tok_len q;simp[tok,lv,br];lia
theorem tok_ok(h:p.ok):∀w∈p.tok,TOk (sW w):=by
 have num:∀{n:Int},Sm n->TOk (sW (nW n)):=fun{n} h=>⟨GJ.mpr fun c hc=>by rw[Bp] at hc;have:=Ke h c hc;lia,by rw[Do];have:=Ig h;lia⟩;have str:∀{m:Option Int},okS m->TOk (sW (Dj m)):=fun{m} h=>by
  cases m with
  | none=>exact⟨∅,∅⟩
  | some i=>exact num (h i rfl)
 have all:∀{ws:List Wd} {w:Wd},TOk (sW w)->(∀x∈ws,TOk (sW x))->∀x∈w::ws,TOk (sW x):=fun h g x hx=>(qh.mp hx).elim (fun e=>e ▸ h) (g x);have app:∀{ws vs:List Wd},(∀x∈ws,TOk (sW x))->(∀x∈vs,TOk (sW x))->∀x∈ws++vs,TOk (sW x):=fun h g x hx=>(ko.mp hx).elim (h x) (g x);have nil:∀x∈([]:List Wd),TOk (sW x):=fun _ h=>nomatch h
 induction p with
 | lf=>exact all ⟨∅,∅⟩ nil
 | each n r=>exact all ⟨∅,∅⟩ (all (num h.1) (all ⟨∅,∅⟩ (all (num h.2.1) nil)))
 | date nm m d=>exact all ⟨∅,∅⟩ (all ⟨GJ.mpr fun c hc=>by rw[Bp] at hc;have:=h.1.ch c hc;lia,by rw[Do];have:=h.1.hi;lia⟩ (all (str h.2.1) (all (str h.2.2.1) nil)))
 | pr w p q i j=>
  have:TOk (sW (sg w.s)):=by cases w<;>exact⟨∅,∅⟩
  exact all ⟨∅,∅⟩ (app (i h.1) (all this (app (j h.2) (all ⟨∅,∅⟩ nil))))
end PT
theorem FP{x:V}:atI (x::xs) 0=some x:=Dz (j:=0) rfl
theorem K5{x:V}:atI (x::y::xs) 1=some y:=Dz (j:=1) rfl
theorem aR{x z:V}:atI (x::y::z::xs) 2=some z:=Dz (j:=2) rfl
theorem wJ{x z u:V}:atI (x::y::z::u::xs) 3=some u:=Dz (j:=3) rfl
theorem ADh{x z u v:V}:atI (x::y::z::u::v::xs) 4=some v:=Dz (j:=4) rfl
theorem ADg{x z u v w:V}:atI (x::y::z::u::v::w::xs) 5=some w:=Dz (j:=5) rfl
theorem ADe{x:V}:Iv (x::xs) (some 1) none=xs:=by
 simp[Iv,HT.sIx]
theorem ACg{x:V}:¬(HT.sIx (x::xs).length 0 (some 1)=0/\HT.sIx (x::xs).length (x::xs).length none=(x::xs).length):=by
 rintro⟨h,_⟩;simp[HT.sIx] at h
noncomputable def aa(n:Nat):List Nat:=if (cpl (Cr (n:Int))).length<2 then 48::cpl (Cr (n:Int)) else cpl (Cr (n:Int))
noncomputable def Z2(y:Int)(m r:Nat):Wd:=nW y++47::(aa m++47::aa r)
def mq:Sp:=fun vs H Q _=>∃n:Nat,An3 (vs=[.int (n:Int)]) (n<10^60) (∀z:Str,cpl z=aa n->TL 61 z->Q (.str z) H)
theorem xT{n:Nat}(h:n<10^60):((n:Int)).natAbs.log2<1920:=LQ ⋯ (by have:(10:Nat)^60=1000000000000000000000000000000000000000000000000000000000000:=nofun;lia)
theorem iW:∀d:Nat,48<=d->d<=57->cpl (zfilled ⟨#[d]⟩ 1)=[48,d]:=fun d h1 h2=>(by ac_rfl:∀d<58,48<=d->cpl (zfilled ⟨#[d]⟩ 1)=[48,d]) d ⋯ h1
theorem e47:cpl "/"=[47]:=∅
def tZ(K:Fr):Sp:=fun vs H Q _=>Ex4 fun(p:Addr) (y:Int) (m r:Nat)=>An6 (vs=[.ref p]) (SqT K H p [.int y,.int (m:Int),.int (r:Int)]) (y.natAbs.log2<1920) (m<10^60) (r<10^60) (∀z:Str,cpl z=cpl (Cr y)++47::(aa m++47::aa r)->Q (.str z) H)
theorem pF(h:Bt 300 i):i.natAbs.log2<1920:=by
 by_cases e:i.natAbs=0
 ·rw[e];decide
 ·exact zk ((Nat.log2_lt e).mpr h) nofun
noncomputable def tW(t:Tm):Wd:=43::GQ 44 ([t.2.1,t.2.2.1,t.2.2.2].map nW)
noncomputable def wC:Bg->List Wd
 | .sun s ls lp ts=>nW s::GQ 44 (ls.map nW)::sg "leap"::nW lp::ts.map tW
 | .moon s bd td bm tm=>nW s::nW bd::(td.map tW++sg "/"::nW bm::tm.map tW)
noncomputable def hC:Bg->String
 | .sun .. =>"sun"
 | .moon .. =>"moon"
noncomputable def wdC(g:Bg):List Wd:=sg (hC g)::wC g
structure Ok1(a b n:Int):Prop where
 n0:1<=n
 n1:n<=3
 a0:0<=a
 a1:a<=n
 b0:0<=b
 b1:b<n
inductive OkC:Bg->Prop
 | sun {s lp a b n:Int} {ls:List Int}:Sm s->2<=ls.length->ls.length<=3->(∀n∈ls,0<=n/\n<=8)->1<=lp->lp<=2->Ok1 a b n->1<=ls.sum->OkC (.sun s ls lp [(1,a,b,n)])
 | moon {s bd a b n bm c e y:Int}:Sm s->1<=bd->bd<=4->Ok1 a b n->n<=3->1<=bm->bm<=3->Ok1 c e y->y<=2->OkC (.moon s bd [(1,a,b,n)] bm [(1,c,e,y)])
theorem Ok1.tm{a b n:Int}(o:Ok1 a b n):∀t∈[((1,a,b,n):Tm)],OkT t:=fun t ht=>by
 rw[zv.mp ht];exact⟨.inl rfl,o.n0,jm4 o.n1 nofun,o.a0,o.a1,o.b0,o.b1⟩
theorem sm1(h1:0<=i)(h2:i<=60):Sm i:=fG ⋯ ⋯
theorem Ok1.sm{a b n:Int}(o:Ok1 a b n):∀i∈[a,b,n],Sm i:=fun i hi=>by
 obtain⟨n0,n1,a0,a1,b0,b1⟩:=o;simp only[qh,ky,or_false] at hi;exact sm1 ⋯ ⋯
theorem cH{a b n:Int}(h:1<=n):PER [((1,a,b,n):Tm)]=n:=gU nofun (show 0<n by lia) (Int.one_dvd n)
theorem up1{c a b n u:Int}(o:Ok1 a b n):UP c [(1,a,b,n)] (n*u)=(c*n+a)*u:=by
 have n0:=o.n0;show c*(n*u)+(1*((a*(n*u)+b)/n)+0)=_;rw[show a*(n*u)+b=b+n*(a*u) by rw[je7];lia,jm2 _ _ ⋯,jc2 o.b0 o.b1,jl6,jk6];lia
theorem wy{ls:List Int}(h:∀n∈ls,0<=n/\n<=8)(l:ls.length<=3):0<=ls.sum/\ls.sum<=24:=by
 match ls,h,l with
 | [],_,_=>exact⟨nofun,nofun⟩
 | [a],h,_=>have:=h a (.head _);simp;lia
 | [a,b],h,_=>have:=h a (.head _);have:=h b (.tail _ (.head _));simp;lia
 | [a,b,c],h,_=>have:=h a (.head _);have:=h b (.tail _ (.head _));have:=h c (.tail _ (.tail _ (.head _)));simp;lia
theorem OkC.good(o:OkC g):g.good:=by
 cases o with
 | sun hs l0 l1 hm p0 p1 o os=>
  rename_i s lp a b n ls
  have sb:=wy hm l1;have e:falls [((1,a,b,n):Tm)]=0:=rfl;refine⟨⋯,⋯,fun n hn=>by have:=hm n hn;lia,p0,⋯,?_,by rw[e];lia,o.tm,(by show 1<=6;decide)⟩;rw[e,yv,zh ⋯];have:=hm _ (ji9 (show (lp-1).toNat<ls.length by lia));show 0<=ls[(lp-1).toNat];lia
 | moon hs d0 d1 o _ m0 m1 o' _=>exact⟨(by show(0:Int)<_;lia),⋯,(by show(0:Int)<_;lia),⋯,o.tm,o'.tm,(by show 1<=6;decide),(by show 1<=6;decide)⟩
theorem OkC.bs(o:OkC g):Bt 290 g.st:=by
 cases o with
 | sun hs=>exact jm8 hs nofun
 | moon hs=>exact jm8 hs nofun
theorem OkC.cy(o:OkC g):SmC g:=by
 cases o with
 | sun hs l0 l1 hm p0 p1 o os=>
  rename_i s lp a b n ls
  have sb:=wy hm l1;obtain⟨n0,n1,a0,a1,_,_⟩:=id o;have e1:(Bg.sun s ls lp [(1,a,b,n)]).cy.1=n:=cH n0;have e2:(Bg.sun s ls lp [(1,a,b,n)]).cy.2=ls.sum*n+a:=by
   show UP ls.sum [(1,a,b,n)] (PER [(1,a,b,n)])=_;have:=up1 (c:=ls.sum) (u:=1) o;rw[ja5,ja5] at this;rw[cH n0,this]
  have h1:1*1<=ls.sum*n:=ja1 ⋯ n0 nofun ⋯;have h2:ls.sum*n<=24*3:=ja1 ⋯ n1 ⋯ nofun;exact⟨⋯,⋯,⋯,⋯⟩
 | moon hs d0 d1 o n2 m0 m1 o' y2=>
  rename_i s bd a b n bm c e y
  obtain⟨n0,_,a0,a1,_,_⟩:=id o;obtain⟨y0,_,c0,c1,_,_⟩:=id o';have eM:UP bm [(1,c,e,y)] (PER [(1,c,e,y)])=bm*y+c:=by
   have:=up1 (c:=bm) (u:=1) o';rw[ja5,ja5] at this;rw[cH y0,this]
  have h1:1*1<=bm*y:=ja1 ⋯ y0 nofun ⋯;have h2:bm*y<=3*2:=ja1 ⋯ y2 ⋯ nofun;have h3:1*1<=bd*n:=ja1 ⋯ n0 nofun ⋯;have h4:bd*n<=4*3:=ja1 ⋯ n2 ⋯ nofun;have e1:(Bg.moon s bd [(1,a,b,n)] bm [(1,c,e,y)]).cy=(y*moT [(1,a,b,n)] bm [(1,c,e,y)],UP bd [(1,a,b,n)] ((bm*y+c)*moT [(1,a,b,n)] bm [(1,c,e,y)])):=by
   show(_,_)=_;rw[eM,cH y0]
  have eT:moT [(1,a,b,n)] bm [(1,c,e,y)]=n/(Int.gcd n (bm*y+c):Int):=by
   unfold moT;rw[cH n0,eM]
  have hM:1<=bm*y+c/\bm*y+c<=8:=⋯;generalize bm*y+c=M at*
  have g0:(0:Int)<(Int.gcd n M:Int):=Nu (b:=M) ⋯;obtain⟨v,hv⟩:=Int.gcd_dvd_left (a:=n) (b:=M);obtain⟨u,hu⟩:=Int.gcd_dvd_right (a:=n) (b:=M);generalize (Int.gcd n M:Int)=G at*
  have ev:n/G=v:=by rw[hv,jk2 _ ⋯]
  have eU:M*v=n*u:=by
   conv=>lhs;rw[hu]
   conv=>rhs;rw[hv]
   rw[jk6,jk6,je0 u v]
  rw[eT,ev,eU,up1 o] at e1;have v0:0<v:=Int.pos_of_mul_pos_right (a:=G) ⋯ ⋯;have u0:0<u:=Int.pos_of_mul_pos_right (a:=G) ⋯ ⋯;have vn:v<=n:=by rw[<-ev];exact ji8 _ ⋯
  have uM:u<=M:=jn5 ⋯ ⟨G,by rw[je0];exact hu⟩;have h5:1*1<=y*v:=ja1 y0 ⋯ nofun ⋯;have h6:y*v<=2*3:=ja1 y2 ⋯ ⋯ nofun;have h7:1*1<=(bd*n+a)*u:=ja1 ⋯ ⋯ nofun ⋯;have h8:(bd*n+a)*u<=15*8:=ja1 ⋯ ⋯ ⋯ nofun;refine⟨?_,?_,?_,?_⟩<;>rw[e1]
  ·exact h5
  ·exact jm4 h6 nofun
  ·exact h7
  ·exact jm4 h8 nofun
theorem Wm{c a b n k:Int}(o:Ok1 a b n)(c0:0<=c)(j:Nat):UP c [(1,a,b,n)] k<=UP c [(1,a,b,n)] (k+j)/\UP c [(1,a,b,n)] (k+j)<=UP c [(1,a,b,n)] k+j*(c+1):=by
 have one:∀k:Int,UP c [(1,a,b,n)] k<=UP c [(1,a,b,n)] (k+1)/\UP c [(1,a,b,n)] (k+1)<=UP c [(1,a,b,n)] k+(c+1):=fun k=>by
  obtain⟨n0,_,a0,a1,_,_⟩:=id o;show c*k+(1*((a*k+b)/n)+0)<=c*(k+1)+(1*((a*(k+1)+b)/n)+0)/\c*(k+1)+(1*((a*(k+1)+b)/n)+0)<=c*k+(1*((a*k+b)/n)+0)+(c+1);have e:(a*k+b+n)/n=(a*k+b)/n+1:=by rw[Int.add_ediv_of_dvd_right (Int.dvd_refl n),Int.ediv_self ⋯]
  have h1:(a*k+b)/n<=(a*(k+1)+b)/n:=Int.ediv_le_ediv ⋯ (by rw[jc3,ja5];lia);have h2:(a*(k+1)+b)/n<=(a*k+b+n)/n:=Int.ediv_le_ediv ⋯ (by rw[jc3,ja5];lia);rw[e] at h2;rw[jc3 c,ja5];lia
 induction j with
 | zero=>simp
 | succ j ih=>
  have h:=one (k+j);rw[show k+((j+1:Nat):Int)=k+j+1 by lia,show((j+1:Nat):Int)*(c+1)=j*(c+1)+(c+1) by rw[jk7,jl6];simp];lia
noncomputable def shp(c s:Int):Bg:=if c/324%3=1 then .moon s (2+c%3) [(1,c/27%(1+c/9%3+1),c/108%(1+c/9%3),1+c/9%3)] (1+c/3%3) [(1,1,0,2)] else .sun s [1+c%7,c/7%9] 1 [(1,c/27%(1+c/9%3+1),c/108%(1+c/9%3),1+c/9%3)]
theorem Ok1.shp(c:Int):Ok1 (c/27%(1+c/9%3+1)) (c/108%(1+c/9%3)) (1+c/9%3):=by
 have h:0<=c/9%3/\c/9%3<3:=⟨xk _ nofun,xb _ nofun⟩;obtain⟨n,hn,h1⟩:∃n,n=1+c/9%3/\(1<=n/\n<=3):=⟨_,rfl,⋯⟩;rw[<-hn];clear h hn;have a:=xk (c/27) (show n+1≠0 by lia);have b:=xb (c/27) (show 0<n+1 by lia);have d:=xk (c/108) (show n≠0 by lia);have e:=xb (c/108) (show 0<n by lia);exact⟨⋯,⋯,a,⋯,d,e⟩
theorem OkC.shp{c s:Int}(h:Sm s):OkC (shp c s):=by
 have o:=Ok1.shp c;unfold Fw.shp;split
 ·exact .moon h ⋯ ⋯ o ⋯ ⋯ ⋯ ⟨nofun,nofun,nofun,nofun,nofun,nofun⟩ nofun
 ·refine .sun h (by show 2<=2;decide) (by show 2<=3;decide) (fun n hn=>?_) nofun nofun o (by simp;lia);rcases qh.mp hn with e | e
  ·lia
  ·rw[zv.mp e];lia
theorem yt(c s y:Int):(shp c s).Y (y+1)<=(shp c s).Y y+1000:=by
 have o:=Ok1.shp c;unfold Fw.shp;split
 ·have o2:Ok1 1 0 2:=⟨nofun,nofun,nofun,nofun,nofun,nofun⟩;show s+UP _ _ (UP _ _ (y+1))<=s+UP _ _ (UP _ _ y)+1000;obtain⟨h1,h2⟩:=Wm (c:=1+c/3%3) (k:=y) o2 ⋯ 1;generalize UP (1+c/3%3) [(1,1,0,2)] y=u at*
  rw[show y+((1:Nat):Int)=y+1 by rfl] at h1 h2;generalize UP (1+c/3%3) [(1,1,0,2)] (y+1)=v at*
  obtain⟨j,rfl⟩:∃j:Nat,v=u+j:=⟨(v-u).toNat,⋯⟩;have h3:=(Wm (c:=2+c%3) (k:=u) o ⋯ j).2;have h4:(j:Int)*(2+c%3+1)<=4*5:=ja1 ⋯ ⋯ ⋯ nofun;lia
 ·show s+UP _ _ (y+1)<=s+UP _ _ y+1000;have h3:=(Wm (c:=[1+c%7,c/7%9].sum) (k:=y) o (by simp;lia) 1).2;have e:[1+c%7,c/7%9].sum<=20:=by simp;lia
  rw[show y+((1:Nat):Int)=y+1 by rfl] at h3;lia
theorem fH(c s f y:Int):(shp c (s-f)).Y y=(shp c s).Y y-f:=by
 unfold Fw.shp;split
 ·show s-f+_=s+_-f;lia
 ·show s-f+_=s+_-f;lia
theorem Rc{c s t f k:Int}(h1:Sm s)(h2:Sm t)(e:t=s-f)(h:1000<=f):Lat (shp c s) (shp c t) k:=fun y m r y' m' r' ⟨d1,e1⟩ ⟨d2,e2⟩=>by
 subst e;have g1:=(OkC.shp (c:=c) h1).good;have g2:=(OkC.shp (c:=c) h2).good;have a:=d1.year g1;have b:=d2.year g2;rw[e1] at a;rw[e2,fH,fH] at b;have l:=yt c s y;rcases jk1 y y' with z | z
 ·exact z
 ·have:(shp c s).Y (y'+1)<=(shp c s).Y (y+1):=by
   rcases Int.lt_or_eq_of_le z with w | w
   ·exact Qr (Bg.lt g1 ⋯)
   ·rw[w];exact jj4 _
  lia
noncomputable def wvS(ws:List Wd):List V:=ws.map fun w=>.str (sW w)
theorem Ii(xs:List V)(k:Nat):Iv xs (some (k:Int)) none=xs.drop k:=by
 unfold Iv;rw[HT.sIx_nat,HT.sIx_none];by_cases h:k<=xs.length
 ·rw[Nat.min_eq_left h,ke (by rw[jb8];exact qg _)]
 ·rw[Nat.min_eq_right ⋯,kc (qg _),kc ⋯,List.take_nil]
theorem sn(h:¬(c=45\/48<=c/\c<=57)){i:Int}(g:Sm i):c∉nW i:=fun z=>h (Ke g c z)
theorem cU{ns:List Int}(hn:ns≠[])(h:∀n∈ns,Sm n):(Mf 44 (sW (GQ 44 (ns.map nW)))).map V.str=ns.map fun n=>V.str (sW (nW n)):=by
 cases ns with
 | nil=>exact absurd rfl hn
 | cons n r=>
  rw[show Mf 44 (sW (GQ 44 ((n::r).map nW)))=(spl 44 (cpl (sW (GQ 44 ((n::r).map nW))))).map sW from rfl,qo,Bp,Vx 44 _ _ fun x hx=>by
   obtain⟨i,hi,rfl⟩:=vi.mp (show x∈(n::r).map nW from hx);exact sn nofun (h i hi)]
  simp
theorem V9(c k:Nat):∀{ws:List (List Nat)},(∀w∈ws,w.length<=k)->(GQ c ws).length<=ws.length*(k+1)
 | [],_=>vj _
 | [w],h=>by
  have:=h w qc;show(w++[]).length<=1*(k+1);rw[xy];lia
 | w::y::ws,h=>by
  have a:=h w qc;have b:=V9 c k (ws:=y::ws) fun x hx=>h x (qf _ hx);rw[UG,qq,qm,qm (as:=y::ws),Nat.succ_mul];lia
theorem Tq{ns:List Int}(h:∀n∈ns,Sm n):(GQ 44 (ns.map nW)).length<=ns.length*47:=by
 have:=V9 44 46 (ws:=ns.map nW) fun w hw=>by
  obtain⟨n,hn,rfl⟩:=vi.mp hw;exact Ig (h n hn)
 rwa [js] at this
theorem pO{P:Nat->Prop}(hc:P c):∀{ws:List (List Nat)},(∀w∈ws,∀a∈w,P a)->∀a∈GQ c ws,P a
 | [],_,a,ha=>by cases ha
 | w::ws,h,a,ha=>by
  rcases ko.mp ha with z | z
  ·exact h w qc a z
  ·obtain⟨x,hx,hz⟩:=List.mem_flatten.mp z;obtain⟨y,hy,rfl⟩:=vi.mp hx;rcases qh.mp hz with e | e
   ·rw[e];exact hc
   ·exact h y (qf _ hy) a e
theorem vH(h:Sm i):TOk (sW (nW i)):=⟨GJ.mpr fun c hc=>by rw[Bp] at hc;have:=Ke h c hc;lia,by rw[Do];have:=Ig h;lia⟩
def wch(c:Nat):Prop:=43<=c/\c<=122
theorem vG{ns:List Int}(h:∀n∈ns,Sm n):∀c∈GQ 44 (ns.map nW),wch c:=pO (by unfold wch;lia) fun w hw c hc=>by
 obtain⟨n,hn,rfl⟩:=vi.mp hw;have:=Ke (h n hn) c hc;unfold wch;lia
theorem OkC.ch(o:OkC g):∀w∈wdC g,w.length<=200/\∀c∈w,wch c:=fun w hw=>by
 have num:∀{i:Int},Sm i->(nW i).length<=200/\∀c∈nW i,wch c:=fun h=>⟨by have:=Ig h;lia,fun c hc=>by have:=Ke h c hc;unfold wch;lia⟩;have lst:∀{ns:List Int},ns.length<=3->(∀n∈ns,Sm n)->(GQ 44 (ns.map nW)).length<=141/\∀c∈GQ 44 (ns.map nW),wch c:=fun l h=>⟨zn (Tq h) ⋯,vG h⟩;have tm:∀{a b n:Int},Ok1 a b n->(tW (1,a,b,n)).length<=200/\∀c∈tW (1,a,b,n),wch c:=fun{a b n} o=>by
  have:=lst (ns:=[a,b,n]) (by show 3<=3;decide) o.sm;refine⟨by show(GQ 44 ([a,b,n].map nW)).length+1<=_;lia,fun c hc=>?_⟩;rcases qh.mp hc with e | e
  ·unfold wch;lia
  ·exact this.2 c e
 have all:∀{z:String},(sg z).length<=4->(∀c∈sg z,wch c)->(sg z).length<=200/\∀c∈sg z,wch c:=fun h g=>⟨⋯,g⟩;cases o with
 | sun hs l0 l1 hm p0 p1 o os=>
  simp only[wdC,hC,wC,qh,ky,or_false,qo,jm7] at hw;rcases hw with rfl | rfl | rfl | rfl | rfl | rfl
  ·exact all ∅ (by unfold wch;ac_rfl)
  ·exact num hs
  ·have:=lst l1 fun n hn=>sm1 (by have:=hm n hn;lia) (by have:=hm n hn;lia);exact⟨⋯,this.2⟩
  ·exact all ∅ (by unfold wch;ac_rfl)
  ·exact num (sm1 ⋯ ⋯)
  ·exact tm o
 | moon hs d0 d1 o _ m0 m1 o' _=>
  simp only[wdC,hC,wC,qh,ko,ky,or_false,qo,jm7,false_or] at hw;rcases hw with rfl | rfl | rfl | rfl | rfl | rfl | rfl
  ·exact all ∅ (by unfold wch;ac_rfl)
  ·exact num hs
  ·exact num (sm1 ⋯ ⋯)
  ·exact tm o
  ·exact all ∅ (by unfold wch;ac_rfl)
  ·exact num (sm1 ⋯ ⋯)
  ·exact tm o'
noncomputable def Mq(g:Bg):Wd:=jn (wdC g)
theorem cz(k:Nat):∀(ws:List Wd),(∀w∈ws,w.length<=k)->(jn ws).length<=ws.length*(k+1)
 | [],_=>vj _
 | [w],h=>by have:=h w qc;show w.length<=1*(k+1);lia
 | w::y::r,h=>by
  have:=cz k (y::r) fun x hx=>h x (qf _ hx);have:=h w qc;rw[Jp (by simp),qq,qm,qm (as:=y::r),Nat.succ_mul];lia
theorem OkC.tx(o:OkC g):spl 32 (Mq g)=wdC g/\(Mq g).length<=2000/\TOk (sW (Mq g)):=by
 have h:=o.ch;have l:(Mq g).length<=2000:=by
  have a:=cz 200 (wdC g) fun w hw=>(h w hw).1;have b:(wdC g).length<=7:=by cases o<;>simp[wdC,wC]
  exact zn a (zn (ji5 _ b) nofun)
 refine⟨bG (by simp[wdC]) fun w hw z=>by have:=(h w hw).2 32 z;unfold wch at this;lia,l,GJ.mpr fun c hc=>?_,by rw[Do];lia⟩;rw[Bp] at hc;by_cases e:c=32
 ·lia
 ·obtain⟨w,hw,m⟩:=Xw e hc;have:=(h w hw).2 c m;unfold wch at this;lia
def mZ:Sp:=fun vs H Q _=>∃i:Int,An3 (vs=[.str (sW (nW i))]) (Sm i) (∀H',BP H H'->Q (.int i) H')
def iz:Sp:=fun vs H Q _=>∃ns:List Int,An5 (vs=[.str (sW (GQ 44 (ns.map nW)))]) (ns≠[]) (ns.length<=3) (∀n∈ns,Sm n) (∀(l:Addr) H',H l=none->BP H H'->H' l=some (.lst (ns.map V.int))->Q (.ref l) H')
def mY:Sp:=fun vs H Q _=>Ex3 fun(a b n:Int)=>An3 (vs=[.str (sW (tW (1,a,b,n)))]) (∀i∈[a,b,n],Sm i) (∀(p:Addr) H',BP H H'->H' p=some (.tup (tmV (1,a,b,n)))->Q (.ref p) H')
def iy:Sp:=fun vs H Q _=>Ex4 fun(l:Addr) (a b n:Int)=>An4 (vs=[.ref l]) (H l=some (.lst (wvS [tW (1,a,b,n)]))) (∀i∈[a,b,n],Sm i) (∀(l' p:Addr) H',BP H H'->H' l'=some (.lst [.ref p])->H' p=some (.tup (tmV (1,a,b,n)))->Q (.ref l') H')
def Yt(K:Fr)(cs:Cs)(w:String):Sp:=fun vs H Q _=>Ex2 fun(l:Addr) (g:Bg)=>An5 (vs=[.ref l]) (H l=some (.lst (wvS (wC g)))) (hC g=w) (OkC g) (∀(x:Addr) H',BP H H'->Bw K cs.S cs.O cs.M H' x g->Q (.ref x) H')
def mj(K:Fr)(cs:Cs):Sp:=fun vs H Q _=>∃g:Bg,An3 (vs=[.str (sW (Mq g))]) (OkC g) (∀(x:Addr) H',BP H H'->Bw K cs.S cs.O cs.M H' x g->Q (.ref x) H')
theorem pY{b:Int}(f:falls ts<b)(h:b<=1000):Wi b ts:=⟨by have:=qH (ts:=ts);lia,⋯,Qr f⟩
noncomputable def dtT(c:CT)(n:Int):Wd:=Classical.epsilon fun w=>∃y m r,c.D n y m r/\w=Z2 y m.toNat r.toNat
def CT.good:CT->Prop
 | .one d=>d.good
 | .chg a b _=>a.good/\b.good
theorem qM{c:CT}(g:c.good){n y m r:Int}(h:c.D n y m r):dtT c n=Z2 y m.toNat r.toNat:=by
 obtain⟨y',m',r',h',e⟩:=jc1 (p:=fun w=>∃y m r,c.D n y m r/\w=Z2 y m.toNat r.toNat) ⟨_,y,m,r,h,rfl⟩;have u:∀{d:Bg},d.good->Dty d n y m r->Dty d n y' m' r'->y=y'/\m=m'/\r=r':=fun g a b=>IsD.uniq g a.1 b.1 (a.2.trans b.2.symm);have:y=y'/\m=m'/\r=r':=by
  cases c with
  | one d=>exact u g h h'
  | chg a b k=>
   rcases h with ⟨z,h⟩ | ⟨z,h⟩<;>rcases h' with ⟨z',h'⟩ | ⟨z',h'⟩
   ·exact u g.1 h h'
   ·lia
   ·lia
   ·exact u g.2 h h'
 obtain⟨rfl,rfl,rfl⟩:=this;exact e
theorem EY.good:∀{c:CT},EY K cs H x c->c.good
 | .one _,S=>Bw.good S
 | .chg ..,⟨_,_,_,_,_,_,a,b⟩=>⟨Bw.good a,Bw.good b⟩
abbrev NxQ(n d:Int)(b:Nat)(H:Hp)(Q:VK):Prop:=((∀e,On n b e=false)->∀H',BP H H'->Q .non H')/\∀(r:Int) (H':Hp),BP H H'->d<=r->On n b r=true->(∀e,d<=e->e<r->On n b e=false)->Q (.int r) H'
abbrev LsQ(n d:Int)(b:Nat)(H:Hp)(Q:VK):Prop:=((∀e,On n b e=false)->∀H',BP H H'->Q .non H')/\∀(r:Int) (H':Hp),BP H H'->r<=d->On n b r=true->(∀e,r<e->e<=d->On n b e=false)->Q (.int r) H'
def yZ(K:Fr):Sp:=fun vs H Q _=>Ex4 fun(a:Addr) (n d:Int) (b:Nat)=>An7 (vs=[.ref a,.int d]) (SqT K H a [.int n,.int (b:Int)]) (0<n) (n<=150000) (b<2^n.toNat) (Bt 200 d) (NxQ n d b H Q)
def ye(K:Fr):Sp:=fun vs H Q _=>Ex4 fun(a:Addr) (n d:Int) (b:Nat)=>An7 (vs=[.ref a,.int d]) (SqT K H a [.int n,.int (b:Int)]) (0<n) (n<=150000) (b<2^n.toNat) (Bt 200 d) (LsQ n d b H Q)
def Kd(H H':Hp):Prop:=∀y o,(∀kv,o≠.dK kv)->H y=some o->H' y=some o
section
variable{K:Fr}{CS CO CM CR C x:Addr}{CL:List Addr}{H H' H2:Hp}
theorem Kd.of(s:BP H H'):Kd H H':=fun y o _ h=>s y o h
theorem Kd.trans(a:Kd H H')(b:Kd H' H2):Kd H H2:=fun y o n h=>b y o n (a y o n h)
theorem Kd.put{a:Addr}{kv kv':List (Key×V)}(h:H a=some (.dK kv)):Kd H (upd H a (.dK kv')):=fun y o n e=>by
 rw[Ax fun z=>by rw[z,h] at e;exact n kv (xz e).symm];exact e
theorem Kd.ins(k:Kd H H'){d:Addr}{fs:List (Str×V)}(h:H x=some (.ins C d fs)):H' x=some (.ins C d fs):=k _ _ (fun _ z=>nomatch z) h
theorem Kd.tup(k:Kd H H'){xs:List V}(h:H x=some (.tup xs)):H' x=some (.tup xs):=k _ _ (fun _ z=>nomatch z) h
theorem Kd.lst(k:Kd H H'){xs:List V}(h:H x=some (.lst xs)):H' x=some (.lst xs):=k _ _ (fun _ z=>nomatch z) h
theorem SqT.kd(k:Kd H H'){xs:List V}(h:SqT K H x xs):SqT K H' x xs:=by
 rcases h with (h | ⟨o,h⟩) | h
 ·exact .inl (.inl (k.tup h))
 ·exact .inl (.inr ⟨o,k _ _ (fun _ z=>nomatch z) h⟩)
 ·exact .inr h
theorem Tms.kd(k:Kd H H'):∀{vs:List V} {ts:List Tm},Tms H vs ts->Tms H' vs ts
 | _,_,.nil=>.nil
 | _,_,.cons h t=>.cons (k.tup h) (Tms.kd k t)
theorem Me.kd(k:Kd H H'){b:Int}{ts:List Tm}(M:Me K CM H x b ts):Me K CM H' x b ts:=by
 obtain⟨⟨dy,q,h3,⟨⟨vs,h4,h5⟩,h6,h7⟩⟩,h8,h9⟩:=M;exact⟨⟨dy,q,k.ins h3,⟨⟨vs,SqT.kd k h4,h5.kd k⟩,h6,h7⟩⟩,h8,h9⟩
theorem Bw.kd(k:Kd H H'){g:Bg}(S:Bw K CS CO CM H x g):Bw K CS CO CM H' x g:=by
 cases g with
 | sun s ls lp ts=>
  obtain⟨⟨dx,p,y,h1,h2,h3⟩,h10,h11⟩:=(show G4 K CS CM H x s ls lp ts from S);exact(⟨⟨dx,p,y,k.ins h1,SqT.kd k h2,Me.kd k h3⟩,h10,h11⟩:G4 K CS CM H' x s ls lp ts)
 | moon s bd td bm tm=>
  obtain⟨⟨dx,p,y,h1,h2,h3⟩,h10,h11⟩:=(show Eo K CO CM H x s bd td bm tm from S);exact(⟨⟨dx,p,y,k.ins h1,Me.kd k h2,Me.kd k h3⟩,h10,h11⟩:Eo K CO CM H' x s bd td bm tm)
theorem EY.kd(k:Kd H H'){cs:Cs}:∀{c:CT} {x:Addr},EY K cs H x c->EY K cs H' x c
 | .one _,_,S=>Bw.kd k S
 | .chg ..,_,⟨dx,o,n,lo,fn,h1,h2,h3⟩=>⟨dx,o,n,lo,fn,k.ins h1,Bw.kd k h2,Bw.kd k h3⟩
theorem TrH.kd(k:Kd H H'){g:Bg}{p:PT}(T:TrH K CR CL g H x p):TrH K CR CL g H' x p:=T.on k.ins k.tup
end
noncomputable def CM:=Nat->Option CT
noncomputable def RM:=Nat->Option (Bg×PT)
noncomputable def setM{α:Type}(m:Nat->Option α)(i:Nat)(v:α):Nat->Option α:=fun k=>if k=i then some v else m k
structure Nms(N:Nat->Wd):Prop where
 nm:∀i<6,Lq (N i)
 inj:∀i<6,∀j<6,N i=N j->i=j
def MR(N:Nat->Wd)(c:CM):Wd->CT->Prop:=fun nm k=>∃i<6,nm=N i/\c i=some k
structure Dk(K:Fr)(cs:Cs)(N:Nat->Wd)(H:Hp)(x:Addr)(j:Nat)(c:CM)(m:RM):Prop where
 ex:∃dx a r kv kr,H x=some (.ins cs.D dx [("calendars",.ref a),("rules",.ref r)])/\H a=some (.dK kv)/\H r=some (.dK kr)/\kv.length<=j/\kr.length<=j/\r≠a/\
  (∀i<6,∀k,c i=some k->∃y,Ew kv (.inr (sW (N i)))=some (.ref y)/\EY K cs H y k)/\∀i<6,∀p,m i=some p->∃y,Ew kr (.inr (sW (N i)))=some (.ref y)/\TrH K cs.R cs.L p.1 H y p.2
theorem Dk.same{N:Nat->Wd}{j:Nat}{c:CM}{m:RM}(d:Dk K cs N H x j c m)(s:BP H H'):Dk K cs N H' x j c m:=by
 obtain⟨dx,a,r,kv,kr,h1,h2,h3,h4,h5,h6,h7,h8⟩:=d.ex;refine⟨dx,a,r,kv,kr,s _ _ h1,s _ _ h2,s _ _ h3,h4,h5,h6,fun i hi k e=>?_,fun i hi p e=>?_⟩
 ·obtain⟨y,g1,g2⟩:=h7 i hi k e;exact⟨y,g1,g2.same s⟩
 ·obtain⟨y,g1,g2⟩:=h8 i hi p e;exact⟨y,g1,g2.same s⟩
inductive Wk where
 | nm (i:Nat) | tx (w:Wd) | ca (i:Nat) | ru (i:Nat) | nu (i:Int)
noncomputable def Wk.k:Wk->Str | .nm _=>"NAME" | .tx _=>"TEXT" | .ca _=>"CALENDAR" | .ru _=>"RULE" | .nu _=>"NUMBER"
noncomputable def Wk.w(N:Nat->Wd):Wk->Wd | .nm i=>N i | .tx w=>w | .ca i=>N i | .ru i=>N i | .nu i=>nW i
def Wk.ok:Wk->Prop
 | .nm i=>i<6
 | .tx w=>w.length<=4000/\∀c∈w,c<128
 | .ca i=>i<6
 | .ru i=>i<6
 | .nu i=>Sm i
inductive Ask where
 | on (d:Int) | next (d:Int) | last (d:Int) | count (d e:Int)
inductive Row where
 | cal (i:Nat) (g:Bg) | chg (i a b:Nat) (k:Int) | rule (i:Nat) (p:PT) | date (i:Nat) (d:Int) | ask (i:Nat) (a:Ask) | show(i:Nat)
noncomputable def Row.ws:Row->List Wk
 | .cal i g=>[.nm i,.tx (Mq g)]
 | .chg i a b k=>[.nm i,.ca a,.ca b,.nu k]
 | .rule i p=>[.nm i,.tx p.tx]
 | .date i d=>[.ca i,.nu d]
 | .ask i (.on d)=>[.ru i,.nu d]
 | .ask i (.next d)=>[.ru i,.nu d]
 | .ask i (.last d)=>[.ru i,.nu d]
 | .ask i (.count d e)=>[.ru i,.nu d,.nu e]
 | .show i=>[.ru i]
noncomputable def Row.hd:Row->Str | .cal .. =>"calendar" | .chg .. =>"change" | .rule .. =>"rule" | .date .. =>"date" | .ask _ (.on _)=>"on" | .ask _ (.next _)=>"next" | .ask _ (.last _)=>"last" | .ask _ (.count ..)=>"count" | .show _=>"show"
noncomputable def Row.fi:Row->Nat | .cal .. =>0 | .chg .. =>1 | .rule .. =>2 | .date .. =>3 | .ask _ (.on _)=>6 | .ask _ (.next _)=>7 | .ask _ (.last _)=>8 | .ask _ (.count ..)=>10 | .show _=>16
def Row.ok(R:Row):Prop:=∀w∈R.ws,w.ok
noncomputable def Row.T(N:Nat->Wd)(R:Row):Wd:=jn (cpl R.hd::R.ws.map (Wk.w N))
noncomputable def wkV(N:Nat->Wd)(ws:List Wk):List V:=ws.map fun w=>.str (sW (w.w N))
noncomputable def dB(t:Nat->Addr):List (Key×V):=[(.inr "calendar",.ref (t 0)),(.inr "change",.ref (t 1)),(.inr "rule",.ref (t 2)),(.inr "date",.ref (t 3)),(.inr "day",.ref (t 4)),(.inr "move",.ref (t 5)),(.inr "on",.ref (t 6)),(.inr "next",.ref (t 7)),(.inr "last",.ref (t 8)),(.inr "nth",.ref (t 9)),(.inr "count",.ref (t 10)),(.inr "size",.ref (t 11)),(.inr "same",.ref (t 12)),(.inr "meet",.ref (t 13)),(.inr "within",.ref (t 14)),(.inr "shorter",.ref (t 15)),(.inr "show",.ref (t 16)),(.inr "almanac",.ref (t 17))]
structure rG(P:Program)(w:World)(K:Fr)(mg:Str->Option Value)(a:Addr)(t:Nat->Addr):Prop where
 m:mg "FORMS"=some (.ref a)
 d:KD P w K a (dB t)
 s:∀(R:Row) (H:Hp),SqT K H (t R.fi) (R.ws.map fun w=>V.str w.k)
theorem UT(t:Nat->Addr)(R:Row):Ew (dB t) (.inr R.hd)=some (.ref (t R.fi)):=by
 rcases R with _ | _ | _ | _ | ⟨_,_ | _ | _ | _⟩ | _<;>rfl
noncomputable def ADi(t:Nat->Addr):List (Key×V):=[(.inr "date",.ref (t 0)),(.inr "day",.ref (t 1)),(.inr "move",.ref (t 2)),(.inr "on",.ref (t 3)),(.inr "next",.ref (t 4)),(.inr "last",.ref (t 5)),(.inr "nth",.ref (t 6)),(.inr "count",.ref (t 7)),(.inr "size",.ref (t 8)),(.inr "same",.ref (t 9)),(.inr "meet",.ref (t 10)),(.inr "within",.ref (t 11)),(.inr "shorter",.ref (t 12)),(.inr "show",.ref (t 13)),(.inr "almanac",.ref (t 14))]
structure ADn(P:Program)(w:World)(K:Fr)(mg:Str->Option Value)(a:Addr)(t:Nat->Addr):Prop where
 m:mg "ANSWERS"=some (.ref a)
 d:KD P w K a (ADi t)
 g0:mg "tell_date"=some (.ref (t 0))
 g3:mg "tell_on"=some (.ref (t 3))
 g4:mg "tell_next"=some (.ref (t 4))
 g5:mg "tell_last"=some (.ref (t 5))
 g7:mg "tell_count"=some (.ref (t 7))
 g13:mg "tell_show"=some (.ref (t 13))
theorem Lq.wc{w:Wd}(h:Lq w):w≠[]/\∀c∈w,wch c:=⟨fun z=>by have:=h.lo;rw[z] at this;exact absurd this nofun,fun c hc=>by have:=h.ch c hc;unfold wch;lia⟩
section
variable{N:Nat->Wd}(NN:Nms N)
include NN
theorem Wk.box{k:Wk}(h:k.ok):(∀a∈k.w N,a<128)/\(k.w N).length<=4000/\((∀d,k≠.tx d)->32∉k.w N):=by
 have fin:(∀a∈k.w N,wch a)->(k.w N).length<=4000->(∀a∈k.w N,a<128)/\(k.w N).length<=4000/\((∀d,k≠.tx d)->32∉k.w N):=fun c l=>⟨fun a ha=>by have:=c a ha;unfold wch at this;lia,l,fun _ z=>by have:=c 32 z;unfold wch at this;lia⟩;have nm:∀{i},i<6->(∀a∈N i,wch a)/\(N i).length<=4000:=fun hi=>⟨(Lq.wc (NN.nm _ hi)).2,by have:=Lq.hi (NN.nm _ hi);lia⟩;cases k with
 | nm n=>exact fin (nm h).1 (nm h).2
 | ca n=>exact fin (nm h).1 (nm h).2
 | ru n=>exact fin (nm h).1 (nm h).2
 | nu i=>exact fin (fun a ha=>by have:=Ke h a ha;unfold wch;lia) (zn (Ig h) nofun)
 | tx d=>exact⟨h.2,h.1,fun z=>absurd rfl (z d)⟩
omit NN in
theorem X3(R:Row):(∀a∈cpl R.hd,a<128/\a≠32)/\(cpl R.hd).length<=10:=by
 have all:∀z∈(["calendar","change","rule","date","on","next","last","count","show"]:List Str),(∀a∈cpl z,a<128/\a≠32)/\(cpl z).length<=10:=∅;rcases R with _ | _ | _ | _ | ⟨_,_ | _ | _ | _⟩ | _<;>exact all _ (by walk_at"mm")
theorem Row.tok{R:Row}(h:R.ok):TOk (sW (R.T N)):=by
 have hb:=X3 R;have l:(R.T N).length<=5*4001:=by
  have:=cz 4000 (cpl R.hd::R.ws.map (Wk.w N)) fun w hw=>by
   rcases qh.mp hw with e | e
   ·rw[e];lia
   ·obtain⟨k,hk,rfl⟩:=vi.mp e;exact(Wk.box NN (h k hk)).2.1
  have e:(cpl R.hd::R.ws.map (Wk.w N)).length<=5:=by rcases R with _ | _ | _ | _ | ⟨_,_ | _ | _ | _⟩ | _<;>simp[Row.ws]
  exact zn this (ji5 _ e)
 refine⟨GJ.mpr fun c hc=>?_,by rw[Do];lia⟩;rw[Bp] at hc;by_cases e:c=32
 ·lia
 ·obtain⟨w,hw,m⟩:=Xw e hc;rcases qh.mp hw with e | e
  ·rw[e] at m;exact(hb.1 c m).1
  ·obtain⟨k,hk,rfl⟩:=vi.mp e;exact(Wk.box NN (h k hk)).1 c m
omit NN in
theorem Row.few(R:Row):1<=R.ws.length/\R.ws.length<=4:=by rcases R with _ | _ | _ | _ | ⟨_,_ | _ | _ | _⟩ | _<;>exact⟨by simp[Row.ws],by simp[Row.ws]⟩
omit NN in
theorem Row.head(R:Row):∃r,spl 32 (R.T N)=cpl R.hd::r:=by
 have e:R.T N=cpl R.hd++32::jn (R.ws.map (Wk.w N)):=Jp (by have:=R.few.1;intro z;rw[List.map_eq_nil_iff.mp z] at this;exact absurd this nofun);exact⟨_,by rw[e,Ra 32 _ _ fun z=>((X3 R).1 32 z).2 rfl]⟩
theorem Row.kind{R:Row}(h:R.ok):(∃i w,i<6/\R.ws=[.nm i,.tx w])\/(spl 32 (R.T N)=cpl R.hd::R.ws.map (Wk.w N)/\∃z:Str,z≠"TEXT"/\atI (R.ws.map fun w=>V.str w.k) (-1)=some (V.str z)):=by
 have plain:(∀k∈R.ws,∀d,k≠.tx d)->spl 32 (R.T N)=cpl R.hd::R.ws.map (Wk.w N):=fun np=>bG (by simp) fun w hw=>by
  rcases qh.mp hw with e | e
  ·rw[e];exact fun z=>((X3 R).1 32 z).2 rfl
  ·obtain⟨k,hk,rfl⟩:=vi.mp e;exact(Wk.box NN (h k hk)).2.2 (np k hk)
 rcases R with _ | _ | _ | _ | ⟨_,_ | _ | _ | _⟩ | _
 ·exact .inl ⟨_,_,h _ qc,rfl⟩
 rotate_left
 ·exact .inl ⟨_,_,h _ qc,rfl⟩
 all_goals first
  | exact .inr ⟨plain fun k hk d z=>by subst z;simp[Row.ws] at hk,"NUMBER",∅,rfl⟩
  | exact .inr ⟨plain fun k hk d z=>by subst z;simp[Row.ws] at hk,"RULE",∅,rfl⟩
end
def yR:Sp:=fun vs H Q _=>Ex2 fun(N:Nat->Wd) (R:Row)=>An4 (vs=[.str (sW (R.T N))]) (Nms N) R.ok (∀l H',H l=none->BP H H'->H' l=some (.lst (.str R.hd::wkV N R.ws))->Q (.ref l) H')
def yf:Sp:=fun vs H Q _=>Ex4 fun(a:Addr) (kv:List (Key×V)) (nm:Wd) (v:V)=>An4 (vs=[.ref a,.str (sW nm)]) (H a=some (.dK kv)) (Ew kv (.inr (sW nm))=some v) (Q v H)
def Wk.val(N:Nat->Wd)(kv kr:List (Key×V)):Wk->V->Prop
 | .nm n,v=>v=.str (sW (N n))
 | .tx w,v=>v=.str (sW w)
 | .ca n,v=>Ew kv (.inr (sW (N n)))=some v
 | .ru n,v=>Ew kr (.inr (sW (N n)))=some v
 | .nu i,v=>v=.int i
def DkH(CD:Addr)(H:Hp)(x:Addr)(kv kr:List (Key×V)):Prop:=∃dx a r,H x=some (.ins CD dx [("calendars",.ref a),("rules",.ref r)])/\H a=some (.dK kv)/\H r=some (.dK kr)
theorem DkH.same{CD:Addr}{kv kr:List (Key×V)}(d:DkH CD H x kv kr)(s:BP H H'):DkH CD H' x kv kr:=by
 obtain⟨dx,a,r,h1,h2,h3⟩:=d;exact⟨dx,a,r,s _ _ h1,s _ _ h2,s _ _ h3⟩
def yd(CD:Addr):Sp:=fun vs H Q _=>Ex5 fun(x:Addr) (N:Nat->Wd) (kv kr:List (Key×V)) (k:Wk)=>An7 (vs=[.ref x,.str k.k,.str (sW (k.w N))]) (Nms N) k.ok (DkH CD H x kv kr) (∀n,k=.ca n->∃v,Ew kv (.inr (sW (N n)))=some v) (∀n,k=.ru n->∃v,Ew kr (.inr (sW (N n)))=some v) (∀v H',BP H H'->k.val N kv kr v->Q v H')
def tG(CD:Addr):Sp:=fun vs H Q _=>Ex2 fun(x l:Addr)=>An3 (vs=[.ref x,.ref l]) (H l=some (.lst [])) (∀l' H',H l'=none->BP H H'->H' l'=some (.lst [])->Q (.ref l') H')
noncomputable def yn(b:Bool):Str:=if b then "yes" else "no"
noncomputable def dyT(R:Int->Prop)(O:Int->Bool):Wd:=@ite _ (∃e,O e=true) (Classical.propDecidable _) (nW (Classical.epsilon R)) (sg "never")
noncomputable def ACm:Ask->Int->Nat->Wd
 | .on d,n,b=>cpl (yn (On n b d))
 | .next d,n,b=>dyT (RV (On n b) d) (On n b)
 | .last d,n,b=>dyT (RW (On n b) d) (On n b)
 | .count d e,n,b=>nW (CC n b e-CC n b d)
section
variable(K:Fr)(CR:Addr)(CL:List Addr)
def ABl:Sp:=fun vs H Q _=>Ex5 fun(l y:Addr) (n d:Int) (b:Nat)=>An4 (vs=[.ref l]) (H l=some (.lst [.ref y,.int d])) (Jd K CR CL H y n b) (Q (.str (yn (On n b d))) H)
def GDy(R:(Int->Bool)->Int->Int->Prop)(n:Int)(b:Nat)(d:Int)(H:Hp)(Q:VK):Prop:=((∀e,On n b e=false)->∀H',BP H H'->Q (.str "never") H')/\∀r H',BP H H'->R (On n b) d r->Q (.str (sW (nW r))) H'
def eV:Sp:=fun vs H Q _=>∃r:Option Int,An3 (vs=[oI r]) (okO r) (Q (.str (match r with | none=>"never" | some i=>sW (nW i))) H)
def mU(R:(Int->Bool)->Int->Int->Prop):Sp:=fun vs H Q _=>Ex5 fun(l y:Addr) (n d:Int) (b:Nat)=>An5 (vs=[.ref l]) (H l=some (.lst [.ref y,.int d])) (Jd K CR CL H y n b) (Sm d) (GDy R n b d H Q)
def yP:Sp:=fun vs H Q _=>Ex6 fun(l y:Addr) (n d e:Int) (b:Nat)=>An6 (vs=[.ref l]) (H l=some (.lst [.ref y,.int d,.int e])) (Jd K CR CL H y n b) (Sm d) (Sm e) (∀H',BP H H'->Q (.str (sW (nW (CC n b e-CC n b d)))) H')
def sS:Sp:=fun vs H Q _=>Ex4 fun(l x:Addr) (p:PT) (g:Bg)=>An6 (vs=[.ref l]) (H l=some (.lst [.ref x])) (TrH K CR CL g H x p) p.ok (p.lv+p.br<=40) (∀H',BP H H'->Q (.str (sW p.tx)) H')
end
def sU(K:Fr)(cs:Cs):Sp:=fun vs H Q _=>Ex4 fun(l z:Addr) (d:Int) (c:CT)=>An5 (vs=[.ref l]) (H l=some (.lst [.ref z,.int d])) (EY K cs H z c) (Sm d) (∀H',BP H H'->Q (.str (sW (dtT c d))) H')
section
variable(K:Fr)(cs:Cs)
def ym:Sp:=fun vs H Q _=>Ex4 fun(H0:Hp) (x dx:Addr) (N:Nat->Wd)=>An6 (vs=[.ref x]) (H0 x=none) (H0 dx=none) (dx≠x) (H=upd (upd H0 dx (.own x)) x (.ins cs.D dx [])) (∀H',BP H0 H'->Dk K cs N H' x 0 (fun _=>none) (fun _=>none)->Q .non H')
def ABM(N:Nat->Wd)(H:Hp)(x:Addr)(j:Nat)(c:CM)(m:RM)(Q:VK)(E:XK):Row->Prop
 | .cal i g=>OkC g/\∀H',Kd H H'->Dk K cs N H' x (j+1) (setM c i (.one g)) m->Q (.str "ok") H'
 | .chg i a b k=>∃g g',c a=some (.one g)/\c b=some (.one g')/\Lat g g' k/\∀H',Kd H H'->Dk K cs N H' x (j+1) (setM c i (.chg g g' k)) m->Q (.str "ok") H'
 | .rule i p=>p.ok/\p.lv+p.br<=40/\((∃g,p.kn (MR N c) g/\p.sz g<=150000/\∀H',Kd H H'->Dk K cs N H' x (j+1) c (setM m i (g,p.nrm))->Q (.str "ok") H')\/p.bad (MR N c)/\EC cs.Y H E)
 | .date i d=>∃k,c i=some k/\∀H',BP H H'->Q (.str (sW (dtT k d))) H'
 | .ask i a=>∃g p,m i=some (g,p)/\∀H',BP H H'->Q (.str (sW (ACm a (p.sz g) (p.bt g)))) H'
 | .show i=>∃g p,m i=some (g,p)/\p.ok/\p.lv+p.br<=40/\∀H',BP H H'->Q (.str (sW p.tx)) H'
def ACa:Row->Prop
 | .cal .. =>True
 | .chg .. =>True
 | .rule .. =>True
 | _=>False
def yg:Sp:=fun vs H Q E=>Ex8 fun(x l:Addr) (N:Nat->Wd) (j:Nat) (c:CM) (m:RM) (R:Row) (v1:Nat->Addr)=>An9 (ACa R) (vs=[.ref x,.str R.hd,.ref l]) (H l=some (.lst (match R with | .cal i g=>[.str (sW (N i)),.str (sW (Mq g))] | .chg i a b k=>[.str (sW (N i)),.ref (v1 a),.ref (v1 b),.int k] | .rule i p=>[.str (sW (N i)),.str (sW p.tx)] | _=>[]))) (Nms N) R.ok (Dk K cs N H x j c m) (j<=50) (∀i<6,∀k,c i=some k->EY K cs H (v1 i) k) (ABM K cs N H x j c m Q E R)
def ABm:Sp:=fun vs H Q E=>Ex6 fun(x:Addr) (N:Nat->Wd) (j:Nat) (c:CM) (m:RM) (R:Row)=>An6 (vs=[.ref x,.str (sW (R.T N))]) (Nms N) R.ok (Dk K cs N H x j c m) (j<=50) (ABM K cs N H x j c m Q E R)
end
theorem GDy.mk{R:(Int->Bool)->Int->Int->Prop}{n:Int}(ho:∀r,R (On n b) d r->On n b r=true)(hu:∀r r',R (On n b) d r->R (On n b) d r'->r=r')(q:∀H',BP H H'->Q (.str (sW (dyT (R (On n b) d) (On n b)))) H'):GDy R n b d H Q:=by
 refine⟨fun h H' s=>?_,fun r H' s hr=>?_⟩
 ·have e:dyT (R (On n b) d) (On n b)=sg "never":=xp fun⟨e,z⟩=>by rw[h e] at z;cases z
  have:=q H' s
  rwa [e,show sW (sg "never")="never" from FT _] at this
 ·have e:dyT (R (On n b) d) (On n b)=nW r:=(xo ⟨r,ho r hr⟩).trans (yi nW (hu _ _ (jc1 (p:=R (On n b) d) ⟨r,hr⟩) hr));have:=q H' s
  rwa [e] at this
theorem Zm{O:Int->Bool}{r r':Int}(h:RV O d r)(h':RV O d r'):r=r':=by
 have a:¬r<r':=fun z=>by have:=h'.2.2 r h.1 z;rw[h.2.1] at this;cases this
 have b:¬r'<r:=fun z=>by have:=h.2.2 r' h'.1 z;rw[h'.2.1] at this;cases this
 lia
theorem Zv{O:Int->Bool}{r r':Int}(h:RW O d r)(h':RW O d r'):r=r':=by
 have a:¬r<r':=fun z=>by have:=h.2.2 r' z h'.1;rw[h'.2.1] at this;cases this
 have b:¬r'<r:=fun z=>by have:=h'.2.2 r z h.1;rw[h.2.1] at this;cases this
 lia
theorem JP(h:Sm d):Bt 200 d:=jm8 h nofun
theorem Rk{e:Int}(h:Sm d)(h1:d-1000000<=e)(h2:e<=d+1000000):e.natAbs.log2<1920:=by
 refine LQ ?_ ?_<;>
 ·unfold Sm at h;have:(10:Nat)^45=1000000000000000000000000000000000000000000000:=nofun
  lia
theorem rO{n:Int}{b:Nat}(n0:0<n)(d:Int):∀k:Nat,CC n b (d+(k:Int))-CC n b d<=(k:Int)
 | 0=>by simp
 | k+1=>by
  have a:=rO (b:=b) n0 d k;have s:=iT (b:=b) n0 (d+(k:Int));rw[show d+((k+1:Nat):Int)=d+(k:Int)+1 by lia,s];split<;>lia
theorem ABT{n:Int}(n0:0<n)(d e:Int):(CC n b e-CC n b d).natAbs<=(e-d).natAbs:=by
 have go:∀{d e:Int},d<=e->(CC n b e-CC n b d).natAbs<=(e-d).natAbs:=fun{d e} h=>by
  have a:=wU (b:=b) n0 h;have c:=rO (b:=b) n0 d (e-d).toNat;rw[show d+((e-d).toNat:Int)=e by omega] at c;omega
 rcases Int.le_total d e with h | h
 ·exact go h
 ·have:=go h;omega
theorem qY{n e:Int}(n0:0<n)(sd:Sm d)(se:Sm e):(CC n b e-CC n b d).natAbs.log2<1920:=by
 have:=ABT (b:=b) n0 d e;unfold Sm at sd se;have:(10:Nat)^45=1000000000000000000000000000000000000000000000:=nofun;exact LQ (by omega) (by omega)
theorem yD{a:Addr}(h:H a=some o):upd H a o=H:=funext fun b=>by
 by_cases e:b=a
 ·rw[e,Ai,h]
 ·exact Ax e
def GV(N:Nat->Wd)(kv kr:List (Key×V))(n:Nat)(ks:List Wk)(vs:List V):Prop:=vs.length=n/\∀(j:Nat) (k:Wk) (v:V),ks[j]?=some k->vs[j]?=some v->k.val N kv kr v
theorem GV.cons{N:Nat->Wd}{kv kr:List (Key×V)}{n:Nat}{k:Wk}{ks:List Wk}(g:GV N kv kr (n+1) (k::ks) vs):∃v ws,vs=v::ws/\k.val N kv kr v/\GV N kv kr n ks ws:=by
 cases vs with
 | nil=>exact absurd g.1 (by simp)
 | cons v ws=>exact⟨v,ws,rfl,g.2 0 k v rfl rfl,by have:=g.1;simpa using this,fun j k' v' e1 e2=>g.2 (j+1) k' v' e1 e2⟩
theorem GV.one{N:Nat->Wd}{kv kr:List (Key×V)}{k:Wk}(g:GV N kv kr 1 [k] vs):∃v,vs=[v]/\k.val N kv kr v:=by
 obtain⟨v,ws,rfl,h,g'⟩:=GV.cons g;exact⟨v,by rw[jb6.mp g'.1],h⟩
theorem j6{a b:Addr}{ks:List Wk}{N:Nat->Wd}{kv kr:List (Key×V)}{Z:L2.St}{te:TE}(ha:∀H,SqT K H a (ks.map fun k=>V.str k.k))(hb:H b=some (.lst (wkV N ks)))(hl:ks.length<sizeLine)
 (he:∀k∈ks,∀(H':Hp) (Q':VK),BP H H'->(∀v H'',BP H' H''->k.val N kv kr v->Q' v H'')->te (some (.str k.k)::some (.str (sW (k.w N)))::Z) H' Q')
 (h:∀(D:Addr) (H':Hp) (vs:List V),H D=none->BP H H'->H' D=some (.lst vs)->GV N kv kr ks.length ks vs->Q (.ref D) H'):
 Yb 2 (vZ K 2 (gZ (Kq 0) (gZ (Kq 1) AAa))) lU te Z Q (dZ K a b true false) H:=by
 intro D hD;have lb:(wkV N ks).length=ks.length:=js _;refine⟨fun i m zs H2=>i<=ks.length/\m=ks.length-i/\H2 D=some (.lst zs)/\BP H H2/\GV N kv kr i ks zs,⟨_,vj _,rfl,Ai,BR hD _,rfl,fun j k v _ e=>by simp at e⟩,?_⟩;rintro i m zs H2 ⟨hi,rfl,hz,s2,zl,g⟩;refine⟨hz,?_⟩;have qb:SqL K H2 b (wkV N ks):=SqL.of (s2 _ _ hb);by_cases c:i<ks.length
 ·have ex:(ks.map fun k=>V.str k.k)[i]?=some (.str ks[i].k):=by rw[xa,zh c];rfl
  have ey:(wkV N ks)[i]?=some (.str (sW (ks[i].w N))):=by unfold wkV;rw[xa,zh c];rfl
  refine .inr ⟨⟨_,_,_,_,ha H2,qb,ex,ey⟩,⋯,ks.length-(i+1),⋯,?_⟩;rintro v H3 ⟨T,x,y,hT,rfl,rfl,hxy⟩ ρ hρ;obtain⟨gx,gy⟩:=hxy _ _ (ha H2) qb;rw[ex] at gx;rw[ey] at gy;cases gx;cases gy;obtain⟨p,q,rfl⟩:∃p q,ρ=[p,q]:=by
   match ρ,hρ with
   | [p,q],_=>exact⟨p,q,rfl⟩
  refine⟨T,[.str ks[i].k,.str (sW (ks[i].w N))],rfl,SqT.of Ai,rfl,.str ks[i].k,[.str (sW (ks[i].w N))],rfl,.str (sW (ks[i].w N)),[],rfl,⟨rfl,[some (.str ks[i].k),some (.str (sW (ks[i].w N)))],rfl,rfl,?_⟩⟩;refine Jl ?_;rw[xo rfl];have s3:=BR hT (.tup [.str ks[i].k,.str (sW (ks[i].w N))]);refine he _ (ji9 c) _ _ (s2.trans s3) fun v H4 s4 hv=>?_;refine⟨s4 _ _ (s3 _ _ hz),⋯,rfl,Ai,Ez hD ((s2.trans s3).trans s4),by rw[qq];show zs.length+1=i+1;lia,fun j k w ek ew=>?_⟩;by_cases cj:j<zs.length
  ·rw[je5 cj] at ew;exact g j k w ek ew
  ·rw[jc0 ⋯] at ew;have e0:j-zs.length=0:=by
    by_cases z:j-zs.length=0
    ·exact z
    ·rw[jh9 (by show 1<=_;lia)] at ew;cases ew
   rw[e0] at ew;cases ew;have:j=i:=⋯;rw[this,zh c] at ek;cases ek;exact hv
 ·have e:i=ks.length:=⋯
  subst e;exact .inl ⟨⟨_,_,ha H2,qb,by rw[js,lb,Nat.min_self]⟩,h D H2 zs hD s2 hz ⟨zl,g⟩⟩
structure Lg(x:Str)(a:Wd)(n:Nat):Prop where
 e:cpl x=a
 l:a.length<=n
theorem Lg.s(z:String)(h:(sg z).length<=30:=by ac_rfl):Lg (Str.ofString z) (sg z) 30:=⟨rfl,h⟩
theorem Lg.n(h:Sm i):Lg (Cr i) (nW i) 46:=⟨rfl,Ig h⟩
theorem Lg.w(a:Wd){n:Nat}(h:a.length<=n):Lg (sW a) a n:=⟨Bp _,h⟩
theorem Lg.eq{x:Str}{a b:Wd}{n:Nat}(h:Lg x a n)(e:a=b):x=sW b:=by rw[<-e,<-h.e,FT]
theorem Lg.ap{x y:Str}{a b:Wd}{n m:Nat}(X:Lg x a n)(Y:Lg y b m):Lg (x++y) (a++b) (n+m):=⟨by rw[HS,X.e,Y.e],by rw[qq];exact Nat.add_le_add X.l Y.l⟩
theorem Lg.aps{x:Str}{a:Wd}{n:Nat}(X:Lg x a n)(z:String)(h:(sg z).length<=30:=by ac_rfl):Lg (x++Str.ofString z) (a++sg z) (n+30):=X.ap (.s z h)
theorem Lg.le{x y:Str}{a:Wd}{n:Nat}(X:Lg (x++y) a n)(h:n<=100000:=by decide):x.length+y.length<=sizeLine:=by
 rw[<-pH,<-Dn,X.e];exact zn X.l (zn h nofun)
def xO:R2:=fun x y H Q=>∃i j,x=.str i/\y=.str j/\i.length+j.length<=sizeLine/\Q (.str (i++j)) H
theorem Av{X:Cx}:OpR X (binaryOp .Add) xO:=cR
theorem Lg.go{x y:Str}{a:Wd}{n:Nat}(Z:Lg (x++y) a n)(q:∀z,Lg z a n->Q (.str z) H)(h:n<=100000:=by decide):xO (.str x) (.str y) H Q:=⟨x,y,rfl,rfl,Z.le h,q _ Z⟩
def tH:Sp:=fun vs H Q _=>Ex2 fun(c:Int) (k:Nat)=>An4 (vs=[.int c,.str (sW [k])]) (97<=k) (k<=122) (∀w H',BP H H'->Lq w->w.getLast?=some k->Q (.str (sW w)) H')
def uA:Sp:=fun vs H Q _=>Ex2 fun(c s:Int)=>An3 (vs=[.int c,.int s]) (Sm s) (∀H',BP H H'->Q (.str (sW (Mq (shp c s)))) H')
structure Plan(nm:Wd)(p:PT):Prop where
 ok:p.ok
 ln:p.lv+p.br<=40
 kn:∀M g,M nm (.one g)->SmC g->p.kn M g/\p.sz g<=150000
def mV:Sp:=fun vs H Q _=>Ex2 fun(c:Int) (nm:Wd)=>An3 (vs=[.int c,.str (sW nm)]) (Lq nm) (∀p H',BP H H'->Plan nm p->Q (.str (sW p.tx)) H')
section
variable(K:Fr)(cs:Cs)
def mW:Sp:=fun vs H Q _=>ACx fun(x y:Addr) (N:Nat->Wd) (i j:Nat) (c:CM) (m:RM) (g:Bg) (p:PT) (d:Int)=>ABU (vs=[.ref x,.str (sW (N i)),.ref y,.int d]) (Nms N) (i<6) (Dk K cs N H x j c m) (j<=50) (m i=some (g,p)) (TrH K cs.R cs.L g H y p) p.ok (p.lv+p.br<=40) (Sm d) (Sm (d+100)) (∀H',BP H H'->Q (.bl true) H')
noncomputable def nmV(N:Nat->Wd):List V:=(List.range 6).map fun i=>V.str (sW (N i))
def Som(H:Hp)(c:CM)(ys:List Addr):Prop:=∀i y,ys[i]?=some y->∃k,c i=some k/\EY K cs H y k
def nA:Sp:=fun vs H Q _=>Ex9 fun(x ln ls:Addr) (ys:List Addr) (N:Nat->Wd) (j:Nat) (c:CM) (m:RM) (d:Int)=>ABV (vs=[.ref x,.ref ln,.ref ls,.int d]) (Nms N) (Dk K cs N H x j c m) (j<=50) (H ln=some (.lst (nmV N))) (H ls=some (.lst (ys.map .ref))) (ys.length<=3) (Som K cs H c ys) (Sm d) (∀H',BP H H'->Q (.bl true) H')
def tE:Sp:=fun vs H Q _=>Ex7 fun(x:Addr) (N:Nat->Wd) (i j:Nat) (c:CM) (m:RM) (p:PT)=>An9 (vs=[.ref x,.str (sW ((Row.rule i p).T N))]) (Nms N) (i<6) (Dk K cs N H x j c m) (j<=50) p.ok (p.lv+p.br<=40) (p.bad (MR N c)) (∀H',BP H H'->Q (.bl true) H')
inductive Stp(N:Nat->Wd):Row->CM->RM->CM->RM->Prop
 | cal {i:Nat} {g:Bg} {c:CM} {m:RM}:i<6->OkC g->Stp N (.cal i g) c m (setM c i (.one g)) m
 | chg {i a b:Nat} {k:Int} {g g':Bg} {c:CM} {m:RM}:i<6->a<6->b<6->Sm k->c a=some (.one g)->c b=some (.one g')->Lat g g' k->Stp N (.chg i a b k) c m (setM c i (.chg g g' k)) m
 | rule {i:Nat} {p:PT} {g:Bg} {c:CM} {m:RM}:i<6->p.ok->p.lv+p.br<=40->p.kn (MR N c) g->p.sz g<=150000->Stp N (.rule i p) c m c (setM m i (g,p.nrm))
inductive U3(N:Nat->Wd):List Row->CM->RM->CM->RM->Prop
 | nil {c:CM} {m:RM}:U3 N [] c m c m
 | cons {R:Row} {Rs:List Row} {c c1 c2:CM} {m m1 m2:RM}:Stp N R c m c1 m1->U3 N Rs c1 m1 c2 m2->U3 N (R::Rs) c m c2 m2
def yU:Sp:=fun vs H Q _=>Ex9 fun(x l:Addr) (N:Nat->Wd) (Rs:List Row) (j:Nat) (c c':CM) (m m':RM)=>An7 (vs=[.ref x,.ref l]) (Nms N) (Dk K cs N H x j c m) (j+Rs.length<=50) (H l=some (.lst (Rs.map fun R=>.str (sW (R.T N))))) (U3 N Rs c m c' m') (∀H',Kd H H'->Dk K cs N H' x (j+Rs.length) c' m'->Q (.bl true) H')
end
theorem PT.row_tx(h:p.ok)(l:p.lv+p.br<=40):p.tx.length<=4000/\∀c∈p.tx,c<128:=by
 have t:=PT.tx_len h;have d:=PT.lv_br p;have r:=(PT.rdy h ⋯ ⋯).2.1;refine⟨⋯,fun c hc=>?_⟩;have:=GJ.mp r.asc c (by rw[Bp];exact hc);lia
theorem OkC.row_tx(o:OkC g):(Mq g).length<=4000/\∀c∈Mq g,c<128:=by
 obtain⟨_,l,r⟩:=o.tx;refine⟨⋯,fun c hc=>?_⟩;have:=GJ.mp r.asc c (by rw[Bp];exact hc);lia
theorem Stp.ok{N:Nat->Wd}{R:Row}{c c':CM}{m m':RM}(s:Stp N R c m c' m'):R.ok:=by
 cases s with
 | cal hi o=>
  exact fun w hw=>by
   rcases qh.mp hw with rfl | hw
   ·exact hi
   ·rw[zv.mp hw];exact o.row_tx
 | chg hi ha hb hk=>
  exact fun w hw=>by
   rcases qh.mp hw with rfl | hw
   ·exact hi
   rcases qh.mp hw with rfl | hw
   ·exact ha
   rcases qh.mp hw with rfl | hw
   ·exact hb
   ·rw[zv.mp hw];exact hk
 | rule hi o l=>
  exact fun w hw=>by
   rcases qh.mp hw with rfl | hw
   ·exact hi
   ·rw[zv.mp hw];exact PT.row_tx o l
theorem Stp.say{N:Nat->Wd}{R:Row}{c c':CM}{m m':RM}{j:Nat}(s:Stp N R c m c' m')(q:∀H',Kd H H'->Dk K cs N H' x (j+1) c' m'->Q (.str "ok") H'):ABM K cs N H x j c m Q E R:=by
 cases s with
 | cal hi o=>exact⟨o,q⟩
 | chg hi ha hb hk e1 e2 l=>exact⟨_,_,e1,e2,l,q⟩
 | rule hi o l kn z=>exact⟨o,l,.inl ⟨_,kn,z,q⟩⟩
structure LA where
 (ln ls lr y0 y1 y2 y3 r0 r1:Addr)
structure LB where
 (a s d k:Int)
 (k1 k2:CT)
 (g0 g1:Bg)
 p:PT
structure LO(K:Fr)(cs:Cs)(N:Nat->Wd)(H:Hp)(A:LA)(B:LB):Prop where
 n:H A.ln=some (.lst (nmV N))
 r:H A.lr=some (.lst [.ref A.r0,.ref A.r1])
 nn:A.ls≠A.ln
 nr:A.ls≠A.lr
 c1:EY K cs H A.y1 B.k1
 c2:EY K cs H A.y2 B.k2
 c3:EY K cs H A.y3 (.one (shp B.a (B.s-2000)))
 t0:TrH K cs.R cs.L B.g0 H A.r0 B.p
 t1:TrH K cs.R cs.L B.g1 H A.r1 B.p
structure LC(c:CM)(m:RM)(B:LB):Prop where
 e1:c 1=some B.k1
 e2:c 2=some B.k2
 m3:m 3=some (B.g0,B.p)
 m4:m 4=some (B.g1,B.p)
structure LN(B:LB):Prop where
 ok:B.p.ok
 ln:B.p.lv+B.p.br<=40
 s3:Sm (B.s+3)
 s2:Sm (B.s-2000)
 sd:Sm B.d
 sd2:Sm (B.d+100)
 sk:Sm B.k
 sk2:Sm (B.k+100)
def yo(K:Fr)(cs:Cs):Sp:=fun vs H Q _=>Ex7 fun(x:Addr) (A:LA) (N:Nat->Wd) (j:Nat) (c:CM) (m:RM) (B:LB)=>ABU (vs=[.ref x,.ref A.ln,.ref A.ls,.ref A.lr,.int B.d,.int B.k]) (Nms N) (Dk K cs N H x j c m) (j<=20) (LO K cs N H A B) (H A.ls=some (.lst [.ref A.y0,.ref A.y1,.ref A.y2,.ref A.y3])) (EY K cs H A.y0 (.one (shp B.a (B.s+3)))) (c 0=some (.one (shp B.a (B.s+3)))) (c 5=some (.one (shp B.a (B.s-2000)))) (LC c m B) (LN B) (∀H',Q (.bl true) H')
theorem Kd.app{H2:Hp}{D:Addr}(hD:H D=none)(k:Kd H H2):Kd H (upd H2 D o):=fun y u n e=>by
 rw[Ax (BX e hD)];exact k y u n e
theorem EY.but(hl:H l=some (.lst xs))(k:But l H H'):∀{c:CT} {x:Addr},EY K cs H x c->EY K cs H' x c
 | .one _,_,S=>Bw.but S hl k
 | .chg ..,_,⟨dx,o,n,lo,fn,h1,h2,h3⟩=>⟨dx,o,n,lo,fn,k _ _ (Eu h1 hl (fun z=>nomatch z)) h1,Bw.but h2 hl k,Bw.but h3 hl k⟩
theorem TrH.but{CR:Addr}{CL:List Addr}(hl:H l=some (.lst xs))(k:But l H H')(T:TrH K CR CL g H x p):TrH K CR CL g H' x p:=T.on (fun h=>k _ _ (Eu h hl (fun z=>nomatch z)) h) (fun h=>k _ _ (Eu h hl (fun z=>nomatch z)) h)
theorem Dk.but{N:Nat->Wd}{j:Nat}{c:CM}{m:RM}(d:Dk K cs N H x j c m)(hl:H l=some (.lst xs))(k:But l H H'):Dk K cs N H' x j c m:=by
 obtain⟨dx,a,r,kv,kr,h1,h2,h3,h4,h5,h6,h7,h8⟩:=d.ex;refine⟨dx,a,r,kv,kr,k _ _ (Eu h1 hl (fun z=>nomatch z)) h1,k _ _ (Eu h2 hl (fun z=>nomatch z)) h2,k _ _ (Eu h3 hl (fun z=>nomatch z)) h3,h4,h5,h6,fun i hi k' e=>?_,fun i hi p e=>?_⟩
 ·obtain⟨y,g1,g2⟩:=h7 i hi k' e;exact⟨y,g1,EY.but hl k g2⟩
 ·obtain⟨y,g1,g2⟩:=h8 i hi p e;exact⟨y,g1,TrH.but hl k g2⟩
theorem U3.head{N:Nat->Wd}{Rs:List Row}{i:Nat}{R:Row}{c c':CM}{m m':RM}(st:U3 N (Rs.drop i) c m c' m')(h:Rs[i]?=some R):∃c1 m1,Stp N R c m c1 m1/\U3 N (Rs.drop (i+1)) c1 m1 c' m':=by
 have hi:=(zd.mp h);rw[kz hi.1,hi.2] at st;cases st with
 | cons a b=>exact⟨_,_,a,b⟩
section
variable{K:Fr}{cs:Cs}{N:Nat->Wd}{H H':Hp}{A:LA}{B:LB}
theorem LO.same(o:LO K cs N H A B)(s:BP H H'):LO K cs N H' A B:=⟨s _ _ o.n,s _ _ o.r,o.nn,o.nr,o.c1.same s,o.c2.same s,o.c3.same s,o.t0.same s,o.t1.same s⟩
theorem LO.kd(o:LO K cs N H A B)(s:Kd H H'):LO K cs N H' A B:=⟨s.lst o.n,s.lst o.r,o.nn,o.nr,o.c1.kd s,o.c2.kd s,o.c3.kd s,o.t0.kd s,o.t1.kd s⟩
theorem LO.but(o:LO K cs N H A B){xs:List V}(h:H A.ls=some (.lst xs))(s:But A.ls H H'):LO K cs N H' A B:=⟨s _ _ o.nn.symm o.n,s _ _ o.nr.symm o.r,o.nn,o.nr,EY.but h s o.c1,EY.but h s o.c2,EY.but h s o.c3,TrH.but h s o.t0,TrH.but h s o.t1⟩
end
theorem FQ{N:Nat->Wd}{i:Nat}(h:i<6):atI (nmV N) (i:Int)=some (V.str (sW (N i))):=Dz (by unfold nmV;rw[xa,jn9 h];rfl)
theorem nH{c:CM}{a b d:Addr}{k0 k1 k2:CT}(e0:c 0=some k0)(e1:c 1=some k1)(e2:c 2=some k2)(h0:EY K cs H a k0)(h1:EY K cs H b k1)(h2:EY K cs H d k2):Som K cs H c [a,b,d]:=fun i y e=>by
 match i,e with
 | 0,e=>cases e;exact⟨_,e0,h0⟩
 | 1,e=>cases e;exact⟨_,e1,h1⟩
 | 2,e=>cases e;exact⟨_,e2,h2⟩
 | i+3,e=>cases e
theorem AAy(a b n:Int):tW (1,a,b,n)=sg "+"++nW a++sg ","++nW b++sg ","++nW n:=by
 rw[show sg "+"=[43] by ac_rfl,show sg ","=[44] by ac_rfl];simp[tW,GQ]
theorem ABH(s bd bm:Int)(t:Tm):Mq (.moon s bd [t] bm [(1,1,0,2)])=sg "moon "++nW s++sg " "++nW bd++sg " "++tW t++sg " / "++nW bm++sg " +1,0,2":=by
 have e:Mq (.moon s bd [t] bm [(1,1,0,2)])=sg "moon"++32::(nW s++32::(nW bd++32::(tW t++32::(sg "/"++32::(nW bm++32::tW (1,1,0,2)))))):=rfl;rw[e,bsg,show sg "moon "=sg "moon"++[32] by ac_rfl,show sg " / "=32::(sg "/"++[32]) by ac_rfl,show sg " +1,0,2"=32::tW (1,1,0,2) by ac_rfl];simp
theorem ACq(s a b:Int)(t:Tm):Mq (.sun s [a,b] 1 [t])=sg "sun "++nW s++sg " "++nW a++sg ","++nW b++sg " leap 1 "++tW t:=by
 have e:Mq (.sun s [a,b] 1 [t])=sg "sun"++32::(nW s++32::(nW a++44::(nW b++[])++32::(sg "leap"++32::(nW 1++32::tW t)))):=rfl;rw[e,bsg,show sg "sun "=sg "sun"++[32] by ac_rfl,show sg " leap 1 "=32::(sg "leap"++32::(nW 1++[32])) by ac_rfl,show sg ","=[44] by ac_rfl];simp
theorem T2{s h x z:Wd}(e:s=h++[32]):h++32::(x++32::z)=s++x++sg " "++z:=by rw[e,bsg];simp
theorem iK(N:Nat->Wd)(i:Nat)(g:Bg):Row.T N (.cal i g)=sg "calendar "++N i++sg " "++Mq g:=T2 (show sg "calendar "=cpl "calendar"++[32] by ac_rfl)
theorem U0(N:Nat->Wd)(i:Nat)(p:PT):Row.T N (.rule i p)=sg "rule "++N i++sg " "++p.tx:=T2 (show sg "rule "=cpl "rule"++[32] by ac_rfl)
theorem cm5:aW 5 ((10:Int)^(39:Int).toNat):=⟨3,200,(by unfold Bt;decide),(by unfold Bt;ac_rfl),nofun⟩
theorem qR(x:Int): -5000000000000000000000000000000000000000<=x%10^(40:Int).toNat-5*10^(39:Int).toNat/\x%10^(40:Int).toNat-5*10^(39:Int).toNat<=5000000000000000000000000000000000000000:=by
 rw[show (10:Int)^(40:Int).toNat=10000000000000000000000000000000000000000 by ac_rfl,show(10:Int)^(39:Int).toNat=1000000000000000000000000000000000000000 by ac_rfl];lia
theorem Yz{x y:Int}(h: -5000000000000000000000000000000000000000<=x/\x<=5000000000000000000000000000000000000000)(a:x-5000<=y)(b:y<=x+5000):Sm y:=by
 have:(10:Nat)^45=1000000000000000000000000000000000000000000000:=nofun;unfold Sm;lia
theorem du{k:Key}{v:V}:Ew (GX [] [(k,v)]) k=some v:=by simp[GX,putK,Ew]
theorem ACs(N:Nat->Wd)(i:Nat):sg "rule "++N i++sg " all"=Row.T N (.rule i .lf):=by
 rw[U0,show sg " all"=sg " "++PT.lf.tx by ac_rfl];simp only[ki]
theorem ACr(N:Nat->Wd)(i:Nat):sg "rule "++N i++sg " (all but date "++N 0++sg " 1 1)"=Row.T N (.rule i (.pr .bu .lf (.date (N 0) (some 1) (some 1)))):=by
 rw[U0,PT.tx_pr,PT.tx_date0,show PT.lf.tx=sg "all" by ac_rfl];unfold Ub;rw[show sg " (all but date "=sg " "++sg "("++sg "all"++sg PK.bu.t++sg "date " by ac_rfl,show sg " 1 1)"=sg " "++Dj (some 1)++sg " "++Dj (some 1)++sg ")" by ac_rfl];simp only[ki]
theorem ABJ(N:Nat->Wd)(i:Nat)(d:Int):sg "rule "++N i++sg " each 3 from "++nW d=Row.T N (.rule i (.each 3 d)):=by
 rw[U0,PT.tx_each];unfold Lx;rw[show sg " each 3 from "=sg " "++sg "each "++nW 3++sg " from " by ac_rfl];simp only[ki]
theorem ADl(d:Int):sg "each 3 from "++nW d=PT.tx (.each 3 d):=by
 rw[PT.tx_each];unfold Lx;rw[show sg "each 3 from "=sg "each "++nW 3++sg " from " by ac_rfl]
theorem qL(h:Sm d):(PT.each 3 d).ok:=⟨sm1 nofun nofun,h,nofun,nofun⟩
theorem ABK(N:Nat->Wd)(i:Nat)(d:Int):Row.T N (.date i d)=sg "date "++N i++sg " "++nW d:=T2 (show sg "date "=cpl "date"++[32] by ac_rfl)
theorem xu(N:Nat->Wd)(i a b:Nat)(k:Int):Row.T N (.chg i a b k)=sg "change "++N i++sg " "++N a++sg " "++N b++sg " "++nW k:=by
 have e:Row.T N (.chg i a b k)=cpl "change"++32::(N i++32::(N a++32::(N b++32::nW k))):=rfl;rw[e,bsg,show sg "change "=cpl "change"++[32] by ac_rfl];simp
theorem T3{h x z:Wd}:h++32::(x++32::z)=h++(sg " "++x++sg " "++z):=by rw[bsg];simp
theorem ADk(N:Nat->Wd)(i:Nat)(d:Int):Row.T N (.ask i (.on d))=sg "on"++(sg " "++N i++sg " "++nW d):=T3
theorem ABG(N:Nat->Wd)(i:Nat)(d:Int):Row.T N (.ask i (.next d))=sg "next"++(sg " "++N i++sg " "++nW d):=T3
theorem ABI(N:Nat->Wd)(i:Nat)(d:Int):Row.T N (.ask i (.last d))=sg "last"++(sg " "++N i++sg " "++nW d):=T3
theorem wN(N:Nat->Wd)(i:Nat)(d k:Int):Row.T N (.ask i (.count d k))=sg "count"++(sg " "++N i++sg " "++nW d)++sg " "++nW k:=by
 have e:Row.T N (.ask i (.count d k))=sg "count"++32::(N i++32::(nW d++32::nW k)):=rfl;rw[e,bsg];simp
theorem AAz(N:Nat->Wd)(i:Nat):Row.T N (.show i)=sg "show "++N i:=by
 have e:Row.T N (.show i)=sg "show"++32::N i:=rfl;rw[e,show sg "show "=sg "show"++[32] by ac_rfl];simp
theorem r1{a:Wk}(h:a.ok):∀w∈[a],w.ok:=fun w hw=>by rw[zv.mp hw];exact h
theorem r2{a b:Wk}(h:a.ok)(g:b.ok):∀w∈[a,b],w.ok:=fun w hw=>(qh.mp hw).elim (fun e=>e ▸ h) (r1 g w)
theorem r3{a b c:Wk}(h:a.ok)(g:b.ok)(f:c.ok):∀w∈[a,b,c],w.ok:=fun w hw=>(qh.mp hw).elim (fun e=>e ▸ h) (r2 g f w)
theorem Nms.le{N:Nat->Wd}(NN:Nms N){i:Nat}(hi:i<6):(N i).length<=8:=(NN.nm i hi).hi
structure Wan(z:Str)(m d:Option Int):Prop where
 e:z=sW (Dj m++sg " "++Dj d)
 m0:okM m
 d0:d≠some 0
 om:PT.okS m
 od:PT.okS d
 lm:(Dj m).length<=2
 ld:(Dj d).length<=2
theorem AAr(x:Int):∃(z:Str) (m d:Option Int),Wan z m d/\atI ([Str.ofString "* 1",Str.ofString "1 *",Str.ofString "1 -1",Str.ofString "2 1",Str.ofString "* -2",Str.ofString "1 2"].map V.str) (x%6)=some (.str z):=by
 have a0:=xk x (show (6:Int)≠0 by decide);have a1:=xb x (show (0:Int)<6 by decide);have n0:PT.okS none:=fun i h=>nomatch h;have s0:∀{j:Int},-10<j->j<10->PT.okS (some j):=fun{j} h1 h2 i h=>by
  injection h with h;subst h;exact fG ⋯ ⋯
 have mn:okM none:=fun i h=>nomatch h;have ms:∀{j:Int},1<=j->okM (some j):=fun h i e=>by injection e with e;lia
 obtain e | e | e | e | e | e:x%6=0\/x%6=1\/x%6=2\/x%6=3\/x%6=4\/x%6=5:=⋯
 all_goals rw[e]
 ·exact⟨_,none,some 1,⟨∅,mn,nofun,n0,s0 nofun nofun,∅,∅⟩,rfl⟩
 ·exact⟨_,some 1,none,⟨∅,ms nofun,nofun,s0 nofun nofun,n0,∅,∅⟩,rfl⟩
 ·exact⟨_,some 1,some (-1),⟨∅,ms nofun,nofun,s0 nofun nofun,s0 nofun nofun,∅,∅⟩,rfl⟩
 ·exact⟨_,some 2,some 1,⟨∅,ms nofun,nofun,s0 nofun nofun,s0 nofun nofun,∅,∅⟩,rfl⟩
 ·exact⟨_,none,some (-2),⟨∅,mn,nofun,n0,s0 nofun nofun,∅,∅⟩,rfl⟩
 ·exact⟨_,some 1,some 2,⟨∅,ms nofun,nofun,s0 nofun nofun,s0 nofun nofun,∅,∅⟩,rfl⟩
theorem jT{nm:Wd}{m d:Option Int}(hn:Lq nm)(W:Wan z m d):Plan nm (.date nm m d):=⟨⟨hn,W.om,W.od,W.m0,W.d0,W.lm,W.ld⟩,by show 1+0<=40;decide,fun M g h s=>⟨⟨h,s⟩,by have:=s.d1;show g.cy.2<=150000;lia⟩⟩
theorem jR{nm:Wd}{n r:Int}(h:1<=n/\n<=9)(hr:Sm r):Plan nm (.each n r):=⟨⟨fG ⋯ ⋯,hr,h.1,⋯⟩,by show 1+0<=40;decide,fun M g _ _=>⟨trivial,by show n<=150000;lia⟩⟩
theorem Zg{nm:Wd}{m d:Option Int}{n r:Int}{w:PK}(P:Plan nm (.date nm m d))(h:1<=n/\n<=9)(hr:Sm r)(hw:w≠.bu)(b:Bool):Plan nm (if b then .pr w (.date nm m d) (.each n r) else .pr w (.each n r) (.date nm m d)):=by
 have E:Plan nm (.each n r):=jR h hr;have z:∀g:Bg,SmC g->Eb g.cy.2 n<=150000/\Eb n g.cy.2<=150000:=fun g s=>by
  have f:=DP (show 0<g.cy.2 by have:=s.d0;lia) (show 0<n by lia);have l:Eb g.cy.2 n<=g.cy.2*n:=jn5 (Int.mul_pos (by have:=s.d0;lia) ⋯) (f.2.2.2.2.1 _ (Int.dvd_mul_right _ _) (Int.dvd_mul_left _ _));have l2:g.cy.2*n<=128*9:=ja1 s.d1 h.2 ⋯ nofun;have c:=V7 (show 0<g.cy.2 by have:=s.d0;lia) (show 0<n by lia);lia
 cases b with
 | true=>exact⟨⟨P.ok,E.ok⟩,by show 1+1+(0+0+1)<=40;decide,fun M g k s=>⟨⟨hw,(P.kn M g k s).1,trivial⟩,(z g s).1⟩⟩
 | false=>exact⟨⟨E.ok,P.ok⟩,by show 1+1+(0+0+1)<=40;decide,fun M g k s=>⟨⟨hw,trivial,(P.kn M g k s).1⟩,(z g s).2⟩⟩
noncomputable def oT:Option Int->Str
 | none=>"never"
 | some i=>sW (nW i)
theorem vD{n:Int}(n0:0<n)(n1:n<=150000)(sd:Sm d)(f:∀o H',BP H H'->okO o->oT o=sW (dyT (RV (On n b) d) (On n b))->Q (oI o) H'):NxQ n d b H Q:=by
 refine⟨fun no H' s=>f none H' s (fun _ z=>nomatch z) ?_,fun r H' s r1 r2 r3=>f (some r) H' s (fun _ z=>?_) ?_⟩
 ·rw[show dyT (RV (On n b) d) (On n b)=sg "never" from xp fun⟨e,z⟩=>by rw[no e] at z;cases z];exact(FT _).symm
 ·cases z;have:=V4 n0 (⟨r1,r2,r3⟩:RV (On n b) d r);exact Rk sd ⋯ ⋯
 ·have hr:RV (On n b) d r:=⟨r1,r2,r3⟩;rw[show dyT (RV (On n b) d) (On n b)=nW r from (xo ⟨r,r2⟩).trans (yi nW (Zm (jc1 (p:=RV (On n b) d) ⟨r,hr⟩) hr))];rfl
theorem vJ{n:Int}(n0:0<n)(n1:n<=150000)(sd:Sm d)(f:∀o H',BP H H'->okO o->oT o=sW (dyT (RW (On n b) d) (On n b))->Q (oI o) H'):LsQ n d b H Q:=by
 refine⟨fun no H' s=>f none H' s (fun _ z=>nomatch z) ?_,fun r H' s r1 r2 r3=>f (some r) H' s (fun _ z=>?_) ?_⟩
 ·rw[show dyT (RW (On n b) d) (On n b)=sg "never" from xp fun⟨e,z⟩=>by rw[no e] at z;cases z];exact(FT _).symm
 ·cases z;have:=V5 n0 (⟨r1,r2,r3⟩:RW (On n b) d r);exact Rk sd ⋯ ⋯
 ·have hr:RW (On n b) d r:=⟨r1,r2,r3⟩;rw[show dyT (RW (On n b) d) (On n b)=nW r from (xo ⟨r,r2⟩).trans (yi nW (Zv (jc1 (p:=RW (On n b) d) ⟨r,hr⟩) hr))];rfl
theorem Mu{a:Addr}{d:Option Addr}{vs:Array Value}{n:Nat}{s:Array (Option Value)}(h:K.lookup a=some ⟨.type "tuple",d,.seq vs n,s⟩)(l:vs.size<=5)(r:Vals xs vs.toList)(H:Hp):SqT K H a xs:=.inr ⟨_,_,_,h,rfl,rfl,zn l nofun,r⟩
theorem qD{P:Program}{w:World}{mg:Str->Option Value}{a:Addr}{t:Nat->Addr}{a0 a1 a2 a3 a6 a7 a8 a10 a16:Addr}{x0 x1 x2 x3 x4 x5 x6 x7 x8 x9 y0 y1 y2 y3 y4 y5 y6 y7 y8 y9:Tok}{d0 d1 d2 d3 d4 d5 d6 d7 d8:Option Addr}{n0 n1 n2 n3 n4 n5 n6 n7 n8:Nat}{s0 s1 s2 s3 s4 s5 s6 s7 s8:Array (Option Value)}(m:mg "FORMS"=some (.ref a))(d:KD P w K a (dB t))(e0:t 0=a0)(e1:t 1=a1)(e2:t 2=a2)(e3:t 3=a3)(e6:t 6=a6)(e7:t 7=a7)(e8:t 8=a8)(e10:t 10=a10)(e16:t 16=a16)
 (h0:K.lookup a0=some ⟨.type "tuple",d0,.seq #[.str "NAME" x0,.str "TEXT" x1] n0,s0⟩)(h1:K.lookup a1=some ⟨.type "tuple",d1,.seq #[.str "NAME" x2,.str "CALENDAR" x3,.str "CALENDAR" x4,.str "NUMBER" x5] n1,s1⟩)(h2:K.lookup a2=some ⟨.type "tuple",d2,.seq #[.str "NAME" x6,.str "TEXT" x7] n2,s2⟩)(h3:K.lookup a3=some ⟨.type "tuple",d3,.seq #[.str "CALENDAR" x8,.str "NUMBER" x9] n3,s3⟩)(h6:K.lookup a6=some ⟨.type "tuple",d4,.seq #[.str "RULE" y0,.str "NUMBER" y1] n4,s4⟩)(h7:K.lookup a7=some ⟨.type "tuple",d5,.seq #[.str "RULE" y2,.str "NUMBER" y3] n5,s5⟩)(h8:K.lookup a8=some ⟨.type "tuple",d6,.seq #[.str "RULE" y4,.str "NUMBER" y5] n6,s6⟩)(h10:K.lookup a10=some ⟨.type "tuple",d7,.seq #[.str "RULE" y6,.str "NUMBER" y7,.str "NUMBER" y8] n7,s7⟩)(h16:K.lookup a16=some ⟨.type "tuple",d8,.seq #[.str "RULE" y9] n8,s8⟩):rG P w K mg a t:=⟨m,d,fun R H=>by
 subst e0 e1 e2 e3 e6 e7 e8 e10 e16;rcases R with _ | _ | _ | _ | ⟨_,_ | _ | _ | _⟩ | _
 ·exact Mu (xs:=[V.str "NAME",V.str "TEXT"]) h0 (by show 2<=5;decide) (.cons ⟨_,rfl⟩ (.cons ⟨_,rfl⟩ .nil)) H
 ·exact Mu (xs:=[V.str "NAME",V.str "CALENDAR",V.str "CALENDAR",V.str "NUMBER"]) h1 (by show 4<=5;decide) (.cons ⟨_,rfl⟩ (.cons ⟨_,rfl⟩ (.cons ⟨_,rfl⟩ (.cons ⟨_,rfl⟩ .nil)))) H
 ·exact Mu (xs:=[V.str "NAME",V.str "TEXT"]) h2 (by show 2<=5;decide) (.cons ⟨_,rfl⟩ (.cons ⟨_,rfl⟩ .nil)) H
 ·exact Mu (xs:=[V.str "CALENDAR",V.str "NUMBER"]) h3 (by show 2<=5;decide) (.cons ⟨_,rfl⟩ (.cons ⟨_,rfl⟩ .nil)) H
 ·exact Mu (xs:=[V.str "RULE",V.str "NUMBER"]) h6 (by show 2<=5;decide) (.cons ⟨_,rfl⟩ (.cons ⟨_,rfl⟩ .nil)) H
 ·exact Mu (xs:=[V.str "RULE",V.str "NUMBER"]) h7 (by show 2<=5;decide) (.cons ⟨_,rfl⟩ (.cons ⟨_,rfl⟩ .nil)) H
 ·exact Mu (xs:=[V.str "RULE",V.str "NUMBER"]) h8 (by show 2<=5;decide) (.cons ⟨_,rfl⟩ (.cons ⟨_,rfl⟩ .nil)) H
 ·exact Mu (xs:=[V.str "RULE",V.str "NUMBER",V.str "NUMBER"]) h10 (by show 3<=5;decide) (.cons ⟨_,rfl⟩ (.cons ⟨_,rfl⟩ (.cons ⟨_,rfl⟩ .nil))) H
 ·exact Mu (xs:=[V.str "RULE"]) h16 (by show 1<=5;decide) (.cons ⟨_,rfl⟩ .nil) H⟩
end Fw
namespace Fw
open PySem L2 PyProof.Rows
local macro_rules | `(tactic| symm)=> `(tactic| (repeat (first | fail "r" | ((with_reducible refine' Fw.fW ?hc1 ?hc2 ?hc3 ?_);(case hc1=>assumption);(case hc2=>assumption);(case hc3=>decide)) | with_reducible refine Fw.Zb ?_)))
local macro_rules | `(tactic| exists $e)=> `(tactic| (refine $e;symm))
local macro_rules | `(tactic| walk_at"mm")=> `(tactic| (repeat (first | exact List.Mem.head _ | refine List.Mem.tail _ ?_)))
local macro_rules | `(tactic| walk_at"nw")=> `(tactic| (refine CK (by first | exact yC (by ac_rfl) | exact Ye (by ac_rfl) | exact fun z=>absurd (V.str.inj z) (by ac_rfl)) ?_;symm))
local macro_rules | `(tactic| walk_at"ew")=> `(tactic| (refine IK (by first | exact ws_eq _ | rfl) ?_;symm))
noncomputable def P:Program:=PySem.Challenge.rw_feastwheel_k85_names_put_again.prog
theorem fill:(PySem.Challenge.rw_feastwheel_k85_names_put_again.prog,Hd.K)=(PySem.Challenge.rw_feastwheel_k85_names_put_again.prog,Hd.K):=by k_fill;rfl
structure Dt where
 (w:World) (mg:Str->Option Value) (b:Heap)
structure Gi(d:Dt):Prop where
 X:(Hd.K d.w.params).In d.b
 G:d.b.Ns mainGlobals d.mg
def Ok(d:Dt):Prop:=∀{f:Addr} {fd:FuncData},Fun (Hd.K d.w.params) "law" "law" fJ f fd->Ds P d.w (Hd.K d.w.params) d.mg d.b CX0 137 f fd ["_law_script"] (eZ (Hd.K d.w.params))
instance:Nonempty Dt:=⟨⟨⟨fun _ _=>0,⟨fun _=>0,fun _=>0,id,fun _=>0,fun _ _=>0,fun _=>true,fun _=>0,.refcount,.text,fun _=>0,fun _=>none,fun _=>true,fun _ _ _=>true,fun _ _ _=>true,true,fun _=>true,fun _=>none,fun _=>none,fun _ _ _=>0,fun _ _=>none,fun _=>none,fun _=>(0,true,""),fun _=>none,id,fun _=>true⟩⟩,fun _=>none,default⟩⟩
noncomputable def d0:Dt:=Classical.epsilon fun d=>Gi d/\¬Ok d
noncomputable def w:World:=d0.w
noncomputable def K:Fr:=Hd.K w.params
noncomputable def mg:Str->Option Value:=d0.mg
noncomputable def base:Heap:=d0.b
abbrev BV:Addr:=130
abbrev Ae:Addr:=549
abbrev BZ:Addr:=649
abbrev BL:Addr:=708
abbrev An:Addr:=786
abbrev Bd:Addr:=978
abbrev Bq:Addr:=999
abbrev ADf:Addr:=1018
abbrev Ba:Addr:=1044
abbrev Ay:Addr:=1078
abbrev ACj:Addr:=1097
abbrev AAn:Addr:=1116
abbrev Aw:Addr:=1135
abbrev ACl:Addr:=1154
abbrev qe:Addr:=1173
abbrev wF:Addr:=1192
abbrev Bb:Addr:=1211
abbrev wD:Addr:=1230
abbrev AAm:Addr:=1249
abbrev AAl:Addr:=1268
abbrev ACk:Addr:=1287
abbrev wG:Addr:=1306
abbrev Bu:Addr:=1340
abbrev Bl:Addr:=1663
abbrev Gh:Tok:=1009
abbrev Yn:Tok:=1383
abbrev Ym:Tok:=1384
abbrev KC:Tok:=1669
abbrev J9:Tok:=1670
abbrev ao:Tok:=577
abbrev lQ:Tok:=579
abbrev VB:Tok:=820
abbrev Oi:Tok:=816
abbrev U8:Tok:=818
abbrev Ru:Tok:=932
abbrev Oh:Tok:=934
abbrev Qj:Tok:=429
abbrev aq:Tok:=427
abbrev U9:Tok:=431
abbrev Qk:Tok:=425
abbrev au:Tok:=423
abbrev Og:Tok:=1994
abbrev HQ:Addr:=1309
abbrev Qi:Tok:=1996
abbrev Qh:Tok:=1997
abbrev Qg:Tok:=1998
abbrev Qf:Tok:=1999
abbrev Qd:Tok:=2000
abbrev Qc:Tok:=2001
abbrev Qa:Tok:=2002
abbrev QZ:Tok:=2003
abbrev pL:Addr:=1469
noncomputable def Zw:Nat->Addr:=fun i=>([1470,1471,1472,1473,1474,1475,1476,1477,1478,1479,1480,1481,1482,1483,1484,1485,1486,1488]:List Nat).getD i 0
abbrev cu:Addr:=1608
noncomputable def cg:Nat->Addr:=fun i=>([1495,1502,1509,1516,1530,1537,1544,1551,1558,1565,1579,1586,1593,1600,1607]:List Nat).getD i 0
abbrev jx:Addr:=385
class Giv:Prop where
 X:K.In base
 G:base.Ns mainGlobals mg
variable{f:Addr}{fd:FuncData}
section
variable[Giv]
theorem gX:K.In base:=Giv.X
theorem gG:base.Ns mainGlobals mg:=Giv.G
local macro_rules | `(tactic| walk_at"k")=> `(tactic| (delta K;first | k_is | kit_is | k_exc))
local macro_rules | `(tactic| walk_at"o")=> `(tactic| first | exact Or.inl rfl | exact Or.inr rfl)
local macro_rules | `(tactic| walk_at"s")=> `(tactic| exact⟨rfl,rfl,rfl,by ac_rfl,rfl,by ac_rfl,by ac_rfl⟩)
local macro_rules | `(tactic| walk_at"hr")=> `(tactic| exact DW.mono (by assumption) (by first | decide | lia))
local macro_rules | `(tactic| walk_at"kk")=> `(tactic| first | walk_at"k" | (constructor<;>walk_at"kk"))
local macro_rules | `(tactic| walk_at"g")=> `(tactic| (delta K;refine' L2.qG ?_ ?_ ?_ ?_<;>first | k_is | skip))
local macro_rules | `(tactic| walk_at"h")=> `(tactic| (delta K;refine' L2.AAb ?_ ?_ ?_ ?_ ?_<;>first | k_is | skip))
local macro_rules | `(tactic| walk_at"dg")=> `(tactic| (delta K;refine' L2.vg ?_ ?_ ?_ ?_ ?_<;>first | k_is | skip))
local macro_rules | `(tactic| walk_at"dm")=> `(tactic| (delta K;refine' L2.vf ?_ ?_ ?_ ?_ ?_ ?_<;>first | k_is | skip))
local macro_rules | `(tactic| walk_at"db")=> `(tactic| (delta K;refine' L2.vh ?_ ?_ ?_ ?_ ?_<;>first | k_is | skip))
local macro_rules | `(tactic| walk_at"b")=> `(tactic| (intro _ _ _ _ _ _ us hl;(first | obtain⟨_,h⟩:=L2.ADb hl | obtain⟨_,_,h⟩:=L2.ADa hl | obtain⟨_,_,_,h⟩:=L2.zy hl | obtain⟨_,_,_,_,h⟩:=L2.ACW hl | have h:us=[]:=jb6.mp hl | obtain⟨_,_,_,_,_,h⟩:=L2.zx hl | obtain⟨_,_,_,_,_,_,h⟩:=L2.ADZ hl | obtain⟨_,_,_,_,_,_,_,h⟩:=L2.ACV hl | obtain⟨_,_,_,_,_,_,_,_,h⟩:=L2.ADY hl);subst h;rfl))
theorem mgo{x:Str}{v:Value}(h:PySem.W.nsIn K mainGlobals x=some (some v)):mg x=some v:=je2 gX gG h
abbrev C0(k:Nat)(x:Str)(ps:List Str)(sp:Sp):Prop:=Cal P w K mg base k x ps sp
abbrev C1(k:Nat)(x:Str)(ps:List Str)(sp:Sp):Prop:=rM P w K mg base k x ps sp
abbrev CM0(k:Nat)(C:Addr)(x:Str)(ps:List Str)(sp:Sp):Prop:=Mr P w K mg base CX0 k C x ps sp
abbrev CI0(k:Nat)(x:Str)(C:Addr)(ps:List Str)(sp:Sp):Prop:=aV P w K mg base CX0 k x C ps sp
abbrev F0(k:Nat)(f:Addr)(fd:FuncData)(ps:List Str)(sp:Sp):Prop:=Ds P w K mg base CX0 k f fd ps sp
theorem X7:ABO K mg "NoCycle" BV:=⟨mgo (by walk_at"k"),by walk_at"k",vX (by walk_at"k"),by walk_at"k"⟩
theorem X5:ACo K mg "NoCycle" BV:=⟨mgo (by walk_at"k"),by walk_at"k"⟩
theorem Ks:PySem.W.mroIn K BV (.ref BV)=some true:=by walk_at"kk"
theorem Aq:Cls K Ae:=by walk_at"kk"
theorem CP:Cp K Ae "base":=by walk_at"kk"
theorem CG:Cp K Ae "terms":=by walk_at"kk"
theorem Ck:Cp K Ae "full_count":=by walk_at"kk"
theorem Dy:Cp K Ae "full_sum":=by walk_at"kk"
theorem Br:Cls K BZ:=by walk_at"kk"
theorem IV:Cp K BZ "start":=by walk_at"kk"
theorem JV:Cp K BZ "months":=by walk_at"kk"
theorem Im:Cp K BZ "leap":=by walk_at"kk"
theorem CQ:Cp K BZ "years":=by walk_at"kk"
theorem Bj:Cls K BL:=by walk_at"kk"
theorem HD:Cp K BL "start":=by walk_at"kk"
theorem Dr:Cp K BL "days":=by walk_at"kk"
theorem Dq:Cp K BL "many":=by walk_at"kk"
theorem CZ:Cls K An:=by walk_at"kk"
theorem JW:Cp K An "old":=by walk_at"kk"
theorem JX:Cp K An "new":=by walk_at"kk"
theorem JZ:Cp K An "day":=by walk_at"kk"
theorem G7:Cp K An "last_old":=by walk_at"kk"
theorem Gy:Cp K An "first_new":=by walk_at"kk"
theorem Bk:Cls K Bu:=by walk_at"kk"
theorem Gk:Cp K Bu "words":=by walk_at"kk"
theorem Ec:Cp K Bu "place":=by walk_at"kk"
theorem Ce:Cls K Bl:=by walk_at"kk"
theorem Dl:Cp K Bl "calendars":=by walk_at"kk"
theorem HF:Cp K Bl "rules":=by walk_at"kk"
theorem Ph:Cls K Bq:=by walk_at"kk"
theorem WN:RC K Bd Bq:=by walk_at"kk"
theorem Mm:Cls K Ba:=by walk_at"kk"
theorem Ua:RC K Bd Ba:=by walk_at"kk"
theorem Ku:Cls K Ay:=by walk_at"kk"
theorem QL:RC K Bd Ay:=by walk_at"kk"
theorem Jr:Cls K Aw:=by walk_at"kk"
theorem X6:RC K Bd Aw:=by walk_at"kk"
theorem Ml:Cls K Bb:=by walk_at"kk"
theorem dD:RC K Bd Bb:=by walk_at"kk"
theorem Je:mg "range"=none:=vx gX gG (by walk_at"k")
theorem Es:mg "len"=none:=vx gX gG (by walk_at"k")
theorem ABY:mg "abs"=none:=vx gX gG (by walk_at"k")
theorem lA:mg "sum"=none:=vx gX gG (by walk_at"k")
theorem lD:mg "all"=none:=vx gX gG (by walk_at"k")
theorem Wj:mg "tuple"=none:=vx gX gG (by walk_at"k")
theorem ABW:mg "min"=none:=vx gX gG (by walk_at"k")
theorem ABX:mg "max"=none:=vx gX gG (by walk_at"k")
theorem lB:mg "list"=none:=vx gX gG (by walk_at"k")
theorem wV:mg "zip"=none:=vx gX gG (by walk_at"k")
theorem Ex:mg "str"=none:=vx gX gG (by walk_at"k")
theorem Jf:mg "isinstance"=none:=vx gX gG (by walk_at"k")
theorem lC:mg "int"=none:=vx gX gG (by walk_at"k")
theorem je:mg "LONGEST"=some (.int 150000 ao):=mgo (by walk_at"k")
theorem Nt:mg "PIECE"=some (.int 256 lQ):=mgo (by walk_at"k")
theorem Xr:mg "GREATEST_N"=some (.int 1000 VB):=mgo (by walk_at"k")
theorem Q4:mg "GREATEST_BASE"=some (.int 20000 Oi):=mgo (by walk_at"k")
theorem Xp:mg "MOST_TERMS"=some (.int 6 U8):=mgo (by walk_at"k")
theorem Ls:mg "MOST_MONTHS"=some (.int 20 Ru):=mgo (by walk_at"k")
theorem J4:mg "LONGEST_MONTH"=some (.int 1000 Oh):=mgo (by walk_at"k")
theorem Tv:mg "MOST_LETTERS"=some (.int 8 Qj):=mgo (by walk_at"k")
theorem jf:mg "LETTERS"=some (.str "abcdefghijklmnopqrstuvwxyz" aq):=mgo (by walk_at"k")
theorem Xq:mg "MOST_SIGNS"=some (.int 4000 U9):=mgo (by walk_at"k")
theorem Tw:mg "MOST_FIGURES"=some (.int 60 Qk):=mgo (by walk_at"k")
theorem jg:mg "FIGURES"=some (.str "0123456789" au):=mgo (by walk_at"k")
theorem Q0:mg "MOST_BRACKETS"=some (.int 40 Og):=mgo (by walk_at"k")
theorem Xo:mg "PAIR_WORDS"=some (.ref HQ):=mgo (by walk_at"k")
theorem XM:∀H,SqT K H HQ [.str "and",.str "or",.str "but",.str "unlike",.str "upon",.str "until",.str "near",.str "till"]:=by
 have l:K.lookup HQ=some ⟨.type "tuple",none,.seq #[.str "and" Qi,.str "or" Qh,.str "but" Qg,.str "unlike" Qf,.str "upon" Qd,.str "until" Qc,.str "near" Qa,.str "till" QZ] 0,#[]⟩:=by walk_at"k"
 exact fun H=>.inr ⟨_,_,_,l,rfl,rfl,(by show 8<=sizeLine;decide),(.cons ⟨_,rfl⟩ (.cons ⟨_,rfl⟩ (.cons ⟨_,rfl⟩ (.cons ⟨_,rfl⟩ (.cons ⟨_,rfl⟩ (.cons ⟨_,rfl⟩ (.cons ⟨_,rfl⟩ (.cons ⟨_,rfl⟩ .nil))))))))⟩
theorem Gg:rG P w K mg pL Zw:=qD (a0:=1470) (a1:=1471) (a2:=1472) (a3:=1473) (a6:=1476) (a7:=1477) (a8:=1478) (a10:=1480) (a16:=1486) (mgo (by walk_at"k")) (L2.xU (a:=1469) (n:=18) [("calendar",2215,1470),("change",2219,1471),("rule",2225,1472),("date",2229,1473),("day",2233,1474),("move",2237,1475),("on",2242,1476),("next",2246,1477),("last",2250,1478),("nth",2254,1479),("count",2259,1480),("size",2264,1481),("same",2267,1482),("meet",2272,1483),("within",2277,1484),("shorter",2282,1485),("show",2285,1486),("almanac",2288,1488)] (by walk_at"k") ∅ rfl) rfl rfl rfl rfl rfl rfl rfl rfl rfl (by walk_at"k") (by walk_at"k") (by walk_at"k") (by walk_at"k") (by walk_at"k") (by walk_at"k") (by walk_at"k") (by walk_at"k") (by walk_at"k")
theorem DQ:ADn P w K mg cu cg:=⟨mgo (by walk_at"k"),(L2.xU (a:=1608) (n:=15) [("date",2417,1495),("day",2418,1502),("move",2419,1509),("on",2420,1516),("next",2421,1530),("last",2422,1537),("nth",2423,1544),("count",2424,1551),("size",2425,1558),("same",2426,1565),("meet",2427,1579),("within",2428,1586),("shorter",2429,1593),("show",2430,1600),("almanac",2431,1607)] (by walk_at"k") ∅ rfl),mgo (by walk_at"k"),mgo (by walk_at"k"),mgo (by walk_at"k"),mgo (by walk_at"k"),mgo (by walk_at"k"),mgo (by walk_at"k")⟩
theorem Yk:mg "either"=some (.ref jx):=mgo (by walk_at"k")
theorem co{g n q st ps k sp}(Q:FnG K g n q st)(b:GZ n q st ps)(o:∀{f:Addr} {fd:FuncData},Fun K n q st f fd->F0 k f fd ps sp):C0 k g ps sp:=dH gX gG Q b o
theorem ce{g n q st ps k sp}(Q:FnG K g n q st)(b:GZ n q st ps)(o:∀{f:Addr} {fd:FuncData},Fun K n q st f fd->Ds P w K mg base (CX1 P w) k f fd ps sp):C1 k g ps sp:=YF gX gG Q b o
theorem cm{g n q st ps k sp C CX}(Q:FnM K C g n q st)(b:GZ n q st ps)(o:∀{f:Addr} {fd:FuncData},Fun K n q st f fd->Ds P w K mg base CX k f fd ps sp):Mr P w K mg base CX k C g ps sp:=vz Q b o
theorem ci{n q st ps k sp C CX x}(m:PySem.W.makesIn K C=true)(p:PySem.W.keepIn K (.ref C)=true)(e:PySem.W.nsIn K mainGlobals x=some (some (.ref C)))(Q:FnM K C "__init__" n q st)(b:GZ n q st ps)(o:∀{f:Addr} {fd:FuncData},Fun K n q st f fd->Ds P w K mg base CX k f fd ps sp):aV P w K mg base CX k x C ps sp:=wA gX gG m p e Q b o
theorem co'{g n q ps k sp}(N:List Str)(st:Stmt)(o:∀{f:Addr} {cdv:Value} {A:Around} {outer:List Env} {s:Shared} (nd:N.Nodup) (H:Hp) (vs:List V) (Q:VK) (E:XK),DW k (A.deeper (envOfC q (BK st) s.heap.objs.size f cdv))->sp vs H Q E->∃t,PSs (JH CX0 P w K mg base N q (BK st) f cdv A outer s H E).nox (Cq st) t/\t { nx:=fun _ H'=>Q .non H',rt:=Q } (start N vs) H)(len:∀{vs H Q E},sp vs H Q E->vs.length=ps.length:=by fail "l")(S:Cm N ps (BK st):=by walk_at"s")(Q:FnG K g n q st:=by walk_at"g")(b:GZ n q st ps:=by walk_at"b"):C0 (k+1) g ps sp:=co Q b fun F=>F.ok S len o
theorem ce'{g n q ps k sp}(N:List Str)(st:Stmt)(o:∀{f:Addr} {cdv:Value} {A:Around} {outer:List Env} {s:Shared} (nd:N.Nodup) (H:Hp) (vs:List V) (Q:VK) (E:XK),DW k (A.deeper (envOfC q (BK st) s.heap.objs.size f cdv))->sp vs H Q E->Thr (JH (CX1 P w) P w K mg base N q (BK st) f cdv A outer s H E) (fun c d _ H'=>E c d H')->∃t,PSs (JH (CX1 P w) P w K mg base N q (BK st) f cdv A outer s H E) (Cq st) t/\t { nx:=fun _ H'=>Q .non H',rt:=Q } (start N vs) H)(len:∀{vs H Q E},sp vs H Q E->vs.length=ps.length:=by fail "l")(S:Cm N ps (BK st):=by walk_at"s")(Q:FnG K g n q st:=by walk_at"g")(b:GZ n q st ps:=by walk_at"b"):C1 (k+1) g ps sp:=ce Q b fun F=>F.okE S len o
theorem cm'{g n q ps k sp C}(N:List Str)(st:Stmt)(o:∀{f:Addr} {cdv:Value} {A:Around} {outer:List Env} {s:Shared} (nd:N.Nodup) (H:Hp) (vs:List V) (Q:VK) (E:XK),DW k (A.deeper (envOfC q (BK st) s.heap.objs.size f cdv))->sp vs H Q E->∃t,PSs (JH CX0 P w K mg base N q (BK st) f cdv A outer s H E).nox (Cq st) t/\t { nx:=fun _ H'=>Q .non H',rt:=Q } (start N vs) H)(len:∀{vs H Q E},sp vs H Q E->vs.length=ps.length:=by fail "l")(S:Cm N ps (BK st):=by walk_at"s")(Q:FnM K C g n q st:=by walk_at"h")(b:GZ n q st ps:=by walk_at"b"):CM0 (k+1) C g ps sp:=cm Q b fun F=>F.ok S len o
theorem ACi{g n q ps k sp C}(N:List Str)(st:Stmt)(o:∀{f:Addr} {cdv:Value} {A:Around} {outer:List Env} {s:Shared} (nd:N.Nodup) (H:Hp) (vs:List V) (Q:VK) (E:XK),DW k (A.deeper (envOfC q (BK st) s.heap.objs.size f cdv))->sp vs H Q E->Thr (JH (CX1 P w) P w K mg base N q (BK st) f cdv A outer s H E) (fun c d _ H'=>E c d H')->∃t,PSs (JH (CX1 P w) P w K mg base N q (BK st) f cdv A outer s H E) (Cq st) t/\t { nx:=fun _ H'=>Q .non H',rt:=Q } (start N vs) H)(len:∀{vs H Q E},sp vs H Q E->vs.length=ps.length:=by fail "l")(S:Cm N ps (BK st):=by walk_at"s")(Q:FnM K C g n q st:=by walk_at"h")(b:GZ n q st ps:=by walk_at"b"):Mr P w K mg base (CX1 P w) (k+1) C g ps sp:=cm Q b fun F=>F.okE S len o
theorem ci'{n q ps k sp C x}(N:List Str)(st:Stmt)(o:∀{f:Addr} {cdv:Value} {A:Around} {outer:List Env} {s:Shared} (nd:N.Nodup) (H:Hp) (vs:List V) (Q:VK) (E:XK),DW k (A.deeper (envOfC q (BK st) s.heap.objs.size f cdv))->sp vs H Q E->∃t,PSs (JH CX0 P w K mg base N q (BK st) f cdv A outer s H E).nox (Cq st) t/\t { nx:=fun _ H'=>Q .non H',rt:=Q } (start N vs) H)(len:∀{vs H Q E},sp vs H Q E->vs.length=ps.length:=by fail "l")(S:Cm N ps (BK st):=by walk_at"s")(m:PySem.W.makesIn K C=true:=by walk_at"k")(p:PySem.W.keepIn K (.ref C)=true:=by walk_at"k")(e:PySem.W.nsIn K mainGlobals x=some (some (.ref C)):=by walk_at"k")(Q:FnM K C "__init__" n q st:=by walk_at"h")(b:GZ n q st ps:=by walk_at"b"):CI0 (k+1) x C ps sp:=ci m p e Q b fun F=>F.ok S len o
theorem ceD{g n q st ps k sp ds}(Q:ACv K g n q st ds)(b:Yc n q st ps [] ds ps.length)(ok:∀{f:Addr} {fd:FuncData} {ds:Array Value},J1 K n q st f fd ds->Ds P w K mg base (CX1 P w) k f fd ps sp):C1 k g ps sp:=by
 obtain⟨f,fd,a,F⟩:=Q;exact⟨⟨f,fd,ok F,F.bindsD _ rfl b,F.kp,je2 gX gG a⟩⟩
theorem DR:C0 1 "refuse_below_one" ["number"] mX:=by
 refine co' ["number"] Mh fun nd H vs Q E hr h=>?_;obtain⟨n,rfl,hn,q⟩:=h;refine⟨_,(Ad (BW (Am Fg (pv 0) Ag (Ar _)) (Ad Be) Ao)),?_⟩
 symm;exists CK ⋯ ?_;exact q
theorem Fq:C0 1 "refuse_too_long" ["size"] ir:=by
 refine co' ["size"] My fun nd H vs Q E hr h=>?_;obtain⟨n,rfl,hn,q⟩:=h;refine⟨_,(Ad (BW (Am Iz (pv 0) (Cg rfl je (Du _ _)) (Ar _)) (Ad Be) Ao)),?_⟩
 symm;exists CK ⋯ ?_;exact q
theorem dN:C0 1 "equation" ["one","other"] ADL:=by
 refine co' ["one","other","row","below","times","rest"] bZ fun nd H vs Q E hr h=>?_;obtain⟨a,b,rfl,ha,hb,q⟩:=h;refine⟨_,(Ab (Aj 2 (By (Aa Ag (Aa Ag (Aa (pv 0) Ac))))) (Ab (Aj 3 (By (Aa Ag (Aa Ag (Aa (pv 1) Ac))))) (Ab (KY PassesOwn.never (Am G6 (pxT 3) Ag (Ar _)) (Ab (Aj 4 (Af o9 (pxT 2) (pxT 3))) (Ab (Aj 5 (By (Aa (Af Ci (pxT 2) (Af DY (pv 4) (pxT 3))) (Aa (Af Ci (pxT 2) (Af DY (pv 4) (pxT 3))) (Aa (Af Ci (pxT 2) (Af DY (pv 4) (pxT 3))) Ac))))) (Ab (Aj 2 (pv 3)) (Ad (Aj 3 (pv 5))))))) (Ab (BW (Am Fg (pxT 2) Ag (Ar _)) (Ad (Ak (By (Aa (Lr JD (pxT 2)) (Aa (Lr JD (pxT 2)) (Aa (Lr JD (pxT 2)) Ac)))))) Ao) (Ad (Ak (pv 2))))))),?_⟩
 symm;exists⟨three,fun p1 hp1=>?_⟩;exists⟨three,fun p2 hp2=>?_⟩;have n12:p1≠p2:=fun z=>by rw[<-z,Ai] at hp2;cases hp2
 refine⟨fun m Z' H'=>∃(pr pb:Addr) (u v r u' v' r':Int) (t1 t2:Option V),Z'=[some (.int a),some (.int b),some (.ref pr),some (.ref pb),t1,t2]/\BP H H'/\
  H' pr=some (.tup [.int u,.int v,.int r])/\H' pb=some (.tup [.int u',.int v',.int r'])/\EqI a b u v r u' v' r'/\m=r'.natAbs,
  ⟨_,p1,p2,1,0,a,0,1,b,none,none,rfl,(BR hp1 _).trans (BR hp2 _),by rw[Ax n12];exact Ai,Ai,EqI.start a b,rfl⟩,?_⟩
 rintro m Z' H' ⟨pr,pb,u,v,r,u',v',r',t1,t2,rfl,sm,hpr,hpb,I,rfl⟩;have B:=I.bounds;have br:=AAp (m:=510) ha hb (show r.natAbs<=a.natAbs+b.natAbs+4 by lia) nofun;have br':=iI (m:=510) hb (show r'.natAbs<=4*b.natAbs+4 by lia) nofun;have bu':=iI (m:=510) hb (show u'.natAbs<=4*b.natAbs+4 by lia) nofun;have bv':=iI (m:=510) ha (show v'.natAbs<=4*a.natAbs+4 by lia) nofun;symm;exists BJ (SqT.of hpb) aU ?_;by_cases hz:r'=0
 ·subst hz;refine IW rfl ?_;have D:=I.done;symm;exists BJ (SqT.of hpr) aU ?_;refine Gd (fun c=>?_) (fun c=>?_)
  ·symm;exists BJ (SqT.of hpr) AAt ?_;exists BJ (SqT.of hpr) AAs ?_;exists BJ (SqT.of hpr) aU ?_;refine⟨three,fun p hp=>?_⟩;exact q p _ _ _ _ (sm.trans (BR hp _)) Ai (D.1 c)
  ·symm;exact q pr _ _ _ _ sm hpr (D.2 c)
 ·refine xX (fun z=>hz (V.int.inj z)) ?_;refine⟨_,fun Z' H' hh=>hh,?_⟩;have St:=I.step hz;have bq:=iI (m:=520) br (show (r.fdiv r').natAbs<=4*r.natAbs+4 by have:=cC (r:=r) hz;lia) nofun;symm;exists BJ (SqT.of hpr) aU ?_;refine BJ (SqT.of hpb) aU ?_;exists Ep ⟨hz,br'.mono nofun⟩ ?_;exists BJ (SqT.of hpr) AAt ?_;refine BJ (SqT.of hpb) AAt ?_;exists Ep ⟨520,510,bq,bu',nofun⟩ ?_;exists BJ (SqT.of hpr) AAs ?_;refine BJ (SqT.of hpb) AAs ?_;exists Ep ⟨520,510,bq,bv',nofun⟩ ?_;exists BJ (SqT.of hpr) aU ?_;refine BJ (SqT.of hpb) aU ?_;exists Ep ⟨520,510,bq,br',nofun⟩ ?_;exists⟨three,fun p hp=>?_⟩;exact⟨_,St.2,pb,p,u',v',r',_,_,_,_,_,rfl,sm.trans (BR hp _),(BR hp _) _ _ hpb,Ai,St.1,rfl⟩
theorem WX:C0 2 "divisor" ["one","other"] jA:=by
 refine co' ["one","other"] jN fun nd H vs Q E hr h=>?_;obtain⟨a,b,rfl,ha,hb,q⟩:=h;exists⟨_,(Ad (Ak (Et Km (Ah dN (Aa (pv 0) (Aa (pv 1) Ac))) Ag (fun _ _=>rfl)))),?_⟩;exists⟨a,b,rfl,ha,hb,fun p u v g H' sm hp e=>?_⟩;refine BJ (SqT.of hp) aU ?_;rw[e.gd];exact q _ sm
theorem Uq:C0 3 "common" ["one","other"] nF:=by
 refine co' ["one","other"] nP fun nd H vs Q E hr h=>?_;obtain⟨a,b,rfl,a0,b0,ha,hb,q⟩:=h;refine⟨_,(Ab (Bv (Ah DR (Aa (pv 0) Ac))) (Ab (Bv (Ah DR (Aa (pv 1) Ac))) (Ad (Ak (Af DY (Af Cj (pv 0) (Ah WX (Aa (pv 0) (Aa (pv 1) Ac)))) (pv 1)))))),?_⟩
 symm;exists⟨a,rfl,⋯,?_⟩;exists⟨b,rfl,⋯,?_⟩;refine⟨a,b,rfl,ha,hb,fun H' sm=>?_⟩;have g0:=Nu (b:=b) a0;have g1:=pq (b:=b) a0;exists Ep ⟨g0,(ha.le (x:=(Int.gcd a b:Int)) ⋯).mono nofun⟩ ?_;have d0:0<=a/(Int.gcd a b:Int):=jk5 ⋯ ⋯;have d1:a/(Int.gcd a b:Int)<=a:=ji8 _ ⋯;refine Ep ⟨500,500,ha.le ⋯,hb,nofun⟩ ?_;exact q _ sm
theorem Uk:C0 2 "round_by" ["size","days"] (iu K):=by
 refine co' ["size","days","pieces","day","bits","number","place"] bN fun nd H vs Q E hr h=>?_;obtain⟨a,ds,n,rfl,hS,n0,n1,fin⟩:=h;refine⟨_,(Ab (Bv (Ah DR (Aa (pv 0) Ac)))
  (Ab (Bv (Ah Fq (Aa (pv 0) Ac)))
  (Ab (Aj 2 (Af cP (Ea (Aa Ag Ac)) (Af Bx (Af Cj (pv 0) (Cg rfl Nt (Du _ _))) Ag)))
  (Ab (Ik PassesOwn.never rfl (HR (pv 1)) (FZ (i:=3) nd rfl (by walk_at"o"))
   (Ab (Aj 6 (Af DN (pv 3) (pv 0)))
  (Ad (TX (Af Zk (Et Gx (pv 2) (Af Cj (pv 6) (Cg rfl Nt (Du _ _))) (fun _ _=>rfl)) (Af Nj Ag (Af DN (pv 6) (Cg rfl Nt (Du _ _))))) (Td (pv 2) (Af Cj (pv 6) (Cg rfl Nt (Du _ _))) set_list)))))
  (Ab (Aj 4 Ag)
  (Ab (Ik PassesOwn.never rfl (JQ rfl Je (Aa (Bh Bs rfl Es xh (Aa (pv 2) Ac)) Ac)) (FZ (i:=5) nd rfl (by walk_at"o"))
   (Ad (Aj 4 (Af Zk (pv 4) (Af Nj (Et Gx (pv 2) (pv 5) (fun _ _=>rfl)) (Af DY (pv 5) (Cg rfl Nt (Du _ _))))))))
  (Ad (Ak (By (Aa (pv 0) (Aa (pv 4) Ac))))))))))),?_⟩
 symm;exists⟨n,rfl,⋯,?_⟩;exists⟨n,rfl,n1,?_⟩;refine⟨(by show 1<=sizeLine;decide),fun l0 hl0=>?_⟩;symm;refine bw Ai ⋯ ⋯ (by show 1*_<=sizeLine;unfold sizeLine;lia) (fun l hl=>?_);have s0:=BR hl0 (.lst [.int 0]);have s1:=s0.trans (BR hl (.lst (List.replicate (n/256+1).toNat [V.int 0]).flatten));have t1:upd (upd H l0 (.lst [.int 0])) l (.lst (List.replicate (n/256+1).toNat [V.int 0]).flatten) l=some (.lst (Tj 0 (n/256+1).toNat)):=by rw[Ai,jV]
 have hl':H l=none:=s0.free hl;generalize upd (upd H l0 (.lst [.int 0])) l (.lst (List.replicate (n/256+1).toNat [V.int 0]).flatten)=H1 at s1 t1 ⊢;generalize hk:(n/256+1).toNat=k at t1;symm;refine⟨a,rfl,⟨_,s1.seq hS⟩,Kr (xs:=ds.map V.int) (fun i Z' H'=>BP H H'/\Ex3 fun(b:Nat) (c c':Option V)=>An3 (H' l=some (.lst (Tj b k))) (Z'=[some (.int n),some (.ref a),some (.ref l),c,none,none,c']) (RB n (ds.take i) b)) ⟨s1,0,none,none,t1,rfl,?_⟩ ?_ ?_ ?_⟩
 ·simpa using RB.nil n
 ·rintro i Z' H' _ ⟨s,_⟩;exact s.seq hS
 ·rintro i x Z' H' hx ⟨s,b,c,c',t,rfl,B⟩;rw[xa] at hx;obtain⟨d,hd,rfl⟩:=uu.mp hx;have m0:=xk d (show n≠0 by lia);have m1:=xb d (show 0<n by lia);symm;have B':=B.snoc (x:=d) ⋯;obtain⟨p,hp⟩:∃p:Nat,d%n=(p:Int):=⟨(d%n).toNat,⋯⟩;rw[hp,xc] at B';rw[hp] at m1 ⊢;have e1:(p:Int)/256=((p/256:Nat):Int):=⋯
  have e2:(p:Int)%256=((p%256:Nat):Int):=⋯;rw[e1];have pk:p/256<k:=⋯;exists Az (SqL.of t) (Dz (Ng pk)) ?_;rw[e2];exists Ep ⟨⋯,1,bt1,⋯⟩ ?_;rw[xc,oJ,HJ]
  try rw[e1]
  refine NQ t (by rw[Nf];exact pk) ?_;rw[ou pk];refine⟨Ez hl' s,_,_,_,Ai,rfl,?_⟩;rw[ja4,hd];exact B'
 ·rintro Z' H2 ⟨s2,b,c,c',t2,rfl,B⟩;rw[js,jc9] at B;symm;walk_at"f";symm;exists⟨l,_,rfl,.inl (SqL.of t2),?_⟩;rw[Nf];refine⟨(k:Int),rfl,⋯,⋯,Pg (n:=((k:Int)).toNat) (fun i Z' H'=>H'=H2/\∃(c1:Option V),Z'=[some (.int n),some (.ref a),some (.ref l),c,some (.int ((b%2^(256*i):Nat):Int)),c1,c']/\i<=k) ⟨rfl,none,?_,⋯⟩ ?_ ?_⟩
  ·rw[jo8,Nat.pow_zero,Nat.mod_one];rfl
  ·rintro i Z' H' hi ⟨rfl,c1,rfl,_⟩;have ik:i<k:=⋯
   symm;rw[jh7];exists Az (SqL.of t2) (Dz (Ng ik)) ?_;refine Ep ⟨20,10,Jw ⋯,(by unfold Bt;decide),nofun⟩ ?_;symm;exists Ep ⟨⋯,256,Jw (ACP _ _),⋯⟩ ?_;rw[show ((i:Int)*256).toNat=256*i by lia,R7,HJ,uv];exact⟨rfl,_,rfl,⋯⟩
  ·rintro Z' H' ⟨rfl,c1,rfl,_⟩;symm;have e:256*((k:Int)).toNat=256*(n/256+1).toNat:=⋯
   rw[e,uO ⋯ B.lt];refine⟨Wn,fun p hp=>?_⟩;exact fin p b _ (s2.trans (BR hp _)) Ai B
theorem Hx:C0 1 "full_bits" ["size"] yj:=by
 refine co' ["size"] ZS fun nd H vs Q E hr h=>?_;obtain⟨n,rfl,h0,h1,q⟩:=h;exists⟨_,(Ad (Ak (Af Ci (Af Nj Ag (pv 0)) Ag))),?_⟩;refine Ep ⟨h0,1,(by unfold Bt;decide),⋯⟩ ?_;symm;rw[jy];exact q
theorem Ij:C0 2 "bits_by" ["turn","size"] (jB K):=by
 refine co' ["turn","size","bits","width"] jO fun nd H vs Q E hr h=>?_;obtain⟨a,n,z,b,rfl,hS,h0,h1,hb,z0,z1,q⟩:=h;refine⟨_,(Ab (Aj 2 (pxT 0)) (Ab (Aj 3 (pxT 0)) (Ab (KY PassesOwn.never (Am Fg (pv 3) (pv 1) (Ar _)) (Ab (Aj 2 (Af Zk (pv 2) (Af Nj (pv 2) (pv 3)))) (Ad (Aj 3 (Af DY (pv 3) Ag))))) (Ad (Ak (Af Kc (pv 2) (Ah Hx (Aa (pv 1) Ac)))))))),?_⟩
 symm;exists BJ hS at1 ?_;exists BJ hS at0 ?_;refine⟨fun m Z' H'=>H'=H/\∃wd c:Nat,Z'=[some (.ref a),some (.int z),some (.int (c:Int)),some (.int (wd:Int))]/\n.toNat∣wd/\0<wd/\wd<=300000/\Jc n.toNat b wd c/\m=z.toNat-wd,
  ⟨_,rfl,n.toNat,b,?_,Nat.dvd_refl _,⋯,⋯,Jc.start hb,rfl⟩,?_⟩
 ·have e:((n.toNat:Nat):Int)=n:=⋯
  rw[e]<;>rfl
 rintro m Z' H' ⟨rfl,wd,c,rfl,hd,w0,w1,S,rfl⟩;symm;refine Gd (fun cc=>?_) (fun cc=>?_)
 ·exists⟨_,fun Z' H' hh=>hh,?_⟩;exists Ep ⟨⋯,wd,Jw S.lt,⋯⟩ ?_;refine Ep ⟨20,2,Jw ⋯,(by unfold Bt;decide),nofun⟩ ?_;symm;rw[xc,R7,HJ];refine⟨z.toNat-wd*2,⋯,rfl,wd*2,c ||| (c <<< wd),?_,Nat.dvd_trans hd (Nat.dvd_mul_right _ _),⋯,⋯,S.dbl hd,rfl⟩;rfl
 ·symm;exists⟨z,rfl,⋯,⋯,?_⟩;rw[Fe];exact q _ (S.cut ⋯)
theorem QS:C0 3 "stretched" ["turn","size"] (Ys K):=by
 refine co' ["turn","size"] ZD fun nd H vs Q E hr h=>?_;obtain⟨a,n,z,b,rfl,hS,h0,h1,hb,z0,z1,hd,q⟩:=h;refine⟨_,(Ab (Bv (Ah DR (Aa (pv 1) Ac))) (Ab (BW (Am G6 (Af DN (pv 1) (pxT 0)) Ag (Ar _)) (Ad Be) Ao) (Ab (Bv (Ah Fq (Aa (pv 1) Ac))) (Ad (Ak (By (Aa (pv 1) (Aa (Ah Ij (Aa (pv 0) (Aa (pv 1) Ac))) Ac)))))))),?_⟩
 symm;exists⟨z,rfl,⋯,?_⟩;refine BJ hS at0 ?_;exists Ep h0 ?_;rw[Int.emod_eq_zero_of_dvd hd];exists IW rfl ?_;exists⟨z,rfl,z1,?_⟩;exists⟨a,n,z,b,rfl,hS,h0,⋯,hb,z0,z1,fun c S=>?_⟩;exact⟨(by show 2<=sizeLine;decide),fun p hp=>q p c hp S⟩
theorem JM:C0 4 "common_size" ["one","other"] (ADM K):=by
 refine co' ["one","other","size"] Vb fun nd H vs Q E hr h=>?_;obtain⟨a1,a2,n1,n2,b1,b2,rfl,S1,S2,p1,p2,l1,l2,lz,q⟩:=h;refine⟨_,(Ab (Aj 2 (Ah Uq (Aa (pxT 0) (Aa (pxT 1) Ac)))) (Ab (Bv (Ah Fq (Aa (pv 2) Ac))) (Ad (Ak (pv 2))))),?_⟩
 symm;exists BJ S1 at0 ?_;exists BJ S2 at0 ?_;exists⟨n1,n2,rfl,p1,p2,CJ ⋯ ⋯ nofun,CJ ⋯ ⋯ nofun,fun H1 s1=>?_⟩;exists⟨_,rfl,lz,?_⟩;exact q _ s1
theorem dO:C0 5 "both" ["one","other"] (spJ K (Bo and)):=by
 refine co' ["one","other","size"] zF fun nd H vs Q E hr h=>?_;obtain⟨a1,a2,n1,n2,b1,b2,rfl,W,lz,q⟩:=h;have fl:=DP W.p1 W.p2;have l1:=W.l1;have l2:=W.l2;refine⟨_,(Ab (Aj 2 (Ah JM (Aa (pv 0) (Aa (pv 1) Ac)))) (Ad (Ak (By (Aa (pv 2) (Aa (Af Kc (Ah Ij (Aa (pv 0) (Aa (pv 2) Ac))) (Ah Ij (Aa (pv 1) (Aa (pv 2) Ac)))) Ac)))))),?_⟩
 symm;exists⟨a1,a2,n1,n2,b1,b2,rfl,W.s1,W.s2,W.p1,W.p2,W.l1,W.l2,lz,fun H1 s1=>?_⟩;exists⟨a1,n1,_,b1,rfl,s1.tup W.s1,W.p1,⋯,W.k1,fl.1,lz,fun c1 T1=>?_⟩;exists⟨a2,n2,_,b2,rfl,s1.tup W.s2,W.p2,⋯,W.k2,fl.1,lz,fun c2 T2=>?_⟩;rw[Fe];refine⟨Wn,fun p hp=>?_⟩;have l:c1 &&& c2<2^(Eb n1 n2).toNat:=Nat.and_lt_two_pow _ T2.lt;exact q p _ _ (s1.trans (BR hp _)) Ai l ⟨l,fun i hi=>by rw[ja9,T1.bit i hi,T2.bit i hi]⟩
theorem aL:C0 5 "either" ["one","other"] (spJ K (Bo or)):=by
 refine co' ["one","other","size"] nO fun nd H vs Q E hr h=>?_;obtain⟨a1,a2,n1,n2,b1,b2,rfl,W,lz,q⟩:=h;have fl:=DP W.p1 W.p2;have l1:=W.l1;have l2:=W.l2;refine⟨_,(Ab (Aj 2 (Ah JM (Aa (pv 0) (Aa (pv 1) Ac)))) (Ad (Ak (By (Aa (pv 2) (Aa (Af Zk (Ah Ij (Aa (pv 0) (Aa (pv 2) Ac))) (Ah Ij (Aa (pv 1) (Aa (pv 2) Ac)))) Ac)))))),?_⟩
 symm;exists⟨a1,a2,n1,n2,b1,b2,rfl,W.s1,W.s2,W.p1,W.p2,W.l1,W.l2,lz,fun H1 s1=>?_⟩;exists⟨a1,n1,_,b1,rfl,s1.tup W.s1,W.p1,⋯,W.k1,fl.1,lz,fun c1 T1=>?_⟩;exists⟨a2,n2,_,b2,rfl,s1.tup W.s2,W.p2,⋯,W.k2,fl.1,lz,fun c2 T2=>?_⟩;rw[HJ];refine⟨Wn,fun p hp=>?_⟩;have l:=Nat.or_lt_two_pow T1.lt T2.lt;exact q p _ _ (s1.trans (BR hp _)) Ai l ⟨l,fun i hi=>by rw[jc5,T1.bit i hi,T2.bit i hi]⟩
theorem YK:C0 2 "other_days" ["turn"] (sZ K):=by
 refine co' ["turn"] XD fun nd H vs Q E hr h=>?_;obtain⟨a,n,b,rfl,S,n0,n1,hb,q⟩:=h;exists⟨_,(Ad (Ak (By (Aa (pxT 0) (Aa (Af zX (pxT 0) (Ah Hx (Aa (pxT 0) Ac))) Ac))))),?_⟩;exists BJ S at0 ?_;exists BJ S at1 ?_;exists BJ S at0 ?_;exists⟨n,rfl,⋯,⋯,?_⟩;rw[dR];refine⟨Wn,fun p hp=>q p _ hp ?_ fun i hi=>?_⟩
 ·exact Nat.xor_lt_two_pow hb (by have:=kq n.toNat;lia)
 ·rw[Nat.testBit_xor,ji1];simp[hi]
theorem Ny:C0 2 "later" ["turn","number"] (tO K):=by
 refine co' ["turn","number","shift","bits"] uF fun nd H vs Q E hr h=>?_;obtain⟨a,n,num,b,rfl,hS,h0,h1,hb,q⟩:=h;refine⟨_,(Ab (Aj 2 (Af DN (pv 1) (pxT 0))) (Ab (Aj 3 (Af Zk (Af Nj (pxT 0) (pv 2)) (Af Xh (pxT 0) (Af Ci (pxT 0) (pv 2))))) (Ad (Ak (By (Aa (pxT 0) (Aa (Af Kc (pv 3) (Ah Hx (Aa (pxT 0) Ac))) Ac))))))),?_⟩
 have m0:=xk num (show n≠0 by lia);have m1:=xb num h0;symm;refine BJ hS at0 ?_;exists Ep h0 ?_;exists BJ hS at1 ?_;exists Ep ⟨m0,n.toNat,Jw hb,⋯⟩ ?_;exists BJ hS at1 ?_;exists BJ hS at0 ?_;exists Ep (show (0:Int)<=n-num%n by lia) ?_;exists BJ hS at0 ?_;exists BJ hS at0 ?_;exists⟨n,rfl,⋯,⋯,?_⟩;have e:(n-num%n).toNat=n.toNat-(num%n).toNat:=⋯;rw[R7,KH,HJ,Fe,e];refine⟨(by show 2<=sizeLine;decide),fun p hp=>?_⟩;exact q p hp
theorem WR:C0 3 "ones_in" ["bits"] yW:=by
 refine co' ["bits","fields","width","each_second"] jH fun nd H vs Q E hr h=>?_;obtain⟨b,n,rfl,hb,hn,q⟩:=h;refine⟨_,(Ab (Aj 1 (pv 0)) (Ab (Aj 2 Ag) (Ab (KY PassesOwn.never (Am Iz (Af Xh (pv 1) (pv 2)) Ag (Ar _)) (Ab (Aj 3 (Ah Ij (Aa (By (Aa (Af DY Ag (pv 2)) (Aa (Ah Hx (Aa (pv 2) Ac)) Ac))) (Aa (cM jl5 ji2 ji3 Xn (pv 1)) Ac)))) (Ab (Aj 1 (Af Bx (Af Kc (pv 1) (pv 3)) (Af Kc (Af Xh (pv 1) (pv 2)) (pv 3)))) (Ad (Aj 2 (Af DY Ag (pv 2))))))) (Ad (Ak (pv 1)))))),?_⟩
 symm;refine⟨fun m Z' H'=>BP H H'/\∃f w:Nat,∃x:Option V,Z'=[some (.int (b:Int)),some (.int (f:Int)),some (.int (w:Int)),x]/\0<w/\w<=300000/\f<2^n/\Dg w f (cnt b n)/\m=n-w,
  ⟨_,BP.refl _,b,1,none,rfl,nofun,nofun,hb,Dg.start n b hb,rfl⟩,?_⟩
 rintro m Z' H1 ⟨s1,f,w,x,rfl,w0,w1,hf,D,rfl⟩;symm;exists Ep (show (0:Int)<=(w:Int) by lia) ?_;rw[xc,KH];refine Gd (fun cc=>?_) (fun cc=>?_)
 ·have f1:2^w<=f:=by
   have h1:0<f >>> w:=⋯;rw[Jn] at h1;exact Nat.le_of_not_lt fun z=>by rw[jn3 z] at h1;lia
  have wn:w<n:=by
   refine jj1 fun z=>?_;have:=vb (show 0<2 by decide) z;lia
  have f0:f≠0:=by have:=kq w;lia
  have l1:f<2^(f.log2+1):=Nat.lt_log2_self;have l2:f.log2+1<=n:=by
   have:=Nat.log2_self_le f0;refine jj1 fun z=>?_;have:=vb (show 0<2 by decide) z;lia
  exists⟨_,fun Z' H' hh=>hh,?_⟩;refine Ep ⟨3,20,(by unfold Bt;decide),Jw ⋯,nofun⟩ ?_;symm;exists⟨(w:Int),rfl,⋯,⋯,?_⟩;rw[xc,show(2:Int)*(w:Int)=((2*w:Nat):Int) by lia];refine⟨Wn,fun p hp=>?_⟩;exists fresh hp fun H2 s2 t2=>?_;rw[Kp f0];symm;refine⟨p,_,_,_,rfl,SqT.of t2,⋯,⋯,?_,⋯,⋯,fun c S=>?_⟩
  ·rw[xc];have:=vb (show 0<2 by decide) (show w<=2*w by lia);have:=kq w;lia
  rw[xc,show(((f.log2+1:Nat):Int)).toNat=f.log2+1 by lia] at S;symm;exists Ep (show (0:Int)<=(w:Int) by lia) ?_;refine Ep ⟨3,20,(by unfold Bt;decide),Jw ⋯,nofun⟩ ?_;symm;have E1:=gh w0 l1 S 0;have E2:=gh w0 l1 S w;rw[Nat.pow_zero,Nat.div_one] at E1;obtain⟨d1,d2⟩:=D.pair w0 E1 E2;rw[xc,KH,Jn,Fe,Fe];refine⟨n-2*w,⋯,s1.trans s2,(f &&& c)+(f/2^w &&& c),2*w,some (.int (c:Int)),?_,⋯,⋯,⋯,d1,rfl⟩;rw[jk7];rfl
 ·have fl:f<2^w:=by
   have h1:f >>> w=0:=Nat.eq_zero_of_not_pos fun z=>cc (Int.natCast_pos.mpr z);rw[Jn] at h1;exact jj1 fun z=>by
    have:=(Nat.le_div_iff_mul_le (kq w)).mpr (show 1*2^w<=f by lia);lia
  symm;rw[D.last fl];exact q _ s1
theorem Nz:C0 4 "days_ahead" ["turn","day"] (uB K):=by
 refine co' ["turn","day","part"] XF fun nd H vs Q E hr h=>?_;obtain⟨a,n,d,b,rfl,hS,h0,h1,hb,bd,q⟩:=h;have m0:=xk d (show n≠0 by lia);have m1:=xb d h0;refine⟨_,(Ab (Aj 2 (Af Kc (pxT 0) (Ah Hx (Aa (Af DN (pv 1) (pxT 0)) Ac)))) (Ad (Ak (Af Bx (Af DY (Af Cj (pv 1) (pxT 0)) (Ah WR (Aa (pxT 0) Ac))) (Ah WR (Aa (pv 2) Ac)))))),?_⟩
 symm;exists BJ hS at1 ?_;refine BJ hS at0 ?_;exists Ep h0 ?_;exists⟨d%n,rfl,m0,⋯,?_⟩;rw[Fe];exists BJ hS at0 ?_;exists Ep (Io h0 ⋯) ?_;exists BJ hS at1 ?_;refine⟨b,n.toNat,rfl,hb,⋯,fun H1 s1=>?_⟩;have cl:=qX b n.toNat;exists Ep ⟨260,20,YQ bd h0,Jw ⋯,nofun⟩ ?_;exists⟨_,(d%n).toNat,rfl,K6 _ _,⋯,fun H2 s2=>?_⟩;rw[Z4 (c:=b) fun i hi=>Jx _ _ _ hi];exact q _ (s1.trans s2)
theorem Uo:C0 5 "how_many" ["turn","first","end"] (yc K):=by
 refine co' ["turn","first","end"] bW fun nd H vs Q E hr h=>?_;obtain⟨a,n,f',e,b,rfl,hS,h0,h1,hb,b1,b2,q⟩:=h;exists⟨_,(Ad (Ak (Af Ci (Ah Nz (Aa (pv 0) (Aa (pv 2) Ac))) (Ah Nz (Aa (pv 0) (Aa (pv 1) Ac)))))),?_⟩;exists⟨a,n,e,b,rfl,hS,h0,h1,hb,b2.mono nofun,fun H1 s1=>?_⟩;exists⟨a,n,f',b,rfl,s1.tup hS,h0,h1,hb,b1.mono nofun,fun H2 s2=>?_⟩;exact q _ (s1.trans s2)
theorem dM:C0 6 "gathered" ["turn","barred","step","join"] (ADK K mg [("either",spJ K (Bo or))]):=by
 refine co' ["turn","barred","step","join","told","free","stride"] bY fun nd H vs Q E hr h=>?_;obtain⟨a1,a2,f',n,e,b,c,x,J,rfl,hxj,hmg,S1,S2,n0,n1,hb,hc,he,q⟩:=h;refine⟨_,(Ab (Aj 4 (pv 0)) (Ab (Aj 5 (Ah YK (Aa (pv 1) Ac))) (Ab (Aj 6 (pv 2)) (Ab (KY PassesOwn.never (Am Fg (Bh qZ rfl ABY PyProof.Rows.boot_abs (Aa (pv 6) Ac)) (pxT 0) (Ar _)) (Ab (Aj 4 (uo (i:=3) (k:=5) (Ia.cons aL Ia.nil) (hr.mono nofun) rfl (by first | exact Or.inl rfl | exact Or.inr (Or.inl rfl) | exact Or.inr (Or.inr rfl)) (Aa (pv 4) (Aa (Ah dO (Aa (Ah Ny (Aa (pv 4) (Aa (pv 6) Ac))) (Aa (pv 5) Ac))) Ac)))) (Ab (Aj 5 (Ah dO (Aa (pv 5) (Aa (Ah Ny (Aa (pv 5) (Aa (pv 6) Ac))) Ac)))) (Ad (Aj 6 (Af DY Ag (pv 6))))))) (Ad (Ak (pv 4))))))),?_⟩
 symm;refine⟨a2,n,c,rfl,S2,n0,n1,hc,fun pf fc hpf lf bf=>?_⟩;refine fresh hpf fun H1 s1 t1=>?_;have ls:=lcm_self n0;symm;refine⟨fun m Z' H'=>BP H H'/\∃(pt pf:Addr) (g fr k:Nat),0<k/\k<=300000/\H' pt=some (.tup [.int n,.int (g:Int)])/\SqT K H' pf [.int n,.int (fr:Int)]/\g<2^n.toNat/\fr<2^n.toNat/\(∀r,U5 J n g fr (e*(k:Int)) r->U5 J n b fc e r)/\
  Z'=[some (.ref a1),some (.ref a2),some (.int e),some (.ref f'),some (.ref pt),some (.ref pf),some (.int (e*(k:Int)))]/\m=n.toNat-k,
  ⟨_,s1,a1,pf,b,fc,1,nofun,nofun,s1 _ _ S1,SqT.of t1,hb,lf,(fun r h=>by rwa [show e*((1:Nat):Int)=e by lia] at h),(by rw[show e*((1:Nat):Int)=e by lia]<;>rfl),rfl⟩,?_⟩
 rintro m Z' H2 ⟨s2,pt,pf,g,fr,k,k0,k1,Tt,Tf,lg,lfr,G,rfl,rfl⟩;have ek:(e*(k:Int)).natAbs=k:=by rcases he with h | h<;>rw[h]<;>lia
 symm;exists⟨_,rfl,?_⟩;exists BJ (SqT.of (s2 _ _ S1)) at0 ?_;have mulb:∀x:Int,e*x=x\/e*x= -x:=fun x=>by rcases he with h | h<;>rw[h]<;>lia
 refine Gd (fun hlt=>?_) (fun hge=>?_)
 ·have kn:(k:Int)<n:=by
   have:=mulb k;split at hlt<;>lia
  refine⟨fun Z' H'=>∃m',m'<n.toNat-k/\BP H H'/\∃(pt pf:Addr) (g fr k:Nat),0<k/\k<=300000/\H' pt=some (.tup [.int n,.int (g:Int)])/\SqT K H' pf [.int n,.int (fr:Int)]/\g<2^n.toNat/\fr<2^n.toNat/\(∀r,U5 J n g fr (e*(k:Int)) r->U5 J n b fc e r)/\
   Z'=[some (.ref a1),some (.ref a2),some (.int e),some (.ref f'),some (.ref pt),some (.ref pf),some (.int (e*(k:Int)))]/\m'=n.toNat-k,fun Z' H' hh=>hh,?_⟩
  symm;exists nj rfl hxj hmg ?_;refine⟨pt,n,_,g,rfl,SqT.of Tt,n0,n1,lg,fun p1 h1=>?_⟩;refine fresh h1 fun H3 s3 t3=>?_;have t3:H3 p1=some _:=t3;symm;refine⟨p1,pf,n,n,_,fr,rfl,⟨SqT.of t3,s3.tup Tf,n0,n0,n1,n1,Tz _ _ _,lfr⟩,by rw[ls];exact n1,fun p2 c2 H4 s4 t4 B2 R2=>?_⟩;rw[ls] at t4 B2 R2;symm;refine⟨pt,p2,n,n,g,c2,rfl,⟨SqT.of (s4 _ _ (s3 _ _ Tt)),SqT.of t4,n0,n0,n1,n1,lg,B2⟩,(by rw[ls];exact n1),fun p3 c3 H5 s5 t5 B3 R3=>?_⟩;rw[ls] at t5 B3 R3;symm;refine⟨pf,n,_,fr,rfl,s5.tup (s4.tup (s3.tup Tf)),n0,n1,lfr,fun p4 h4=>?_⟩;refine fresh h4 fun H6 s6 t6=>?_;have t6:H6 p4=some _:=t6;symm;refine⟨pf,p4,n,n,fr,_,rfl,⟨s6.tup (s5.tup (s4.tup (s3.tup Tf))),SqT.of t6,n0,n0,n1,n1,lfr,Tz _ _ _⟩,by rw[ls];exact n1,fun p5 c5 H7 s7 t7 B5 R5=>?_⟩;rw[ls] at t7 B5 R5;symm;refine Ep ⟨2,20,Jw nofun,(by show(e*(k:Int)).natAbs<2^20;rw[ek];lia),nofun⟩ ?_;symm;have e2:e*((2*k:Nat):Int)=2*(e*(k:Int)):=by rw[jn8,je7];rfl
  refine⟨n.toNat-2*k,⋯,s2.trans (s3.trans (s4.trans (s5.trans (s6.trans s7)))),p3,p5,c3,c5,2*k,⋯,⋯,s7 _ _ (s6 _ _ t5),SqT.of t7,B3,B5,(fun r h=>G r (.step ⋯ R2 R3 R5 (by rwa [e2] at h))),by rw[e2]<;>rfl,rfl⟩
 ·have kn:n.toNat<=k:=by
   have:=mulb k;split at hge<;>lia
  symm;exact q pt g H2 s2 Tt lg ⟨fc,⟨lf,bf⟩,G g (.stop ⋯)⟩
theorem AAj:C0 7 "upon" ["R","S"] (spJ K (UpR 1)):=by
 refine co' ["R","S","size","days"] yw fun nd H vs Q E hr h=>?_;obtain⟨a1,a2,n1,n2,b1,b2,rfl,W,lz,q⟩:=h;have fl:=DP W.p1 W.p2;refine⟨_,(Ab (Aj 2 (Ah JM (Aa (pv 0) (Aa (pv 1) Ac)))) (Ab (Aj 3 (Ah QS (Aa (pv 0) (Aa (pv 2) Ac)))) (Ad (Ak (Ah dO (Aa (pv 3) (Aa (Ah dM (Aa (Ah QS (Aa (pv 1) (Aa (pv 2) Ac))) (Aa (Ah Ny (Aa (pv 3) (Aa Ag Ac))) (Aa Ag (Aa (Cg rfl Yk (Jk _)) Ac))))) Ac))))))),?_⟩
 symm;refine⟨a1,a2,n1,n2,b1,b2,rfl,W.s1,W.s2,W.p1,W.p2,W.l1,W.l2,lz,fun H1 s1=>?_⟩;generalize hz:Eb n1 n2=z at*
 have z0:=fl.1;have d1:n1∣z:=fl.2.1;have d2:n2∣z:=fl.2.2.1;have ls:=lcm_self z0;symm;refine⟨a1,n1,z,b1,rfl,s1.tup W.s1,W.p1,W.l1,W.k1,z0,lz,d1,fun pr cr hr1 Sr=>?_⟩;exists fresh hr1 fun H2 s2 t2=>?_;refine⟨a2,n2,z,b2,rfl,s2.tup (s1.tup W.s2),W.p2,W.l2,W.k2,z0,lz,d2,fun ps cs hs1 Ss=>?_⟩;exists fresh hs1 fun H3 s3 t3=>?_;refine⟨pr,z,_,cr,rfl,s3.tup (SqT.of t2),z0,lz,Sr.lt,fun pl hl1=>?_⟩;refine fresh hl1 fun H4 s4 t4=>?_;have t4:H4 pl=some _:=t4;symm;exists⟨ps,pl,_,z,1,cs,_,_,or,rfl,qc,Yk,s4 _ _ t3,SqT.of t4,z0,lz,Ss.lt,Tz _ _ _,.inl rfl,fun pg g H5 s5 t5 lg G=>?_⟩;refine⟨pr,pg,z,z,cr,g,rfl,⟨s5.tup (s4.tup (s3.tup (SqT.of t2))),SqT.of t5,z0,z0,lz,lz,Sr.lt,lg⟩,by rw[ls];exact lz,fun p c H6 s6 t6 B R=>?_⟩;rw[ls] at t6 B R;exact q p c H6 (s1.trans (s2.trans (s3.trans (s4.trans (s5.trans s6))))) t6 B ⟨cr,cs,g,Sr,Ss,G,R⟩
theorem kO:C0 1 "term_on" ["term","k"] mR:=by
 refine co' ["term","k"] jF fun nd H vs Q E hr h=>?_;obtain⟨p,k,t,rfl,hp,ok,bk,q⟩:=h;have n0:=ok.n0;have n1:=ok.n1;have a0:=ok.a0;have a1:=ok.a1;exists⟨_,(Ad (Ak (Iw xQ (Af Bx (Af DN (Af Bx (Af DY (pxT 0) (pv 1)) (pxT 0)) (pxT 0)) (pxT 0)) (pxT 0) (Ar _)))),?_⟩;exists BJ (SqT.of hp) ql ?_;exists Ep ⟨64,400,CJ ⋯ ⋯ nofun,bk,nofun⟩ ?_;exists BJ (SqT.of hp) wK ?_;exists BJ (SqT.of hp) Vp ?_;exists BJ (SqT.of hp) ql ?_;exists BJ (SqT.of hp) Vp ?_;exact q
theorem YJ:C0 1 "signs_upto" ["terms","k"] (sV K):=by
 refine co' ["terms","k"] W8 fun nd H vs Q E hr h=>?_;obtain⟨p,k,ts,rfl,T,bk,q⟩:=h;obtain⟨us,hS,hT⟩:=T.ex;exists⟨_,(Ad (Ak (Bh (Ue rfl) rfl lA jn2 (Aa (Gf rfl (GD ["terms","k"] ["terms","k"] rfl rfl (by with_unfolding_all rfl) ∅ rfl ∅ rfl ∅ (by walk_at"fm") (by with_unfolding_all rfl) (by with_unfolding_all rfl)) (Tc (pv 0)) (fun _ _ _ _=>Ff) (fun _ _ _ _=>(Af DY (Et JT (pv 0) Ag) (Af Cj (Af Bx (Af DY (Et JT (pv 0) Ag) (pv 2)) (Et JT (pv 0) Ag)) (Et JT (pv 0) Ag))))) Ac)))),?_⟩;refine dG rfl hS (by rw[hT.len];exact Ei (by have:=T.few;lia)) (fun v=>((U7 H v).map fun _=>true).getD false) (fun v=>((U7 H v).map fun t=>V.int (t.1*ctT t k)).getD .non) (fun x hx D ys Q' hD h=>?_) (fun x hx _ D ys Q' hD h=>?_) (fun D hD=>?_)
 ·obtain⟨a,t,rfl,ht,ha⟩:=hT.mem hx;rw[Jh ha] at h;exact h
 ·obtain⟨a,t,rfl,ht,ha⟩:=hT.mem hx;rw[Jh ha] at h;have ok:=T.ok t ht;have n0:=ok.n0;have n1:=ok.n1;have a0:=ok.a0;have a1:=ok.a1;have sg:=ok.sg;have b0:=ok.b0;have b1:=ok.b1;have ha':=BR hD (.lst ys) _ _ ha;symm;exists BJ (SqT.of ha') qp ?_;exists BJ (SqT.of ha') ql ?_;exists Ep ⟨64,400,CJ ⋯ ⋯ nofun,bk,nofun⟩ ?_;exists BJ (SqT.of ha') wK ?_;refine BJ (SqT.of ha') Vp ?_;refine Ep (Io ⋯ ⋯) ?_;have bb:Bt 465 (t.2.1*k+t.2.2.1):=((show Bt 64 t.2.1 from CJ ⋯ ⋯ nofun).mul bk).add ((show Bt 64 t.2.2.1 from CJ ⋯ ⋯ nofun).mono nofun);refine Ep ⟨200,465,bt_of ⋯ ⋯,YQ bb ⋯,nofun⟩ ?_;exact h
 rw[hT.fm (fun _=>true) fun t=>V.int (t.1*ctT t k),jd5.mpr (fun _ _=>rfl)];have e:(ts.map fun t=>V.int (t.1*ctT t k))=(ts.map fun t=>t.1*ctT t k).map V.int:=by rw[vk];rfl
 rw[e];symm;refine⟨D,_,rfl,SqL.of Ai,?_⟩;exact q _ (BR hD _)
theorem kY:C0 1 "is_term" ["term"] m8:=by
 refine co' ["term"] jL fun nd H vs Q E hr h=>?_;obtain⟨p,t,rfl,hp,ok,q⟩:=h;have n0:=ok.n0;have n1:=ok.n1;have a0:=ok.a0;have a1:=ok.a1;have sg:=ok.sg;have b0:=ok.b0;have b1:=ok.b1;refine⟨_,(Ab (BW (PW.pt (XX (Am G6 (pxT 0) Ag (Ar _)) (Rh (Am G6 (pxT 0) (Lr JD Ag) (Ar _))))) (Ad (Ak Gp)) Ao) (Ad (Ak (Ti (NZ Nk Nk Ag (pxT 0) (Cg rfl Xr (Du _ _))) (Ti (NZ Nk Nk Ag (pxT 0) (pxT 0)) (Xe (NZ Nk Fg Ag (pxT 0) (pxT 0)))))))),?_⟩
 symm;exists BJ (SqT.of hp) qp ?_;have rest:True:=trivial;rcases sg with e | e
 ·exists IW (yi V.int e) (Dp ?_);exists BJ (SqT.of hp) Vp ?_;exists IK n0 ?_;rw[decide_eq_true n1];exists Gb ?_;exists BJ (SqT.of hp) ql ?_;exists IK a0 ?_;exists BJ (SqT.of hp) Vp ?_;rw[decide_eq_true a1];exists Gb ?_;exists BJ (SqT.of hp) wK ?_;exists IK b0 ?_;exists BJ (SqT.of hp) Vp ?_;rw[decide_eq_true b1];exact q
 ·refine xX (fun z=>by have:=V.int.inj z;lia) ?_;symm;exists BJ (SqT.of hp) qp ?_;exists IW (yi V.int e) ?_;exists BJ (SqT.of hp) Vp ?_;exists IK n0 ?_;rw[decide_eq_true n1];exists Gb ?_;exists BJ (SqT.of hp) ql ?_;exists IK a0 ?_;exists BJ (SqT.of hp) Vp ?_;rw[decide_eq_true a1];exists Gb ?_;exists BJ (SqT.of hp) wK ?_;exists IK b0 ?_;exists BJ (SqT.of hp) Vp ?_;rw[decide_eq_true b1];exact q
theorem Gz:C0 1 "least_length" ["base","terms"] (tM K):=by
 refine co' ["base","terms"] SN fun nd H vs Q E hr h=>?_;obtain⟨p,b,ts,rfl,T,q⟩:=h;obtain⟨us,hS,hT⟩:=T.ex;exists⟨_,(Ad (Ak (Af Ci (pv 0) (Bh Bs rfl Es xh (Aa (Gf rfl (Gm ["base","terms"] rfl ∅ rfl ∅ rfl ∅ ∅) (Tc (pv 1)) (fun _ _ _ _=>(Zh (Am CN (Et JT (pv 0) Ag) (Lr JD Ag) (Ar _)))) (fun _ _ _ _=>(pv 0))) Ac))))),?_⟩;refine dG rfl hS (by rw[hT.len];exact Ei (by have:=T.few;lia)) (fun v=>((U7 H v).map fun t=>decide (t.1= -1)).getD false) (fun v=>v) (fun x hx D ys Q' hD h=>?_) (fun x hx _ D ys Q' hD h=>h) (fun D hD=>?_)
 ·obtain⟨a,t,rfl,ht,ha⟩:=hT.mem hx;rw[Jh ha] at h;symm;exists BJ (SqT.of (BR hD _ _ _ ha)) qp ?_;rw[qP];exact h
 symm;exists⟨D,_,rfl,.inl (SqL.of Ai),?_⟩;have e:((us.filter fun v=>((U7 H v).map fun t=>decide (t.1= -1)).getD false).map fun v=>v).length=(ts.filter fun t=>decide (t.1= -1)).length:=by
  have:=yi List.length (hT.fm (fun t=>decide (t.1= -1)) (fun _=>V.non));rw[js,js] at this;rw[js];exact this
 rw[e];exact q _ (BR hD _)
theorem Pk:C0 2 "refuse_measure" ["base","terms"] (iw K):=by
 refine co' ["base","terms"] Ot fun nd H vs Q E hr h=>?_;obtain⟨p,b,ts,rfl,T,g,q⟩:=h;obtain⟨us,hS,hT⟩:=T.ex;have b0:=g.b0;have b1:=g.b1;have fl:=g.fl;have few:=T.few;refine⟨_,(Ab (BW (PW.pt (HW (Am Fg (pv 0) Ag (Ar _)) (Fx (Am Iz (pv 0) (Cg rfl Q4 (Du _ _)) (Ar _)))))
  (Ad Be)
  Ao)
  (Ab (BW (Am Iz (Bh Bs rfl Es xh (Aa (pv 1) Ac)) (Cg rfl Xp (Du _ _)) (Ar _))
   (Ad Be)
   Ao)
  (Ab (BW (Dv (Cz (Bh (Uh rfl) rfl lD jn0 (Aa (Gf rfl (Gm ["base","terms"] rfl ∅ rfl ∅ rfl ∅ ∅) (Tc (pv 1)) (fun _ _ _ _=>Ff) (fun _ _ _ _=>(Ah kY (Aa (pv 0) Ac)))) Ac))))
   (Ad Be)
   Ao)
  (Ad (BW (Am Fg (Ah Gz (Aa (pv 0) (Aa (pv 1) Ac))) Ag (Ar _))
   (Ad Be)
   Ao))))),?_⟩
 symm;exists CK ⋯ ?_;exists CK ⋯ ?_;exists⟨p,us,rfl,.inr hS,?_⟩;refine CK (by rw[hT.len];lia) ?_;symm;refine dG rfl hS (by rw[hT.len];exact Ei ⋯) (fun _=>true) (fun _=>.bl true) (fun x hx D ys Q' hD h=>h) (fun x hx _ D ys Q' hD h=>?_) (fun D hD=>?_)
 ·obtain⟨a,t,rfl,ht,ha⟩:=hT.mem hx;symm;exact⟨a,t,rfl,BR hD _ _ _ ha,T.ok t ht,h⟩
 have s1:=BR hD (.lst ((us.filter fun _=>true).map fun _=>V.bl true));have e:((us.filter fun _=>true).map fun _=>V.bl true)=(us.map fun _=>true).map V.bl:=by
  rw[jd5.mpr (fun _ _=>rfl),vk];rfl
 symm;exists⟨D,us.map (fun _=>true),rfl,SqL.of (by rw[Ai,e]),?_⟩;rw[show ((us.map fun _=>true).all id)=true from kx.mpr (fun x hx=>by obtain⟨_,_,rfl⟩:=vi.mp hx;rfl)];exists Dp ?_;exists⟨p,b,ts,rfl,T.same s1,fun H2 s2=>?_⟩;exists CK ⋯ ?_;exact q _ (s1.trans s2)
theorem aF:C0 4 "period_of" ["terms"] (my K):=by
 refine co' ["terms","told","term"] ZL fun nd H vs Q E hr h=>?_;obtain⟨p,ts,rfl,T,q⟩:=h;obtain⟨us,hS,hT⟩:=T.ex;have few:=T.few;have ulen:=hT.len;refine⟨_,(Ab (Aj 1 Ag) (Ab (Ik PassesOwn.never rfl (Tc (pv 0)) (FZ (i:=2) nd rfl (by walk_at"o")) (Ad (Aj 1 (Ah Uq (Aa (pv 1) (Aa (pxT 2) Ac)))))) (Ad (Ak (pv 1))))),?_⟩
 symm;walk_at"f";symm;refine⟨p,rfl,⟨us,hS⟩,vd (xs:=us) (fun i Z' H'=>BP H H'/\∃c:Option V,Z'=[some (.ref p),some (.int (PER (ts.take i))),c]) ⟨BP.refl _,none,rfl⟩ ?_ ?_ ?_⟩
 ·rintro i Z' H' _ ⟨s,_⟩;exact s.tup hS
 ·rintro i x Z' H' hx ⟨s,c,rfl⟩;obtain⟨a,t,rfl,ht,ha⟩:=hT.at hx;have i6:i<6:=by
   have:=(zd.mp ht).1;lia
  obtain⟨h1,h2⟩:=LK T.ok i ⋯;have h3:=uW (show i<=6 by lia);have ok:=T.ok t (xi ht);have n0:=ok.n0;have n1:=ok.n1;symm;exists BJ (SqT.of (s _ _ ha)) Vp ?_;exists⟨_,_,rfl,h1,⋯,CJ ⋯ ⋯ nofun,CJ ⋯ ⋯ nofun,fun H2 s2=>?_⟩;refine⟨s.trans s2,some (.ref a),?_⟩;have e2:PER (ts.take (i+1))=Eb (PER (ts.take i)) t.2.2.2:=by
   unfold PER;rw[ja4,ht,jc6,List.foldl_append];rfl
  rw[e2]<;>rfl
 ·rintro Z' H' ⟨s,c,rfl⟩;symm;rw[ulen,jc9];exact q _ s
theorem Cy:CM0 2 Ae "upto" ["self","k"] (yN K Ae):=by
 refine cm' ["self","k"] Sx fun nd H vs Q E hr h=>?_;obtain⟨x,p,dx,k,b,ts,fs,rfl,hx,fb,ft,T,b0,b1,bk,q⟩:=h;exists⟨_,(Ad (Ak (Af Bx (Af DY (Bc (pv 0) (by rfl)) (pv 1)) (Ah YJ (Aa (Bc (pv 0) (by rfl)) (Aa (pv 1) Ac)))))),?_⟩;exists⟨x,Ae,dx,fs,_,rfl,hx,Aq,CP,fb,?_⟩;exists Ep ⟨64,400,CJ ⋯ ⋯ nofun,bk,nofun⟩ ?_;exists⟨x,Ae,dx,fs,_,rfl,hx,Aq,CG,ft,?_⟩;exists⟨p,k,ts,rfl,T,bk,fun H' s=>?_⟩;exact q _ s
theorem Li:Cm ["self","base","terms"] ["self","base","terms"] (BK Gj):=by walk_at"s"
theorem Lk{ds:Array Value}(F:J1 K "__init__" "Measure.__init__" Gj f fd ds):F0 5 f fd ["self","base","terms"] (Wz K Ae):=by
 refine F.ok (k:=4) Li (fun h=>?_) fun nd H vs Q E hr h=>?_
 ·obtain⟨x,dx,b,v,us,ts,rfl,_⟩:=h;rfl
 obtain⟨x,dx,b,v,us,ts,rfl,hx,hT,hv,ok,few,g,po,q⟩:=h;refine⟨_,(Ab (Dw (pv 0) (pv 1) (by rfl)) (Ab (Dw (pv 0) (Fy (Am Jm (pv 2) Gw (Ar _)) (By Ac) (Bm JK rfl Wj jl1 (Aa (pv 2) Ac))) (by rfl)) (Ab (Bv (Ah Pk (Aa (Bc (pv 0) (by rfl)) (Aa (Bc (pv 0) (by rfl)) Ac)))) (Ab (Dw (pv 0) (Ah aF (Aa (Bc (pv 0) (by rfl)) Ac)) (by rfl)) (Ab (Dw (pv 0) (DX Cy Aq (pv 0) (Aa (Bc (pv 0) (by rfl)) Ac)) (by rfl)) (Ad (BW (Am CN (Bc (pv 0) (by rfl)) Ag (Ar _)) (Ad Be) Ao))))))),?_⟩
 symm;refine⟨x,Ae,dx,[],rfl,hx,Aq,CP,nofun,?_⟩;have k1:∀y o,y≠x->H y=some o->upd H x (.ins Ae dx (CW "base" (.int b) [])) y=some o:=fun y o hy h=>by rw[Ax hy];exact h
 have x1:upd H x (.ins Ae dx (CW "base" (.int b) [])) x=some (.ins Ae dx [("base",.int b)]):=Ai;generalize upd H x (.ins Ae dx (CW "base" (.int b) []))=H1 at k1 x1 ⊢;have tmk:∀{H':Hp},(∀y o,y≠x->H y=some o->H' y=some o)->Tms H' us ts:=fun{H'} k=>by
  have:∀{vs:List V} {ts:List Tm},Tms H vs ts->Tms H' vs ts:=fun{vs ts} h=>by
   induction h with
   | nil=>exact .nil
   | cons h _ ih=>exact .cons (k _ _ (fun e=>by subst e;rw[hx] at h;cases h) h) ih
  exact this hT
 symm;rcases hv with ⟨rfl,eu⟩ | ⟨l,rfl,hl⟩
 all_goals refine⟨rfl,?_⟩
 all_goals symm
 all_goals first | refine IK rfl ?_ | refine CK (fun z=>by cases z) ?_
 all_goals symm
 all_goals first
  | refine⟨l,us,rfl,.inl ⟨SqL.of (k1 _ _ (Eu hl hx (by intro z;cases z)) hl),fun p hp=>?_⟩⟩
  | (refine ⟨vj _,fun p hp=>?_⟩
     rw[show upd H1 p (.tup [])=upd H1 p (.tup us) by rw[eu]])
 all_goals
  have px:x≠p:=BX x1 hp;symm;refine⟨x,Ae,dx,_,rfl,by rw[Ax px];exact x1,Aq,CG,(by show 1<1000;decide),?_⟩;have k2:∀y o,y≠x->H1 y=some o->upd (upd H1 p (.tup us)) x (.ins Ae dx (CW "terms" (.ref p) [("base",.int b)])) y=some o:=fun y o hy h=>by
   rw[Ax hy];exact BR hp _ _ _ h
  have x2:upd (upd H1 p (.tup us)) x (.ins Ae dx (CW "terms" (.ref p) [("base",.int b)])) x=some (.ins Ae dx [("base",.int b),("terms",.ref p)]):=Ai;have p2:upd (upd H1 p (.tup us)) x (.ins Ae dx (CW "terms" (.ref p) [("base",.int b)])) p=some (.tup us):=by rw[Ax (Ne.symm px),Ai]
  generalize upd (upd H1 p (.tup us)) x (.ins Ae dx (CW "terms" (.ref p) [("base",.int b)]))=H2 at k2 x2 p2 ⊢;have k02:∀y o,y≠x->H y=some o->H2 y=some o:=fun y o hy h=>k2 y o hy (k1 y o hy h);have T2:TmT K H2 p ts:=⟨⟨us,SqT.of p2,tmk k02⟩,ok,few⟩;symm;exists⟨x,Ae,dx,_,_,rfl,x2,Aq,CP,rfl,?_⟩;exists⟨x,Ae,dx,_,_,rfl,x2,Aq,CG,rfl,?_⟩;refine⟨p,b,ts,rfl,T2,g,fun H3 s3=>?_⟩;have x3:=s3 _ _ x2;symm;exists⟨x,Ae,dx,_,_,rfl,x3,Aq,CG,rfl,?_⟩;refine⟨p,ts,rfl,T2.same s3,fun H4 s4=>?_⟩;have x4:=s4 _ _ x3;have p4:=(s3.trans s4) _ _ p2;symm;refine⟨x,Ae,dx,_,rfl,x4,Aq,Ck,(by show 2<1000;decide),?_⟩;have pne:p≠x:=Ne.symm px;have k5:∀y o,y≠x->H4 y=some o->upd H4 x (.ins Ae dx (CW "full_count" (.int (PER ts)) [("base",.int b),("terms",.ref p)])) y=some o:=fun y o hy h=>by rw[Ax hy];exact h
  have x5:upd H4 x (.ins Ae dx (CW "full_count" (.int (PER ts)) [("base",.int b),("terms",.ref p)])) x=some (.ins Ae dx [("base",.int b),("terms",.ref p),("full_count",.int (PER ts))]):=Ai;generalize upd H4 x (.ins Ae dx (CW "full_count" (.int (PER ts)) [("base",.int b),("terms",.ref p)]))=H5 at k5 x5 ⊢;have k05:∀y o,y≠x->H y=some o->H5 y=some o:=fun y o hy h=>k5 y o hy ((s3.trans s4) _ _ (k02 y o hy h));have T5:TmT K H5 p ts:=⟨⟨us,SqT.of (k5 _ _ pne p4),tmk k05⟩,ok,few⟩;obtain⟨h1,h2⟩:=LK ok 6 nofun;rw[ke few] at h1 h2;have h3:=uW (show 6<=6 by decide);symm;exists⟨x,dx,_,rfl,x5,rfl,?_⟩;exists⟨x,Ae,dx,_,_,rfl,x5,Aq,Ck,rfl,?_⟩;refine⟨x,p,dx,PER ts,b,ts,_,rfl,x5,rfl,rfl,T5,g.b0,g.b1,CJ ⋯ ⋯ nofun,fun H6 s6=>?_⟩;have x6:=s6 _ _ x5;symm;refine⟨x,Ae,dx,_,rfl,x6,Aq,Dy,(by show 3<1000;decide),?_⟩;have k7:∀y o,y≠x->H6 y=some o->upd H6 x (.ins Ae dx (CW "full_sum" (.int (UP b ts (PER ts))) [("base",.int b),("terms",.ref p),("full_count",.int (PER ts))])) y=some o:=fun y o hy h=>by rw[Ax hy];exact h
  have x7:upd H6 x (.ins Ae dx (CW "full_sum" (.int (UP b ts (PER ts))) [("base",.int b),("terms",.ref p),("full_count",.int (PER ts))])) x=some (.ins Ae dx (mF b p (PER ts) (UP b ts (PER ts)))):=Ai;generalize upd H6 x (.ins Ae dx (CW "full_sum" (.int (UP b ts (PER ts))) [("base",.int b),("terms",.ref p),("full_count",.int (PER ts))]))=H7 at k7 x7 ⊢;have k07:∀y o,y≠x->H y=some o->H7 y=some o:=fun y o hy h=>k7 y o hy (s6 _ _ (k05 y o hy h));symm;exists⟨x,Ae,dx,_,_,rfl,x7,Aq,Dy,rfl,?_⟩;refine CK (fun z=>by have:=V.int.inj z;lia) ?_;symm;refine q _ k07 ⟨⟨dx,p,x7,⟨us,SqT.of (k7 _ _ pne (s6 _ _ (k5 _ _ pne p4))),tmk k07⟩,ok,few⟩,g,po⟩
theorem Gn:CI0 5 "Measure" Ae ["self","base","terms"] (Wz K Ae):=Ui (st:=Gj) (ds:= #[.none]) gX gG (by walk_at"k") (by walk_at"k") (by walk_at"k") (by walk_at"dm") (fun _ _ _ _ _ _ _ us hl=>by obtain⟨_,_,_,rfl⟩:=zy hl;exact⟨_,rfl,rfl⟩) Lk
theorem Jv:CM0 2 Ae "at" ["self","k"] (ADN K Ae):=by
 refine cm' ["self","k"] XQ fun nd H vs Q E hr h=>?_;obtain⟨x,k,b,ts,rfl,M,bk,q⟩:=h;obtain⟨dx,p,hx,T⟩:=M.ex;obtain⟨us,hS,hT⟩:=T.ex;exists⟨_,(Ad (Ak (Af Bx (Bc (pv 0) (by rfl)) (Bh (Ue rfl) rfl lA jn2 (Aa (Gf rfl (GD ["self","k"] ["self","k"] rfl rfl (by with_unfolding_all rfl) ∅ rfl ∅ rfl ∅ (by walk_at"fm") (by with_unfolding_all rfl) (by with_unfolding_all rfl)) (Tc (Bc (pv 0) (by rfl))) (fun _ _ _ _=>(Zh (Cz (Ah kO (Aa (pv 0) (Aa (pv 2) Ac)))))) (fun _ _ _ _=>(Et JT (pv 0) Ag))) Ac))))),?_⟩;exists⟨x,Ae,dx,_,_,rfl,hx,Aq,CP,rfl,?_⟩;exists Gv (xM ?_);refine⟨x,Ae,dx,_,_,rfl,hx,Aq,CG,rfl,?_⟩;refine⟨p,rfl,⟨_,hS⟩,Ld lF (by rw[hT.len];exact Ei (by have:=T.few;lia)) (fun D ys hD=>(BR hD _).tup hS) (fun v=>((U7 H v).map fun t=>onT t k).getD false) (fun v=>((U7 H v).map fun t=>V.int t.1).getD .non) (fun y hy D ys Q' hD h=>?_) (fun y hy _ D ys Q' hD h=>?_) (fun D hD=>?_)⟩
 ·obtain⟨a,t,rfl,ht,ha⟩:=hT.mem hy;rw[Jh ha] at h;symm;exact⟨a,k,t,rfl,BR hD _ _ _ ha,T.ok t ht,bk,⟨_,rfl,h⟩⟩
 ·obtain⟨a,t,rfl,ht,ha⟩:=hT.mem hy;rw[Jh ha] at h;symm;refine BJ (SqT.of (BR hD _ _ _ ha)) qp ?_;exact h
 rw[hT.fm (fun t=>onT t k) fun t=>V.int t.1];have e:((ts.filter fun t=>onT t k).map fun t=>V.int t.1)=((ts.filter fun t=>onT t k).map fun t=>t.1).map V.int:=by rw[vk];rfl
 rw[e];symm;exists⟨D,_,rfl,SqL.of Ai,?_⟩;exact q _ (BR hD _)
theorem Ip:CM0 3 Ae "seek" ["self","total"] (yQ K Ae):=by
 refine cm' ["self","total","rest","low","high","middle"] Sy fun nd H vs Q E hr h=>?_;obtain⟨x,n,b,ts,rfl,M,bn,q⟩:=h;obtain⟨dx,p,hx,T⟩:=M.ex;have po:=M.po;have g:=M.gd;have hb0:=g.b0;have hb1:=g.b1;have up:=OJ (base:=b) T.ok;have mono:=fun{j k:Int} (h:j<=k)=>Jy T.ok g.fl h;have per:=AAx (base:=b) T.ok (P:=PER ts) (fun t ht=>by
  have:=Xd T.ok 6 nofun;rw[ke T.few] at this;exact this t ht)
 obtain⟨h1,h2⟩:=LK T.ok 6 nofun;rw[ke T.few] at h1 h2;have h3:=uW (show 6<=6 by decide);have uz:=Le (base:=b) T.ok;have sl:=qy T.ok (Qr h1);have ln:(ts.length:Int)*PER ts<=6*PER ts:=kt (by have:=T.few;lia) (Qr h1);have bm:b*PER ts<=20000*PER ts:=kt hb1 (Qr h1);have us:UP b ts (PER ts)=b*PER ts+SU ts (PER ts):=rfl;have bS:Bt 500 (UP b ts (PER ts)):=(bt_of ⋯ ⋯).mono nofun;clear us bm ln sl;generalize hP:PER ts=P at*
 generalize hS:UP b ts P=S at*
 have m0:=xk n (show S≠0 by lia);have m1:=xb n po;have md:=jm6 n S;refine⟨_,(Ab (Aj 2 (Af DN (pv 1) (Bc (pv 0) (by rfl)))) (Ab (Aj 3 Ag) (Ab (Aj 4 (Bc (pv 0) (by rfl))) (Ab (KY PassesOwn.never (Am Iz (Af Ci (pv 4) (pv 3)) Ag (Ar _)) (Ab (Aj 5 (Af Cj (Af Bx (pv 3) (pv 4)) Ag)) (Ad (JG (BW (Am Nk (DX Cy Aq (pv 0) (Aa (pv 5) Ac)) (pv 2) (Ar _)) (Ad (Aj 3 (pv 5))) (Ad (Aj 4 (pv 5)))))))) (Ad (Ak (Af Bx (Af DY (Af Cj (pv 1) (Bc (pv 0) (by rfl))) (Bc (pv 0) (by rfl))) (pv 3)))))))),?_⟩
 symm;exists⟨x,Ae,dx,_,_,rfl,hx,Aq,Dy,rfl,?_⟩;exists⟨x,Ae,dx,_,_,rfl,hx,Aq,Ck,rfl,?_⟩;refine⟨fun m Z' H'=>BP H H'/\∃(lo hi:Int) (c:Option V),Z'=[some (.ref x),some (.int n),some (.int (n%S)),some (.int lo),some (.int hi),c]/\0<=lo/\lo<hi/\hi<=P/\UP b ts lo<=n%S/\n%S<UP b ts hi/\m=(hi-lo).toNat,
  ⟨_,BP.refl _,0,P,none,rfl,nofun,h1,jj4 _,by rw[uz];exact m0,by rw[hS];exact m1,rfl⟩,?_⟩
 rintro m Z' H1 ⟨s1,lo,hi,c,rfl,l0,lh,hP',u1,u2,rfl⟩;symm;refine Gd (fun cc=>?_) (fun cc=>?_)
 ·exists⟨_,fun Z' H' hh=>hh,?_⟩;generalize hm:(lo+hi)/2=mi;refine G9 (fun Z' H'=>∃i,An3 (i<(hi-lo).toNat) (BP H H') (Ex3 fun(lo hi:Int) (c:Option V)=>An7 (Z'=[some (.ref x),some (.int n),some (.int (n%S)),some (.int lo),some (.int hi),c]) (0<=lo) (lo<hi) (hi<=P) (UP b ts lo<=n%S) (n%S<UP b ts hi) (i=(hi-lo).toNat))) ?_ (fun _ _ h=>by obtain⟨z,h1,h2,a,b,c,h3,h4,h5,h6,h7,h8,h9⟩:=h;exact⟨z,h1,h2,a,b,c,h3,h4,h5,h6,h7,h8,h9⟩);symm;exists⟨x,dx,_,rfl,s1 _ _ hx,rfl,?_⟩;exists⟨x,p,dx,mi,b,ts,_,rfl,s1 _ _ hx,rfl,rfl,T.same s1,hb0,hb1,CJ ⋯ ⋯ nofun,fun H2 s2=>?_⟩;refine Gd (fun c2=>?_) (fun c2=>?_)
  ·symm;exact⟨(hi-mi).toNat,⋯,s1.trans s2,mi,hi,_,rfl,⋯,⋯,hP',c2,u2,rfl⟩
  ·symm;exact⟨(mi-lo).toNat,⋯,s1.trans s2,lo,mi,_,rfl,l0,⋯,⋯,u1,⋯,rfl⟩
 ·have e:hi=lo+1:=⋯
  subst e;symm;exists⟨x,Ae,dx,_,_,rfl,s1 _ _ hx,Aq,Dy,rfl,?_⟩;exists Ep ⟨po,bS.mono nofun⟩ ?_;refine⟨x,Ae,dx,_,_,rfl,s1 _ _ hx,Aq,Ck,rfl,?_⟩;have bP:Bt 64 P:=CJ ⋯ ⋯ nofun;exists Ep ⟨300,64,YQ bn po,bP,nofun⟩ ?_;have e:=per lo (n/S);have e':=per (lo+1) (n/S);rw[show n/S*P+lo=lo+P*(n/S) by rw[je0];lia];refine q _ _ s1 ?_ ?_ ?_
  ·rw[e,je0 (n/S) S];lia
  ·rw[show lo+P*(n/S)+1=lo+1+P*(n/S) by lia,e',je0 (n/S) S];lia
  ·have:=(bP.mul (YQ bn po)).add ((show Bt 64 lo from CJ ⋯ ⋯ nofun).mono (show 64<=64+300 by decide));rw[Int.add_comm];exact this.mono nofun
theorem GF:CM0 1 Ae "period" ["self"] (ABn K Ae):=by
 refine cm' ["self"] Oz fun nd H vs Q E hr h=>?_;obtain⟨x,b,ts,rfl,M,q⟩:=h;obtain⟨dx,p,hx,T⟩:=M.ex;exists⟨_,(Ad (Ak (Bc (pv 0) (by rfl)))),?_⟩;refine⟨x,Ae,dx,_,_,rfl,hx,Aq,Ck,rfl,?_⟩;exact q
theorem Q8:C0 1 "refuse_months" ["lengths","leap"] (sY K):=by
 refine co' ["lengths","leap"] Qo fun nd H vs Q E hr h=>?_;obtain⟨l,lp,ls,ts,rfl,hS,g,q⟩:=h;have l0:=g.l0;have l1:=g.l1;have p0:=g.p0;have p1:=g.p1;have ne:ls≠[]:=fun z=>by rw[z] at l0;simp at l0
 refine⟨_,(Ab (BW (PW.pt (HW (Am Fg (Bh Bs rfl Es xh (Aa (pv 0) Ac)) Ag (Ar _)) (Fx (Am Iz (Bh Bs rfl Es xh (Aa (pv 0) Ac)) (Cg rfl Ls (Du _ _)) (Ar _))))) (Ad Be) Ao) (Ab (BW (PW.pt (HW (Am Fg (Bh (j9 rfl) rfl ABW PyProof.Rows.boot_min (Aa (pv 0) Ac)) Ag (Ar _)) (Fx (Am Iz (Bh (kE rfl) rfl ABX PyProof.Rows.boot_max (Aa (pv 0) Ac)) (Cg rfl J4 (Du _ _)) (Ar _))))) (Ad Be) Ao) (Ad (BW (PW.pt (HW (Am Fg (pv 1) Ag (Ar _)) (Fx (Am Iz (pv 1) (Bh Bs rfl Es xh (Aa (pv 0) Ac)) (Ar _))))) (Ad Be) Ao)))),?_⟩
 symm;refine⟨l,_,rfl,.inl hS,?_⟩;rw[js];symm;exists CK ⋯ ?_;refine⟨l,_,rfl,.inl hS,?_⟩;rw[js];symm;exists CK ⋯ ?_;refine⟨l,ls,rfl,hS,ne,fun m hm _=>?_⟩;have:=g.m m hm;symm;exists CK ⋯ ?_;refine⟨l,ls,rfl,hS,ne,fun m hm _=>?_⟩;have:=g.m m hm;symm;exists CK ⋯ ?_;exists CK ⋯ ?_;refine⟨l,_,rfl,.inl hS,?_⟩;rw[js];symm;exists CK ⋯ ?_;exact q
theorem Ql:Cm ["self","start","lengths","leap","terms"] ["self","start","lengths","leap","terms"] (BK Gs):=by walk_at"s"
theorem J3{ds:Array Value}(F:J1 K "__init__" "Sun.__init__" Gs f fd ds):F0 7 f fd ["self","start","lengths","leap","terms"] (Rb K BZ Ae):=by
 refine F.ok (k:=6) Ql (fun h=>?_) fun nd H vs Q E hr h=>?_
 ·obtain⟨x,dx,ll,s,lp,v,us,ls,ts,rfl,_⟩:=h;rfl
 obtain⟨x,dx,ll,s,lp,v,us,ls,ts,rfl,hx,hl,hT,hv,g,bs,q⟩:=h;have lx:ll≠x:=Eu hl hx (by intro z;cases z);have l0:=g.l0;have l1:=g.l1;have p0:=g.p0;have p1:=g.p1;have f0:=g.f0;have f1:=g.f1;refine⟨_,(Ab (Bv (Ah Q8 (Aa (pv 2) (Aa (pv 3) Ac))))
  (Ab (Dw (pv 0) (pv 1) (by rfl))
  (Ab (Dw (pv 0) (Bm JK rfl Wj jl1 (Aa (pv 2) Ac)) (by rfl))
  (Ab (Dw (pv 0) (pv 3) (by rfl))
  (Ab (Dw (pv 0) (GK Gn (Aa (Bh (Ue rfl) rfl lA jn2 (Aa (pv 2) Ac)) (Aa (pv 4) Ac))) (by rfl))
  (Ab (BW (Am Fg (Ah Gz (Aa (Et Gx (pv 2) (Af Ci (pv 3) Ag) (fun _ _=>rfl)) (Aa (Bc (Bc (pv 0) (by rfl)) (by rfl)) Ac))) Ag (Ar _))
   (Ad Be)
   Ao)
  (Ad (BW (Am Fg (Ah Gz (Aa (Bc (Bc (pv 0) (by rfl)) (by rfl)) (Aa (Bc (Bc (pv 0) (by rfl)) (by rfl)) Ac))) Ag (Ar _))
   (Ad Be)
   Ao)))))))),?_⟩
 symm;exists⟨ll,lp,ls,ts,rfl,SqL.of hl,g,?_⟩;refine⟨x,BZ,dx,[],rfl,hx,Br,IV,nofun,?_⟩;have k1:But x H (upd H x (.ins BZ dx (CW "start" (.int s) []))):=But.upd;have x1:upd H x (.ins BZ dx (CW "start" (.int s) [])) x=some (.ins BZ dx [("start",.int s)]):=Ai;generalize upd H x (.ins BZ dx (CW "start" (.int s) []))=H1 at k1 x1 ⊢;symm;refine⟨ll,_,rfl,.inl ⟨SqL.of (k1 _ _ lx hl),fun p hp=>?_⟩⟩;have px:x≠p:=BX x1 hp;symm;refine⟨x,BZ,dx,_,rfl,by rw[Ax px];exact x1,Br,JV,(by show 1<1000;decide),?_⟩;have k2:But x H1 (upd (upd H1 p (.tup (ls.map V.int))) x (.ins BZ dx (CW "months" (.ref p) [("start",.int s)]))):=fun y o hy h=>by
  rw[Ax hy];exact BR hp _ _ _ h
 have x2:upd (upd H1 p (.tup (ls.map V.int))) x (.ins BZ dx (CW "months" (.ref p) [("start",.int s)])) x=some (.ins BZ dx [("start",.int s),("months",.ref p)]):=Ai;have t2:upd (upd H1 p (.tup (ls.map V.int))) x (.ins BZ dx (CW "months" (.ref p) [("start",.int s)])) p=some (.tup (ls.map V.int)):=by rw[Ax (Ne.symm px),Ai]
 generalize upd (upd H1 p (.tup (ls.map V.int))) x (.ins BZ dx (CW "months" (.ref p) [("start",.int s)]))=H2 at k2 x2 t2 ⊢;symm;refine⟨x,BZ,dx,_,rfl,x2,Br,Im,(by show 2<1000;decide),?_⟩;have k3:But x H2 (upd H2 x (.ins BZ dx (CW "leap" (.int lp) [("start",.int s),("months",.ref p)]))):=But.upd;have x3:upd H2 x (.ins BZ dx (CW "leap" (.int lp) [("start",.int s),("months",.ref p)])) x=some (.ins BZ dx [("start",.int s),("months",.ref p),("leap",.int lp)]):=Ai;generalize upd H2 x (.ins BZ dx (CW "leap" (.int lp) [("start",.int s),("months",.ref p)]))=H3 at k3 x3 ⊢;have k03:But x H H3:=fun y o hy h=>k3 y o hy (k2 y o hy (k1 y o hy h));have l3:=k03 _ _ lx hl;have t3:=k3 _ _ (Ne.symm px) t2;symm;exists⟨ll,ls,rfl,SqL.of l3,?_⟩;refine fun y dy hy hdy ne=>Xy hy hdy ne (hT.but hx .ins k03) ?_ g.ok g.few g.gm g.po fun H4 s4 M4=>⟨rfl,?_⟩
 ·rcases hv with z | ⟨l,z,e⟩
  ·exact .inl z
  ·exact .inr ⟨l,z,k03 _ _ (Eu e hx (by intro z;cases z)) e⟩
 have x4:=s4 _ _ x3;have yx:y≠x:=fun e=>by subst e;rw[x3] at hy;cases hy
 symm;refine⟨x,BZ,dx,_,rfl,x4,Br,CQ,(by show 3<1000;decide),?_⟩;have k5:But x H4 (upd H4 x (.ins BZ dx (CW "years" (.ref y) [("start",.int s),("months",.ref p),("leap",.int lp)]))):=But.upd;have x5:upd H4 x (.ins BZ dx (CW "years" (.ref y) [("start",.int s),("months",.ref p),("leap",.int lp)])) x=some (.ins BZ dx (sF s lp p y)):=Ai;generalize upd H4 x (.ins BZ dx (CW "years" (.ref y) [("start",.int s),("months",.ref p),("leap",.int lp)]))=H5 at k5 x5 ⊢;have M5:=M4.butX x4 .ins yx k5;have t5:=k5 _ _ (Ne.symm px) (s4 _ _ t3);have l5:=k5 _ _ lx (s4 _ _ l3);have k05:∀y o,y≠x->H y=some o->H5 y=some o:=fun y o hy h=>k5 y o hy (s4 _ _ (k03 y o hy h));obtain⟨d5,tp,e5,T5⟩:=M5.ex;have elp:lp-1=(((lp-1).toNat:Nat):Int):=⋯;have hat:atI (ls.map V.int) (lp-1)=some (V.int (ls.getD (lp-1).toNat 0)):=by
  conv=>lhs;rw[elp]
  refine Dz ?_;rw[xa,yv,zh ⋯];rfl
 symm;exists Az (SqL.of l5) hat ?_;exists⟨x,BZ,dx,_,_,rfl,x5,Br,CQ,rfl,?_⟩;exists⟨y,Ae,d5,_,_,rfl,e5,Aq,CG,rfl,?_⟩;exists⟨tp,_,ts,rfl,T5,fun H6 s6=>?_⟩;exists CK ⋯ ?_;have x6:=s6 _ _ x5;have e6:=s6 _ _ e5;exists⟨x,BZ,dx,_,_,rfl,x6,Br,CQ,rfl,?_⟩;exists⟨y,Ae,d5,_,_,rfl,e6,Aq,CP,rfl,?_⟩;exists⟨x,BZ,dx,_,_,rfl,x6,Br,CQ,rfl,?_⟩;exists⟨y,Ae,d5,_,_,rfl,e6,Aq,CG,rfl,?_⟩;exists⟨tp,_,ts,rfl,T5.same s6,fun H7 s7=>?_⟩;exists CK ⋯ ?_;refine q _ (fun y o hy h=>s7 _ _ (s6 _ _ (k05 y o hy h))) ⟨⟨dx,p,y,s7 _ _ x6,SqT.of (s7 _ _ (s6 _ _ t5)),(M5.same s6).same s7⟩,g,bs⟩
theorem Us:CI0 7 "Sun" BZ ["self","start","lengths","leap","terms"] (Rb K BZ Ae):=Ui (st:=Gs) (ds:= #[(.int 1 Gh),.none]) gX gG (by walk_at"k") (by walk_at"k") (by walk_at"k") (by walk_at"dm") (fun _ _ _ _ _ _ _ us hl=>by obtain⟨_,_,_,_,_,rfl⟩:=zx hl;exact⟨_,rfl,rfl⟩) J3
theorem N6:rK P w K mg base CX0 7 "Sun" BZ ["self","start","lengths","leap","terms"] [(.int 1),.non] (Rb K BZ Ae):=kJ (st:=Gs) (ds:= #[(.int 1 Gh),.none]) (dv:=[(.int 1 Gh),.none]) 3 rfl gX gG (by walk_at"k") (by walk_at"k") (by walk_at"k") (by walk_at"dm") (fun _ _ _ _ _ _ _ us hl=>by obtain⟨_,_,_,rfl⟩:=zy hl;exact⟨_,rfl,rfl⟩) (.cons (by first | exact rfl | exact Du _ _ | trivial) (.cons (by first | exact rfl | exact Du _ _ | trivial) .nil)) J3
theorem Ja:CM0 3 BZ "year_start" ["self","year"] (ABi K BZ Ae):=by
 refine cm' ["self","year"] Ow fun nd H vs Q E hr h=>?_;obtain⟨x,n,s,ls,lp,ts,rfl,S,bn,q⟩:=h;obtain⟨dx,p,y,hx,hp,M⟩:=S.ex;obtain⟨d,fs,ey,ly⟩:=M.meth;obtain⟨d2,tp,e2,T2⟩:=M.ex;exists⟨_,(Ad (Ak (Af Bx (Bc (pv 0) (by rfl)) (DX Cy Aq (Bc (pv 0) (by rfl)) (Aa (pv 1) Ac))))),?_⟩;exists⟨x,BZ,dx,_,_,rfl,hx,Br,IV,rfl,?_⟩;exists⟨x,BZ,dx,_,_,rfl,hx,Br,CQ,rfl,?_⟩;exists⟨y,d,fs,rfl,ey,ly.2.2.1,?_⟩;exists⟨y,tp,d2,n,_,ts,_,rfl,e2,rfl,rfl,T2,M.gd.b0,M.gd.b1,bn.mono nofun,fun H' s'=>?_⟩;exact q _ s'
theorem Vn:CM0 4 BZ "year_at" ["self","day"] (ABj K BZ Ae):=by
 refine cm' ["self","day"] Vc fun nd H vs Q E hr h=>?_;obtain⟨x,n,s,ls,lp,ts,rfl,S,bn,q⟩:=h;obtain⟨dx,p,y,hx,hp,M⟩:=S.ex;obtain⟨d,fs,ey,ly⟩:=M.meth;exists⟨_,(Ad (Ak (DX Ip Aq (Bc (pv 0) (by rfl)) (Aa (Af Ci (pv 1) (Bc (pv 0) (by rfl))) Ac)))),?_⟩;exists⟨x,BZ,dx,_,_,rfl,hx,Br,CQ,rfl,?_⟩;exists⟨y,d,fs,rfl,ey,ly.1,?_⟩;exists⟨x,BZ,dx,_,_,rfl,hx,Br,IV,rfl,?_⟩;refine⟨y,n-s,_,ts,rfl,M,(bn.sub S.bs).mono nofun,fun k H' s' u1 u2 bk=>?_⟩;exact q _ _ s' ⋯ ⋯ (((bn.sub S.bs).le (Mg S.gd.ok S.gd.f1 u1 u2)).mono nofun)
theorem MP:CM0 3 BZ "lengths" ["self","year"] (mz K BZ Ae):=by
 refine cm' ["self","year","told"] Vd fun nd H vs Q E hr h=>?_;obtain⟨x,n,s,ls,lp,ts,rfl,S,bn,q⟩:=h;obtain⟨dx,p,y,hx,hp,M⟩:=S.ex;have g:=S.gd;have p0:=g.p0;have p1:=g.p1;have elp:lp-1=(((lp-1).toNat:Nat):Int):=⋯;generalize hi:(lp-1).toNat=i at elp;have il:i<ls.length:=⋯;refine⟨_,(Ab (Aj 2 (Bm YD rfl lB PyProof.Rows.boot_list (Aa (Bc (pv 0) (by rfl)) Ac)))
  (Ab (TX (Af Ci (Af Bx (Et Gx (pv 2) (Af Ci (Bc (pv 0) (by rfl)) Ag) (fun _ _=>rfl)) (DX Jv Aq (Bc (pv 0) (by rfl)) (Aa (pv 1) Ac))) (Bc (Bc (pv 0) (by rfl)) (by rfl))) (Td (pv 2) (Af Ci (Bc (pv 0) (by rfl)) Ag) set_list))
  (Ad (Ak (pv 2))))),?_⟩
 symm;exists⟨x,BZ,dx,_,_,rfl,hx,Br,JV,rfl,?_⟩;refine⟨p,_,rfl,.inr hp,fun l hl=>?_⟩;refine fresh hl fun H1 s1 t1=>?_;have M1:=M.same s1;obtain⟨d1,fs,e1,l1⟩:=M1.meth;obtain⟨d2,tp,e2,T2⟩:=M1.ex;have x1:=s1 _ _ hx;symm;exists⟨x,BZ,dx,_,_,rfl,x1,Br,Im,rfl,?_⟩;rw[elp];have hat:atI (ls.map V.int) (i:Int)=some (V.int (ls.getD i 0)):=by
  refine Dz ?_;rw[xa,yv,zh il];rfl
 exists Az (SqL.of t1) hat ?_;exists⟨x,BZ,dx,_,_,rfl,x1,Br,CQ,rfl,?_⟩;exists⟨y,d1,fs,rfl,e1,l1.2.1,?_⟩;refine⟨y,n,_,ts,rfl,M1,bn.mono nofun,fun H2 s2=>?_⟩;have x2:=s2 _ _ x1;symm;exists⟨x,BZ,dx,_,_,rfl,x2,Br,CQ,rfl,?_⟩;exists⟨y,Ae,d2,_,_,rfl,s2 _ _ e2,Aq,CP,rfl,?_⟩;exists⟨x,BZ,dx,_,_,rfl,x2,Br,Im,rfl,?_⟩;rw[elp];have t2:=s2 _ _ t1;refine NQ t2 (by rw[js];exact il) ?_;symm;have ev:ls.getD i 0+AT ls.sum ts n-ls.sum=ls.getD i 0+ONS ts n:=by
  unfold AT;lia
 rw[ev];have el:(ls.map V.int).set i (V.int (ls.getD i 0+ONS ts n))=(Py ls lp ts n).map V.int:=by
  unfold Py;rw[hi,List.map_set]
 rw[el];refine q l _ hl (fun b o h=>?_) Ai;rw[Ax (BX h hl)];exact s2 _ _ (s1 _ _ h)
theorem aN:CM0 3 BZ "cycle" ["self"] (nD K BZ Ae):=by
 refine cm' ["self","years"] ZX fun nd H vs Q E hr h=>?_;obtain⟨x,s,ls,lp,ts,rfl,S,q⟩:=h;obtain⟨dx,p,y,hx,hp,M⟩:=S.ex;obtain⟨d,fs,ey,ly⟩:=M.meth;obtain⟨d2,tp,e2,T2⟩:=M.ex;have pp:=Ri S.gd.ok S.gd.few;refine⟨_,(Ab (Aj 1 (DG GF Aq (Bc (pv 0) (by rfl)))) (Ad (Ak (By (Aa (pv 1) (Aa (DX Cy Aq (Bc (pv 0) (by rfl)) (Aa (pv 1) Ac)) Ac)))))),?_⟩
 symm;exists⟨x,BZ,dx,_,_,rfl,hx,Br,CQ,rfl,?_⟩;exists⟨y,d,fs,rfl,ey,ly.2.2.2,?_⟩;exists⟨y,_,ts,rfl,M,?_⟩;exists⟨x,BZ,dx,_,_,rfl,hx,Br,CQ,rfl,?_⟩;exists⟨y,d,fs,rfl,ey,ly.2.2.1,?_⟩;exists⟨y,tp,d2,_,_,ts,_,rfl,e2,rfl,rfl,T2,M.gd.b0,M.gd.b1,CJ ⋯ ⋯ nofun,fun H' s'=>?_⟩;refine⟨two,fun c hc=>?_⟩;exact q _ _ (s'.trans (BR hc _)) Ai
theorem MK:C0 2 "refuse_part" ["measure","greatest"] (sX K Ae):=by
 refine co' ["measure","greatest"] VL fun nd H vs Q E hr h=>?_;obtain⟨y,b,g,ts,rfl,M,f,bg,q⟩:=h;obtain⟨d,p,e,T⟩:=M.ex;refine⟨_,(Ab (BW (Am Fg (Ah Gz (Aa (Bc (pv 0) (by rfl)) (Aa (Bc (pv 0) (by rfl)) Ac))) Ag (Ar _)) (Ad Be) Ao) (Ad (BW (Am Iz (Bc (pv 0) (by rfl)) (pv 1) (Ar _)) (Ad Be) Ao))),?_⟩
 symm;exists⟨y,Ae,d,_,_,rfl,e,Aq,CP,rfl,?_⟩;exists⟨y,Ae,d,_,_,rfl,e,Aq,CG,rfl,?_⟩;exists⟨p,_,ts,rfl,T,fun H1 s1=>?_⟩;exists CK ⋯ ?_;exists⟨y,Ae,d,_,_,rfl,s1 _ _ e,Aq,CP,rfl,?_⟩;exists CK ⋯ ?_;exact q _ s1
theorem RN:CI0 3 "Moon" BL ["self","start","days","many"] (Yx K BL Ae):=by
 refine ci' ["self","start","days","many"] Qw fun nd H vs Q E hr h=>?_;obtain⟨x,dx,d,m,s,bd,bm,td,tm,rfl,hx,hd,hm,g,bs,q⟩:=h;refine⟨_,(Ab (Bv (Ah MK (Aa (pv 2) (Aa (Cg rfl J4 (Du _ _)) Ac)))) (Ab (Bv (Ah MK (Aa (pv 3) (Aa (Cg rfl Ls (Du _ _)) Ac)))) (Ab (Dw (pv 0) (pv 1) (by rfl)) (Ab (Dw (pv 0) (pv 2) (by rfl)) (Ad (Dw (pv 0) (pv 3) (by rfl))))))),?_⟩
 symm;exists⟨d,bd,_,td,rfl,hd,g.fd,g.gd,fun H0 s0=>?_⟩;refine⟨m,bm,_,tm,rfl,hm.same s0,g.fm,g.gm,fun H9 s9=>?_⟩;have s09:=s0.trans s9;have hx:=s09 _ _ hx;have hd:=hd.same s09;have hm:=hm.same s09;have dnx:d≠x:=by
  obtain⟨_,_,e,_⟩:=hd.ex;exact Eu e hx (by intro z;injection z with _ _ z;cases z)
 have mnx:m≠x:=by
  obtain⟨_,_,e,_⟩:=hm.ex;exact Eu e hx (by intro z;injection z with _ _ z;cases z)
 symm;refine⟨x,BL,dx,[],rfl,hx,Bj,HD,nofun,?_⟩;have k1:But x H9 (upd H9 x (.ins BL dx (CW "start" (.int s) []))):=But.upd;have x1:upd H9 x (.ins BL dx (CW "start" (.int s) [])) x=some (.ins BL dx [("start",.int s)]):=Ai;generalize upd H9 x (.ins BL dx (CW "start" (.int s) []))=H1 at k1 x1 ⊢;symm;refine⟨x,BL,dx,_,rfl,x1,Bj,Dr,(by show 1<1000;decide),?_⟩;have k2:But x H1 (upd H1 x (.ins BL dx (CW "days" (.ref d) [("start",.int s)]))):=But.upd;have x2:upd H1 x (.ins BL dx (CW "days" (.ref d) [("start",.int s)])) x=some (.ins BL dx [("start",.int s),("days",.ref d)]):=Ai;generalize upd H1 x (.ins BL dx (CW "days" (.ref d) [("start",.int s)]))=H2 at k2 x2 ⊢;symm;refine⟨x,BL,dx,_,rfl,x2,Bj,Dq,(by show 2<1000;decide),?_⟩;have k3:But x H2 (upd H2 x (.ins BL dx (CW "many" (.ref m) [("start",.int s),("days",.ref d)]))):=But.upd;have x3:upd H2 x (.ins BL dx (CW "many" (.ref m) [("start",.int s),("days",.ref d)])) x=some (.ins BL dx (moF s d m)):=Ai;generalize upd H2 x (.ins BL dx (CW "many" (.ref m) [("start",.int s),("days",.ref d)]))=H3 at k3 x3 ⊢;have k03:But x H9 H3:=fun y o hy h=>k3 y o hy (k2 y o hy (k1 y o hy h));symm;refine q _ (fun y o hy h=>k03 y o hy (s09 _ _ h)) ⟨⟨dx,d,m,x3,hd.butX hx .ins dnx k03,hm.butX hx .ins mnx k03⟩,g,bs⟩
theorem JC:CM0 3 BL "year_start" ["self","year"] (wz K BL Ae):=by
 refine cm' ["self","year"] M7 fun nd H vs Q E hr h=>?_;obtain⟨x,n,s,bd,bm,td,tm,rfl,S,bn,q⟩:=h;obtain⟨dx,d,m,hx,D,M⟩:=S.ex;obtain⟨d1,f1,e1,l1⟩:=D.meth;obtain⟨d2,f2,e2,l2⟩:=M.meth;obtain⟨d4,p4,e4,T4⟩:=M.ex;have g:=S.gd;exists⟨_,(Ad (Ak (Af Bx (Bc (pv 0) (by rfl)) (DX Cy Aq (Bc (pv 0) (by rfl)) (Aa (DX Cy Aq (Bc (pv 0) (by rfl)) (Aa (pv 1) Ac)) Ac))))),?_⟩;exists⟨x,BL,dx,_,_,rfl,hx,Bj,HD,rfl,?_⟩;exists⟨x,BL,dx,_,_,rfl,hx,Bj,Dr,rfl,?_⟩;exists⟨d,d1,f1,rfl,e1,l1.2.2.1,?_⟩;exists⟨x,BL,dx,_,_,rfl,hx,Bj,Dq,rfl,?_⟩;exists⟨m,d2,f2,rfl,e2,l2.2.2.1,?_⟩;refine⟨m,p4,d4,n,_,tm,_,rfl,e4,rfl,rfl,T4,M.gd.b0,M.gd.b1,bn.mono nofun,fun H1 s1=>?_⟩;obtain⟨d3,p3,e3,T3⟩:=(D.same s1).ex;symm;exists⟨d,p3,d3,_,_,td,_,rfl,e3,rfl,rfl,T3,D.gd.b0,D.gd.b1,(xq g.okm M.gd.b0 M.gd.b1 g.fwm bn).mono nofun,fun H2 s2=>?_⟩;exact q _ (s1.trans s2)
theorem Uu:CM0 4 BL "year_at" ["self","day"] (xF K BL Ae):=by
 refine cm' ["self","day"] Su fun nd H vs Q E hr h=>?_;obtain⟨x,n,s,bd,bm,td,tm,rfl,S,bn,q⟩:=h;obtain⟨dx,d,m,hx,D,M⟩:=S.ex;obtain⟨d1,f1,e1,l1⟩:=D.meth;obtain⟨d2,f2,e2,l2⟩:=M.meth;have g:=S.gd;have b1:Bt 291 (n-s):=bn.sub S.bs;exists⟨_,(Ad (Ak (DX Ip Aq (Bc (pv 0) (by rfl)) (Aa (DX Ip Aq (Bc (pv 0) (by rfl)) (Aa (Af Ci (pv 1) (Bc (pv 0) (by rfl))) Ac)) Ac)))),?_⟩;exists⟨x,BL,dx,_,_,rfl,hx,Bj,Dq,rfl,?_⟩;exists⟨m,d2,f2,rfl,e2,l2.1,?_⟩;exists⟨x,BL,dx,_,_,rfl,hx,Bj,Dr,rfl,?_⟩;exists⟨d,d1,f1,rfl,e1,l1.1,?_⟩;exists⟨x,BL,dx,_,_,rfl,hx,Bj,HD,rfl,?_⟩;refine⟨d,n-s,_,td,rfl,D,b1.mono nofun,fun j H1 s1 u1 u2 _=>?_⟩;have bj:Bt 291 j:=b1.le (Mg g.okd g.fd u1 u2);symm;refine⟨m,j,_,tm,rfl,M.same s1,bj.mono nofun,fun k H2 s2 v1 v2 _=>?_⟩;have bk:Bt 291 k:=bj.le (Mg g.okm g.fm v1 v2);have m1:=Jy g.okd (Qr g.fd) v1;have m2:=Jy g.okd (Qr g.fd) (show j+1<=UP bm tm (k+1) by lia);refine q _ _ (s1.trans s2) ?_ ?_ (bk.mono nofun)
 ·unfold MYS;lia
 ·unfold MYS;lia
theorem K4:CM0 3 BL "lengths" ["self","year"] (eX K BL Ae):=by
 refine cm' ["self","year","first"] Sv fun nd H vs Q E hr h=>?_;obtain⟨x,n,s,bd,bm,td,tm,rfl,S,bn,q⟩:=h;obtain⟨dx,d,m,hx,D,M⟩:=S.ex;obtain⟨d2,f2,e2,l2⟩:=M.meth;obtain⟨d4,p4,e4,T4⟩:=M.ex;have g:=S.gd;have a0:=Yd g.okm g.fm n;have a1:=rP g.okm g.fwm (b:=bm) n;have gm:=g.gm;refine⟨_,(Ab (Aj 2 (DX Cy Aq (Bc (pv 0) (by rfl)) (Aa (pv 1) Ac)))
  (Ad (Ak (Gf rfl (GD ["self","year","first"] ["self","year","first"] rfl rfl (by with_unfolding_all rfl) ∅ rfl ∅ rfl ∅ (by walk_at"fm") (by with_unfolding_all rfl) (by with_unfolding_all rfl)) (JQ rfl Je (Aa (DX Jv Aq (Bc (pv 0) (by rfl)) (Aa (pv 1) Ac)) Ac)) (fun _ _ _ _=>Ff) (fun _ _ _ _=>(DX (ta:=yJ K (Iu 1) (Str.ofString "days")) Jv Aq (Bc (ta:=Iu 1) (pv 1) (by rfl)) (Aa (Af Bx (pv 3) (pv 0)) Ac))))))),?_⟩
 symm;exists⟨x,BL,dx,_,_,rfl,hx,Bj,Dq,rfl,?_⟩;exists⟨m,d2,f2,rfl,e2,l2.2.2.1,?_⟩;refine⟨m,p4,d4,n,_,tm,_,rfl,e4,rfl,rfl,T4,M.gd.b0,M.gd.b1,bn.mono nofun,fun H1 s1=>?_⟩;have hx1:=s1 _ _ hx;have M1:=M.same s1;have D1:=D.same s1;have bu:Bt 386 (UP bm tm n):=xq g.okm M.gd.b0 M.gd.b1 g.fwm bn;obtain⟨d3,f3,e3,l3⟩:=M1.meth;symm;exists Gv (XR ?_);exists⟨x,BL,dx,_,_,rfl,hx1,Bj,Dq,rfl,?_⟩;exists⟨m,d3,f3,rfl,e3,l3.2.1,?_⟩;refine⟨m,n,_,tm,rfl,M1,bn.mono nofun,fun H2 s2=>?_⟩;have hx2:=s2 _ _ hx1;have D2:=D1.same s2;refine⟨_,rfl,⋯,⋯,?_⟩;refine Kw lG (by rw[js,jb4];exact Ei ⋯) (fun E i ys H3=>H3 E=some (.lst ys)/\BP H2 H3/\ys=((List.range i).map fun j:Nat=>AT bd td (UP bm tm n+(j:Int))).map V.int) (fun E hE=>⟨Ai,BR hE _,rfl⟩)
  (fun E i ys H3 _ ⟨h1,_,h3⟩=>⟨h1,by rw[h3,js,js,jb4];exact qg _,trivial⟩) (fun E i v ys H3 hE hv ⟨h1,h2,h3⟩=>?_) (fun E ys H3 hE ⟨h1,h2,h3⟩=>?_)
 ·rw[xa] at hv;obtain⟨j,hj,rfl⟩:=uu.mp hv;have jl:j<(AT bm tm n).toNat:=jm0.mp (xi hj);obtain rfl:j=i:=by
   have:=zd.mp hj;obtain⟨_,e⟩:=this;rw[List.getElem_range] at e;exact e.symm
  have D3:=D2.same h2;obtain⟨d5,f5,e5,l5⟩:=D3.meth;refine Jl (Gb ?_);rw[jh7];symm;exists⟨x,BL,dx,_,_,rfl,h2 _ _ hx2,Bj,Dr,rfl,?_⟩;exists⟨d,d5,f5,rfl,e5,l5.2.1,?_⟩;refine⟨d,_,_,td,rfl,D3,(bu.add ((show Bt 64 (j:Int) from CJ ⋯ ⋯ nofun).mono (show 64<=386 by decide))).mono (show 387<=400 by decide),fun H4 s4=>?_⟩;refine⟨s4 _ _ h1,Ai,Ez hE (h2.trans s4),?_⟩;rw[h3,List.range_succ,jb7,jb7];rfl
 ·rw[js,jb4] at h3;subst h3;exact q E H3 ((s1.trans s2).free hE) ((s1.trans s2).trans h2) h1
theorem YM:CM0 3 BL "cycle" ["self"] (bH K BL Ae):=by
 refine cm' ["self","years","months","times"] XN fun nd H vs Q E hr h=>?_;obtain⟨x,s,bd,bm,td,tm,rfl,S,q⟩:=h;obtain⟨dx,d,m,hx,D,M⟩:=S.ex;obtain⟨d1,f1,e1,l1⟩:=D.meth;obtain⟨d2,f2,e2,l2⟩:=M.meth;obtain⟨d4,p4,e4,T4⟩:=M.ex;have g:=S.gd;obtain⟨Pm0,Pm1,Pmd⟩:=Ri g.okm g.fwm;obtain⟨Pd0,Pd1,Pdd⟩:=Ri g.okd g.fwd;have M0:=YW (base:=bm) g.okm g.fm Pm0;have MA:=qu (b:=bm) g.okm M.gd.b0 M.gd.b1 g.fwm (k:=PER tm) (K:=PER tm) ⋯ ⋯;refine⟨_,(Ab (Aj 1 (DG GF Aq (Bc (pv 0) (by rfl)))) (Ab (Aj 2 (DX Cy Aq (Bc (pv 0) (by rfl)) (Aa (pv 1) Ac))) (Ab (Aj 3 (Af Cj (DG GF Aq (Bc (pv 0) (by rfl))) (Ah WX (Aa (DG GF Aq (Bc (pv 0) (by rfl))) (Aa (pv 2) Ac))))) (Ad (Ak (By (Aa (Af DY (pv 1) (pv 3)) (Aa (DX Cy Aq (Bc (pv 0) (by rfl)) (Aa (Af DY (pv 2) (pv 3)) Ac)) Ac)))))))),?_⟩
 symm;exists⟨x,BL,dx,_,_,rfl,hx,Bj,Dq,rfl,?_⟩;exists⟨m,d2,f2,rfl,e2,l2.2.2.2,?_⟩;exists⟨m,_,tm,rfl,M,?_⟩;exists⟨x,BL,dx,_,_,rfl,hx,Bj,Dq,rfl,?_⟩;exists⟨m,d2,f2,rfl,e2,l2.2.2.1,?_⟩;refine⟨m,p4,d4,_,_,tm,_,rfl,e4,rfl,rfl,T4,M.gd.b0,M.gd.b1,CJ ⋯ ⋯ nofun,fun H1 s1=>?_⟩;have hx1:=s1 _ _ hx;have D1:=D.same s1;obtain⟨d5,f5,e5,l5⟩:=D1.meth;have eT:moT td bm tm=PER td/(Int.gcd (PER td) (UP bm tm (PER tm)):Int):=rfl;generalize hM:UP bm tm (PER tm)=MM at*
 symm;exists⟨x,BL,dx,_,_,rfl,hx1,Bj,Dr,rfl,?_⟩;exists⟨d,d5,f5,rfl,e5,l5.2.2.2,?_⟩;exists⟨d,_,td,rfl,D1,?_⟩;exists⟨x,BL,dx,_,_,rfl,hx1,Bj,Dr,rfl,?_⟩;exists⟨d,d5,f5,rfl,e5,l5.2.2.2,?_⟩;exists⟨d,_,td,rfl,D1,?_⟩;refine⟨_,_,rfl,CJ ⋯ ⋯ nofun,(bt_of ⋯ ⋯).mono nofun,fun H2 s2=>?_⟩;have g0:=Nu (b:=MM) Pd0;have g1:=pq (b:=MM) Pd0;symm;refine Ep (Io g0 ⋯) ?_;rw[<-eT];have t0:0<=moT td bm tm:=by rw[eT];exact jk5 ⋯ ⋯
 have t1:moT td bm tm<=PER td:=by rw[eT];exact ji8 _ ⋯
 generalize moT td bm tm=T at*
 have D2:=D1.same s2;have hx2:=s2 _ _ hx1;obtain⟨d6,f6,e6,l6⟩:=D2.meth;obtain⟨d7,p7,e7,T7⟩:=D2.ex;have bM:Bt 200 MM:=bt_of ⋯ ⋯;have bT:Bt 64 T:=CJ ⋯ ⋯ nofun;symm;exists Ep ⟨64,64,CJ ⋯ ⋯ nofun,bT,nofun⟩ ?_;exists⟨x,BL,dx,_,_,rfl,hx2,Bj,Dr,rfl,?_⟩;exists⟨d,d6,f6,rfl,e6,l6.2.2.1,?_⟩;refine Ep ⟨200,64,bM,bT,nofun⟩ ?_;exists⟨d,p7,d7,_,_,td,_,rfl,e7,rfl,rfl,T7,D.gd.b0,D.gd.b1,(bM.mul bT).mono nofun,fun H3 s3=>?_⟩;refine⟨two,fun c hc=>?_⟩;exact q _ _ ((s1.trans s2).trans (s3.trans (BR hc _))) Ai
theorem Fo:CM0 5 BZ "date_of" ["self","day"] (Om K BZ BL Ae true):=by
 refine cm' ["self","day","year","rest","month","length"] Ve fun nd H vs Q E hr h=>?_;obtain⟨x,n,d,rfl,hb,S,bn,q⟩:=h;obtain⟨s,ls,lp,ts,rfl⟩:∃s ls lp ts,d=.sun s ls lp ts:=by
  cases d with
  | sun s ls lp ts=>first | exact⟨s,ls,lp,ts,rfl⟩ | cases hb
  | moon s bd td bm tm=>first | exact(Bool.noConfusion hb) | cases hb
 have g:=Bw.good S;refine⟨_,(Ab (Aj 2 (DX Vn Br (pv 0) (Aa (pv 1) Ac))) (Ab (Aj 3 (Af Ci (pv 1) (DX Ja Br (pv 0) (Aa (pv 2) Ac)))) (Ab (Aj 4 Ag) (Ab (Ik PassesOwn.never rfl (HR (DX MP Br (pv 0) (Aa (pv 2) Ac))) (FZ (i:=5) nd rfl (by walk_at"o")) (Ab (BW (Am Fg (pv 3) (pv 5) (Ar _)) (Ad Ze) Ao) (Ab (Aj 3 (Af Ci (pv 3) (pv 5))) (Ad (Aj 4 (Af Bx (pv 4) Ag)))))) (Ad (Ak (By (Aa (pv 2) (Aa (pv 4) (Aa (Af Bx (pv 3) Ag) Ac)))))))))),?_⟩
 symm;obtain⟨dx,fs,e,ml⟩:=G4.meth S;exists⟨x,dx,fs,rfl,e,ml.2.1,?_⟩;refine⟨x,n,s,ls,lp,ts,rfl,S,bn,fun y H1 s1 y0 y1 by'=>?_⟩;have S1:=Bw.same S s1;symm;obtain⟨dx1,fs1,e1,ml1⟩:=G4.meth S1;exists⟨x,dx1,fs1,rfl,e1,ml1.1,?_⟩;refine⟨x,y,s,ls,lp,ts,rfl,S1,by'.mono nofun,fun H2 s2=>?_⟩;have S2:=Bw.same S1 s2;symm;walk_at"f";symm;obtain⟨dx2,fs2,e2,ml2⟩:=G4.meth S2;exists⟨x,dx2,fs2,rfl,e2,ml2.2.2.1,?_⟩;refine⟨x,y,s,ls,lp,ts,rfl,S2,by'.mono nofun,fun l H3 hl s3 t3=>?_⟩;have st:=Bg.step g y;have nn:=Bg.mem g y;have ln:=Bg.len g y;generalize hD:Bg.sun s ls lp ts=d at*
 replace y0:d.Y y<=n:=by rw[<-hD];exact y0
 replace y1:n<d.Y (y+1):=by rw[<-hD];exact y1
 replace t3:H3 l=some (.lst ((d.L y).map V.int)):=by rw[<-hD];exact t3
 have eY:s+UP ls.sum ts y=d.Y y:=by rw[<-hD];rfl
 rw[eY];refine⟨l,rfl,⟨_,SqL.of t3⟩,Kr (xs:=(d.L y).map V.int) (fun i Z' H'=>An4 (H3=H') (i<=(d.L y).length) (PS (d.L y) i<=n-d.Y y) (∃c:Option V,Z'=[some (.ref x),some (.int n),some (.int y),some (.int (n-d.Y y-PS (d.L y) i)),some (.int ((i:Int)+1)),c])) ⟨rfl,vj _,by rw[Lf];lia,none,?_⟩ ?_ ?_ ?_⟩
 ·rw[Lf,Int.sub_zero];rfl
 ·rintro i Z' H' _ ⟨rfl,_⟩;exact SqL.of t3
 ·rintro i v Z' H' hv ⟨rfl,hi,hp,c,rfl⟩;rw[xa] at hv;obtain⟨z,hz,rfl⟩:=uu.mp hv;have il:i<(d.L y).length:=(zd.mp hz).1;have ez:(d.L y).getD i 0=z:=by
   rw[yv,hz];rfl
  have ps:=J0 il;rw[ez] at ps;symm;refine Gd (fun c1=>?_) (fun c1=>?_)
  ·symm;exists oA ?_;refine⟨three,fun p hp'=>?_⟩;refine q p y ((i:Int)+1) _ _ ((s1.trans s2).trans (s3.trans (BR hp' _))) Ai ⟨⋯,⋯,⋯,?_⟩ ?_ by'
   ·rw[show ((i:Int)+1-1).toNat=i by lia,ez];lia
   ·unfold J7;rw[show ((i:Int)+1-1).toNat=i by lia];lia
  ·symm;refine⟨rfl,⋯,⋯,some (.int z),?_⟩;rw[ps,show n-d.Y y-(PS (d.L y) i+z)=n-d.Y y-PS (d.L y) i-z by lia,show((i+1:Nat):Int)+1=(i:Int)+1+1 by lia]<;>rfl
 ·rintro Z' H' ⟨rfl,_,hp,c,rfl⟩;rw[js,YZ] at hp;lia
theorem FN:CM0 5 BL "date_of" ["self","day"] (Om K BZ BL Ae false):=by
 refine cm' ["self","day","year","rest","month","length"] Sw fun nd H vs Q E hr h=>?_;obtain⟨x,n,d,rfl,hb,S,bn,q⟩:=h;obtain⟨s,bd,td,bm,tm,rfl⟩:∃s bd td bm tm,d=.moon s bd td bm tm:=by
  cases d with
  | sun s ls lp ts=>first | exact(Bool.noConfusion hb) | cases hb
  | moon s bd td bm tm=>first | exact⟨s,bd,td,bm,tm,rfl⟩ | cases hb
 have g:=Bw.good S;refine⟨_,(Ab (Aj 2 (DX Uu Bj (pv 0) (Aa (pv 1) Ac))) (Ab (Aj 3 (Af Ci (pv 1) (DX JC Bj (pv 0) (Aa (pv 2) Ac)))) (Ab (Aj 4 Ag) (Ab (Ik PassesOwn.never rfl (HR (DX K4 Bj (pv 0) (Aa (pv 2) Ac))) (FZ (i:=5) nd rfl (by walk_at"o")) (Ab (BW (Am Fg (pv 3) (pv 5) (Ar _)) (Ad Ze) Ao) (Ab (Aj 3 (Af Ci (pv 3) (pv 5))) (Ad (Aj 4 (Af Bx (pv 4) Ag)))))) (Ad (Ak (By (Aa (pv 2) (Aa (pv 4) (Aa (Af Bx (pv 3) Ag) Ac)))))))))),?_⟩
 symm;obtain⟨dx,fs,e,ml⟩:=Eo.meth S;exists⟨x,dx,fs,rfl,e,ml.2.1,?_⟩;refine⟨x,n,s,bd,bm,td,tm,rfl,S,bn,fun y H1 s1 y0 y1 by'=>?_⟩;have S1:=Bw.same S s1;symm;obtain⟨dx1,fs1,e1,ml1⟩:=Eo.meth S1;exists⟨x,dx1,fs1,rfl,e1,ml1.1,?_⟩;refine⟨x,y,s,bd,bm,td,tm,rfl,S1,by'.mono nofun,fun H2 s2=>?_⟩;have S2:=Bw.same S1 s2;symm;walk_at"f";symm;obtain⟨dx2,fs2,e2,ml2⟩:=Eo.meth S2;exists⟨x,dx2,fs2,rfl,e2,ml2.2.2.1,?_⟩;refine⟨x,y,s,bd,bm,td,tm,rfl,S2,by'.mono nofun,fun l H3 hl s3 t3=>?_⟩;have st:=Bg.step g y;have nn:=Bg.mem g y;have ln:=Bg.len g y;generalize hD:Bg.moon s bd td bm tm=d at*
 replace y0:d.Y y<=n:=by rw[<-hD];exact y0
 replace y1:n<d.Y (y+1):=by rw[<-hD];exact y1
 replace t3:H3 l=some (.lst ((d.L y).map V.int)):=by rw[<-hD];exact t3
 have eY:MYS s bd td bm tm y=d.Y y:=by rw[<-hD];rfl
 rw[eY];refine⟨l,rfl,⟨_,SqL.of t3⟩,Kr (xs:=(d.L y).map V.int) (fun i Z' H'=>An4 (H3=H') (i<=(d.L y).length) (PS (d.L y) i<=n-d.Y y) (∃c:Option V,Z'=[some (.ref x),some (.int n),some (.int y),some (.int (n-d.Y y-PS (d.L y) i)),some (.int ((i:Int)+1)),c])) ⟨rfl,vj _,by rw[Lf];lia,none,?_⟩ ?_ ?_ ?_⟩
 ·rw[Lf,Int.sub_zero];rfl
 ·rintro i Z' H' _ ⟨rfl,_⟩;exact SqL.of t3
 ·rintro i v Z' H' hv ⟨rfl,hi,hp,c,rfl⟩;rw[xa] at hv;obtain⟨z,hz,rfl⟩:=uu.mp hv;have il:i<(d.L y).length:=(zd.mp hz).1;have ez:(d.L y).getD i 0=z:=by
   rw[yv,hz];rfl
  have ps:=J0 il;rw[ez] at ps;symm;refine Gd (fun c1=>?_) (fun c1=>?_)
  ·symm;exists oA ?_;refine⟨three,fun p hp'=>?_⟩;refine q p y ((i:Int)+1) _ _ ((s1.trans s2).trans (s3.trans (BR hp' _))) Ai ⟨⋯,⋯,⋯,?_⟩ ?_ by'
   ·rw[show ((i:Int)+1-1).toNat=i by lia,ez];lia
   ·unfold J7;rw[show ((i:Int)+1-1).toNat=i by lia];lia
  ·symm;refine⟨rfl,⋯,⋯,some (.int z),?_⟩;rw[ps,show n-d.Y y-(PS (d.L y) i+z)=n-d.Y y-PS (d.L y) i-z by lia,show((i+1:Nat):Int)+1=(i:Int)+1+1 by lia]<;>rfl
 ·rintro Z' H' ⟨rfl,_,hp,c,rfl⟩;rw[js,YZ] at hp;lia
theorem Jb:CM0 6 An "date_of" ["self","day"] (fB K ⟨Bl,BZ,BL,Ae,An,Bd,BV,[Bq,Ba,Ay,Aw,Bb]⟩):=by
 refine cm' ["self","day"] O8 fun nd H vs Q E hr h=>?_;obtain⟨x,n,k,a,b,rfl,S,bn,q⟩:=h;obtain⟨dx,o,nw,lo,fn,hx,ha,hb⟩:=S;refine⟨_,(Ab (BW (Am Fg (pv 1) (Bc (pv 0) (by rfl)) (Ar _)) (Ad (Ak (Ga (k:=5) (Eg.cons Br Fo nofun (Eg.cons Bj FN nofun Eg.nil)) (hr.mono nofun) (Bc (pv 0) (by rfl)) (Aa (pv 1) Ac)))) Ao) (Ad (Ak (Ga (k:=5) (Eg.cons Br Fo nofun (Eg.cons Bj FN nofun Eg.nil)) (hr.mono nofun) (Bc (pv 0) (by rfl)) (Aa (pv 1) Ac))))),?_⟩
 symm;exists⟨x,An,dx,_,_,rfl,hx,CZ,JZ,rfl,?_⟩;by_cases c1:n<k
 ·exists IK c1 ?_;refine⟨x,An,dx,_,_,rfl,hx,CZ,JW,rfl,?_⟩;obtain⟨C,dy,fs,sp,mem,e,lk,use⟩:=Bw.dt ha;exists⟨o,C,dy,fs,sp,mem,rfl,e,lk,?_⟩;exact use ha bn (rJ.of (Bw.good ha) fun p y m r H1 s1 t1 dd=>q p y m r H1 s1 t1 (.inl ⟨c1,dd⟩))
 ·exists CK c1 ?_;refine⟨x,An,dx,_,_,rfl,hx,CZ,JX,rfl,?_⟩;obtain⟨C,dy,fs,sp,mem,e,lk,use⟩:=Bw.dt hb;exists⟨nw,C,dy,fs,sp,mem,rfl,e,lk,?_⟩;exact use hb bn (rJ.of (Bw.good hb) fun p y m r H1 s1 t1 dd=>q p y m r H1 s1 t1 (.inr ⟨⋯,dd⟩))
theorem G3:CI0 6 "Change" An ["self","old","new","day"] (tU K ⟨Bl,BZ,BL,Ae,An,Bd,BV,[Bq,Ba,Ay,Aw,Bb]⟩):=by
 refine ci' ["self","old","new","day"] NK fun nd H vs Q E hr h=>?_;obtain⟨H0,x,dx,o,nw,a,b,k,rfl,hx,hdx,ne,eH,ha,hb,bk,lat,q⟩:=h;have s0:BP H0 H:=by rw[eH];exact vI hx hdx
 have x0:H x=some (.ins An dx []):=by rw[eH];exact Ai
 clear eH;have bk0:Bt 290 k:=bk.mono nofun;have bk1:Bt 290 (k-1):=by
  have big:(1:Nat)<=2^288:=nofun;have two:(2:Nat)^290=4*2^288:=nofun;unfold Bt at*
  lia
 refine⟨_,(Ab (Dw (pv 0) (pv 1) (by rfl)) (Ab (Dw (pv 0) (pv 2) (by rfl)) (Ab (Dw (pv 0) (pv 3) (by rfl)) (Ab (Dw (pv 0) (Ga (k:=5) (Eg.cons Br Fo nofun (Eg.cons Bj FN nofun Eg.nil)) (hr.mono nofun) (pv 1) (Aa (Af Ci (pv 3) Ag) Ac)) (by rfl)) (Ab (Dw (pv 0) (Ga (k:=5) (Eg.cons Br Fo nofun (Eg.cons Bj FN nofun Eg.nil)) (hr.mono nofun) (pv 2) (Aa (pv 3) Ac)) (by rfl)) (Ad (BW (Am (zZ hr.units0) (Bc (pv 0) (by rfl)) (Bc (pv 0) (by rfl)) (Ar _)) (Ad Be) Ao))))))),?_⟩
 symm;refine⟨x,An,dx,[],rfl,x0,CZ,JW,nofun,?_⟩;have s1:BP H0 (upd H x (.ins An dx (CW "old" (.ref o) []))):=Ez hx s0;have x1:upd H x (.ins An dx (CW "old" (.ref o) [])) x=some (.ins An dx [("old",.ref o)]):=Ai;generalize upd H x (.ins An dx (CW "old" (.ref o) []))=H1 at s1 x1 ⊢;symm;refine⟨x,An,dx,_,rfl,x1,CZ,JX,(by show 1<1000;decide),?_⟩;have s2:BP H0 (upd H1 x (.ins An dx (CW "new" (.ref nw) [("old",.ref o)]))):=Ez hx s1;have x2:upd H1 x (.ins An dx (CW "new" (.ref nw) [("old",.ref o)])) x=some (.ins An dx [("old",.ref o),("new",.ref nw)]):=Ai;generalize upd H1 x (.ins An dx (CW "new" (.ref nw) [("old",.ref o)]))=H2 at s2 x2 ⊢;symm;refine⟨x,An,dx,_,rfl,x2,CZ,JZ,(by show 2<1000;decide),?_⟩;have s3:BP H0 (upd H2 x (.ins An dx (CW "day" (.int k) [("old",.ref o),("new",.ref nw)]))):=Ez hx s2;have x3:upd H2 x (.ins An dx (CW "day" (.int k) [("old",.ref o),("new",.ref nw)])) x=some (.ins An dx [("old",.ref o),("new",.ref nw),("day",.int k)]):=Ai;generalize upd H2 x (.ins An dx (CW "day" (.int k) [("old",.ref o),("new",.ref nw)]))=H3 at s3 x3 ⊢;symm;obtain⟨C,dy,fs,sp,mem,e,lk,use⟩:=Bw.dt (Bw.same ha s3);exists⟨o,C,dy,fs,sp,mem,rfl,e,lk,?_⟩;refine use (Bw.same ha s3) bk1 fun p y m r H4 s4 t4 d4 e4 _=>?_;clear C dy fs sp mem e lk use;have s04:=s3.trans s4;symm;refine⟨x,An,dx,_,rfl,s4 _ _ x3,CZ,G7,(by show 3<1000;decide),?_⟩;have s5:BP H0 (upd H4 x (.ins An dx (CW "last_old" (.ref p) [("old",.ref o),("new",.ref nw),("day",.int k)]))):=Ez hx s04;have x5:upd H4 x (.ins An dx (CW "last_old" (.ref p) [("old",.ref o),("new",.ref nw),("day",.int k)])) x=some (.ins An dx [("old",.ref o),("new",.ref nw),("day",.int k),("last_old",.ref p)]):=Ai;have px:p≠x:=Eu t4 (s4 _ _ x3) (by intro z;cases z);have t5:upd H4 x (.ins An dx (CW "last_old" (.ref p) [("old",.ref o),("new",.ref nw),("day",.int k)])) p=some (.tup [.int y,.int m,.int r]):=by rw[Ax px];exact t4
 generalize upd H4 x (.ins An dx (CW "last_old" (.ref p) [("old",.ref o),("new",.ref nw),("day",.int k)]))=H5 at s5 x5 t5 ⊢;symm;obtain⟨C,dy,fs,sp,mem,e,lk,use⟩:=Bw.dt (Bw.same hb s5);exists⟨nw,C,dy,fs,sp,mem,rfl,e,lk,?_⟩;refine use (Bw.same hb s5) bk0 fun p' y' m' r' H6 s6 t6 d6 e6 _=>?_;clear C dy fs sp mem e lk use;have s06:=s5.trans s6;have t56:=s6 _ _ t5;symm;refine⟨x,An,dx,_,rfl,s6 _ _ x5,CZ,Gy,(by show 4<1000;decide),?_⟩;have s7:BP H0 (upd H6 x (.ins An dx (CW "first_new" (.ref p') [("old",.ref o),("new",.ref nw),("day",.int k),("last_old",.ref p)]))):=Ez hx s06;have x7:upd H6 x (.ins An dx (CW "first_new" (.ref p') [("old",.ref o),("new",.ref nw),("day",.int k),("last_old",.ref p)])) x=some (.ins An dx (cF o nw k p p')):=Ai;have px':p'≠x:=Eu t6 (s6 _ _ x5) (by intro z;cases z);have t7:upd H6 x (.ins An dx (CW "first_new" (.ref p') [("old",.ref o),("new",.ref nw),("day",.int k),("last_old",.ref p)])) p=some (.tup [.int y,.int m,.int r]):=by rw[Ax px];exact t56
 have t7':upd H6 x (.ins An dx (CW "first_new" (.ref p') [("old",.ref o),("new",.ref nw),("day",.int k),("last_old",.ref p)])) p'=some (.tup [.int y',.int m',.int r']):=by rw[Ax px'];exact t6
 generalize upd H6 x (.ins An dx (CW "first_new" (.ref p') [("old",.ref o),("new",.ref nw),("day",.int k),("last_old",.ref p)]))=H7 at s7 x7 t7 t7' ⊢;symm;exists⟨x,An,dx,_,_,rfl,x7,CZ,Gy,rfl,?_⟩;refine⟨x,An,dx,_,_,rfl,x7,CZ,G7,rfl,?_⟩;refine⟨p',p,[y',m',r'],[y,m,r],rfl,rfl,SqT.of t7',SqT.of t7,rfl,?_⟩;rw[zu (lat _ _ _ _ _ _ ⟨d4,e4⟩ ⟨d6,e6⟩)];symm;exists Dp ?_;exact q _ s7 ⟨dx,o,nw,p,p',x7,Bw.same ha s7,Bw.same hb s7⟩
theorem Uw:Mr P w K mg base (CX1 P w) 1 An "cycle" ["self"] (fD An BV):=by
 refine ACi ["self"] S7 fun nd H vs Q E hr h T=>?_;obtain⟨x,rfl,q⟩:=h;exists⟨_,(Ad (oG T rfl X5 rfl (Aa Al Ac))),?_⟩;exact⟨(by show 1<=sizeLine;decide),q⟩
theorem Q7:C0 2 "refuse_wanted" ["month","day","step"] sO:=by
 refine co' ["month","day","step"] Qn (len:=by intro _ _ _ _ h;obtain⟨m,d,st,rfl,_⟩:=h;cases m<;>cases d<;>rfl) fun nd H vs Q E hr h=>?_;obtain⟨m,d,st,rfl,m0,d0,st1,q⟩:=h;refine⟨_,(Ab (JG (BW (Am ux (pv 0) Gw (Ar _)) (Ad (Bv (Ah DR (Aa (pv 0) Ac)))) Ao)) (Ab (BW (Am CN (pv 1) Ag (Ar _)) (Ad Be) Ao) (Ad (Bv (Ah DR (Aa (pv 2) Ac)))))),?_⟩
 symm;refine G9 (fun Z' H'=>H'=H/\Z'=[some (oI m),some (oI d),some (.int st)]) ?_ ?_
 ·symm;exists⟨rfl,?_⟩;cases m with
  | none=>
   exists Dp ?_;exact⟨rfl,rfl⟩
  | some i=>
   exists Gb ?_;exact⟨i,rfl,m0 i rfl,⟨rfl,rfl⟩⟩
 rintro Z' H' ⟨rfl,rfl⟩;cases d with
 | none=>
  symm;exists CK (fun e=>nomatch e) ?_;exact⟨st,rfl,st1,q⟩
 | some i=>
  symm;exists CK (fun e=>d0 (yi some (V.int.inj e))) ?_;exact⟨st,rfl,st1,q⟩
theorem RD:C0 1 "days_of_month" ["first","length","day"] tY:=by
 refine co' ["first","length","day","place"] Qs (len:=by intro _ _ _ _ h;obtain⟨f,n,d,rfl,_⟩:=h;cases d<;>rfl) fun nd H vs Q E hr h=>?_;obtain⟨f,n,d,rfl,n0,n1,q⟩:=h;refine⟨_,(Ab (BW (Am Jm (pv 2) Gw (Ar _)) (Ad (Ak (cL rfl rfl lB rfl Je (Aa (pv 0) (Aa (Af Bx (pv 0) (pv 1)) Ac))))) Ao) (Ab (JG (Aj 3 (Fy (Am Iz (pv 2) Ag (Ar _)) (Af Ci (pv 2) Ag) (Af Bx (pv 1) (pv 2))))) (Ab (BW (PW.pt (HW (Am Fg (pv 3) Ag (Ar _)) (Fx (Am xQ (pv 3) (pv 1) (Ar _))))) (Ad (Ak (Ea Ac))) Ao) (Ad (Ak (Ea (Aa (Af Bx (pv 0) (pv 3)) Ac))))))),?_⟩
 cases d with
 | none=>
  symm;exists⟨rfl,?_⟩;exists Gb ?_;refine⟨f,f+n,rfl,⋯,⋯,fun l hl=>?_⟩;refine q l _ hl (BR hl _) ?_;rw[Ai,show f+n-f=n by lia];unfold YB;rw[vk];rfl
 | some i=>
  rw[show oI (some i)=V.int i from rfl];symm;exists⟨rfl,?_⟩;exists Dp ?_;refine G9 (fun Z' H'=>H'=H/\Z'=[some (.int f),some (.int n),some (.int i),some (.int (plD n i))]) ?_ ?_
  ·symm;refine Gd (fun h=>?_) (fun h=>?_)
   ·rw[show plD n i=i-1 from xo h];symm;exact⟨rfl,rfl⟩
   ·rw[show plD n i=n+i from xp h];symm;exact⟨rfl,rfl⟩
  rintro Z' H' ⟨rfl,rfl⟩;simp only[YB] at q;generalize plD n i=pl at*
  symm;refine Gd (fun h1=>Gb ?_) (fun h1=>?_)
  ·rw[xo (.inl h1)] at q;symm;refine⟨vj _,fun l hl=>?_⟩;exact q l _ hl (BR hl _) Ai
  symm;refine Gd (fun h2=>?_) (fun h2=>?_)
  ·rw[xo (.inr h2)] at q;symm;refine⟨vj _,fun l hl=>?_⟩;exact q l _ hl (BR hl _) Ai
  ·rw[xp (fun z=>z.elim h1 h2)] at q;symm;refine⟨(by show 1<=sizeLine;decide),fun l hl=>?_⟩;exact q l _ hl (BR hl _) Ai
theorem Up:C0 4 "days_of_year" ["calendar","year","month","day"] (tX K BZ BL Ae):=by
 refine co' ["calendar","year","month","day","told","first","number","length"] Sg (len:=by intro _ _ _ _ h;obtain⟨x,d,y,m,i,rfl,_⟩:=h;cases m<;>cases i<;>rfl) fun nd H vs Q E hr h=>?_;obtain⟨x,d,y,m,i,rfl,S,by',q⟩:=h;have g:=Bw.good S;have ln:=Bg.len g y;have lm:=Bg.mem g y;have nn:∀n∈d.L y,0<=n:=fun n hn=>(lm n hn).1;refine⟨_,(Ab (Aj 4 (Ea Ac)) (Ab (Aj 5 (Ga (k:=3) (Eg.cons Br Ja nofun (Eg.cons Bj JC nofun Eg.nil)) (hr.mono nofun) (pv 0) (Aa (pv 1) Ac))) (Ab (Aj 6 Ag) (Ab (Ik PassesOwn.never rfl (HR (Ga (k:=3) (Eg.cons Br MP nofun (Eg.cons Bj K4 nofun Eg.nil)) (hr.mono nofun) (pv 0) (Aa (pv 1) Ac))) (FZ (i:=7) nd rfl (by walk_at"o")) (Ab (JG (BW (PW.pt (HW (Am Jm (pv 2) Gw (Ar _)) (Fx (Am CN (pv 2) (pv 6) (Ar _))))) (Ad (Bv (GP vc jc7 jc8 JR (pv 4) (Aa (Ah RD (Aa (pv 5) (Aa (pv 7) (Aa (pv 3) Ac)))) Ac)))) Ao)) (Ab (Aj 5 (Af Bx (pv 5) (pv 7))) (Ad (Aj 6 (Af Bx (pv 6) Ag)))))) (Ad (Ak (pv 4))))))),?_⟩
 symm;refine⟨vj _,fun t0 ht0=>?_⟩;have s1:=BR ht0 (.lst []);have e1:upd H t0 (.lst []) t0=some (.lst []):=Ai;have S1:=Bw.same S s1;generalize upd H t0 (.lst [])=H1 at s1 e1 S1 ⊢;symm;obtain⟨C,dx,fs,sp,mem,e,lk,use⟩:=S1.ys;exists⟨x,C,dx,fs,sp,mem,rfl,e,lk,?_⟩;refine use S1 by' fun H2 s2=>?_
 have S2:=Bw.same S1 s2;have e2:=s2 _ _ e1;have s12:=s1.trans s2;symm;exists TV (QD ?_);obtain⟨C',dx',fs',sp',mem',e',lk',use'⟩:=S2.le;exists⟨x,C',dx',fs',sp',mem',rfl,e',lk',?_⟩;refine use' S2 by' fun l H3 hl s3 t3=>?_
 have e3:=s3 _ _ e2;have s13:=s12.trans s3;have lt:l≠t0:=fun z=>by rw[z,e2] at hl;cases hl
 generalize d.L y=L at*
 generalize d.Y y=Y0 at*
 refine⟨l,rfl,⟨_,SqL.of t3⟩,Kr (xs:=L.map V.int) (fun k Z' H'=>An4 (BP H H') (H' l=some (.lst (L.map V.int))) (k<=L.length) (∃(v:Option V),H' t0=some (.lst ((yrL (L.take k) Y0 1 m i).map V.int))/\Z'=[some (.ref x),some (.int y),some (oI m),some (oI i),some (.ref t0),some (.int (Y0+PS L k)),some (.int (1+(k:Int))),v])) ⟨s13,t3,vj _,none,e3,by rw[Lf,jh5];rfl⟩ ?_ ?_ ?_⟩
 ·rintro k Z' H' hk ⟨_,t,_⟩;exact SqL.of t
 ·rintro k v0 Z' H' hv ⟨sH,tl,k1,v,td,rfl⟩;rw[xa] at hv;obtain⟨n,hn,rfl⟩:=uu.mp hv;have kl:k<L.length:=(zd.mp hn).1;have hnm:=lm n (xi hn);have e5:=lE hn Y0 m i;have eP:PS L (k+1)=PS L k+n:=by
   rw[J0 kl,yv,hn];rfl
  have l1:=aX (L.take k) Y0 1 m i fun n hn=>nn n (List.mem_of_mem_take hn);have l2:=Wq (M:=1006) lm;have l3:=gr (f:=Y0+PS L k) hnm.1 i;have l4:(L.take k).sum<=L.sum:=by
   have:=Lh nn (show k<=L.length by lia) (qg _)
   rwa [YZ] at this
  generalize yrL (L.take k) Y0 1 m i=ds at*
  symm;refine G9 (fun Z' H'=>An4 (BP H H') (H' l=some (.lst (L.map V.int))) (H' t0=some (.lst ((yrL (L.take (k+1)) Y0 1 m i).map V.int))) (Z'=[some (.ref x),some (.int y),some (oI m),some (oI i),some (.ref t0),some (.int (Y0+PS L k)),some (.int (1+(k:Int))),some (.int n)])) ?_ ?_
  ·have ext:(m=none\/m=some (1+(k:Int)))->∀(l5:Addr) (H5:Hp) (s5:BP H' H5) (t5:H5 l5=some (.lst ((YB (Y0+PS L k) n i).map V.int))) {Q2:VK},(∀(H4:Hp),BP H H4->H4 l=some (.lst (L.map V.int))->H4 t0=some (.lst ((yrL (L.take (k+1)) Y0 1 m i).map V.int))->Q2 .non H4)->Rf (.ref t0) [.ref l5] H5 Q2:=fun hm l5 H5 s5 t5 {Q2} hQ=>by
    have td5:=s5 _ _ td;have tl5:=s5 _ _ tl;refine⟨t0,l5,_,_,rfl,rfl,td5,t5,?_,?_⟩
    ·rw[js,js,sizeLine_eq];lia
    ·rw[<-jb7];refine hQ _ (fun r o ho=>?_) ?_ ?_
     ·rw[Ax fun z=>by rw[z,ht0] at ho;cases ho];exact s5 _ _ (sH _ _ ho)
     ·rw[Ax lt];exact tl5
     ·rw[Ai,e5,xo hm]
   have skip:¬(m=none\/m=some (1+(k:Int)))->BP H H'/\H' l=some (.lst (L.map V.int))/\H' t0=some (.lst ((yrL (L.take (k+1)) Y0 1 m i).map V.int)):=fun hm=>⟨sH,tl,by rw[e5,xp hm,xy];exact td⟩;cases m with
   | none=>
    symm;exists⟨rfl,?_⟩;exists Gb (Gb ?_);exists PL rfl td ?_;refine⟨_,n,i,rfl,hnm.1,⋯,fun l5 H5 h5 s5 t5=>?_⟩;refine FW ?_;refine ext (.inl rfl) l5 H5 s5 t5 fun H4 a1 a2 a3=>?_;exact⟨a1,a2,a3,rfl⟩
   | some j=>
    symm;exists⟨rfl,?_⟩;exists Dp ?_;refine Gd (fun z=>?_) (fun z=>?_)
    ·have z':some j=some (1+(k:Int)):=yi some (V.int.inj z);symm;exists PL rfl td ?_;refine⟨_,n,i,rfl,hnm.1,⋯,fun l5 H5 h5 s5 t5=>?_⟩;refine FW ?_;refine ext (.inr z') l5 H5 s5 t5 fun H4 a1 a2 a3=>?_;exact⟨a1,a2,a3,rfl⟩
    ·symm;obtain⟨a1,a2,a3⟩:=skip (fun w=>by rcases w with w | w;cases w;exact z (yi V.int (xz w)));exact⟨a1,a2,a3,rfl⟩
  rintro Z' H4 ⟨sH,tl,td,rfl⟩;symm;refine⟨sH,tl,⋯,some (.int n),td,?_⟩;rw[show (1:Int)+((k+1:Nat):Int)=1+(k:Int)+1 by lia,eP,<-Int.add_assoc]<;>rfl
 rintro Z' H' ⟨sH,tl,k1,v,td,rfl⟩;symm;rw[js,jc9] at td;exact q t0 _ ht0 sH td
theorem nM:Cm ["calendar","month","day","step","rest","cycle","years","size","days","year"] ["calendar","month","day","step","rest"] (BK XJ):=by walk_at"s"
theorem pB{ds:Array Value}(F:J1 K "dated" "dated" XJ f fd ds):Ds P w K mg base (CX1 P w) 5 f fd ["calendar","month","day","step","rest"] (Yy K ⟨Bl,BZ,BL,Ae,An,Bd,BV,[Bq,Ba,Ay,Aw,Bb]⟩):=by
 refine F.okE (k:=4) nM (fun h=>?_) fun nd H vs Q E hr h T=>?_
 ·obtain⟨x,m,i,rfl,_⟩:=h;cases m<;>cases i<;>rfl
 obtain⟨x,m,i,rfl,m0,i0,h⟩:=h;refine⟨_,(Ab (Bv (Ah Q7 (Aa (pv 1) (Aa (pv 2) (Aa (pv 3) Ac))))) (Ab (Aj 5 (cJ (k:=3) T (Eg.cons Br (Mr.toE aN) nofun (Eg.cons Bj (Mr.toE YM) nofun (Eg.cons CZ Uw nofun Eg.nil))) (hr.mono nofun) (pv 0))) (Ab (Aj 6 (Ah Uq (Aa (pxT 5) (Aa (pv 3) Ac)))) (Ab (Aj 7 (Af DY (Af Cj (pv 6) (pxT 5)) (pxT 5))) (Ab (Bv (Ah Fq (Aa (pv 7) Ac))) (Ab (Aj 8 (Ea Ac)) (Ab (Ik (by first | exact PassesOwn.«leaving» | exact PassesOwn.looking | with_unfolding_all passes_own) rfl (jU rfl Je (Aa (Af DN (pv 4) (pv 3)) (Aa (pv 6) (Aa (pv 3) Ac)))) (FZ (i:=9) nd rfl (by walk_at"o")) (Ad (Bv (GP vc jc7 jc8 JR (pv 8) (Aa (Ah Up (Aa (pv 0) (Aa (pv 9) (Aa (pv 1) (Aa (pv 2) Ac))))) Ac))))) (Ad (Ak (Ah Uk (Aa (pv 7) (Aa (pv 8) Ac)))))))))))),?_⟩
 symm;exists⟨m,i,1,rfl,m0,i0,nofun,?_⟩;rcases h with ⟨g,S,sm,q⟩ | ⟨⟨a,b,k,S⟩,q⟩
 rotate_left
 ·obtain⟨dx,o,nw,lo,fn,hx,_⟩:=S;exact⟨x,An,dx,_,_,.tail _ (.tail _ (.head _)),rfl,hx,rfl,x,rfl,q H (BP.refl H)⟩
 have gd:=Bw.good S;have Y0:=sm.y0;have Y1:=sm.y1;have D0:=sm.d0;have D1:=sm.d1;obtain⟨C,dx,fs,sp,mem0,e,lk,use⟩:=Bw.cyc S;have mem:(C,sp)∈[(BZ,nD K BZ Ae),(BL,bH K BL Ae),(An,fD An BV)]:=by
  rcases qh.mp mem0 with z | z
  ·exact z ▸ .head _
  ·exact zv.mp z ▸ .tail _ (.head _)
 refine⟨x,C,dx,fs,sp,mem,rfl,e,lk,?_⟩;refine use S fun c H1 s1 t1=>?_;clear mem0 mem C dx fs sp e lk use;have S1:=Bw.same S s1;generalize hY:g.cy.1=Y at*
 generalize hD:g.cy.2=D at*
 symm;exists BJ (SqT.of t1) at0 ?_;refine⟨_,_,rfl,⋯,⋯,CJ ⋯ ⋯ nofun,CJ ⋯ ⋯ nofun,fun H2 s2=>?_⟩;have lc:Eb Y 1=Y:=by rw[V7 ⋯ nofun];exact gU nofun ⋯ (Int.one_dvd Y)
 rw[lc];symm;exists BJ (SqT.of (s2 _ _ t1)) at0 ?_;exists Ep (Io ⋯ ⋯) ?_;exists BJ (SqT.of (s2 _ _ t1)) at1 ?_;rw[Int.ediv_self ⋯];exists zJ ?_;rw[jh6];exists⟨_,rfl,⋯,?_⟩;refine⟨vj _,fun l hl=>?_⟩;have hlH:H l=none:=(s1.trans s2).free hl;refine fresh hl fun H3 s3 t3=>?_;have S3:=Bw.same (Bw.same S1 s2) s3;symm;exists TV (fQ ?_);obtain⟨n,hn⟩:∃n:Nat,(n:Int)=Y:=⟨Y.toNat,⋯⟩;refine⟨0,Y,1,rfl,⋯,⋯,bI ⋯ ⋯ ⋯ ⋯ ⋯ ⋯,n,by rw[XS nofun,xo ⋯];lia,dC (fun k Z' H'=>An3 (BP H H') (k<=n) (∃(v:Option V),An4 ((dtL g m i k).length<=30000*k) (H' l=some (.lst ((dtL g m i k).map V.int))) (Bw K BZ BL Ae H' x g) (Z'=[some (.ref x),some (oI m),some (oI i),some (.int 1),some (.int 0),some (.ref c),some (.int Y),some (.int D),some (.ref l),v]))) ⟨s1.trans (s2.trans s3),⋯,none,qg _,t3,S3,rfl⟩ ?_ ?_⟩
 ·rintro k Z' H' hk ⟨sH,k1,v,dl,tl,SH,rfl⟩;have ek:(0:Int)+(k:Int)*1=(k:Int):=⋯
  have ln:=Bg.len gd (k:Int);have lm:=Bg.mem gd (k:Int);have le:=aX (g.L (k:Int)) (g.Y (k:Int)) 1 m i fun n hn=>(lm n hn).1;have l2:=Wq (M:=1006) lm;have lN:(dtL g m i (k+1)).length<=30000*(k+1):=by
   show(dtL g m i k++_).length<=_;rw[qq];lia
  symm;exists PL rfl tl ?_;rw[ek];refine⟨x,g,_,m,i,rfl,SH,CJ ⋯ ⋯ nofun,fun l5 H5 h5 s5 t5=>?_⟩;refine FW ?_;have tl5:=s5 _ _ tl;refine⟨l,l5,_,_,rfl,rfl,tl5,t5,?_,?_⟩
  ·rw[js,js,sizeLine_eq,<-qq];exact zn lN ⋯
  ·rw[<-jb7];refine⟨fun u o ho=>?_,⋯,_,lN,Ai,Bw.but (Bw.same SH s5) tl5 But.upd,rfl⟩;rw[Ax fun z=>by rw[z,hlH] at ho;cases ho];exact s5 _ _ (sH _ _ ho)
 ·rintro Z' H' ⟨sH,_,v,dl,tl,SH,rfl⟩;symm;refine⟨l,_,D,rfl,SqL.of tl,⋯,⋯,fun p b H6 s6 t6 B=>?_⟩;exact q p b H6 (sH.trans s6) t6 (by rw[show Y.toNat=n by lia];exact B)
theorem wB:C1 5 "dated" ["calendar","month","day","step","rest"] (Yy K ⟨Bl,BZ,BL,Ae,An,Bd,BV,[Bq,Ba,Ay,Aw,Bb]⟩):=ceD (st:=XJ) (ds:= #[.none,.none,(.int 1 Yn),(.int 0 Ym)]) (by walk_at"dg") (fun _ _ _ _ _ _ _ us hl=>by obtain⟨_,_,_,_,_,rfl⟩:=zx hl;exact⟨_,rfl,rfl⟩) pB
theorem ABt:Cm ["turn","day"] ["turn","day"] (BK yz):=by walk_at"s"
theorem ACR(F:Fun K "on" "on" yz f fd):F0 1 f fd ["turn","day"] (ABo K):=by
 refine F.ok (k:=0) ABt (fun h=>?_) fun nd H vs Q E hr h=>?_
 ·obtain⟨a,n,d,b,rfl,_⟩:=h;rfl
 obtain⟨a,n,d,b,rfl,hS,h0,q⟩:=h;exists⟨_,(Ad (Ak (Iw CN (Af Kc (Af Xh (pxT 0) (Af DN (pv 1) (pxT 0))) Ag) Ag (Ar _)))),?_⟩;exists BJ hS at1 ?_;refine BJ hS at0 ?_;exists Ep h0 ?_;exists Ep (show (0:Int)<=d%n from xk d ⋯) ?_;rw[wL];exact q
theorem aG:C0 1 "on_rounds" ["turn","day"] (ABo K):=co (st:=yz) (by walk_at"g") (by walk_at"b") fun F=>ACR F
theorem Oq:Cm ["self","kept","made_of","words"] ["self","kept","made_of","words"] (BK Hz):=by walk_at"s"
theorem PX{ds:Array Value}(F:J1 K "__init__" "Rule.__init__" Hz f fd ds):F0 1 f fd ["self","kept","made_of","words"] (Wy K Bd):=by
 refine F.ok (k:=0) Oq (fun h=>?_) fun nd H vs Q E hr h=>?_
 ·obtain⟨x,p,pm,pw,C,dx,rfl,_⟩:=h;rfl
 obtain⟨x,p,pm,pw,C,dx,rfl,hx,R,q⟩:=h;refine⟨_,(Ab (Dw (pv 0) (Fy (Am Jm (pv 1) Gw (Ar _)) (By (Aa Ag (Aa Ag Ac))) (pv 1)) (by rfl)) (Ab (Dw (pv 0) (Fy (Am Jm (pv 2) Gw (Ar _)) (By Ac) (pv 2)) (by rfl)) (Ad (Dw (pv 0) (Fy (Am Jm (pv 3) Gw (Ar _)) (By (Aa Al Ac)) (pv 3)) (by rfl))))),?_⟩
 symm;symm;exists⟨rfl,fX (CK (fun e=>nomatch e) ?_)⟩;exists⟨x,C,dx,[],rfl,hx,R.cl,R.k,nofun,?_⟩;symm;exists⟨rfl,fX (CK (fun e=>nomatch e) ?_)⟩;exists⟨x,C,dx,_,rfl,Ai,R.cl,R.m,(show 1<1000 by decide),?_⟩;symm;exists⟨rfl,fX (CK (fun e=>nomatch e) ?_)⟩;exists⟨x,C,dx,_,rfl,Ai,R.cl,R.w,(show 2<1000 by decide),?_⟩;refine q _ (fun y o ne e=>?_) Ai;rw[Ax ne,Ax ne,Ax ne];exact e
theorem Fi:ABR P w K mg base 1 "Rule" ["self","kept","made_of","words"] (Wy K Bd):=qd (st:=Hz) (ds:= #[.none,.none,.none]) gX gG (by walk_at"k") (by walk_at"k") (by walk_at"k") (by walk_at"db") (fun _ _ _ _ _ _ _ us hl=>by obtain⟨_,_,_,_,rfl⟩:=ACW hl;exact⟨_,rfl,rfl⟩) PX
theorem W5:Cm ["self"] ["self"] (BK KQ):=by walk_at"s"
theorem Xl{k d:Nat}(F:Fun K "turn" "Rule.turn" KQ f fd)(cr:Eg P w K mg base CX0 k "turn" ["self"] ([Bq,Ba,Ay,Aw,Bb].map fun C=>(C,(spR (K8 K Bd [Bq,Ba,Ay,Aw,Bb])) d)))(hk:1<=k):F0 (k+1) f fd ["self"] ((spR (K8 K Bd [Bq,Ba,Ay,Aw,Bb])) (d+1)):=by
 refine F.ok (k:=k) W5 (fun h=>?_) fun nd H vs Q E hr h=>?_
 ·obtain⟨_,x,n,b,rfl,_⟩:=h;rfl
 obtain⟨_,x,n,b,rfl,R,q⟩:=h;obtain⟨C,dx,p,pm,pw,hC,rc,hx,hp⟩:=R.ex;exists⟨_,(Ad (Ak (Bc (pv 0) (by rfl)))),?_⟩;exact⟨x,C,dx,_,_,rfl,hx,rc.cl,rc.k,rfl,q p hp⟩
theorem Fz:Eg P w K mg base CX0 2 "turn" ["self"] ([Bq,Ba,Ay,Aw,Bb].map fun C=>(C,(spR (K8 K Bd [Bq,Ba,Ay,Aw,Bb])) 1)):=NP (k0:=1) (Cs:=[Bq,Ba,Ay,Aw,Bb]) (sp:=(spR (K8 K Bd [Bq,Ba,Ay,Aw,Bb]))) (st:=KQ) (all_cons ⟨Ph,by walk_at"h"⟩ (all_cons ⟨Mm,by walk_at"h"⟩ (all_cons ⟨Ku,by walk_at"h"⟩ (all_cons ⟨Jr,by walk_at"h"⟩ (all_cons ⟨Ml,by walk_at"h"⟩ all_nil))))) (by walk_at"b") (fun _ _ _ _ h=>Yu h) (fun d _ _ CL F=>Xl F CL (ja2 _ _)) 1
theorem bK:Cm ["self","day"] ["self","day"] (BK Ox):=by walk_at"s"
theorem cT{k d:Nat}(F:Fun K "on" "Rule.on" Ox f fd)(cr:Eg P w K mg base CX0 k "on" ["self","day"] ([Bq,Ba,Ay,Aw,Bb].map fun C=>(C,(spR (eQ K Bd [Bq,Ba,Ay,Aw,Bb])) d)))(hk:2<=k):F0 (k+1) f fd ["self","day"] ((spR (eQ K Bd [Bq,Ba,Ay,Aw,Bb])) (d+1)):=by
 refine F.ok (k:=k) bK (fun h=>?_) fun nd H vs Q E hr h=>?_
 ·obtain⟨_,x,n,d,b,rfl,_⟩:=h;rfl
 obtain⟨_,x,n,d,b,rfl,R,q⟩:=h;obtain⟨C,dx,p,pm,pw,hC,rc,hx,hp⟩:=R.ex;exists⟨_,(Ad (Ak (Ah aG (Aa (Bc (pv 0) (by rfl)) (Aa (pv 1) Ac))))),?_⟩;exists⟨x,C,dx,_,_,rfl,hx,rc.cl,rc.k,rfl,?_⟩;exact⟨p,n,d,b,rfl,SqT.of hp,R.n0,q⟩
theorem aO:Eg P w K mg base CX0 3 "on" ["self","day"] ([Bq,Ba,Ay,Aw,Bb].map fun C=>(C,(spR (eQ K Bd [Bq,Ba,Ay,Aw,Bb])) 1)):=NP (k0:=2) (Cs:=[Bq,Ba,Ay,Aw,Bb]) (sp:=(spR (eQ K Bd [Bq,Ba,Ay,Aw,Bb]))) (st:=Ox) (all_cons ⟨Ph,by walk_at"h"⟩ (all_cons ⟨Mm,by walk_at"h"⟩ (all_cons ⟨Ku,by walk_at"h"⟩ (all_cons ⟨Jr,by walk_at"h"⟩ (all_cons ⟨Ml,by walk_at"h"⟩ all_nil))))) (by walk_at"b") (fun _ _ _ _ h=>Yu h) (fun d _ _ CL F=>cT F CL (ja2 _ _)) 1
theorem VF:Cm ["self","told","rule","word"] ["self"] (BK Jj):=by walk_at"s"
theorem Vj{k d:Nat}(F:Fun K "shown" "Rule.shown" Jj f fd)(cr:Eg P w K mg base CX0 k "shown" ["self"] ([Bq,Ba,Ay,Aw,Bb].map fun C=>(C,(Mv K ⟨Bl,BZ,BL,Ae,An,Bd,BV,[Bq,Ba,Ay,Aw,Bb]⟩) d)))(hk:1<=k):F0 (k+1) f fd ["self"] ((Mv K ⟨Bl,BZ,BL,Ae,An,Bd,BV,[Bq,Ba,Ay,Aw,Bb]⟩) (d+1)):=by
 refine F.ok (k:=k) VF (fun h=>?_) fun nd H vs Q E hr h=>?_
 ·obtain⟨x,p,g,rfl,_⟩:=h;rfl
 obtain⟨x,p,g,rfl,T,dp,ln,q⟩:=h;obtain⟨C,dx,qk,pm,pw,ks,hC,rc,hx,hm,hw,ek,hk⟩:=T.node;obtain⟨w0,vs,ew,wl,ef⟩:=p.ws_eq;rw[ew,qo] at hw;have kl:ks.length=p.kids.length:=by rw[<-ek,js]
 refine⟨_,(Ab (Aj 1 (Ea (Aa (Et Km (Bc (pv 0) (by rfl)) Ag (fun _ _=>rfl)) Ac)))
  (Ab (Ik PassesOwn.never rfl (fj (c:=true) (d:=true) rfl wV (Aa (Bc (pv 0) (by rfl)) (Aa (Cu yr (Bc (pv 0) (by rfl)) (Dm Ag) Ef) Ac))) (oW rfl (NT (FZ (i:=2) nd rfl (by walk_at"o")) (NT (FZ (i:=3) nd rfl (by walk_at"o")) fu)))
   (Ad (Bv (GP vc jc7 jc8 JR (pv 1) (Aa (Ea (Aa (FJ cr (pv 2)) (Aa (pv 3) Ac))) Ac)))))
  (Ad (Ak (GP ve PySem.F.slot_str_join PySem.F.type_str_join gO Al (Aa (pv 1) Ac)))))),?_⟩
 symm;exists⟨x,C,dx,_,_,rfl,hx,rc.cl,rc.w,rfl,?_⟩;exists BJ (v:=.str (sW w0)) (SqT.of hw) FP ?_;refine⟨by show 1<=sizeLine;decide,fun l hl=>?_⟩;exists fresh hl fun H1 s1 t1=>?_;exists TV (fP ?_);exists⟨x,C,dx,_,_,rfl,s1 _ _ hx,rc.cl,rc.m,rfl,?_⟩;exists⟨x,C,dx,_,_,rfl,s1 _ _ hx,rc.cl,rc.w,rfl,?_⟩;refine⟨pw,_,rfl,SqT.of (s1 _ _ hw),ACg,fun p5 hp5=>?_⟩;rw[ADe];exists fresh hp5 fun H2 s2 t2=>?_;refine⟨pm,p5,rfl,⟨_,_,SqT.of ((s1.trans s2) _ _ hm),SqT.of t2⟩,qF (xs:=ks.map fun k=>.ref k.1) (ys:=vs.map fun w=>V.str (sW w)) (fun i Z' H'=>An4 (BP H H') (H' p5=some (.tup (vs.map fun w=>V.str (sW w)))) (H' l=some (.lst ((p.told w0 vs i).map fun w=>V.str (sW w)))) (Ex2 fun v1 v2=>Z'=[some (.ref x),some (.ref l),v1,v2])) ⟨s1.trans s2,t2,s2 _ _ t1,none,none,rfl⟩ ?_ ?_ ?_⟩
 ·rintro i Z' H' _ ⟨s,tp,_⟩;exact⟨SqT.of (s _ _ hm),SqT.of tp⟩
 ·rintro i v0 y T5 Z' H' hx' hy' hT ⟨sH,tp,tl,v1,v2,rfl⟩;rw[xa] at hx' hy';obtain⟨u,hu,rfl⟩:=uu.mp hx';obtain⟨w5,hw5,rfl⟩:=uu.mp hy';have um:=xi hu;have uk:p.kids[i]?=some u.2:=by rw[<-ek,xa,hu];rfl
  refine fresh hT fun H3 s3 t3=>?_;have uT:=(hk u um).same (sH.trans s3);obtain⟨C',dx',_,_,_,_,hC',_,hx2,_⟩:=uT.node;have ud:=PT.kid_deep (xi uk);exists uL (SqT.of t3) rfl ?_;exists PL rfl (s3 _ _ tl) ?_;exists⟨u.1,C',dx',_,_,vi.mpr ⟨C',hC',rfl⟩,rfl,hx2,rfl,?_⟩;exists⟨u.1,u.2,g,rfl,uT,⋯,zn (PT.kid_tx (xi uk)) ln,fun H5 s5=>?_⟩;refine⟨(by show 2<=sizeLine;decide),fun l6 hl6=>?_⟩;refine fresh hl6 fun H6 s6 t6=>?_;refine FW ?_;have s56:=s3.trans (s5.trans s6);have le:=p.told_len w0 vs i;refine⟨l,l6,_,_,rfl,rfl,s56 _ _ tl,t6,?_,?_⟩
  ·rw[js,sizeLine_eq];show(p.told w0 vs i).length+2<=_;lia
  ·refine⟨fun r o ho=>?_,?_,?_,_,_,rfl⟩
   ·rw[Ax fun z=>by rw[z,hl] at ho;cases ho];exact s56 _ _ (sH _ _ ho)
   ·rw[Ax fun z=>by rw[z] at tp;rw[tl] at tp;cases tp];exact s56 _ _ tp
   ·rw[Ai,PT.told_succ uk hw5,jb7];rfl
 ·rintro Z' H' ⟨s,tp,tl,v1,v2,rfl⟩;rw[js,js,wl,kl,Nat.min_self] at tl;have ej:Txt.join "" ((p.told w0 vs p.kids.length).map sW)=sW p.tx:=Gr (by
   rw[Bp,<-ef];refine(vR _).trans ?_;rw[vk]
   congr 1
   exact(jo0 fun w _=>Bp w).trans (List.map_id _))
  symm;exists J2 ?_;exists⟨rfl,?_⟩;refine⟨_,l,(p.told w0 vs p.kids.length).map sW,rfl,rfl,SqL.of (by rw[vk];exact tl),?_,?_⟩
  ·have e3:(Str.ofString "").length=0:=∅
   have e4:∀zs:List Wd,((zs.map sW).map (·.length)).sum=zs.flatten.length:=fun zs=>by
    induction zs with
    | nil=>rfl
    | cons a r i=>rw[qo,qo,yy,i,jb3,qq];show(sW a).length+_=_;rw[Do]
   rw[e3,e4,ef];lia
  ·show Q (.str (Txt.join "" _)) H';rw[ej];exact q _ s
theorem QW:Eg P w K mg base CX0 61 "shown" ["self"] ([Bq,Ba,Ay,Aw,Bb].map fun C=>(C,(Mv K ⟨Bl,BZ,BL,Ae,An,Bd,BV,[Bq,Ba,Ay,Aw,Bb]⟩) 60)):=NP (k0:=1) (Cs:=[Bq,Ba,Ay,Aw,Bb]) (sp:=(Mv K ⟨Bl,BZ,BL,Ae,An,Bd,BV,[Bq,Ba,Ay,Aw,Bb]⟩)) (st:=Jj) (all_cons ⟨Ph,by walk_at"h"⟩ (all_cons ⟨Mm,by walk_at"h"⟩ (all_cons ⟨Ku,by walk_at"h"⟩ (all_cons ⟨Jr,by walk_at"h"⟩ (all_cons ⟨Ml,by walk_at"h"⟩ all_nil))))) (by walk_at"b") (fun _ _ _ _ h=>Ww h) (fun d _ _ CL F=>Vj F CL (ja2 _ _)) 60
theorem Uy:CI0 3 "All" Bq ["self"] (ABq K Bd [Bq,Ba,Ay,Aw,Bb] Bq):=by
 refine ci' ["self"] S9 fun nd H vs Q E hr h=>?_;obtain⟨x,g,rfl,⟨dx,hx⟩,q⟩:=h;exists⟨_,(Ad (Bv (KZ Fi (Aa (pv 0) (Aa (By (Aa Ag (Aa Ag Ac))) (Aa (By Ac) (Aa (By (Aa Al Ac)) Ac))))))),?_⟩;refine⟨Wn,fun p hp=>?_⟩;refine fresh hp fun H1 s1 t1=>?_;have t1:H1 p=some (.tup [.int ((PT.lf).sz g),.int ((1:Nat):Int)]):=t1;symm;refine⟨(by show 0<=sizeLine;decide),fun pm hpm=>?_⟩;exists fresh hpm fun H2 s2 t2=>?_;refine⟨(by show 1<=sizeLine;decide),fun pw hpw=>?_⟩;refine fresh hpw fun H3 s3 t3=>?_;have t3:H3 pw=some (.tup ((PT.lf).ws.map fun w=>.str (sW w))):=by rw[t3,sgS];rfl
 have s23:=s2.trans s3;have hx3:=(s1.trans s23) _ _ hx;symm;exact⟨x,p,pm,pw,Bq,dx,rfl,hx3,WN,fun H' k e=>q H' (k.pre (s1.trans s23)) (Rj [] (by walk_at"mm") WN hx3 (s23 _ _ t1) (s3 _ _ t2) t3 k e (by show(0:Int)<1;decide) (by show(1:Int)<=150000;decide) (by show 1<2^(1:Int).toNat;decide) rfl rfl fun _ z=>nomatch z)⟩
theorem QT:C0 1 "each_text" ["step","rest"] ABr:=by
 refine co' ["step","rest","least_rest"] ZV fun nd H vs Q E hr h=>?_;obtain⟨n,r,rfl,n0,n1,q⟩:=h;refine⟨_,(Ab (Aj 2 (Af DN (pv 1) (pv 0))) (Ad (Ak (gA (Ie Al (Ie (Te hr.toN (pv 0)) (Ie Al (Ie (Te hr.toN (pv 2)) oN)))))))),?_⟩
 symm;have m0:=xk r (show n≠0 by lia);have m1:=xb r (show 0<n by lia);have g1:n.natAbs.log2<1920:=ACU ⋯ ⋯;have g2:(r%n).natAbs.log2<1920:=ACU ⋯ ⋯;refine fV 0 nofun nofun fun l1=>nU _ l1 nofun rfl g1 fun l2=>fV _ l2 nofun fun l3=>nU _ l3 nofun rfl g2 fun l4=>fU (fits l4 nofun) ?_;have e:Str.empty++Str.ofString "each "++Cr n++Str.ofString " from "++Cr (r%n)=sW (Lx n (r%n)):=Gr (by rw[HS,HS,HS,HS,Bp];rfl);rw[e];refine q ?_;have e1:(sg "each ").length=5:=∅;have e2:(sg " from ").length=6:=∅;have e3:(nW n).length<=1921:=by unfold nW;rw[Dn];exact Ko g1
 have e4:(nW (r%n)).length<=1921:=by unfold nW;rw[Dn];exact Ko g2
 unfold Lx;simp only[qq];lia
theorem RP:CI0 3 "Each" Ba ["self","size","rest"] (ABp K Bd [Bq,Ba,Ay,Aw,Bb] Ba):=by
 refine ci' ["self","size","rest","kept"] Qx fun nd H vs Q E hr h=>?_;obtain⟨x,n,r,g,rfl,n0,n1,⟨dx,hx⟩,q⟩:=h;refine⟨_,(Ab (Aj 3 (Ah Uk (Aa (pv 1) (Aa (Ea (Aa (pv 2) Ac)) Ac)))) (Ad (Bv (KZ Fi (Aa (pv 0) (Aa (pv 3) (Aa (By Ac) (Aa (By (Aa (Ah QT (Aa (pv 1) (Aa (pv 2) Ac))) Ac)) Ac)))))))),?_⟩
 symm;refine⟨(by show 1<=sizeLine;decide),fun l hl=>?_⟩;refine fresh hl fun H0 s0 t0=>?_;have t0:H0 l=some (.lst ([r].map V.int)):=t0;symm;refine⟨l,[r],n,rfl,SqL.of t0,⋯,⋯,fun p b H1 s1 t1 B=>?_⟩;have s1:=s0.trans s1;symm;refine⟨(by show 0<=sizeLine;decide),fun pm hpm=>?_⟩;exists fresh hpm fun H2 s2 t2=>?_;exists⟨n,r,rfl,n0,n1,fun _=>?_⟩;refine⟨(by show 1<=sizeLine;decide),fun pw hpw=>?_⟩;refine fresh hpw fun H3 s3 t3=>?_;have t3:H3 pw=some (.tup ((PT.each n (r%n)).ws.map fun w=>.str (sW w))):=by rw[t3,<-PT.tx_each];rfl
 have s23:=s2.trans s3;have hx3:=(s1.trans s23) _ _ hx;have B':RB n [r%n] b:=⟨B.lt,fun d=>by
  rw[B.bit d];unfold hit;simp[Int.sub_emod]⟩
 symm;exact⟨x,p,pm,pw,Ba,dx,rfl,hx3,Ua,fun H' k e=>q H' (k.pre (s1.trans s23)) (Rj [] (by walk_at"mm") Ua hx3 (s23 _ _ t1) (s3 _ _ t2) t3 k e (by show 0<n;lia) (by show n<=150000;lia) B.lt B' rfl fun _ z=>nomatch z)⟩
theorem MF:C0 1 "wanted_text" ["number"] ABk:=by
 refine co' ["number"] VG fun nd H vs Q E hr h=>?_;obtain⟨m,rfl,hm,q⟩:=h;refine⟨_,(Ad (Ak (Fy (Am Jm (pv 0) Gw (Ar _)) Al (Bm Bf rfl Ex qr (Aa (pv 0) Ac))))),?_⟩;cases m with
 | none=>
  symm
  try refine Mi ?_
  symm;exists⟨rfl,?_⟩;exists Gb ?_;rw[sgS];exact q ∅
 | some j=>
  rw[show oI (some j)=V.int j from rfl];symm
  try refine Mi ?_
  symm;exists⟨rfl,?_⟩;exists Dp ?_;refine⟨_,rfl,hm j rfl,?_⟩;show Q (.str (Cr j)) H;rw[show Cr j=sW (Dj (some j)) from (FT _).symm];exact q (by show(cpl (Cr j)).length<=_;rw[Dn];exact Ko (hm j rfl))
theorem YL:C0 2 "dated_text" ["name","month","day","step","rest"] ABs:=by
 refine co' ["name","month","day","step","rest","words"] XH (len:=by intro _ _ _ _ h;obtain⟨nm,m,d,rfl,_⟩:=h;cases m<;>cases d<;>rfl) fun nd H vs Q E hr h=>?_;obtain⟨nm,m,d,rfl,tzl,hm,hd,q⟩:=h;rw[PT.tx_date0] at q;refine⟨_,(Ab (Aj 5 (Ea (Aa Al (Aa (pv 0) (Aa (Ah MF (Aa (pv 1) Ac)) (Aa (Ah MF (Aa (pv 2) Ac)) Ac)))))) (Ab (JG (BW (Am Iz (pv 3) Ag (Ar _)) (Ad (Bv (GP vc jf3 jf4 JS (pv 5) (Aa (Ah QT (Aa (pv 3) (Aa (pv 4) Ac))) Ac)))) Ao)) (Ad (Ak (GP ve PySem.F.slot_str_join PySem.F.type_str_join gO Al (Aa (pv 5) Ac)))))),?_⟩
 symm;exists⟨m,rfl,hm,fun t1l=>?_⟩;exists⟨d,rfl,hd,fun t2l=>?_⟩;refine⟨four,fun l hl=>?_⟩;refine fresh hl fun H1 s1 e1=>?_;have e1:H1 l=some (.lst (([Str.ofString "date",sW nm,sW (Dj m),sW (Dj d)]:List Str).map V.str)):=e1;symm;have eb:(Str.ofString " ").length=1:=∅;have e4:(Str.ofString "date").length=4:=∅;refine G9 (fun Z' H'=>H1=H'/\Ex5 fun(w0 w1 w2 w3 w4:V)=>Z'=[some w0,some w1,some w2,some w3,some w4,some (.ref l)]) ?_ ?_
 ·symm;exists CK nofun ?_;exact⟨rfl,_,_,_,_,_,rfl⟩
 rintro Z' H2 ⟨rfl,w0,w1,w2,w3,w4,rfl⟩;symm;exists J2 ?_;exists⟨rfl,?_⟩;refine⟨_,l,[Str.ofString "date",sW nm,sW (Dj m),sW (Dj d)],rfl,rfl,SqL.of e1,?_,?_⟩
 ·show((Str.ofString "date").length+((sW nm).length+((sW (Dj m)).length+((sW (Dj d)).length+0))))+4*_<=_;rw[eb];simp only[Do];lia
 ·have ez:Txt.join " " [Str.ofString "date",sW nm,sW (Dj m),sW (Dj d)]=sW (Ub nm m d):=Gr (by
   rw[vU,Bp];simp[GQ,Ub,dsg,bsg,Bp];rfl)
  rw[ez];exact q _ s1
theorem Mx:Cm ["self","name","calendar","month","day","step","rest","kept"] ["self","name","calendar","month","day","step","rest"] (BK G8):=by walk_at"s"
theorem Nm{ds:Array Value}(F:J1 K "__init__" "Dated.__init__" G8 f fd ds):Ds P w K mg base (CX1 P w) 6 f fd ["self","name","calendar","month","day","step","rest"] (xG K ⟨Bl,BZ,BL,Ae,An,Bd,BV,[Bq,Ba,Ay,Aw,Bb]⟩ Ay):=by
 refine F.okE (k:=5) Mx (fun h=>?_) fun nd H vs Q E hr h T=>?_
 ·obtain⟨x,y,nm,m,d,rfl,_⟩:=h;cases m<;>cases d<;>rfl
 obtain⟨x,y,nm,m,d,rfl,tz,m0,hm,d0,hd,h⟩:=h;refine⟨_,(Ab (Aj 7 (Fb T wB (hr.mono nofun) rfl (Aa (pv 2) (Aa (pv 3) (Aa (pv 4) (Aa (pv 5) (Aa (pv 6) Ac))))))) (Ad (Bv (KZ Fi (Aa (pv 0) (Aa (pv 7) (Aa (By Ac) (Aa (By (Aa (Ah YL (Aa (pv 1) (Aa (pv 3) (Aa (pv 4) (Aa (pv 5) (Aa (pv 6) Ac)))))) Ac)) Ac)))))))),?_⟩
 symm;rcases h with ⟨g,S,sm,⟨dx,hx⟩,q⟩ | ⟨S,q⟩
 rotate_left
 ·exact⟨y,m,d,rfl,m0,d0,.inr ⟨S,q⟩⟩
 exists⟨y,m,d,rfl,m0,d0,.inl ⟨g,S,sm,fun p c H1 s1 t1 B=>?_⟩⟩;refine⟨(by show 0<=sizeLine;decide),fun pm hpm=>?_⟩;exists fresh hpm fun H2 s2 t2=>?_;exists⟨nm,m,d,rfl,tz,hm,hd,fun Hy sy=>?_⟩;refine⟨(by show 1<=sizeLine;decide),fun pw hpw=>?_⟩;refine fresh hpw fun H3 s3 t3=>?_;have t3:H3 pw=some (.tup ((PT.date nm m d).ws.map fun w=>.str (sW w))):=t3;have s3:=sy.trans s3;have s23:=s2.trans s3;have hx3:=(s1.trans s23) _ _ hx;symm;exact⟨x,p,pm,pw,Ay,dx,rfl,hx3,QL,fun H' k e=>q H' (k.pre (s1.trans s23)) (Rj [] (by walk_at"mm") QL hx3 (s23 _ _ t1) (s3 _ _ t2) t3 k e (by have:=sm.d0;show 0<g.cy.2;lia) (by have:=sm.d1;show g.cy.2<=150000;lia) B.lt B rfl fun _ z=>nomatch z)⟩
theorem Px:aV P w K mg base (CX1 P w) 6 "Dated" Ay ["self","name","calendar","month","day","step","rest"] (xG K ⟨Bl,BZ,BL,Ae,An,Bd,BV,[Bq,Ba,Ay,Aw,Bb]⟩ Ay):=Ui (st:=G8) (ds:= #[.none,.none,(.int 1 KC),(.int 0 J9)]) gX gG (by walk_at"k") (by walk_at"k") (by walk_at"k") (by walk_at"dm") (fun _ _ _ _ _ _ _ us hl=>by obtain⟨_,_,_,_,_,_,_,rfl⟩:=ACV hl;exact⟨_,rfl,rfl⟩) Nm
theorem N8:CI0 6 "Either" Aw ["self","R","S"] (m9 K Bd [Bq,Ba,Ay,Aw,Bb] Aw .or):=by
 refine ci' ["self","R","S"] M8 fun nd H vs Q E hr h=>?_;obtain⟨x,r,t,p,p',g,rfl,T1,T2,lz,⟨dx,hx⟩,q⟩:=h;refine⟨_,(Ad (Bv (KZ Fi (Aa (pv 0) (Aa (Ah aL (Aa (FJ Fz (pv 1)) (Aa (FJ Fz (pv 2)) Ac))) (Aa (By (Aa (pv 1) (Aa (pv 2) Ac))) (Aa (By (Aa Al (Aa Al (Aa Al Ac)))) Ac))))))),?_⟩;exact in2 (w:=.or) (by walk_at"mm") T1 T2 lz q hx X6
theorem RJ:CI0 8 "Upon" Bb ["self","R","S"] (m9 K Bd [Bq,Ba,Ay,Aw,Bb] Bb .up):=by
 refine ci' ["self","R","S"] Qt fun nd H vs Q E hr h=>?_;obtain⟨x,r,t,p,p',g,rfl,T1,T2,lz,⟨dx,hx⟩,q⟩:=h;refine⟨_,(Ad (Bv (KZ Fi (Aa (pv 0) (Aa (Ah AAj (Aa (FJ Fz (pv 1)) (Aa (FJ Fz (pv 2)) Ac))) (Aa (By (Aa (pv 1) (Aa (pv 2) Ac))) (Aa (By (Aa Al (Aa Al (Aa Al Ac)))) Ac))))))),?_⟩;exact in2 (w:=.up) (by walk_at"mm") T1 T2 lz q hx dD
theorem RT:CI0 1 "Both" AAn ["self","R","S"] Mw:=ci (st:=Qz) (by walk_at"k") (by walk_at"k") (by walk_at"k") (by walk_at"h") (by walk_at"b") fun _=>⟨fun _ _ _ _ h=>h.elim,fun _ _ _ _ _ _ _ _ _ _ _ _ _ h=>h.elim⟩
theorem Ux:CI0 1 "But" ACl ["self","R","S"] Mw:=ci (st:=S8) (by walk_at"k") (by walk_at"k") (by walk_at"k") (by walk_at"h") (by walk_at"b") fun _=>⟨fun _ _ _ _ h=>h.elim,fun _ _ _ _ _ _ _ _ _ _ _ _ _ h=>h.elim⟩
theorem N5:CI0 1 "Unlike" qe ["self","R","S"] Mw:=ci (st:=M3) (by walk_at"k") (by walk_at"k") (by walk_at"k") (by walk_at"h") (by walk_at"b") fun _=>⟨fun _ _ _ _ h=>h.elim,fun _ _ _ _ _ _ _ _ _ _ _ _ _ h=>h.elim⟩
theorem Pq:CI0 1 "Until" wD ["self","R","S"] Mw:=ci (st:=Ov) (by walk_at"k") (by walk_at"k") (by walk_at"k") (by walk_at"h") (by walk_at"b") fun _=>⟨fun _ _ _ _ h=>h.elim,fun _ _ _ _ _ _ _ _ _ _ _ _ _ h=>h.elim⟩
theorem RL:CI0 1 "Near" AAm ["self","R","S"] Mw:=ci (st:=Qv) (by walk_at"k") (by walk_at"k") (by walk_at"k") (by walk_at"h") (by walk_at"b") fun _=>⟨fun _ _ _ _ h=>h.elim,fun _ _ _ _ _ _ _ _ _ _ _ _ _ h=>h.elim⟩
theorem RK:CI0 1 "Till" AAl ["self","R","S"] Mw:=ci (st:=Qu) (by walk_at"k") (by walk_at"k") (by walk_at"k") (by walk_at"h") (by walk_at"b") fun _=>⟨fun _ _ _ _ h=>h.elim,fun _ _ _ _ _ _ _ _ _ _ _ _ _ h=>h.elim⟩
theorem Vo:CI0 1 "No" ADf ["self"] Mw:=ci (st:=Vh) (by walk_at"k") (by walk_at"k") (by walk_at"k") (by walk_at"h") (by walk_at"b") fun _=>⟨fun _ _ _ _ h=>h.elim,fun _ _ _ _ _ _ _ _ _ _ _ _ _ h=>h.elim⟩
theorem Ut:CI0 1 "Not" ACj ["self","R"] Mw:=ci (st:=Sq) (by walk_at"k") (by walk_at"k") (by walk_at"k") (by walk_at"h") (by walk_at"b") fun _=>⟨fun _ _ _ _ h=>h.elim,fun _ _ _ _ _ _ _ _ _ _ _ _ _ h=>h.elim⟩
theorem Pr:CI0 1 "Later" wF ["self","number","R"] Mw:=ci (st:=O6) (by walk_at"k") (by walk_at"k") (by walk_at"k") (by walk_at"h") (by walk_at"b") fun _=>⟨fun _ _ _ _ h=>h.elim,fun _ _ _ _ _ _ _ _ _ _ _ _ _ h=>h.elim⟩
theorem Pu:CI0 1 "Every" wG ["self","number","R","day"] Mw:=ci (st:=O7) (by walk_at"k") (by walk_at"k") (by walk_at"k") (by walk_at"h") (by walk_at"b") fun _=>⟨fun _ _ _ _ h=>h.elim,fun _ _ _ _ _ _ _ _ _ _ _ _ _ h=>h.elim⟩
theorem Uv:CI0 1 "Kth" ACk ["self","number","R","S"] Mw:=ci (st:=S5) (by walk_at"k") (by walk_at"k") (by walk_at"k") (by walk_at"h") (by walk_at"b") fun _=>⟨fun _ _ _ _ h=>h.elim,fun _ _ _ _ _ _ _ _ _ _ _ _ _ h=>h.elim⟩
theorem N7:CI0 1 "Reader" Bu ["self","words"] (tR Bu):=by
 refine ci' ["self","words"] M6 fun nd H vs Q E hr h=>?_;obtain⟨x,dx,l,ws,rfl,hx,hl,wl,wo,q⟩:=h;have lx:l≠x:=Eu hl hx (by intro z;cases z);refine⟨_,(Ab (Dw (pv 0) (Bm JK rfl Wj jl1 (Aa (pv 1) Ac)) (by rfl)) (Ad (Dw (pv 0) Ag (by rfl)))),?_⟩
 symm;refine⟨l,_,rfl,.inl ⟨SqL.of hl,fun p hp=>?_⟩⟩;have px:x≠p:=BX hx hp;exists fresh hp fun H1 s1 t1=>?_;refine⟨x,Bu,dx,[],rfl,s1 _ _ hx,Bk,Gk,nofun,?_⟩;exists zQ fun H2 k2 x2=>?_;refine⟨x,Bu,dx,_,rfl,x2,Bk,Ec,(by show 1<1000;decide),?_⟩;exists zQ fun H3 k3 x3=>?_;exact q H3 (fun y o hy e=>k3 y o hy (k2 y o hy (s1 _ _ e))) ⟨p,ws,0,⟨⟨dx,x3⟩,k3 _ _ (Ne.symm px) (k2 _ _ (Ne.symm px) t1),wl,wo⟩,rfl⟩
theorem Ge:CM0 1 Bu "peek" ["self"] (yV Bu):=by
 refine cm' ["self"] Vg fun nd H vs Q E hr h=>?_;obtain⟨x,_,rfl,⟨p,ws,k,R,rfl⟩,q⟩:=h;obtain⟨dx,hx⟩:=R.ex;exists⟨_,(Ad (Ak (Fy (Am Fg (Bc (pv 0) (by rfl)) (Bh Bs rfl Es xh (Aa (Bc (pv 0) (by rfl)) Ac)) (Ar _)) (Et Km (Bc (pv 0) (by rfl)) (Bc (pv 0) (by rfl)) (fun _ _=>rfl)) Al))),?_⟩;exists⟨x,Bu,dx,_,_,rfl,hx,Bk,Ec,rfl,?_⟩;exists⟨x,Bu,dx,_,_,rfl,hx,Bk,Gk,rfl,?_⟩;refine⟨p,_,rfl,.inr (SqT.of R.tp),?_⟩;rw[js];symm;refine Gd (fun c=>?_) (fun c=>?_)
 ·symm;exists⟨x,Bu,dx,_,_,rfl,hx,Bk,Gk,rfl,?_⟩;exists⟨x,Bu,dx,_,_,rfl,hx,Bk,Ec,rfl,?_⟩;have kl:k<ws.length:=⋯
  rw[kz kl] at q;exact BJ (SqT.of R.tp) (Dz (by rw[xa,zh kl];rfl)) q
 ·rw[kc ⋯] at q;symm;exact q
theorem Dh:CM0 2 Bu "take" ["self"] (yO Bu):=by
 refine cm' ["self","word"] Vf fun nd H vs Q E hr h=>?_;obtain⟨x,r,rfl,R,q⟩:=h;obtain⟨p,ws,k,S,e⟩:=id R;obtain⟨dx,hx⟩:=S.ex;refine⟨_,(Ab (Aj 1 (DG Ge Bk (pv 0))) (Ab (Dw (pv 0) (Af Bx (Bc (pv 0) (by rfl)) Ag) (by rfl)) (Ad (Ak (pv 1))))),?_⟩
 symm;exists⟨x,dx,_,rfl,hx,rfl,?_⟩;exists⟨x,r,rfl,R,?_⟩;exists⟨x,Bu,dx,_,_,rfl,hx,Bk,Ec,rfl,?_⟩;refine⟨x,Bu,dx,_,rfl,hx,Bk,Ec,(by show 2<1000;decide),?_⟩;exists zQ fun H2 k2 x2=>?_;exact q H2 k2 ⟨p,ws,k+1,⟨⟨dx,x2⟩,k2 _ _ (Eu S.tp hx (by intro z;cases z)) S.tp,S.ln,S.ok⟩,by rw[<-e,List.tail_drop]⟩
theorem WW:C0 1 "is_name" ["text"] yh:=by
 refine co' ["text"] jM fun nd H vs Q E hr h=>?_;obtain⟨z,rfl,hz,q⟩:=h;refine⟨_,(Ad (Ak (Ti (NZ Nk Nk Ag (Bh Em rfl Es xh (Aa (pv 0) Ac)) (Cg rfl Tv (Du _ _))) (Xe (Bh (Uh rfl) rfl lD jn0 (Aa (Gf rfl (Gm ["text"] rfl ∅ rfl ∅ rfl ∅ ∅) (oR (pv 0)) (fun _ _ _ _=>Ff) (fun _ _ _ _=>(Iw V3 (pv 0) (Cg rfl jf (fM _ _)) (by rfl)))) Ac)))))),?_⟩;have zl:(cpl z).length=z.length:=Dn _;symm;exists⟨z,rfl,hz.fit,?_⟩;have no:¬Lq (cpl z)->∀H',BP H H'->Q (.bl false) H':=fun n H' s'=>q false H' s' ⟨fun z=>(nomatch z),fun z=>absurd z n⟩;by_cases c1:1<=((z.length:Nat):Int)
 rotate_left
 ·refine CK c1 ?_;refine⟨_,rfl,Dp ?_⟩;exact no (fun N=>by have:=N.lo;lia) _ (BP.refl _)
 exists IK c1 ?_;by_cases c2:((z.length:Nat):Int)<=8
 rotate_left
 ·rw[decide_eq_false c2];refine Dp ?_;exact no (fun N=>by have:=N.hi;lia) _ (BP.refl _)
 rw[decide_eq_true c2];exists Gb ?_;exists Gv (nY ?_);refine⟨_,rfl,hz.asc,?_⟩;refine Ld aY ?_ (fun _ _ _=>trivial) (fun _=>true) (fun v=>match v with | .str y=>.bl (decide (97<=(cpl y).headD 0/\(cpl y).headD 0<=122)) | _=>.non) (fun x hx D ys Q' hD h=>h) (fun x hx _ D ys Q' hD h=>?_) (fun D hD=>?_)
 ·rw[js];exact Ei (by have:z.cps.toList.length=z.length:=zl;lia)
 ·obtain⟨c,hc,rfl⟩:=vi.mp hx;symm;refine⟨_,_,rfl,rfl,?_⟩;rw[AAX];exact h
 have e:((z.cps.toList.map Vy).filter fun _=>true).map (fun v=>match v with | .str y=>V.bl (decide (97<=(cpl y).headD 0/\(cpl y).headD 0<=122)) | _=>.non)=((cpl z).map fun c=>decide (97<=c/\c<=122)).map V.bl:=by
  rw[jd5.mpr (fun _ _=>rfl),vk,vk];rfl
 rw[e];exists fresh hD fun H1 s1 t1=>?_;refine⟨D,_,rfl,SqL.of t1,?_⟩;refine q _ _ s1 ?_;rw[List.all_map,kx];exact⟨fun h=>⟨⋯,⋯,fun c hc=>by simpa using h c hc⟩,fun N c hc=>by simpa using N.ch c hc⟩
theorem MN:C0 1 "is_readable" ["text"] Wx:=by
 refine co' ["text"] Va fun nd H vs Q E hr h=>?_;obtain⟨z,rfl,hz,zl,q⟩:=h;exists⟨_,(Ad (Ak (Ti (Bh Ug rfl Jf jh2 (Aa (pv 0) (Aa (Xf rfl Ex qr (bh _)) Ac))) (Xe (Iw Nk (Bh Em rfl Es xh (Aa (pv 0) Ac)) (Cg rfl Xq (Du _ _)) (Ar _)))))),?_⟩;exists bx (.txt z hz) ?_;exists Gb ?_;exists⟨z,rfl,hz.fit,?_⟩;have:decide ((z.length:Int)<=4000)=true:=by
  rw[decide_eq_true_eq];lia
 rw[this];exact q
theorem Kz:C0 1 "is_number" ["text"] tQ:=by
 refine co' ["text","figures"] ZR fun nd H vs Q E hr h=>?_;obtain⟨z,rfl,hz,q⟩:=h;refine⟨_,(Ab (Aj 1 (Fy (Cz (GP ve PySem.F.slot_str_startswith PySem.F.type_str_startswith Vk (pv 0) (Aa Al Ac))) (Cu W2 (pv 0) (Dm Ag) Ef) (pv 0)))
  (Ab (BW (PW.pt (HW (Am Fg (Bh Em rfl Es xh (Aa (pv 1) Ac)) Ag (Ar _)) (Fx (Am Iz (Bh Em rfl Es xh (Aa (pv 1) Ac)) (Cg rfl Tw (Du _ _)) (Ar _)))))
   (Ad (Ak Gp))
   Ao)
  (Ab (BW (Am CN (Et Xx (pv 1) Ag) Al (Ar _))
   (Ad (Ak (Iw CN (pv 0) Al (Ar _))))
   Ao)
  (Ad (Ak (Bh (Uh rfl) rfl lD jn0 (Aa (Gf rfl (Gm ["text","figures"] rfl ∅ rfl ∅ rfl ∅ ∅) (oR (pv 1)) (fun _ _ _ _=>Ff) (fun _ _ _ _=>(Iw V3 (pv 0) (Cg rfl jg (fM _ _)) (by rfl)))) Ac))))))),?_⟩
 symm;exists⟨rfl,?_⟩;refine⟨z,_,rfl,rfl,?_⟩;rw[Wt (.inr trivial)];symm;refine Gd (fun hm=>?_) (fun hm=>?_)
 ·symm;have l1:1<=z.length:=by
   rw[<-Dn];cases h:cpl z with
   | nil=>rw[h] at hm;cases hm
   | cons a r=>simp
  refine⟨z,rfl,hz.fit,?_⟩;have hy:TOk (Txt.slice z (some 1) none):=hz.slice _ _;have ey:cpl (Txt.slice z (some 1) none)=Hw (cpl z):=by
   rw[QC l1];unfold Hw;rw[xo hm]
  generalize Txt.slice z (some 1) none=y at hy ey ⊢;symm;have fy:=hy.fit;have yl:(cpl y).length=y.length:=Dn _;exists⟨_,rfl,fy,?_⟩;refine Gd (fun l1=>Gb ?_) (fun l1=>?_)
  ·symm;refine q _ _ (BP.refl _) ⟨(fun e=>nomatch e),fun N=>?_⟩;have:=N.lo;rw[<-ey] at this;lia
  symm;exists⟨_,rfl,fy,?_⟩;refine Gd (fun l2=>?_) (fun l2=>?_)
  ·symm;refine q _ _ (BP.refl _) ⟨(fun e=>nomatch e),fun N=>?_⟩;have:=N.hi;rw[<-ey] at this;lia
  symm;obtain⟨c0,r0,ec⟩:∃c r,cpl y=c::r:=by
   cases h:cpl y with
   | nil=>rw[h] at yl;simp at yl;lia
   | cons c r=>exact⟨c,r,rfl⟩
  refine⟨_,0,c0,rfl,rfl,fy,by rw[show y.cps.toList=c0::r0 from ec];exact Dz (j:=0) rfl,?_⟩;symm;refine Gd (fun e0=>?_) (fun e0=>?_)
  ·symm;have c48:c0=48:=by
    have e1:(⟨#[c0]⟩:Str)=Str.ofString "0":=V.str.inj e0;have e2:cpl (⟨#[c0]⟩:Str)=cpl "0":=yi cpl e1;have e3:cpl "0"=[48]:=∅;rw[e3] at e2;injection e2
   refine q _ _ (BP.refl _) ?_;rw[decide_eq_true_eq];have e3:cpl "0"=[48]:=∅;constructor
   ·intro e;have ez:cpl z=[48]:=by rw[V.str.inj e,e3]
    refine⟨?_,?_,?_,?_⟩<;>rw[ez]<;>simp[Hw]
   ·intro N;have:=N.z0 (by rw[<-ey,ec,c48];rfl);exact yi V.str (Gr (by rw[this,e3]))
  symm;exists Gv (nY ?_);refine⟨_,rfl,hy.asc,?_⟩;refine Ld aY ?_ (fun _ _ _=>trivial) (fun _=>true) (fun v=>match v with | .str y=>.bl (decide (48<=(cpl y).headD 0/\(cpl y).headD 0<=57)) | _=>.non) (fun x hx D ys Q' hD h=>h) (fun x hx _ D ys Q' hD h=>?_) (fun D hD=>?_)
  ·rw[js];exact Ei (by have:y.cps.toList.length=y.length:=yl;lia)
  ·obtain⟨c,hc,rfl⟩:=vi.mp hx;symm;refine⟨_,_,rfl,rfl,?_⟩;rw[pU];exact h
  have e:((y.cps.toList.map Vy).filter fun _=>true).map (fun v=>match v with | .str y=>V.bl (decide (48<=(cpl y).headD 0/\(cpl y).headD 0<=57)) | _=>.non)=((cpl y).map fun c=>decide (48<=c/\c<=57)).map V.bl:=by
   rw[jd5.mpr (fun _ _=>rfl),vk,vk];rfl
  rw[e];symm;refine⟨D,_,rfl,SqL.of Ai,?_⟩;refine q _ _ (BR hD _) ?_;rw[List.all_map,kx];constructor
  ·intro h;refine⟨by rw[<-ey];lia,by rw[<-ey];lia,fun c hc=>?_,fun h0=>?_⟩
   ·rw[<-ey] at hc;simpa using h c hc
   ·rw[<-ey,ec] at h0;injection h0 with h0;subst h0;exact absurd (by congr) e0
  ·intro N c hc;have:=N.dg c (by rw[<-ey];exact hc);simpa using this
 ·symm;have hy:=hz;have ey:cpl z=Hw (cpl z):=by
   unfold Hw;rw[xp hm]
  have fy:=hy.fit;have yl:(cpl z).length=z.length:=Dn _;exists⟨_,rfl,fy,?_⟩;refine Gd (fun l1=>Gb ?_) (fun l1=>?_)
  ·symm;refine q _ _ (BP.refl _) ⟨(fun e=>nomatch e),fun N=>?_⟩;have:=N.lo;rw[<-ey] at this;lia
  symm;exists⟨_,rfl,fy,?_⟩;refine Gd (fun l2=>?_) (fun l2=>?_)
  ·symm;refine q _ _ (BP.refl _) ⟨(fun e=>nomatch e),fun N=>?_⟩;have:=N.hi;rw[<-ey] at this;lia
  symm;obtain⟨c0,r0,ec⟩:∃c r,cpl z=c::r:=by
   cases h:cpl z with
   | nil=>rw[h] at yl;simp at yl;lia
   | cons c r=>exact⟨c,r,rfl⟩
  refine⟨_,0,c0,rfl,rfl,fy,by rw[show z.cps.toList=c0::r0 from ec];exact Dz (j:=0) rfl,?_⟩;symm;refine Gd (fun e0=>?_) (fun e0=>?_)
  ·symm;have c48:c0=48:=by
    have e1:(⟨#[c0]⟩:Str)=Str.ofString "0":=V.str.inj e0;have e2:cpl (⟨#[c0]⟩:Str)=cpl "0":=yi cpl e1;have e3:cpl "0"=[48]:=∅;rw[e3] at e2;injection e2
   refine q _ _ (BP.refl _) ?_;rw[decide_eq_true_eq];have e3:cpl "0"=[48]:=∅;constructor
   ·intro e;have ez:cpl z=[48]:=by rw[V.str.inj e,e3]
    refine⟨?_,?_,?_,?_⟩<;>rw[ez]<;>simp[Hw]
   ·intro N;have:=N.z0 (by rw[<-ey,ec,c48];rfl);exact yi V.str (Gr (by rw[this,e3]))
  symm;exists Gv (nY ?_);refine⟨_,rfl,hy.asc,?_⟩;refine Ld aY ?_ (fun _ _ _=>trivial) (fun _=>true) (fun v=>match v with | .str y=>.bl (decide (48<=(cpl y).headD 0/\(cpl y).headD 0<=57)) | _=>.non) (fun x hx D ys Q' hD h=>h) (fun x hx _ D ys Q' hD h=>?_) (fun D hD=>?_)
  ·rw[js];exact Ei (by have:z.cps.toList.length=z.length:=yl;lia)
  ·obtain⟨c,hc,rfl⟩:=vi.mp hx;symm;refine⟨_,_,rfl,rfl,?_⟩;rw[pU];exact h
  have e:((z.cps.toList.map Vy).filter fun _=>true).map (fun v=>match v with | .str y=>V.bl (decide (48<=(cpl y).headD 0/\(cpl y).headD 0<=57)) | _=>.non)=((cpl z).map fun c=>decide (48<=c/\c<=57)).map V.bl:=by
   rw[jd5.mpr (fun _ _=>rfl),vk,vk];rfl
  rw[e];symm;refine⟨D,_,rfl,SqL.of Ai,?_⟩;refine q _ _ (BR hD _) ?_;rw[List.all_map,kx];constructor
  ·intro h;refine⟨by rw[<-ey];lia,by rw[<-ey];lia,fun c hc=>?_,fun h0=>?_⟩
   ·rw[<-ey] at hc;simpa using h c hc
   ·rw[<-ey,ec] at h0;injection h0 with h0;subst h0;exact absurd (by congr) e0
  ·intro N c hc;have:=N.dg c (by rw[<-ey];exact hc);simpa using this
theorem QQ:C0 3 "take_word" ["reader","word"] (yM Bu):=by
 refine co' ["reader","word"] Y8 fun nd H vs Q E hr h=>?_;obtain⟨x,z,r,rfl,R,q⟩:=h;obtain⟨dx,fs,hx,l1,_⟩:=R.ob;refine⟨_,(Ad (BW (Am G6 (DG Dh Bk (pv 0)) (pv 1) (Ar _)) (Ad Be) Ao)),?_⟩
 symm;exists⟨x,dx,_,rfl,hx,l1,?_⟩;exists⟨x,_,rfl,R,fun H1 k1 R1=>?_⟩;exists IW (yi V.str (FT z)) ?_;exact q H1 k1 R1
theorem JL:C0 3 "take_number" ["reader"] (yX Bu):=by
 refine co' ["reader","word"] VJ fun nd H vs Q E hr h=>?_;obtain⟨x,n,r,rfl,R,sn,q⟩:=h;obtain⟨dx,fs,hx,l1,_⟩:=R.ob;have N:=Tr sn;refine⟨_,(Ab (Aj 1 (DG Dh Bk (pv 0))) (Ab (BW (Dv (Cz (Ah Kz (Aa (pv 1) Ac)))) (Ad Be) Ao) (Ad (Ak (Bm Lz rfl lC jn1 (Aa (pv 1) Ac)))))),?_⟩
 symm;exists⟨x,dx,_,rfl,hx,l1,?_⟩;exists⟨x,_,rfl,R,fun H1 k1 R1=>?_⟩;refine⟨_,rfl,R.tk,fun v H2 s2 iv=>?_⟩;obtain rfl:=iv.mpr (show U4 (cpl (sW (nW n))) by rw[Bp];exact N.1);symm;exists Dp ?_;refine⟨_,_,rfl,?_,WK (show U4 (cpl (sW (nW n))) by rw[Bp];exact N.1),?_⟩
 ·show(sW (nW n)).length<=_;rw[Do];have:=Ig sn;lia
 ·show Q (.int (Kf (cpl (sW (nW n))))) H2;rw[Bp,N.2];exact q H2 (k1.tr (.sm s2)) (R1.same s2)
theorem MJ:C0 4 "take_wanted" ["reader"] (sJ Bu):=by
 refine co' ["reader"] VH fun nd H vs Q E hr h=>?_;obtain⟨x,m,r,rfl,R,sm,q⟩:=h;obtain⟨dx,fs,hx,l1,l2⟩:=R.ob;refine⟨_,(Ab (BW (Am CN (DG Ge Bk (pv 0)) Al (Ar _)) (Ab (Bv (DG Dh Bk (pv 0))) (Ad (Ak Gw))) Ao) (Ad (Ak (Ah JL (Aa (pv 0) Ac))))),?_⟩
 symm;exists⟨x,dx,_,rfl,hx,l2,?_⟩;exists⟨x,_,rfl,R,?_⟩;cases m with
 | none=>
  walk_at"ew";exists⟨x,dx,_,rfl,hx,l1,?_⟩;exists⟨x,_,rfl,R,fun H1 k1 R1=>?_⟩;exact q H1 k1 R1
 | some n=>
  exists CK (zm (sm n rfl) ⟨_,_,rfl,nofun⟩) ?_;exact⟨x,n,r,rfl,R,sm n rfl,q⟩
theorem QR:C0 4 "take_each" ["reader"] (tV Bu):=by
 refine co' ["reader","size"] Y9 fun nd H vs Q E hr h=>?_;obtain⟨x,n,m,r,rfl,R,sn,sm,q⟩:=h;refine⟨_,(Ab (Aj 1 (Ah JL (Aa (pv 0) Ac))) (Ab (Bv (Ah QQ (Aa (pv 0) (Aa Al Ac)))) (Ad (Ak (By (Aa (pv 1) (Aa (Ah JL (Aa (pv 0) Ac)) Ac))))))),?_⟩
 symm;exists⟨x,n,_,rfl,R,sn,fun H1 k1 R1=>?_⟩;exists⟨x,_,_,rfl,R1,fun H2 k2 R2=>?_⟩;exists⟨x,m,r,rfl,R2,sm,fun H3 k3 R3=>?_⟩;refine⟨Wn,fun a ha=>?_⟩;refine fresh ha fun H4 s4 t4=>?_;exact q a H4 (((k1.tr k2).tr k3).tr (.sm s4)) (R3.same s4) t4
theorem aA:C0 5 "take_date" ["reader"] (tu Bu):=by
 refine co' ["reader","name","month","day","years"] ZC fun nd H vs Q E hr h=>?_;obtain⟨x,nm,m,d,r,rfl,R,⟨on,om,od,_⟩,hh,q⟩:=h;obtain⟨dx,fs,hx,l1,_⟩:=R.ob;refine⟨_,(Ab (Aj 1 (DG Dh Bk (pv 0))) (Ab (BW (Dv (Cz (Ah WW (Aa (pv 1) Ac)))) (Ad Be) Ao) (Ab (Aj 2 (Ah MJ (Aa (pv 0) Ac))) (Ab (Aj 3 (Ah MJ (Aa (pv 0) Ac))) (Ab (Aj 4 (By (Aa Ag (Aa Ag Ac)))) (Ab (JG (BW (Am CN (DG Ge Bk (pv 0)) Al (Ar _)) (Ab (Bv (DG Dh Bk (pv 0))) (Ad (Aj 4 (Ah QR (Aa (pv 0) Ac))))) Ao)) (Ad (Ak (By (Aa Al (Aa (pv 1) (Aa (pv 2) (Aa (pv 3) (Aa (pxT 4) (Aa (pxT 4) Ac))))))))))))))),?_⟩
 symm;exists⟨x,dx,_,rfl,hx,l1,?_⟩;exists⟨x,_,rfl,R,fun H1 k1 R1=>?_⟩;refine⟨_,rfl,R.tk,fun v H2 s2 iv=>?_⟩;obtain rfl:=iv.mpr (show Lq (cpl (sW nm)) by rw[Bp];exact on);have k2:=k1.tr (.sm s2);symm;exists Dp ?_;exists⟨x,m,_,rfl,R1.same s2,om,fun H3 k3 R3=>?_⟩;exists⟨x,d,_,rfl,R3,od,fun H4 k4 R4=>?_⟩;refine⟨Wn,fun q0 hq0=>?_⟩;refine fresh hq0 fun H5 s5 t5=>?_;have k5:=((k2.tr k3).tr k4).tr (.sm s5);have R5:=R4.same s5;symm;refine G9 (fun Z' H'=>An4 (KB x H H') (Rd Bu H' x r) (H' q0=some (.tup [.int 1,.int 0])) (Z'=[some (.ref x),some (.str (sW nm)),some (oI m),some (oI d),some (.ref q0)])) ?_ ?_
 ·symm;obtain⟨dx,fs,hx,l1,l2⟩:=R5.ob;exists⟨x,dx,_,rfl,hx,l2,?_⟩;exists⟨x,_,rfl,R5,?_⟩;exists CK (fun z=>hh (xH.mp (z.trans (ws_eq "each").symm))) ?_;exact⟨k5,R5,t5,rfl⟩
 rintro Z' H6 ⟨k6,R6,t6,rfl⟩;symm;exists BJ (SqT.of t6) at0 ?_;exists BJ (SqT.of t6) at1 ?_;refine⟨(by show 6<=sizeLine;decide),fun b hb=>?_⟩;refine fresh hb fun H7 s7 t7=>?_;exact q _ H7 (k6.tr (.sm s7)) (R6.same s7) ⟨b,rfl,t7⟩
theorem dI:C0 1 "words_of" ["text"] sG:=by
 refine co' ["text","told","depth","whole","opened","word","opening","closing"] bL fun nd H vs Q E hr h=>?_;obtain⟨z,rfl,hz,zl,hc,ho,q⟩:=h;refine⟨_,(Ab (Aj 1 (Ea Ac)) (Ab (Aj 2 Ag) (Ab (Ik PassesOwn.never rfl (HR (GP ve jd7 jd8 Nq (pv 0) (Aa Al Ac))) (FZ (i:=3) nd rfl (by walk_at"o")) (Ab (Aj 4 (GP ve PySem.F.slot_str_lstrip PySem.F.type_str_lstrip jb (pv 3) (Aa Al Ac))) (Ab (Aj 5 (GP ve PySem.F.slot_str_rstrip PySem.F.type_str_rstrip jZ (pv 4) (Aa Al Ac))) (Ab (BW (Am CN (pv 5) Al (Ar _)) (Ad Be) Ao) (Ab (Aj 6 (Af Ci (Bh Em rfl Es xh (Aa (pv 3) Ac)) (Bh Em rfl Es xh (Aa (pv 4) Ac)))) (Ab (Aj 7 (Af Ci (Bh Em rfl Es xh (Aa (pv 4) Ac)) (Bh Em rfl Es xh (Aa (pv 5) Ac)))) (Ab (Aj 2 (Af Bx (pv 2) (pv 6))) (Ab (BW (Am Iz (pv 2) (Cg rfl Q0 (Du _ _)) (Ar _)) (Ad Be) Ao) (Ab (Aj 2 (Af Ci (pv 2) (pv 7))) (Ad (Bv (GP vc jc7 jc8 JR (pv 1) (Aa (Af cQ (Af cQ (Af cP (Ea (Aa Al Ac)) (pv 6)) (Ea (Aa (pv 5) Ac))) (Af cP (Ea (Aa Al Ac)) (pv 7))) Ac))))))))))))) (Ad (Ak (pv 1)))))),?_⟩
 symm;refine⟨vj _,fun l hl=>?_⟩;exists fresh hl fun H1 s1 t1=>?_;exists TV (QD ?_);exists J2 ?_;exists⟨rfl,?_⟩;refine⟨z,32,rfl,by rw[show Str.ofString " "=⟨#[32]⟩ from by ac_rfl],nofun,hz.len,fun l2 hl2=>?_⟩;exists fresh hl2 fun H2 s2 t2=>?_;have ll:l2≠l:=fun z=>by rw[z,t1] at hl2;cases hl2
 have wt:=mL 32 (cpl z);generalize hps:spl 32 (cpl z)=ps at*
 unfold tks at q;have t2:H2 l2=some (.lst (ps.map fun w=>V.str (sW w))):=by rw[t2,bF,hps,vk];rfl
 have fl:=Zy ps;have plen:∀(i:Nat) (w:Wd),ps[i]?=some w->w.length<=4000/\i<ps.length:=fun i w hw=>by
  have h1:(w.length+1)<=(ps.map fun w=>w.length+1).sum:=gP (vi.mpr ⟨w,xi hw,rfl⟩);exact⟨⋯,(zd.mp hw).1⟩
 refine⟨l2,rfl,⟨_,SqL.of t2⟩,Kr (xs:=ps.map fun w=>V.str (sW w)) (fun i Z' H'=>An3 (BP H H') (H' l2=some (.lst (ps.map fun w=>V.str (sW w)))) (Ex6 fun(d:Int) (v3 v4 v5 v6 v7:Option V)=>An3 (H' l=some (.lst (((ps.take i).flatMap Ib).map fun w=>V.str (sW w)))) (Dok d (ps.drop i)) (Z'=[some (.str z),some (.ref l),some (.int d),v3,v4,v5,v6,v7]))) ⟨s1.trans s2,t2,0,none,none,none,none,none,s2 _ _ t1,by rw[jp0];exact ho,rfl⟩ ?_ ?_ ?_⟩
 ·rintro i Z' H' _ ⟨_,t,_⟩;exact SqL.of t
 ·rintro i x Z' H' hx ⟨sH,tp,d,v3,v4,v5,v6,v7,tl,ew,rfl⟩;rw[xa] at hx;obtain⟨w,hw,rfl⟩:=uu.mp hx;obtain⟨wl,il⟩:=plen i w hw;have ol:=PQ w;have cl:=Rn w;have ed:ps.drop i=w::ps.drop (i+1):=by
   rw[kz il]
   congr 1
   rw[zh il] at hw;injection hw
  rw[ed] at ew;obtain⟨ew,ew2⟩:=ew;unfold opn at ew ew2;unfold cls at ew2;have cw:=hc w (xi hw);have fit:w.length<=sizeLine:=zn wl nofun;symm;exists J2 ?_;exists⟨rfl,?_⟩;refine⟨sW w,_,rfl,rfl,by rw[Do];exact fit,?_⟩;rw[show (if stripSame (Str.ofString "(").cps.contains true false (sW w) then sW w else stripped (Str.ofString "(").cps.contains true false (sW w))=sW (opd w) from ACT w];symm;exists J2 ?_;exists⟨rfl,?_⟩;refine⟨sW (opd w),_,rfl,rfl,by rw[Do];lia,?_⟩;rw[show (if stripSame (Str.ofString ")").cps.contains false true (sW (opd w)) then sW (opd w) else stripped (Str.ofString ")").cps.contains false true (sW (opd w)))=sW (core w) from ABv w];symm;rw[nJ];exists CK (fun z=>cw (xH.mp z)) ?_;refine⟨_,rfl,by rw[Do];exact fit,?_⟩;symm;refine⟨_,rfl,by rw[Do];lia,?_⟩;symm;refine⟨_,rfl,by rw[Do];lia,?_⟩;symm;refine⟨_,rfl,by rw[Do];lia,?_⟩;rw[Do,Do,Do];symm;exists CK ⋯ ?_;exists PL rfl tl ?_;have sz:∀n:Nat,n<=100000->n<=sizeLine:=fun n h=>zn h nofun;refine⟨(by show 1<=sizeLine;decide),fun m1 hm1=>?_⟩;refine fresh hm1 fun H3 s3 t3=>?_;rw[ADQ] at t3;symm;refine bw t3 ⋯ ⋯ (sz _ (by simp;lia)) fun m2 hm2=>?_;refine fresh hm2 fun H4 s4 t4=>?_;rw[TF] at t4;symm;refine⟨(by show 1<=sizeLine;decide),fun m3 hm3=>?_⟩;exists fresh hm3 fun H5 s5 t5=>?_;refine⟨m2,m3,_,_,rfl,rfl,s5 _ _ t4,t5,sz _ (by simp;lia),fun m4 hm4=>?_⟩;exists fresh hm4 fun H6 s6 t6=>?_;refine⟨(by show 1<=sizeLine;decide),fun m5 hm5=>?_⟩;refine fresh hm5 fun H7 s7 t7=>?_;rw[ADP] at t7;symm;refine bw t7 ⋯ ⋯ (sz _ (by simp;lia)) fun m6 hm6=>?_;refine fresh hm6 fun H8 s8 t8=>?_;rw[TF] at t8;symm;refine⟨m4,m6,_,_,rfl,rfl,(s7.trans s8) _ _ t6,t8,sz _ (by simp;lia),fun m7 hm7=>?_⟩;refine fresh hm7 fun H9 s9 t9=>?_;have sA:=s3.trans (s4.trans (s5.trans (s6.trans (s7.trans (s8.trans s9)))));rw[show ((w.length:Int)-((opd w).length:Int)).toNat=w.length-(opd w).length by lia,show(((opd w).length:Int)-((core w).length:Int)).toNat=(opd w).length-(core w).length by lia,<-zR] at t9;have tk:(ps.take (i+1)).flatMap Ib=(ps.take i).flatMap Ib++Ib w:=by
   rw[ja4,hw,jc6,jg1,jd4,List.flatMap_nil,xy]
  have tle:=rY (ps:=ps) i;have ple:=Zc w;refine FW ?_;refine⟨l,m7,_,_,rfl,rfl,sA _ _ tl,t9,?_,?_⟩
  ·rw[js,js];have b1:((ps.take i).flatMap Ib).length<=4001:=zn tle (zn fl (by rw[wt];lia));exact sz _ (zn (Nat.add_le_add b1 ple) ⋯)
  ·rw[<-jb7,<-tk];refine⟨fun r o ho=>?_,?_,_,_,_,_,_,_,Ai,?_,rfl⟩
   ·rw[Ax fun z=>by rw[z,hl] at ho;cases ho];exact sA _ _ (sH _ _ ho)
   ·rw[Ax ll];exact sA _ _ tp
   ·rwa [show d+((w.length:Int)-((opd w).length:Int))-(((opd w).length:Int)-((core w).length:Int))=d+((w.length-(opd w).length:Nat):Int)-(((opd w).length-(core w).length:Nat):Int) by lia]
 ·rintro Z' H' ⟨sH,_,d,v3,v4,v5,v6,v7,tl,ew,rfl⟩;rw[js,jc9] at tl;symm;exact q l H' sH tl
theorem Q6:C0 1 "take_numbered" ["reader"] Mw:=co (st:=Qm) (by walk_at"g") (by walk_at"b") fun _=>⟨fun _ _ _ _ h=>h.elim,fun _ _ _ _ _ _ _ _ _ _ _ _ _ h=>h.elim⟩
theorem YH:C0 1 "take_every" ["reader"] Mw:=co (st:=W7) (by walk_at"g") (by walk_at"b") fun _=>⟨fun _ _ _ _ h=>h.elim,fun _ _ _ _ _ _ _ _ _ _ _ _ _ h=>h.elim⟩
theorem W4:Cm ["reader","plan","word"] ["reader"] (BK KN):=by walk_at"s"
theorem Xk{k d:Nat}(F:Fun K "take_pair" "take_pair" KN f fd)(Gq:C0 k "take_plan" ["reader"] ((Ol Bu) d))(hk:8<=k):F0 (k+1) f fd ["reader"] ((K9 Bu) d):=by
 refine F.ok (k:=k+0) W4 (fun h=>?_) fun nd H vs Q E hr h=>?_
 ·obtain⟨x,p,r,rfl,_⟩:=h;rfl
 obtain⟨x,p,r,rfl,R,okp,cp,dp,hh,q⟩:=h;refine⟨_,(Ab (Aj 1 (Ah Gq (Aa (pv 0) Ac))) (Ab (Aj 2 (DG Dh Bk (pv 0))) (Ab (BW (Am Xi (pv 2) (Cg rfl Xo (Jk _)) (by rfl)) (Ad Be) Ao) (Ad (Ak (By (Aa (pv 2) (Aa (pv 1) (Aa (Ah Gq (Aa (pv 0) Ac)) Ac))))))))),?_⟩
 cases p with
 | pr w p p'=>
  have dp:max p.deep p'.deep+1<d+1:=dp;symm;refine⟨x,p,_,rfl,R,okp.1,trivial,⋯,hdn (by cases w<;>ac_rfl),fun v H1 k1 R1 P1=>?_⟩;symm;obtain⟨dx,fs,hx,l1,_⟩:=R1.ob;exists⟨x,dx,_,rfl,hx,l1,?_⟩;exists⟨x,_,rfl,R1,fun H2 k2 R2=>?_⟩;refine⟨HQ,_,rfl,.inr (XM _),rfl,rfl,?_⟩;have e:V.str (sW ((sg w.s::(p'.tok++r)).headD []))=V.str (Str.ofString w.s):=ws_eq _;rw[e,ACN w];symm;exists Dp ?_;exists⟨x,p',r,rfl,R2,okp.2,trivial,⋯,hh,fun u H3 k3 R3 P3=>?_⟩;refine⟨(by show 3<=sizeLine;decide),fun a ha=>?_⟩;refine fresh ha fun H4 s4 t4=>?_;exact q _ H4 (((k1.tr k2).tr k3).tr (.sm s4)) (R3.same s4) ⟨a,v,u,rfl,t4,(PlH.kb R2 k3 (PlH.kb R1 k2 P1)).same s4,P3.same s4⟩
 | _=>exact cp.elim
theorem R8:Cm ["reader","word"] ["reader"] (BK JF):=by walk_at"s"
theorem Tp{k d:Nat}(F:Fun K "take_within" "take_within" JF f fd)(Gq:C0 k "take_plan" ["reader"] ((Ol Bu) d))(ab:C0 (k+1) "take_pair" ["reader"] ((K9 Bu) d))(hk:8<=k):F0 (k+2) f fd ["reader"] ((K9 Bu) d):=by
 refine F.ok (k:=k+1) R8 (fun h=>?_) fun nd H vs Q E hr h=>?_
 ·obtain⟨x,p,r,rfl,_⟩:=h;rfl
 obtain⟨x,p,r,rfl,R,okp,cp,dp,hh,q⟩:=h;obtain⟨dx,fs,hx,l1,l2⟩:=R.ob;refine⟨_,(Ab (Aj 1 (DG Ge Bk (pv 0))) (Ab (BW (Am CN (pv 1) Al (Ar _)) (Ab (Bv (DG Dh Bk (pv 0))) (Ad (Ak (By (Aa (pv 1) (Aa (Ah Gq (Aa (pv 0) Ac)) Ac)))))) Ao) (Ab (BW (Am CN (pv 1) Al (Ar _)) (Ab (Bv (DG Dh Bk (pv 0))) (Ad (Ak (Ah YH (Aa (pv 0) Ac))))) Ao) (Ab (BW (Cz (Ah Kz (Aa (pv 1) Ac))) (Ad (Ak (Ah Q6 (Aa (pv 0) Ac)))) Ao) (Ad (Ak (Ah ab (Aa (pv 0) Ac)))))))),?_⟩
 symm;exists⟨x,dx,_,rfl,hx,l2,?_⟩;exists⟨x,_,rfl,R,?_⟩;cases p with
 | pr w p p'=>
  obtain⟨z,t,e,hz⟩:=p.hd;have e1:inn (.pr w p p') r=z::(t++sg w.s::(p'.tok++r)):=by
   show p.tok++_=_;rw[e];rfl
  have R':=R;rw[e1] at R' ⊢;obtain⟨n1,n2,n3⟩:V.str (sW z)≠V.str "not"/\V.str (sW z)≠V.str "every"/\∃c u,z=c::u/\¬(c=45\/48<=c/\c<=57):=by
   have g:∀{y:String} {c:Nat} {u:Wd},z=sg y->sg y=c::u->¬(c=45\/48<=c/\c<=57)->Str.ofString y≠Str.ofString "not"->Str.ofString y≠Str.ofString "every"->V.str (sW z)≠V.str "not"/\V.str (sW z)≠V.str "every"/\∃c u,z=c::u/\¬(c=45\/48<=c/\c<=57):=fun a b c d e=>by
    rw[a];exact⟨Ye d,Ye e,_,_,b,c⟩
   rcases qh.mp hz with h | hz
   ·exact g h rfl nofun ∅ ∅
   rcases qh.mp hz with h | hz
   ·exact g h rfl nofun ∅ ∅
   rcases qh.mp hz with h | hz
   ·exact g h rfl nofun ∅ ∅
   ·exact g (y:="(") ((zv.mp hz).trans ∅) rfl nofun ∅ ∅
  exists CK n1 ?_;exists CK n2 ?_;refine⟨_,rfl,R'.tk,fun v H2 s2 iv=>?_⟩;obtain rfl:v=false:=by
   cases v with
   | false=>rfl
   | true=>
    have:=iv.mp rfl;rw[show (z::(t++sg w.s::(p'.tok++r))).headD []=z from rfl,Bp] at this;obtain⟨c,u,rfl,n⟩:=n3;exact absurd (pQ this) n
  symm;exists Dp ?_;exact⟨x,.pr w p p',r,rfl,R.same s2,okp,trivial,dp,hh,q.on (.sm s2)⟩
 | _=>exact cp.elim
theorem W3:Cm ["reader","word","plan","numbers"] ["reader"] (BK KJ):=by walk_at"s"
theorem Xj{k d:Nat}(F:Fun K "take_plan" "take_plan" KJ f fd)(ab:C0 (k+2) "take_within" ["reader"] ((K9 Bu) d))(hk:8<=k):F0 (k+3) f fd ["reader"] ((Ol Bu) (d+1)):=by
 refine F.ok (k:=k+2) W3 (fun h=>?_) fun nd H vs Q E hr h=>?_
 ·obtain⟨x,p,r,rfl,_⟩:=h;rfl
 obtain⟨x,p,r,rfl,R,okp,_,dp,hh,q⟩:=h;obtain⟨dx,fs,hx,l1,_⟩:=R.ob;refine⟨_,(Ab (Aj 1 (DG Dh Bk (pv 0))) (Ab (BW (PW.pt (HW (Am CN (pv 1) Al (Ar _)) (Fx (Am CN (pv 1) Al (Ar _))))) (Ad (Ak (By (Aa (pv 1) Ac)))) Ao) (Ab (BW (Am CN (pv 1) Al (Ar _)) (Ab (Aj 3 (Ah QR (Aa (pv 0) Ac))) (Ad (Ak (By (Aa (pv 1) (Aa (pxT 3) (Aa (pxT 3) Ac))))))) Ao) (Ab (BW (Am CN (pv 1) Al (Ar _)) (Ad (Ak (Ah aA (Aa (pv 0) Ac)))) Ao) (Ab (BW (Am G6 (pv 1) Al (Ar _)) (Ad Be) Ao) (Ab (Aj 2 (Ah ab (Aa (pv 0) Ac))) (Ab (Bv (Ah QQ (Aa (pv 0) (Aa Al Ac)))) (Ad (Ak (pv 2)))))))))),?_⟩
 symm;exists⟨x,dx,_,rfl,hx,l1,?_⟩;exists⟨x,_,rfl,R,fun H1 k1 R1=>?_⟩;cases p with
 | lf=>
  refine IK (ws_eq "all") ?_;exists Gb ?_;refine⟨(by show 1<=sizeLine;decide),fun a ha=>?_⟩;refine fresh ha fun H4 s4 t4=>?_;exact q _ H4 (k1.tr (.sm s4)) (R1.same s4) ⟨a,rfl,by rw[t4];exact yi (fun z=>some (HO.tup [z])) (ws_eq "all")⟩
 | each n m=>
  walk_at"nw";walk_at"nw";walk_at"ew";exists⟨x,n,m,r,rfl,R1,okp.1,okp.2.1,fun a H2 k2 R2 t2=>?_⟩;exists BJ (SqT.of t2) at0 ?_;exists BJ (SqT.of t2) at1 ?_;refine⟨(by show 3<=sizeLine;decide),fun b hb=>?_⟩;refine fresh hb fun H4 s4 t4=>?_;exact q _ H4 ((k1.tr k2).tr (.sm s4)) (R2.same s4) ⟨b,rfl,by rw[t4];exact yi (fun z=>some (HO.tup [z,_,_])) (ws_eq _)⟩
 | date nm m e=>
  walk_at"nw";walk_at"nw";walk_at"nw";walk_at"ew";exact⟨x,nm,m,e,r,rfl,R1,okp,hh,q.on k1⟩
 | _=>
  walk_at"nw";walk_at"nw";walk_at"nw";walk_at"nw";refine IW (by show V.str (sW kL)=_;rw[xV];exact ws_eq _) ?_;symm;refine⟨x,_,kR::r,rfl,by simp only[PT.tok,jg6,ki,ji0] at R1;exact R1,okp,trivial,dp,(show kR≠sg "each" by ac_rfl),fun v H2 k2 R2 P2=>?_⟩;symm;refine⟨x,_,r,rfl,by rw[show cpl ")"=kR by ac_rfl];exact R2,fun H3 k3 R3=>?_⟩;symm;exact q _ H3 ((k1.tr k2).tr k3) R3 (PlH.kb R2 k3 P2)
theorem Gq:C0 131 "take_plan" ["reader"] ((Ol Bu) 41):=fO (k0:=8) (J:=3) (sp:=(Ol Bu)) (st:=KJ) gX gG (by walk_at"g") (by walk_at"b") (fun _ _ _ _ h=>Yv h) (fun d _ _ R F=>by
 have hk:8<=8+3*d:=ja2 _ _;have ab:C0 ((8+3*d)+1) "take_pair" ["reader"] ((K9 Bu) d):=co (st:=KN) (by walk_at"g") (by walk_at"b") fun F=>Xk F R hk;have ac:C0 ((8+3*d)+2) "take_within" ["reader"] ((K9 Bu) d):=co (st:=JF) (by walk_at"g") (by walk_at"b") fun F=>Tp F R ab hk;exact Xj F ac hk) 41
theorem aJ:C1 8 "made_date" ["plan","calendars"] (tL K ⟨Bl,BZ,BL,Ae,An,Bd,BV,[Bq,Ba,Ay,Aw,Bb]⟩):=by
 refine ce' ["plan","calendars","name"] ZP fun nd H vs Q E hr h T=>?_;obtain⟨v,a,nm,m,d,M,rfl,⟨q0,rfl,hq⟩,ok,h,⟨kv,hk,ez⟩⟩:=h;have dg:∀{z:Addr},Ew kv (.inr (sW nm))=some (.ref z)->RX H a (.str (sW nm)) (some (.ref z)):=fun e=>.inl ⟨_,.inr (sW nm),.inl hk,rfl,e.symm⟩;have go:∀k,M nm k->∃z,RX H a (.str (sW nm)) (some (.ref z))/\EY K ⟨Bl,BZ,BL,Ae,An,Bd,BV,[Bq,Ba,Ay,Aw,Bb]⟩ H z k:=fun k m=>by
  obtain⟨z,e,C⟩:=ez nm k m;exact⟨z,dg e,C⟩
 obtain⟨k,z,dg,mk,C⟩:∃k z,RX H a (.str (sW nm)) (some (.ref z))/\((∃g,k=.one g/\SmC g/\Tl K ⟨Bl,BZ,BL,Ae,An,Bd,BV,[Bq,Ba,Ay,Aw,Bb]⟩ g (.date nm m d) H Q)\/(∃a b n,k=.chg a b n)/\EC BV H E)/\EY K ⟨Bl,BZ,BL,Ae,An,Bd,BV,[Bq,Ba,Ay,Aw,Bb]⟩ H z k:=by
  rcases h.o with ⟨g,kn,_,q⟩ | ⟨⟨a,b,k,e⟩,q⟩
  ·obtain⟨z,d,C⟩:=go _ kn.1;exact⟨_,z,d,.inl ⟨g,rfl,kn.2,q⟩,C⟩
  ·obtain⟨z,d,C⟩:=go _ e;exact⟨_,z,d,.inr ⟨⟨a,b,k,rfl⟩,q⟩,C⟩
 refine⟨_,(Ab (Aj 2 (pxT 0))
  (Ab (BW (Xa (V2 (gY hr) (pv 2) (pv 1)))
   (Ad Be)
   Ao)
  (Ad (Ak (zU T Px (hr.mono nofun) rfl (Aa (pv 2) (Aa (gC (gY hr) (pv 1) (pv 2) (fun _ _=>rfl)) (Aa (pxT 0) (Aa (pxT 0) (Aa (pxT 0) (Aa (pxT 0) Ac))))))))))),?_⟩
 symm;exists BJ (SqT.of hq) K5 ?_;unfold Wo;symm;refine⟨a,some (.ref z),rfl,dg,?_⟩;refine⟨_,rfl,?_⟩;exists Dp ?_;unfold lZ;symm;exists⟨a,.ref z,rfl,dg,?_⟩;exists BJ (SqT.of hq) aR ?_;exists BJ (SqT.of hq) wJ ?_;exists BJ (SqT.of hq) ADh ?_;exists BJ (SqT.of hq) ADg ?_;refine fun x dx hx hdx ne=>⟨x,z,nm,m,d,rfl,by have:=ok.1.hi;lia,ok.2.2.2.1,fun i e=>Ey (ok.2.1 i e),ok.2.2.2.2.1,fun i e=>Ey (ok.2.2.1 i e),?_⟩;have C:=C.same (Nr (o:=.ins Ay dx []) hx hdx ne);rcases mk with ⟨g,rfl,sm,q⟩ | ⟨⟨a',b',n',rfl⟩,q⟩
 ·exact .inl ⟨g,C,sm,.go hx hdx ne fun H' s N=>⟨rfl,q x H' s N⟩⟩
 ·exact .inr ⟨⟨a',b',n',C⟩,q.on (Nr hx hdx ne)⟩
theorem aH:C0 10 "made_pair" ["word","one","other"] (tK K ⟨Bl,BZ,BL,Ae,An,Bd,BV,[Bq,Ba,Ay,Aw,Bb]⟩):=by
 refine co' ["word","one","other"] ZM fun nd H vs Q E hr h=>?_;obtain⟨w,x,y,p,p',g,rfl,wb,R1,R2,lz,q⟩:=h;refine⟨_,(Ab (BW (Am CN (pv 0) Al (Ar _)) (Ad (Ak (GK RT (Aa (pv 1) (Aa (pv 2) Ac))))) Ao) (Ab (BW (Am CN (pv 0) Al (Ar _)) (Ad (Ak (GK N8 (Aa (pv 1) (Aa (pv 2) Ac))))) Ao) (Ab (BW (Am CN (pv 0) Al (Ar _)) (Ad (Ak (GK Ux (Aa (pv 1) (Aa (pv 2) Ac))))) Ao) (Ab (BW (Am CN (pv 0) Al (Ar _)) (Ad (Ak (GK N5 (Aa (pv 1) (Aa (pv 2) Ac))))) Ao) (Ab (BW (Am CN (pv 0) Al (Ar _)) (Ad (Ak (GK RJ (Aa (pv 1) (Aa (pv 2) Ac))))) Ao) (Ab (BW (Am CN (pv 0) Al (Ar _)) (Ad (Ak (GK Pq (Aa (pv 1) (Aa (pv 2) Ac))))) Ao) (Ab (BW (Am CN (pv 0) Al (Ar _)) (Ad (Ak (GK RL (Aa (pv 1) (Aa (pv 2) Ac))))) Ao) (Ad (Ak (GK RK (Aa (pv 1) (Aa (pv 2) Ac)))))))))))),?_⟩
 symm;cases w with
 | bu=>exact absurd rfl wb
 | or=>
  walk_at"nw";walk_at"ew";exact fun y dy hy hdy ne=>ACS R1 R2 lz hy hdy ne fun H' s N=>⟨rfl,q _ H' s N⟩
 | up=>
  walk_at"nw";walk_at"nw";walk_at"nw";walk_at"nw";walk_at"ew";exact fun y dy hy hdy ne=>ACS R1 R2 lz hy hdy ne fun H' s N=>⟨rfl,q _ H' s N⟩
theorem uE:Cm ["plan","calendars","word","one"] ["plan","calendars"] (BK bR):=by walk_at"s"
theorem vA{k d:Nat}(F:Fun K "made" "made" bR f fd)(Jt:C1 k "made" ["plan","calendars"] ((Ry K ⟨Bl,BZ,BL,Ae,An,Bd,BV,[Bq,Ba,Ay,Aw,Bb]⟩) d))(hk:12<=k):Ds P w K mg base (CX1 P w) (k+1) f fd ["plan","calendars"] ((Ry K ⟨Bl,BZ,BL,Ae,An,Bd,BV,[Bq,Ba,Ay,Aw,Bb]⟩) (d+1)):=by
 refine F.okE (k:=k+0) uE (fun h=>?_) fun nd H vs Q E hr h T=>?_
 ·obtain⟨v,a,p,M,rfl,_⟩:=h;rfl
 obtain⟨v,a,p,M,rfl,P,ok,dp,h,Di⟩:=h;refine⟨_,(Ab (Aj 2 (pxT 0)) (Ab (BW (Am CN (pv 2) Al (Ar _)) (Ad (Ak (cI Uy (hr.mono ⋯) rfl))) Ao) (Ab (BW (Am CN (pv 2) Al (Ar _)) (Ad (Ak (cI Vo (hr.mono ⋯) rfl))) Ao) (Ab (BW (Am CN (pv 2) Al (Ar _)) (Ad (Ak (GK RP (Aa (pxT 0) (Aa (pxT 0) Ac))))) Ao) (Ab (BW (Am CN (pv 2) Al (Ar _)) (Ad (Ak (Fb T aJ (hr.mono ⋯) rfl (Aa (pv 0) (Aa (pv 1) Ac))))) Ao) (Ab (BW (Am CN (pv 2) Al (Ar _)) (Ad (Ak (GK Ut (Aa (Fb T Jt (hr.mono ⋯) rfl (Aa (pxT 0) (Aa (pv 1) Ac))) Ac)))) Ao) (Ab (BW (Am CN (pv 2) Al (Ar _)) (Ad (Ak (GK Pr (Aa (pxT 0) (Aa (Fb T Jt (hr.mono ⋯) rfl (Aa (pxT 0) (Aa (pv 1) Ac))) Ac))))) Ao) (Ab (BW (Am CN (pv 2) Al (Ar _)) (Ad (Ak (GK Pu (Aa (pxT 0) (Aa (Fb T Jt (hr.mono ⋯) rfl (Aa (pxT 0) (Aa (pv 1) Ac))) (Aa (pxT 0) Ac)))))) Ao) (Ab (BW (Am CN (pv 2) Al (Ar _)) (Ab (Aj 3 (Fb T Jt (hr.mono ⋯) rfl (Aa (pxT 0) (Aa (pv 1) Ac)))) (Ad (Ak (GK Uv (Aa (pxT 0) (Aa (pv 3) (Aa (Fb T Jt (hr.mono ⋯) rfl (Aa (pxT 0) (Aa (pv 1) Ac))) Ac))))))) Ao) (Ab (Aj 3 (Fb T Jt (hr.mono ⋯) rfl (Aa (pxT 0) (Aa (pv 1) Ac)))) (Ad (Ak (Ah aH (Aa (pv 2) (Aa (pv 3) (Aa (Fb T Jt (hr.mono ⋯) rfl (Aa (pxT 0) (Aa (pv 1) Ac))) Ac)))))))))))))))),?_⟩
 cases p with
 | lf=>
  obtain⟨q0,rfl,hq⟩:=P;obtain⟨g,_,_,q⟩:=h.o.resolve_right fun z=>z.1.elim;symm;exists BJ (SqT.of hq) FP ?_;walk_at"ew";exact fun x dx hx hdx ne=>⟨x,g,rfl,.go hx hdx ne fun H' s N=>⟨rfl,q x H' s N⟩⟩
 | each n r=>
  obtain⟨q0,rfl,hq⟩:=P;obtain⟨g,_,_,q⟩:=h.o.resolve_right fun z=>z.1.elim;symm;exists BJ (SqT.of hq) FP ?_;walk_at"nw";walk_at"nw";walk_at"ew";exists BJ (SqT.of hq) K5 ?_;exists BJ (SqT.of hq) aR ?_;exact fun x dx hx hdx ne=>⟨x,n,r,g,rfl,ok.2.2.1,by have:=ok.2.2.2;lia,.go hx hdx ne fun H' s N=>⟨rfl,q x H' s N⟩⟩
 | date nm m e=>
  obtain⟨q0,rfl,hq⟩:=P;symm;exists BJ (SqT.of hq) FP ?_;walk_at"nw";walk_at"nw";walk_at"nw";walk_at"ew";exact⟨_,a,nm,m,e,M,rfl,⟨q0,rfl,hq⟩,ok,h,Di⟩
 | pr w p p'=>
  obtain⟨q0,u,u',rfl,hq,P,P'⟩:=P;have dp:max p.deep p'.deep+1<d+1:=dp;have no:∀{z:String},z∈["all","none","each","date","not","later","every","of"]->V.str (Str.ofString w.s)≠V.str (Str.ofString z):=fun h z=>ACM w _ h (V.str.inj z);symm;exists BJ (SqT.of hq) FP ?_;exists CK (no nofun) ?_;exists CK (no nofun) ?_;exists CK (no nofun) ?_;exists CK (no nofun) ?_;exists CK (no nofun) ?_;exists CK (no nofun) ?_;exists CK (no nofun) ?_;exists CK (no nofun) ?_;exists BJ (SqT.of hq) K5 ?_;rcases h.o with ⟨g,kn,lz,q⟩ | ⟨⟨rfl,bad⟩,q⟩
  ·have lz:Eb (p.sz g) (p'.sz g)<=150000:=lz;have ll:=z9 (PT.szp ok.1 kn.2.1) (PT.szp ok.2 kn.2.2);exists⟨u,a,p,M,rfl,P,ok.1,⋯,⟨.inl ⟨g,kn.2.1,⋯,fun t H1 s1 T=>?_⟩⟩,Di⟩;exists BJ (SqT.of (s1 _ _ hq)) aR ?_;exists⟨u',a,p',M,rfl,P'.same s1,ok.2,⋯,⟨.inl ⟨g,kn.2.2,⋯,fun t' H2 s2 T'=>?_⟩⟩,Di.same s1⟩;exact⟨w,t,t',_,_,g,rfl,kn.1,T.same s2,T',by rw[PT.sz_nrm,PT.sz_nrm];exact lz,fun z H' s N=>q z H' ((s1.trans s2).trans s) N⟩
  ·refine⟨u,a,.lf,M,rfl,P,trivial,⋯,⟨.inl ⟨.sun 0 [] 0 [],trivial,by show(1:Int)<=150000;decide,fun t H1 s1 T=>?_⟩⟩,Di⟩;symm;exists BJ (SqT.of (s1 _ _ hq)) aR ?_;exact⟨u',a,p',M,rfl,P'.same s1,ok.2,⋯,⟨.inr ⟨bad,q.on s1⟩⟩,Di.same s1⟩
theorem Jt:C1 53 "made" ["plan","calendars"] ((Ry K ⟨Bl,BZ,BL,Ae,An,Bd,BV,[Bq,Ba,Ay,Aw,Bb]⟩) 41):=Za (k0:=12) (J:=1) (sp:=(Ry K ⟨Bl,BZ,BL,Ae,An,Bd,BV,[Bq,Ba,Ay,Aw,Bb]⟩)) (st:=bR) gX gG (by walk_at"g") (by walk_at"b") (fun _ _ _ _ h=>Yw h) (fun d _ _ R F=>by
 have hk:12<=12+1*d:=ja2 _ _;exact vA F R hk) 41
theorem JB:C1 132 "read_rule" ["text","calendars"] (yS K ⟨Bl,BZ,BL,Ae,An,Bd,BV,[Bq,Ba,Ay,Aw,Bb]⟩):=by
 refine ce' ["text","calendars","reader","plan"] ZG fun nd H vs Q E hr h T=>?_;obtain⟨a,p,M,rfl,ok,mn,q,Di⟩:=h;have tl:p.tx.length<=4000:=by have:=PT.tx_len ok;lia
 have dl:p.deep<=40:=by have:=PT.lv_br p;lia
 obtain⟨es,tk,dk,co⟩:=PT.rdy ok tl dl;have W:=PT.wf ok;refine⟨_,(Ab (BW (Dv (Cz (Ah MN (Aa (pv 0) Ac)))) (Ad Be) Ao) (Ab (Aj 2 (GK N7 (Aa (Ah dI (Aa (pv 0) Ac)) Ac))) (Ab (Aj 3 (Ah Gq (Aa (pv 2) Ac))) (Ab (BW (Am G6 (DG Ge Bk (pv 2)) Al (Ar _)) (Ad Be) Ao) (Ad (Ak (Fb T Jt (hr.mono nofun) rfl (Aa (pv 3) (Aa (pv 1) Ac))))))))),?_⟩
 symm;refine⟨_,rfl,tk,by rw[Do];exact tl,?_⟩;symm;exists Dp ?_;refine⟨_,rfl,tk,by rw[Bp];exact tl,by rw[Bp,es];exact co,by rw[Bp,es];exact dk,fun l H1 s1 t1=>?_⟩;rw[Bp,es,W.tk] at t1;symm;refine fun x dx hx hdx ne=>⟨x,dx,l,p.tok,rfl,Ai,Nr hx hdx ne _ _ t1,?_,PT.tok_ok ok,fun H2 k2 R2=>⟨rfl,?_⟩⟩
 ·have:=PT.tok_len p;lia
 have s2:=V6 hx hdx ne k2;have hxH:H x=none:=s1.free hx;have kbS:∀{H':Hp},KB x H2 H'->BP H H':=fun{H'} kb y o e=>kb y o (BX e hxH) ((s1.trans s2) _ _ e);symm;refine⟨x,p,[],rfl,by show Rd _ _ _ (p.tok++[]);rw[xy];exact R2,ok,trivial,⋯,∅,fun v H3 k3 R3 P3=>?_⟩;symm;obtain⟨d3,fs,hx3,_,l3⟩:=R3.ob;exists⟨x,d3,_,rfl,hx3,l3,?_⟩;exists⟨x,_,rfl,R3,?_⟩;refine IW (by rw[nJ];rfl) ?_;symm;have s3:=kbS k3;exact⟨v,a,p,M,rfl,P3,ok,⋯,q.on s3,Di.same s3⟩
theorem Ul:C0 3 "next_day" ["turn","day"] (yZ K):=by
 refine co' ["turn","day","bits"] bQ fun nd H vs Q E hr h=>?_;obtain⟨a,n,d,b,rfl,hS,h0,h1,hb,_,qN,q⟩:=h;refine⟨_,(Ab (Aj 2 (Et Km (Ah Ny (Aa (pv 0) (Aa (Lr JD (pv 1)) Ac))) Ag (fun _ _=>rfl)))
  (Ab (BW (Am CN (pv 2) Ag (Ar _))
   (Ad (Ak Gw))
   Ao)
  (Ad (Ak (Af Ci (Af Bx (pv 1) (cM jl5 ji2 ji3 Xn (Af Kc (pv 2) (Lr JD (pv 2))))) Ag))))),?_⟩
 symm;refine⟨a,n,-d,b,rfl,hS,h0,h1,hb,fun p hp=>?_⟩;have s1:=BR hp (.tup [.int n,.int ((lat n.toNat b ((-d)%n).toNat:Nat):Int)]);generalize hc:lat n.toNat b ((-d)%n).toNat=c at*
 have bit:∀i:Nat,i<n.toNat->c.testBit i=On n b ((i:Int)+d):=fun i hi=>by
  have:=pK (num:= -d) (d:=(i:Int)) h0 hb;rw[hc] at this;rw[show (i:Int)+d=(i:Int)- -d by lia,<-this];unfold On;rw[jl7 ⋯ ⋯,xc]
 have cl:c<2^n.toNat:=by rw[<-hc];exact Tz _ _ _
 symm;exists BJ (SqT.of Ai) at1 ?_;by_cases c0:c=0
 ·refine IK (by rw[c0];rfl) ?_;symm;refine qN (fun e=>?_) _ s1;have e1:=xk (e-d) (show n≠0 by lia);have e2:=xb (e-d) h0;have:=bit ((e-d)%n).toNat ⋯;rw[c0,jg9,jg0 e1] at this;rw[this];unfold On
  congr 2
  rw[Int.emod_add_emod]
  congr 1
  lia
 refine CK (fun z=>c0 (by injection z with z;lia)) ?_;symm;obtain⟨k,hk,hlow⟩:=zr c0;have kn:k<n.toNat:=by
  refine jj1 fun z=>?_;rw[high cl z] at hk;cases hk
 have la:=gQ k c hk hlow;have eb:Builtin.bitAnd (c:Int) (-(c:Int))=((2^k:Nat):Int):=by
  rw[dU c0];lia
 rw[eb,Kp (by have:=kq k;lia),pG];symm;refine q _ _ s1 ⋯ ?_ (fun e he1 he2=>?_)
 ·have:=bit k kn;rw[hk] at this;rw[this]
  congr 1
  lia
 ·have:=bit (e-d).toNat ⋯;rw[hlow (e-d).toNat ⋯,jg0 ⋯] at this;rw[this]
  congr 1
  lia
theorem Um:C0 3 "last_day" ["turn","day"] (ye K):=by
 refine co' ["turn","day","bits"] bV fun nd H vs Q E hr h=>?_;obtain⟨a,n,d,b,rfl,hS,h0,h1,hb,_,qN,q⟩:=h;refine⟨_,(Ab (Aj 2 (Et Km (Ah Ny (Aa (pv 0) (Aa (Af Ci (Lr JD (pv 1)) Ag) Ac))) Ag (fun _ _=>rfl)))
  (Ab (BW (Am CN (pv 2) Ag (Ar _))
   (Ad (Ak Gw))
   Ao)
  (Ad (Ak (Af Ci (Af Bx (pv 1) (cM jl5 ji2 ji3 Xn (pv 2))) (pxT 0)))))),?_⟩
 symm;refine⟨a,n,-d-1,b,rfl,hS,h0,h1,hb,fun p hp=>?_⟩;have s1:=BR hp (.tup [.int n,.int ((lat n.toNat b ((-d-1)%n).toNat:Nat):Int)]);have hS1:=s1.tup hS;generalize hc:lat n.toNat b ((-d-1)%n).toNat=c at*
 have bit:∀i:Nat,i<n.toNat->c.testBit i=On n b ((i:Int)+d+1):=fun i hi=>by
  have:=pK (num:= -d-1) (d:=(i:Int)) h0 hb;rw[hc] at this;rw[show (i:Int)+d+1=(i:Int)-(-d-1) by lia,<-this];unfold On;rw[jl7 ⋯ ⋯,xc]
 have cl:c<2^n.toNat:=by rw[<-hc];exact Tz _ _ _
 have per:∀e,On n b (e+n)=On n b e:=fun e=>by
  unfold On;rw[Int.add_emod_right]
 symm;exists BJ (SqT.of Ai) at1 ?_;by_cases c0:c=0
 ·refine IK (by rw[c0];rfl) ?_;symm;refine qN (fun e=>?_) _ s1;have e1:=xk (e-d-1) (show n≠0 by lia);have e2:=xb (e-d-1) h0;have:=bit ((e-d-1)%n).toNat ⋯;rw[c0,jg9,jg0 e1] at this;rw[this];unfold On
  congr 2
  rw[Int.add_assoc,Int.emod_add_emod]
  congr 1
  lia
 refine CK (fun z=>c0 (by injection z with z;lia)) ?_;symm;obtain⟨hk,hhigh⟩:=pW c0;have kn:c.log2<n.toNat:=by
  refine jj1 fun z=>?_;rw[high cl z] at hk;cases hk
 rw[Kp c0];symm;exists BJ hS1 at0 ?_;refine q _ _ s1 ⋯ ?_ (fun e he1 he2=>?_)
 ·have:=bit c.log2 kn;rw[hk] at this;rw[this,<-per]
  congr 1
  lia
 ·have:=bit (e-d-1+n).toNat ⋯;rw[hhigh (e-d-1+n).toNat ⋯,jg0 ⋯] at this;rw[this,<-per]
  congr 1
  lia
theorem Er:C0 2 "read_number" ["text"] mZ:=by
 refine co' ["text"] VM fun nd H vs Q E hr h=>?_;obtain⟨i,rfl,hi,q⟩:=h;have N:=Tr hi;have tk:=vH hi;refine⟨_,(Ab (BW (PW.pt (HW (Dv (Cz (Bh Ug rfl Jf jh2 (Aa (pv 0) (Aa (Xf rfl Ex qr (bh _)) Ac))))) (Fx (Dv (Cz (Ah Kz (Aa (pv 0) Ac))))))) (Ad Be) Ao) (Ad (Ak (Bm Lz rfl lC jn1 (Aa (pv 0) Ac))))),?_⟩
 symm;exists bx (.txt _ tk) ?_;exists Dp ?_;refine⟨_,rfl,tk,fun b H1 s1 hb=>?_⟩;have eb:b=true:=hb.mpr (by rw[Bp];exact N.1);subst eb;symm;exists Dp ?_;have r:=WK (z:=sW (nW i)) (by rw[Bp];exact N.1);rw[Bp,N.2] at r;refine⟨_,_,rfl,?_,r,q _ s1⟩;have:=Ig hi;rw[Do];exact zn this nofun
theorem Ky:C0 3 "read_numbers" ["word"] iz:=by
 refine co' ["word"] SM fun nd H vs Q E hr h=>?_;obtain⟨ns,rfl,hn,nl,sm,q⟩:=h;have sp:=cU hn sm;have jl:=Tq sm;exists⟨_,(Ad (Ak (Gf rfl (Gm ["word"] rfl ∅ rfl ∅ rfl ∅ ∅) (HR (GP ve jd7 jd8 Nq (pv 0) (Aa Al Ac))) (fun _ _ _ _=>Ff) (fun _ _ _ _=>(Ah Er (Aa (pv 0) Ac)))))),?_⟩;exists Gv (QD ?_);exists J2 ?_;exists⟨rfl,?_⟩;refine⟨_,44,rfl,by rw[show Str.ofString ","=⟨#[44]⟩ from by ac_rfl],nofun,by rw[Do];lia,fun l hl=>?_⟩;rw[sp];refine fresh hl fun H1 s1 t1=>?_;refine⟨l,rfl,⟨_,SqL.of t1⟩,?_⟩;refine Kw Rq (by rw[js];exact Ei ⋯) (fun D i ys H2=>H2 D=some (.lst ys)/\BP H1 H2/\ys=(ns.take i).map V.int) (fun D hD=>⟨Ai,BR hD _,rfl⟩)
  (fun D i ys H2 _ ⟨h1,h2,h3⟩=>⟨h1,by rw[h3,js];exact List.length_take_le _ _,SqL.of (h2 _ _ t1)⟩) (fun D i x ys H2 hD hx ⟨h1,h2,h3⟩=>?_) (fun D ys H2 hD ⟨h1,h2,h3⟩=>?_)
 ·rw[xa] at hx;obtain⟨n,hn,rfl⟩:=uu.mp hx;exists Jl (Gb ?_);refine⟨n,rfl,sm n (xi hn),fun H3 s3=>⟨s3 _ _ h1,Ai,Ez hD (h2.trans s3),?_⟩⟩;rw[ja4,hn,jc6,jb7,h3];rfl
 ·rw[js,jc9] at h3;subst h3;exact q D H2 (s1.free hD) (s1.trans h2) h1
theorem Nv:C0 1 "place_text" ["number"] mq:=by
 refine co' ["number"] XC fun nd H vs Q E hr h=>?_;obtain⟨n,rfl,hn,q⟩:=h;have tl:TL 1921 (Cr (n:Int)):=TL.int (xT hn);have dl:=qT hn;have id:=UJ n;have zl:=Dn (Cr (n:Int));exists⟨_,(Ad (Ak (GP ve PySem.F.slot_str_zfill PySem.F.type_str_zfill pD (Bm Bf rfl Ex qr (Aa (pv 0) Ac)) (Aa Ag Ac)))),?_⟩;exists J2 ?_;refine⟨_,rfl,xT hn,?_⟩;exists⟨rfl,?_⟩;have et:(Str.ofString (toString (n:Int)))=Cr (n:Int):=rfl;rw[et];by_cases s2:(2:Int)<=((Cr (n:Int)).length:Int)
 ·refine⟨_,2,rfl,rfl,nofun,nofun,fun z=>absurd s2 z,?_⟩;rw[xo s2];refine q _ ?_ ⟨tl.asc,⋯⟩;unfold aa;rw[xp ⋯]
 ·obtain⟨d,hd⟩:∃d,cpl (Cr (n:Int))=[d]:=by
   match hh:cpl (Cr (n:Int)) with
   | []=>exact absurd hh id.2.1
   | [d]=>exact⟨d,rfl⟩
   | a::b::r=>rw[hh] at zl;simp at zl;lia
  have dd:=id.1 d (by rw[hd];exact zv.mpr rfl);have ei:Cr (n:Int)=⟨#[d]⟩:=Gr (by rw[hd];rfl);have zf:=iW d dd.1 dd.2;have zfl:(zfilled ⟨#[d]⟩ 1).length=2:=by rw[<-Dn,zf];rfl
  rw[ei];have s2':¬(2:Int)<=(((⟨#[d]⟩:Str).length:Nat):Int):=by show ¬(2:Int)<=((1:Nat):Int);decide
  refine⟨_,2,rfl,rfl,nofun,nofun,fun _=>by show(zfilled ⟨#[d]⟩ 1).length<=sizeLine;rw[zfl];decide,?_⟩;rw[xp s2'];refine q (zfilled ⟨#[d]⟩ 1) ?_ ⟨GJ.mpr fun c hc=>?_,by rw[zfl];decide⟩
  ·rw[zf];unfold aa;rw[hd];rfl
  ·rw[zf] at hc;rcases qh.mp hc with e | e
   ·rw[e];decide
   ·cases zv.mp e;lia
theorem QV:C0 2 "date_text" ["date"] (tZ K):=by
 refine co' ["date","year","month","day"] ZW fun nd H vs Q E hr h=>?_;obtain⟨p,y,m,r,rfl,hp,hy,hm,hr',q⟩:=h;refine⟨_,(Ab (Aj 1 (pxT 0)) (Ab (Aj 2 (Ah Nv (Aa (pxT 0) Ac))) (Ab (Aj 3 (Ah Nv (Aa (pxT 0) Ac))) (Ad (Ak (gA (Ie (Te hr.toN (pv 1)) (Ie Al (Ie (Te hr.toN (pv 2)) (Ie Al (Ie (Te hr.toN (pv 3)) oN))))))))))),?_⟩
 symm;exists BJ hp (v:=.int y) rfl ?_;exists BJ hp (v:=.int (m:Int)) rfl ?_;exists⟨m,rfl,hm,fun z1 e1 t1=>?_⟩;exists BJ hp (v:=.int (r:Int)) rfl ?_;exists⟨r,rfl,hr',fun z2 e2 t2=>?_⟩;refine nU 0 nofun nofun rfl hy fun l1=>fV _ l1 nofun fun l2=>xK _ 61 l2 t1.len nofun rfl fun l3=>fV _ l3 nofun fun l4=>xK _ 61 l4 t2.len nofun rfl fun l5=>fU (fits l5 nofun) ?_;refine q _ ?_;rw[HS,HS,HS,HS,HS,e1,e2,e47];have e0:cpl Str.empty=[]:=rfl;rw[e0,ji0,ki,ki,ki];rfl
theorem aB:C0 4 "read_term" ["word"] mY:=by
 refine co' ["word","numbers","sign"] ZF fun nd H vs Q E hr h=>?_;obtain⟨a,b,n,rfl,sm,q⟩:=h;have jl:=Tq sm;have tl:(tW (1,a,b,n)).length<=200:=by show(GQ 44 ([a,b,n].map nW)).length+1<=_;simp only[qm,jf0] at jl;lia
 have l0:1<=(sW (tW (1,a,b,n))).length:=by rw[Do];show 1<=_+1;lia
 have eP:Str.ofString "+"=sW [43]:=∅;have e1:Txt.slice (sW (tW (1,a,b,n))) none (some 1)=Str.ofString "+":=by rw[eP];exact Gr (by rw[jC,Bp,Bp];rfl)
 have e2:Txt.slice (sW (tW (1,a,b,n))) (some 1) none=sW (GQ 44 ([a,b,n].map nW)):=Gr (by rw[QC l0,Bp,Bp];rfl);have fit:(sW (tW (1,a,b,n))).length<=sizeLine:=by rw[Do];exact zn tl nofun
 refine⟨_,(Ab (BW (PW.pt (XX (Am G6 (Cu W2 (pv 0) Ef (Dm Ag)) Al (Ar _)) (Rh (Am G6 (Cu W2 (pv 0) Ef (Dm Ag)) Al (Ar _))))) (Ad Be) Ao) (Ab (Aj 1 (Ah Ky (Aa (Cu W2 (pv 0) (Dm Ag) Ef) Ac))) (Ab (BW (Am G6 (Bh Bs rfl Es xh (Aa (pv 1) Ac)) Ag (Ar _)) (Ad Be) Ao) (Ab (Aj 2 (Fy (Am CN (Et Xx (pv 0) Ag) Al (Ar _)) Ag (Lr JD Ag))) (Ad (Ak (By (Aa (pv 2) (Aa (pxL 1) (Aa (pxL 1) (Aa (pxL 1) Ac))))))))))),?_⟩
 symm;refine⟨_,rfl,fit,?_⟩;rw[e1];symm;refine IW rfl ?_;exists Dp ?_;refine⟨_,rfl,fit,?_⟩;rw[e2];refine FW ?_;refine⟨[a,b,n],rfl,(fun z=>nomatch z),(by show 3<=3;decide),sm,fun l H1 hl u1 t1=>?_⟩;symm;exists⟨l,_,rfl,.inl (SqL.of t1),?_⟩;exists IW rfl ?_
 try refine Mi ?_
 symm;refine⟨_,0,43,rfl,rfl,fit,(by show atI (cpl (sW (tW (1,a,b,n)))) 0=some 43;rw[Bp];exact Dz (j:=0) rfl),?_⟩;symm;refine IK (by rw[eP];rfl) ?_;symm;exists Az (SqL.of t1) FP ?_;exists Az (SqL.of t1) K5 ?_;exists Az (SqL.of t1) aR ?_;refine⟨(by show 4<=sizeLine;decide),fun p hp=>?_⟩;exact q p _ (u1.trans (BR hp _)) Ai
theorem Js:C0 5 "read_terms" ["words"] iy:=by
 refine co' ["words"] W9 fun nd H vs Q E hr h=>?_;obtain⟨l,a,b,n,rfl,hl,sm,q⟩:=h;exists⟨_,(Ad (Ak (Gf rfl (Gm ["words"] rfl ∅ rfl ∅ rfl ∅ ∅) (HR (pv 0)) (fun _ _ _ _=>Ff) (fun _ _ _ _=>(Ah aB (Aa (pv 0) Ac)))))),?_⟩;exists Gv (QD ?_);refine⟨l,rfl,⟨_,SqL.of hl⟩,?_⟩;refine Kw Rq (Ei (by show 1<=1000;decide)) (fun D i ys H2=>H2 D=some (.lst ys)/\BP H H2/\ys.length<=i/\(i=1->∃p,ys=[.ref p]/\H2 p=some (.tup (tmV (1,a,b,n))))) (fun D hD=>⟨Ai,BR hD _,qg _,fun z=>nomatch z⟩)
  (fun D i ys H2 _ ⟨h1,h2,h3,_⟩=>⟨h1,h3,SqL.of (h2 _ _ hl)⟩) (fun D i x ys H2 hD hx ⟨h1,h2,h3,_⟩=>?_) (fun D ys H2 hD ⟨h1,h2,h3,h4⟩=>?_)
 ·obtain rfl:i=0:=by
   have:=(zd.mp hx).1;simpa [wvS] using this
  obtain rfl:V.str (sW (tW (1,a,b,n)))=x:=by simpa [wvS] using hx
  obtain rfl:ys=[]:=jb6.mp (Nat.le_zero.mp h3);exists Jl (Gb ?_);refine⟨a,b,n,rfl,sm,fun p H3 s3 hp=>⟨s3 _ _ h1,Ai,Ez hD (h2.trans s3),qg _,fun _=>⟨p,rfl,?_⟩⟩⟩;rw[Ax fun z=>by rw[z,s3 _ _ h1] at hp;cases hp];exact hp
 ·obtain⟨p,rfl,hp⟩:=h4 rfl;exact q D p H2 h2 h1 hp
theorem dJ:C0 9 "read_sun" ["words"] (Yt K ⟨Bl,BZ,BL,Ae,An,Bd,BV,[Bq,Ba,Ay,Aw,Bb]⟩ "sun"):=by
 refine co' ["words","start","lengths","leap"] bO fun nd H vs Q E hr h=>?_;obtain⟨l,g,rfl,hl,hg,o,q⟩:=h;have gd:=o.good;have bs:=o.bs;cases o with
 | moon=>exact absurd hg (by show ¬"moon"="sun";decide)
 | sun hs l0 l1 hm p0 p1 o os=>
 rename_i s' lp a b n ls
 have ms:∀n∈ls,Sm n:=fun n hn=>sm1 (by have:=hm n hn;lia) (by have:=hm n hn;lia);refine⟨_,(Ab (BW (Am Fg (Bh Bs rfl Es xh (Aa (pv 0) Ac)) Ag (Ar _)) (Ad Be) Ao) (Ab (Aj 1 (Ah Er (Aa (pxL 0) Ac))) (Ab (Aj 2 (Ah Ky (Aa (pxL 0) Ac))) (Ab (BW (Am CN (Bh Bs rfl Es xh (Aa (pv 0) Ac)) Ag (Ar _)) (Ad (Ak (zV N6 (hr.mono nofun) rfl (Aa (pv 1) (Aa (pv 2) Ac))))) Ao) (Ab (BW (PW.pt (HW (Am G6 (pxL 0) Al (Ar _)) (Fx (Am Fg (Bh Bs rfl Es xh (Aa (pv 0) Ac)) Ag (Ar _))))) (Ad Be) Ao) (Ab (Aj 3 (Ah Er (Aa (pxL 0) Ac))) (Ad (Ak (GK Us (Aa (pv 1) (Aa (pv 2) (Aa (pv 3) (Aa (Ah Js (Aa (Cu Fp (pv 0) (Dm Ag) Ef) Ac)) Ac))))))))))))),?_⟩
 symm;exists⟨l,_,rfl,.inl (SqL.of hl),?_⟩;refine CK (by show ¬(5:Int)<2;decide) ?_;symm;refine Az (SqL.of hl) FP ?_;refine FW ?_;refine⟨s',rfl,hs,fun H1 s1=>?_⟩;have h1:=s1 _ _ hl;symm;refine Az (SqL.of h1) K5 ?_;refine FW ?_;refine⟨ls,rfl,(fun z=>by rw[z] at l0;exact absurd l0 nofun),l1,ms,fun l2 H2 hl2 s2 t2=>?_⟩;have h2:=s2 _ _ h1;symm;exists⟨l,_,rfl,.inl (SqL.of h2),?_⟩;exists CK (fun z=>nomatch V.int.inj z) ?_;exists Az (SqL.of h2) aR ?_;exists IW (ws_eq _) ?_;exists⟨l,_,rfl,.inl (SqL.of h2),?_⟩;refine CK (by show ¬(5:Int)<5;decide) ?_;symm;refine Az (SqL.of h2) wJ ?_;refine FW ?_;refine⟨lp,rfl,sm1 ⋯ ⋯,fun H3 s3=>?_⟩;have h3:=s3 _ _ h2;symm;refine Gu (SqL.of h3) fun u hu=>?_;rw[show Iv (wvS (wC (.sun s' ls lp [(1,a,b,n)]))) (some 4) none=wvS [tW (1,a,b,n)] from Ii _ 4];refine fresh hu fun H4 s4 t4=>?_;refine FW ?_;exists⟨u,a,b,n,rfl,t4,o.sm,fun l5 p H5 s5 t5 hp=>?_⟩;refine fun x dx hx hdx ne=>pR hx hdx ne (s5 _ _ (s4 _ _ (s3 _ _ t2))) (.cons hp .nil) (.inr ⟨l5,rfl,t5⟩) gd bs fun H6 s6 S6=>⟨rfl,?_⟩;exact q x _ ((s1.trans s2).trans ((s3.trans s4).trans (s5.trans s6))) S6
theorem aC:C0 7 "read_moon" ["words"] (Yt K ⟨Bl,BZ,BL,Ae,An,Bd,BV,[Bq,Ba,Ay,Aw,Bb]⟩ "moon"):=by
 refine co' ["words","place","days","many","start","days_base","days_terms","many_base","many_terms"] ZJ fun nd H vs Q E hr h=>?_;obtain⟨l,g,rfl,hl,hg,o,q⟩:=h;have gd:=o.good;have bs:=o.bs;cases o with
 | sun=>exact absurd hg (by show ¬"sun"="moon";decide)
 | moon hs d0 d1 o n2 m0 m1 o' y2=>
 rename_i s' bd a b n bm c e y
 have sbd:Sm bd:=sm1 ⋯ ⋯;have sbm:Sm bm:=sm1 ⋯ ⋯;have es:Str.ofString "/"=sW (sg "/"):=∅;have nn:∀{i:Int},Sm i->sW (nW i)≠Str.ofString "/":=fun{i} hi z=>by
  rw[es] at z;have z:=yi cpl z;rw[Bp,Bp] at z;have:=Ke hi 47 (by rw[z];ac_rfl);lia
 have nt:∀{t:Tm},sW (tW t)≠Str.ofString "/":=fun{t} z=>by
  rw[es] at z;have z:=yi cpl z;rw[Bp,Bp,show sg "/"=[47] by ac_rfl] at z;exact absurd (List.cons.inj z).1 nofun
 have eW:wvS (wC (.moon s' bd [(1,a,b,n)] bm [(1,c,e,y)]))=([sW (nW s'),sW (nW bd),sW (tW (1,a,b,n)),Str.ofString "/",sW (nW bm),sW (tW (1,c,e,y))]:List Str).map V.str:=by
  rw[es];rfl
 rw[eW] at hl;refine⟨_,(Ab (BW (Am G6 (GP vc PySem.F.slot_list_count PySem.F.type_list_count jd (pv 0) (Aa Al Ac)) Ag (Ar _)) (Ad Be) Ao) (Ab (Aj 1 (GP vc PySem.F.slot_list_index PySem.F.type_list_index jc (pv 0) (Aa Al Ac))) (Ab (Aj 2 (Cu Fp (pv 0) (Dm Ag) (Dm (pv 1)))) (Ab (Aj 3 (Cu Fp (pv 0) (Dm (Af Bx (pv 1) Ag)) Ef)) (Ab (BW (PW.pt (HW (Am Fg (Bh Bs rfl Es xh (Aa (pv 2) Ac)) Ag (Ar _)) (Fx (Am Fg (Bh Bs rfl Es xh (Aa (pv 3) Ac)) Ag (Ar _))))) (Ad Be) Ao) (Ab (Aj 4 (Ah Er (Aa (pxL 0) Ac))) (Ab (Aj 5 (Ah Er (Aa (pxL 2) Ac))) (Ab (Aj 6 (Ah Js (Aa (Cu Fp (pv 2) (Dm Ag) Ef) Ac))) (Ab (Aj 7 (Ah Er (Aa (pxL 3) Ac))) (Ab (Aj 8 (Ah Js (Aa (Cu Fp (pv 3) (Dm Ag) Ef) Ac))) (Ad (Ak (GK RN (Aa (pv 4) (Aa (GK Gn (Aa (pv 5) (Aa (pv 6) Ac))) (Aa (GK Gn (Aa (pv 7) (Aa (pv 8) Ac))) Ac)))))))))))))))),?_⟩
 symm;exists J2 ?_;exists⟨.inl ⟨rfl,_,SqL.of hl⟩,?_⟩;refine⟨l,_,_,rfl,rfl,SqL.of hl,?_⟩;rw[je1 (nn hs),je1 (nn sbd),je1 nt,List.count_cons_self,je1 (nn sbm),je1 nt,List.count_nil];symm;exists IW rfl ?_;exists J2 ?_;exists⟨.inl ⟨rfl,_,SqL.of hl⟩,?_⟩;refine⟨l,_,Str.ofString "/",3,rfl,rfl,SqL.of hl,rfl,?_,?_⟩
 ·intro m hm z
  match m,hm,z with
  | 0,_,z=>exact nn hs (xz z)
  | 1,_,z=>exact nn sbd (xz z)
  | 2,_,z=>exact nt (xz z)
 symm;refine Gu (SqL.of hl) fun u1 hu1=>?_;refine fresh hu1 fun H1 s1 t1=>?_;have t1:H1 u1=some (.lst (wvS [nW bd,tW (1,a,b,n)])):=t1;have l1:=s1 _ _ hl;symm;refine Gu (SqL.of l1) fun u2 hu2=>?_;refine fresh hu2 fun H2 s2 t2=>?_;have t2:H2 u2=some (.lst (wvS [nW bm,tW (1,c,e,y)])):=t2;have l2:=s2 _ _ l1;have k2:=s2 _ _ t1;symm;exists⟨u1,_,rfl,.inl (SqL.of k2),?_⟩;refine CK (by show ¬(2:Int)<1;decide) ?_;symm;exists⟨u2,_,rfl,.inl (SqL.of t2),?_⟩;refine CK (by show ¬(2:Int)<1;decide) ?_;symm;refine Az (SqL.of l2) FP ?_;refine FW ?_;refine⟨s',rfl,hs,fun H3 s3=>?_⟩;have k3:=s3 _ _ k2;have t3:=s3 _ _ t2;symm;refine Az (SqL.of k3) FP ?_;refine FW ?_;refine⟨bd,rfl,sbd,fun H4 s4=>?_⟩;have k4:=s4 _ _ k3;have t4:=s4 _ _ t3;symm;refine Gu (SqL.of k4) fun u5 hu5=>?_;rw[show Iv (wvS [nW bd,tW (1,a,b,n)]) (some 1) none=wvS [tW (1,a,b,n)] from Ii _ 1];refine fresh hu5 fun H5 s5 t5=>?_;refine FW ?_;refine⟨u5,a,b,n,rfl,t5,o.sm,fun ld pd H6 s6 D6 P6=>?_⟩;have t6:=s6 _ _ (s5 _ _ t4);symm;refine Az (SqL.of t6) FP ?_;refine FW ?_;refine⟨bm,rfl,sbm,fun H7 s7=>?_⟩;have t7:=s7 _ _ t6;symm;refine Gu (SqL.of t7) fun u8 hu8=>?_;rw[show Iv (wvS [nW bm,tW (1,c,e,y)]) (some 1) none=wvS [tW (1,c,e,y)] from Ii _ 1];refine fresh hu8 fun H8 s8 t8=>?_;refine FW ?_;refine⟨u8,c,e,y,rfl,t8,o'.sm,fun lm pm H9 s9 M9 Q9=>?_⟩;have s69:=s7.trans (s8.trans s9);symm;refine fun y1 dy hy hdy ne=>Xy hy hdy ne (.cons (s69 _ _ P6) .nil) (.inr ⟨ld,rfl,s69 _ _ D6⟩) o.tm (by show 1<=6;decide) (pY gd.fd gd.gd) (YW o.tm gd.fd (by rw[cH o.n0];have:=o.n0;lia)) fun H10 s10 N10=>⟨rfl,?_⟩;clear hy hdy ne;symm;refine fun y2 dy hy hdy ne=>Xy hy hdy ne (.cons (s10 _ _ Q9) .nil) (.inr ⟨lm,rfl,s10 _ _ M9⟩) o'.tm (by show 1<=6;decide) (pY gd.fm ⋯) (YW o'.tm gd.fm (by rw[cH o'.n0];have:=o'.n0;lia)) fun H11 s11 O11=>⟨rfl,?_⟩;have N11:=N10.same s11;clear hy hdy ne;symm;refine fun x dx hx hdx ne=>jr hx hdx ne N11 O11 gd bs fun H12 s12 S12=>⟨rfl,?_⟩;exact q x _ (((s1.trans s2).trans (s3.trans s4)).trans (((s5.trans s6).trans s69).trans ((s10.trans s11).trans s12))) S12
theorem Ej:C0 10 "read_calendar" ["text"] (mj K ⟨Bl,BZ,BL,Ae,An,Bd,BV,[Bq,Ba,Ay,Aw,Bb]⟩):=by
 refine co' ["text","words"] Qp fun nd H vs Q E hr h=>?_;obtain⟨g,rfl,o,q⟩:=h;obtain⟨sp,tl,tk⟩:=o.tx;refine⟨_,(Ab (BW (Dv (Cz (Ah MN (Aa (pv 0) Ac)))) (Ad Be) Ao) (Ab (Aj 1 (GP ve jd7 jd8 Nq (pv 0) (Aa Al Ac))) (Ab (BW (Am CN (pxL 1) Al (Ar _)) (Ad (Ak (Ah dJ (Aa (Cu Fp (pv 1) (Dm Ag) Ef) Ac)))) Ao) (Ab (BW (Am CN (pxL 1) Al (Ar _)) (Ad (Ak (Ah aC (Aa (Cu Fp (pv 1) (Dm Ag) Ef) Ac)))) Ao) (Ad Be))))),?_⟩
 symm;refine⟨_,rfl,tk,by rw[Do];lia,?_⟩;symm;exists Dp ?_;exists J2 ?_;exists⟨rfl,?_⟩;refine⟨_,32,rfl,by rw[show Str.ofString " "=⟨#[32]⟩ from by ac_rfl],nofun,tk.len,fun l hl=>?_⟩;refine fresh hl fun H1 s1 t1=>?_;have t1:H1 l=some (.lst (wvS (wdC g))):=by rw[t1,bF,Bp,sp,vk];rfl
 symm;exists Az (SqL.of t1) FP ?_;have ec:Iv (wvS (wdC g)) (some 1) none=wvS (wC g):=Ii _ 1;cases hg:xY g with
 | true=>
  have hh:hC g="sun":=by cases g with
   | sun=>rfl
   | moon=>cases hg
  rw[hh];exists IK (ws_eq _) ?_;refine Gu (SqL.of t1) fun u hu=>?_;rw[ec];refine FW ?_;exact⟨u,g,rfl,Ai,hh,o,fun x H3 s3 C=>q x _ ((s1.trans (BR hu _)).trans s3) C⟩
 | false=>
  have hh:hC g="moon":=by cases g with
   | sun=>cases hg
   | moon=>rfl
  rw[hh];exists CK (Ye ∅) ?_;exists Az (SqL.of t1) FP ?_;rw[hh];exists IK (ws_eq _) ?_;refine Gu (SqL.of t1) fun u hu=>?_;rw[ec];refine FW ?_;exact⟨u,g,rfl,Ai,hh,o,fun x H3 s3 C=>q x _ ((s1.trans (BR hu _)).trans s3) C⟩
theorem Uj:C0 1 "words_of_row" ["row"] yR:=by
 refine co' ["row","words","form","wanted"] SJ fun nd H vs Q E hr h=>?_;obtain⟨N,R,rfl,NN,ok,q⟩:=h;have tok:=Row.tok NN ok;obtain⟨rs,eh⟩:=R.head (N:=N);have e32:Str.ofString " "=⟨#[32]⟩:=∅;refine⟨_,(Ab (BW (Dv (Cz (Bh Ug rfl Jf jh2 (Aa (pv 0) (Aa (Xf rfl Ex qr (bh _)) Ac)))))
  (Ad Be)
  Ao)
  (Ab (Aj 1 (GP ve jd7 jd8 Nq (pv 0) (Aa Al Ac)))
  (Ab (BW (Xa (cO (pxL 1) (Cg rfl Gg.m (Jk _))))
   (Ad Be)
   Ao)
  (Ab (Aj 2 (Th (Cg rfl Gg.m (Jk _)) (pxL 1) (fun _ _=>rfl)))
  (Ab (JG (BW (Am CN (Et Km (pv 2) (Lr JD Ag) (fun _ _=>rfl)) Al (Ar _))
   (Ad (Aj 1 (GP ve jd7 jd8 jY (pv 0) (Aa Al (Aa (Bh Bs rfl Es xh (Aa (pv 2) Ac)) Ac)))))
   Ao))
  (Ab (Aj 3 (Af Bx (Bh Bs rfl Es xh (Aa (pv 2) Ac)) Ag))
  (Ab (BW (PW.pt (HW (Am Fg (Bh Bs rfl Es xh (Aa (pv 1) Ac)) (pv 3) (Ar _)) (Fx (PW.pt (XX (Am Iz (Bh Bs rfl Es xh (Aa (pv 1) Ac)) (pv 3) (Ar _)) (Rh (Am G6 (pxL 1) Al (Ar _))))))))
   (Ad Be)
   Ao)
  (Ad (Ak (pv 1)))))))))),?_⟩
 symm;exists bx (.txt _ tok) ?_;exists Dp ?_;exists J2 ?_;exists⟨rfl,?_⟩;refine⟨_,32,rfl,by rw[e32],nofun,tok.len,fun l hl=>?_⟩;refine fresh hl fun H1 s1 t1=>?_;rw[bF,Bp,eh,qo,qo,FT] at t1;symm;unfold eE;symm;exists Az (SqL.of t1) FP ?_;refine⟨_,_,.inr R.hd,rfl,Gg.d,rfl,?_⟩;rw[UT];exists⟨_,rfl,Dp ?_⟩;unfold bC;symm;exists Az (SqL.of t1) FP ?_;exists⟨_,_,.inr R.hd,_,rfl,Gg.d,rfl,UT _ R,?_⟩;refine G9 (fun Z' H'=>BP H H'/\∃l',An3 (H l'=none) (Z'=[some (.str (sW (R.T N))),some (.ref l'),some (.ref (Zw R.fi)),none]) (H' l'=some (.lst (.str R.hd::wkV N R.ws)))) ?_ ?_
 ·symm;rcases Row.kind NN ok with ⟨i,w,hi,ew⟩ | ⟨e1,z,hz,e2⟩
  ·have fs:=Gg.s R;rw[ew] at fs;exists BJ (fs _) (show _=some (V.str "TEXT") from rfl) ?_;exists IK rfl ?_;exists J2 ?_;exists⟨rfl,?_⟩;exists⟨_,_,rfl,.inr (fs _),?_⟩;refine⟨_,32,cpl R.hd,N i,w,rfl,by rw[e32];rfl,nofun,?_,fun y=>((X3 R).1 32 y).2 rfl,fun y=>by have:=(Lq.wc (NN.nm i hi)).2 32 y;unfold wch at this;lia,tok.len,fun l2 h2=>fresh h2 fun H2 s2 t2=>?_⟩
   ·show cpl (sW (R.T N))=_;rw[Bp];unfold Row.T;rw[ew];rfl
   symm;refine⟨s1.trans s2,l2,s1.free h2,rfl,?_⟩;rw[t2,ew];exact yi (fun z=>some (HO.lst (V.str z::_))) (FT R.hd)
  ·exists BJ (Gg.s R _) e2 ?_;exists CK (fun y=>hz (V.str.inj y)) ?_;refine⟨s1,l,hl,rfl,?_⟩;rw[eh] at e1;rw[t1,(List.cons.inj e1).2];unfold wkV;rw[vk,vk];rfl
 rintro Z' H2 ⟨s2,l',hl',rfl,t2⟩;have ln:((V.str R.hd::wkV N R.ws).length:Int)=((R.ws.map fun w=>V.str w.k).length:Int)+1:=by unfold wkV;rw[qm,js,js];lia
 symm;exists⟨_,_,rfl,.inr (Gg.s R _),?_⟩;exists⟨_,_,rfl,.inl (SqL.of t2),?_⟩;rw[ln];exists CK ⋯ ?_;exists⟨_,_,rfl,.inl (SqL.of t2),?_⟩;rw[ln];refine CK ⋯ ?_;exists Dp ?_;exact q l' H2 hl' s2 t2
theorem WT:C0 1 "kept_by" ["kept","name"] yf:=by
 refine co' ["kept","name"] jK fun nd H vs Q E hr h=>?_;obtain⟨a,kv,nm,v,rfl,ha,hv,q⟩:=h;have dg:RX H a (.str (sW nm)) (some v):=by rw[<-hv];exact RX.k (k:=.inr (sW nm)) ha
 refine⟨_,(Ab (BW (Xa (V2 (gY hr) (pv 1) (pv 0)))
  (Ad Be)
  Ao)
  (Ad (Ak (gC (gY hr) (pv 0) (pv 1) (fun _ _=>rfl))))),?_⟩
 symm;unfold Wo;symm;refine⟨a,_,rfl,dg,?_⟩;refine⟨_,rfl,?_⟩;exists Dp ?_;unfold lZ;symm;exact⟨a,v,rfl,dg,q⟩
theorem aD:C0 1 "read_date" ["text"] Mw:=co (st:=ZK) (by walk_at"g") (by walk_at"b") fun _=>⟨fun _ _ _ _ h=>h.elim,fun _ _ _ _ _ _ _ _ _ _ _ _ _ h=>h.elim⟩
theorem aK:C0 3 "looked_up" ["desk","kind","word"] (yd Bl):=by
 refine co' ["desk","kind","word"] ZQ fun nd H vs Q E hr h=>?_;obtain⟨x,N,kv,kr,k,rfl,NN,ok,⟨dx,a,r,hx,ha',hr'⟩,hc',hn,q⟩:=h;have ne:∀{a b:String},decide (Str.ofString a=Str.ofString b)=false->V.str (Str.ofString a)≠V.str (Str.ofString b):=fun h z=>of_decide_eq_false h (V.str.inj z);refine⟨_,(Ab (BW (PW.pt (XX (Am CN (pv 1) Al (Ar _)) (Rh (Dv (Cz (Ah WW (Aa (pv 2) Ac))))))) (Ad Be) Ao) (Ab (BW (Am CN (pv 1) Al (Ar _)) (Ad (Ak (Ah WT (Aa (Bc (pv 0) (by rfl)) (Aa (pv 2) Ac))))) Ao) (Ab (BW (Am CN (pv 1) Al (Ar _)) (Ad (Ak (Ah WT (Aa (Bc (pv 0) (by rfl)) (Aa (pv 2) Ac))))) Ao) (Ab (BW (Am CN (pv 1) Al (Ar _)) (Ad (Ak (Ah Er (Aa (pv 2) Ac)))) Ao) (Ab (BW (Am CN (pv 1) Al (Ar _)) (Ad (Ak (Ah aD (Aa (pv 2) Ac)))) Ao) (Ad (Ak (pv 2)))))))),?_⟩
 symm;cases k with
 | nm n=>
  exists IK rfl ?_;refine⟨_,rfl,⟨GJ.mpr (by rw[Bp];exact(Wk.box NN ok).1),by rw[Do];have:=(Wk.box NN ok).2.1;lia⟩,fun v H1 s1 hv=>?_⟩;rw[hv.mpr (by rw[Bp];exact NN.nm _ ok)];exists⟨_,rfl,Dp ?_⟩;exists CK (ne ∅) ?_;exists CK (ne ∅) ?_;exists CK (ne ∅) ?_;exists CK (ne ∅) ?_;exact q _ _ s1 rfl
 | tx d=>
  refine CK (ne ∅) ?_;exists Dp ?_;exists CK (ne ∅) ?_;exists CK (ne ∅) ?_;exists CK (ne ∅) ?_;exists CK (ne ∅) ?_;exact q _ _ (BP.refl _) rfl
 | ru n=>
  obtain⟨v,hv⟩:=hn n rfl;refine CK (ne ∅) ?_;exists Dp ?_;exists CK (ne ∅) ?_;exists IK rfl ?_;exists⟨x,Bl,dx,_,_,rfl,hx,Ce,HF,rfl,?_⟩;exact⟨r,kr,N n,v,rfl,hr',hv,q v _ (BP.refl _) hv⟩
 | ca n=>
  obtain⟨v,hv⟩:=hc' n rfl;refine CK (ne ∅) ?_;exists Dp ?_;exists IK rfl ?_;exists⟨x,Bl,dx,_,_,rfl,hx,Ce,Dl,rfl,?_⟩;exact⟨a,kv,N n,v,rfl,ha',hv,q v _ (BP.refl _) hv⟩
 | nu i=>
  refine CK (ne ∅) ?_;exists Dp ?_;exists CK (ne ∅) ?_;exists CK (ne ∅) ?_;exists IK rfl ?_;exact⟨i,rfl,ok,fun H1 s1=>q _ _ s1 rfl⟩
theorem Vm:C0 2 "named_rules" ["desk","names"] (tG Bl):=by
 refine co' ["desk","names"] VN fun nd H vs Q E hr h=>?_;obtain⟨x,l,rfl,hl,q⟩:=h;exists⟨_,(Ad (Ak (Gf rfl (GD ["desk","names"] ["desk","names"] rfl rfl (by with_unfolding_all rfl) ∅ rfl ∅ rfl ∅ (by walk_at"fm") (by with_unfolding_all rfl) (by with_unfolding_all rfl)) (HR (pv 1)) (fun _ _ _ _=>Ff) (fun _ _ _ _=>ACO)))),?_⟩;exists Gv (QD ?_);refine⟨l,rfl,⟨_,SqL.of hl⟩,?_⟩;refine Ld (Rq (xs:=[])) (by show 0<sizeLine;decide) ?_ (fun _=>true) (fun _=>V.non) (fun x hx=>nomatch hx) (fun x hx=>nomatch hx) (fun D hD=>?_)
 ·exact fun D ys hD=>SqL.of (by rw[Ax (BX hl hD)];exact hl)
 ·refine fresh hD fun H1 s1 t1=>?_;exact q D H1 hD s1 t1
theorem Z9:C0 70 "tell_date" ["given"] (sU K ⟨Bl,BZ,BL,Ae,An,Bd,BV,[Bq,Ba,Ay,Aw,Bb]⟩):=by
 refine co' ["given"] Y7 fun nd H vs Q E hr h=>?_;obtain⟨l,z,d,c,rfl,hl,S,sd,q⟩:=h;exists⟨_,(Ad (Ak (Ah QV (Aa (Ga (k:=6) (Eg.cons Br Fo nofun (Eg.cons Bj FN nofun (Eg.cons CZ Jb nofun Eg.nil))) (hr.mono nofun) (pxL 0) (Aa (pxL 0) Ac)) Ac)))),?_⟩;exists Az (SqL.of hl) FP ?_;obtain⟨C,dx,fs,sp,hm,hx,l1,go⟩:=S.dt;exists⟨z,C,dx,fs,sp,hm,rfl,hx,l1,?_⟩;exists Az (SqL.of hl) K5 ?_;refine go S ((JP sd).mono nofun) fun p y m r H1 s1 hp D by' m26 r6 m1 r1=>?_
 have:=q H1 s1;rw[qM S.good D] at this;obtain⟨m',rfl⟩:∃m':Nat,m=(m':Int):=⟨m.toNat,⋯⟩;obtain⟨r',rfl⟩:∃r':Nat,r=(r':Int):=⟨r.toNat,⋯⟩;have e60:(10:Nat)^60=1000000000000000000000000000000000000000000000000000000000000:=nofun;symm;refine⟨p,y,m',r',rfl,SqT.of hp,pF by',⋯,⋯,fun t et=>?_⟩;rw[xc,xc,<-(show cpl t=Z2 y m' r' from et),FT] at this;exact this
theorem kW:C0 70 "tell_on" ["given"] (ABl K Bd [Bq,Ba,Ay,Aw,Bb]):=by
 refine co' ["given"] jG fun nd H vs Q E hr h=>?_;obtain⟨l,y,n,d,b,rfl,hl,R,q⟩:=h;exists⟨_,(Ad (Ak (Fy (Cz (Ga aO (hr.mono nofun) (pxL 0) (Aa (pxL 0) Ac))) Al Al))),?_⟩
 try refine Mi ?_
 symm;exists Az (SqL.of hl) FP ?_;obtain⟨C,dr,fs,m,hr,_,_,l3⟩:=R.mt;exists⟨y,C,dr,fs,_,m _,rfl,hr,l3,?_⟩;exists Az (SqL.of hl) K5 ?_;exists⟨jj8,y,n,d,b,rfl,R,?_⟩;cases hb:On n b d with
 | true=>
  rw[hb] at q;exists Gb ?_;exact q
 | false=>
  rw[hb] at q;exists Dp ?_;exact q
theorem K3:C0 1 "day_or_never" ["day"] eV:=by
 refine co' ["day"] Sh (len:=by intro _ _ _ _ h;obtain⟨r,rfl,_⟩:=h;cases r<;>rfl) fun nd H vs Q E hr h=>?_;obtain⟨r,rfl,o,q⟩:=h;exists⟨_,(Ad (Ak (Fy (Am Jm (pv 0) Gw (Ar _)) Al (Bm Bf rfl Ex qr (Aa (pv 0) Ac))))),?_⟩
 try refine Mi ?_
 symm;exists⟨rfl,?_⟩;cases r with
 | none=>
  exists Gb ?_;exact q
 | some i=>
  exists Dp ?_;refine⟨_,rfl,o i rfl,?_⟩;have q:Q (.str (sW (nW i))) H:=q
  rwa [show sW (nW i)=Cr i from FT _] at q
theorem Z7:C0 70 "tell_next" ["given"] (mU K Bd [Bq,Ba,Ay,Aw,Bb] RV):=by
 refine co' ["given"] Y5 fun nd H vs Q E hr h=>?_;obtain⟨l,y,n,d,b,rfl,hl,R,sd,g⟩:=h;have n1:=R.n1;exists⟨_,(Ad (Ak (Ah K3 (Aa (Ah Ul (Aa (FJ Fz (pxL 0)) (Aa (pxL 0) Ac))) Ac)))),?_⟩;exists Az (SqL.of hl) FP ?_;obtain⟨C,dr,fs,m,hr,l1,_⟩:=R.mt;exists⟨y,C,dr,fs,_,m _,rfl,hr,l1,?_⟩;exists⟨jj8,y,n,b,rfl,R,fun p hp=>?_⟩;exists Az (SqL.of hl) K5 ?_;refine⟨p,n,d,b,rfl,SqT.of hp,R.n0,R.n1,R.lt,JP sd,fun no H1 s1=>?_,fun r H1 s1 r1 r2 r3=>?_⟩
 ·symm;exact⟨none,rfl,(fun _ z=>nomatch z),g.1 no H1 s1⟩
 ·have N:RV (On n b) d r:=⟨r1,r2,r3⟩;have:=V4 R.n0 N;symm;exact⟨some r,rfl,fun _ z=>by cases z;exact Rk sd ⋯ ⋯,g.2 r H1 s1 N⟩
theorem Z8:C0 70 "tell_last" ["given"] (mU K Bd [Bq,Ba,Ay,Aw,Bb] RW):=by
 refine co' ["given"] Y6 fun nd H vs Q E hr h=>?_;obtain⟨l,y,n,d,b,rfl,hl,R,sd,g⟩:=h;have n1:=R.n1;exists⟨_,(Ad (Ak (Ah K3 (Aa (Ah Um (Aa (FJ Fz (pxL 0)) (Aa (pxL 0) Ac))) Ac)))),?_⟩;exists Az (SqL.of hl) FP ?_;obtain⟨C,dr,fs,m,hr,l1,_⟩:=R.mt;exists⟨y,C,dr,fs,_,m _,rfl,hr,l1,?_⟩;exists⟨jj8,y,n,b,rfl,R,fun p hp=>?_⟩;exists Az (SqL.of hl) K5 ?_;refine⟨p,n,d,b,rfl,SqT.of hp,R.n0,R.n1,R.lt,JP sd,fun no H1 s1=>?_,fun r H1 s1 r1 r2 r3=>?_⟩
 ·symm;exact⟨none,rfl,(fun _ z=>nomatch z),g.1 no H1 s1⟩
 ·have N:RW (On n b) d r:=⟨r1,r2,r3⟩;have:=V5 R.n0 N;symm;exact⟨some r,rfl,fun _ z=>by cases z;exact Rk sd ⋯ ⋯,g.2 r H1 s1 N⟩
theorem YG:C0 70 "tell_count" ["given"] (yP K Bd [Bq,Ba,Ay,Aw,Bb]):=by
 refine co' ["given"] W6 fun nd H vs Q E hr h=>?_;obtain⟨l,y,n,d,e,b,rfl,hl,R,sd,se,q⟩:=h;exists⟨_,(Ad (Ak (Bm Bf rfl Ex qr (Aa (Ah Uo (Aa (FJ Fz (pxL 0)) (Aa (pxL 0) (Aa (pxL 0) Ac)))) Ac)))),?_⟩;exists Az (SqL.of hl) FP ?_;obtain⟨C,dr,fs,m,hr,l1,_⟩:=R.mt;exists⟨y,C,dr,fs,_,m _,rfl,hr,l1,?_⟩;exists⟨jj8,y,n,b,rfl,R,fun p hp=>?_⟩;exists Az (SqL.of hl) K5 ?_;exists Az (SqL.of hl) aR ?_;exists⟨p,n,d,e,b,rfl,SqT.of hp,R.n0,R.n1,R.lt,(JP sd).mono nofun,(JP se).mono nofun,fun H1 s1=>?_⟩;refine⟨_,rfl,qY R.n0 sd se,?_⟩;have:=q H1 s1
 rwa [show sW (nW (CC n b e-CC n b d))=Cr (CC n b e-CC n b d) from FT _] at this
theorem Z6:C0 70 "tell_show" ["given"] (sS K Bd [Bq,Ba,Ay,Aw,Bb]):=by
 refine co' ["given"] Y4 fun nd H vs Q E hr h=>?_;obtain⟨l,x,p,g,rfl,hl,T,ok,ln,q⟩:=h;have dl:=PT.lv_br p;obtain⟨C,dx,_,_,_,_,hC,_,hx,_⟩:=T.node;exists⟨_,(Ad (Ak (FJ QW (pxL 0)))),?_⟩;exists Az (SqL.of hl) FP ?_;exists⟨x,C,dx,_,_,vi.mpr ⟨C,hC,rfl⟩,rfl,hx,rfl,?_⟩;exact⟨x,p,g,rfl,T,⋯,zn (PT.tx_len ok) ⋯,q⟩
theorem RQ:CI0 1 "Desk" Bl ["self"] (ym K ⟨Bl,BZ,BL,Ae,An,Bd,BV,[Bq,Ba,Ay,Aw,Bb]⟩):=by
 refine ci' ["self"] Qy fun nd H vs Q E hr h=>?_;obtain⟨H0,x,dx,N,rfl,hx,hd,ne,rfl,q⟩:=h;refine⟨_,(Ab (Dw (pv 0) Tg (by rfl)) (Ad (Dw (pv 0) Tg (by rfl)))),?_⟩
 symm;intro d1 n1;symm;have a1:d1≠x:=fun z=>by rw[z,Ai] at n1;cases n1
 have a2:d1≠dx:=fun z=>by rw[z,Ax ne,Ai] at n1;cases n1
 have n1':H0 d1=none:=by rw[Ax a1,Ax a2] at n1;exact n1
 refine⟨x,Bl,dx,[],rfl,by rw[Ax a1.symm];exact Ai,Ce,Dl,nofun,?_⟩;symm;intro d2 n2;symm;have b1:d2≠x:=fun z=>by rw[z,Ai] at n2;cases n2
 have b2:d2≠d1:=fun z=>by rw[z,Ax a1,Ai] at n2;cases n2
 have b3:d2≠dx:=fun z=>by rw[z,Ax ne,Ax a2.symm,Ax ne,Ai] at n2;cases n2
 have n2':H0 d2=none:=by rw[Ax b1,Ax b2,Ax b1,Ax b3] at n2;exact n2
 refine⟨x,Bl,dx,_,rfl,by rw[Ax b1.symm];exact Ai,Ce,HF,(by show 1<1000;decide),?_⟩;refine q _ (fun y u e=>?_) ⟨⟨dx,d1,d2,[],[],Ai,?_,?_,qg _,qg _,b2,(fun _ _ _ z=>nomatch z),(fun _ _ _ z=>nomatch z)⟩⟩
 ·have c1:y≠x:=BX e hx;rw[Ax c1,Ax (BX e n2'),Ax c1,Ax (BX e n1'),Ax c1,Ax (BX e hd)];exact e
 ·show _=_;rw[Ax a1,Ax b2.symm,Ax a1];exact Ai
 ·rw[Ax b1];exact Ai
theorem AAk:C1 133 "keep" ["desk","word","given"] (yg K ⟨Bl,BZ,BL,Ae,An,Bd,BV,[Bq,Ba,Ay,Aw,Bb]⟩):=by
 refine ce' ["desk","word","given","name"] zA fun nd H vs Q E hr h T=>?_;obtain⟨x,l,N,j,c,m,R,v1,ip,rfl,hl,NN,ok,DK,lb,hv,SQ⟩:=h;obtain⟨dx,a,r,kv,kr,hx,hk,hr0,lk,lr,na,hm,hu⟩:=DK.ex;have putC:∀{H1:Hp} {y:Addr} {i:Nat} {k:CT},i<6->BP H H1->EY K ⟨Bl,BZ,BL,Ae,An,Bd,BV,[Bq,Ba,Ay,Aw,Bb]⟩ H1 y k->(∀H',Kd H H'->Dk K ⟨Bl,BZ,BL,Ae,An,Bd,BV,[Bq,Ba,Ay,Aw,Bb]⟩ N H' x (j+1) (setM c i k) m->Q (.str "ok") H')->∃a' H4,V.ref a=.ref a'/\dj H1 a' (.str (sW (N i))) (.ref y) H4/\Q (.str "ok") H4:=fun{H1 y i k} hi s1 S q=>by
  have h0:=s1 _ _ hk;have kd:=Kd.put h0 (kv':=putK kv (.inr (sW (N i))) (.ref y));refine⟨a,_,rfl,dj.k (k:=.inr (sW (N i))) h0 (va lk (va lb nofun)),q _ ((Kd.of s1).trans kd) ⟨⟨dx,a,r,_,kr,kd.ins (s1 _ _ hx),Ai,by rw[Ax na];exact s1 _ _ hr0,zn (HY _ _ _) ⋯,⋯,na,fun n hn k' e=>?_,fun n hn p e=>?_⟩⟩⟩
  ·unfold setM at e;rw[Yi];split at e
   ·rename_i z
    subst z;cases e;exact⟨y,xo rfl,S.kd kd⟩
   ·rename_i z
    obtain⟨y',g1,g2⟩:=hm n hn k' e;exact⟨y',by rw[xp fun w=>z (NN.inj n hn i hi (by have:=yi cpl (Sum.inr.inj w);rwa [Bp,Bp] at this))];exact g1,(g2.same s1).kd kd⟩
  ·obtain⟨y',g1,g2⟩:=hu n hn p e;exact⟨y',g1,(g2.same s1).kd kd⟩
 refine⟨_,(Ab (Aj 3 (pxL 2)) (Ab (JG (BW (Am CN (pv 1) Al (Ar _)) (Ad (Xb (va (jj7 (by decide:1<=64) _) hr.units) (Bc (pv 0) (by rfl)) (pv 3) (Ah Ej (Aa (pxL 2) Ac)) rfl)) (Ad (JG (BW (Am CN (pv 1) Al (Ar _)) (Ad (Xb (va (jj7 (by decide:1<=64) _) hr.units) (Bc (pv 0) (by rfl)) (pv 3) (GK G3 (Aa (pxL 2) (Aa (pxL 2) (Aa (pxL 2) Ac)))) rfl)) (Ad (Xb (va (jj7 (by decide:1<=64) _) hr.units) (Bc (pv 0) (by rfl)) (pv 3) (Fb T JB (hr.mono nofun) rfl (Aa (pxL 2) (Aa (Bc (pv 0) (by rfl)) Ac))) rfl))))))) (Ad (Ak Al)))),?_⟩
 rcases R with ⟨i,g⟩ | ⟨i,a1,a2,k⟩ | ⟨i,p⟩ | _ | _ | _
 ·symm;exists Az (SqL.of hl) FP ?_;refine G9 (fun _ H'=>Q (.str "ok") H') ?_ (fun Z' H' h=>by symm;exact h);symm;refine IK rfl ?_;unfold fK;symm;exists Az (SqL.of hl) K5 ?_;exists⟨g,rfl,SQ.1,fun y H1 s1 C1=>?_⟩;exists⟨x,Bl,dx,_,_,rfl,s1 _ _ hx,Ce,Dl,rfl,?_⟩;exact putC (ok _ (.head _)) s1 (k:=.one g) C1 SQ.2
 ·have hi:=ok _ (.head _);have h1:=ok _ (.tail _ (.head _));have h2:=ok _ (.tail _ (.tail _ (.head _)));have sk:Sm k:=ok _ (.tail _ (.tail _ (.tail _ (.head _))));obtain⟨g,g',e1,e2,lat,q⟩:=SQ;symm;exists Az (SqL.of hl) FP ?_;refine G9 (fun _ H'=>Q (.str "ok") H') ?_ (fun Z' H' h=>by symm;exact h);symm;refine CK (fun z=>absurd (show Str.ofString "change"=Str.ofString "calendar" from V.str.inj z) ∅) ?_;exists G9 (fun _ H'=>Q (.str "ok") H') ?_ (fun Z' H' h=>h);refine IK rfl ?_;unfold fK;symm;exists Az (SqL.of hl) K5 ?_;exists Az (SqL.of hl) aR ?_;exists Az (SqL.of hl) wJ ?_;exists fun w' dw hw hdw ne=>⟨H,w',dw,_,_,g,g',k,rfl,hw,hdw,ne,rfl,hv a1 h1 _ e1,hv a2 h2 _ e2,(JP sk).mono nofun,lat,fun H1 s1 S1=>⟨rfl,?_⟩⟩;exists⟨x,Bl,dx,_,_,rfl,s1 _ _ hx,Ce,Dl,rfl,?_⟩;exact putC hi s1 S1 q
 ·have hi:=ok _ (.head _);obtain⟨po,pl,SQ⟩:=SQ;symm;exists Az (SqL.of hl) FP ?_;refine G9 (fun _ H'=>Q (.str "ok") H') ?_ (fun Z' H' h=>by symm;exact h);symm;refine CK (fun z=>absurd (show Str.ofString "rule"=Str.ofString "calendar" from V.str.inj z) ∅) ?_;exists G9 (fun _ H'=>Q (.str "ok") H') ?_ (fun Z' H' h=>h);refine CK (fun z=>absurd (show Str.ofString "rule"=Str.ofString "change" from V.str.inj z) ∅) ?_;unfold fK;symm;exists Az (SqL.of hl) K5 ?_;exists⟨x,Bl,dx,_,_,rfl,hx,Ce,Dl,rfl,?_⟩;refine⟨a,p,MR N c,rfl,po,pl,?_,⟨kv,hk,fun nm k ⟨n,hn,e,ek⟩=>by rw[e];exact hm n hn k ek⟩⟩;rcases SQ with ⟨g,kn,sz,q⟩ | ⟨bad,e⟩
  ·exists⟨.inl ⟨g,kn,sz,fun y H1 s1 T=>?_⟩⟩;exists⟨x,Bl,dx,_,_,rfl,s1 _ _ hx,Ce,HF,rfl,?_⟩;have h0:=s1 _ _ hr0;have kd:=Kd.put h0 (kv':=putK kr (.inr (sW (N i))) (.ref y));refine⟨r,_,rfl,dj.k (k:=.inr (sW (N i))) h0 (va lr (va lb nofun)),q _ ((Kd.of s1).trans kd) ⟨⟨dx,a,r,kv,_,kd.ins (s1 _ _ hx),by rw[Ax (Ne.symm na)];exact s1 _ _ hk,Ai,⋯,zn (HY _ _ _) ⋯,na,fun n hn k' e=>?_,fun n hn p' e=>?_⟩⟩⟩
   ·obtain⟨y',g1,g2⟩:=hm n hn k' e;exact⟨y',g1,(g2.same s1).kd kd⟩
   ·unfold setM at e;rw[Yi];split at e
    ·rename_i z
     subst z;cases e;exact⟨y,xo rfl,T.kd kd⟩
    ·rename_i z
     obtain⟨y',g1,g2⟩:=hu n hn p' e;exact⟨y',by rw[xp fun w=>z (NN.inj n hn i hi (by have:=yi cpl (Sum.inr.inj w);rwa [Bp,Bp] at this))];exact g1,(g2.same s1).kd kd⟩
  ·exact⟨.inr ⟨bad,e⟩⟩
 ·exact ip.elim
 ·exact ip.elim
 ·exact ip.elim
theorem GC:Mr P w K mg base (CX1 P w) 134 Bl "say" ["self","row"] (ABm K ⟨Bl,BZ,BL,Ae,An,Bd,BV,[Bq,Ba,Ay,Aw,Bb]⟩):=by
 refine ACi ["self","row","words","form","given"] bc fun nd H vs Q E hr h T=>?_;obtain⟨x,N,j,c,m,R,rfl,NN,ok,DK,lb,SQ⟩:=h;obtain⟨dx,a,r,kv,kr,hx,hk,hr0,lk,lr,na,hm,hru⟩:=DK.ex;have cn:∀n,.ca n∈R.ws->∃v,Ew kv (.inr (sW (N n)))=some v:=fun n hn=>by
  have nn:∀{k},c n=some k->∃v,Ew kv (.inr (sW (N n)))=some v:=fun e=>by
   obtain⟨y,h1,_⟩:=hm _ (ok _ hn) _ e;exact⟨_,h1⟩
  rcases R with _ | _ | _ | _ | ⟨_,_ | _ | _ | _⟩ | _<;>simp[Row.ws] at hn
  ·obtain⟨_,_,e1,e2,_⟩:=SQ;rcases hn with rfl | rfl
   ·exact nn e1
   ·exact nn e2
  ·obtain⟨_,e,_⟩:=SQ;subst hn;exact nn e
 have en:∀n,.ru n∈R.ws->∃v,Ew kr (.inr (sW (N n)))=some v:=fun n hn=>by
  have nn:∀{p},m n=some p->∃v,Ew kr (.inr (sW (N n)))=some v:=fun e=>by
   obtain⟨y,h1,_⟩:=hru _ (ok _ hn) _ e;exact⟨_,h1⟩
  rcases R with _ | _ | _ | _ | ⟨_,_ | _ | _ | _⟩ | _<;>simp[Row.ws] at hn
  all_goals
   obtain⟨_,_,e,_⟩:=SQ;subst hn;exact nn e
 have dk:DkH Bl H x kv kr:=⟨dx,a,r,hx,hk,hr0⟩;refine⟨_,(Ab (Aj 2 (Ah Uj (Aa (pv 1) Ac)))
  (Ab (Aj 3 (Th (Cg rfl Gg.m (Jk _)) (pxL 2) (fun _ _=>rfl)))
  (Ab (Zd (i:=4) nd rfl (by walk_at"o") (xs:=["kind","word"]) rfl (Ly ["kind","word"] ["self","row","words","form","given"] ["self","row","words","form","given"] rfl rfl (by with_unfolding_all rfl) ∅ rfl ∅ ∅ ∅ (by walk_at"fm") (by with_unfolding_all rfl) (by with_unfolding_all rfl)) (fj (c:=true) (d:=false) rfl wV (Aa (pv 3) (Aa (Cu Fp (pv 2) (Dm Ag) Ef) Ac))) (fun _ _ _ _=>Ff) (fun _ _ _ _=>(oV (n:=2) rfl (NT (FZ (i:=0) (show (["kind","word","self","row","words","form","given"]:List Str).Nodup from by ac_rfl) rfl (by walk_at"o")) (NT (FZ (i:=1) (show (["kind","word","self","row","words","form","given"]:List Str).Nodup from by ac_rfl) rfl (by walk_at"o")) fu)))) (fun _ _ _ _=>(Ah aK (Aa (pv 2) (Aa (pv 0) (Aa (pv 1) Ac))))))
  (Ab (Bv (GP vc jc7 jc8 JR (pv 4) (Aa (Ah Vm (Aa (pv 0) (Aa (Cu Fp (pv 2) (Dm (Af Bx (Bh Bs rfl Es xh (Aa (pv 3) Ac)) Ag)) Ef) Ac))) Ac)))
  (Ab (BW (Xa (uw (pxL 2) (Cg rfl DQ.m (Jk _))))
   (Ad (Ak (oh (k:=70) (Ia.cons Z9 (Ia.cons kW (Ia.cons Z7 (Ia.cons Z8 (Ia.cons YG (Ia.cons Z6 Ia.nil)))))) (hr.mono nofun) (Th (Cg rfl DQ.m (Jk _)) (pxL 2) (fun _ _=>rfl)) (Aa (pv 4) Ac))))
   Ao)
  (Ad (Ak (Fb T AAk (hr.mono nofun) rfl (Aa (pv 0) (Aa (pxL 2) (Aa (pv 4) Ac))))))))))),?_⟩
 symm;exists⟨N,R,rfl,NN,ok,fun l H1 hl s1 t1=>?_⟩;unfold bC;symm;exists Az (SqL.of t1) FP ?_;exists⟨_,_,.inr R.hd,_,rfl,Gg.d,rfl,UT _ R,?_⟩;exists ni (fP ?_);refine Gu (SqL.of t1) fun u hu=>?_;rw[show Iv (V.str R.hd::wkV N R.ws) (some 1) none=wkV N R.ws from Ii _ 1];exists fresh hu fun H2 s2 t2=>?_;have s02:=s1.trans s2;refine⟨_,u,rfl,⟨_,_,Gg.s R _,SqL.of t2⟩,?_⟩;refine j6 (N:=N) (kv:=kv) (kr:=kr) (Gg.s R) t2 (va R.few.2 nofun) (fun k hk' H3 Q3 s3 q3=>?_) (fun D H3 vs hD s3 t3 gv=>?_)
 ·symm;exact⟨x,N,kv,kr,k,rfl,NN,ok k hk',dk.same (s02.trans s3),fun n e=>cn n (e ▸ hk'),fun n e=>en n (e ▸ hk'),q3⟩
 symm;have s03:=s02.trans s3;exists PL rfl t3 ?_;exists⟨_,_,rfl,.inr (Gg.s R _),?_⟩;have t1':=s3 _ _ (s2 _ _ t1);refine Gu (SqL.of t1') fun u5 hu5=>?_;have e5:Iv (V.str R.hd::wkV N R.ws) (some (((R.ws.map fun w=>V.str w.k).length:Int)+1)) none=[]:=by
  have:=Ii (V.str R.hd::wkV N R.ws) ((R.ws.map fun w=>V.str w.k).length+1);rw[jk7,Int.natCast_one] at this;rw[this,kc (by unfold wkV;simp)]
 rw[e5];exists fresh hu5 fun H5 s5 t5=>?_;have s05:=s03.trans s5;refine⟨x,u5,rfl,t5,fun l6 H6 hl6 s6 t6=>?_⟩;have s06:=s05.trans s6;have tD:=s6 _ _ (s5 _ _ t3);symm;refine⟨D,l6,vs,[],rfl,rfl,tD,t6,by rw[jf0,Nat.add_zero,gv.1];exact zn R.few.2 nofun,?_⟩;rw[xy,yD tD];have t16:=s6 _ _ (s5 _ _ t1');have DK6:=DK.same s06;have hv6:∃v1:Nat->Addr,∀n<6,∀k,c n=some k->Ew kv (.inr (sW (N n)))=some (.ref (v1 n))/\EY K ⟨Bl,BZ,BL,Ae,An,Bd,BV,[Bq,Ba,Ay,Aw,Bb]⟩ H6 (v1 n) k:=by
  refine⟨fun n=>match Ew kv (.inr (sW (N n))) with | some (.ref y)=>y | _=>0,fun n hn k e=>?_⟩
  obtain⟨y,g1,g2⟩:=hm n hn k e;dsimp only;rw[g1];exact⟨rfl,g2.same s06⟩
 obtain⟨v1,hv6⟩:=hv6;have rl:∀{n g p v},n<6->m n=some (g,p)->Ew kr (.inr (sW (N n)))=some v->∃y,v=.ref y/\TrH K Bd [Bq,Ba,Ay,Aw,Bb] g H6 y p:=fun hn e e'=>by
  obtain⟨y,h1,h2⟩:=hru _ hn _ e;exact⟨y,xz (e'.symm.trans h1),h2.same s06⟩
 symm;unfold eE;symm;exists Az (SqL.of t16) FP ?_;refine⟨_,_,.inr R.hd,rfl,DQ.d,rfl,?_⟩;rcases R with ⟨i,g⟩ | ⟨i,i1,i2,k⟩ | ⟨i,p⟩ | ⟨i,d⟩ | ⟨i,d | d | d | ⟨d,k⟩⟩ | i
 ·exists⟨_,rfl,Dp ?_⟩;exists Az (SqL.of t16) FP ?_;obtain⟨v0,ws0,rfl,e0,g1⟩:=GV.cons gv;obtain⟨w1,rfl,e1⟩:=GV.one g1;cases e0;cases e1;exact⟨x,D,N,j,c,m,.cal i g,v1,trivial,rfl,tD,NN,ok,DK6,lb,fun n hn k e=>(hv6 n hn k e).2,SQ.1,fun H' k d=>SQ.2 H' ((Kd.of s06).trans k) d⟩
 ·exists⟨_,rfl,Dp ?_⟩;exists Az (SqL.of t16) FP ?_;obtain⟨v0,ws0,rfl,e0,g1⟩:=GV.cons gv;obtain⟨w1,ws1,rfl,e1,g2⟩:=GV.cons g1;obtain⟨w2,ws2,rfl,e2,g3⟩:=GV.cons g2;obtain⟨w3,rfl,e3⟩:=GV.one g3;cases e0;cases e3;obtain⟨g,g',f1,f2,lat,q⟩:=SQ;have h1:=ok (.ca i1) (.tail _ (.head _));have h2:=ok (.ca i2) (.tail _ (.tail _ (.head _)));obtain rfl:V.ref (v1 i1)=w1:=xz ((hv6 i1 h1 _ f1).1.symm.trans e1);obtain rfl:V.ref (v1 i2)=w2:=xz ((hv6 i2 h2 _ f2).1.symm.trans e2);exact⟨x,D,N,j,c,m,.chg i i1 i2 k,v1,trivial,rfl,tD,NN,ok,DK6,lb,fun n hn k e=>(hv6 n hn k e).2,g,g',f1,f2,lat,fun H' k d=>q H' ((Kd.of s06).trans k) d⟩
 ·exists⟨_,rfl,Dp ?_⟩;exists Az (SqL.of t16) FP ?_;obtain⟨v0,ws0,rfl,e0,g1⟩:=GV.cons gv;obtain⟨w1,rfl,e1⟩:=GV.one g1;cases e0;cases e1;obtain⟨po,pl,SQ⟩:=SQ;refine⟨x,D,N,j,c,m,.rule i p,v1,trivial,rfl,tD,NN,ok,DK6,lb,fun n hn k e=>(hv6 n hn k e).2,po,pl,?_⟩;rcases SQ with ⟨g,kn,sz,q⟩ | ⟨bad,e⟩
  ·exact .inl ⟨g,kn,sz,fun H' k d=>q H' ((Kd.of s06).trans k) d⟩
  ·exact .inr ⟨bad,e.on s06⟩
 ·exists⟨_,rfl,Gb ?_⟩;unfold Ji;dsimp only;symm;exists Az (SqL.of t16) FP ?_;exists⟨_,_,.inr "date",_,rfl,DQ.d,rfl,rfl,_,_,_,rfl,.head _,DQ.g0,?_⟩;obtain⟨k,e,q⟩:=SQ;obtain⟨v0,ws0,rfl,e0,g1⟩:=GV.cons gv;obtain⟨w1,rfl,e1⟩:=GV.one g1;cases e1;obtain⟨f1,f2⟩:=hv6 i (ok (.ca i) (.head _)) k e;obtain rfl:V.ref (v1 i)=v0:=xz (f1.symm.trans e0);exact⟨D,_,d,k,rfl,tD,f2,ok (.nu d) (.tail _ (.head _)),fun H' s'=>q H' (s06.trans s')⟩
 ·exists⟨_,rfl,Gb ?_⟩;unfold Ji;dsimp only;symm;exists Az (SqL.of t16) FP ?_;exists⟨_,_,.inr "on",_,rfl,DQ.d,rfl,rfl,_,_,_,rfl,.tail _ (.head _),DQ.g3,?_⟩;obtain⟨g,p,e,q⟩:=SQ;obtain⟨v0,ws0,rfl,e0,g1⟩:=GV.cons gv;obtain⟨w1,rfl,e1⟩:=GV.one g1;cases e1;obtain⟨y,rfl,T⟩:=rl (ok (.ru i) (.head _)) e e0;refine⟨D,y,_,d,_,rfl,tD,T.rule,?_⟩;rw[<-FT (yn _)];exact q H6 s06
 ·exists⟨_,rfl,Gb ?_⟩;unfold Ji;dsimp only;symm;exists Az (SqL.of t16) FP ?_;exists⟨_,_,.inr "next",_,rfl,DQ.d,rfl,rfl,_,_,_,rfl,.tail _ (.tail _ (.head _)),DQ.g4,?_⟩;obtain⟨g,p,e,q⟩:=SQ;obtain⟨v0,ws0,rfl,e0,g1⟩:=GV.cons gv;obtain⟨w1,rfl,e1⟩:=GV.one g1;cases e1;obtain⟨y,rfl,T⟩:=rl (ok (.ru i) (.head _)) e e0;exact⟨D,y,_,d,_,rfl,tD,T.rule,ok (.nu d) (.tail _ (.head _)),.mk (fun r h=>h.2.1) (fun r r' h h'=>Zm h h') fun H' s'=>q H' (s06.trans s')⟩
 ·exists⟨_,rfl,Gb ?_⟩;unfold Ji;dsimp only;symm;exists Az (SqL.of t16) FP ?_;exists⟨_,_,.inr "last",_,rfl,DQ.d,rfl,rfl,_,_,_,rfl,.tail _ (.tail _ (.tail _ (.head _))),DQ.g5,?_⟩;obtain⟨g,p,e,q⟩:=SQ;obtain⟨v0,ws0,rfl,e0,g1⟩:=GV.cons gv;obtain⟨w1,rfl,e1⟩:=GV.one g1;cases e1;obtain⟨y,rfl,T⟩:=rl (ok (.ru i) (.head _)) e e0;exact⟨D,y,_,d,_,rfl,tD,T.rule,ok (.nu d) (.tail _ (.head _)),.mk (fun r h=>h.2.1) (fun r r' h h'=>Zv h h') fun H' s'=>q H' (s06.trans s')⟩
 ·exists⟨_,rfl,Gb ?_⟩;unfold Ji;dsimp only;symm;exists Az (SqL.of t16) FP ?_;exists⟨_,_,.inr "count",_,rfl,DQ.d,rfl,rfl,_,_,_,rfl,.tail _ (.tail _ (.tail _ (.tail _ (.head _)))),DQ.g7,?_⟩;obtain⟨g,p,e,q⟩:=SQ;obtain⟨v0,ws0,rfl,e0,g1⟩:=GV.cons gv;obtain⟨w1,ws1,rfl,e1,g2⟩:=GV.cons g1;obtain⟨w2,rfl,e2⟩:=GV.one g2;cases e1;cases e2;obtain⟨y,rfl,T⟩:=rl (ok (.ru i) (.head _)) e e0;exact⟨D,y,_,d,k,_,rfl,tD,T.rule,ok (.nu d) (.tail _ (.head _)),ok (.nu k) (.tail _ (.tail _ (.head _))),fun H' s'=>q H' (s06.trans s')⟩
 ·exists⟨_,rfl,Gb ?_⟩;unfold Ji;dsimp only;symm;exists Az (SqL.of t16) FP ?_;exists⟨_,_,.inr "show",_,rfl,DQ.d,rfl,rfl,_,_,_,rfl,.tail _ (.tail _ (.tail _ (.tail _ (.tail _ (.head _))))),DQ.g13,?_⟩;obtain⟨g,p,e,okp,ln,q⟩:=SQ;obtain⟨v0,rfl,e0⟩:=GV.one gv;obtain⟨y,rfl,T⟩:=rl (ok (.ru i) (.head _)) e e0;exact⟨D,y,p,g,rfl,tD,T,okp,ln,fun H' s'=>q H' (s06.trans s')⟩
theorem Cw:C0 1 "_law_cell_at" ["_law_script","_law_k"] (nG K):=by
 refine co' ["_law_script","_law_k"] VR fun nd H vs Q E hr h=>?_;obtain⟨a,ns,k,rfl,hS,h0,hl,q⟩:=h;refine⟨_,(Ab (BW (Am Fg (pv 1) (Bh Bs rfl Es xh (Aa (pv 0) Ac)) (Ar _))
  (Ad (Ak (Et Gx (pv 0) (pv 1) (fun _ _=>rfl))))
  Ao)
  (Ad (Ak Ag))),?_⟩
 symm;exists⟨a,_,rfl,.inl hS,?_⟩;rw[js];refine Gd (fun c=>?_) (fun c=>?_)
 ·symm;refine Az hS (wI h0 c) ?_;exact q
 ·symm;have e:ns.getD k.toNat 0=0:=by
   simp[List.getD,jh9 (show ns.length<=k.toNat by lia)]
  rw[e] at q;exact q
theorem aM:C0 1 "_law_name" ["_law_cell","_law_last"] tH:=by
 refine co' ["_law_cell","_law_last","_law_name_here","_law_k","_law_at"] bU fun nd H vs Q E hr h=>?_;obtain⟨c,k,rfl,k0,k1,q⟩:=h;refine⟨_,(Ab (Aj 2 Al)
  (Ab (Ik PassesOwn.never rfl (JQ rfl Je (Aa (Af DN (pv 0) Ag) Ac)) (FZ (i:=3) nd rfl (by walk_at"o"))
   (Ab (Aj 4 (Af DN (Af Bx (Af Cj (pv 0) Ag) (Af zY (pv 3) (Af Cj (pv 0) Ag))) Ag))
  (Ad (Aj 2 (Af Av (pv 2) (Et Xx Al (pv 4) (fun _ _=>rfl)))))))
  (Ad (Ak (Af Av (pv 2) (pv 1)))))),?_⟩
 symm;walk_at"f";symm;refine⟨c%8,rfl,⋯,⋯,Pg (fun i Z' H'=>H'=H/\Ex3 fun(w:Wd) (v u:Option V)=>An3 (w.length=i) (∀c∈w,97<=c/\c<=122) (Z'=[some (.int c),some (.str (sW [k])),some (.str (sW w)),v,u])) ⟨rfl,[],none,none,rfl,(fun c h=>nomatch h),by rw[show Str.ofString ""=sW [] by ac_rfl]⟩ ?_ ?_⟩
 ·rintro i Z' H' hi ⟨rfl,w,v,u,hl,hw,rfl⟩;have hi:i<(c%8).toNat:=hi;symm;exists Ep (.inl ⟨⋯,⋯⟩) ?_;rw[jh7];generalize c/8+(i:Int)*(c/5000)=m;have el:(cpl "abcdefghijklmnopqrstuvwxyz").length=26:=∅
  have hk:(m%26).toNat<(cpl "abcdefghijklmnopqrstuvwxyz").length:=⋯;have c1:=(gR _).mp (ji9 hk);have hat:atI (Str.ofString "abcdefghijklmnopqrstuvwxyz").cps.toList (m%26)=some (cpl "abcdefghijklmnopqrstuvwxyz")[(m%26).toNat]:=by
   have:=Dz (xs:=cpl "abcdefghijklmnopqrstuvwxyz") (j:=(m%26).toNat) (v:=(cpl "abcdefghijklmnopqrstuvwxyz")[(m%26).toNat]) (by simp[hk])
   rwa [show (((m%26).toNat:Nat):Int)=m%26 by lia] at this
  generalize (cpl "abcdefghijklmnopqrstuvwxyz")[(m%26).toNat]=a at c1 hat;refine⟨_,_,a,rfl,rfl,∅,hat,?_⟩;have Z:=(Lg.w w (n:=8) ⋯).ap (Lg.w [a] (n:=1) (qg _));refine Lg.go Z fun zz Z=>?_;have e:=Z.eq rfl;subst e;symm;refine⟨rfl,w++[a],_,_,by rw[qq,hl];rfl,fun b hb=>?_,rfl⟩;rcases ko.mp hb with h | h
  ·exact hw b h
  ·rw[zv.mp h];exact c1
 ·rintro Z' H' ⟨rfl,w,v,u,hl,hw,rfl⟩;symm;have Z:=(Lg.w w (n:=8) ⋯).ap (Lg.w [k] (n:=1) (qg _));refine Lg.go Z fun zz Z=>?_;have e:=Z.eq rfl;subst e;refine q _ _ (BP.refl _) ⟨by simp,by simp;lia,fun b hb=>?_⟩ (by simp);rcases ko.mp hb with h | h
  ·exact hw b h
  ·rw[zv.mp h];exact⟨k0,k1⟩
theorem En:C0 1 "_law_calendar_text" ["_law_cell","_law_start"] uA:=by
 refine co' ["_law_cell","_law_start","_law_n","_law_term","_law_head"] Lj fun nd H vs Q E hr h=>?_;obtain⟨c,s,rfl,ss,q⟩:=h;have o:=Ok1.shp c;have sa:Sm (c/27%(1+c/9%3+1)):=sm1 o.a0 (by have:=o.a1;have:=o.n1;lia);have sb:Sm (c/108%(1+c/9%3)):=sm1 o.b0 (by have:=o.b1;have:=o.n1;lia);have sn:Sm (1+c/9%3):=sm1 (by have:=o.n0;lia) (by have:=o.n1;lia);have fit:∀{x:Int},0<=x/\x<=60->Sm x:=fun h=>sm1 h.1 h.2;refine⟨_,(Ab (Aj 2 (Af Bx Ag (Af DN (Af Cj (pv 0) Ag) Ag))) (Ab (Aj 3 (Af Av (Af Av (Af Av (Af Av (Af Av Al (Bm Bf rfl Ex qr (Aa (Af DN (Af Cj (pv 0) Ag) (Af Bx (pv 2) Ag)) Ac))) Al) (Bm Bf rfl Ex qr (Aa (Af DN (Af Cj (pv 0) Ag) (pv 2)) Ac))) Al) (Bm Bf rfl Ex qr (Aa (pv 2) Ac)))) (Ab (BW (Am CN (Af DN (Af Cj (pv 0) Ag) Ag) Ag (Ar _)) (Ab (Aj 4 (Af Av (Af Av (Af Av Al (Bm Bf rfl Ex qr (Aa (pv 1) Ac))) Al) (Bm Bf rfl Ex qr (Aa (Af Bx Ag (Af DN (pv 0) Ag)) Ac)))) (Ad (Ak (Af Av (Af Av (Af Av (Af Av (Af Av (pv 4) Al) (pv 3)) Al) (Bm Bf rfl Ex qr (Aa (Af Bx Ag (Af DN (Af Cj (pv 0) Ag) Ag)) Ac))) Al)))) Ao) (Ab (Aj 4 (Af Av (Af Av (Af Av Al (Bm Bf rfl Ex qr (Aa (pv 1) Ac))) Al) (Bm Bf rfl Ex qr (Aa (Af Bx Ag (Af DN (pv 0) Ag)) Ac)))) (Ad (Ak (Af Av (Af Av (Af Av (Af Av (pv 4) Al) (Bm Bf rfl Ex qr (Aa (Af DN (Af Cj (pv 0) Ag) Ag) Ac))) Al) (pv 3)))))))),?_⟩
 symm;refine⟨_,rfl,Ey sa,?_⟩;have Z:=(Lg.s "+").ap (.n sa);exists Lg.go Z fun zz Z=>?_;have Z:=Z.aps ",";exists Lg.go Z fun zz Z=>?_;refine⟨_,rfl,Ey sb,?_⟩;have Z:=Z.ap (.n sb);exists Lg.go Z fun zz Z=>?_;have Z:=Z.aps ",";exists Lg.go Z fun zz Z=>?_;refine⟨_,rfl,Ey sn,?_⟩;have Z:=Z.ap (.n sn);refine Lg.go Z fun tm Z=>?_;have TM:Lg tm (tW (1,c/27%(1+c/9%3+1),c/108%(1+c/9%3),1+c/9%3)) 228:=by
  rw[AAy];exact Z
 clear Z;symm;by_cases h1:c/324%3=1
 ·rw[show shp c s=_ from xo h1] at q;have s1:Sm (2+c%3):=fit ⋯;have s2:Sm (1+c/3%3):=fit ⋯;exists IK (yi V.int h1) ?_;refine⟨_,rfl,Ey ss,?_⟩;have Z:=(Lg.s "moon ").ap (.n ss);exists Lg.go Z fun zz Z=>?_;have Z:=Z.aps " ";exists Lg.go Z fun zz Z=>?_;refine⟨_,rfl,Ey s1,?_⟩;have Z:=Z.ap (.n s1);exists Lg.go Z fun zz Z=>?_;have Z:=Z.aps " ";exists Lg.go Z fun zz Z=>?_;have Z:=Z.ap TM;exists Lg.go Z fun zz Z=>?_;have Z:=Z.aps " / ";exists Lg.go Z fun zz Z=>?_;refine⟨_,rfl,Ey s2,?_⟩;have Z:=Z.ap (.n s2);exists Lg.go Z fun zz Z=>?_;have Z:=Z.aps " +1,0,2";refine Lg.go Z fun zz Z=>?_;have e:=Z.eq (ABH ..).symm;have:=q H (BP.refl H);rw[<-e] at this;exact this
 ·rw[show shp c s=_ from xp h1] at q;have s1:Sm (1+c%7):=fit ⋯;have s2:Sm (c/7%9):=fit ⋯;exists CK (fun z=>h1 (V.int.inj z)) ?_;refine⟨_,rfl,Ey ss,?_⟩;have Z:=(Lg.s "sun ").ap (.n ss);exists Lg.go Z fun zz Z=>?_;have Z:=Z.aps " ";exists Lg.go Z fun zz Z=>?_;refine⟨_,rfl,Ey s1,?_⟩;have Z:=Z.ap (.n s1);exists Lg.go Z fun zz Z=>?_;have Z:=Z.aps ",";exists Lg.go Z fun zz Z=>?_;refine⟨_,rfl,Ey s2,?_⟩;have Z:=Z.ap (.n s2);exists Lg.go Z fun zz Z=>?_;have Z:=Z.aps " leap 1 ";exists Lg.go Z fun zz Z=>?_;have Z:=Z.ap TM;refine Lg.go Z fun zz Z=>?_;have e:=Z.eq (ACq ..).symm;have:=q H (BP.refl H);rw[<-e] at this;exact this
theorem Pn:C0 1 "_law_rule_text" ["_law_cell","_law_name_here"] mV:=by
 refine co' ["_law_cell","_law_name_here","_law_wanted","_law_each","_law_text"] Qq fun nd H vs Q E hr h=>?_;obtain⟨c,nm,rfl,hn,q⟩:=h;have n9:1<=1+c/18%9/\1+c/18%9<=9:=⋯;have p40:(10:Int)^40=10000000000000000000000000000000000000000:=nofun;have p39:(10:Int)^39=1000000000000000000000000000000000000000:=nofun;have sr:Sm (c/162%10^40-10^39):=by
  have a:=xk (c/162) (show (10:Int)^40≠0 by decide);have b:=xb (c/162) (show (0:Int)<10^40 by decide);have:(10:Nat)^45=1000000000000000000000000000000000000000000000:=nofun;unfold Sm;lia
 have s9:Sm (1+c/18%9):=sm1 ⋯ ⋯;obtain⟨zw,mo,dy,W,ew⟩:=AAr c;have P:=jT hn W;refine⟨_,(Ab (Aj 2 (Et Gx (uY (ss:=["* 1","1 *","1 -1","2 1","* -2","1 2"]) rfl) (Af DN (pv 0) Ag) (fun _ _=>rfl)))
  (Ab (Aj 3 (Af Av (Af Av (Af Av Al (Bm Bf rfl Ex qr (Aa (Af Bx Ag (Af DN (Af Cj (pv 0) Ag) Ag)) Ac))) Al) (Bm Bf rfl Ex qr (Aa (Af Ci (Af DN (Af Cj (pv 0) Ag) (Af Ka Ag Ag)) (Af Ka Ag Ag)) Ac))))
  (Ab (Aj 4 (Af Av (Af Av (Af Av Al (pv 1)) Al) (pv 2)))
  (Ad (Ak (Et Gx (Ea (Aa (pv 4) (Aa (Af Av (Af Av (Af Av (Af Av Al (pv 4)) Al) (pv 3)) Al) (Aa (Af Av (Af Av (Af Av (Af Av Al (pv 3)) Al) (pv 4)) Al) Ac)))) (Af DN (Af Cj (pv 0) Ag) Ag) (fun _ _=>rfl))))))),?_⟩
 symm;refine⟨(by show 6<=sizeLine;decide),fun l hl=>?_⟩;exists fresh hl fun H1 s1 t1=>?_;exists Az (SqL.of t1) ew ?_;refine⟨_,rfl,Ey s9,?_⟩;have Z:=(Lg.s "each ").ap (.n s9);exists Lg.go Z fun zz Z=>?_;have Z:=Z.aps " from ";exists Lg.go Z fun zz Z=>?_;refine⟨_,rfl,Ey sr,?_⟩;have EA:=Z.ap (.n sr);refine Lg.go EA fun ea EA=>?_;have EA:Lg ea (PT.tx (.each (1+c/18%9) (c/162%10^40-10^39))) 152:=by
  rw[PT.tx_each];exact EA
 clear Z;symm;have Z:=(Lg.s "date ").ap (Lg.w nm (n:=8) hn.hi);exists Lg.go Z fun zz Z=>?_;have Z:=Z.aps " ";exists Lg.go Z fun zz Z=>?_;have ez:=W.e;subst ez;have Z:=Z.ap (Lg.w (Dj mo++sg " "++Dj dy) (n:=10) (by have:=W.lm;have:=W.ld;have:(sg " ").length=1:=∅;simp only[qq];lia));refine Lg.go Z fun da DA=>?_;have DA:Lg da (PT.tx (.date nm mo dy)) 78:=by
  have e:sg "date "++nm++sg " "++(Dj mo++sg " "++Dj dy)=PT.tx (.date nm mo dy):=by
   rw[PT.tx_date0];unfold Ub;simp only[ki]
  rw[<-e];exact DA
 clear Z;symm;have Z:=(Lg.s "(").ap DA;exists Lg.go Z fun zz Z=>?_;have Z:=Z.aps " or ";exists Lg.go Z fun zz Z=>?_;have Z:=Z.ap EA;exists Lg.go Z fun zz Z=>?_;have Z:=Z.aps ")";refine Lg.go Z fun t1 Z=>?_;have e1:=Z.eq (PT.tx_pr .or (.date nm mo dy) (.each (1+c/18%9) (c/162%10^40-10^39))).symm;clear Z;symm;have Z:=(Lg.s "(").ap EA;exists Lg.go Z fun zz Z=>?_;have Z:=Z.aps " upon ";exists Lg.go Z fun zz Z=>?_;have Z:=Z.ap DA;exists Lg.go Z fun zz Z=>?_;have Z:=Z.aps ")";refine Lg.go Z fun t2 Z=>?_;have e2:=Z.eq (PT.tx_pr .up (.each (1+c/18%9) (c/162%10^40-10^39)) (.date nm mo dy)).symm;clear Z;have e0:=DA.eq rfl;clear DA EA;have hx:∃p,Plan nm p/\atI [V.str da,V.str t1,V.str t2] (c/6%3)=some (V.str (sW p.tx)):=by
  obtain e | e | e:c/6%3=0\/c/6%3=1\/c/6%3=2:=⋯
  ·exact⟨_,P,by rw[e,e0];rfl⟩
  ·exact⟨_,Zg P n9 sr (w:=.or) (fun z=>nomatch z) true,by rw[e,e1];rfl⟩
  ·exact⟨_,Zg P n9 sr (w:=.up) (fun z=>nomatch z) false,by rw[e,e2];rfl⟩
 obtain⟨p,Pp,ex⟩:=hx;symm;refine⟨(by show 3<=sizeLine;decide),fun l hl=>?_⟩;exists fresh hl fun H2 s2 t2=>?_;refine Az (SqL.of t2) ex ?_;exact q p _ (s1.trans s2) Pp
theorem J6:C0 1 "_law_day_text" ["_law_day"] eV:=by
 refine co' ["_law_day"] Sd (len:=by intro _ _ _ _ h;obtain⟨r,rfl,_⟩:=h;cases r<;>rfl) fun nd H vs Q E hr h=>?_;obtain⟨r,rfl,o,q⟩:=h;refine⟨_,(Ab (BW (Am Jm (pv 0) Gw (Ar _)) (Ad (Ak Al)) Ao) (Ad (Ak (Bm Bf rfl Ex qr (Aa (pv 0) Ac))))),?_⟩
 symm
 try refine Mi ?_
 symm;exists⟨rfl,?_⟩;cases r with
 | none=>
  exists Gb ?_;exact q
 | some i=>
  exists Dp ?_;refine⟨_,rfl,o i rfl,?_⟩;have q:Q (.str (sW (nW i))) H:=q
  rwa [show sW (nW i)=Cr i from FT _] at q
theorem Cv:C0 135 "_law_rule_right" ["_law_desk","_law_name_here","_law_rule","_law_day"] (mW K ⟨Bl,BZ,BL,Ae,An,Bd,BV,[Bq,Ba,Ay,Aw,Bb]⟩):=by
 refine co' ["_law_desk","_law_name_here","_law_rule","_law_day","_law_turn","_law_tail","_law_found"] Ou fun nd H vs Q E hr h=>?_;obtain⟨x,y,N,i,j,c,m,g,p,d,rfl,NN,hi,DK,lb,em,T,ok,ln,sd,sd2,q⟩:=h;obtain⟨dx,_,_,_,_,hx,_⟩:=id DK.ex;have R:=T.rule;have dl:=PT.lv_br p;obtain⟨C,dr,fs,mt,hr2,l1,_,l3⟩:=R.mt;obtain⟨C',dy,_,_,_,_,hC,_,hy,_⟩:=T.node;refine⟨_,(Ab (Aj 4 (FJ Fz (pv 2)))
  (Ab (Aj 5 (Af Av (Af Av (Af Av Al (pv 1)) Al) (Bm Bf rfl Ex qr (Aa (pv 3) Ac))))
  (Ab (BW (Am G6 (HX Fj GC Ce (hr.mono nofun) (pv 0) (Aa (Af Av Al (pv 5)) Ac)) (Et Gx (Ea (Aa Al (Aa Al Ac))) (Bm kI rfl lC jn1 (Aa (Ga aO (hr.mono nofun) (pv 2) (Aa (pv 3) Ac)) Ac)) (fun _ _=>rfl)) (Ar _))
   (Ad (Ak Gp))
   Ao)
  (Ab (BW (Am G6 (HX Fj GC Ce (hr.mono nofun) (pv 0) (Aa (Af Av Al (pv 1)) Ac)) (FJ QW (pv 2)) (Ar _))
   (Ad (Ak Gp))
   Ao)
  (Ab (BW (Am G6 (HX Fj GC Ce (hr.mono nofun) (pv 0) (Aa (Af Av Al (pv 5)) Ac)) (Ah J6 (Aa (Ah Ul (Aa (pv 4) (Aa (pv 3) Ac))) Ac)) (Ar _))
   (Ad (Ak Gp))
   Ao)
  (Ab (BW (Am G6 (HX Fj GC Ce (hr.mono nofun) (pv 0) (Aa (Af Av Al (pv 5)) Ac)) (Ah J6 (Aa (Ah Um (Aa (pv 4) (Aa (pv 3) Ac))) Ac)) (Ar _))
   (Ad (Ak Gp))
   Ao)
  (Ab (Aj 6 (HX Fj GC Ce (hr.mono nofun) (pv 0) (Aa (Af Av (Af Av (Af Av Al (pv 5)) Al) (Bm Bf rfl Ex qr (Aa (Af Bx (pv 3) Ag) Ac))) Ac)))
  (Ad (Ak (Iw CN (pv 6) (Bm Bf rfl Ex qr (Aa (Ah Uo (Aa (pv 4) (Aa (pv 3) (Aa (Af Bx (pv 3) Ag) Ac)))) Ac)) (Ar _))))))))))),?_⟩
 symm;exists⟨y,C,dr,fs,_,mt _,rfl,hr2,l1,?_⟩;exists⟨jj8,y,_,_,rfl,R,fun t ht=>?_⟩;have Z:=(Lg.s " ").ap (Lg.w (N i) (NN.le hi));exists Lg.go Z fun zz Z=>?_;have Z:=Z.aps " ";exists Lg.go Z fun zz Z=>?_;refine⟨_,rfl,Ey sd,?_⟩;have TL:=Z.ap (.n sd);refine Lg.go TL fun tl TL=>?_;clear Z;symm;exists⟨x,dx,_,rfl,hx,rfl,?_⟩;have Z:=(Lg.s "on").ap TL;refine Lg.go Z fun zz Z=>?_;have e:=Z.eq (ADk ..).symm;clear Z;symm;refine⟨x,N,j,c,m,.ask i (.on d),yi (fun z=>[V.ref x,V.str z]) e,NN,r2 hi sd,DK,lb,g,p,em,fun H1 s1=>?_⟩;clear e;symm;refine⟨(by show 2<=sizeLine;decide),fun l hl=>?_⟩;refine fresh hl fun H2 s2 t2=>?_;have s2:=s1.trans s2;symm;exists⟨y,C,dr,fs,_,mt _,rfl,s2 _ _ hr2,l3,?_⟩;exists⟨jj8,y,_,d,_,rfl,R.same s2,?_⟩;refine .inr ⟨_,rfl,?_⟩;have ei:atI [V.str "no",V.str "yes"] (if On (p.sz g) (p.bt g) d=true then 1 else 0)=some (V.str (yn (On (p.sz g) (p.bt g) d))):=by cases On (p.sz g) (p.bt g) d<;>rfl
 exists Az (SqL.of t2) ei ?_;exists IW (yi V.str (FT _)) ?_;exists⟨x,dx,_,rfl,s2 _ _ hx,rfl,?_⟩;have Z:=(Lg.s "show ").ap (Lg.w (N i) (NN.le hi));refine Lg.go Z fun zz Z=>?_;have e:=Z.eq (AAz ..).symm;clear Z;symm;refine⟨x,N,j,c,m,.show i,yi (fun z=>[V.ref x,V.str z]) e,NN,r1 hi,DK.same s2,lb,g,p,em,ok,ln,fun H3 s3=>?_⟩;clear e;have s3:=s2.trans s3;symm;exists⟨y,C',dy,_,_,vi.mpr ⟨C',hC,rfl⟩,rfl,s3 _ _ hy,rfl,?_⟩;exists⟨y,p,g,rfl,T.same s3,⋯,zn (PT.tx_len ok) ⋯,fun H4 s4=>?_⟩;refine IW rfl ?_;have s4:=s3.trans s4;symm;exists⟨x,dx,_,rfl,s4 _ _ hx,rfl,?_⟩;have Z:=(Lg.s "next").ap TL;refine Lg.go Z fun zz Z=>?_;have e:=Z.eq (ABG ..).symm;clear Z;symm;refine⟨x,N,j,c,m,.ask i (.next d),yi (fun z=>[V.ref x,V.str z]) e,NN,r2 hi sd,DK.same s4,lb,g,p,em,fun H5 s5=>?_⟩
 clear e;have s5:=s4.trans s5;symm;exists⟨t,_,d,_,rfl,SqT.of (s5 _ _ ht),R.n0,R.n1,R.lt,JP sd,vD R.n0 R.n1 sd fun o H6 s6 oo eo=>?_⟩;exists⟨o,rfl,oo,?_⟩;refine IW (show _=V.str _ by cases o<;>exact yi V.str eo.symm) ?_;clear eo oo;have s6:=s5.trans s6;symm;exists⟨x,dx,_,rfl,s6 _ _ hx,rfl,?_⟩;have Z:=(Lg.s "last").ap TL;refine Lg.go Z fun zz Z=>?_;have e:=Z.eq (ABI ..).symm;clear Z;symm;refine⟨x,N,j,c,m,.ask i (.last d),yi (fun z=>[V.ref x,V.str z]) e,NN,r2 hi sd,DK.same s6,lb,g,p,em,fun H7 s7=>?_⟩;clear e;have s7:=s6.trans s7;symm;exists⟨t,_,d,_,rfl,SqT.of (s7 _ _ ht),R.n0,R.n1,R.lt,JP sd,vJ R.n0 R.n1 sd fun o H8 s8 oo eo=>?_⟩;exists⟨o,rfl,oo,?_⟩;refine IW (show _=V.str _ by cases o<;>exact yi V.str eo.symm) ?_;clear eo oo;have s8:=s7.trans s8;symm;exists⟨x,dx,_,rfl,s8 _ _ hx,rfl,?_⟩;have Z:=(Lg.s "count").ap TL;exists Lg.go Z fun zz Z=>?_;have Z:=Z.aps " ";exists Lg.go Z fun zz Z=>?_;refine⟨_,rfl,Ey sd2,?_⟩;have Z:=Z.ap (.n sd2);refine Lg.go Z fun zz Z=>?_;have e:=Z.eq (wN ..).symm;clear Z;symm;refine⟨x,N,j,c,m,.ask i (.count d (d+100)),yi (fun z=>[V.ref x,V.str z]) e,NN,r3 hi sd sd2,DK.same s8,lb,g,p,em,fun H9 s9=>?_⟩;clear e;have s9:=s8.trans s9;symm;exists⟨t,_,d,d+100,_,rfl,SqT.of (s9 _ _ ht),R.n0,R.n1,R.lt,(JP sd).mono nofun,(JP sd2).mono nofun,fun Ha sa=>?_⟩;refine⟨_,rfl,qY R.n0 sd sd2,?_⟩;have e2:V.str (sW (ACm (.count d (d+100)) (p.sz g) (p.bt g)))=V.str (Str.ofString (toString (CC (p.sz g) (p.bt g) (d+100)-CC (p.sz g) (p.bt g) d))):=yi V.str (FT _);symm;rw[decide_eq_true e2];exact q _ (s9.trans sa)
theorem Ed:C0 135 "_law_dates_right" ["_law_desk","_law_names","_law_some","_law_day"] (nA K ⟨Bl,BZ,BL,Ae,An,Bd,BV,[Bq,Ba,Ay,Aw,Bb]⟩):=by
 refine co' ["_law_desk","_law_names","_law_some","_law_day","_law_k","_law_due"] Mz fun nd H vs Q E hr h=>?_;obtain⟨x,ln,ls,ys,N,j,c,m,d,rfl,NN,DK,lb,hln,hls,ly,som,sd,q⟩:=h;obtain⟨dx,_,_,_,_,hx,_⟩:=id DK.ex;have e60:(10:Nat)^60=1000000000000000000000000000000000000000000000000000000000000:=nofun;refine⟨_,(Ab (Ik PassesOwn.never rfl (JQ rfl Je (Aa (Bh Bs rfl Es xh (Aa (pv 2) Ac)) Ac)) (FZ (i:=4) nd rfl (by walk_at"o"))
  (Ab (Aj 5 (Ah QV (Aa (Ga (k:=6) (Eg.cons Br Fo nofun (Eg.cons Bj FN nofun (Eg.cons CZ Jb nofun Eg.nil))) (hr.mono nofun) (Et Gx (pv 2) (pv 4) (fun _ _=>rfl)) (Aa (pv 3) Ac)) Ac)))
  (Ad (BW (Am G6 (HX Fj GC Ce (hr.mono nofun) (pv 0) (Aa (Af Av (Af Av (Af Av Al (Et Gx (pv 1) (pv 4) (fun _ _=>rfl))) Al) (Bm Bf rfl Ex qr (Aa (pv 3) Ac))) Ac)) (pv 5) (Ar _))
   (Ad (Ak Gp))
   Ao))))
  (Ad (Ak Gp))),?_⟩
 symm;walk_at"f";symm;exists⟨ls,_,rfl,.inl (SqL.of hls),?_⟩;have l6:((ys.map V.ref).length:Int)<=3:=by rw[js];lia
 refine⟨_,rfl,⋯,⋯,Pg (fun k Z' H'=>BP H H'/\Ex2 fun(v w:Option V)=>Z'=[some (.ref x),some (.ref ln),some (.ref ls),some (.int d),v,w]) ⟨BP.refl _,none,none,rfl⟩ ?_ ?_⟩
 ·rintro k Z' H' hk ⟨s,v,w,rfl⟩;have hk:k<ys.length:=by rw[js] at hk;lia
  have ey:ys[k]?=some ys[k]:=zh hk;obtain⟨ct,ec,C⟩:=som k _ ey;have k6:k<6:=⋯;have hn:atI (nmV N) (k:Int)=some (V.str (sW (N k))):=Dz (by unfold nmV;rw[xa,jn9 k6];rfl);have C':=C.same s;symm;rw[jh7];refine Az (SqL.of (s _ _ hls)) (Dz (by rw[xa,ey];rfl)) ?_;symm;obtain⟨K1,dy,fs,sp,hm,hy,l1,go⟩:=C'.dt;exists⟨_,K1,dy,fs,sp,hm,rfl,hy,l1,?_⟩;refine go C' ((JP sd).mono nofun) fun p y mo r H1 s1 hp D by' m26 r6 m1 r1=>?_
  clear K1 dy fs sp hm hy l1 go;have dt:=qM C'.good D;obtain⟨m',rfl⟩:∃m':Nat,mo=(m':Int):=⟨mo.toNat,⋯⟩;obtain⟨r',rfl⟩:∃r':Nat,r=(r':Int):=⟨r.toNat,⋯⟩;symm;refine⟨p,y,m',r',rfl,SqT.of hp,pF by',⋯,⋯,fun t et=>?_⟩;rw[xc,xc,<-(show cpl t=Z2 y m' r' from et)] at dt;symm;have s1:=s.trans s1;exists⟨x,dx,_,rfl,s1 _ _ hx,rfl,?_⟩;refine Az (SqL.of (s1 _ _ hln)) hn ?_;have Z:=(Lg.s "date ").ap (Lg.w (N k) (NN.le k6));exists Lg.go Z fun zz Z=>?_;have Z:=Z.aps " ";exists Lg.go Z fun zz Z=>?_;refine⟨_,rfl,Ey sd,?_⟩;have Z:=Z.ap (.n sd);refine Lg.go Z fun zz Z=>?_;have e:=Z.eq (ABK ..).symm;clear Z;symm;refine⟨x,N,j,c,m,.date k d,yi (fun z=>[V.ref x,V.str z]) e,NN,r2 k6 sd,DK.same s1,lb,ct,ec,fun H2 s2=>?_⟩;rw[dt,FT];symm;exists IW rfl ?_;exact⟨s1.trans s2,_,_,rfl⟩
 ·rintro Z' H' ⟨s,v,w,rfl⟩;symm;exact q _ s
theorem RG:C0 135 "_law_no_cycle" ["_law_desk","_law_row"] (tE K ⟨Bl,BZ,BL,Ae,An,Bd,BV,[Bq,Ba,Ay,Aw,Bb]⟩):=by
 refine co' ["_law_desk","_law_row","_law_refused"] SX fun nd H vs Q E hr h=>?_;obtain⟨x,N,i,j,c,m,p,rfl,NN,hi,DK,lb,ok,ln,bad,q⟩:=h;obtain⟨dx,_,_,_,_,hx,_⟩:=id DK.ex;refine⟨_,(Ab (Aj 2 Gp)
  (Ab (JG (zT rfl rfl (fun _ _ _ T=>(Ad (Bv (HX T GC Ce (hr.mono nofun) (pv 0) (Aa (pv 1) Ac)))))
   (oU X7 rfl (fun _=>(Ad (Aj 2 Gp)))
   uX)))
  (Ad (Ak (pv 2))))),?_⟩
 symm;refine G9 (fun Z' H'=>BP H H'/\Z'=[some (.ref x),some (.str (sW ((Row.rule i p).T N))),some (.bl true)]) ?_ ?_
 rotate_left
 ·rintro Z' H1 ⟨s1,rfl⟩;symm;exact q _ s1
 symm;exists⟨x,dx,_,rfl,hx,rfl,?_⟩;refine⟨x,N,j,c,m,.rule i p,rfl,NN,r2 hi (PT.row_tx ok ln),DK,lb,ok,ln,.inr ⟨bad,fun H1 s1=>?_⟩⟩;intro ea hea;refine uK Ks ?_;exists fresh hea fun H2 s2 t2=>?_;exact⟨s1.trans s2,rfl⟩
theorem Ju:C0 135 "_law_put" ["_law_desk","_law_rows"] (yU K ⟨Bl,BZ,BL,Ae,An,Bd,BV,[Bq,Ba,Ay,Aw,Bb]⟩):=by
 refine co' ["_law_desk","_law_rows"] jJ fun nd H vs Q E hr h=>?_;obtain⟨x,l,N,Rs,j,c,c',m,m',rfl,NN,DK,lb,hl,st,q⟩:=h;exists⟨_,(Ad (Ak (Iw (za hr.units) (Gf rfl (GD ["_law_desk","_law_rows"] ["_law_desk","_law_rows"] rfl rfl (by with_unfolding_all rfl) ∅ rfl ∅ rfl ∅ (by walk_at"fm") (by with_unfolding_all rfl) (by with_unfolding_all rfl)) (HR (pv 1)) (fun _ _ _ _=>Ff) (fun _ _ _ _=>(HX (ta:=Iu 1) Fj GC Ce (hr.mono nofun) (pv 1) (Aa (pv 0) Ac)))) (Gf rfl (Gm ["_law_desk","_law_rows"] rfl ∅ rfl ∅ rfl ∅ ∅) (HR (pv 1)) (fun _ _ _ _=>Ff) (fun _ _ _ _=>Al)) (Ar _)))),?_⟩;exists Gv (QD ?_);refine⟨l,rfl,⟨_,SqL.of hl⟩,?_⟩;have n1:Rs.length<1000:=⋯;refine Kw Rq (Ei (by rw[js];lia)) (fun D i ys H2=>H2 D=some (.lst ys)/\Kd H H2/\ys=List.replicate i (.str "ok")/\∃ci mi,Dk K ⟨Bl,BZ,BL,Ae,An,Bd,BV,[Bq,Ba,Ay,Aw,Bb]⟩ N H2 x (j+i) ci mi/\U3 N (Rs.drop i) ci mi c' m') (fun D hD=>⟨Ai,Kd.of (BR hD _),rfl,c,m,DK.same (BR hD _),st⟩)
  (fun D i ys H2 _ ⟨h1,h2,h3,_⟩=>⟨h1,by rw[h3,Zs];exact qg _,SqL.of (h2.lst hl)⟩) (fun D i v ys H2 hD hv ⟨h1,h2,h3,ci,mi,DK2,st2⟩=>?_) (fun D ys H2 hD ⟨h1,h2,h3,ci,mi,DK2,st2⟩=>?_)
 ·rw[xa] at hv;obtain⟨R,hR,rfl⟩:=uu.mp hv;have il:=(zd.mp hR).1;obtain⟨c1,m1,st1,st3⟩:=st2.head hR;obtain⟨dx,_,_,_,_,hx,_⟩:=id DK2.ex;exists Jl (Gb ?_);exists⟨x,dx,_,rfl,hx,rfl,?_⟩;refine⟨x,N,j+i,ci,mi,R,rfl,NN,st1.ok,DK2,⋯,st1.say fun H3 k3 DK3=>?_⟩;have h4:=k3.lst h1;exact⟨h4,Ai,Kd.app hD (h2.trans k3),by rw[h3,List.replicate_succ'],c1,m1,DK3.but h4 But.upd,st3⟩
 ·rw[js] at h3 DK2 st2;rw[List.drop_length] at st2;cases st2;symm;exists Gv (QD ?_);have hl2:=h2.lst hl;refine⟨l,rfl,⟨_,SqL.of hl2⟩,?_⟩;refine Ld (Rq (xs:=Rs.map fun R=>V.str (sW (R.T N)))) (by rw[js];exact jm8 n1 nofun) (fun D' ys' hD'=>SqL.of (by rw[Ax (BX hl2 hD')];exact hl2)) (fun _=>true) (fun _=>V.str "ok") (fun v _ D ys Q' _ h=>Jl h) (fun v _ _ D ys Q' _ h=>h) (fun D' hD'=>?_);have e:((Rs.map fun R=>V.str (sW (R.T N))).filter fun _=>true).map (fun _=>V.str "ok")=List.replicate Rs.length (V.str "ok"):=by
   rw[jd5.mpr (fun _ _=>rfl),vk];exact List.map_const' ..
  rw[e];refine fresh hD' fun H5 s5 t5=>?_;rw[h3] at h1;refine⟨D,D',_,_,rfl,rfl,SqL.of (s5 _ _ h1),SqL.of t5,rfl,EqV.selfs (kx.mpr fun v hv=>by rw[List.eq_of_mem_replicate hv];rfl),?_⟩;exact q _ (h2.trans (Kd.of s5)) (DK2.same s5)
theorem Ur:C0 136 "_law_changed" ["_law_desk","_law_names","_law_some","_law_rules","_law_day","_law_number"] (yo K ⟨Bl,BZ,BL,Ae,An,Bd,BV,[Bq,Ba,Ay,Aw,Bb]⟩):=by
 refine co' ["_law_desk","_law_names","_law_some","_law_rules","_law_day","_law_number","_law_row","_law_other"] VP fun nd H vs Q E hr h=>?_;obtain⟨x,A,N,j,c,m,B,rfl,NN,DK,lb,O,hls,C0,e0,e5,LC,LN,q⟩:=h;have sk:=LN.sk;have sd:=LN.sd;refine⟨_,(Ab (Aj 6 (Af Av (Af Av (Af Av (Af Av (Af Av (Af Av (Af Av Al (pxL 1)) Al) (pxL 1)) Al) (pxL 1)) Al) (Bm Bf rfl Ex qr (Aa (pv 5) Ac)))) (Ab (BW (Dv (Cz (Ah Ju (Aa (pv 0) (Aa (Ea (Aa (pv 6) (Aa (Af Av (Af Av Al (pxL 1)) Al) Ac))) Ac))))) (Ad (Ak Gp)) Ao) (Ab (TX (GK G3 (Aa (pxL 2) (Aa (pxL 2) (Aa (pv 5) Ac)))) (Td (pv 2) Ag set_list)) (Ab (BW (Dv (Cz (Ah RG (Aa (pv 0) (Aa (Af Av (Af Av (Af Av (Af Av Al (pxL 1)) Al) (pxL 1)) Al) Ac))))) (Ad (Ak Gp)) Ao) (Ab (BW (PW.pt (HW (Dv (Cz (Ah Ed (Aa (pv 0) (Aa (pv 1) (Aa (Cu Fp (pv 2) Ef (Dm Ag)) (Aa (pv 4) Ac))))))) (Fx (Dv (Cz (Ah Ed (Aa (pv 0) (Aa (pv 1) (Aa (Cu Fp (pv 2) Ef (Dm Ag)) (Aa (pv 5) Ac)))))))))) (Ad (Ak Gp)) Ao) (Ab (BW (PW.pt (HW (Dv (Cz (Ah Cv (Aa (pv 0) (Aa (pxL 1) (Aa (pxL 3) (Aa (pv 4) Ac))))))) (Fx (Dv (Cz (Ah Cv (Aa (pv 0) (Aa (pxL 1) (Aa (pxL 3) (Aa (pv 4) Ac)))))))))) (Ad (Ak Gp)) Ao) (Ab (Aj 7 (Fb Fj JB (hr.mono nofun) rfl (Aa (Af Av Al (Bm Bf rfl Ex qr (Aa (pv 4) Ac))) (Aa Tg Ac)))) (Ab (BW (Dv (Cz (Ah Ju (Aa (pv 0) (Aa (Ea (Aa (Af Av (Af Av (Af Av Al (pxL 1)) Al) (Bm Bf rfl Ex qr (Aa (pv 4) Ac))) Ac)) Ac))))) (Ad (Ak Gp)) Ao) (Ad (Ak (Ti (Ah Cv (Aa (pv 0) (Aa (pxL 1) (Aa (pv 7) (Aa (pv 5) Ac))))) (Xe (Ah Cv (Aa (pv 0) (Aa (pxL 1) (Aa (pxL 3) (Aa (pv 5) Ac))))))))))))))))),?_⟩
 symm;refine Az (SqL.of O.n) (FQ (i:=0) nofun) ?_;have Z:=(Lg.s "change ").ap (Lg.w (N 0) (NN.le nofun));exists Lg.go Z fun zz Z=>?_;have Z:=Z.aps " ";exists Lg.go Z fun zz Z=>?_;refine Az (SqL.of O.n) (FQ (i:=0) nofun) ?_;have Z:=Z.ap (Lg.w (N 0) (NN.le nofun));exists Lg.go Z fun zz Z=>?_;have Z:=Z.aps " ";exists Lg.go Z fun zz Z=>?_;refine Az (SqL.of O.n) (FQ (i:=5) nofun) ?_;have Z:=Z.ap (Lg.w (N 5) (NN.le nofun));exists Lg.go Z fun zz Z=>?_;have Z:=Z.aps " ";exists Lg.go Z fun zz Z=>?_;refine⟨_,rfl,Ey sk,?_⟩;have Z:=Z.ap (.n sk);refine Lg.go Z fun row Z=>?_;have eR:=Z.eq (xu N 0 0 5 B.k).symm;clear Z;symm;refine Az (SqL.of O.n) (FQ (i:=0) nofun) ?_;have Z:=(Lg.s "rule ").ap (Lg.w (N 0) (NN.le nofun));exists Lg.go Z fun zz Z=>?_;have Z:=Z.aps " all";refine Lg.go Z fun zz Z=>?_;have eS:=Z.eq (ACs N 0);clear Z;symm;refine⟨(by show 2<=sizeLine;decide),fun l hl=>?_⟩;refine fresh hl fun H1 s1 t1=>?_;subst eR eS;have ST:U3 N [.chg 0 0 5 B.k,.rule 0 .lf] c m (setM c 0 (.chg (shp B.a (B.s+3)) (shp B.a (B.s-2000)) B.k)) (setM m 0 (shp B.a B.s,.lf)):=.cons (.chg nofun nofun nofun sk e0 e5 (Rc LN.s3 LN.s2 (f:=2003) ⋯ nofun)) (.cons (.rule nofun trivial nofun trivial (by show(1:Int)<=150000;decide)) .nil);symm;refine⟨x,l,N,[.chg 0 0 5 B.k,.rule 0 .lf],j,c,_,m,_,rfl,NN,DK.same s1,(by show j+2<=50;lia),t1,ST,fun H2 k2' DK2=>?_⟩;have O2:=(O.same s1).kd k2';have C02:=(C0.same s1).kd k2';have hls2:=k2'.lst (s1 _ _ hls);clear ST DK;symm;exists Dp ?_;exists Az (SqL.of hls2) FP ?_;exists Az (SqL.of hls2) wJ ?_;refine fun w' dw hw hdw ne=>⟨H2,w',dw,A.y0,A.y3,_,_,B.k,rfl,hw,hdw,ne,rfl,C02,O2.c3,(JP sk).mono nofun,Rc LN.s3 LN.s2 (f:=2003) ⋯ nofun,fun H3 s3 S3=>⟨rfl,?_⟩⟩;clear hw hdw ne;symm;have hls3:=s3 _ _ hls2;refine NQ (k:=0) hls3 (by show 0<4;decide) ?_;have O4:=(O2.same s3).but hls3 (But.upd (o:=.lst [.ref w',.ref A.y1,.ref A.y2,.ref A.y3]));have D4:=(DK2.same s3).but hls3 (But.upd (o:=.lst [.ref w',.ref A.y1,.ref A.y2,.ref A.y3]));have C4:=EY.but hls3 (But.upd (o:=.lst [.ref w',.ref A.y1,.ref A.y2,.ref A.y3])) S3;have t4:upd H3 A.ls (.lst [.ref w',.ref A.y1,.ref A.y2,.ref A.y3]) A.ls=some (.lst [.ref w',.ref A.y1,.ref A.y2,.ref A.y3]):=Ai;rw[show ([V.ref A.y0,.ref A.y1,.ref A.y2,.ref A.y3]:List V).set 0 (.ref w')=[.ref w',.ref A.y1,.ref A.y2,.ref A.y3] from rfl];generalize upd H3 A.ls (.lst [.ref w',.ref A.y1,.ref A.y2,.ref A.y3])=H4 at O4 D4 C4 t4 ⊢;clear O O2 DK2 C0 C02 S3 s1 s3 k2' hls hls2 hls3 t1;symm;refine Az (SqL.of O4.n) (FQ (i:=3) nofun) ?_;have Z:=(Lg.s "rule ").ap (Lg.w (N 3) (NN.le nofun));exists Lg.go Z fun zz Z=>?_;have Z:=Z.aps " (all but date ";exists Lg.go Z fun zz Z=>?_;refine Az (SqL.of O4.n) (FQ (i:=0) nofun) ?_;have Z:=Z.ap (Lg.w (N 0) (NN.le nofun));exists Lg.go Z fun zz Z=>?_;have Z:=Z.aps " 1 1)";refine Lg.go Z fun zz Z=>?_;have e:=Z.eq (ACr N 3);clear Z;symm;have s1:PT.okS (some 1):=fun i h=>by cases h;exact sm1 nofun nofun
 refine⟨x,N,3,j+2,_,_,_,yi (fun z=>[V.ref x,V.str z]) e,NN,nofun,D4,⋯,⟨trivial,NN.nm 0 nofun,s1,s1,fun i h=>by cases h;decide,nofun,∅,∅⟩,(by show 1+1+(0+0+1)<=40;decide),⟨rfl,_,_,_,0,nofun,rfl,rfl⟩,fun H5 s5=>?_⟩;clear e s1;have O5:=O4.same s5;have D5:=D4.same s5;have C5:=C4.same s5;have t5:=s5 _ _ t4;clear O4 D4 C4 t4 s5;symm;exists Dp ?_;refine Gu (SqL.of t5) fun u hu=>?_;rw[show Iv ([.ref w',.ref A.y1,.ref A.y2,.ref A.y3]:List V) none (some 3)=[.ref w',.ref A.y1,.ref A.y2] from rfl];exists fresh hu fun H6 s6 t6=>?_;refine⟨x,A.ln,u,[w',A.y1,A.y2],N,j+2,_,_,B.d,rfl,NN,D5.same s6,⋯,(O5.same s6).n,t6,(by show 3<=3;decide),nH rfl LC.e1 LC.e2 (C5.same s6) (O5.same s6).c1 (O5.same s6).c2,sd,fun H7 s7=>?_⟩;have s7:=s6.trans s7;exists⟨_,rfl,Dp ?_⟩;refine Gu (SqL.of (s7 _ _ t5)) fun u' hu'=>?_;rw[show Iv ([.ref w',.ref A.y1,.ref A.y2,.ref A.y3]:List V) none (some 3)=[.ref w',.ref A.y1,.ref A.y2] from rfl];refine fresh hu' fun H8 s8 t8=>?_;have s8:=s7.trans s8;symm;refine⟨x,A.ln,u',[w',A.y1,A.y2],N,j+2,_,_,B.k,rfl,NN,D5.same s8,⋯,(O5.same s8).n,t8,(by show 3<=3;decide),nH rfl LC.e1 LC.e2 (C5.same s8) (O5.same s8).c1 (O5.same s8).c2,sk,fun H9 s9=>?_⟩;refine⟨_,rfl,Dp ?_⟩;have O9:=O5.same (s8.trans s9);have D9:=D5.same (s8.trans s9);clear O5 D5 C5 t5 s6 t6 s7 s8 t8 s9 hu hu';symm;exists Az (SqL.of O9.n) (FQ (i:=3) nofun) ?_;exists Az (SqL.of O9.r) FP ?_;refine⟨x,A.r0,N,3,j+2,_,_,B.g0,B.p,B.d,rfl,NN,nofun,D9,⋯,LC.m3,O9.t0,LN.ok,LN.ln,sd,LN.sd2,fun Ha sa=>?_⟩;exists⟨_,rfl,Dp ?_⟩;exists Az (SqL.of (O9.same sa).n) (FQ (i:=4) nofun) ?_;exists Az (SqL.of (O9.same sa).r) K5 ?_;refine⟨x,A.r1,N,4,j+2,_,_,B.g1,B.p,B.d,rfl,NN,nofun,D9.same sa,⋯,LC.m4,(O9.same sa).t1,LN.ok,LN.ln,sd,LN.sd2,fun Hb sb=>?_⟩;refine⟨_,rfl,Dp ?_⟩;have Ob:=O9.same (sa.trans sb);have Db:=D9.same (sa.trans sb);clear O9 D9 sa sb;symm;refine⟨_,rfl,Ey sd,?_⟩;have Z:=(Lg.s "each 3 from ").ap (.n sd);refine Lg.go Z fun zz Z=>?_;have e:=Z.eq (ADl B.d);subst e;clear Z;symm;intro dd hdd;exists fresh hdd fun Hc sc tc=>?_;refine⟨dd,.each 3 B.d,fun _ _=>False,rfl,qL sd,(by show 1+0<=40;decide),⟨.inl ⟨shp B.a B.s,trivial,(by show(3:Int)<=150000;decide),fun y Hd' sd' T=>?_⟩⟩,⟨[],tc,fun _ _ h=>h.elim⟩⟩;have Od:=Ob.same (sc.trans sd');have Dd:=Db.same (sc.trans sd');clear Ob Db sc tc hdd;symm;refine Az (SqL.of Od.n) (FQ (i:=3) nofun) ?_;have Z:=(Lg.s "rule ").ap (Lg.w (N 3) (NN.le nofun));exists Lg.go Z fun zz Z=>?_;have Z:=Z.aps " each 3 from ";exists Lg.go Z fun zz Z=>?_;refine⟨_,rfl,Ey sd,?_⟩;have Z:=Z.ap (.n sd);refine Lg.go Z fun zz Z=>?_;have e:=Z.eq (ABJ N 3 B.d);subst e;clear Z;symm;refine⟨(by show 1<=sizeLine;decide),fun l2 hl2=>?_⟩;refine fresh hl2 fun He se te=>?_;have ST:U3 N [.rule 3 (.each 3 B.d)] (setM c 0 (.chg (shp B.a (B.s+3)) (shp B.a (B.s-2000)) B.k)) (setM m 0 (shp B.a B.s,.lf)) _ (setM (setM m 0 (shp B.a B.s,.lf)) 3 (shp B.a B.s,(PT.each 3 B.d).nrm)):=.cons (.rule nofun (qL sd) (by show 1+0<=40;decide) trivial (by show(3:Int)<=150000;decide)) .nil;symm;refine⟨x,l2,N,[.rule 3 (.each 3 B.d)],j+2,_,_,_,_,rfl,NN,Dd.same se,(by show j+2+1<=50;lia),te,ST,fun Hf kf Df=>?_⟩;have Of:=(Od.same se).kd kf;have Tf:=(T.same se).kd kf;clear ST Od Dd T se te kf hl2;symm;exists Dp ?_;exists Az (SqL.of Of.n) (FQ (i:=3) nofun) ?_;refine⟨x,y,N,3,j+2+1,_,_,shp B.a B.s,(PT.each 3 B.d).nrm,B.k,rfl,NN,nofun,Df,⋯,rfl,Tf,PT.nrm_ok (qL sd),(by show 1+0<=40;decide),sk,LN.sk2,fun Hg sg'=>?_⟩;symm;exists Gb ?_;exists Az (SqL.of (Of.same sg').n) (FQ (i:=4) nofun) ?_;exists Az (SqL.of (Of.same sg').r) K5 ?_;refine⟨x,A.r1,N,4,j+2+1,_,_,B.g1,B.p,B.k,rfl,NN,nofun,Df.same sg',⋯,LC.m4,(Of.same sg').t1,LN.ok,LN.ln,sk,LN.sk2,fun Hh sh=>?_⟩;exact q _
theorem yu:Cm ["_law_script","_law_names","_law_day","_law_number","_law_start","_law_first","_law_late","_law_again","_law_last","_law_text","_law_some","_law_rules","_law_desk","_law_rows"] ["_law_script"] (BK fJ):=by walk_at"s"
theorem zc(F:Fun K "law" "law" fJ f fd):F0 137 f fd ["_law_script"] (eZ K):=by
 refine F.ok (k:=136) yu (fun h=>?_) fun nd H vs Q E hr h=>?_
 ·obtain⟨a,ns,rfl,_⟩:=h;rfl
 obtain⟨a,ns,rfl,hS,h63,hB,q⟩:=h;refine⟨_,(Ab (cD (i:=1) nd rfl (by walk_at"o") rfl (GD ["_law_script","_law_names","_law_day","_law_number","_law_start","_law_first","_law_late","_law_again","_law_last","_law_text","_law_some","_law_rules","_law_desk","_law_rows"] ["_law_script","_law_names","_law_day","_law_number","_law_start","_law_first","_law_late","_law_again","_law_last","_law_text","_law_some","_law_rules","_law_desk","_law_rows"] rfl rfl (by with_unfolding_all rfl) ∅ rfl ∅ rfl ∅ (by walk_at"fm") (by with_unfolding_all rfl) (by with_unfolding_all rfl)) (JQ rfl Je (Aa Ag Ac)) (fun _ _ _ _=>Ff) (fun _ _ _ _=>(Ah aM (Aa (Ah Cw (Aa (pv 1) (Aa (pv 0) Ac))) (Aa (Et Xx Al (pv 0) (fun _ _=>rfl)) Ac)))))
  (Ab (Aj 2 (Af Ci (Af DN (Ah Cw (Aa (pv 0) (Aa Ag Ac))) (Af Ka Ag Ag)) (Af DY Ag (Af Ka Ag Ag))))
  (Ab (Aj 3 (Af Ci (Af DN (Ah Cw (Aa (pv 0) (Aa Ag Ac))) (Af Ka Ag Ag)) (Af DY Ag (Af Ka Ag Ag))))
  (Ab (Aj 4 (Af Ci (Af DN (Ah Cw (Aa (pv 0) (Aa Ag Ac))) (Af Ka Ag Ag)) (Af DY Ag (Af Ka Ag Ag))))
  (Ab (Aj 5 (Ah En (Aa (Ah Cw (Aa (pv 0) (Aa Ag Ac))) (Aa (pv 4) Ac))))
  (Ab (Aj 6 (Ah En (Aa (Ah Cw (Aa (pv 0) (Aa Ag Ac))) (Aa (Af Ci (pv 4) Ag) Ac))))
  (Ab (Aj 7 (Ah En (Aa (Ah Cw (Aa (pv 0) (Aa Ag Ac))) (Aa (Af Bx (pv 4) Ag) Ac))))
  (Ab (Aj 8 (Ah En (Aa (Ah Cw (Aa (pv 0) (Aa Ag Ac))) (Aa (Af Ci (pv 4) Ag) Ac))))
  (Ab (Aj 9 (Ah Pn (Aa (Ah Cw (Aa (pv 0) (Aa Ag Ac))) (Aa (pxL 1) Ac))))
  (Ab (Aj 10 (Ea (Aa (Ah Ej (Aa (pv 5) Ac)) (Aa (Ah Ej (Aa (pv 6) Ac)) (Aa Gw (Aa (Ah Ej (Aa (pv 8) Ac)) Ac))))))
  (Ab (TX (GK G3 (Aa (pxL 10) (Aa (pxL 10) (Aa (pv 3) Ac)))) (Td (pv 10) Ag set_list))
  (Ab (Aj 11 (Ea (Aa (Fb Fj JB (hr.mono nofun) rfl (Aa (pv 9) (Aa (gB (Zf (pxL 1) (pxL 10) fY) rfl rfl (by simp) nofun) Ac))) Ac)))
  (Ab (Bv (GP vc jf3 jf4 JS (pv 11) (Aa (Fb Fj JB (hr.mono nofun) rfl (Aa (pv 9) (Aa (gB (Zf (pxL 1) (Ah Ej (Aa (pv 7) Ac)) fY) rfl rfl (by simp) nofun) Ac))) Ac)))
  (Ab (Aj 12 (cI RQ (hr.mono nofun) rfl))
  (Ab (Aj 13 (Ea (Aa (Af Av (Af Av (Af Av Al (pxL 1)) Al) (pv 5)) (Aa (Af Av (Af Av (Af Av Al (pxL 1)) Al) (pv 6)) Ac))))
  (Ab (Bv (GP vc jf3 jf4 JS (pv 13) (Aa (Af Av (Af Av (Af Av (Af Av (Af Av (Af Av (Af Av Al (pxL 1)) Al) (pxL 1)) Al) (pxL 1)) Al) (Bm Bf rfl Ex qr (Aa (pv 3) Ac))) Ac)))
  (Ab (Bv (GP vc jf3 jf4 JS (pv 13) (Aa (Af Av (Af Av (Af Av Al (pxL 1)) Al) (pv 9)) Ac)))
  (Ab (BW (Dv (Cz (Ah Ju (Aa (pv 12) (Aa (Af cQ (pv 13) (Ea (Aa (Af Av (Af Av (Af Av Al (pxL 1)) Al) (pv 8)) Ac))) Ac)))))
   (Ad (Ak Gp))
   Ao)
  (Ab (BW (PW.pt (HW (Dv (Cz (Ah Cv (Aa (pv 12) (Aa (pxL 1) (Aa (pxL 11) (Aa (pv 2) Ac))))))) (Fx (Dv (Cz (Ah Ed (Aa (pv 12) (Aa (pv 1) (Aa (Cu Fp (pv 10) Ef (Dm Ag)) (Aa (pv 2) Ac))))))))))
   (Ad (Ak Gp))
   Ao)
  (Ab (BW (Dv (Cz (Ah Ju (Aa (pv 12) (Aa (Ea (Aa (Af Av (Af Av (Af Av Al (pxL 1)) Al) (pv 7)) (Aa (Af Av (Af Av (Af Av Al (pxL 1)) Al) (pv 9)) Ac))) Ac)))))
   (Ad (Ak Gp))
   Ao)
  (Ab (TX (Ah Ej (Aa (pv 7) Ac)) (Td (pv 10) Ag set_list))
  (Ab (BW (PW.pt (HW (Dv (Cz (Ah Cv (Aa (pv 12) (Aa (pxL 1) (Aa (pxL 11) (Aa (pv 2) Ac))))))) (Fx (Dv (Cz (Ah Cv (Aa (pv 12) (Aa (pxL 1) (Aa (pxL 11) (Aa (pv 2) Ac))))))))))
   (Ad (Ak Gp))
   Ao)
  (Ab (BW (PW.pt (HW (Dv (Cz (Ah Ed (Aa (pv 12) (Aa (pv 1) (Aa (Cu Fp (pv 10) Ef (Dm Ag)) (Aa (pv 2) Ac))))))) (Fx (Dv (Cz (Ah Ed (Aa (pv 12) (Aa (pv 1) (Aa (Cu Fp (pv 10) Ef (Dm Ag)) (Aa (pv 3) Ac))))))))))
   (Ad (Ak Gp))
   Ao)
  (Ad (Ak (Ah Ur (Aa (pv 12) (Aa (pv 1) (Aa (pv 10) (Aa (pv 11) (Aa (pv 2) (Aa (pv 3) Ac)))))))))))))))))))))))))))))))),?_⟩
 symm;exists Gv (XR ?_);refine⟨6,rfl,nofun,nofun,?_⟩;refine Kw lG (by rw[js,jb4];exact Ei nofun) (fun D i ys H2=>H2 D=some (.lst ys)/\BP H H2/\∃ws:List Wd,ys=ws.map (fun w=>V.str (sW w))/\ws.length=i/\∀n w,ws[n]?=some w->Lq w/\w.getLast?=some (97+n)) (fun D hD=>⟨Ai,BR hD _,[],rfl,rfl,fun n w h=>by simp at h⟩)
  (fun D i ys H2 _ ⟨h1,_,ws,h3,h5,_⟩=>⟨h1,by rw[h3,js];lia,trivial⟩) (fun D i x ys H2 hD hx ⟨h1,h2,ws,h3,h5,h6⟩=>?_) (fun D ys H2 hD ⟨h1,h2,ws,h3,h5,h6⟩=>?_)
 ·rw[xa] at hx;obtain⟨j,hj,rfl⟩:=uu.mp hx;have jl:j<6:=jm0.mp (xi hj);have ej:j=i:=by
   obtain⟨h,e⟩:=zd.mp hj;rw[List.getElem_range] at e;exact e.symm
  subst ej;refine Jl (Gb ?_);have hS2:=h2.seq hS;symm;rw[jh7];exists⟨a,ns,(j:Int),rfl,hS2,⋯,h63,?_⟩;have hat:atI (Str.ofString "abcdef").cps.toList (j:Int)=some (97+j):=(by ac_rfl:∀j<6,atI (Str.ofString "abcdef").cps.toList ((j:Nat):Int)=some (97+j)) j jl;refine⟨_,_,97+j,rfl,rfl,∅,hat,?_⟩;refine⟨_,97+j,rfl,⋯,⋯,fun w H5 s5 nw lw=>⟨s5 _ _ h1,Ai,Ez hD (h2.trans s5),ws++[w],by rw[h3,jb7];rfl,by rw[qq,h5];rfl,fun n v hv=>?_⟩⟩;rcases Nat.lt_or_ge n ws.length with c | c
  ·rw[je5 c] at hv;exact h6 n v hv
  ·rw[jc0 c] at hv;have e0:n-ws.length=0:=by
    by_cases z:n-ws.length=0
    ·exact z
    ·rw[jh9 (by show 1<=_;lia)] at hv;cases hv
   rw[e0] at hv;cases hv;have:n=j:=⋯;rw[this];exact⟨nw,lw⟩
 ·subst h3;rw[js,jb4] at h5;obtain⟨N,hN⟩:∃N:Nat->Wd,N=fun n=>ws.getD n []:=⟨_,rfl⟩;have eN:ws.map (fun w=>V.str (sW w))=nmV N:=by
   subst hN
   match ws,h5 with
   | [w0,w1,w2,w3,w4,w5],_=>rfl
  have gN:∀i<6,Lq (N i)/\(N i).getLast?=some (97+i):=fun i hi=>by
   have e:ws[i]?=some ws[i]:=zh ⋯;have:=h6 i _ e;rw[hN];show Lq (ws.getD i [])/\(ws.getD i []).getLast?=_;rw[yv,e];exact this
  have NN:Nms N:=⟨fun i hi=>(gN i hi).1,fun i hi j hj e=>by
   have h:=(gN i hi).2;rw[e,(gN j hj).2] at h;have:=xz h;lia⟩
  rw[eN] at h1;clear eN gN h6 hN h5;have hS2:=h2.seq hS;symm;exists Ep cm5 ?_;exists Ep cm5 ?_;exists Ep cm5 ?_;have bd:=qR (ns.getD (6:Int).toNat 0);have bk:=qR (ns.getD (7:Int).toNat 0);have bs:=qR (ns.getD (8:Int).toNat 0);generalize ns.getD (6:Int).toNat 0%10^(40:Int).toNat-5*10^(39:Int).toNat=d at bd ⊢;generalize ns.getD (7:Int).toNat 0%10^(40:Int).toNat-5*10^(39:Int).toNat=k at bk ⊢;generalize ns.getD (8:Int).toNat 0%10^(40:Int).toNat-5*10^(39:Int).toNat=s at bs ⊢;have ss:Sm s:=Yz bs ⋯ ⋯;have s1:Sm (s-1000):=Yz bs ⋯ ⋯;have s3':Sm (s+3):=Yz bs ⋯ ⋯;have s2':Sm (s-2000):=Yz bs ⋯ ⋯;have sd:Sm d:=Yz bd ⋯ ⋯;have sd2:Sm (d+100):=Yz bd ⋯ ⋯;have sk:Sm k:=Yz bk ⋯ ⋯;have sk2:Sm (k+100):=Yz bk ⋯ ⋯;refine⟨_,_,rfl,ss,fun H3 u3=>?_⟩;have hS3:=u3.seq hS2;symm;refine⟨_,_,rfl,s1,fun H4 u4=>?_⟩;have hS4:=u4.seq hS3;symm;refine⟨_,_,rfl,s3',fun H5 u5=>?_⟩;have hS5:=u5.seq hS4;symm;refine⟨_,_,rfl,s2',fun H6 u6=>?_⟩;have hS6:=u6.seq hS5;have u6:=u3.trans (u4.trans (u5.trans u6));clear u3 u4 u5 hS3 hS4 hS5;have t1:=u6 _ _ h1;symm;exists Az (SqL.of t1) (FQ (i:=0) nofun) ?_;refine⟨_,N 0,rfl,NN.nm 0 nofun,fun p H7 u7 P=>?_⟩;have t1:=u7 _ _ t1;clear hS6 u6 h1;symm;exists⟨_,rfl,OkC.shp ss,fun y0 H8 u8 C0=>?_⟩;exists⟨_,rfl,OkC.shp s1,fun y1 H9 u9 C1=>?_⟩;exists⟨_,rfl,OkC.shp s2',fun y3 Ha ua C3=>?_⟩;refine⟨(by show 4<=sizeLine;decide),fun ls hls=>?_⟩;have t1a:=(u8.trans (u9.trans ua)) _ _ t1;have nl:ls≠D:=(BX t1a hls).symm;refine fresh hls fun Hb ub tb=>?_;have t1:=ub _ _ t1a;have C0:=Bw.same C0 (u9.trans (ua.trans ub));have C1:=Bw.same C1 (ua.trans ub);have C3:=Bw.same C3 ub;clear u7 u8 u9 ua ub t1a hls;symm;exists Az (SqL.of tb) FP ?_;exists Az (SqL.of tb) K5 ?_;refine fun w dw hw hdw ne=>⟨Hb,w,dw,y0,y1,_,_,k,rfl,hw,hdw,ne,rfl,C0,C1,(JP sk).mono nofun,Rc ss s1 (f:=1000) rfl nofun,fun Hc uc S=>⟨rfl,?_⟩⟩;clear hw hdw ne;have tc:=uc _ _ tb;symm;refine NQ (k:=2) tc (by show 2<4;decide) ?_;rw[show ([V.ref y0,.ref y1,.non,.ref y3]:List V).set 2 (.ref w)=[.ref y0,.ref y1,.ref w,.ref y3] from rfl];have bu:But ls Hc (upd Hc ls (.lst [.ref y0,.ref y1,.ref w,.ref y3])):=But.upd;have td:upd Hc ls (.lst [.ref y0,.ref y1,.ref w,.ref y3]) ls=some (.lst [.ref y0,.ref y1,.ref w,.ref y3]):=Ai;generalize upd Hc ls (.lst [.ref y0,.ref y1,.ref w,.ref y3])=Hd at bu td ⊢;have C0:EY K ⟨Bl,BZ,BL,Ae,An,Bd,BV,[Bq,Ba,Ay,Aw,Bb]⟩ Hd y0 (.one (shp (ns.getD (Int.toNat 9) 0) s)):=Bw.but (Bw.same C0 uc) tc bu;have C1:EY K ⟨Bl,BZ,BL,Ae,An,Bd,BV,[Bq,Ba,Ay,Aw,Bb]⟩ Hd y1 (.one (shp (ns.getD (Int.toNat 9) 0) (s-1000))):=Bw.but (Bw.same C1 uc) tc bu;have C2:=EY.but tc bu S;have C3:EY K ⟨Bl,BZ,BL,Ae,An,Bd,BV,[Bq,Ba,Ay,Aw,Bb]⟩ Hd y3 (.one (shp (ns.getD (Int.toNat 10) 0) (s-2000))):=Bw.but (Bw.same C3 uc) tc bu;have t1:=bu _ _ nl.symm (uc _ _ t1);clear bu uc tc tb S;symm;unfold wu;intro dd hdd;refine fresh hdd fun He ue te=>?_;unfold MT;symm;exists Az (SqL.of (ue _ _ t1)) (FQ (i:=0) nofun) ?_;exists Az (SqL.of (ue _ _ td)) FP ?_;unfold MT;refine⟨te,[(.inr (sW (N 0)),.ref y0)],rfl,(by show 1<=15;decide),?_⟩;have kd:=(Kd.of ue).trans (Kd.put te (kv':=GX [] [(.inr (sW (N 0)),.ref y0)]));have te:upd He dd (.dK (GX [] [(.inr (sW (N 0)),.ref y0)])) dd=some (.dK (GX [] [(.inr (sW (N 0)),.ref y0)])):=Ai;generalize upd He dd (.dK (GX [] [(.inr (sW (N 0)),.ref y0)]))=Hf at kd te ⊢;have C0:=C0.kd kd;have C1:=C1.kd kd;have C2:=C2.kd kd;have C3:=C3.kd kd;have t1:=kd.lst t1;have td:=kd.lst td;clear kd ue hdd;have sc:=(OkC.shp (c:=ns.getD (Int.toNat 9) 0) ss).cy;have M1:=P.kn (fun nm c=>nm=N 0/\c=.one (shp (ns.getD (Int.toNat 9) 0) s)) _ ⟨rfl,rfl⟩ sc;symm;refine⟨dd,p,_,rfl,P.ok,P.ln,⟨.inl ⟨_,M1.1,M1.2,fun r0 Hg ug T0=>?_⟩⟩,⟨_,te,fun nm c ⟨e1,e2⟩=>⟨y0,by rw[e1];exact du,by rw[e2];exact C0⟩⟩⟩;clear te M1;symm;have C0:=C0.same ug;have C1:=C1.same ug;have C2:=C2.same ug;have C3:=C3.same ug;have t1:=ug _ _ t1;have td:=ug _ _ td;clear ug;generalize ns.getD (Int.toNat 9) 0=ca at C0 C1 C2 C3 T0 sc ⊢;generalize ns.getD (Int.toNat 10) 0=cb at C3 ⊢;refine⟨(by show 1<=sizeLine;decide),fun lr hlr=>?_⟩;have nd:ls≠lr:=BX td hlr;have n1:D≠lr:=BX t1 hlr;refine fresh hlr fun Hh uh th=>?_;have C0:=C0.same uh;have C1:=C1.same uh;have C2:=C2.same uh;have C3:=C3.same uh;have T0:=T0.same uh;have t1:=uh _ _ t1;have td:=uh _ _ td;clear uh hlr;symm;exists PN rfl th ?_;intro dd hdd;have nr:lr≠dd:=BX th hdd;refine fresh hdd fun Hi ui ti=>?_;unfold MT;symm;exists Az (SqL.of (ui _ _ t1)) (FQ (i:=0) nofun) ?_;exists⟨_,rfl,OkC.shp s3',fun ya Hj uj Ca=>?_⟩;unfold MT;have ti:=uj _ _ ti;refine⟨ti,[(.inr (sW (N 0)),.ref ya)],rfl,(by show 1<=15;decide),?_⟩;have kd:=(Kd.of (ui.trans uj)).trans (Kd.put ti (kv':=GX [] [(.inr (sW (N 0)),.ref ya)]));have Ca:=EY.kd (c:=.one (shp cb (s+3))) (Kd.put ti (kv':=GX [] [(.inr (sW (N 0)),.ref ya)])) Ca;have te:upd Hj dd (.dK (GX [] [(.inr (sW (N 0)),.ref ya)])) dd=some (.dK (GX [] [(.inr (sW (N 0)),.ref ya)])):=Ai;generalize upd Hj dd (.dK (GX [] [(.inr (sW (N 0)),.ref ya)]))=Hk at kd te Ca ⊢;have C0:=C0.kd kd;have C1:=C1.kd kd;have C2:=C2.kd kd;have C3:=C3.kd kd;have T0:=T0.kd kd;have t1:=kd.lst t1;have td:=kd.lst td;have th:=kd.lst th;clear kd ui uj ti hdd nr;have sc':=(OkC.shp (c:=cb) s3').cy;have M2:=P.kn (fun nm c=>nm=N 0/\c=.one (shp cb (s+3))) _ ⟨rfl,rfl⟩ sc';symm;refine⟨dd,p,_,rfl,P.ok,P.ln,⟨.inl ⟨_,M2.1,M2.2,fun r1 Hl ul T1=>?_⟩⟩,⟨_,te,fun nm c ⟨e1,e2⟩=>⟨ya,by rw[e1];exact du,by rw[e2];exact Ca⟩⟩⟩;have C0:=C0.same ul;have C1:=C1.same ul;have C2:=C2.same ul;have C3:=C3.same ul;have T0:=T0.same ul;have t1:=ul _ _ t1;have td:=ul _ _ td;have th:=ul _ _ th;clear te M2 ul Ca;symm;refine bz th (by show 1<sizeLine;decide) ?_;rw[show ([V.ref r0]++[V.ref r1]:List V)=[.ref r0,.ref r1] from rfl];have bu:But lr Hl (upd Hl lr (.lst [.ref r0,.ref r1])):=But.upd;have tr:upd Hl lr (.lst [.ref r0,.ref r1]) lr=some (.lst [.ref r0,.ref r1]):=Ai;generalize upd Hl lr (.lst [.ref r0,.ref r1])=Hm at bu tr ⊢;have C0:=EY.but th bu C0;have C1:=EY.but th bu C1;have C2:=EY.but th bu C2;have C3:=EY.but th bu C3;have T0:=TrH.but th bu T0;have T1:=TrH.but th bu T1;have t1:=bu _ _ n1 t1;have td:=bu _ _ nd td;clear bu th;symm;intro x dx fx fd ne';refine⟨_,x,dx,N,rfl,fx,fd,ne',rfl,fun Hn un DK=>⟨rfl,?_⟩⟩;have O:LO K ⟨Bl,BZ,BL,Ae,An,Bd,BV,[Bq,Ba,Ay,Aw,Bb]⟩ N Hn ⟨D,ls,lr,y0,y1,w,y3,r0,r1⟩ ⟨cb,s,d,k,.one (shp ca (s-1000)),.chg (shp ca s) (shp ca (s-1000)) k,shp ca s,shp cb (s+3),p.nrm⟩:=LO.same ⟨t1,tr,nl,nd,C1,C2,C3,T0,T1⟩ un;have C0:=C0.same un;have td:=un _ _ td;clear fx fd ne' un tr C1 C2 C3 T0 T1 n1 nl nd t1;symm;refine Az (SqL.of O.n) (FQ (i:=0) nofun) ?_;have Z:=(Lg.s "calendar ").ap (Lg.w (N 0) (NN.le nofun));exists Lg.go Z fun zz Z=>?_;have Z:=Z.aps " ";exists Lg.go Z fun zz Z=>?_;have Z:=Z.ap (Lg.w _ (OkC.shp (c:=ca) ss).row_tx.1);refine Lg.go Z fun zz Z=>?_;have e:=Z.eq (iK N 0 (shp ca s)).symm;subst e;clear Z;symm;refine Az (SqL.of O.n) (FQ (i:=1) nofun) ?_;have Z:=(Lg.s "calendar ").ap (Lg.w (N 1) (NN.le nofun));exists Lg.go Z fun zz Z=>?_;have Z:=Z.aps " ";exists Lg.go Z fun zz Z=>?_;have Z:=Z.ap (Lg.w _ (OkC.shp (c:=ca) s1).row_tx.1);refine Lg.go Z fun zz Z=>?_;have e:=Z.eq (iK N 1 (shp ca (s-1000))).symm;subst e;clear Z;symm;refine⟨(by show 2<=sizeLine;decide),fun lw hlw=>?_⟩;exists fresh hlw fun Ho so tw=>?_;exists PN rfl tw ?_;refine Az (SqL.of (O.same so).n) (FQ (i:=2) nofun) ?_;have Z:=(Lg.s "change ").ap (Lg.w (N 2) (NN.le nofun));exists Lg.go Z fun zz Z=>?_;have Z:=Z.aps " ";exists Lg.go Z fun zz Z=>?_;refine Az (SqL.of (O.same so).n) (FQ (i:=0) nofun) ?_;have Z:=Z.ap (Lg.w (N 0) (NN.le nofun));exists Lg.go Z fun zz Z=>?_;have Z:=Z.aps " ";exists Lg.go Z fun zz Z=>?_;refine Az (SqL.of (O.same so).n) (FQ (i:=1) nofun) ?_;have Z:=Z.ap (Lg.w (N 1) (NN.le nofun));exists Lg.go Z fun zz Z=>?_;have Z:=Z.aps " ";exists Lg.go Z fun zz Z=>?_;refine⟨_,rfl,Ey sk,?_⟩;have Z:=Z.ap (.n sk);refine Lg.go Z fun zz Z=>?_;have e:=Z.eq (xu N 2 0 1 k).symm;subst e;clear Z;refine FW ?_;refine bz tw (by show 2<sizeLine;decide) ?_;have so:=Ez (o:=.lst [.str (sW ((Row.cal 0 (shp ca s)).T N)),.str (sW ((Row.cal 1 (shp ca (s-1000))).T N)),.str (sW ((Row.chg 2 0 1 k).T N))]) hlw so;have tw:upd Ho lw (.lst [.str (sW ((Row.cal 0 (shp ca s)).T N)),.str (sW ((Row.cal 1 (shp ca (s-1000))).T N)),.str (sW ((Row.chg 2 0 1 k).T N))]) lw=_:=Ai;rw[show ([.str (sW ((Row.cal 0 (shp ca s)).T N)),.str (sW ((Row.cal 1 (shp ca (s-1000))).T N))]++[.str (sW ((Row.chg 2 0 1 k).T N))]:List V)=[.str (sW ((Row.cal 0 (shp ca s)).T N)),.str (sW ((Row.cal 1 (shp ca (s-1000))).T N)),.str (sW ((Row.chg 2 0 1 k).T N))] from rfl];generalize upd Ho lw (.lst [.str (sW ((Row.cal 0 (shp ca s)).T N)),.str (sW ((Row.cal 1 (shp ca (s-1000))).T N)),.str (sW ((Row.chg 2 0 1 k).T N))])=Hp1 at so tw ⊢;symm;exists PN rfl tw ?_;refine Az (SqL.of (O.same so).n) (FQ (i:=3) nofun) ?_;have Z:=(Lg.s "rule ").ap (Lg.w (N 3) (NN.le nofun));exists Lg.go Z fun zz Z=>?_;have Z:=Z.aps " ";exists Lg.go Z fun zz Z=>?_;have Z:=Z.ap (Lg.w _ (PT.row_tx P.ok P.ln).1);refine Lg.go Z fun zz Z=>?_;have e:=Z.eq (U0 N 3 p).symm;subst e;clear Z;refine FW ?_;refine bz tw (by show 3<sizeLine;decide) ?_;have so:=Ez (o:=.lst [.str (sW ((Row.cal 0 (shp ca s)).T N)),.str (sW ((Row.cal 1 (shp ca (s-1000))).T N)),.str (sW ((Row.chg 2 0 1 k).T N)),.str (sW ((Row.rule 3 p).T N))]) hlw so;have tw:upd Hp1 lw (.lst [.str (sW ((Row.cal 0 (shp ca s)).T N)),.str (sW ((Row.cal 1 (shp ca (s-1000))).T N)),.str (sW ((Row.chg 2 0 1 k).T N)),.str (sW ((Row.rule 3 p).T N))]) lw=_:=Ai;rw[show ([.str (sW ((Row.cal 0 (shp ca s)).T N)),.str (sW ((Row.cal 1 (shp ca (s-1000))).T N)),.str (sW ((Row.chg 2 0 1 k).T N))]++[.str (sW ((Row.rule 3 p).T N))]:List V)=[.str (sW ((Row.cal 0 (shp ca s)).T N)),.str (sW ((Row.cal 1 (shp ca (s-1000))).T N)),.str (sW ((Row.chg 2 0 1 k).T N)),.str (sW ((Row.rule 3 p).T N))] from rfl];generalize upd Hp1 lw (.lst [.str (sW ((Row.cal 0 (shp ca s)).T N)),.str (sW ((Row.cal 1 (shp ca (s-1000))).T N)),.str (sW ((Row.chg 2 0 1 k).T N)),.str (sW ((Row.rule 3 p).T N))])=Hp2 at so tw ⊢;symm;refine Az (SqL.of (O.same so).n) (FQ (i:=5) nofun) ?_;have Z:=(Lg.s "calendar ").ap (Lg.w (N 5) (NN.le nofun));exists Lg.go Z fun zz Z=>?_;have Z:=Z.aps " ";exists Lg.go Z fun zz Z=>?_;have Z:=Z.ap (Lg.w _ (OkC.shp (c:=cb) s2').row_tx.1);refine Lg.go Z fun zz Z=>?_;have e:=Z.eq (iK N 5 (shp cb (s-2000))).symm;subst e;clear Z;symm;refine⟨(by show 1<=sizeLine;decide),fun lz hlz=>?_⟩;exists fresh hlz fun Hq uq tz=>?_;refine zL (uq _ _ tw) tz (by show 5<=sizeLine;decide) fun lq hlq=>?_;refine fresh hlq fun Hr ur tq=>?_;have sr:=so.trans (uq.trans ur);clear so tw uq tz ur hlz hlq hlw;have O:=O.same sr;have DK:=DK.same sr;have C0:=C0.same sr;have td:=sr _ _ td;clear sr;have ST:U3 N [.cal 0 (shp ca s),.cal 1 (shp ca (s-1000)),.chg 2 0 1 k,.rule 3 p,.cal 5 (shp cb (s-2000))] (fun _=>none) (fun _=>none) _ _:=.cons (.cal nofun (OkC.shp ss)) (.cons (.cal nofun (OkC.shp s1)) (.cons (.chg (g:=shp ca s) (g':=shp ca (s-1000)) nofun nofun nofun sk rfl rfl (Rc ss s1 (f:=1000) rfl nofun)) (.cons (.rule nofun P.ok P.ln (P.kn _ _ ⟨0,nofun,rfl,rfl⟩ sc).1 (P.kn (fun _ c=>c=.one (shp ca s)) _ rfl sc).2) (.cons (.cal nofun (OkC.shp s2')) .nil))));symm;refine⟨x,lq,N,[.cal 0 (shp ca s),.cal 1 (shp ca (s-1000)),.chg 2 0 1 k,.rule 3 p,.cal 5 (shp cb (s-2000))],0,_,_,_,_,rfl,NN,DK,(by show 0+5<=50;decide),tq,ST,fun Hs ks DK2=>?_⟩;have O:=O.kd ks;have C0:=C0.kd ks;have td:=ks.lst td;clear ST DK tq ks;symm;exists Dp ?_;exists Az (SqL.of O.n) (FQ (i:=3) nofun) ?_;exists Az (SqL.of O.r) FP ?_;refine⟨x,r0,N,3,0+5,_,_,shp ca s,p.nrm,d,rfl,NN,nofun,DK2,nofun,rfl,O.t0,PT.nrm_ok P.ok,(by have:=PT.nrm_same p;have:=P.ln;lia),sd,sd2,fun Ha sa=>?_⟩;exists⟨_,rfl,Dp ?_⟩;refine Gu (SqL.of (sa _ _ td)) fun u hu=>?_;rw[show Iv ([.ref y0,.ref y1,.ref w,.ref y3]:List V) none (some 3)=[.ref y0,.ref y1,.ref w] from rfl];refine fresh hu fun H6 s6 t6=>?_;have s6:=sa.trans s6;symm;refine⟨x,D,u,[y0,y1,w],N,0+5,_,_,d,rfl,NN,DK2.same s6,nofun,(O.same s6).n,t6,(by show 3<=3;decide),nH rfl rfl rfl (C0.same s6) (O.same s6).c1 (O.same s6).c2,sd,fun H7 s7=>?_⟩;have s7:=s6.trans s7;clear s6 t6 hu;refine⟨_,rfl,Dp ?_⟩;have O:=O.same s7;have DK:=DK2.same s7;have td:=s7 _ _ td;clear DK2 C0 s7 sa;symm;refine Az (SqL.of O.n) (FQ (i:=0) nofun) ?_;have Z:=(Lg.s "calendar ").ap (Lg.w (N 0) (NN.le nofun));exists Lg.go Z fun zz Z=>?_;have Z:=Z.aps " ";exists Lg.go Z fun zz Z=>?_;have Z:=Z.ap (Lg.w _ (OkC.shp (c:=cb) s3').row_tx.1);refine Lg.go Z fun zz Z=>?_;have e:=Z.eq (iK N 0 (shp cb (s+3))).symm;subst e;clear Z;symm;refine Az (SqL.of O.n) (FQ (i:=4) nofun) ?_;have Z:=(Lg.s "rule ").ap (Lg.w (N 4) (NN.le nofun));exists Lg.go Z fun zz Z=>?_;have Z:=Z.aps " ";exists Lg.go Z fun zz Z=>?_;have Z:=Z.ap (Lg.w _ (PT.row_tx P.ok P.ln).1);refine Lg.go Z fun zz Z=>?_;have e:=Z.eq (U0 N 4 p).symm;subst e;clear Z;symm;refine⟨(by show 2<=sizeLine;decide),fun lw hlw=>?_⟩;refine fresh hlw fun Hq uq tq=>?_;have O:=O.same uq;have DK:=DK.same uq;have td:=uq _ _ td;clear uq hlw;symm;refine⟨x,lw,N,[.cal 0 (shp cb (s+3)),.rule 4 p],0+5,_,_,_,_,rfl,NN,DK,(by show 0+5+2<=50;decide),tq,.cons (.cal nofun (OkC.shp s3')) (.cons (.rule nofun P.ok P.ln (P.kn _ _ ⟨0,nofun,rfl,rfl⟩ sc').1 (P.kn (fun _ c=>c=.one (shp cb (s+3))) _ rfl sc').2) .nil),fun Hs ks DK2=>?_⟩;have O:=O.kd ks;have td:=ks.lst td;clear DK tq ks;symm;exists Dp ?_;exists⟨_,rfl,OkC.shp s3',fun yb Ht ut Cb=>?_⟩;have td:=ut _ _ td;refine NQ (k:=0) td (by show 0<4;decide) ?_;rw[show ([V.ref y0,.ref y1,.ref w,.ref y3]:List V).set 0 (.ref yb)=[.ref yb,.ref y1,.ref w,.ref y3] from rfl];have O:=(O.same ut).but td (But.upd (o:=.lst [.ref yb,.ref y1,.ref w,.ref y3]));have DK:=(DK2.same ut).but td (But.upd (o:=.lst [.ref yb,.ref y1,.ref w,.ref y3]));have Cb:=EY.but (c:=.one (shp cb (s+3))) td (But.upd (o:=.lst [.ref yb,.ref y1,.ref w,.ref y3])) Cb;have td:upd Ht ls (.lst [.ref yb,.ref y1,.ref w,.ref y3]) ls=some (.lst [.ref yb,.ref y1,.ref w,.ref y3]):=Ai;generalize upd Ht ls (.lst [.ref yb,.ref y1,.ref w,.ref y3])=Hu at O DK Cb td ⊢;clear DK2 ut;have lp:p.nrm.lv+p.nrm.br<=40:=by have:=PT.nrm_same p;have:=P.ln;lia
  symm;exists Az (SqL.of O.n) (FQ (i:=3) nofun) ?_;exists Az (SqL.of O.r) FP ?_;refine⟨x,r0,N,3,0+5+2,_,_,shp ca s,p.nrm,d,rfl,NN,nofun,DK,nofun,rfl,O.t0,PT.nrm_ok P.ok,lp,sd,sd2,fun Ha sa=>?_⟩;exists⟨_,rfl,Dp ?_⟩;exists Az (SqL.of (O.same sa).n) (FQ (i:=4) nofun) ?_;exists Az (SqL.of (O.same sa).r) K5 ?_;refine⟨x,r1,N,4,0+5+2,_,_,shp cb (s+3),p.nrm,d,rfl,NN,nofun,DK.same sa,nofun,rfl,(O.same sa).t1,PT.nrm_ok P.ok,lp,sd,sd2,fun Hb sb=>?_⟩;refine⟨_,rfl,Dp ?_⟩;have sb:=sa.trans sb;symm;refine Gu (SqL.of (sb _ _ td)) fun u hu=>?_;rw[show Iv ([.ref yb,.ref y1,.ref w,.ref y3]:List V) none (some 3)=[.ref yb,.ref y1,.ref w] from rfl];refine fresh hu fun H6 s6 t6=>?_;have s6:=sb.trans s6;symm;refine⟨x,D,u,[yb,y1,w],N,0+5+2,_,_,d,rfl,NN,DK.same s6,nofun,(O.same s6).n,t6,(by show 3<=3;decide),nH rfl rfl rfl (Cb.same s6) (O.same s6).c1 (O.same s6).c2,sd,fun H7 s7=>?_⟩;have s7:=s6.trans s7;exists⟨_,rfl,Dp ?_⟩;refine Gu (SqL.of (s7 _ _ td)) fun u' hu'=>?_;rw[show Iv ([.ref yb,.ref y1,.ref w,.ref y3]:List V) none (some 3)=[.ref yb,.ref y1,.ref w] from rfl];refine fresh hu' fun H8 s8 t8=>?_;have s8:=s7.trans s8;symm;refine⟨x,D,u',[yb,y1,w],N,0+5+2,_,_,k,rfl,NN,DK.same s8,nofun,(O.same s8).n,t8,(by show 3<=3;decide),nH rfl rfl rfl (Cb.same s8) (O.same s8).c1 (O.same s8).c2,sk,fun H9 s9=>?_⟩;have s9:=s8.trans s9;refine⟨_,rfl,Dp ?_⟩;have O:=O.same s9;symm;refine⟨x,⟨D,ls,lr,yb,y1,w,y3,r0,r1⟩,N,0+5+2,_,_,⟨cb,s,d,k,.one (shp ca (s-1000)),.chg (shp ca s) (shp ca (s-1000)) k,shp ca s,shp cb (s+3),p.nrm⟩,rfl,NN,DK.same s9,nofun,⟨O.n,O.r,O.nn,O.nr,O.c1,O.c2,O.c3,O.t0,O.t1⟩,s9 _ _ td,Cb.same s9,rfl,rfl,⟨rfl,rfl,rfl,rfl⟩,⟨PT.nrm_ok P.ok,lp,s3',s2',sd,sd2,sk,sk2⟩,fun H'=>q _⟩
end
theorem AAu{w:World}{h:Heap}{mg:Str->Option Value}{fa:Addr}(X:(Hd.K w.params).In h)(G:h.Ns mainGlobals mg)(hfa:mg "law"=some (.ref fa))(Q:FnG (Hd.K w.params) "law" "law" "law" fJ):
 ∃fd:FuncData,(∀(s:Shared) (v:Value),BindsTo s fd ⟨[v],[]⟩ [("_law_script",v)])/\∀base:Heap,(Hd.K w.params).In base->base.Ns mainGlobals mg->Ds PySem.Challenge.rw_feastwheel_k85_names_put_again.prog w (Hd.K w.params) mg base CX0 137 fa fd ["_law_script"] (eZ (Hd.K w.params)):=by
 obtain⟨f,fd,a,F⟩:=Q;have e:=hfa.symm.trans (je2 X G a);cases e;refine⟨fd,?_,fun base X2 G2=>?_⟩
 ·obtain⟨_,_,_,_,_,_,_,_,_,rfl,_,_⟩:=F.ex;exact fun s v=>.of_eq rfl
 exact Classical.byContradiction fun hn=>have z:=jc1 (p:=fun d=>Gi d/\¬Ok d) ⟨⟨w,mg,base⟩,⟨X2,G2⟩,fun c=>hn (c F)⟩;z.2 fun F=>(haveI:Giv:=⟨z.1.X,z.1.G⟩;zc F)
end Fw
open PySem PySem.W PyProof.Rows
set_option maxRecDepth 100000 in
set_option maxHeartbeats 0 in
theorem PySem.Challenge.cw_feastwheel_k85_names_put_again_holds : PySem.Challenge.rw_feastwheel_k85_names_put_again.Holds := by
 refine Hd.ws fun said=>Hd.op said ?_;delta Hd.hk;k_fill;refine L2.lH (l:=PySem.Challenge.rw_feastwheel_k85_names_put_again) (k:=137) rfl rfl ⟨rfl,nofun,nofun,rfl⟩ (fun w h Y=>PySem.W.kIn_of Y) ?F
 case F=>
  intro w mg fa h KX G hmg;exact Fw.AAu KX G hmg (by refine' L2.qG ?_ ?_ ?_ ?_<;>first | k_is | skip)
#print axioms PySem.Challenge.cw_feastwheel_k85_names_put_again_holds
